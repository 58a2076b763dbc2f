/- Plain facts of layer 5: what a tensor is in another shape, turned, a part of it, a part laid back, two that are joined. -/
import Derived.Test.YtdjfjhanffliiaaTnAll
namespace Go.Proofs.ShM

def reshapeV (s xs g : List Int) : Tn := if tokV s xs = false then ([], [], 30) else if sizeV g = (xs.length : Int) then (g, xs, 0) else ([], [], 20)
/-- The numbers of a tensor that was turned. -/
def turnD (s xs : List Int) : List Int := (List.range xs.length).map fun i : Nat => (atV s xs (digs s.reverse i).reverse).1
def turnV (s xs : List Int) : Tn := if tokV s xs = false then ([], [], 30) else (s.reverse, turnD s xs, 0)
/-- An index with so many more at an axis. -/
def upL (x : List Int) (k : Nat) (m : Int) : List Int := x.set k (x.getD k 0 + m)
/-- The numbers of the shape g that stand, at each index, at that with m more at an axis. -/
def movedL (s xs g : List Int) (k : Nat) (m : Int) : List Int := (List.range (sizeV g).toNat).map fun i : Nat => (atV s xs (upL (digs g i) k m)).1
def sliceV (s xs : List Int) (axis a b : Int) : Tn :=
  if tokV s xs = false then ([], [], 30) else if axis < 0 ∨ (s.length : Int) ≤ axis ∨ a < 0 ∨ b ≤ a ∨ s.getD axis.toNat 0 < b then ([], [], 20) else
    (s.set axis.toNat (b - a), movedL s xs (s.set axis.toNat (b - a)) axis.toNat a, 0)
def padV (s xs : List Int) (axis a side : Int) : Tn :=
  if tokV s xs = false then ([], [], 30) else if axis < 0 ∨ (s.length : Int) ≤ axis ∨ a < 0 ∨ 16 < side ∨ side - s.getD axis.toNat 0 < a ∨ okS (s.set axis.toNat side) = false then ([], [], 20) else
    (s.set axis.toNat side, movedL s xs (s.set axis.toNat side) axis.toNat (-a), 0)
def bothL (s xs t ys h : List Int) (k : Nat) : List Int :=
  (List.range (sizeV h).toNat).map fun i : Nat => if (digs h i).getD k 0 < s.getD k 0 then (movedL s xs h k 0).getD i 0 else (movedL t ys h k (-(s.getD k 0))).getD i 0
def glueV (s xs t ys : List Int) (axis : Int) : Tn :=
  if tokV s xs = false ∨ tokV t ys = false then ([], [], 30) else if axis < 0 ∨ (s.length : Int) ≤ axis ∨ s.length ≠ t.length ∨ s.set axis.toNat 1 ≠ t.set axis.toNat 1 ∨ okS (s.set axis.toNat (s.getD axis.toNat 0 + t.getD axis.toNat 0)) = false then ([], [], 20) else
    (s.set axis.toNat (s.getD axis.toNat 0 + t.getD axis.toNat 0), bothL s xs t ys (s.set axis.toNat (s.getD axis.toNat 0 + t.getD axis.toNat 0)) axis.toNat, 0)

/-- A list laid the last number first, number by number. -/
theorem rev_step {l zs ys : List Int} {k : Nat} {x : Int} (h : zs = (l.drop (k + 1)).reverse) (hx : l[k]? = some x) (hy : ys = zs ++ [x]) : ys = (l.drop k).reverse := by
  rw [hy, h, drop_of hx]; simp
theorem rev_end {l zs : List Int} (h : zs = (l.drop 0).reverse) : zs = l.reverse := by simpa using h
theorem upL_len (x : List Int) (k : Nat) (m : Int) : (upL x k m).length = x.length := by unfold upL; simp
theorem moved_len (s xs g : List Int) (k : Nat) (m : Int) : (movedL s xs g k m).length = (sizeV g).toNat := by unfold movedL; simp
theorem turnD_len (s xs : List Int) : (turnD s xs).length = xs.length := by unfold turnD; simp
/-- What is told at an index that is none is 0. -/
theorem at_zero {s xs t : List Int} (h : (atV s xs t).2 ≠ 0) : (atV s xs t).1 = 0 := by
  unfold atV at *
  split
  · rename_i c; rw [if_pos c] at h; exact absurd rfl h
  · rfl

/-- A loop that appends what is told at each place. -/
def Ta (f : Nat → Int) (N k : Nat) (zs : List Int) : Prop := k ≤ N ∧ zs = (List.range k).map f
theorem ta_start (f : Nat → Int) (N : Nat) : Ta f N 0 [] := ⟨Nat.zero_le _, rfl⟩
theorem ta_len {f : Nat → Int} {N k : Nat} {zs : List Int} (h : Ta f N k zs) : zs.length = k := by rw [h.2]; simp
theorem ta_step {f : Nat → Int} {N k : Nat} {zs ys : List Int} {y : Int} (h : Ta f N k zs) (hk : k < N) (hy : f k = y) (e : ys = zs ++ [y]) : Ta f N (k + 1) ys := by
  refine ⟨hk, ?_⟩
  rw [e, h.2, List.range_succ, List.map_append, ← hy]; rfl
theorem ta_end {f : Nat → Int} {N k : Nat} {zs : List Int} (h : Ta f N k zs) (hk : ¬ k < N) : zs = (List.range N).map f := by
  have : k = N := by have := h.1; omega
  rw [← this]; exact h.2
end Go.Proofs.ShM
