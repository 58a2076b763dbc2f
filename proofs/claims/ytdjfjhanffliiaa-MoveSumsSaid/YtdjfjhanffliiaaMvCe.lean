/- A number's cell that is read behind further calls; plain facts of parts and of what is joined. -/
import Derived.Test.YtdjfjhanffliiaaMvAw
import Derived.Test.YtdjfjhanffliiaaMvP
import Derived.Deep.CutBlock
namespace Go.Proofs.ShM
theorem ok_part {s : List Int} (h : okS s = true) {k : Nat} {x y : Int} (hx : s[k]? = some x) (h1 : 1 ≤ y) (h2 : y ≤ x) : okS (s.set k y) = true := Go.Proofs.Ytdjfjhanffliiaa.ok_set h hx h1 h2
/-- Two parts of a side. -/
theorem slice_parts {s xs : List Int} {k : Nat} {m : Int} (h : tokV s xs = true) (hk : k < s.length) (h1 : 1 ≤ m) (h2 : m < s.getD k 0) :
    sliceV s xs k 0 m = (s.set k m, movedL s xs (s.set k m) k 0, 0) ∧ sliceV s xs k m (s.getD k 0) = (s.set k (s.getD k 0 - m), movedL s xs (s.set k (s.getD k 0 - m)) k m, 0) ∧
    glueV (s.set k m) (movedL s xs (s.set k m) k 0) (s.set k (s.getD k 0 - m)) (movedL s xs (s.set k (s.getD k 0 - m)) k m) k = (s, xs, 0) := by
  have hx : s[k]? = some (s.getD k 0) := by rw [List.getD, List.getElem?_eq_getElem hk]; rfl
  have p1 := slice_is (a := 0) (b := m) h hx (Int.le_refl _) (by omega) (by omega)
  rw [Int.sub_zero] at p1
  exact ⟨p1, slice_is h hx (by omega) (by omega) (Int.le_refl _), glue_parts h hk (by omega) h2 (ok_part (tok_len h).1 hx (by omega) (by omega)) (ok_part (tok_len h).1 hx (by omega) (by omega))⟩
/-- What was joined, and its two parts. -/
theorem glue_back {s xs t ys : List Int} {k : Nat} (h : (glueV s xs t ys k).2.2 = 0) :
    s.length = (glueV s xs t ys k).1.length ∧ (glueV s xs t ys k).1[k]? = some (s.getD k 0 + t.getD k 0) ∧
    sliceV (glueV s xs t ys k).1 (glueV s xs t ys k).2.1 k 0 (s.getD k 0) = (s, xs, 0) ∧ sliceV (glueV s xs t ys k).1 (glueV s xs t ys k).2.1 k (s.getD k 0) (s.getD k 0 + t.getD k 0) = (t, ys, 0) := by
  by_cases c1 : tokV s xs = false ∨ tokV t ys = false
  · unfold glueV at h; rw [if_pos c1] at h; simp at h
  by_cases c2 : (k : Int) < 0 ∨ (s.length : Int) ≤ k ∨ s.length ≠ t.length ∨ s.set (k : Int).toNat 1 ≠ t.set (k : Int).toNat 1 ∨ okS (s.set (k : Int).toNat (s.getD (k : Int).toNat 0 + t.getD (k : Int).toNat 0)) = false
  · unfold glueV at h; rw [if_neg c1, if_pos c2] at h; simp at h
  have h1 : tokV s xs = true := by
    cases e : tokV s xs with
    | true => rfl
    | false => exact absurd (.inl e) c1
  have h2 : tokV t ys = true := by
    cases e : tokV t ys with
    | true => rfl
    | false => exact absurd (.inr e) c1
  rw [Int.toNat_natCast] at c2
  have hk : k < s.length := by omega
  have hl : s.length = t.length := Classical.byContradiction fun e => c2 (.inr (.inr (.inl e)))
  have h3 : s.set k 1 = t.set k 1 := Classical.byContradiction fun e => c2 (.inr (.inr (.inr (.inl e))))
  have ho : okS (s.set k (s.getD k 0 + t.getD k 0)) = true := by
    cases e : okS (s.set k (s.getD k 0 + t.getD k 0)) with
    | true => rfl
    | false => exact absurd (.inr (.inr (.inr (.inr e)))) c2
  rw [glue_is h1 h2 hk hl h3 ho]
  dsimp only
  obtain ⟨g1, g2⟩ := glue_cut h1 h2 hk hl h3 ho
  exact ⟨by rw [List.length_set], List.getElem?_set_self hk, g1, g2⟩
end Go.Proofs.ShM
namespace Go.Proofs.Ytdjfjhanffliiaa
open Go.RowKit Go.Proofs.ShM
/-- The cell holds the number. -/
def Ce (W : World) (a : Addr) (v : Int) : Prop := W.cell? a = some (.int .i64 v) ∧ a.block < W.heap.size
theorem Ce.kp {W W' : World} {a : Addr} {v : Int} (h : Ce W a v) (k : Kp W W') : Ce W' a v := ⟨(k.cell h.2).trans h.1, Nat.lt_of_lt_of_le h.2 k.size⟩
theorem Ce.alloc_ {W : World} {a : Addr} {v : Int} (h : Ce W a v) (o : Obj) : Ce (W.alloc o) a v := h.kp (Kp.alloc_ _ _)
theorem ce_of {W : World} {A : Option Addr} {xs : List Int} {k : Nat} {v : Int} (h : Rd W A xs) (hx : xs[k]? = some v) : ∃ a, Hid (Ce W (a.add k) v) ∧ A = some a := by
  obtain ⟨a, x, e, hb, hx', hc⟩ := h.at_ (List.getElem?_eq_some_iff.1 hx).1
  obtain rfl : v = x := by rw [hx] at hx'; exact Option.some.inj hx'
  exact ⟨a, ⟨hc, by rw [block_of_add]; exact hb⟩, e⟩
end Go.Proofs.Ytdjfjhanffliiaa
