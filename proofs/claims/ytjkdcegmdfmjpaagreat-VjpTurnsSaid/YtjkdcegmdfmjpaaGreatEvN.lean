import Derived.Test.YtjkdcegmdfmjpaaGreatTk
import Derived.Test.YtjkdcegmdfmjpaaGreatEvM
set_option maxHeartbeats 16000000
set_option maxRecDepth 100000
set_option linter.unusedVariables false
set_option linter.unusedSimpArgs false
namespace Go.Proofs.EvM
open Go.Proofs.ShM Go.Proofs.FixM Go.Proofs.GrM Go.Proofs.InM Go.Proofs.ImM
def In64 (x : Int) : Prop := -9223372036854775808 ≤ x ∧ x ≤ 9223372036854775807
theorem in_zero : In64 0 := by unfold In64; omega
theorem n64_nil : N64 [] := fun x h => by cases h
theorem n64_getD {l : List Int} (h : N64 l) (i : Nat) : In64 (l.getD i 0) := by
 rw [List.getD_eq_getElem?_getD]
 cases e : l[i]? with
 | none => exact in_zero
 | some x => exact h x (List.mem_of_getElem? e)
theorem n64_map {α : Type} {f : α → Int} {l : List α} (h : ∀ x ∈ l, In64 (f x)) : N64 (l.map f) := fun x hx => by
 obtain ⟨y, hy, rfl⟩ := List.mem_map.1 hx
 exact h y hy
theorem n64_rep {n : Nat} {x : Int} (h : In64 x) : N64 (List.replicate n x) := fun y hy => by
 rw [List.eq_of_mem_replicate hy]
 exact h
theorem n64_mapE {α : Type} {f : α → Int × Int} {l : List α} (h : ∀ x ∈ l, In64 (f x).1) : N64 (mapE f l).1 := by
 unfold mapE
 split
 ·exact n64_map h
 ·exact n64_nil
theorem in_put (n : Int) : In64 (put n).1 := by
 rcases put_cases n with ⟨h1, h2, e⟩ | ⟨_, e⟩
 ·rw [e]; exact ⟨h1, h2⟩
 ·rw [e]; exact in_zero
theorem in_add (a b : Int) : In64 (addV a b).1 := in_put _
theorem in_div (a b : Int) : In64 (divV a b).1 := by
 unfold divV
 split
 ·exact in_zero
 ·exact in_put _
theorem in_at {s d : List Int} (h : N64 d) (t : List Int) : In64 (atV s d t).1 := by
 unfold atV
 split
 ·exact n64_getD h _
 ·exact in_zero
theorem in_dot (f g : Nat → Int) : ∀ k, In64 (dotV f g k).1
 | 0 => in_zero
 | k + 1 => by
  unfold dotV
  split
  ·exact in_dot f g k
  ·split
   ·exact in_zero
   ·exact in_add _ _
theorem in_tk {f : Int → Int → Int × Int} (hf : ∀ a b, In64 a → In64 b → In64 (f a b).1) : ∀ (l : List Int) (x : Int), In64 x → N64 l → In64 (tkL f x l).1
 | [], x, hx, _ => hx
 | y :: l, x, hx, hl => by
  rw [tk_cons]
  split
  ·exact in_tk hf l _ (hf x y hx (hl y List.mem_cons_self)) (fun z hz => hl z (List.mem_cons_of_mem _ hz))
  ·exact in_zero
theorem n64_line {s xs : List Int} (h : N64 xs) (a q : Nat) : N64 (lineL s xs a q) := n64_map fun _ _ => n64_getD h _
theorem n64_tog {f : Int → Int → Int × Int} (hf : ∀ a b, In64 a → In64 b → In64 (f a b).1) {x0 : Int} (h0 : In64 x0) {s xs : List Int} (h : N64 xs) (axis : Int) : N64 (togV f x0 s xs axis).2.1 := by
 unfold togV
 split
 ·exact n64_nil
 ·split
  ·exact n64_nil
  ·split
   ·exact n64_mapE fun q _ => in_tk hf _ _ h0 (n64_line h _ _)
   ·exact n64_nil
theorem n64_sum {s xs : List Int} (h : N64 xs) (axis : Int) : N64 (sumV s xs axis).2.1 := n64_tog (fun a b _ _ => in_add a b) in_zero h axis
theorem n64_max {s xs : List Int} (h : N64 xs) (axis : Int) : N64 (maxV s xs axis).2.1 :=
 n64_tog (fun a b ha hb => by unfold In64 at *; show _ ≤ max a b ∧ max a b ≤ _; omega) (by unfold In64; omega) h axis
theorem n64_mean {s xs : List Int} (axis : Int) : N64 (meanV s xs axis).2.1 := by
 unfold meanV
 split
 ·exact n64_map fun x _ => in_div _ _
 ·exact n64_nil
theorem n64_mat (s xs t ys : List Int) : N64 (matV s xs t ys).2.1 := by
 unfold matV
 split
 ·exact n64_nil
 ·split
  ·exact n64_nil
  ·split
   ·exact n64_mapE fun q _ => in_dot _ _ _
   ·exact n64_nil
theorem n64_reshape {s xs : List Int} (h : N64 xs) (g : List Int) : N64 (reshapeV s xs g).2.1 := by
 unfold reshapeV
 split
 ·exact n64_nil
 ·split
  ·exact h
  ·exact n64_nil
theorem n64_turn {s xs : List Int} (h : N64 xs) : N64 (turnV s xs).2.1 := by
 unfold turnV
 split
 ·exact n64_nil
 ·exact n64_map fun _ _ => in_at h _
theorem n64_moved {s xs : List Int} (h : N64 xs) (g : List Int) (k : Nat) (m : Int) : N64 (movedL s xs g k m) := n64_map fun _ _ => in_at h _
theorem n64_slice {s xs : List Int} (h : N64 xs) (axis a b : Int) : N64 (sliceV s xs axis a b).2.1 := by
 unfold sliceV
 split
 ·exact n64_nil
 ·split
  ·exact n64_nil
  ·exact n64_moved h _ _ _
theorem n64_glue {s xs t ys : List Int} (h : N64 xs) (g : N64 ys) (axis : Int) : N64 (glueV s xs t ys axis).2.1 := by
 unfold glueV
 split
 ·exact n64_nil
 ·split
  ·exact n64_nil
  ·refine n64_map fun i _ => ?_
   split
   ·exact n64_getD (n64_moved h _ _ _) _
   ·exact n64_getD (n64_moved g _ _ _) _
theorem n64_full {n : Int} (h : In64 n) (s : List Int) : N64 (fullV s n).2.1 := by
 unfold fullV
 split
 ·exact n64_rep h
 ·exact n64_nil
theorem n64_more {op : Int} {nums : List Int} {a b : T} (ha : N64 a.2) (hb : N64 b.2) : N64 (moreE op nums a b).1.2 := by
 unfold moreE
 split
 ·exact n64_mat _ _ _ _
 ·split
  ·exact n64_reshape ha _
  ·split
   ·exact n64_turn ha
   ·split
    ·exact n64_slice ha _ _ _
    ·split
     ·exact n64_glue ha hb _
     ·split
      ·exact n64_sum ha _
      ·split
       ·exact n64_mean _
       ·exact n64_max ha _
theorem n64_given {t : T} (h : N64 t.2) (s : List Int) : N64 (givenV t s).1.2 := by
 unfold givenV
 split
 ·exact h
 ·exact n64_nil
theorem n64_par {ps : List T} (h : ∀ t ∈ ps, N64 t.2) (p : Int) : N64 (parT ps p).2 := by
 unfold parT
 split
 ·rw [List.getD_eq_getElem?_getD]
  cases e : ps[p.toNat]? with
  | none => exact n64_nil
  | some x => exact h x (List.mem_of_getElem? e)
 ·exact n64_nil
theorem n64_at {ps : List T} (h : ∀ t ∈ ps, N64 t.2) (k : Nat) : N64 (ps.getD k eT).2 := by
 rw [List.getD_eq_getElem?_getD]
 cases e : ps[k]? with
 | none => exact n64_nil
 | some x => exact h x (List.mem_of_getElem? e)
theorem n64_node {op : Int} {nums : List Int} {ts : List T} {inp : T} {ps : List T} (h1 : ∀ t ∈ ts, N64 t.2) (h2 : N64 inp.2) (h3 : ∀ t ∈ ps, N64 t.2) (h4 : N64 nums) : N64 (nodeE op nums ts inp ps).1.2 := by
 unfold nodeE
 split
 ·exact n64_nil
 ·split
  ·unfold kindE
   split
   ·exact n64_given h2 _
   ·split
    ·exact n64_given (n64_par h3 _) _
    ·split
     ·exact n64_full (n64_getD h4 _) _
     ·split
      ·exact two_i64 _ _ _ _ _
      ·split
       ·exact one_i64 _ _ (n64_at h1 0)
       ·exact n64_more (n64_at h1 0) (n64_at h1 1)
  ·exact n64_nil
theorem tok_few {t : T} (h : tokT t = true) : t.1.length ≤ 100 ∧ t.2.length ≤ 100 ∧ N64 t.1 := by
 have h1 := Go.Proofs.ImM.tok_size h
 have h2 := (ok_iff.1 (Go.Proofs.ImM.tok_iff.1 h).1).2.1
 refine ⟨by omega, by omega, fun x hx => ?_⟩
 have h3 := List.all_eq_true.1 h2 x hx
 unfold sideB at h3
 simp at h3
 omega
end Go.Proofs.EvM
