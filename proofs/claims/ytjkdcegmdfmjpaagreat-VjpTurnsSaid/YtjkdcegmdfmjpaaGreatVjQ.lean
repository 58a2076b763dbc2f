import Derived.Test.YtjkdcegmdfmjpaaGreatTk
import Derived.Test.YtjkdcegmdfmjpaaGreatVjN
set_option maxHeartbeats 16000000
set_option maxRecDepth 100000
set_option linter.unusedVariables false
set_option linter.unusedSimpArgs false
namespace Go.Proofs.EvM
open Go.Proofs.ShM Go.Proofs.FixM Go.Proofs.GrM Go.Proofs.InM Go.Proofs.ImM
theorem n64_set {l : List Int} (h : N64 l) (k : Nat) {x : Int} (hx : In64 x) : N64 (l.set k x) := fun y hy => by
 rcases List.mem_or_eq_of_mem_set hy with h1 | h1
 ·exact h y h1
 ·rw [h1]; exact hx
theorem n64_foldG (f : Nat → Nat) : ∀ (d : List Int) (k : Nat) (zs : List Int), N64 zs → N64 (foldG f zs k d).1
 | [], _, zs, h => h
 | x :: d, k, zs, h => by
  unfold foldG
  split
  ·exact n64_foldG f d (k + 1) _ (n64_set h _ (in_add _ _))
  ·exact n64_nil
theorem n64_fold (g d s : List Int) : N64 (foldV g d s).2.1 := by
 unfold foldV
 split
 ·split
  ·split
   ·exact n64_foldG _ _ _ _ (n64_rep in_zero)
   ·exact n64_nil
  ·exact n64_nil
 ·exact n64_nil
theorem n64_foldR (r : Tn) (s : List Int) : N64 (foldR r s).2.1 := by
 unfold foldR
 split
 ·exact n64_fold _ _ _
 ·exact n64_nil
theorem in_nums (op a b : Int) : In64 (numsV op a b).1 := by
 unfold numsV
 split
 ·exact in_put _
 ·split
  ·exact in_put _
  ·split
   ·exact in_put _
   ·split
    ·exact in_div _ _
    ·exact in_zero
theorem n64_two (op : Int) (s xs g ys : List Int) : N64 (twoV op s xs g ys).2.1 := by
 unfold twoV
 split
 ·exact n64_nil
 ·split
  ·exact n64_nil
  ·split
   ·exact n64_nil
   ·split
    ·exact n64_mapE fun p _ => in_nums op p.1 p.2
    ·exact n64_nil
theorem n64_thenR (op : Int) (a : T) (r : Tn) : N64 (thenR op a r).2.1 := by
 unfold thenR
 split
 ·exact n64_two _ _ _ _ _
 ·exact n64_nil
theorem n64_andR (op : Int) (r : Tn) (a : T) : N64 (andR op r a).2.1 := by
 unfold andR
 split
 ·exact n64_two _ _ _ _ _
 ·exact n64_nil
theorem n64_neg (s xs : List Int) : N64 (oneV 20 s xs).2.1 := by
 unfold oneV
 split
 ·exact n64_nil
 ·split
  ·exact n64_nil
  ·split
   ·exact n64_mapE fun x _ => in_put _
   ·exact n64_nil
theorem n64_relu (a : List Int) {g : List Int} (h : N64 g) : N64 (reluG a g) := by
 unfold reluG
 refine n64_map fun p hp => ?_
 split
 ·exact h p.2 (List.of_mem_zip hp).2
 ·exact in_zero
theorem n64_pad {s xs : List Int} (h : N64 xs) (axis a side : Int) : N64 (padV s xs axis a side).2.1 := by
 unfold padV
 split
 ·exact n64_nil
 ·split
  ·exact n64_nil
  ·exact n64_moved h _ _ _
theorem n64_left (g xs t ys : List Int) : N64 (leftV g xs t ys).2.1 := by
 unfold leftV
 split
 ·exact n64_nil
 ·split
  ·exact n64_nil
  ·exact n64_mat _ _ _ _
theorem n64_right (g xs t ys : List Int) : N64 (rightV g xs t ys).2.1 := by
 unfold rightV
 split
 ·exact n64_nil
 ·split
  ·exact n64_nil
  ·exact n64_mat _ _ _ _
theorem n64_grow {s xs : List Int} (h : N64 xs) (axis n : Int) : N64 (growV s xs axis n).2.1 := by
 unfold growV
 split
 ·exact n64_nil
 ·split
  ·exact n64_nil
  ·exact n64_map fun _ _ => n64_getD h _
theorem n64_growR {r : Tn} (h : N64 r.2.1) (axis n : Int) : N64 (growR r axis n).2.1 := by
 unfold growR
 split
 ·exact n64_grow h _ _
 ·exact n64_nil
theorem n64_vjA (op : Int) (nums : List Int) (a b out : T) {g : T} (h : N64 g.2) : N64 (vjA op nums a b out g).2.1 := by
 unfold vjA
 repeat' split
 ·exact n64_fold _ _ _
 ·exact n64_foldR _ _
 ·exact n64_neg _ _
 ·exact n64_relu _ h
 ·exact n64_thenR _ _ _
 ·exact n64_thenR _ _ _
 ·exact n64_left _ _ _ _
 ·exact n64_reshape h _
 ·exact n64_turn h
 ·unfold vjX
  repeat' split
  ·exact n64_pad h _ _ _
  ·exact n64_slice h _ _ _
  ·exact n64_grow h _ _
  ·exact n64_growR (n64_two _ _ _ _ _) _ _
  ·exact n64_andR _ _ _
theorem n64_vjB (op : Int) (nums : List Int) (a b out : T) {g : T} (h : N64 g.2) : N64 (vjB op nums a b out g).2.1 := by
 unfold vjB
 repeat' split
 ·exact n64_fold _ _ _
 ·exact n64_foldR _ _
 ·exact n64_foldR _ _
 ·exact n64_foldR _ _
 ·exact n64_right _ _ _ _
 ·exact n64_slice h _ _ _
theorem n64_back (op : Int) (nums : List Int) (args : List T) (out : T) {g : T} (h : N64 g.2) : ∀ z ∈ (backV op nums args out g).1, N64 z.2 := by
 unfold backV
 repeat' split
 ·exact fun z hz => by cases hz
 ·exact fun z hz => by cases hz
 ·exact fun z hz => by cases hz
 ·exact fun z hz => by cases hz
 ·exact fun z hz => by cases hz
 ·intro z hz
  rw [List.mem_singleton.1 hz]
  exact n64_vjA _ _ _ _ _ h
 ·exact fun z hz => by cases hz
 ·intro z hz
  rcases List.mem_cons.1 hz with rfl | hz
  ·exact n64_vjA _ _ _ _ _ h
  ·rw [List.mem_singleton.1 hz]
   exact n64_vjB _ _ _ _ _ h
end Go.Proofs.EvM
