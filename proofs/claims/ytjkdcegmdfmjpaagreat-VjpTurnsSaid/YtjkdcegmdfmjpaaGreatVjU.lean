import Derived.Test.YtjkdcegmdfmjpaaGreatVjY
import Derived.Test.YtjkdcegmdfmjpaaGreatVjN
import Derived.Deep.RegionWith
import Derived.Deep.DeepCutAuto
import Derived.Deep.RegionHeld3
import Derived.Lib.Mul64
import Derived.Lib.BitFns
import Derived.Laws.CopyOwn
import Derived.Deep.RegionLaw
import Derived.RangeFuncNested
import Derived.RangeFuncBound
import Derived.RangeFuncCalls
import Derived.RangeFuncLeaves
import Derived.Shelf.Abstract
import Derived.Shelf.RegionOpen
import Derived.OwnWalkIn
import Derived.TacticsInMore
import Derived.LoopNIn
import Derived.LoopIn
import Derived.RangeFuncBox
import Derived.StillTailTactics
import Derived.BigQuiet
import Derived.Deep.QuietTactic
import Derived.ProofKit
import Derived.OpenShut
import Derived.Carry
import Derived.Lib.SmallJoins
import Derived.MapKept
import Derived.ChangeMaps5
import Derived.Maps.OwnOps
import Derived.Conc.MuLone
import Derived.Laws.EntriesVeiled
import Derived.Deep.CutRange
set_option maxHeartbeats 16000000
set_option maxRecDepth 100000
set_option linter.unusedVariables false
set_option linter.unusedSimpArgs false
namespace Go.Proofs.ShM
open Go.Proofs.FixM (addV put_in put_out put_cases)
theorem sg_zero (n : Nat) : sg n (fun _ => 0) = 0 := by
 induction n with
 | zero => rfl
 | succ n ih => simp only [sg, ih]; omega
theorem sg_mul (n : Nat) (F : Nat → Int) (c : Int) : sg n (fun i => F i * c) = sg n F * c := by
 induction n with
 | zero => simp [sg]
 | succ n ih => simp only [sg, ih]; rw [Int.add_mul]
theorem sg_one {n k : Nat} (hk : k < n) (c : Int) : sg n (fun j => if k = j then c else 0) = c := by
 induction n with
 | zero => omega
 | succ n ih =>
  simp only [sg]
  by_cases h : k = n
  ·subst h
   rw [sg_congr (G := fun _ => 0) fun i hi => if_neg (by omega), sg_zero]; simp
  ·rw [ih (by omega), if_neg h]; omega
theorem sg_rows (y P : Nat) (F : Nat → Int) : sg (y * P) F = sg y fun q => sg P fun r => F (q * P + r) := by
 induction y with
 | zero => simp [sg]
 | succ y ih => rw [Nat.succ_mul, sg_split, ih]; rfl
theorem src_count {s : List Int} : ∀ {g : List Int} {p : Int}, AL s g → g.all sideB = true → 0 ≤ p → p < prodS s → sg (prodS g).toNat (fun i => if srcP s g i = p then 1 else 0) * prodS s = prodS g := by
 induction s with
 | nil =>
  intro g p h _ h0 h1
  cases g with
  | nil =>
       simp [prodS] at h1 ⊢; have : p = 0 := by omega
       subst this; simp [sg, srcP]
  | cons _ _ => exact h.elim
 | cons x s ih =>
  intro g p h hg h0 h1
  cases g with
  | nil => exact h.elim
  | cons y g =>
   simp only [List.all_cons, Bool.and_eq_true] at hg
   have hP := prod_pos hg.2
   have hy := sideB_iff.1 hg.1
   have hQ : 1 ≤ prodS s := (srcP_in h.2 hg.2 (Int.le_refl 0) (by omega)).2.2
   have e1 : (prodS (y :: g)).toNat = y.toNat * (prodS g).toNat := by simp only [prodS]; rw [Int.toNat_mul (by omega) (by omega)]
   rw [e1, sg_rows]
   have hd : ∀ q r : Nat, r < (prodS g).toNat → ((q * (prodS g).toNat + r : Nat) : Int) / prodS g = q ∧ ((q * (prodS g).toNat + r : Nat) : Int) % prodS g = r := by
    intro q r hr
    have := lin_lt (P := prodS g) (q := q) (r := r) (x := (q : Int) + 1) hP (by omega) (by omega) (by omega) (by omega)
    have e : ((q * (prodS g).toNat + r : Nat) : Int) = (q : Int) * prodS g + r := by
     rw [Int.natCast_add, Int.natCast_mul, Int.toNat_of_nonneg (by omega)]
    rw [e]; exact ⟨this.2.2.1, this.2.2.2⟩
   obtain ⟨a, b, c, d⟩ := pos_of hQ h0 (by simpa [prodS] using h1)
   have hp := Int.mul_ediv_add_emod p (prodS s)
   rw [Int.mul_comm] at hp
   have hin := ih h.2 hg.2 c d
   by_cases hx : x = 1
   ·subst hx
    have hp0 : p / prodS s = 0 := by omega
    have e2 : (sg y.toNat fun q => sg (prodS g).toNat fun r => if srcP (1 :: s) (y :: g) ((q * (prodS g).toNat + r : Nat) : Int) = p then 1 else 0) =
      sg y.toNat fun _ => sg (prodS g).toNat fun r => if srcP s g r = p % prodS s then 1 else 0 := by
     refine sg_congr fun q _ => sg_congr fun r hr => ?_
     simp only [srcP, (hd q r hr).2, if_true, Int.zero_mul, Int.zero_add]
     rw [show p % prodS s = p by rw [hp0] at hp; omega]
    rw [e2]
    have e3 : ∀ (n : Nat) (c : Int), sg n (fun _ => c) = n * c := by
     intro n c
     induction n with
     | zero => simp [sg]
     | succ n ih => simp only [sg, ih, Int.natCast_succ, Int.add_mul, Int.one_mul]
    rw [e3]
    simp only [prodS, Int.one_mul]
    rw [Int.mul_assoc, hin, Int.toNat_of_nonneg (by omega)]
   ·have hxy : x = y := by
                rcases h.1 with e | e
                ·contradiction
                ·exact e
    subst hxy
    have e2 : (sg x.toNat fun q => sg (prodS g).toNat fun r => if srcP (x :: s) (x :: g) ((q * (prodS g).toNat + r : Nat) : Int) = p then 1 else 0) =
      sg x.toNat fun q => if (p / prodS s).toNat = q then (sg (prodS g).toNat fun r => if srcP s g r = p % prodS s then 1 else 0) else 0 := by
     refine sg_congr fun q hq => ?_
     have hs : ∀ r : Nat, r < (prodS g).toNat → srcP (x :: s) (x :: g) ((q * (prodS g).toNat + r : Nat) : Int) = q * prodS s + srcP s g r := by
      intro r hr
      simp only [srcP, (hd q r hr).1, (hd q r hr).2, if_neg hx]
     split
     ·refine sg_congr fun r hr => ?_
      rw [hs r hr]
      have hq' : (q : Int) = p / prodS s := by omega
      rw [hq']
      by_cases e : srcP s g r = p % prodS s
      ·rw [if_pos (by rw [e]; exact hp), if_pos e]
      ·rw [if_neg (by omega), if_neg e]
     ·rename_i hne
      refine (sg_congr (G := fun _ => 0) fun r hr => ?_).trans (sg_zero _)
      rw [hs r hr, if_neg]
      intro e
      obtain ⟨i1, i2, _⟩ := srcP_in (p := (r : Int)) h.2 hg.2 (by omega) (by omega)
      have := (lin_lt (q := (q : Int)) (x := (q : Int) + 1) hQ (by omega) (by omega) i1 i2).2.2.1
      rw [e] at this
      omega
    rw [e2, sg_one (by omega)]
    simp only [prodS]
    rw [Int.mul_comm x, ← Int.mul_assoc, hin, Int.mul_comm]
theorem count_src {s g : List Int} (h : fitsV s g = true) {p : Int} (h0 : 0 ≤ p) (h1 : p < prodS s) : sg (prodS g).toNat (fun i => if srcI s g i = p then 1 else 0) * prodS s = prodS g := by
 obtain ⟨a, b, c, d⟩ := fits_al h
 have := src_count d (ok_all b) h0 (by rw [pad_prod]; exact h1)
 rw [pad_prod] at this
 rw [sg_congr (G := fun i => if srcP (pad g.length s) g i = p then 1 else 0) fun i _ => by rw [src_eq c]]
 exact this
theorem foldL_small {s g d : List Int} (h : fitsV s g = true) (hd : (d.length : Int) = prodS g) (hb : ∀ i, i < d.length → -1099511627776 ≤ d.getD i 0 ∧ d.getD i 0 ≤ 1099511627776) : (foldL s g d).2 = 0 := by
 have hn := size_nat (fits_al h).1
 have hg := ok_prod (fits_al h).2.1
 refine fold_small _ d _ 0 1099511627776 (by omega) (fun p hp => ?_) hb (fun i hi => ?_) (by omega)
 ·have : (List.replicate (sizeV s).toNat (0 : Int)).getD p 0 = 0 := by
   rw [List.getD_eq_getElem?_getD, List.getElem?_replicate]; split <;> rfl
  rw [this]; omega
 ·have := src_in h (p := ((0 + i : Nat) : Int)) (by omega) (by omega)
  rw [List.length_replicate]
  show (srcI s g ((0 + i : Nat) : Int)).toNat < _
  omega
theorem full_fold {s u : List Int} {n : Int} (h : fitsV u s = true) (hn : -1099511627776 ≤ n ∧ n ≤ 1099511627776) :
  ∃ c : List Int, foldV s (List.replicate (sizeV s).toNat n) u = (u, c, 0) ∧ c.length = (sizeV u).toNat ∧ ∀ (i : Nat) (x : Int), c[i]? = some x → x * c.length = n * (sizeV s).toNat ∧ -70368744177664 ≤ x ∧ x ≤ 70368744177664 := by
 obtain ⟨b, a, _, _⟩ := fits_al h
 have ha := size_nat a
 have hb := size_nat b
 have hd : ((List.replicate (sizeV s).toNat n).length : Int) = prodS s := by rw [List.length_replicate]; exact ha
 have h3 := foldL_small h hd (fun i hi => by rw [List.length_replicate] at hi; rw [rep_getD _ _ _ hi]; exact hn)
 obtain ⟨f1, f2⟩ := foldL_sum h h3
 refine ⟨(foldL u s (List.replicate (sizeV s).toNat n)).1, ?_, by omega, fun i x hx => ?_⟩
 ·unfold foldV; rw [if_pos (full_tok n a), if_pos h, if_pos h3]
 ·have hi := (List.getElem?_eq_some_iff.1 hx).1
  have e := f2 i (by omega)
  rw [List.getD_eq_getElem?_getD, hx, Option.getD_some, List.length_replicate] at e
  have e2 : (sg (sizeV s).toNat fun j => if (srcI u s j).toNat = i then (List.replicate (sizeV s).toNat n).getD j 0 else 0) = (sg (prodS s).toNat fun j => if srcI u s j = i then 1 else 0) * n := by
   rw [← sg_mul, ← size_ok a]
   refine sg_congr fun j hj => ?_
   have := src_in h (p := (j : Int)) (by omega) (by omega)
   rw [rep_getD _ _ _ hj]
   by_cases hc : srcI u s j = i
   ·rw [if_pos (by omega), if_pos hc]; simp
   ·rw [if_neg (by omega), if_neg hc]; simp
  have hc := count_src h (p := (i : Int)) (by omega) (by omega)
  rw [e2] at e
  generalize (sg (prodS s).toNat fun j => if srcI u s j = i then (1 : Int) else 0) = c at e hc
  have p1 := ok_prod a
  have p2 := ok_prod b
  have c0 : 0 ≤ c := by
   rcases (show c < 0 ∨ 0 ≤ c by omega) with h | h
   ·have := Int.mul_le_mul_of_nonneg_right (show c ≤ -1 by omega) (show 0 ≤ prodS u by omega)
    omega
   ·exact h
  have c1 : c ≤ 64 := by
   have := Int.mul_le_mul_of_nonneg_left (show 1 ≤ prodS u by omega) c0
   omega
  subst e
  rw [f1, ha, ← hc]
  refine ⟨by rw [Int.mul_comm c n, Int.mul_assoc], ?_, ?_⟩
  ·have := Int.mul_le_mul_of_nonneg_left hn.1 c0
   omega
  ·have := Int.mul_le_mul_of_nonneg_left hn.2 c0
   omega
end Go.Proofs.ShM
namespace Go.Proofs.YtjkdcegmdfmjpaaGreat
open Go.RowKit Go.Proofs.ShM
open Go.RowKit Go.Proofs.ShM
open Go.RowKit Go.Proofs.ShM
open Go.RowKit
open Go.RowKit Go.Proofs.ShM
open Go.RowKit Go.Proofs.ShM
theorem tsame_any (A B C D : Option Addr) (c d g h : Nat) (s xs t ys : List Int) (w : World) (hA : Rd w A s) (hB : Rd w B xs) (hC : Rd w C t) (hD : Rd w D ys) :
  Calls Tryz.prog 15 #[.agg #[.slice A s.length c, .slice B xs.length d], .agg #[.slice C t.length g, .slice D ys.length h]] w fun e w' => e = .returned (.bool ((s == t) && (xs == ys))) ∧ Kp w w' := by
 have l1 := hA.len
 have l2 := hB.len
 have l3 := hC.len
 have l4 := hD.len
 have K0 : Hid (Kp w ((w.alloc (.cells #[.slice A s.length c, .slice B xs.length d] 27)).alloc (.cells #[.slice C t.length g, .slice D ys.length h] 27))) := (Kp.alloc_ _ _).tr (Kp.alloc_ _ _)
 have H1 : Hid (∀ W, Kp w W → Calls Tryz.prog 12 #[.slice A s.length c, .slice C t.length g] W fun e w' => e = .returned (.bool (s == t)) ∧ ∃ n, w' = W.drewN n) := fun W k => same_any A C c g s t W (hA.kp k) (hC.kp k)
 have H2 : Hid (∀ W, Kp w W → Calls Tryz.prog 12 #[.slice B xs.length d, .slice D ys.length h] W fun e w' => e = .returned (.bool (xs == ys)) ∧ ∃ n, w' = W.drewN n) := fun W k => same_any B D d h xs ys W (hB.kp k) (hD.kp k)
 clear hA hB hC hD
 cases e1 : (s == t) with
 | false =>
  rw [e1] at H1
  clear e1
  go_enter Tryz.func15, Tryz.ntmps15
  go_wp2_with fail
  refine (Calls.mono (H1.out _ K0.out)) ?_; rintro e w1 ⟨rfl, n, rfl⟩
  go_wp2
  go_ret
  exact ⟨rfl, K0.out.tr (Kp.drewN_ _ _)⟩
 | true =>
  rw [e1] at H1
  clear e1
  obtain ⟨b, hb⟩ := eX ((xs == ys))
  rw [← hb] at H2 ⊢
  clear hb
  go_enter Tryz.func15, Tryz.ntmps15
  go_wp2_with fail
  refine (Calls.mono (H1.out _ K0.out)) ?_; rintro e w1 ⟨rfl, n, rfl⟩
  go_wp2_with fail
  refine (Calls.mono (H2.out _ (K0.out.tr (Kp.drewN_ _ _)))) ?_; rintro e w2 ⟨rfl, m, rfl⟩
  go_wp2
  go_ret
  exact ⟨by simp, K0.out.tr (Kp.drewN_ _ _)⟩
open Go.RowKit Go.Proofs.ShM Go.Proofs.FixM
open Go.RowKit Go.Proofs.ShM Go.Proofs.FixM
open Go.Shelf
attribute [local go_sem] Oper.semAt_some
attribute [local go_sem] Oper.semAt_some
open Go.RowKit Go.Shelf Go.Proofs.ShM Go.Proofs.FixM
attribute [local go_sem] Oper.semAt_some
open Go.RowKit Go.Proofs.ShM
section
variable {A B C : Option Addr} {c d e n m o a b : Nat} {l k : List Int} {err : Int} {w : World}
theorem tcheck_u (s xs : List Int) (h : TR w A s B xs) (hn : n = s.length) (hm : m = xs.length) {r : Bool} (hr : tokV s xs = r) :
  Calls Tryz.prog 13 #[.agg #[.slice A n c, .slice B m d]] w fun e w' => e = .returned (.bool r) ∧ Kp w w' := by
 subst hn hm hr
 exact tcheck_any A B c d s xs w h.s h.d
end
theorem tsame_u {W : World} {A B C D : Option Addr} {l k : List Int} {a b c d g h : Nat} (r : TR W A l B k) (q : TR W C l D k) (ha : l.length = a) (hb : k.length = b) :
  Calls Tryz.prog 15 #[.agg #[.slice A a c, .slice B b d], .agg #[.slice C a g, .slice D b h]] W fun e w' => e = .returned (.bool true) ∧ Kp W w' := by
 subst ha hb
 have hh := tsame_any A B C D c d g h l k l k W r.s r.d q.s q.d
 simpa using hh
open Go.ChangeShapes Go.WideShapes Go.ChangeAt
end Go.Proofs.YtjkdcegmdfmjpaaGreat
set_option maxHeartbeats 16000000
set_option maxRecDepth 100000
set_option linter.unusedVariables false
set_option linter.unusedSimpArgs false
namespace Go.Proofs.ShM
open Go.Proofs.FixM
theorem mulV_comm (a b : Int) : mulV a b = mulV b a := by unfold mulV; rw [Int.mul_comm]
theorem join_self {s : List Int} (h : okS s = true) : joinV s s = (s, 0) := join_iff.2 (Jn.self h)
end Go.Proofs.ShM
set_option maxHeartbeats 16000000
set_option maxRecDepth 100000
set_option linter.unusedVariables false
set_option linter.unusedSimpArgs false
namespace Go.Proofs.ShM
theorem upL_len (x : List Int) (k : Nat) (m : Int) : (upL x k m).length = x.length := by unfold upL; simp
end Go.Proofs.ShM
namespace Go.Proofs.YtjkdcegmdfmjpaaGreat
open Go.RowKit Go.Proofs.ShM
open Go.Shelf
attribute [local go_sem] Oper.semAt_some
attribute [local go_sem] Oper.semAt_some
end Go.Proofs.YtjkdcegmdfmjpaaGreat
namespace Go.Proofs.ShM
theorem in_append {s s' t t' : List Int} (h : s.length = t.length) : inIdx (s ++ s') (t ++ t') = (inIdx s t && inIdx s' t') := by
 induction s generalizing t with
 | nil =>
  cases t with
  | nil => simp [inIdx]
  | cons b t => simp at h
 | cons a s ih =>
  cases t with
  | nil => simp at h
  | cons b t =>
   simp only [List.cons_append, inIdx]
   rw [ih (by simpa using h), Bool.and_assoc]
theorem in_rev {s t : List Int} (h : inIdx s t = true) : inIdx s.reverse t.reverse = true := by
 induction s generalizing t with
 | nil =>
  cases t with
  | nil => rfl
  | cons b t => simp [inIdx] at h
 | cons a s ih =>
  cases t with
  | nil => simp [inIdx] at h
  | cons b t =>
   simp only [inIdx, Bool.and_eq_true] at h
   obtain ⟨h1, h2⟩ := h
   have hl := in_len h2
   rw [List.reverse_cons, List.reverse_cons, in_append (by simp [hl]), ih h2]
   simp only [inIdx, Bool.true_and, Bool.and_true]
   exact h1
theorem at_in {s xs t : List Int} (h : tokV s xs = true) (hi : inIdx s t = true) : atV s xs t = (xs.getD (plc s t).toNat 0, 0) := by
 have hp : placeV s t = (plc s t, 0) := place_yes (tok_len h).1 hi
 unfold atV pinV
 rw [if_pos h, hp]
 simp
def turnP (s : List Int) (p : Int) : Int := plc s (digs s.reverse p).reverse
theorem turnP_in {s : List Int} (h : okS s = true) {p : Int} (h0 : 0 ≤ p) (h1 : p < prodS s) : 0 ≤ turnP s p ∧ turnP s p < prodS s ∧ digs s (turnP s p) = (digs s.reverse p).reverse := by
 have hr := ok_all (ok_reverse h)
 have h2 := (digs_in hr h0 (by rw [prod_rev]; exact h1)).1
 have h3 := in_rev h2
 rw [List.reverse_reverse] at h3
 exact plc_in (ok_all h) h3
theorem turnP_twice {s : List Int} (h : okS s = true) {p : Int} (h0 : 0 ≤ p) (h1 : p < prodS s) : turnP s (turnP s.reverse p) = p := by
 have g := turnP_in (ok_reverse h) h0 (by rw [prod_rev]; exact h1)
 have e : turnP s (turnP s.reverse p) = plc s (digs s.reverse (turnP s.reverse p)).reverse := rfl
 rw [e, g.2.2, List.reverse_reverse, List.reverse_reverse]
 exact (digs_in (ok_all h) h0 h1).2
theorem turnD_get {s xs : List Int} (h : tokV s xs = true) {i : Nat} (hi : i < xs.length) : (turnD s xs).getD i 0 = xs.getD (turnP s i).toNat 0 := by
 obtain ⟨ho, hn, _, _⟩ := tok_len h
 have hs := size_nat ho
 have hr := ok_all (ok_reverse ho)
 have h2 := in_rev (digs_in hr (p := (i : Int)) (by omega) (by rw [prod_rev]; omega)).1
 rw [List.reverse_reverse] at h2
 unfold turnD
 rw [List.getD, List.getElem?_map, List.getElem?_range hi]
 show (atV s xs (digs s.reverse i).reverse).1 = _
 rw [at_in h h2]
 rfl
theorem turn_twice {s xs : List Int} (h : tokV s xs = true) : turnV s.reverse (turnD s xs) = (s, xs, 0) := by
 rw [turn_is (turn_tok h), List.reverse_reverse]
 congr 2
 obtain ⟨ho, hn, _, _⟩ := tok_len h
 have hs := size_nat ho
 refine ext0 (by rw [turnD_len, turnD_len]) fun i hi => ?_
 rw [turnD_len, turnD_len] at hi
 rw [turnD_get (turn_tok h) (by rw [turnD_len]; exact hi)]
 have g := turnP_in (ok_reverse ho) (p := (i : Int)) (by omega) (by rw [prod_rev]; omega)
 rw [prod_rev] at g
 rw [turnD_get h (by omega), Int.toNat_of_nonneg g.1, turnP_twice ho (by omega) (by omega)]
 simp
theorem in_iff {s : List Int} : ∀ {t : List Int}, inIdx s t = true ↔ t.length = s.length ∧ ∀ i, i < s.length → 0 ≤ t.getD i 0 ∧ t.getD i 0 < s.getD i 0 := by
 induction s with
 | nil =>
  intro t
  cases t with
  | nil => simp [inIdx]
  | cons b t => simp [inIdx]
 | cons a s ih =>
  intro t
  cases t with
  | nil => simp [inIdx]
  | cons b t =>
   simp only [inIdx, Bool.and_eq_true, ih, List.length_cons]
   constructor
   ·rintro ⟨h1, h2, h3⟩
    refine ⟨by omega, fun i hi => ?_⟩
    cases i with
    | zero => simpa using h1
    | succ i => simpa using h3 i (by omega)
   ·rintro ⟨h1, h2⟩
    refine ⟨by simpa using h2 0 (by omega), by omega, fun i hi => by simpa using h2 (i + 1) (by omega)⟩
theorem set_getD {l : List Int} {k i : Nat} {y : Int} (hk : k < l.length) : (l.set k y).getD i 0 = if i = k then y else l.getD i 0 := by
 unfold List.getD
 by_cases h : i = k
 ·subst h; rw [List.getElem?_set_self hk, if_pos rfl]; rfl
 ·rw [List.getElem?_set_ne (Ne.symm h), if_neg h]
theorem up_getD {u : List Int} {k i : Nat} {m : Int} (hk : k < u.length) : (upL u k m).getD i 0 = if i = k then u.getD k 0 + m else u.getD i 0 := set_getD hk
theorem moved_getD {s xs g : List Int} {k : Nat} {m : Int} {i : Nat} (hi : i < (sizeV g).toNat) : (movedL s xs g k m).getD i 0 = (atV s xs (upL (digs g i) k m)).1 := by
 unfold movedL
 rw [List.getD, List.getElem?_map, List.getElem?_range hi]
 rfl
theorem moved_tok {s xs g : List Int} {k : Nat} {m : Int} (h : okS g = true) : tokV g (movedL s xs g k m) = true := tok_iff.2 ⟨h, by rw [moved_len, size_nat h]⟩
theorem moved_at {s xs g u : List Int} {k : Nat} {m : Int} (h : okS g = true) (hu : inIdx g u = true) : atV g (movedL s xs g k m) u = ((atV s xs (upL u k m)).1, 0) := by
 have hp := plc_in (ok_all h) hu
 have hs := size_nat h
 rw [at_in (moved_tok h) hu, moved_getD (by omega), Int.toNat_of_nonneg hp.1, hp.2.2]
theorem ext_at {g xs ys : List Int} (h1 : tokV g xs = true) (h2 : tokV g ys = true) (h : ∀ u, inIdx g u = true → atV g xs u = atV g ys u) : xs = ys := by
 obtain ⟨ho, hn, _, _⟩ := tok_len h1
 obtain ⟨_, hn2, _, _⟩ := tok_len h2
 have hs := size_nat ho
 refine ext0 (by omega) fun i hi => ?_
 have hd := digs_in (ok_all ho) (p := (i : Int)) (by omega) (by omega)
 have := h _ hd.1
 rw [at_in h1 hd.1, at_in h2 hd.1, hd.2] at this
 simpa using this
theorem up_up {u : List Int} {k : Nat} {m n : Int} (hk : k < u.length) : upL (upL u k m) k n = upL u k (m + n) := by
 unfold upL
 rw [List.set_set, set_getD hk, if_pos rfl, Int.add_assoc]
theorem up_zero {u : List Int} {k : Nat} (hk : k < u.length) : upL u k 0 = u := by
 refine ext0 (upL_len _ _ _) fun i _ => ?_
 rw [up_getD hk]
 by_cases h : i = k
 ·subst h; rw [if_pos rfl]; omega
 ·rw [if_neg h]
section
variable {s xs : List Int} {k : Nat} {x : Int}
theorem slice_is {a b : Int} (h : tokV s xs = true) (hx : s[k]? = some x) (h1 : 0 ≤ a) (h2 : a < b) (h3 : b ≤ x) : sliceV s xs k a b = (s.set k (b - a), movedL s xs (s.set k (b - a)) k a, 0) := by
 have hk := (List.getElem?_eq_some_iff.1 hx).1
 have hgd : s.getD k 0 = x := by rw [List.getD, hx]; rfl
 unfold sliceV
 rw [if_neg (by simp [h]), Int.toNat_natCast, hgd, if_neg (by omega)]
end
section
variable {s xs t ys h : List Int} {k : Nat}
theorem both_get {i : Nat} (hi : i < (sizeV h).toNat) : (bothL s xs t ys h k).getD i 0 = if (digs h i).getD k 0 < s.getD k 0 then (movedL s xs h k 0).getD i 0 else (movedL t ys h k (-(s.getD k 0))).getD i 0 := by
 unfold bothL
 rw [List.getD, List.getElem?_map, List.getElem?_range hi]
 rfl
theorem both_at (ho : okS h = true) {u : List Int} (hu : inIdx h u = true) : atV h (bothL s xs t ys h k) u = (if u.getD k 0 < s.getD k 0 then (atV s xs (upL u k 0)).1 else (atV t ys (upL u k (-(s.getD k 0)))).1, 0) := by
 have hp := plc_in (ok_all ho) hu
 have hs := size_nat ho
 rw [at_in (both_tok ho) hu, both_get (by omega), Int.toNat_of_nonneg hp.1, hp.2.2]
 split
 ·rw [moved_getD (by omega), Int.toNat_of_nonneg hp.1, hp.2.2]
 ·rw [moved_getD (by omega), Int.toNat_of_nonneg hp.1, hp.2.2]
theorem set_self {l : List Int} (hk : k < l.length) : l.set k (l.getD k 0) = l := by
 refine ext0 (by simp) fun i hi => ?_
 rw [set_getD hk]
 by_cases e : i = k
 ·subst e; rw [if_pos rfl]
 ·rw [if_neg e]
theorem glue_is (h1 : tokV s xs = true) (h2 : tokV t ys = true) (hk : k < s.length) (hl : s.length = t.length) (h3 : s.set k 1 = t.set k 1) (ho : okS (s.set k (s.getD k 0 + t.getD k 0)) = true) :
  glueV s xs t ys k = (s.set k (s.getD k 0 + t.getD k 0), bothL s xs t ys (s.set k (s.getD k 0 + t.getD k 0)) k, 0) := by
 unfold glueV
 rw [if_neg (by simp [h1, h2]), Int.toNat_natCast, if_neg]
 rintro (g | g | g | g | g)
 ·omega
 ·omega
 ·exact g hl
 ·exact g h3
 ·rw [ho] at g; cases g
theorem glue_parts {m : Int} (h1 : tokV s xs = true) (hk : k < s.length) (hm1 : 0 < m) (hm2 : m < s.getD k 0) (o1 : okS (s.set k m) = true) (o2 : okS (s.set k (s.getD k 0 - m)) = true) :
  glueV (s.set k m) (movedL s xs (s.set k m) k 0) (s.set k (s.getD k 0 - m)) (movedL s xs (s.set k (s.getD k 0 - m)) k m) k = (s, xs, 0) := by
 have hos := (tok_len h1).1
 have hx : s[k]? = some (s.getD k 0) := by rw [List.getD, List.getElem?_eq_getElem hk]; rfl
 have e1 : (s.set k m).getD k 0 = m := by rw [set_getD hk, if_pos rfl]
 have e2 : (s.set k (s.getD k 0 - m)).getD k 0 = s.getD k 0 - m := by rw [set_getD hk, if_pos rfl]
 have es : (s.set k m).set k ((s.set k m).getD k 0 + (s.set k (s.getD k 0 - m)).getD k 0) = s := by
  rw [e1, e2, List.set_set, show m + (s.getD k 0 - m) = s.getD k 0 by omega, set_self hk]
 rw [glue_is (moved_tok o1) (moved_tok o2) (by rw [List.length_set]; exact hk) (by simp) (by simp) (by rw [es]; exact hos), es]
 congr 2
 refine ext_at (both_tok hos) h1 fun u hu => ?_
 have hul : u.length = s.length := (in_iff.1 hu).1
 have hb := (in_iff.1 hu).2 k hk
 rw [both_at hos hu, e1]
 by_cases c : u.getD k 0 < m
 ·rw [if_pos c, up_zero (by omega)]
  have hu' : inIdx (s.set k m) u = true := by
   refine in_iff.2 ⟨by rw [List.length_set]; exact hul, fun i hi => ?_⟩
   rw [List.length_set] at hi
   rw [set_getD hk]
   by_cases e : i = k
   ·rw [if_pos e]; subst e; exact ⟨hb.1, c⟩
   ·rw [if_neg e]; exact (in_iff.1 hu).2 i hi
  rw [moved_at o1 hu', up_zero (by omega), at_in h1 hu]
 ·rw [if_neg c]
  have hu' : inIdx (s.set k (s.getD k 0 - m)) (upL u k (-m)) = true := by
   refine in_iff.2 ⟨by rw [List.length_set, upL_len]; exact hul, fun i hi => ?_⟩
   rw [List.length_set] at hi
   rw [set_getD hk, up_getD (by omega)]
   by_cases e : i = k
   ·rw [if_pos e, if_pos e]; omega
   ·rw [if_neg e, if_neg e]; exact (in_iff.1 hu).2 i hi
  rw [moved_at o2 hu', up_up (by omega), show -m + m = 0 by omega, up_zero (by omega), at_in h1 hu]
end
end Go.Proofs.ShM
set_option maxHeartbeats 16000000
set_option maxRecDepth 100000
set_option linter.unusedVariables false
set_option linter.unusedSimpArgs false
namespace Go.Proofs.YtjkdcegmdfmjpaaGreat
open Go.RowKit Go.Proofs.ShM Go.Proofs.PkM Go.Proofs.ImM
section
variable {w w' : World} {X Y : Nat → Prop} {A : Option Addr} {ts us : List T} {vs zs : List V2}
theorem RdX.alloc_ (h : RdX w X A ts) (o : Obj) : RdX (w.alloc o) X A ts := h.kp (Kp.alloc_ w o)
end
end Go.Proofs.YtjkdcegmdfmjpaaGreat
set_option maxHeartbeats 16000000
set_option maxRecDepth 100000
set_option linter.unusedVariables false
set_option linter.unusedSimpArgs false
namespace Go.Proofs.EvM
open Go.Proofs.ShM Go.Proofs.FixM Go.Proofs.GrM Go.Proofs.InM Go.Proofs.ImM
theorem tn_zero {r : Tn} {t : T} (h : tnE r = (t, 0)) : r.2.2 = 0 ∧ r.1 = t.1 ∧ r.2.1 = t.2 := by
 unfold tnE at h
 injection h with h1 h2
 rw [← h1]
 exact ⟨h2, rfl, rfl⟩
theorem given_zero {t u : T} {s : List Int} (h : givenV t s = (u, 0)) : u.1 = s := by
 unfold givenV at h
 split at h
 ·rename_i g; injection h with h _; rw [← h]; exact g.2
 ·injection h with _ h; cases h
theorem tog_shape {f : Int → Int → Int × Int} {x0 : Int} {s xs : List Int} {axis : Int} (h : (togV f x0 s xs axis).2.2 = 0) : (togV f x0 s xs axis).1 = s.eraseIdx axis.toNat := by
 unfold togV at h ⊢
 split at h
 ·cases h
 ·rename_i g1
  split at h
  ·cases h
  ·rename_i g2
   rw [if_neg g1, if_neg g2]
   split
   ·rfl
   ·rename_i g3; rw [if_neg g3] at h; exact absurd h g3
theorem more_shape {op : Int} {nums : List Int} {a b : T} {s : List Int} {t : T} (hop : op = 30 ∨ (40 ≤ op ∧ op ≤ 43) ∨ (50 ≤ op ∧ op ≤ 52)) (h : moreE op nums a b = (t, 0)) (hk : kindV op nums a.1 b.1 = (s, 0)) : t.1 = s := by
 have hk' : (if op = 40 then toldV nums (decide (sizeV nums = sizeV a.1)) else if op = 41 then (a.1.reverse, 0) else moreV op nums a.1 b.1) = (s, 0) := by
  unfold kindV at hk
  rwa [if_neg (by omega), if_neg (by omega), if_neg (by omega), if_neg (by omega), if_neg (by omega)] at hk
 clear hk
 unfold moreE at h
 by_cases h30 : op = 30
 ·subst h30
  rw [if_pos rfl] at h
  obtain ⟨e1, e2, _⟩ := tn_zero h
  rw [if_neg (by omega), if_neg (by omega)] at hk'
  unfold moreV tableV at hk'
  rw [if_pos rfl] at hk'
  split at hk'
  ·rcases told_cases [a.1.getD 0 0, b.1.getD 1 0] true with ⟨e, _, _⟩ | e
   ·rw [e] at hk'
    injection hk' with hk' _
    rw [← e2, ← hk']
    unfold matV at e1 ⊢
    split at e1
    ·cases e1
    ·rename_i g1
     split at e1
     ·cases e1
     ·rename_i g2
      rw [if_neg g1, if_neg g2]
      split
      ·rfl
      ·rename_i g3; rw [if_neg g3] at e1; exact absurd e1 g3
   ·rw [e] at hk'; injection hk' with _ hk'; cases hk'
  ·injection hk' with _ hk'; cases hk'
 rw [if_neg h30] at h
 by_cases h40 : op = 40
 ·subst h40
  rw [if_pos rfl] at h hk'
  obtain ⟨e1, e2, _⟩ := tn_zero h
  rcases told_cases nums (decide (sizeV nums = sizeV a.1)) with ⟨e, _, _⟩ | e
  ·rw [e] at hk'
   injection hk' with hk' _
   rw [← e2, ← hk']
   unfold reshapeV at e1 ⊢
   split at e1
   ·cases e1
   ·rename_i g1
    split at e1
    ·rename_i g2; rw [if_neg g1, if_pos g2]
    ·cases e1
  ·rw [e] at hk'; injection hk' with _ hk'; cases hk'
 rw [if_neg h40] at h hk'
 by_cases h41 : op = 41
 ·subst h41
  rw [if_pos rfl] at h hk'
  obtain ⟨e1, e2, _⟩ := tn_zero h
  injection hk' with hk' _
  rw [← e2, ← hk']
  unfold turnV at e1 ⊢
  split at e1
  ·cases e1
  ·rename_i g1; rw [if_neg g1]
 rw [if_neg h41] at h hk'
 unfold moreV at hk'
 rw [if_neg h30] at hk'
 split at hk'
 ·injection hk' with _ hk'; cases hk'
 by_cases h42 : op = 42
 ·subst h42
  rw [if_pos rfl] at h hk'
  obtain ⟨e1, e2, _⟩ := tn_zero h
  rcases part_cases a.1 (nums.getD 0 0) (nums.getD 1 0) (nums.getD 2 0) with ⟨e, _⟩ | e
  ·rw [e] at hk'
   injection hk' with hk' _
   rw [← e2, ← hk']
   unfold sliceV at e1 ⊢
   split at e1
   ·cases e1
   ·rename_i g1
    split at e1
    ·cases e1
    ·rename_i g2; rw [if_neg g1, if_neg g2]
  ·rw [e] at hk'; injection hk' with _ hk'; cases hk'
 rw [if_neg h42] at h hk'
 by_cases h43 : op = 43
 ·subst h43
  rw [if_pos rfl] at h hk'
  obtain ⟨e1, e2, _⟩ := tn_zero h
  rcases glue_cases a.1 b.1 (nums.getD 0 0) with ⟨e, _⟩ | e
  ·rw [e] at hk'
   injection hk' with hk' _
   rw [← e2, ← hk']
   unfold glueV at e1 ⊢
   split at e1
   ·cases e1
   ·rename_i g1
    split at e1
    ·cases e1
    ·rename_i g2; rw [if_neg g1, if_neg g2]
  ·rw [e] at hk'; injection hk' with _ hk'; cases hk'
 rw [if_neg h43] at h hk'
 injection hk' with hk' _
 rw [← hk']
 by_cases h50 : op = 50
 ·rw [if_pos h50] at h
  obtain ⟨e1, e2, _⟩ := tn_zero h
  rw [← e2]
  exact tog_shape e1
 rw [if_neg h50] at h
 by_cases h51 : op = 51
 ·rw [if_pos h51] at h
  obtain ⟨e1, e2, _⟩ := tn_zero h
  rw [← e2]
  unfold meanV at e1 ⊢
  split at e1
  ·rename_i g1; rw [if_pos g1]; exact tog_shape g1
  ·rename_i g1; exact absurd e1 g1
 ·rw [if_neg h51] at h
  obtain ⟨e1, e2, _⟩ := tn_zero h
  rw [← e2]
  exact tog_shape e1
theorem arity_ops {op : Int} (h : 0 ≤ arityV op) : (1 ≤ op ∧ op ≤ 3) ∨ (10 ≤ op ∧ op ≤ 13) ∨ (20 ≤ op ∧ op ≤ 23) ∨ op = 30 ∨ (40 ≤ op ∧ op ≤ 43) ∨ (50 ≤ op ∧ op ≤ 52) := by
 unfold arityV at h
 split at h
 ·omega
 ·split at h
  ·omega
  ·split at h
   ·omega
   ·omega
theorem kind_shape {op : Int} {nums : List Int} {a b : T} {s : List Int} {inp : T} {ps : List T} {t : T} (hop : 0 ≤ arityV op) (h : kindE op nums a b s inp ps = (t, 0)) (hk : kindV op nums a.1 b.1 = (s, 0)) : t.1 = s := by
 unfold kindE at h
 by_cases h1 : op = 1
 ·rw [if_pos h1] at h; exact given_zero h
 rw [if_neg h1] at h
 by_cases h2 : op = 2
 ·rw [if_pos h2] at h; exact given_zero h
 rw [if_neg h2] at h
 by_cases h3 : op = 3
 ·subst h3
  rw [if_pos rfl] at h
  obtain ⟨e1, e2, _⟩ := tn_zero h
  unfold kindV at hk
  rw [if_neg (by omega), if_neg (by omega), if_pos rfl] at hk
  injection hk with hk _
  rw [← e2, ← hk]
  rfl
 rw [if_neg h3] at h
 by_cases h10 : 10 ≤ op ∧ op ≤ 13
 ·rw [if_pos h10] at h
  obtain ⟨e1, e2, _⟩ := tn_zero h
  obtain ⟨j, Z, _, _, hj, hz, _⟩ := two_zero h10 e1
  unfold kindV at hk
  rw [if_neg h1, if_neg h2, if_neg h3, if_pos h10, hj] at hk
  injection hk with hk _
  rw [← e2, ← hk, hz]
 rw [if_neg h10] at h
 by_cases h20 : 20 ≤ op ∧ op ≤ 23
 ·rw [if_pos h20] at h
  obtain ⟨e1, e2, _⟩ := tn_zero h
  obtain ⟨Z, _, hz, _⟩ := one_zero h20 e1
  unfold kindV at hk
  rw [if_neg h1, if_neg h2, if_neg h3, if_neg h10, if_pos h20] at hk
  injection hk with hk _
  rw [← e2, ← hk, hz]
 rw [if_neg h20] at h
 exact more_shape (by rcases arity_ops hop with g | g | g | g | g | g <;> omega) h hk
theorem node_shape_e {op : Int} {nums : List Int} {ts : List T} {inp : T} {ps : List T} {t : T} (h : nodeE op nums ts inp ps = (t, 0)) : nodeV op nums (shT ts) = (t.1, 0) ∧ ts.all tokT = true := by
 unfold nodeE at h
 split at h
 ·injection h with _ h; cases h
 ·rename_i g0
  split at h
  ·rename_i g1
   refine ⟨?_, by simpa using g0⟩
   cases e : nodeV op nums (shT ts) with
   | mk s f =>
    rw [e] at g1 h
    have g1 : f = 0 := g1
    subst g1
    have h : kindE op nums (ts.getD 0 eT) (ts.getD 1 eT) s inp ps = (t, 0) := h
    unfold nodeV at e
    split at e
    ·rename_i g2
     rw [getD_sh, getD_sh] at e
     have hop : 0 ≤ arityV op := by
      have := g2.1
      unfold aloneB at this
      rw [Bool.and_eq_true, decide_eq_true_iff] at this
      exact this.1
     rw [kind_shape hop h e]
    ·injection e with _ e; cases e
  ·rename_i g1; injection h with _ h; exact absurd h g1
end Go.Proofs.EvM
set_option maxHeartbeats 16000000
set_option maxRecDepth 100000
set_option linter.unusedVariables false
set_option linter.unusedSimpArgs false
namespace Go.Proofs.EvM
open Go.Proofs.ShM Go.Proofs.FixM Go.Proofs.GrM Go.Proofs.InM Go.Proofs.ImM
def Z0 (l : List Int) : Prop := ∀ x ∈ l, x = 0
def Nul (r : Tn) : Prop := r.2.2 = 0 → Z0 r.2.1
theorem fit_fold (g d s : List Int) : Fit (foldV g d s) s := fun h => by
 rcases fold_cases g d s with ⟨_, e⟩ | ⟨_, _, e⟩ | ⟨_, _, _, e⟩ | ⟨_, h1, h2, e⟩
 ·rw [e] at h; cases h
 ·rw [e] at h; cases h
 ·rename_i h0; rw [e] at h; exact absurd h h0
 ·rw [e]
  refine ⟨rfl, ?_⟩
  have ho := (fits_al h1).1
  have h3 : foldL s g d = ((foldL s g d).1, 0) := Prod.ext rfl h2
  have h4 := (fold_sum _ d _ 0 _ h3).1
  rw [List.length_replicate] at h4
  exact Go.Proofs.ShM.tok_iff.2 ⟨ho, by rw [h4]; exact size_nat ho⟩
theorem fit_foldR (r : Tn) (s : List Int) : Fit (foldR r s) s := by
 unfold foldR
 split
 ·exact fit_fold _ _ _
 ·rename_i h; exact fit_err h
theorem fit_two {op : Int} (hop : 10 ≤ op ∧ op ≤ 13) {s xs t ys j : List Int} (hj : joinV s t = (j, 0)) : Fit (twoV op s xs t ys) j := fun h => by
 obtain ⟨j', Z, _, _, hj', e, _, ht, _⟩ := two_zero hop h
 rw [hj] at hj'
 injection hj' with hj' _
 subst hj'
 rw [e]
 exact ⟨rfl, ht⟩
theorem fit_one {op : Int} (hop : 20 ≤ op ∧ op ≤ 23) (s xs : List Int) : Fit (oneV op s xs) s := fun h => by
 obtain ⟨Z, _, e, _, ht, _⟩ := one_zero hop h
 rw [e]
 exact ⟨rfl, ht⟩
theorem fit_pad (s xs : List Int) (axis a side : Int) : Fit (padV s xs axis a side) (s.set axis.toNat side) := by
 unfold padV
 split
 ·exact fit_err (by decide)
 ·split
  ·exact fit_err (by decide)
  ·rename_i h
   refine fun _ => ⟨rfl, tok_moved ?_⟩
   cases h1 : okS (s.set axis.toNat side) with
   | true => rfl
   | false => exact absurd (by simp [h1]) h
theorem fit_grow (s xs : List Int) (axis n : Int) : Fit (growV s xs axis n) (inL s axis.toNat n) := by
 unfold growV
 split
 ·exact fit_err (by decide)
 ·split
  ·exact fit_err (by decide)
  ·rename_i h
   refine fun _ => ⟨rfl, ?_⟩
   have ho : okS (inL s axis.toNat n) = true := by
    cases h1 : okS (inL s axis.toNat n) with
    | true => rfl
    | false => exact absurd (.inr (.inr h1)) h
   refine Go.Proofs.ShM.tok_iff.2 ⟨ho, ?_⟩
   show ((((List.range (sizeV (inL s axis.toNat n)).toNat).map _).length : Nat) : Int) = _
   rw [List.length_map, List.length_range]
   exact size_nat ho
theorem fit_relu {s a g : List Int} (h : a.length = g.length) (hg : tokV s g = true) : Fit (s, reluG a g, 0) s := fun _ => ⟨rfl, by
 obtain ⟨h1, h2⟩ := Go.Proofs.ShM.tok_iff.1 hg
 refine Go.Proofs.ShM.tok_iff.2 ⟨h1, ?_⟩
 show ((((a.zip g).map _).length : Nat) : Int) = _
 rw [List.length_map, List.length_zip, h, Nat.min_self]
 exact h2⟩
theorem fit_andR {op : Int} (hop : 10 ≤ op ∧ op ≤ 13) {r : Tn} {s : List Int} {a : T} {j : List Int} (h : Fit r s) (hj : joinV s a.1 = (j, 0)) : Fit (andR op r a) j := by
 unfold andR
 split
 ·rename_i h0
  rw [(h h0).1]
  exact fit_two hop hj
 ·rename_i h0; exact fit_err h0
theorem fit_thenR {op : Int} (hop : 10 ≤ op ∧ op ≤ 13) {r : Tn} {s : List Int} {a : T} {j : List Int} (h : r.2.2 = 0 → r.1 = s) (hj : joinV a.1 s = (j, 0)) : Fit (thenR op a r) j := by
 unfold thenR
 split
 ·rename_i h0
  rw [h h0]
  exact fit_two hop hj
 ·rename_i h0; exact fit_err h0
theorem set_self' {l : List Int} {k : Nat} (hk : k < l.length) : l.set k (l.getD k 0) = l := by
 rw [List.getD_eq_getElem?_getD, List.getElem?_eq_getElem hk]
 exact List.set_getElem_self hk
theorem set_erase : ∀ {a b : List Int} {k : Nat}, a.length = b.length → a.eraseIdx k = b.eraseIdx k → k < b.length → a.set k (b.getD k 0) = b
 | x :: a, y :: b, 0, _, h, _ => by
  have h : a = b := h
  subst h; rfl
 | x :: a, y :: b, k + 1, hl, h, hk => by
  rw [List.eraseIdx_cons_succ, List.eraseIdx_cons_succ] at h
  injection h with h1 h2
  subst h1
  show x :: a.set k (b.getD k 0) = _
  rw [set_erase (by simpa using hl) h2 (by simpa using hk)]
 | [], b, _, hl, _, hk => by have : b.length = 0 := hl.symm; omega
 | x :: a, [], _, hl, _, _ => by simp at hl
theorem kind_turn {nums a b s : List Int} (h : kindV 41 nums a b = (s, 0)) : s = a.reverse := by
 unfold kindV at h
 rw [if_neg (by omega), if_neg (by omega), if_neg (by omega), if_neg (by omega), if_neg (by omega), if_neg (by omega), if_pos rfl] at h
 injection h with h; exact h.symm
theorem kind_table {nums a b s : List Int} (h : kindV 30 nums a b = (s, 0)) : s = [a.getD 0 0, b.getD 1 0] ∧ a.length = 2 ∧ b.length = 2 ∧ a.getD 1 0 = b.getD 0 0 := by
 have h := kind_more h (.inl rfl)
 unfold moreV tableV at h
 rw [if_pos rfl] at h
 split at h
 ·rename_i h1
  rcases told_cases [a.getD 0 0, b.getD 1 0] true with ⟨e, _, _⟩ | e
  ·rw [e] at h
   injection h with h
   exact ⟨h.symm, h1⟩
  ·rw [e] at h; injection h with _ h; cases h
 ·injection h with _ h; cases h
theorem rev_two {a : List Int} (h : a.length = 2) : a = [a.getD 0 0, a.getD 1 0] ∧ a.reverse.getD 0 0 = a.getD 1 0 ∧ a.reverse.getD 1 0 = a.getD 0 0 := by
 match a, h with
 | [x, y], _ => exact ⟨rfl, rfl, rfl⟩
section
variable {op : Int} {nums : List Int} {a b out g : T}
theorem fit_X (hop : (42 ≤ op ∧ op ≤ 43) ∨ (50 ≤ op ∧ op ≤ 52)) (ha : tokT a = true) (h : kindV op nums a.1 b.1 = (g.1, 0)) : Fit (vjX op (nums.getD 0 0) nums a g) a.1 := by
 obtain ⟨hk, h0, hc⟩ := kind_axis h (by omega)
 have hoa := (Go.Proofs.ImM.tok_iff.1 ha).1
 unfold vjX
 split
 ·rename_i h42
  subst h42
  rw [if_pos rfl] at hc
  rcases part_cases a.1 (nums.getD 0 0) (nums.getD 1 0) (nums.getD 2 0) with ⟨e, _⟩ | e
  ·rw [e] at hc
   injection hc with hc
   have hf := fit_pad g.1 g.2 (nums.getD 0 0) (nums.getD 1 0) (a.1.getD (nums.getD 0 0).toNat 0)
   rw [show g.1.set (nums.getD 0 0).toNat (a.1.getD (nums.getD 0 0).toNat 0) = a.1 by rw [← hc, List.set_set, set_self' hk]] at hf
   exact hf
  ·rw [e] at hc; injection hc with _ hc; cases hc
 ·rename_i h42
  rw [if_neg h42] at hc
  split
  ·rename_i h43
   rw [if_pos h43] at hc
   rcases glue_cases a.1 b.1 (nums.getD 0 0) with ⟨e, _⟩ | e
   ·rw [e] at hc
    injection hc with hc
    have he : g.1.set (nums.getD 0 0).toNat (a.1.getD (nums.getD 0 0).toNat 0 - 0) = a.1 := by rw [← hc, List.set_set, Int.sub_zero, set_self' hk]
    have hf := fit_slice g.1 g.2 (nums.getD 0 0) 0 (a.1.getD (nums.getD 0 0).toNat 0) (by rw [he]; exact hoa)
    rw [he] at hf
    exact hf
   ·rw [e] at hc; injection hc with _ hc; cases hc
  ·rename_i h43
   rw [if_neg h43] at hc
   injection hc with hc
   have he : inL g.1 (nums.getD 0 0).toNat (a.1.getD (nums.getD 0 0).toNat 0) = a.1 := by rw [← hc, inL_erase hk]
   have hg : Fit (growV g.1 g.2 (nums.getD 0 0) (a.1.getD (nums.getD 0 0).toNat 0)) a.1 := by
    have hf := fit_grow g.1 g.2 (nums.getD 0 0) (a.1.getD (nums.getD 0 0).toNat 0)
    rwa [he] at hf
   split
   ·exact hg
   ·split
    ·unfold growR
     split
     ·rename_i hz
      obtain ⟨j, Z, t1, t2, hj, e, _⟩ := two_zero (by omega) hz
      have hjg : j = g.1 := by
       have hJ : joinV g.1 [] = (g.1, 0) := join_iff.2 (Jn.nil_ (tok_len t1).1).comm
       rw [hJ] at hj
       injection hj with hj
       exact hj.symm
      rw [e]
      subst hjg
      have hf := fit_grow g.1 Z (nums.getD 0 0) (a.1.getD (nums.getD 0 0).toNat 0)
      rwa [he] at hf
     ·rename_i hz; exact fit_err hz
    ·refine fit_andR (by omega) hg ?_
     unfold firstT firstV
     have ht : ¬ tokV a.1 a.2 = false := by
      have : tokV a.1 a.2 = true := ha
      simp [this]
     rw [if_neg ht, if_neg (by omega)]
     exact join_self hoa
theorem fit_A (hop : (10 ≤ op ∧ op ≤ 13) ∨ (20 ≤ op ∧ op ≤ 23) ∨ op = 30 ∨ (40 ≤ op ∧ op ≤ 43) ∨ (50 ≤ op ∧ op ≤ 52)) (ha : tokT a = true) (ho : tokT out = true) (hg : tokT g = true) (hs : out.1 = g.1) (h : kindV op nums a.1 b.1 = (g.1, 0)) : Fit (vjA op nums a b out g) a.1 := by
 have hoa := (Go.Proofs.ImM.tok_iff.1 ha).1
 unfold vjA
 split
 ·exact fit_fold _ _ _
 ·split
  ·exact fit_foldR _ _
  ·rename_i h1 h2
   by_cases h20 : 20 ≤ op ∧ op ≤ 23
   ·have he := kind_one h h20
    split
    ·rw [← he]; exact fit_one (by omega) _ _
    ·split
     ·rw [← he]
      refine fit_relu ?_ hg
      have e1 := (tok_len (show tokV a.1 a.2 = true from ha)).2.1
      have e2 := (tok_len (show tokV g.1 g.2 = true from hg)).2.1
      rw [he] at e2
      omega
     ·split
      ·refine fit_thenR (by omega) (s := a.1) (fun hz => ?_) (by rw [he]; exact join_self hoa)
       unfold slopesR at hz ⊢
       split
       ·rfl
       ·rename_i h3; rw [if_neg h3] at hz; exact absurd hz h3
      ·rw [if_pos (by omega)]
       refine fit_thenR (by omega) (s := a.1) (fun hz => ?_) (by rw [he]; exact join_self hoa)
       have hj : joinV out.1 out.1 = (out.1, 0) := join_self (Go.Proofs.ImM.tok_iff.1 ho).1
       have := (fit_two (by omega) hj hz).1
       rw [this, hs, he]
   ·rw [if_neg (by omega), if_neg (by omega), if_neg (by omega), if_neg (by omega)]
    split
    ·rename_i h30
     subst h30
     obtain ⟨e1, e2, e3, e4⟩ := kind_table h
     unfold leftV
     split
     ·exact fit_err (by decide)
     ·rename_i t0
      split
      ·exact fit_err (by decide)
      ·have tb : tokV b.1 b.2 = true := by
        cases e : tokV b.1 b.2 with
        | true => rfl
        | false => exact absurd (.inr e) t0
       have et : (turnV b.1 b.2).1 = b.1.reverse := by unfold turnV; rw [if_neg (by simp [tb])]
       rw [et]
       have hf := fit_mat g.1 g.2 b.1.reverse (turnV b.1 b.2).2.1
       rw [(rev_two e3).2.2, e1] at hf
       rw [e1, (rev_two e2).1, e4]
       exact hf
    ·split
     ·exact fit_reshape _ _ _ hoa
     ·split
      ·rename_i h41
       subst h41
       have he := kind_turn h
       have hf := fit_turn (s := g.1) (xs := g.2)
       rw [he, List.reverse_reverse] at hf
       rw [he]
       exact hf
      ·exact fit_X (by omega) ha h
theorem fit_B (hop : (10 ≤ op ∧ op ≤ 13) ∨ op = 30 ∨ op = 43) (ha : tokT a = true) (hb : tokT b = true) (h : kindV op nums a.1 b.1 = (g.1, 0)) : Fit (vjB op nums a b out g) b.1 := by
 have hob := (Go.Proofs.ImM.tok_iff.1 hb).1
 unfold vjB
 split
 ·exact fit_fold _ _ _
 ·split
  ·exact fit_foldR _ _
  ·split
   ·exact fit_foldR _ _
   ·split
    ·exact fit_foldR _ _
    ·split
     ·rename_i h30
      subst h30
      obtain ⟨e1, e2, e3, e4⟩ := kind_table h
      unfold rightV
      split
      ·exact fit_err (by decide)
      ·split
       ·exact fit_err (by decide)
       ·have ta : tokV a.1 a.2 = true := ha
        have et : (turnV a.1 a.2).1 = a.1.reverse := by unfold turnV; rw [if_neg (by simp [ta])]
        rw [et]
        have hf := fit_mat a.1.reverse (turnV a.1 a.2).2.1 g.1 g.2
        rw [(rev_two e2).2.1, e1] at hf
        rw [e1, (rev_two e3).1, ← e4]
        exact hf
     ·have h43 : op = 43 := by omega
      subst h43
      obtain ⟨hk, h0, hc⟩ := kind_axis h (by omega)
      rw [if_neg (by omega), if_pos rfl] at hc
      rcases glue_cases a.1 b.1 (nums.getD 0 0) with ⟨e, hl, her, _⟩ | e
      ·rw [e] at hc
       injection hc with hc
       have he : g.1.set (nums.getD 0 0).toNat (a.1.getD (nums.getD 0 0).toNat 0 + b.1.getD (nums.getD 0 0).toNat 0 - a.1.getD (nums.getD 0 0).toNat 0) = b.1 := by
        rw [← hc, List.set_set, show a.1.getD (nums.getD 0 0).toNat 0 + b.1.getD (nums.getD 0 0).toNat 0 - a.1.getD (nums.getD 0 0).toNat 0 = b.1.getD (nums.getD 0 0).toNat 0 by omega]
        exact set_erase hl her (by omega)
       have hf := fit_slice g.1 g.2 (nums.getD 0 0) (a.1.getD (nums.getD 0 0).toNat 0) (a.1.getD (nums.getD 0 0).toNat 0 + b.1.getD (nums.getD 0 0).toNat 0) (by rw [he]; exact hob)
       rw [he] at hf
       exact hf
      ·rw [e] at hc; injection hc with _ hc; cases hc
end
end Go.Proofs.EvM
set_option maxHeartbeats 16000000
set_option maxRecDepth 100000
set_option linter.unusedVariables false
set_option linter.unusedSimpArgs false
namespace Go.Proofs.EvM
open Go.Proofs.ShM Go.Proofs.FixM Go.Proofs.GrM Go.Proofs.InM Go.Proofs.ImM
theorem z_nil : Z0 [] := fun x h => by cases h
theorem z_getD {l : List Int} (h : Z0 l) (i : Nat) : l.getD i 0 = 0 := by
 rw [List.getD_eq_getElem?_getD]
 cases e : l[i]? with
 | none => rfl
 | some x => exact h x (List.mem_of_getElem? e)
theorem z_map {α : Type} {f : α → Int} {l : List α} (h : ∀ x ∈ l, f x = 0) : Z0 (l.map f) := fun x hx => by
 obtain ⟨y, hy, rfl⟩ := List.mem_map.1 hx
 exact h y hy
theorem z_mapE {α : Type} {f : α → Int × Int} {l : List α} (h : ∀ x ∈ l, (f x).1 = 0) : Z0 (mapE f l).1 := by
 unfold mapE
 split
 ·exact z_map h
 ·exact z_nil
theorem z_of {l : List Int} (h : ∀ i, i < l.length → l.getD i 0 = 0) : Z0 l := fun x hx => by
 obtain ⟨i, hi, rfl⟩ := List.mem_iff_getElem.1 hx
 have := h i hi
 rwa [List.getD_eq_getElem?_getD, List.getElem?_eq_getElem hi] at this
theorem z_rep {l : List Int} (h : Z0 l) : l = List.replicate l.length 0 := List.eq_replicate_iff.2 ⟨rfl, h⟩
theorem nul_err {e : Int} : Nul ([], [], e) := fun _ => z_nil
theorem mul_left (y : Int) : mulV 0 y = (0, 0) := by
 unfold mulV
 rw [Int.zero_mul, Int.zero_ediv]
 exact put_in (by omega) (by omega)
theorem mul_right (y : Int) : mulV y 0 = (0, 0) := by rw [mulV_comm]; exact mul_left y
theorem div_left (y : Int) : (divV 0 y).1 = 0 := by
 unfold divV
 split
 ·rfl
 ·rw [Int.zero_mul, Int.zero_fdiv]
  exact congrArg Prod.fst (put_in (by omega) (by omega))
theorem nul_fold {g d : List Int} (s : List Int) (h : Z0 d) : Nul (foldV g d s) := fun hz => by
 rcases fold_cases g d s with ⟨_, e⟩ | ⟨_, _, e⟩ | ⟨_, _, _, e⟩ | ⟨ht, h1, h2, e⟩
 ·rw [e]; exact z_nil
 ·rw [e]; exact z_nil
 ·rw [e]; exact z_nil
 ·have hd : d = List.replicate (sizeV g).toNat 0 := by rw [(tok_len ht).2.1]; exact z_rep h
  obtain ⟨c, e2, hl, hc⟩ := full_fold (n := 0) h1 (by omega)
  rw [← hd] at e2
  rw [e2]
  intro x hx
  obtain ⟨i, hi⟩ := List.mem_iff_getElem?.1 hx
  have h3 := (hc i x hi).1
  have h4 : i < c.length := (List.getElem?_eq_some_iff.1 hi).1
  rw [Int.zero_mul] at h3
  rcases Int.mul_eq_zero.1 h3 with h3 | h3
  ·exact h3
  ·omega
theorem nul_foldR {r : Tn} (s : List Int) (h : Nul r) : Nul (foldR r s) := by
 unfold foldR
 split
 ·rename_i h0; exact nul_fold s (h h0)
 ·exact nul_err
theorem nul_two {op : Int} (hop : op = 12 ∨ op = 13) {s xs t ys : List Int} (h : Z0 xs) : Nul (twoV op s xs t ys) := fun hz => by
 obtain ⟨j, Z, _, _, _, e, hl, _, hi⟩ := two_zero (by omega) hz
 rw [e]
 refine z_of fun i hi' => ?_
 have h1 := hi i (by rw [← hl]; exact hi')
 unfold atN at h1
 rw [z_getD h] at h1
 have h2 : (numsV op 0 (ys.getD (srcI t j i).toNat 0)).1 = 0 := by
  unfold numsV
  rcases hop with rfl | rfl
  ·rw [if_neg (by omega), if_neg (by omega)]
   first | exact congrArg Prod.fst (mul_left _) | (rw [if_pos rfl]; exact congrArg Prod.fst (mul_left _))
  ·rw [if_neg (by omega), if_neg (by omega), if_neg (by omega)]
   exact div_left _
 rw [h1] at h2
 exact h2
theorem nul_andR {op : Int} (hop : op = 12 ∨ op = 13) {r : Tn} {a : T} (h : Nul r) : Nul (andR op r a) := by
 unfold andR
 split
 ·rename_i h0; exact nul_two hop (h h0)
 ·exact nul_err
theorem nul_thenR {op : Int} (hop : op = 12 ∨ op = 13) {a : T} {r : Tn} (h : Z0 a.2) : Nul (thenR op a r) := by
 unfold thenR
 split
 ·exact nul_two hop h
 ·exact nul_err
theorem nul_neg {s xs : List Int} (h : Z0 xs) : Nul (oneV 20 s xs) := fun hz => by
 obtain ⟨Z, _, e, hl, _, hi⟩ := one_zero (by omega) hz
 rw [e]
 refine z_of fun i hi' => ?_
 have h1 := hi i (by rw [← hl]; exact hi')
 rw [z_getD h] at h1
 have h2 : (numV 20 0).1 = 0 := by decide +kernel
 rw [h1] at h2
 exact h2
theorem nul_oneR {r : Tn} (h : Nul r) : Nul (oneR 20 r) := by
 unfold oneR
 split
 ·rename_i h0; exact nul_neg (h h0)
 ·exact nul_err
theorem z_relu {a g : List Int} (h : Z0 g) : Z0 (reluG a g) := z_map fun p hp => by
 have hm := (List.of_mem_zip (a := p.1) (b := p.2) hp).2
 split
 ·exact h _ hm
 ·rfl
theorem dot_left {f g : Nat → Int} (h : ∀ k, f k = 0) : ∀ k, dotV f g k = (0, 0)
 | 0 => rfl
 | k + 1 => by
  unfold dotV
  rw [dot_left h k, h k, mul_left]
  rfl
theorem dot_right {f g : Nat → Int} (h : ∀ k, g k = 0) : ∀ k, dotV f g k = (0, 0)
 | 0 => rfl
 | k + 1 => by
  unfold dotV
  rw [dot_right h k, h k, mul_right]
  rfl
theorem nul_mat {s xs t ys : List Int} (h : Z0 xs ∨ Z0 ys) : Nul (matV s xs t ys) := by
 unfold matV
 split
 ·exact nul_err
 ·split
  ·exact nul_err
  ·split
   ·refine fun _ => z_mapE fun q _ => ?_
    unfold atQ
    rcases h with h | h
    ·exact congrArg Prod.fst (dot_left (f := rowF xs _ _) (fun k => z_getD h _) _)
    ·exact congrArg Prod.fst (dot_right (g := colF ys _ _) (fun k => z_getD h _) _)
   ·exact nul_err
theorem z_at {s d : List Int} (h : Z0 d) (t : List Int) : (atV s d t).1 = 0 := by
 unfold atV
 split
 ·exact z_getD h _
 ·rfl
theorem nul_left {g xs t ys : List Int} (h : Z0 xs) : Nul (leftV g xs t ys) := by
 unfold leftV
 split
 ·exact nul_err
 ·split
  ·exact nul_err
  ·exact nul_mat (.inl h)
theorem nul_right {s xs g ys : List Int} (h : Z0 ys) : Nul (rightV s xs g ys) := by
 unfold rightV
 split
 ·exact nul_err
 ·split
  ·exact nul_err
  ·exact nul_mat (.inr h)
theorem nul_reshape {s xs g : List Int} (h : Z0 xs) : Nul (reshapeV s xs g) := by
 unfold reshapeV
 split
 ·exact nul_err
 ·split
  ·exact fun _ => h
  ·exact nul_err
theorem nul_turn {s xs : List Int} (h : Z0 xs) : Nul (turnV s xs) := by
 unfold turnV
 split
 ·exact nul_err
 ·exact fun _ => z_map fun _ _ => z_at h _
theorem z_moved {s xs g : List Int} {k : Nat} {m : Int} (h : Z0 xs) : Z0 (movedL s xs g k m) := z_map fun _ _ => z_at h _
theorem nul_slice {s xs : List Int} {axis a b : Int} (h : Z0 xs) : Nul (sliceV s xs axis a b) := by
 unfold sliceV
 split
 ·exact nul_err
 ·split
  ·exact nul_err
  ·exact fun _ => z_moved h
theorem nul_pad {s xs : List Int} {axis a side : Int} (h : Z0 xs) : Nul (padV s xs axis a side) := by
 unfold padV
 split
 ·exact nul_err
 ·split
  ·exact nul_err
  ·exact fun _ => z_moved h
theorem nul_grow {s xs : List Int} {axis n : Int} (h : Z0 xs) : Nul (growV s xs axis n) := by
 unfold growV
 split
 ·exact nul_err
 ·split
  ·exact nul_err
  ·exact fun _ => z_map fun _ _ => z_getD h _
theorem nul_growR {r : Tn} {axis n : Int} (h : Nul r) : Nul (growR r axis n) := by
 unfold growR
 split
 ·rename_i h0; exact nul_grow (h h0)
 ·exact nul_err
section
variable {op : Int} {nums : List Int} {a b out g : T}
theorem nul_B (h : Z0 g.2) : Nul (vjB op nums a b out g) := by
 unfold vjB
 split
 ·exact nul_fold _ h
 ·split
  ·exact nul_foldR _ (nul_neg h)
  ·split
   ·exact nul_foldR _ (nul_two (.inl rfl) h)
   ·split
    ·exact nul_foldR _ (nul_oneR (nul_andR (.inr rfl) (nul_two (.inl rfl) h)))
    ·split
     ·exact nul_right h
     ·exact nul_slice h
theorem nul_A (h : Z0 g.2) : Nul (vjA op nums a b out g) := by
 unfold vjA
 split
 ·exact nul_fold _ h
 ·split
  ·rename_i h1; exact nul_foldR _ (nul_two h1 h)
  ·split
   ·exact nul_neg h
   ·split
    ·exact fun _ => z_relu h
    ·split
     ·exact nul_thenR (.inl rfl) h
     ·split
      ·exact nul_thenR (.inr rfl) h
      ·split
       ·exact nul_left h
       ·split
        ·exact nul_reshape h
        ·split
         ·exact nul_turn h
         ·unfold vjX
          split
          ·exact nul_pad h
          ·split
           ·exact nul_slice h
           ·split
            ·exact nul_grow h
            ·split
             ·exact nul_growR (nul_two (.inr rfl) h)
             ·exact nul_andR (.inl rfl) (nul_grow h)
end
theorem fit_tok {r : Tn} {s : List Int} (h : r.1 = s ∧ tokV s r.2.1 = true) : tokT (tnE r).1 = true := by
 show tokV r.1 r.2.1 = true
 rw [h.1]; exact h.2
theorem back_facts {op : Int} {nums : List Int} {args : List T} {out g : T} {inp : T} {ps : List T} (hop : 10 ≤ op) (h : nodeE op nums args inp ps = (out, 0)) :
  ((backV op nums args out g).2 ≠ 0 → (backV op nums args out g).1 = []) ∧
  ((backV op nums args out g).2 = 0 → (backV op nums args out g).1.length = args.length ∧ (∀ (k : Nat) (t : T), (backV op nums args out g).1[k]? = some t → tokT t = true ∧ ∃ a : T, args[k]? = some a ∧ t.1 = a.1) ∧
   (Z0 g.2 → ∀ t ∈ (backV op nums args out g).1, Z0 t.2)) := by
 obtain ⟨hn, hall⟩ := node_shape_e h
 have hn2 := hn
 unfold nodeV at hn2
 split at hn2
 ·rename_i hc
  rw [getD_sh, getD_sh] at hn2
  have hal : ((shT args).length : Int) = arityV op := hc.2.1
  have hlen : (args.length : Int) = arityV op := by unfold shT at hal; rwa [List.length_map] at hal
  have har : 0 ≤ arityV op := by rw [← hlen]; omega
  have hops := arity_ops har
  unfold backV
  split
  ·exact ⟨fun _ => rfl, fun h => by cases h⟩
  ·rename_i h1
   have hto : tokT out = true := by
    cases e : tokT out with
    | true => rfl
    | false => exact absurd (.inr (.inl e)) h1
   have htg : tokT g = true := by
    cases e : tokT g with
    | true => rfl
    | false => exact absurd (.inr (.inr e)) h1
   rw [hn]
   rw [if_neg (by simp)]
   split
   ·exact ⟨fun _ => rfl, fun h => by cases h⟩
   ·rename_i h2
    have hog : g.1 = out.1 := by
     by_cases e : g.1 = out.1
     ·exact e
     ·exact absurd (.inr e) h2
    rw [← hog] at hn2
    have ar2 : arityV op = if 10 ≤ op ∧ op ≤ 13 ∨ op = 30 ∨ op = 43 then 2 else 1 := by
     unfold arityV
     rw [if_neg (by omega)]
     by_cases e : 10 ≤ op ∧ op ≤ 13 ∨ op = 30 ∨ op = 43
     ·rw [if_pos (by omega), if_pos e]
     ·rw [if_neg (by omega), if_neg e, if_pos (by omega)]
    rw [if_neg (by split at ar2 <;> omega)]
    split
    ·exact ⟨fun _ => rfl, fun h => absurd h (by assumption)⟩
    ·rename_i h3
     have h3 : (vjA op nums (args.getD 0 eT) (args.getD 1 eT) out g).2.2 = 0 := by simpa using h3
     split
     ·rename_i h4
      obtain ⟨a, rfl⟩ : ∃ a, args = [a] := List.length_eq_one_iff.1 h4
      have hta : tokT a = true := List.all_eq_true.1 hall a (by simp)
      refine ⟨fun h => absurd rfl h, fun _ => ⟨rfl, fun k t hk => ?_, fun hz t ht => ?_⟩⟩
      ·match k, hk with
       | 0, hk =>
        injection hk with hk
        subst hk
        have hf := fit_A (nums := nums) (b := eT) (by omega) hta hto htg hog.symm hn2 h3
        exact ⟨fit_tok hf, a, rfl, hf.1⟩
       | k + 1, hk => cases hk
      ·rw [List.mem_singleton.1 ht]
       exact nul_A hz h3
     ·rename_i h4
      split
      ·exact ⟨fun _ => rfl, fun h => absurd h (by assumption)⟩
      ·rename_i h5
       have h5 : (vjB op nums (args.getD 0 eT) (args.getD 1 eT) out g).2.2 = 0 := by simpa using h5
       have hop2 : 10 ≤ op ∧ op ≤ 13 ∨ op = 30 ∨ op = 43 := by
        by_cases e : 10 ≤ op ∧ op ≤ 13 ∨ op = 30 ∨ op = 43
        ·exact e
        ·rw [if_neg e] at ar2; omega
       rw [if_pos hop2] at ar2
       obtain ⟨a, b, rfl⟩ : ∃ a b, args = [a, b] := by
        match args, (show args.length = 2 by omega) with
        | [a, b], _ => exact ⟨a, b, rfl⟩
       have hta : tokT a = true := List.all_eq_true.1 hall a (by simp)
       have htb : tokT b = true := List.all_eq_true.1 hall b (by simp)
       refine ⟨fun h => absurd rfl h, fun _ => ⟨rfl, fun k t hk => ?_, fun hz t ht => ?_⟩⟩
       ·match k, hk with
        | 0, hk =>
         injection hk with hk
         subst hk
         have hf := fit_A (nums := nums) (b := b) (by omega) hta hto htg hog.symm hn2 h3
         exact ⟨fit_tok hf, a, rfl, hf.1⟩
        | 1, hk =>
         injection hk with hk
         subst hk
         have hf := fit_B (nums := nums) (a := a) (b := b) (out := out) (by omega) hta htb hn2 h5
         exact ⟨fit_tok hf, b, rfl, hf.1⟩
        | k + 2, hk => cases hk
       ·rcases List.mem_cons.1 ht with ht | ht
        ·rw [ht]; exact nul_A hz h3
        ·rw [List.mem_singleton.1 ht]; exact nul_B hz h5
 ·injection hn2 with _ hn2; cases hn2
end Go.Proofs.EvM
set_option maxHeartbeats 16000000
set_option maxRecDepth 100000
set_option linter.unusedVariables false
set_option linter.unusedSimpArgs false
namespace Go.Proofs.EvM
open Go.Proofs.ShM Go.Proofs.FixM Go.Proofs.GrM Go.Proofs.InM Go.Proofs.ImM
section
variable {op : Int} {nums : List Int} {args : List T} {out g : T} {xs : List T}
theorem back_sh {inp : T} {ps : List T} (hop : 10 ≤ op) (h : nodeE op nums args inp ps = (out, 0)) (hb : backV op nums args out g = (xs, 0)) : shT xs = shT args ∧ xs.length = args.length ∧ xs.all tokT = true := by
 have bf := (back_facts (g := g) hop h).2 (by rw [hb])
 rw [hb] at bf
 obtain ⟨b1, b2, _⟩ := bf
 have b1 : xs.length = args.length := b1
 have b2 : ∀ (k : Nat) (t : T), xs[k]? = some t → tokT t = true ∧ ∃ a : T, args[k]? = some a ∧ t.1 = a.1 := b2
 refine ⟨?_, b1, ?_⟩
 ·unfold shT
  refine List.ext_getElem? fun k => ?_
  rw [List.getElem?_map, List.getElem?_map]
  cases e : xs[k]? with
  | none =>
   have : xs.length ≤ k := List.getElem?_eq_none_iff.1 e
   rw [List.getElem?_eq_none (by omega)]
  | some t =>
   obtain ⟨_, a, ha, hs⟩ := b2 k t e
   rw [ha]
   show some t.1 = some a.1
   rw [hs]
 ·rw [List.all_eq_true]
  intro t ht
  obtain ⟨k, hk⟩ := List.mem_iff_getElem?.1 ht
  exact (b2 k t hk).1
theorem node_again {inp : T} {ps : List T} (hop : 10 ≤ op) (h : nodeE op nums args inp ps = (out, 0)) (hb : backV op nums args out g = (xs, 0)) : nodeE op nums xs inp ps = kindE op nums (xs.getD 0 eT) (xs.getD 1 eT) out.1 inp ps := by
 obtain ⟨h1, h2, h3⟩ := back_sh hop h hb
 have hn := (node_shape_e h).1
 unfold nodeE
 rw [if_neg (by simp [h3]), h1, hn]
 rfl
theorem turns_back {inp : T} {ps : List T} (hop : op = 40 ∨ op = 41 ∨ op = 43) (h : nodeE op nums args inp ps = (out, 0)) (hb : backV op nums args out g = (xs, 0)) : nodeE op nums xs inp ps = (g, 0) ∧ xs.length = args.length := by
 refine ⟨?_, (back_sh (by omega) h hb).2.1⟩
 rw [node_again (by omega) h hb]
 obtain ⟨hall, hto, htg, hn0, ho1, hg1, hway⟩ := back_inv hb
 have hn := (node_shape_e h).1
 have hn2 := hn
 unfold nodeV at hn2
 split at hn2
 ·rename_i hc
  rw [getD_sh, getD_sh] at hn2
  rw [hn] at hg1
  have hg1 : g.1 = out.1 := hg1
  rw [← hg1] at hn2 ⊢
  have htg' : tokV g.1 g.2 = true := htg
  have hal : ((shT args).length : Int) = arityV op := hc.2.1
  have hlen : (args.length : Int) = arityV op := by unfold shT at hal; rwa [List.length_map] at hal
  rcases hway with ⟨h0, _⟩ | ⟨h0, hA, hway⟩
  ·exfalso
   rw [h0] at hlen
   rcases hop with rfl | rfl | rfl <;> exact absurd hlen (by decide)
  rcases hop with rfl | rfl | rfl
  ·rcases hway with ⟨_, rfl⟩ | ⟨h2, _⟩
   ·have he : vjA 40 nums (args.getD 0 eT) (args.getD 1 eT) out g = reshapeV g.1 g.2 (args.getD 0 eT).1 := rfl
    rw [he] at hA ⊢
    have hs : nums = g.1 := by
     unfold kindV at hn2
     rw [if_neg (by omega), if_neg (by omega), if_neg (by omega), if_neg (by omega), if_neg (by omega), if_pos rfl] at hn2
     rcases told_cases nums (decide (sizeV nums = sizeV (args.getD 0 eT).1)) with ⟨e, _, _⟩ | e
     ·rw [e] at hn2; injection hn2
     ·rw [e] at hn2; injection hn2 with _ hn2; cases hn2
    have hoa : okS (args.getD 0 eT).1 = true := by
     have := ok_getD hc.2.2 0
     rwa [getD_sh] at this
    obtain ⟨f1, f2⟩ := fit_reshape g.1 g.2 _ hoa hA
    have hd : (reshapeV g.1 g.2 (args.getD 0 eT).1).2.1 = g.2 := by
     unfold reshapeV at hA ⊢
     rw [if_neg (by simp [htg'])] at hA ⊢
     split
     ·rfl
     ·rename_i h3; rw [if_neg h3] at hA; cases hA
    rw [hd] at f2
    show tnE (reshapeV (reshapeV g.1 g.2 (args.getD 0 eT).1).1 (reshapeV g.1 g.2 (args.getD 0 eT).1).2.1 nums) = (g, 0)
    rw [f1, hd, hs]
    unfold reshapeV
    rw [if_neg (fun h => by rw [f2] at h; cases h), if_pos (Go.Proofs.ImM.tok_iff.1 htg).2.symm]
    rfl
   ·exfalso
    have : arityV 40 = 1 := by decide
    omega
  ·rcases hway with ⟨_, rfl⟩ | ⟨h2, _⟩
   ·have he : vjA 41 nums (args.getD 0 eT) (args.getD 1 eT) out g = turnV g.1 g.2 := rfl
    rw [he, turn_is htg']
    show tnE (turnV g.1.reverse (turnD g.1 g.2)) = (g, 0)
    rw [turn_twice htg']
    rfl
   ·exfalso
    have : arityV 41 = 1 := by decide
    omega
  ·rcases hway with ⟨h2, _⟩ | ⟨_, hB, rfl⟩
   ·exfalso
    have : arityV 43 = 2 := by decide
    omega
   ·obtain ⟨hk, hk0, hcc⟩ := kind_axis hn2 (by omega)
    obtain ⟨k, hkk⟩ : ∃ k : Nat, nums.getD 0 0 = (k : Int) := ⟨(nums.getD 0 0).toNat, by omega⟩
    have hoa : okS (args.getD 0 eT).1 = true := by
     have := ok_getD hc.2.2 0
     rwa [getD_sh] at this
    have hob : okS (args.getD 1 eT).1 = true := by
     have := ok_getD hc.2.2 1
     rwa [getD_sh] at this
    rw [if_neg (by omega), if_pos rfl] at hcc
    generalize args.getD 0 eT = a at *
    generalize args.getD 1 eT = b at *
    rw [hkk, Int.toNat_natCast] at hk
    rcases glue_cases a.1 b.1 (nums.getD 0 0) with ⟨e, hl, her, ho⟩ | e
    ·rw [e] at hcc
     injection hcc with hcc
     rw [hkk, Int.toNat_natCast] at hcc her ho
     have sa := (getD_side (ok_iff.1 hoa).2.1 hk).1
     have sb := (getD_side (ok_iff.1 hob).2.1 (a := k) (by omega)).1
     have hgl : k < g.1.length := by rw [← hcc, List.length_set]; exact hk
     have hgk : g.1.getD k 0 = a.1.getD k 0 + b.1.getD k 0 := by rw [← hcc]; exact set_at hk
     have hgx : g.1[k]? = some (a.1.getD k 0 + b.1.getD k 0) := by rw [← hgk, List.getD_eq_getElem?_getD, List.getElem?_eq_getElem hgl]; rfl
     have o1 : okS (g.1.set k (a.1.getD k 0)) = true := by rw [← hcc, List.set_set, set_self' hk]; exact hoa
     have o2 : okS (g.1.set k (b.1.getD k 0)) = true := by rw [← hcc, List.set_set, set_erase hl her (by omega)]; exact hob
     have eA : vjA 43 nums a b out g = sliceV g.1 g.2 (nums.getD 0 0) 0 (a.1.getD (nums.getD 0 0).toNat 0) := rfl
     have eB : vjB 43 nums a b out g = sliceV g.1 g.2 (nums.getD 0 0) (a.1.getD (nums.getD 0 0).toNat 0) (a.1.getD (nums.getD 0 0).toNat 0 + b.1.getD (nums.getD 0 0).toNat 0) := rfl
     have hgp := glue_parts (m := a.1.getD k 0) htg' hgl (by omega) (by omega) o1 (by rw [hgk, show a.1.getD k 0 + b.1.getD k 0 - a.1.getD k 0 = b.1.getD k 0 by omega]; exact o2)
     rw [eA, eB, hkk, Int.toNat_natCast, slice_is htg' hgx (Int.le_refl 0) (by omega) (by omega), slice_is htg' hgx (by omega) (by omega) (Int.le_refl _)]
     rw [hgk] at hgp
     rw [Int.sub_zero]
     show tnE (glueV _ _ _ _ (nums.getD 0 0)) = (g, 0)
     rw [hkk]
     exact (congrArg tnE hgp)
    ·rw [e] at hcc; injection hcc with _ hcc; cases hcc
 ·injection hn2 with _ hn2; cases hn2
end
end Go.Proofs.EvM
set_option maxHeartbeats 16000000
set_option maxRecDepth 100000
set_option linter.unusedVariables false
set_option linter.unusedSimpArgs false
namespace Go.Proofs.EvM
open Go.Proofs.ShM Go.Proofs.FixM Go.Proofs.GrM Go.Proofs.InM Go.Proofs.ImM
theorem turns_err {op : Int} {nums : List Int} {args : List T} {out g : T} {xs : List T} {f : Int} {inp : T} {ps : List T} (hop : op = 40 ∨ op = 41 ∨ op = 43) (h : nodeE op nums args inp ps = (out, 0)) (hb : backV op nums args out g = (xs, f)) : f = 0 ∨ f = 30 ∨ f = 20 := by
 have hn := (node_shape_e h).1
 have hsl : ∀ (s xs : List Int) (axis a b : Int), (sliceV s xs axis a b).2.2 = 0 ∨ (sliceV s xs axis a b).2.2 = 30 ∨ (sliceV s xs axis a b).2.2 = 20 := by
  intro s xs axis a b
  unfold sliceV
  split
  ·exact .inr (.inl rfl)
  ·split
   ·exact .inr (.inr rfl)
   ·exact .inl rfl
 have hA : (vjA op nums (args.getD 0 eT) (args.getD 1 eT) out g).2.2 = 0 ∨ (vjA op nums (args.getD 0 eT) (args.getD 1 eT) out g).2.2 = 30 ∨ (vjA op nums (args.getD 0 eT) (args.getD 1 eT) out g).2.2 = 20 := by
  rcases hop with rfl | rfl | rfl
  ·show (reshapeV _ _ _).2.2 = 0 ∨ (reshapeV _ _ _).2.2 = 30 ∨ (reshapeV _ _ _).2.2 = 20
   unfold reshapeV
   split
   ·exact .inr (.inl rfl)
   ·split
    ·exact .inl rfl
    ·exact .inr (.inr rfl)
  ·show (turnV _ _).2.2 = 0 ∨ (turnV _ _).2.2 = 30 ∨ (turnV _ _).2.2 = 20
   unfold turnV
   split
   ·exact .inr (.inl rfl)
   ·exact .inl rfl
  ·exact hsl _ _ _ _ _
 unfold backV at hb
 rw [hn] at hb
 split at hb
 ·injection hb with _ hb; exact .inr (.inl hb.symm)
 ·split at hb
  ·rename_i h2; exact absurd rfl h2
  ·split at hb
   ·injection hb with _ hb; exact .inr (.inr hb.symm)
   ·split at hb
    ·injection hb with _ hb; exact .inl hb.symm
    ·split at hb
     ·injection hb with _ hb; rw [← hb]; exact hA
     ·split at hb
      ·injection hb with _ hb; exact .inl hb.symm
      ·rename_i h6
       split at hb
       ·injection hb with _ hb
        rw [← hb]
        have hop2 : op = 43 := by
         rcases hop with e | e | e
         ·subst e
          exfalso
          have hc := hn
          unfold nodeV at hc
          split at hc
          ·rename_i hcc
           have h7 := hcc.2.1
           unfold shT at h7
           rw [List.length_map] at h7
           have h8 : (args.length : Int) = 1 := h7
           omega
          ·injection hc with _ hc; cases hc
         ·subst e
          exfalso
          have hc := hn
          unfold nodeV at hc
          split at hc
          ·rename_i hcc
           have h7 := hcc.2.1
           unfold shT at h7
           rw [List.length_map] at h7
           have h8 : (args.length : Int) = 1 := h7
           omega
          ·injection hc with _ hc; cases hc
         ·exact e
        subst hop2
        exact hsl _ _ _ _ _
       ·injection hb with _ hb; exact .inl hb.symm
end Go.Proofs.EvM
set_option maxHeartbeats 16000000
set_option maxRecDepth 100000
set_option linter.unusedVariables false
set_option linter.unusedSimpArgs false
namespace Go.Proofs.YtjkdcegmdfmjpaaGreat
open Go.RowKit Go.Proofs.ShM Go.Proofs.GrM Go.Proofs.InM Go.Proofs.ImM Go.Proofs.EvM
def Few1 (P Q : Option Addr) (a b e f : Nat) (w : World) (q : Bool) : Prop := ∀ W, Kp w W → Calls Tryz.prog 8 #[.agg #[.slice P a e, .slice Q b f]] W fun e w' => e = .returned (.bool q) ∧ Kp W w'
theorem few_1 {P Q : Option Addr} {e f : Nat} {t : T} {w : World} (hT : TRc w P e Q f t) {q : Bool} (hq : fewV t.1.length t.2.length = q) : Few1 P Q t.1.length t.2.length e f w q := fun W k => by rw [← hq]; exact few_any P Q e f _ _ W hT.r.s.len hT.r.d.len
end Go.Proofs.YtjkdcegmdfmjpaaGreat
