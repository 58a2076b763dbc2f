import Derived.Test.YtjkdcegmdfmjpaaGreatTk
import Derived.Test.YtjkdcegmdfmjpaaGreatVjTuS
import Derived.Test.YtjkdcegmdfmjpaaGreatVjSm
import Derived.Test.YtjkdcegmdfmjpaaGreatVjQ
import Derived.Deep.RegionHeld3
import Derived.Deep.RegionWith
import Derived.Deep.RegionLaw
import Derived.BigQuiet
set_option maxHeartbeats 16000000
set_option maxRecDepth 100000
set_option linter.unusedVariables false
set_option linter.unusedSimpArgs false
namespace Go.Proofs.YtjkdcegmdfmjpaaGreat
open Go.RowKit Go.Proofs.ShM Go.Proofs.GrM Go.Proofs.InM Go.Proofs.ImM Go.Proofs.EvM
def dsum (x y : List Int) : List Int := (List.range x.length).map fun i => x.getD i 0 + y.getD i 0
theorem dsum_len (x y : List Int) : (dsum x y).length = x.length := by simp [dsum]
theorem dsum_sum {x y : List Int} (h : x.length = y.length) : Sum2 (dsum x y) x y :=
 sum2_of (dsum_len x y) (by rw [dsum_len, h]) fun i hi => map_getD (by rwa [dsum_len] at hi)
theorem dsum_at {x y : List Int} {k : Nat} {u v : Int} (hx : x[k]? = some u) (hy : y[k]? = some v) : (dsum x y)[k]? = some (u + v) := by
 have hk := (List.getElem?_eq_some_iff.1 hx).1
 unfold dsum
 rw [List.getElem?_map, List.getElem?_range hk]
 simp [List.getD, hx, hy]
theorem dsum_step {x y : List Int} {k : Nat} {u v : Int} (hx : x[k]? = some u) (hy : y[k]? = some v) : (dsum x y).take (k + 1) = (dsum x y).take k ++ [u + v] := by
 rw [List.take_add_one, dsum_at hx hy]; rfl
theorem dsum_64 {x y : List Int} (bx : Bd x) (hb : Bd y) : N64 (dsum x y) := fun n hn => by
 unfold dsum at hn
 obtain ⟨i, _, rfl⟩ := List.mem_map.1 hn
 have h1 := bx i
 have h2 := hb i
 omega
theorem back_lens {op : Int} {nums : List Int} {args : List T} {out g h : T} {xs ys : List T} (hb : backV op nums args out g = (xs, 0)) (hc : backV op nums args out h = (ys, 0)) : g.2.length = h.2.length := by
 obtain ⟨_, _, h3, _, _, h6, _⟩ := back_inv hb
 obtain ⟨_, _, g3, _, _, g6, _⟩ := back_inv hc
 obtain ⟨_, h7⟩ := Go.Proofs.ImM.tok_iff.1 h3
 obtain ⟨_, g7⟩ := Go.Proofs.ImM.tok_iff.1 g3
 rw [h6] at h7
 rw [g6] at g7
 omega
def movesB (op : Int) : Bool := decide (op = 10) || (decide (op = 11) || (decide (op = 20) || (decide (40 ≤ op ∧ op ≤ 50) || decide (op = 21))))
theorem moves_add {op : Int} (h : movesB op = true) {nums : List Int} {args : List T} {inp : T} {ps : List T} {out : T} (hn : nodeE op nums args inp ps = (out, 0)) {g : T} {xs : List T} (hb : backV op nums args out g = (xs, 0)) : AddOp op := by
 obtain ⟨_, _, _, h4, _, _, _⟩ := back_inv hb
 have hr : 0 ≤ arityV op := by
  unfold nodeV at h4
  split at h4
  ·rename_i h; exact (alone_iff.1 h.1).1
  ·cases h4
 unfold arityV at hr
 unfold movesB at h
 simp only [Bool.or_eq_true, decide_eq_true_eq] at h
 unfold AddOp
 split at hr
 ·omega
 ·split at hr
  ·omega
  ·split at hr
   ·omega
   ·omega
theorem vadds_far (HW : ∀ w : World, Calls Tryz.prog 6 #[] w fun e w' => e = .returned (.bool true) ∧ Kp w w') (PA PN S P Q P2 Q2 : Option Addr) (na nb ca cb g h a b e f a2 b2 e2 f2 : Nat) (op : Int) (w : World) (la : na ≤ 9223372036854775807) (lb : nb ≤ 9223372036854775807)
  (hh : movesB op = false ∨ movesB op = true ∧ (30 < na ∨ na ≤ 30 ∧ (30 < nb ∨ nb ≤ 30 ∧ (FewT S g h w false ∨ FewT S g h w true ∧ ((∀ V, Kp w V → Calls Tryz.prog 14 #[.agg #[.slice P a e, .slice Q b f]] V fun e w' => e = .returned (.bool false) ∧ Kp V w') ∨ (∀ V, Kp w V → Calls Tryz.prog 14 #[.agg #[.slice P a e, .slice Q b f]] V fun e w' => e = .returned (.bool true) ∧ Kp V w') ∧ (∀ V, Kp w V → Calls Tryz.prog 14 #[.agg #[.slice P2 a2 e2, .slice Q2 b2 f2]] V fun e w' => e = .returned (.bool false) ∧ Kp V w')))))) :
  Calls Tryz.prog 4 #[.agg #[.int .i64 op, .slice PA na ca, .slice PN nb cb], .slice S g h, .agg #[.slice P a e, .slice Q b f], .agg #[.slice P2 a2 e2, .slice Q2 b2 f2]] w fun e w' => e = .returned (.bool true) ∧ Kp w w' := by
 have HAW := lH HW
 clear HW
 have F4 : Hid (Nb (((w.alloc (.cells #[.int .i64 op, .slice PA na ca, .slice PN nb cb] 24)).alloc (.cells #[.slice P a e, .slice Q b f] 27)).alloc (.cells #[.slice P2 a2 e2, .slice Q2 b2 f2] 27)) w.heap.size op PA na ca PN nb cb) := ((Nb.new rfl).alloc_ _).alloc_ _
 have F6 : Hid (Bk (((w.alloc (.cells #[.int .i64 op, .slice PA na ca, .slice PN nb cb] 24)).alloc (.cells #[.slice P a e, .slice Q b f] 27)).alloc (.cells #[.slice P2 a2 e2, .slice Q2 b2 f2] 27)) (w.heap.size + 1) P a e Q b f) := (Bk.new (by simp)).alloc_ _
 have F7 : Hid (Bk (((w.alloc (.cells #[.int .i64 op, .slice PA na ca, .slice PN nb cb] 24)).alloc (.cells #[.slice P a e, .slice Q b f] 27)).alloc (.cells #[.slice P2 a2 e2, .slice Q2 b2 f2] 27)) (w.heap.size + 1 + 1) P2 a2 e2 Q2 b2 f2) := Bk.new (by simp)
 have K0 : Hid (Kp w (((w.alloc (.cells #[.int .i64 op, .slice PA na ca, .slice PN nb cb] 24)).alloc (.cells #[.slice P a e, .slice Q b f] 27)).alloc (.cells #[.slice P2 a2 e2, .slice Q2 b2 f2] 27))) := gal (gal (Kp.alloc_ _ _) _) _
 obtain ⟨mv, hmv⟩ := eX (movesB op)
 rw [← hmv] at hh
 have HMV := lH hmv
 have HHH := lH hh
 clear hmv hh
 go_enter Tryz.func4, Tryz.ntmps4
 go_wp2_with fail
 refine (HAW.out _).mono ?_; rintro e0 w1 ⟨rfl, k_⟩
 have K := lH (K0.out.tr k_)
 have F4 := lH (F4.out.kp k_)
 have F6 := lH (F6.out.kp k_)
 have F7 := lH (F7.out.kp k_)
 have n0 := F4.out.c0
 have n1 := F4.out.c1
 have n2 := F4.out.c2
 clear k_
 go_upto_region 2 with fail
 go_cut [10] (fun v wx => v = .bool mv ∧ wx = w1)
 case first =>
  have hm := HMV.out
  unfold movesB at hm
  by_cases x1 : op = 10
  ·obtain rfl : mv = true := by rw [hm]; simp [x1]
   have y1 : (op == 10) = true := by simpa using x1
   clear hm x1
   go_wp2
   go_meet
   exact ⟨rfl, rfl⟩
  ·by_cases x2 : op = 11
   ·obtain rfl : mv = true := by rw [hm]; simp [x2]
    have y1 : (op == 10) = false := by simpa using x1
    have y2 : (op == 11) = true := by simpa using x2
    clear hm x1 x2
    go_wp2
    go_meet
    exact ⟨rfl, rfl⟩
   ·by_cases x3 : op = 20
    ·obtain rfl : mv = true := by rw [hm]; simp [x3]
     have y1 : (op == 10) = false := by simpa using x1
     have y2 : (op == 11) = false := by simpa using x2
     have y3 : (op == 20) = true := by simpa using x3
     clear hm x1 x2 x3
     go_wp2
     go_meet
     exact ⟨rfl, rfl⟩
    ·by_cases x4 : 40 ≤ op
     ·by_cases x5 : op ≤ 50
      ·obtain rfl : mv = true := by rw [hm]; simp [x4, x5]
       have y1 : (op == 10) = false := by simpa using x1
       have y2 : (op == 11) = false := by simpa using x2
       have y3 : (op == 20) = false := by simpa using x3
       clear hm x1 x2 x3
       go_wp2
       go_meet
       exact ⟨rfl, rfl⟩
      ·obtain rfl : mv = false := by rw [hm]; simp; omega
       have y1 : (op == 10) = false := by simpa using x1
       have y2 : (op == 11) = false := by simpa using x2
       have y3 : (op == 20) = false := by simpa using x3
       have y4 : (op == 21) = false := by rw [beq_eq_false_iff_ne]; omega
       clear hm x1 x2 x3
       go_wp2
       go_meet
       exact ⟨rfl, rfl⟩
     ·have y1 : (op == 10) = false := by simpa using x1
      have y2 : (op == 11) = false := by simpa using x2
      have y3 : (op == 20) = false := by simpa using x3
      by_cases x6 : op = 21
      ·obtain rfl : mv = true := by rw [hm]; simp [x6]
       have y4 : (op == 21) = true := by simpa using x6
       clear hm x1 x2 x3 x6
       go_wp2
       go_meet
       exact ⟨rfl, rfl⟩
      ·obtain rfl : mv = false := by rw [hm]; simp; omega
       have y4 : (op == 21) = false := by simpa using x6
       clear hm x1 x2 x3 x6
       go_wp2
       go_meet
       exact ⟨rfl, rfl⟩
 case rest =>
  obtain ⟨rfl, hwc⟩ := hcut
  subst hwc
  rcases HHH.out with h1 | ⟨h1, h2 | ⟨h2, h3 | ⟨h3, h4 | ⟨h4, h5⟩⟩⟩⟩
  ·subst h1
   clear HHH HMV
   go_wp2
   go_ret
   exact ⟨rfl, K.out⟩
  ·subst h1
   have i1 : (30 : Int) < (na : Int) := by omega
   clear HHH HMV h2
   go_wp2
   go_ret
   exact ⟨rfl, K.out⟩
  ·subst h1
   have i1 : ¬ (30 : Int) < (na : Int) := by omega
   have i2 : (30 : Int) < (nb : Int) := by omega
   clear HHH HMV h2 h3
   go_wp2
   go_ret
   exact ⟨rfl, K.out⟩
  ·subst h1
   have i1 : ¬ (30 : Int) < (na : Int) := by omega
   have i2 : ¬ (30 : Int) < (nb : Int) := by omega
   have H4 := lH h4
   clear HHH HMV h2 h3 h4
   go_wp2_with fail
   refine (H4.out _ K.out).mono ?_; rintro e0 w2 ⟨rfl, k_⟩
   have K := lH (K.out.tr k_)
   clear k_
   go_wp2
   go_ret
   exact ⟨rfl, K.out⟩
  ·subst h1
   have i1 : ¬ (30 : Int) < (na : Int) := by omega
   have i2 : ¬ (30 : Int) < (nb : Int) := by omega
   have H4 := lH h4
   have H5 := lH h5
   clear HHH HMV h2 h3 h4 h5
   go_wp2_with fail
   refine (H4.out _ K.out).mono ?_; rintro e0 w2 ⟨rfl, k_⟩
   have K := lH (K.out.tr k_)
   have F4 := lH (F4.out.kp k_)
   have F6 := lH (F6.out.kp k_)
   have F7 := lH (F7.out.kp k_)
   have p0 := F6.out.c0
   have p1 := F6.out.c1
   clear k_ n0 n1 n2
   rcases H5.out with h5 | ⟨h5, h6⟩
   ·have H6 := lH h5
    clear H5 h5
    go_wp2_with fail
    refine (H6.out _ K.out).mono ?_; rintro e0 w3 ⟨rfl, k_⟩
    have K := lH (K.out.tr k_)
    clear k_
    go_wp2
    go_ret
    exact ⟨rfl, K.out⟩
   ·have H6 := lH h5
    have H7 := lH h6
    clear H5 h5 h6
    go_wp2_with fail
    refine (H6.out _ K.out).mono ?_; rintro e0 w3 ⟨rfl, k_⟩
    have K := lH (K.out.tr k_)
    have F4 := lH (F4.out.kp k_)
    have F6 := lH (F6.out.kp k_)
    have F7 := lH (F7.out.kp k_)
    have p2 := F7.out.c0
    have p3 := F7.out.c1
    clear k_ p0 p1
    go_wp2_with fail
    refine (H7.out _ K.out).mono ?_; rintro e0 w4 ⟨rfl, k_⟩
    have K := lH (K.out.tr k_)
    clear k_
    go_wp2
    go_ret
    exact ⟨rfl, K.out⟩
end Go.Proofs.YtjkdcegmdfmjpaaGreat
