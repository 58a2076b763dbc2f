/- Layer 7's calls with their answers written out; those whose answers the document fixes are as it says (awake). -/
import Derived.Test.YtepnhmdjglpmeaaMmF
import Derived.Test.YtepnhmdjglpmeaaRdAll
namespace Go.Proofs.Ytepnhmdjglpmeaa
open Go.ChangeShapes Go.WideShapes Go.ChangeAt Go.RowKit Go.Proofs.ShM
set_option linter.unusedVariables false

section
variable {A B C D : Option Addr} {c d e f n m p q a b : Nat} {l k : List Int} {err : Int} {w : World}
theorem pmat_u (s xs t ys : List Int) (h : TR w A s B xs) (h2 : TR w C t D ys) (hi : I64s xs) (hj : I64s ys) (hn : n = s.length) (hm : m = xs.length) (hp : p = t.length) (hq : q = ys.length) (hr : matV s xs t ys = (l, k, err)) (ha : l.length = a) (hb : k.length = b) :
    Calls Try.prog 11 #[.agg #[.slice A n c, .slice B m d], .agg #[.slice C p e, .slice D q f]] w (RetU l k a b err w) := by
  subst hn hm hp hq
  exact (pmat_pre A B C D c d e f s xs t ys w h.s h.d h2.s h2.d hi hj).mono fun _ _ r => r.u hr ha hb
theorem rmat_u (s xs t ys : List Int) (h : TR w A s B xs) (h2 : TR w C t D ys) (hi : I64s xs) (hj : I64s ys) (hn : n = s.length) (hm : m = xs.length) (hp : p = t.length) (hq : q = ys.length) (hr : matV s xs t ys = (l, k, err)) (ha : l.length = a) (hb : k.length = b) :
    Calls Try.prog 12 #[.agg #[.slice A n c, .slice B m d], .agg #[.slice C p e, .slice D q f]] w (RetU l k a b err w) := by
  subst hn hm hp hq
  exact (rmat_any A B C D c d e f s xs t ys w h.s h.d h2.s h2.d hi hj).mono fun _ _ r => r.u hr ha hb
theorem pleft_u (s xs t ys : List Int) (h : TR w A s B xs) (h2 : TR w C t D ys) (hi : I64s xs) (hj : I64s ys) (hn : n = s.length) (hm : m = xs.length) (hp : p = t.length) (hq : q = ys.length) (hr : leftV s xs t ys = (l, k, err)) (ha : l.length = a) (hb : k.length = b) :
    Calls Try.prog 14 #[.agg #[.slice A n c, .slice B m d], .agg #[.slice C p e, .slice D q f]] w (RetU l k a b err w) := by
  subst hn hm hp hq
  exact (pleft_any A B C D c d e f s xs t ys w h.s h.d h2.s h2.d hi hj).mono fun _ _ r => r.u hr ha hb
theorem rleft_u (s xs t ys : List Int) (h : TR w A s B xs) (h2 : TR w C t D ys) (hi : I64s xs) (hj : I64s ys) (hn : n = s.length) (hm : m = xs.length) (hp : p = t.length) (hq : q = ys.length) (hr : leftV s xs t ys = (l, k, err)) (ha : l.length = a) (hb : k.length = b) :
    Calls Try.prog 15 #[.agg #[.slice A n c, .slice B m d], .agg #[.slice C p e, .slice D q f]] w (RetU l k a b err w) := by
  subst hn hm hp hq
  exact (rleft_any A B C D c d e f s xs t ys w h.s h.d h2.s h2.d hi hj).mono fun _ _ r => r.u hr ha hb
theorem pright_u (s xs t ys : List Int) (h : TR w A s B xs) (h2 : TR w C t D ys) (hi : I64s xs) (hj : I64s ys) (hn : n = s.length) (hm : m = xs.length) (hp : p = t.length) (hq : q = ys.length) (hr : rightV s xs t ys = (l, k, err)) (ha : l.length = a) (hb : k.length = b) :
    Calls Try.prog 16 #[.agg #[.slice A n c, .slice B m d], .agg #[.slice C p e, .slice D q f]] w (RetU l k a b err w) := by
  subst hn hm hp hq
  exact (pright_any A B C D c d e f s xs t ys w h.s h.d h2.s h2.d hi hj).mono fun _ _ r => r.u hr ha hb
theorem rright_u (s xs t ys : List Int) (h : TR w A s B xs) (h2 : TR w C t D ys) (hi : I64s xs) (hj : I64s ys) (hn : n = s.length) (hm : m = xs.length) (hp : p = t.length) (hq : q = ys.length) (hr : rightV s xs t ys = (l, k, err)) (ha : l.length = a) (hb : k.length = b) :
    Calls Try.prog 17 #[.agg #[.slice A n c, .slice B m d], .agg #[.slice C p e, .slice D q f]] w (RetU l k a b err w) := by
  subst hn hm hp hq
  exact (rright_any A B C D c d e f s xs t ys w h.s h.d h2.s h2.d hi hj).mono fun _ _ r => r.u hr ha hb
end

set_option maxHeartbeats 4000000 in
set_option maxRecDepth 100000 in
theorem mmawake_any (w : World) : Calls Try.prog 9 #[] w fun e w' => e = .returned (.bool true) ∧ Kp w w' := by
  have iA : I64s [4294967296, 8589934592] := by unfold I64s; decide
  have iB : I64s [12884901888, 17179869184] := by unfold I64s; decide
  have iP : I64s [47244640256] := by unfold I64s; decide
  go_enter Try.func9, Try.ntmps9
  go_wp2_with fail
  obtain ⟨W0, HW0⟩ : ∃ W0, Hid (W0 = (((((w.alloc (.cells #[.int .i64 1, .int .i64 2] 3)).alloc (.cells #[.int .i64 4294967296, .int .i64 8589934592] 3)).alloc (.cells #[.slice (some ⟨w.heap.size, 0, none⟩) 2 2, .slice (some ⟨w.heap.size + 1, 0, none⟩) 2 2] 24)).alloc (.cells #[.int .i64 2, .int .i64 1] 3)).alloc (.cells #[.int .i64 12884901888, .int .i64 17179869184] 3)).alloc (.cells #[.slice (some ⟨w.heap.size + 1 + 1 + 1, 0, none⟩) 2 2, .slice (some ⟨w.heap.size + 1 + 1 + 1 + 1, 0, none⟩) 2 2] 24)) := ⟨_, rfl⟩
  have K : Hid (Kp w W0) := by show Kp w W0; rw [HW0.out]; exact (((((Kp.alloc_ _ _).al _).al _).al _).al _).al _
  have T : Hid (TR W0 (some ⟨w.heap.size, 0, none⟩) [1, 2] (some ⟨w.heap.size + 1, 0, none⟩) [4294967296, 8589934592]) := by
    show TR W0 _ _ _ _; rw [HW0.out]
    exact ⟨(((((Rd.two_ rfl).alloc_ _).alloc_ _).alloc_ _).alloc_ _).alloc_ _, ((((Rd.two_ (by simp)).alloc_ _).alloc_ _).alloc_ _).alloc_ _⟩
  have U : Hid (TR W0 (some ⟨w.heap.size + 1 + 1 + 1, 0, none⟩) [2, 1] (some ⟨w.heap.size + 1 + 1 + 1 + 1, 0, none⟩) [12884901888, 17179869184]) := by
    show TR W0 _ _ _ _; rw [HW0.out]
    exact ⟨((Rd.two_ (by simp)).alloc_ _).alloc_ _, (Rd.two_ (by simp)).alloc_ _⟩
  have TB : Hid (Bk W0 (w.heap.size + 1 + 1) (some ⟨w.heap.size, 0, none⟩) 2 2 (some ⟨w.heap.size + 1, 0, none⟩) 2 2) := by
    show Bk W0 _ _ _ _ _ _ _; rw [HW0.out]; exact (((Bk.new (by simp)).alloc_ _).alloc_ _).alloc_ _
  have UB : Hid (Bk W0 (w.heap.size + 1 + 1 + 1 + 1 + 1) (some ⟨w.heap.size + 1 + 1 + 1, 0, none⟩) 2 2 (some ⟨w.heap.size + 1 + 1 + 1 + 1, 0, none⟩) 2 2) := by
    show Bk W0 _ _ _ _ _ _ _; rw [HW0.out]; exact Bk.new (by simp)
  rw [← HW0.out]
  have ztb0 := TB.out.c0
  have ztb1 := TB.out.c1
  have ztb2 := TB.out.lt
  have zub0 := UB.out.c0
  have zub1 := UB.out.c1
  have zub2 := UB.out.lt
  refine (pmat_u [1, 2] [4294967296, 8589934592] [2, 1] [12884901888, 17179869184] T.out U.out iA iB rfl rfl rfl rfl (l := [1, 1]) (k := [47244640256]) (err := 0) (a := 2) (b := 1) (by decide +kernel) rfl rfl).mono ?_; rintro e0 w1 ⟨A1, c1, B1, d1, rfl, r1, k1⟩
  have K := Lib.hid (K.out.tr k1)
  have TB := Lib.hid (TB.out.kp k1)
  have UB := Lib.hid (UB.out.kp k1)
  have T := Lib.hid (T.out.kp k1)
  have U := Lib.hid (U.out.kp k1)
  have P := Lib.hid r1
  clear k1 r1 ztb0 ztb1 ztb2 zub0 zub1 zub2
  have zub0 := UB.out.c0
  have zub1 := UB.out.c1
  have zub2 := UB.out.lt
  go_wp2_with fail
  refine (pleft_u [1, 1] [47244640256] [2, 1] [12884901888, 17179869184] (P.out.alloc_ _) (U.out.alloc_ _) iP iB rfl rfl rfl rfl (l := [1, 2]) (k := [141733920768, 188978561024]) (err := 0) (a := 2) (b := 2) (by decide +kernel) rfl rfl).mono ?_; rintro e0 w2 ⟨A2, c2, B2, d2, rfl, r2, k2⟩
  have K := Lib.hid ((K.out.al _).tr k2)
  have TB := Lib.hid ((TB.out.alloc_ _).kp k2)
  have UB := Lib.hid ((UB.out.alloc_ _).kp k2)
  have T := Lib.hid ((T.out.alloc_ _).kp k2)
  have U := Lib.hid ((U.out.alloc_ _).kp k2)
  have P := Lib.hid ((P.out.alloc_ _).kp k2)
  have PB : Hid (Bk w2 w1.heap.size A1 2 c1 B1 1 d1) := (Bk.new rfl).kp k2
  have L := Lib.hid r2
  clear k2 r2 zub0 zub1 zub2
  have ztb0 := TB.out.c0
  have ztb1 := TB.out.c1
  have ztb2 := TB.out.lt
  have zpb0 := PB.out.c0
  have zpb1 := PB.out.c1
  have zpb2 := PB.out.lt
  go_wp2_with fail
  refine (pright_u [1, 2] [4294967296, 8589934592] [1, 1] [47244640256] (T.out.alloc_ _) (P.out.alloc_ _) iA iP rfl rfl rfl rfl (l := [2, 1]) (k := [47244640256, 94489280512]) (err := 0) (a := 2) (b := 2) (by decide +kernel) rfl rfl).mono ?_; rintro e0 w3 ⟨A3, c3, B3, d3, rfl, r3, k3⟩
  have K := Lib.hid ((K.out.al _).tr k3)
  have TB := Lib.hid ((TB.out.alloc_ _).kp k3)
  have UB := Lib.hid ((UB.out.alloc_ _).kp k3)
  have PB := Lib.hid ((PB.out.alloc_ _).kp k3)
  have T := Lib.hid ((T.out.alloc_ _).kp k3)
  have U := Lib.hid ((U.out.alloc_ _).kp k3)
  have P := Lib.hid ((P.out.alloc_ _).kp k3)
  have L := Lib.hid ((L.out.alloc_ _).kp k3)
  have LB : Hid (Bk w3 w2.heap.size A2 2 c2 B2 2 d2) := (Bk.new rfl).kp k3
  have R := Lib.hid r3
  clear k3 r3 ztb0 ztb1 ztb2 zpb0 zpb1 zpb2
  have ztb0 := TB.out.c0
  have ztb1 := TB.out.c1
  have ztb2 := TB.out.lt
  go_wp2_with fail
  refine (pmat_u [1, 2] [4294967296, 8589934592] [1, 2] [4294967296, 8589934592] (T.out.alloc_ _) (T.out.alloc_ _) iA iA rfl rfl rfl rfl (l := []) (k := []) (err := 20) (a := 0) (b := 0) (by decide +kernel) rfl rfl).mono ?_; rintro e0 w4 ⟨A4, c4, B4, d4, rfl, r4, k4⟩
  have K := Lib.hid ((K.out.al _).tr k4)
  have TB := Lib.hid ((TB.out.alloc_ _).kp k4)
  have UB := Lib.hid ((UB.out.alloc_ _).kp k4)
  have PB := Lib.hid ((PB.out.alloc_ _).kp k4)
  have LB := Lib.hid ((LB.out.alloc_ _).kp k4)
  have T := Lib.hid ((T.out.alloc_ _).kp k4)
  have U := Lib.hid ((U.out.alloc_ _).kp k4)
  have P := Lib.hid ((P.out.alloc_ _).kp k4)
  have L := Lib.hid ((L.out.alloc_ _).kp k4)
  have R := Lib.hid ((R.out.alloc_ _).kp k4)
  have RB : Hid (Bk w4 w3.heap.size A3 2 c3 B3 2 d3) := (Bk.new rfl).kp k4
  have H := Lib.hid r4
  clear k4 r4 ztb0 ztb1 ztb2
  have ztb0 := TB.out.c0
  have ztb1 := TB.out.c1
  have ztb2 := TB.out.lt
  go_wp2_with fail
  refine (pmat_u [1, 2] [4294967296, 8589934592] [] [] (C := none) (D := none) (T.out.alloc_ _) ⟨Rd.nil _ _, Rd.nil _ _⟩ iA I64s.nil_ rfl rfl rfl rfl (l := []) (k := []) (err := 30) (a := 0) (b := 0) (by decide +kernel) rfl rfl).mono ?_; rintro e0 w5 ⟨A5, c5, B5, d5, rfl, r5, k5⟩
  have K := Lib.hid ((K.out.al _).tr k5)
  have TB := Lib.hid ((TB.out.alloc_ _).kp k5)
  have UB := Lib.hid ((UB.out.alloc_ _).kp k5)
  have PB := Lib.hid ((PB.out.alloc_ _).kp k5)
  have LB := Lib.hid ((LB.out.alloc_ _).kp k5)
  have RB := Lib.hid ((RB.out.alloc_ _).kp k5)
  have T := Lib.hid ((T.out.alloc_ _).kp k5)
  have U := Lib.hid ((U.out.alloc_ _).kp k5)
  have P := Lib.hid ((P.out.alloc_ _).kp k5)
  have L := Lib.hid ((L.out.alloc_ _).kp k5)
  have R := Lib.hid ((R.out.alloc_ _).kp k5)
  have HB : Hid (Bk w5 w4.heap.size A4 0 c4 B4 0 d4) := (Bk.new rfl).kp k5
  have Q := Lib.hid r5
  clear k5 r5 ztb0 ztb1 ztb2 H
  have zpb0 := PB.out.c0
  have zpb1 := PB.out.c1
  have zpb2 := PB.out.lt
  go_wp2_with fail
  refine (same_k [47244640256] [47244640256] ((P.out.alloc_ _).alloc_ _).d (Rd.one_ (by simp)) rfl rfl (r := true) (by decide)).mono ?_; rintro e0 w6 ⟨rfl, k6⟩
  have K := Lib.hid (((K.out.al _).al _).tr k6)
  have TB := Lib.hid (((TB.out.alloc_ _).alloc_ _).kp k6)
  have UB := Lib.hid (((UB.out.alloc_ _).alloc_ _).kp k6)
  have PB := Lib.hid (((PB.out.alloc_ _).alloc_ _).kp k6)
  have LB := Lib.hid (((LB.out.alloc_ _).alloc_ _).kp k6)
  have RB := Lib.hid (((RB.out.alloc_ _).alloc_ _).kp k6)
  have HB := Lib.hid (((HB.out.alloc_ _).alloc_ _).kp k6)
  have T := Lib.hid (((T.out.alloc_ _).alloc_ _).kp k6)
  have U := Lib.hid (((U.out.alloc_ _).alloc_ _).kp k6)
  have P := Lib.hid (((P.out.alloc_ _).alloc_ _).kp k6)
  have L := Lib.hid (((L.out.alloc_ _).alloc_ _).kp k6)
  have R := Lib.hid (((R.out.alloc_ _).alloc_ _).kp k6)
  have QB : Hid (Bk w6 w5.heap.size A5 0 c5 B5 0 d5) := ((Bk.new rfl).alloc_ _).kp k6
  clear k6 zpb0 zpb1 zpb2 Q
  have zlb0 := LB.out.c0
  have zlb1 := LB.out.c1
  have zlb2 := LB.out.lt
  go_wp2_with fail
  refine (same_k [141733920768, 188978561024] [141733920768, 188978561024] (L.out.alloc_ _).d (Rd.two_ (by simp)) rfl rfl (r := true) (by decide)).mono ?_; rintro e0 w7 ⟨rfl, k7⟩
  have K := Lib.hid ((K.out.al _).tr k7)
  have TB := Lib.hid ((TB.out.alloc_ _).kp k7)
  have UB := Lib.hid ((UB.out.alloc_ _).kp k7)
  have PB := Lib.hid ((PB.out.alloc_ _).kp k7)
  have LB := Lib.hid ((LB.out.alloc_ _).kp k7)
  have RB := Lib.hid ((RB.out.alloc_ _).kp k7)
  have HB := Lib.hid ((HB.out.alloc_ _).kp k7)
  have QB := Lib.hid ((QB.out.alloc_ _).kp k7)
  have T := Lib.hid ((T.out.alloc_ _).kp k7)
  have U := Lib.hid ((U.out.alloc_ _).kp k7)
  have P := Lib.hid ((P.out.alloc_ _).kp k7)
  have L := Lib.hid ((L.out.alloc_ _).kp k7)
  have R := Lib.hid ((R.out.alloc_ _).kp k7)
  clear k7 zlb0 zlb1 zlb2
  have zrb0 := RB.out.c0
  have zrb1 := RB.out.c1
  have zrb2 := RB.out.lt
  go_wp2_with fail
  refine (same_k [47244640256, 94489280512] [47244640256, 94489280512] (R.out.alloc_ _).d (Rd.two_ (by simp)) rfl rfl (r := true) (by decide)).mono ?_; rintro e0 w8 ⟨rfl, k8⟩
  have K := Lib.hid ((K.out.al _).tr k8)
  have TB := Lib.hid ((TB.out.alloc_ _).kp k8)
  have UB := Lib.hid ((UB.out.alloc_ _).kp k8)
  have PB := Lib.hid ((PB.out.alloc_ _).kp k8)
  have LB := Lib.hid ((LB.out.alloc_ _).kp k8)
  have RB := Lib.hid ((RB.out.alloc_ _).kp k8)
  have HB := Lib.hid ((HB.out.alloc_ _).kp k8)
  have QB := Lib.hid ((QB.out.alloc_ _).kp k8)
  have T := Lib.hid ((T.out.alloc_ _).kp k8)
  have U := Lib.hid ((U.out.alloc_ _).kp k8)
  have P := Lib.hid ((P.out.alloc_ _).kp k8)
  have L := Lib.hid ((L.out.alloc_ _).kp k8)
  have R := Lib.hid ((R.out.alloc_ _).kp k8)
  clear k8 zrb0 zrb1 zrb2
  go_wp2
  go_ret
  exact ⟨rfl, K.out⟩
end Go.Proofs.Ytepnhmdjglpmeaa
