/- Layer 4's calls with their answers written out; those whose answers the document fixes are as it says (awake). -/
import Derived.Test.YtofolfnnjdccgaaElI
namespace Go.Proofs.Ytofolfnnjdccgaa
open Go.RowKit Go.Proofs.ShM Go.Proofs.FixM
set_option linter.unusedVariables false

section
variable {A B C D : Option Addr} {c d e f n m o q a b : Nat} {l k : List Int} {err op : Int} {w : World}
theorem one_u (s xs : List Int) (h : TR w A s B xs) (hi : I64s xs) (hn : n = s.length) (hm : m = xs.length) (hr : oneV op s xs = (l, k, err)) (ha : l.length = a) (hb : k.length = b) :
    Calls Try.prog 12 #[.int .i64 op, .agg #[.slice A n c, .slice B m d]] w (RetU l k a b err w) := by
  subst hn hm
  exact (one_any op A B c d s xs w h.s h.d hi).mono fun _ _ r => r.u hr ha hb
theorem rone_u (s xs : List Int) (h : TR w A s B xs) (hi : I64s xs) (hn : n = s.length) (hm : m = xs.length) (hr : oneV op s xs = (l, k, err)) (ha : l.length = a) (hb : k.length = b) :
    Calls Try.prog 13 #[.int .i64 op, .agg #[.slice A n c, .slice B m d]] w (RetU l k a b err w) := by
  subst hn hm
  exact (rone_any op A B c d s xs w h.s h.d hi).mono fun _ _ r => r.u hr ha hb
theorem two_u (s xs g ys : List Int) (h : TR w A s B xs) (h2 : TR w C g D ys) (hi : I64s xs) (hi2 : I64s ys) (hn : n = s.length) (hm : m = xs.length) (ho : o = g.length) (hq : q = ys.length) (hr : twoV op s xs g ys = (l, k, err)) (ha : l.length = a) (hb : k.length = b) :
    Calls Try.prog 14 #[.int .i64 op, .agg #[.slice A n c, .slice B m d], .agg #[.slice C o e, .slice D q f]] w (RetU l k a b err w) := by
  subst hn hm ho hq
  exact (two_any op A B C D c d e f s xs g ys w h.s h.d h2.s h2.d hi hi2).mono fun _ _ r => r.u hr ha hb
theorem rtwo_u (s xs g ys : List Int) (h : TR w A s B xs) (h2 : TR w C g D ys) (hi : I64s xs) (hi2 : I64s ys) (hn : n = s.length) (hm : m = xs.length) (ho : o = g.length) (hq : q = ys.length) (hr : twoV op s xs g ys = (l, k, err)) (ha : l.length = a) (hb : k.length = b) :
    Calls Try.prog 15 #[.int .i64 op, .agg #[.slice A n c, .slice B m d], .agg #[.slice C o e, .slice D q f]] w (RetU l k a b err w) := by
  subst hn hm ho hq
  exact (rtwo_any op A B C D c d e f s xs g ys w h.s h.d h2.s h2.d hi hi2).mono fun _ _ r => r.u hr ha hb
end

theorem TR.nil_ {w : World} {A B : Option Addr} : TR w A [] B [] := ⟨Rd.nil _ _, Rd.nil _ _⟩

set_option maxHeartbeats 4000000 in
set_option maxRecDepth 100000 in
theorem elawake_any (w : World) : Calls Try.prog 10 #[] w fun e w' => e = .returned (.bool true) ∧ Kp w w' := by
  have i1 : I64s [5, 1] := by unfold I64s; decide
  have i2 : I64s [2] := by unfold I64s; decide
  have i3 : I64s [0] := by unfold I64s; decide
  have i4 : I64s [-5, -1] := by unfold I64s; decide
  go_enter Try.func10, Try.ntmps10
  go_wp2_with fail
  obtain ⟨W0, HW0⟩ : ∃ W0, Hid (W0 = ((((w.alloc (.cells #[.int .i64 2] 3)).alloc (.cells #[.int .i64 5, .int .i64 1] 3)).alloc (.cells #[.slice (some ⟨w.heap.size, 0, none⟩) 1 1, .slice (some ⟨w.heap.size + 1, 0, none⟩) 2 2] 24)).alloc (.cells #[.int .i64 2] 3)).alloc (.cells #[.slice none 0 0, .slice (some ⟨w.heap.size + 1 + 1 + 1, 0, none⟩) 1 1] 24)) := ⟨_, rfl⟩
  have K : Hid (Kp w W0) := by show Kp w W0; rw [HW0.out]; exact ((((Kp.alloc_ _ _).al _).al _).al _).al _
  have TA : Hid (TR W0 (some ⟨w.heap.size, 0, none⟩) [2] (some ⟨w.heap.size + 1, 0, none⟩) [5, 1]) := by
    show TR W0 _ _ _ _; rw [HW0.out]
    exact ⟨((((Rd.one_ rfl).alloc_ _).alloc_ _).alloc_ _).alloc_ _, (((Rd.two_ (by simp)).alloc_ _).alloc_ _).alloc_ _⟩
  have TC : Hid (TR W0 none [] (some ⟨w.heap.size + 1 + 1 + 1, 0, none⟩) [2]) := by
    show TR W0 _ _ _ _; rw [HW0.out]
    exact ⟨Rd.nil _ _, (Rd.one_ (by simp)).alloc_ _⟩
  have BA : Hid (Bx W0 (w.heap.size + 1 + 1) (some ⟨w.heap.size, 0, none⟩) 1 1 (some ⟨w.heap.size + 1, 0, none⟩) 2 2) := by
    show Bx W0 _ _ _ _ _ _ _; rw [HW0.out]
    exact ((Bx.new (by simp)).alloc_ _).alloc_ _
  have BC : Hid (Bx W0 (w.heap.size + 1 + 1 + 1 + 1) none 0 0 (some ⟨w.heap.size + 1 + 1 + 1, 0, none⟩) 1 1) := by
    show Bx W0 _ _ _ _ _ _ _; rw [HW0.out]
    exact Bx.new (by simp)
  rw [← HW0.out]
  obtain ⟨fa0, fa1, fal⟩ := BA.out
  obtain ⟨fc0, fc1, fcl⟩ := BC.out
  refine (two_u [2] [5, 1] [] [2] TA.out TC.out i1 i2 rfl rfl rfl rfl (op := 11) (a := 1) (b := 2) (l := [2]) (k := [3, -1]) (err := 0) (by decide) rfl rfl).mono ?_
  rintro e w1 ⟨A1, c1, B1, d1, rfl, t1, k1⟩
  have K := Lib.hid (K.out.tr k1)
  have TA := Lib.hid (TA.out.kp k1)
  have TC := Lib.hid (TC.out.kp k1)
  have BA := Lib.hid (BA.out.kp k1)
  have BC := Lib.hid (BC.out.kp k1)
  have ST := Lib.hid t1
  clear k1 t1 fa0 fa1 fal fc0 fc1 fcl
  obtain ⟨fa0, fa1, fal⟩ := BA.out
  go_wp2_with fail
  refine (one_u [2] [5, 1] (TA.out.alloc_ _) i1 rfl rfl (op := 20) (a := 1) (b := 2) (l := [2]) (k := [-5, -1]) (err := 0) (by decide) rfl rfl).mono ?_
  rintro e w2 ⟨A2, c2, B2, d2, rfl, t2, k2⟩
  have K := Lib.hid ((K.out.al _).tr k2)
  have TA := Lib.hid ((TA.out.alloc_ _).kp k2)
  have TC := Lib.hid ((TC.out.alloc_ _).kp k2)
  have ST := Lib.hid ((ST.out.alloc_ _).kp k2)
  have BA := Lib.hid ((BA.out.alloc_ _).kp k2)
  have BC := Lib.hid ((BC.out.alloc_ _).kp k2)
  have SB : Hid (Bx w2 w1.heap.size A1 1 c1 B1 2 d1) := ((Bx.new rfl)).kp k2
  have NT := Lib.hid t2
  clear k2 t2 fa0 fa1 fal
  obtain ⟨fa0, fa1, fal⟩ := BA.out
  go_wp2_with fail
  refine (one_u [2] [5, 1] (TA.out.alloc_ _) i1 rfl rfl (op := 10) (a := 0) (b := 0) (l := []) (k := []) (err := 1) (by decide) rfl rfl).mono ?_
  rintro e w3 ⟨A3, c3, B3, d3, rfl, t3, k3⟩
  have K := Lib.hid ((K.out.al _).tr k3)
  have TA := Lib.hid ((TA.out.alloc_ _).kp k3)
  have TC := Lib.hid ((TC.out.alloc_ _).kp k3)
  have ST := Lib.hid ((ST.out.alloc_ _).kp k3)
  have NT := Lib.hid ((NT.out.alloc_ _).kp k3)
  have BA := Lib.hid ((BA.out.alloc_ _).kp k3)
  have BC := Lib.hid ((BC.out.alloc_ _).kp k3)
  have SB := Lib.hid ((SB.out.alloc_ _).kp k3)
  have NB : Hid (Bx w3 w2.heap.size A2 1 c2 B2 2 d2) := ((Bx.new rfl)).kp k3
  have GT := Lib.hid t3
  clear k3 t3 fa0 fa1 fal
  obtain ⟨fa0, fa1, fal⟩ := BA.out
  obtain ⟨fc0, fc1, fcl⟩ := BC.out
  go_wp2_with fail
  refine (two_u [2] [5, 1] [] [2] (TA.out.alloc_ _) (TC.out.alloc_ _) i1 i2 rfl rfl rfl rfl (op := 20) (a := 0) (b := 0) (l := []) (k := []) (err := 1) (by decide) rfl rfl).mono ?_
  rintro e w4 ⟨A4, c4, B4, d4, rfl, t4, k4⟩
  have K := Lib.hid ((K.out.al _).tr k4)
  have TA := Lib.hid ((TA.out.alloc_ _).kp k4)
  have TC := Lib.hid ((TC.out.alloc_ _).kp k4)
  have ST := Lib.hid ((ST.out.alloc_ _).kp k4)
  have NT := Lib.hid ((NT.out.alloc_ _).kp k4)
  have GT := Lib.hid ((GT.out.alloc_ _).kp k4)
  have BA := Lib.hid ((BA.out.alloc_ _).kp k4)
  have BC := Lib.hid ((BC.out.alloc_ _).kp k4)
  have SB := Lib.hid ((SB.out.alloc_ _).kp k4)
  have NB := Lib.hid ((NB.out.alloc_ _).kp k4)
  have GB : Hid (Bx w4 w3.heap.size A3 0 c3 B3 0 d3) := ((Bx.new rfl)).kp k4
  have HT := Lib.hid t4
  clear k4 t4 fa0 fa1 fal fc0 fc1 fcl
  obtain ⟨fa0, fa1, fal⟩ := BA.out
  go_wp2_with fail
  refine (two_u [2] [5, 1] [] [0] ((TA.out.alloc_ _).alloc_ _) ⟨Rd.nil _ _, Rd.one_ (by simp)⟩ i1 i3 rfl rfl rfl rfl (op := 13) (a := 0) (b := 0) (l := []) (k := []) (err := 11) (by decide) rfl rfl).mono ?_
  rintro e w5 ⟨A5, c5, B5, d5, rfl, t5, k5⟩
  have K := Lib.hid (((K.out.al _).al _).tr k5)
  have TA := Lib.hid (((TA.out.alloc_ _).alloc_ _).kp k5)
  have ST := Lib.hid (((ST.out.alloc_ _).alloc_ _).kp k5)
  have NT := Lib.hid (((NT.out.alloc_ _).alloc_ _).kp k5)
  have BA := Lib.hid (((BA.out.alloc_ _).alloc_ _).kp k5)
  have SB := Lib.hid (((SB.out.alloc_ _).alloc_ _).kp k5)
  have NB := Lib.hid (((NB.out.alloc_ _).alloc_ _).kp k5)
  have IT := Lib.hid t5
  clear k5 t5 fa0 fa1 fal
  obtain ⟨fn0, fn1, fnl⟩ := NB.out
  go_wp2_with fail
  refine (one_u [2] [-5, -1] (NT.out.alloc_ _) i4 rfl rfl (op := 21) (a := 1) (b := 2) (l := [2]) (k := [0, 0]) (err := 0) (by decide) rfl rfl).mono ?_
  rintro e w6 ⟨A6, c6, B6, d6, rfl, t6, k6⟩
  have K := Lib.hid ((K.out.al _).tr k6)
  have ST := Lib.hid ((ST.out.alloc_ _).kp k6)
  have NT := Lib.hid ((NT.out.alloc_ _).kp k6)
  have SB := Lib.hid ((SB.out.alloc_ _).kp k6)
  have NB := Lib.hid ((NB.out.alloc_ _).kp k6)
  have RT := Lib.hid t6
  clear k6 t6 fn0 fn1 fnl
  obtain ⟨fs0, fs1, fsl⟩ := SB.out
  go_wp2_with fail
  refine (same_n [3, -1] [3, -1] (((ST.out.alloc_ _).alloc_ _)).d (Rd.two_ (by simp)) rfl rfl (r := true) (by decide)).mono ?_
  rintro e w7 ⟨rfl, q7, h7⟩
  have k7 : Kp w6 w7 := ((Kp.alloc_ _ _).al _).tr (by rw [h7]; exact Kp.drewN_ _ _)
  have K := Lib.hid (K.out.tr k7)
  have ST := Lib.hid (ST.out.kp k7)
  have NT := Lib.hid (NT.out.kp k7)
  have RT := Lib.hid (RT.out.kp k7)
  have SB := Lib.hid (SB.out.kp k7)
  have NB := Lib.hid (NB.out.kp k7)
  have RB : Hid (Bx w7 w6.heap.size A6 1 c6 B6 2 d6) := by rw [h7]; exact Bx.kp ((Bx.new rfl).alloc_ _) (Kp.drewN_ _ _)
  clear k7 h7 fs0 fs1 fsl
  obtain ⟨fn0, fn1, fnl⟩ := NB.out
  go_wp2_with fail
  refine (same_n [-5, -1] [-5, -1] ((NT.out.alloc_ _)).d (Rd.two_ (by simp)) rfl rfl (r := true) (by decide)).mono ?_
  rintro e w8 ⟨rfl, q8, h8⟩
  have k8 : Kp w7 w8 := (Kp.alloc_ _ _).tr (by rw [h8]; exact Kp.drewN_ _ _)
  have K := Lib.hid (K.out.tr k8)
  have ST := Lib.hid (ST.out.kp k8)
  have NT := Lib.hid (NT.out.kp k8)
  have RT := Lib.hid (RT.out.kp k8)
  have SB := Lib.hid (SB.out.kp k8)
  have NB := Lib.hid (NB.out.kp k8)
  have RB := Lib.hid (RB.out.kp k8)
  clear k8 h8 fn0 fn1 fnl
  obtain ⟨fr0, fr1, frl⟩ := RB.out
  go_wp2_with fail
  refine (same_n [0, 0] [0, 0] ((RT.out.alloc_ _)).d (Rd.two_ (by simp)) rfl rfl (r := true) (by decide)).mono ?_
  rintro e w9 ⟨rfl, q9, h9⟩
  have k9 : Kp w8 w9 := (Kp.alloc_ _ _).tr (by rw [h9]; exact Kp.drewN_ _ _)
  have K := Lib.hid (K.out.tr k9)
  have ST := Lib.hid (ST.out.kp k9)
  have NT := Lib.hid (NT.out.kp k9)
  have RT := Lib.hid (RT.out.kp k9)
  have SB := Lib.hid (SB.out.kp k9)
  have NB := Lib.hid (NB.out.kp k9)
  have RB := Lib.hid (RB.out.kp k9)
  clear k9 h9 fr0 fr1 frl
  go_wp2
  go_ret
  exact ⟨rfl, K.out⟩
end Go.Proofs.Ytofolfnnjdccgaa
