/- Layer 5's calls with their answers written out; those whose answers the document fixes are as it says (awake). -/
import Derived.Test.YtdjfjhanffliiaaPvG
namespace Go.Proofs.Ytdjfjhanffliiaa
open Go.RowKit Go.Proofs.ShM
set_option linter.unusedVariables false

section
variable {A B C D : Option Addr} {c d e f n m p q a b : Nat} {l k : List Int} {err : Int} {w : World}
theorem pturn_u (s xs : List Int) (h : TR w A s B xs) (hn : n = s.length) (hm : m = xs.length) (hr : turnV s xs = (l, k, err)) (ha : l.length = a) (hb : k.length = b) :
    Calls Try.prog 14 #[.agg #[.slice A n c, .slice B m d]] w (RetU l k a b err w) := by
  subst hn hm
  exact (pturn_any A B c d s xs w h.s h.d).mono fun _ _ r => r.u hr ha hb
theorem preshape_u (s xs g : List Int) (h : TR w A s B xs) (h2 : Rd w C g) (hn : n = s.length) (hm : m = xs.length) (hp : p = g.length) (hr : reshapeV s xs g = (l, k, err)) (ha : l.length = a) (hb : k.length = b) :
    Calls Try.prog 11 #[.agg #[.slice A n c, .slice B m d], .slice C p e] w (RetU l k a b err w) := by
  subst hn hm hp
  exact (preshape_any A B C c d e s xs g w h.s h.d h2).mono fun _ _ r => r.u hr ha hb
theorem pslice_u (s xs : List Int) (x y z : Int) (h : TR w A s B xs) (hn : n = s.length) (hm : m = xs.length) (hr : sliceV s xs x y z = (l, k, err)) (ha : l.length = a) (hb : k.length = b) :
    Calls Try.prog 16 #[.agg #[.slice A n c, .slice B m d], .int .i64 x, .int .i64 y, .int .i64 z] w (RetU l k a b err w) := by
  subst hn hm
  exact (pslice_any A B c d s xs x y z w h.s h.d).mono fun _ _ r => r.u hr ha hb
theorem ppad_u (s xs : List Int) (x y z : Int) (h : TR w A s B xs) (hn : n = s.length) (hm : m = xs.length) (hr : padV s xs x y z = (l, k, err)) (ha : l.length = a) (hb : k.length = b) :
    Calls Try.prog 18 #[.agg #[.slice A n c, .slice B m d], .int .i64 x, .int .i64 y, .int .i64 z] w (RetU l k a b err w) := by
  subst hn hm
  exact (ppad_any A B c d s xs x y z w h.s h.d).mono fun _ _ r => r.u hr ha hb
theorem pjoin_u (s xs t ys : List Int) (x : Int) (h : TR w A s B xs) (h2 : TR w C t D ys) (hn : n = s.length) (hm : m = xs.length) (hp : p = t.length) (hq : q = ys.length) (hr : glueV s xs t ys x = (l, k, err)) (ha : l.length = a) (hb : k.length = b) :
    Calls Try.prog 20 #[.agg #[.slice A n c, .slice B m d], .agg #[.slice C p e, .slice D q f], .int .i64 x] w (RetU l k a b err w) := by
  subst hn hm hp hq
  exact (pjoin_any A B C D c d e f s xs t ys x w h.s h.d h2.s h2.d).mono fun _ _ r => r.u hr ha hb
theorem same_k (a b : List Int) (h : Rd w A a) (g : Rd w B b) (hn : n = a.length) (hm : m = b.length) {r : Bool} (hr : (a == b) = r) : Calls Try.prog 24 #[.slice A n c, .slice B m d] w fun e w' => e = .returned (.bool r) ∧ Kp w w' :=
  (same_n a b h g hn hm hr).mono fun e w' h => ⟨h.1, by obtain ⟨_, n, h⟩ := h; rw [h]; exact Kp.drewN_ _ _⟩
end

theorem TR.nil_ {w : World} {A B : Option Addr} : TR w A [] B [] := ⟨Rd.nil _ _, Rd.nil _ _⟩
theorem Rd.lit_ {w : World} {t : TypeId} {g : Nat} (xs : List Int) (h : xs.length ≤ 1000000) (hg : g = w.heap.size) : Rd (w.alloc (.cells (xs.map (Value.int .i64)).toArray t)) (some ⟨g, 0, none⟩) xs := Rd.litg w xs h t g hg

set_option maxHeartbeats 4000000 in
set_option maxRecDepth 100000 in
theorem mvawake_any (w : World) : Calls Try.prog 9 #[] w fun e w' => e = .returned (.bool true) ∧ Kp w w' := by
  go_enter Try.func9, Try.ntmps9
  go_wp2_with fail
  obtain ⟨W0, HW0⟩ : ∃ W0, Hid (W0 = ((w.alloc (.cells #[.int .i64 2, .int .i64 3] 3)).alloc (.cells #[.int .i64 1, .int .i64 2, .int .i64 3, .int .i64 4, .int .i64 5, .int .i64 6] 3)).alloc (.cells #[.slice (some ⟨w.heap.size, 0, none⟩) 2 2, .slice (some ⟨w.heap.size + 1, 0, none⟩) 6 6] 24)) := ⟨_, rfl⟩
  have K : Hid (Kp w W0) := by show Kp w W0; rw [HW0.out]; exact ((Kp.alloc_ _ _).al _).al _
  have T : Hid (TR W0 (some ⟨w.heap.size, 0, none⟩) [2, 3] (some ⟨w.heap.size + 1, 0, none⟩) [1, 2, 3, 4, 5, 6]) := by
    show TR W0 _ _ _ _; rw [HW0.out]
    exact ⟨((Rd.two_ rfl).alloc_ _).alloc_ _, (Rd.lit_ [1, 2, 3, 4, 5, 6] (by simp) (by simp)).alloc_ _⟩
  have TB : Hid (Bk W0 (w.heap.size + 1 + 1) (some ⟨w.heap.size, 0, none⟩) 2 2 (some ⟨w.heap.size + 1, 0, none⟩) 6 6) := by
    show Bk W0 _ _ _ _ _ _ _; rw [HW0.out]; exact Bk.new (by simp)
  rw [← HW0.out]
  have ztb0 := TB.out.c0
  have ztb1 := TB.out.c1
  have ztb2 := TB.out.lt
  refine (pturn_u [2, 3] [1, 2, 3, 4, 5, 6] T.out rfl rfl (l := [3, 2]) (k := [1, 4, 2, 5, 3, 6]) (err := 0) (a := 2) (b := 6) (by decide +kernel) rfl rfl).mono ?_; rintro e0 w1 ⟨A1, c1, B1, d1, rfl, r1, k1⟩
  have K := Lib.hid (K.out.tr k1)
  have TB := Lib.hid (TB.out.kp k1)
  have T := Lib.hid (T.out.kp k1)
  have A := Lib.hid r1
  clear k1 r1 ztb0 ztb1 ztb2
  have ztb0 := TB.out.c0
  have ztb1 := TB.out.c1
  have ztb2 := TB.out.lt
  go_wp2_with fail
  refine (pslice_u [2, 3] [1, 2, 3, 4, 5, 6] 1 1 3 (T.out.alloc_ _) rfl rfl (l := [2, 2]) (k := [2, 3, 5, 6]) (err := 0) (a := 2) (b := 4) (by decide +kernel) rfl rfl).mono ?_; rintro e0 w2 ⟨A2, c2, B2, d2, rfl, r2, k2⟩
  have K := Lib.hid ((K.out.al _).tr k2)
  have TB := Lib.hid ((TB.out.alloc_ _).kp k2)
  have T := Lib.hid ((T.out.alloc_ _).kp k2)
  have A := Lib.hid ((A.out.alloc_ _).kp k2)
  have AB : Hid (Bk w2 w1.heap.size A1 2 c1 B1 6 d1) := (Bk.new rfl).kp k2
  have B := Lib.hid r2
  clear k2 r2 ztb0 ztb1 ztb2
  go_wp2_with fail
  refine (ppad_u [2, 2] [2, 3, 5, 6] 1 1 3 (B.out.alloc_ _) rfl rfl (l := [2, 3]) (k := [0, 2, 3, 0, 5, 6]) (err := 0) (a := 2) (b := 6) (by decide +kernel) rfl rfl).mono ?_; rintro e0 w3 ⟨A3, c3, B3, d3, rfl, r3, k3⟩
  have K := Lib.hid ((K.out.al _).tr k3)
  have TB := Lib.hid ((TB.out.alloc_ _).kp k3)
  have AB := Lib.hid ((AB.out.alloc_ _).kp k3)
  have T := Lib.hid ((T.out.alloc_ _).kp k3)
  have A := Lib.hid ((A.out.alloc_ _).kp k3)
  have B := Lib.hid ((B.out.alloc_ _).kp k3)
  have BB : Hid (Bk w3 w2.heap.size A2 2 c2 B2 4 d2) := (Bk.new rfl).kp k3
  have C := Lib.hid r3
  clear k3 r3
  have ztb0 := TB.out.c0
  have ztb1 := TB.out.c1
  have ztb2 := TB.out.lt
  go_wp2_with fail
  refine (pjoin_u [2, 3] [1, 2, 3, 4, 5, 6] [2, 3] [1, 2, 3, 4, 5, 6] 0 (T.out.alloc_ _) (T.out.alloc_ _) rfl rfl rfl rfl (l := [4, 3]) (k := [1, 2, 3, 4, 5, 6, 1, 2, 3, 4, 5, 6]) (err := 0) (a := 2) (b := 12) (by decide +kernel) rfl rfl).mono ?_; rintro e0 w4 ⟨A4, c4, B4, d4, rfl, r4, k4⟩
  have K := Lib.hid ((K.out.al _).tr k4)
  have TB := Lib.hid ((TB.out.alloc_ _).kp k4)
  have AB := Lib.hid ((AB.out.alloc_ _).kp k4)
  have BB := Lib.hid ((BB.out.alloc_ _).kp k4)
  have T := Lib.hid ((T.out.alloc_ _).kp k4)
  have A := Lib.hid ((A.out.alloc_ _).kp k4)
  have B := Lib.hid ((B.out.alloc_ _).kp k4)
  have C := Lib.hid ((C.out.alloc_ _).kp k4)
  have CB : Hid (Bk w4 w3.heap.size A3 2 c3 B3 6 d3) := (Bk.new rfl).kp k4
  have D := Lib.hid r4
  clear k4 r4 ztb0 ztb1 ztb2
  have ztb0 := TB.out.c0
  have ztb1 := TB.out.c1
  have ztb2 := TB.out.lt
  go_wp2_with fail
  refine (preshape_u [2, 3] [1, 2, 3, 4, 5, 6] [6] ((T.out.alloc_ _).alloc_ _) (Rd.one_ (by simp)) rfl rfl rfl (l := [6]) (k := [1, 2, 3, 4, 5, 6]) (err := 0) (a := 1) (b := 6) (by decide +kernel) rfl rfl).mono ?_; rintro e0 w5 ⟨A5, c5, B5, d5, rfl, r5, k5⟩
  have K := Lib.hid (((K.out.al _).al _).tr k5)
  have TB := Lib.hid (((TB.out.alloc_ _).alloc_ _).kp k5)
  have AB := Lib.hid (((AB.out.alloc_ _).alloc_ _).kp k5)
  have BB := Lib.hid (((BB.out.alloc_ _).alloc_ _).kp k5)
  have CB := Lib.hid (((CB.out.alloc_ _).alloc_ _).kp k5)
  have T := Lib.hid (((T.out.alloc_ _).alloc_ _).kp k5)
  have A := Lib.hid (((A.out.alloc_ _).alloc_ _).kp k5)
  have B := Lib.hid (((B.out.alloc_ _).alloc_ _).kp k5)
  have C := Lib.hid (((C.out.alloc_ _).alloc_ _).kp k5)
  have D := Lib.hid (((D.out.alloc_ _).alloc_ _).kp k5)
  have DB : Hid (Bk w5 w4.heap.size A4 2 c4 B4 12 d4) := ((Bk.new rfl).alloc_ _).kp k5
  have R := Lib.hid r5
  clear k5 r5 ztb0 ztb1 ztb2
  have ztb0 := TB.out.c0
  have ztb1 := TB.out.c1
  have ztb2 := TB.out.lt
  go_wp2_with fail
  refine (preshape_u [2, 3] [1, 2, 3, 4, 5, 6] [5] ((T.out.alloc_ _).alloc_ _) (Rd.one_ (by simp)) rfl rfl rfl (l := []) (k := []) (err := 20) (a := 0) (b := 0) (by decide +kernel) rfl rfl).mono ?_; rintro e0 w6 ⟨A6, c6, B6, d6, rfl, r6, k6⟩
  have K := Lib.hid (((K.out.al _).al _).tr k6)
  have TB := Lib.hid (((TB.out.alloc_ _).alloc_ _).kp k6)
  have AB := Lib.hid (((AB.out.alloc_ _).alloc_ _).kp k6)
  have BB := Lib.hid (((BB.out.alloc_ _).alloc_ _).kp k6)
  have CB := Lib.hid (((CB.out.alloc_ _).alloc_ _).kp k6)
  have DB := Lib.hid (((DB.out.alloc_ _).alloc_ _).kp k6)
  have T := Lib.hid (((T.out.alloc_ _).alloc_ _).kp k6)
  have A := Lib.hid (((A.out.alloc_ _).alloc_ _).kp k6)
  have B := Lib.hid (((B.out.alloc_ _).alloc_ _).kp k6)
  have C := Lib.hid (((C.out.alloc_ _).alloc_ _).kp k6)
  have D := Lib.hid (((D.out.alloc_ _).alloc_ _).kp k6)
  have R := Lib.hid (((R.out.alloc_ _).alloc_ _).kp k6)
  have RB : Hid (Bk w6 w5.heap.size A5 1 c5 B5 6 d5) := ((Bk.new rfl).alloc_ _).kp k6
  have S := Lib.hid r6
  clear k6 r6 ztb0 ztb1 ztb2
  go_wp2_with fail
  refine (pturn_u [] [] TR.nil_ rfl rfl (l := []) (k := []) (err := 30) (a := 0) (b := 0) (by decide +kernel) rfl rfl).mono ?_; rintro e0 w7 ⟨A7, c7, B7, d7, rfl, r7, k7⟩
  have K := Lib.hid ((K.out.al _).tr k7)
  have TB := Lib.hid ((TB.out.alloc_ _).kp k7)
  have AB := Lib.hid ((AB.out.alloc_ _).kp k7)
  have BB := Lib.hid ((BB.out.alloc_ _).kp k7)
  have CB := Lib.hid ((CB.out.alloc_ _).kp k7)
  have DB := Lib.hid ((DB.out.alloc_ _).kp k7)
  have RB := Lib.hid ((RB.out.alloc_ _).kp k7)
  have T := Lib.hid ((T.out.alloc_ _).kp k7)
  have A := Lib.hid ((A.out.alloc_ _).kp k7)
  have B := Lib.hid ((B.out.alloc_ _).kp k7)
  have C := Lib.hid ((C.out.alloc_ _).kp k7)
  have D := Lib.hid ((D.out.alloc_ _).kp k7)
  have R := Lib.hid ((R.out.alloc_ _).kp k7)
  have SB : Hid (Bk w7 w6.heap.size A6 0 c6 B6 0 d6) := (Bk.new rfl).kp k7
  have Q := Lib.hid r7
  clear k7 r7 S
  have zab0 := AB.out.c0
  have zab1 := AB.out.c1
  have zab2 := AB.out.lt
  go_wp2_with fail
  refine (same_k [1, 4, 2, 5, 3, 6] [1, 4, 2, 5, 3, 6] ((A.out.alloc_ _).alloc_ _).d (Rd.lit_ [1, 4, 2, 5, 3, 6] (by simp) (by simp)) rfl rfl (r := true) (by decide)).mono ?_; rintro e0 w8 ⟨rfl, k8⟩
  have K := Lib.hid (((K.out.al _).al _).tr k8)
  have TB := Lib.hid (((TB.out.alloc_ _).alloc_ _).kp k8)
  have AB := Lib.hid (((AB.out.alloc_ _).alloc_ _).kp k8)
  have BB := Lib.hid (((BB.out.alloc_ _).alloc_ _).kp k8)
  have CB := Lib.hid (((CB.out.alloc_ _).alloc_ _).kp k8)
  have DB := Lib.hid (((DB.out.alloc_ _).alloc_ _).kp k8)
  have RB := Lib.hid (((RB.out.alloc_ _).alloc_ _).kp k8)
  have SB := Lib.hid (((SB.out.alloc_ _).alloc_ _).kp k8)
  have T := Lib.hid (((T.out.alloc_ _).alloc_ _).kp k8)
  have A := Lib.hid (((A.out.alloc_ _).alloc_ _).kp k8)
  have B := Lib.hid (((B.out.alloc_ _).alloc_ _).kp k8)
  have C := Lib.hid (((C.out.alloc_ _).alloc_ _).kp k8)
  have D := Lib.hid (((D.out.alloc_ _).alloc_ _).kp k8)
  have R := Lib.hid (((R.out.alloc_ _).alloc_ _).kp k8)
  have QB : Hid (Bk w8 w7.heap.size A7 0 c7 B7 0 d7) := ((Bk.new rfl).alloc_ _).kp k8
  clear k8 zab0 zab1 zab2 Q
  have zbb0 := BB.out.c0
  have zbb1 := BB.out.c1
  have zbb2 := BB.out.lt
  go_wp2_with fail
  refine (same_k [2, 3, 5, 6] [2, 3, 5, 6] (B.out.alloc_ _).d (Rd.lit_ [2, 3, 5, 6] (by simp) (by simp)) rfl rfl (r := true) (by decide)).mono ?_; rintro e0 w9 ⟨rfl, k9⟩
  have K := Lib.hid ((K.out.al _).tr k9)
  have TB := Lib.hid ((TB.out.alloc_ _).kp k9)
  have AB := Lib.hid ((AB.out.alloc_ _).kp k9)
  have BB := Lib.hid ((BB.out.alloc_ _).kp k9)
  have CB := Lib.hid ((CB.out.alloc_ _).kp k9)
  have DB := Lib.hid ((DB.out.alloc_ _).kp k9)
  have RB := Lib.hid ((RB.out.alloc_ _).kp k9)
  have SB := Lib.hid ((SB.out.alloc_ _).kp k9)
  have QB := Lib.hid ((QB.out.alloc_ _).kp k9)
  have T := Lib.hid ((T.out.alloc_ _).kp k9)
  have A := Lib.hid ((A.out.alloc_ _).kp k9)
  have B := Lib.hid ((B.out.alloc_ _).kp k9)
  have C := Lib.hid ((C.out.alloc_ _).kp k9)
  have D := Lib.hid ((D.out.alloc_ _).kp k9)
  have R := Lib.hid ((R.out.alloc_ _).kp k9)
  clear k9 zbb0 zbb1 zbb2
  have zcb0 := CB.out.c0
  have zcb1 := CB.out.c1
  have zcb2 := CB.out.lt
  go_wp2_with fail
  refine (same_k [0, 2, 3, 0, 5, 6] [0, 2, 3, 0, 5, 6] (C.out.alloc_ _).d (Rd.lit_ [0, 2, 3, 0, 5, 6] (by simp) (by simp)) rfl rfl (r := true) (by decide)).mono ?_; rintro e0 w10 ⟨rfl, k10⟩
  have K := Lib.hid ((K.out.al _).tr k10)
  have TB := Lib.hid ((TB.out.alloc_ _).kp k10)
  have AB := Lib.hid ((AB.out.alloc_ _).kp k10)
  have BB := Lib.hid ((BB.out.alloc_ _).kp k10)
  have CB := Lib.hid ((CB.out.alloc_ _).kp k10)
  have DB := Lib.hid ((DB.out.alloc_ _).kp k10)
  have RB := Lib.hid ((RB.out.alloc_ _).kp k10)
  have SB := Lib.hid ((SB.out.alloc_ _).kp k10)
  have QB := Lib.hid ((QB.out.alloc_ _).kp k10)
  have T := Lib.hid ((T.out.alloc_ _).kp k10)
  have A := Lib.hid ((A.out.alloc_ _).kp k10)
  have B := Lib.hid ((B.out.alloc_ _).kp k10)
  have C := Lib.hid ((C.out.alloc_ _).kp k10)
  have D := Lib.hid ((D.out.alloc_ _).kp k10)
  have R := Lib.hid ((R.out.alloc_ _).kp k10)
  clear k10 zcb0 zcb1 zcb2
  have zdb0 := DB.out.c0
  have zdb1 := DB.out.c1
  have zdb2 := DB.out.lt
  have zrb0 := RB.out.c0
  have zrb1 := RB.out.c1
  have zrb2 := RB.out.lt
  go_wp2_with fail
  refine (same_k [6] [6] (R.out.alloc_ _).s (Rd.one_ (by simp)) rfl rfl (r := true) (by decide)).mono ?_; rintro e0 w11 ⟨rfl, k11⟩
  have K := Lib.hid ((K.out.al _).tr k11)
  have TB := Lib.hid ((TB.out.alloc_ _).kp k11)
  have AB := Lib.hid ((AB.out.alloc_ _).kp k11)
  have BB := Lib.hid ((BB.out.alloc_ _).kp k11)
  have CB := Lib.hid ((CB.out.alloc_ _).kp k11)
  have DB := Lib.hid ((DB.out.alloc_ _).kp k11)
  have RB := Lib.hid ((RB.out.alloc_ _).kp k11)
  have SB := Lib.hid ((SB.out.alloc_ _).kp k11)
  have QB := Lib.hid ((QB.out.alloc_ _).kp k11)
  have T := Lib.hid ((T.out.alloc_ _).kp k11)
  have A := Lib.hid ((A.out.alloc_ _).kp k11)
  have B := Lib.hid ((B.out.alloc_ _).kp k11)
  have C := Lib.hid ((C.out.alloc_ _).kp k11)
  have D := Lib.hid ((D.out.alloc_ _).kp k11)
  have R := Lib.hid ((R.out.alloc_ _).kp k11)
  clear k11 zdb0 zdb1 zdb2 zrb0 zrb1 zrb2
  go_wp2
  go_ret
  exact ⟨rfl, K.out⟩
end Go.Proofs.Ytdjfjhanffliiaa
