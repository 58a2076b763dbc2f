/- Layer 6's calls with their answers written out; those whose answers the document fixes are as it says (awake). -/
import Derived.Test.YtpglchimghnpeaaRdF
import Derived.Test.YtpglchimghnpeaaRdG
import Derived.Test.YtpglchimghnpeaaRdH
import Derived.Test.YtpglchimghnpeaaRdI
import Derived.Test.YtpglchimghnpeaaRdJ
import Derived.Test.YtpglchimghnpeaaRdK
namespace Go.Proofs.Ytpglchimghnpeaa
open Go.ChangeShapes Go.WideShapes Go.ChangeAt Go.RowKit Go.Proofs.ShM
set_option linter.unusedVariables false

theorem RetS.weak {r : Tn} {w w' : World} {e : Ending} (h : RetS r w e w') : RetT r w e w' := by
  obtain ⟨A, c, B, d, b, e1, h1, _, h2, _, h3⟩ := h
  exact ⟨A, c, B, d, e1, h1.rd, h2.sl.rd, h3⟩
/-- The same, with room for the shape. -/
def RetUc (l m : List Int) (a b : Nat) (err : Int) (w : World) (e : Ending) (w' : World) : Prop :=
  ∃ A c B d, e = .returned (.tuple #[.agg #[.slice A a c, .slice B b d], .int .i64 err]) ∧ TR w' A l B m ∧ Kp w w' ∧ Hid (l.length ≤ c ∧ c ≤ 9223372036854775807)
theorem RetS.uc {r : Tn} {l m : List Int} {a b : Nat} {err : Int} {w : World} {e : Ending} {w' : World} (h : RetS r w e w') (hr : r = (l, m, err)) (ha : l.length = a) (hb : m.length = b) : RetUc l m a b err w e w' := by
  subst hr ha hb
  obtain ⟨A, c, B, d, q, e1, h1, _, h2, _, h3⟩ := h
  exact ⟨A, c, B, d, e1, ⟨h1.rd, h2.sl.rd⟩, h3, ⟨h1.le, h1.cap⟩⟩
theorem RetTs.uc {r : Tn} {l m : List Int} {a b : Nat} {w : World} {e : Ending} {w' : World} (h : RetTs r w e w') (hr : r = (l, m, 0)) (ha : l.length = a) (hb : m.length = b) : RetUc l m a b 0 w e w' := by
  subst hr ha hb
  obtain ⟨A, c, B, d, e1, h1, h2, h3, h4⟩ := h
  exact ⟨A, c, B, d, e1, ⟨h1, h2⟩, h3, h4 rfl⟩

section
variable {A B : Option Addr} {c d n m a b : Nat} {l k : List Int} {err : Int} {w : World}
theorem psum_u (s xs : List Int) (x : Int) (h : TR w A s B xs) (hc : Hid (s.length ≤ c ∧ c ≤ 9223372036854775807)) (hi : I64s xs) (hn : n = s.length) (hm : m = xs.length) (hr : sumV s xs x = (l, k, err)) (ha : l.length = a) (hb : k.length = b) :
    Calls Try.prog 8 #[.agg #[.slice A n c, .slice B m d], .int .i64 x] w (RetU l k a b err w) := by
  subst hn hm
  exact (psum_any A B c d s xs x w ⟨h.s, hc.out.1, hc.out.2⟩ h.d hi).mono fun _ _ r => r.weak.u hr ha hb
theorem psum_uc (s xs : List Int) (x : Int) (h : TR w A s B xs) (hc : Hid (s.length ≤ c ∧ c ≤ 9223372036854775807)) (hi : I64s xs) (hn : n = s.length) (hm : m = xs.length) (hr : sumV s xs x = (l, k, err)) (ha : l.length = a) (hb : k.length = b) :
    Calls Try.prog 8 #[.agg #[.slice A n c, .slice B m d], .int .i64 x] w (RetUc l k a b err w) := by
  subst hn hm
  exact (psum_any A B c d s xs x w ⟨h.s, hc.out.1, hc.out.2⟩ h.d hi).mono fun _ _ r => r.uc hr ha hb
theorem pmax_u (s xs : List Int) (x : Int) (h : TR w A s B xs) (hc : Hid (s.length ≤ c ∧ c ≤ 9223372036854775807)) (hi : I64s xs) (hn : n = s.length) (hm : m = xs.length) (hr : maxV s xs x = (l, k, err)) (ha : l.length = a) (hb : k.length = b) :
    Calls Try.prog 13 #[.agg #[.slice A n c, .slice B m d], .int .i64 x] w (RetU l k a b err w) := by
  subst hn hm
  exact (pmax_any A B c d s xs x w ⟨h.s, hc.out.1, hc.out.2⟩ h.d hi).mono fun _ _ r => r.weak.u hr ha hb
theorem pmax_uc (s xs : List Int) (x : Int) (h : TR w A s B xs) (hc : Hid (s.length ≤ c ∧ c ≤ 9223372036854775807)) (hi : I64s xs) (hn : n = s.length) (hm : m = xs.length) (hr : maxV s xs x = (l, k, err)) (ha : l.length = a) (hb : k.length = b) :
    Calls Try.prog 13 #[.agg #[.slice A n c, .slice B m d], .int .i64 x] w (RetUc l k a b err w) := by
  subst hn hm
  exact (pmax_any A B c d s xs x w ⟨h.s, hc.out.1, hc.out.2⟩ h.d hi).mono fun _ _ r => r.uc hr ha hb
theorem pmean_u (s xs : List Int) (x : Int) (h : TR w A s B xs) (hc : Hid (s.length ≤ c ∧ c ≤ 9223372036854775807)) (hi : I64s xs) (hn : n = s.length) (hm : m = xs.length) (hr : meanV s xs x = (l, k, err)) (ha : l.length = a) (hb : k.length = b) :
    Calls Try.prog 11 #[.agg #[.slice A n c, .slice B m d], .int .i64 x] w (RetU l k a b err w) := by
  subst hn hm
  exact (pmean_any A B c d s xs x w ⟨h.s, hc.out.1, hc.out.2⟩ h.d hi).mono fun _ _ r => r.u hr ha hb
theorem pfirst_u (s xs : List Int) (x : Int) (h : TR w A s B xs) (hc : Hid (s.length ≤ c ∧ c ≤ 9223372036854775807)) (hi : I64s xs) (hn : n = s.length) (hm : m = xs.length) (hr : firstV s xs x = (l, k, err)) (ha : l.length = a) (hb : k.length = b) :
    Calls Try.prog 15 #[.agg #[.slice A n c, .slice B m d], .int .i64 x] w (RetU l k a b err w) := by
  subst hn hm
  exact (pfirst_any A B c d s xs x w ⟨h.s, hc.out.1, hc.out.2⟩ h.d hi).mono fun _ _ r => r.u hr ha hb
theorem rsum_u (s xs : List Int) (x : Int) (h : TR w A s B xs) (hc : Hid (s.length ≤ c ∧ c ≤ 9223372036854775807)) (hi : I64s xs) (hn : n = s.length) (hm : m = xs.length) (hr : sumV s xs x = (l, k, err)) (ha : l.length = a) (hb : k.length = b) :
    Calls Try.prog 9 #[.agg #[.slice A n c, .slice B m d], .int .i64 x] w (RetU l k a b err w) := by
  subst hn hm
  exact (rsum_any A B c d s xs x w ⟨h.s, hc.out.1, hc.out.2⟩ h.d hi).mono fun _ _ r => r.u hr ha hb
theorem rmax_u (s xs : List Int) (x : Int) (h : TR w A s B xs) (hc : Hid (s.length ≤ c ∧ c ≤ 9223372036854775807)) (hi : I64s xs) (hn : n = s.length) (hm : m = xs.length) (hr : maxV s xs x = (l, k, err)) (ha : l.length = a) (hb : k.length = b) :
    Calls Try.prog 14 #[.agg #[.slice A n c, .slice B m d], .int .i64 x] w (RetU l k a b err w) := by
  subst hn hm
  exact (rmax_any A B c d s xs x w ⟨h.s, hc.out.1, hc.out.2⟩ h.d hi).mono fun _ _ r => r.u hr ha hb
theorem rmean_u (s xs : List Int) (x : Int) (h : TR w A s B xs) (hc : Hid (s.length ≤ c ∧ c ≤ 9223372036854775807)) (hi : I64s xs) (hn : n = s.length) (hm : m = xs.length) (hr : meanV s xs x = (l, k, err)) (ha : l.length = a) (hb : k.length = b) :
    Calls Try.prog 12 #[.agg #[.slice A n c, .slice B m d], .int .i64 x] w (RetU l k a b err w) := by
  subst hn hm
  exact (rmean_any A B c d s xs x w ⟨h.s, hc.out.1, hc.out.2⟩ h.d hi).mono fun _ _ r => r.u hr ha hb
theorem rfirst_u (s xs : List Int) (x : Int) (h : TR w A s B xs) (hc : Hid (s.length ≤ c ∧ c ≤ 9223372036854775807)) (hi : I64s xs) (hn : n = s.length) (hm : m = xs.length) (hr : firstV s xs x = (l, k, err)) (ha : l.length = a) (hb : k.length = b) :
    Calls Try.prog 16 #[.agg #[.slice A n c, .slice B m d], .int .i64 x] w (RetU l k a b err w) := by
  subst hn hm
  exact (rfirst_any A B c d s xs x w ⟨h.s, hc.out.1, hc.out.2⟩ h.d).mono fun _ _ r => r.u hr ha hb
theorem pgrow_u (s xs : List Int) (x y : Int) (h : TR w A s B xs) (hn : n = s.length) (hm : m = xs.length) (hr : growV s xs x y = (l, k, err)) (ha : l.length = a) (hb : k.length = b) :
    Calls Try.prog 17 #[.agg #[.slice A n c, .slice B m d], .int .i64 x, .int .i64 y] w (RetU l k a b err w) := by
  subst hn hm
  exact (pgrow_any A B c d s xs x y w h.s h.d).mono fun _ _ r => r.u hr ha hb
theorem rgrow_u (s xs : List Int) (x y : Int) (h : TR w A s B xs) (hc : Hid (s.length ≤ c ∧ c ≤ 9223372036854775807)) (hn : n = s.length) (hm : m = xs.length) (hr : growV s xs x y = (l, k, err)) (ha : l.length = a) (hb : k.length = b) :
    Calls Try.prog 18 #[.agg #[.slice A n c, .slice B m d], .int .i64 x, .int .i64 y] w (RetU l k a b err w) := by
  subst hn hm
  exact (rgrow_any A B c d s xs x y w ⟨h.s, hc.out.1, hc.out.2⟩ h.d).mono fun _ _ r => r.u hr ha hb
end

/-- A field []int is there, as a list of numbers, with room for it. -/
theorem rd_room {H : Type} {enc : TypeId × Value → H} {W : World} {v : Value} {n : Nat} {y : DataW H × List MemPlace} (h : DataW.trod enc Try.prog W 0 (fun _ => true) true n 22 [v] = some y) :
    ∃ A m c, v = .slice A m c ∧ (∃ xs : List Int, m = xs.length ∧ Rd W A xs ∧ I64s xs) ∧ m ≤ c ∧ c ≤ 9223372036854775807 := by
  rcases open_ints Try.underlying22 Try.underlying3 int_cells h with ⟨hcs, _⟩ | ⟨a', len, cap, zs, hcs, _, hl, hm, hz, _, hcell, hwf⟩
  · injection hcs with hcs _
    exact ⟨none, 0, 0, hcs, ⟨[], rfl, Rd.nil _ _, I64s.nil_⟩, by omega, by omega⟩
  · injection hcs with hcs _
    simp only [if_true] at hz
    have ln : (zs.take len).length = len := by simp; omega
    refine ⟨some a', len, cap, hcs, ⟨zs.take len, ln.symm, ⟨by unfold maxLen at hm; omega, fun hp => ⟨a', rfl, ?_, fun j u hj => ?_⟩⟩, fun x hx => i64_of (hwf x (List.mem_of_mem_take hx))⟩, by omega, by unfold maxLen at hm; omega⟩
    · have := lt_of_cell (hcell 0 (by omega))
      rwa [block_of_add] at this
    · have hj' : j < len := by have := (List.getElem?_eq_some_iff.1 hj).1; omega
      rw [hcell j (by omega)]
      rw [List.getElem?_take, if_pos hj'] at hj
      simp [List.getD, hj]
/-- An argument tensor is there, with room for its shape. -/
theorem tn_room {H : Type} {enc : TypeId × Value → H} {W : World} {r : Reach} {b : Nat} {v : Value} {d : DataW H} {p : List MemPlace} (hv : Value.okWide Try.prog W r b 24 v) (h : DataW.Trod enc Try.prog W 0 (fun _ => true) true 24 v d p) :
    ∃ A n c B m e, v = .agg #[.slice A n c, .slice B m e] ∧ ∃ s xs : List Int, n = s.length ∧ m = xs.length ∧ TR W A s B xs ∧ I64s xs ∧ Hid (s.length ≤ c ∧ c ≤ 9223372036854775807) := by
  obtain ⟨v0, v1, y0, y1, n, rfl, _, _, h0, h1⟩ := Go.Joins.open_agg2 Try.underlying24 (by kernel_rfl) (by kernel_rfl) hv h
  obtain ⟨A, n0, c, rfl, ⟨s, e1, r1, _⟩, l1, l2⟩ := rd_room h0
  obtain ⟨B, m0, e, rfl, ⟨xs, e2, r2, i2⟩, _, _⟩ := rd_room h1
  exact ⟨A, n0, c, B, m0, e, rfl, s, xs, e1, e2, ⟨r1, r2⟩, i2, ⟨by omega, l2⟩⟩

set_option maxHeartbeats 4000000 in
set_option maxRecDepth 100000 in
theorem rdawake_any (w : World) : Calls Try.prog 6 #[] w fun e w' => e = .returned (.bool true) ∧ Kp w w' := by
  have i1 : I64s [1, 5, 3, 4] := by unfold I64s; decide
  have hc2 : Hid (([2, 2] : List Int).length ≤ 2 ∧ 2 ≤ 9223372036854775807) := ⟨by simp, by omega⟩
  have hc0 : Hid (([] : List Int).length ≤ 0 ∧ 0 ≤ 9223372036854775807) := ⟨by simp, by omega⟩
  go_enter Try.func6, Try.ntmps6
  go_wp2_with fail
  obtain ⟨W0, HW0⟩ : ∃ W0, Hid (W0 = ((w.alloc (.cells #[.int .i64 2, .int .i64 2] 3)).alloc (.cells #[.int .i64 1, .int .i64 5, .int .i64 3, .int .i64 4] 3)).alloc (.cells #[.slice (some ⟨w.heap.size, 0, none⟩) 2 2, .slice (some ⟨w.heap.size + 1, 0, none⟩) 4 4] 24)) := ⟨_, rfl⟩
  have K : Hid (Kp w W0) := by show Kp w W0; rw [HW0.out]; exact ((Kp.alloc_ _ _).al _).al _
  have T : Hid (TR W0 (some ⟨w.heap.size, 0, none⟩) [2, 2] (some ⟨w.heap.size + 1, 0, none⟩) [1, 5, 3, 4]) := by
    show TR W0 _ _ _ _; rw [HW0.out]
    exact ⟨((Rd.two_ rfl).alloc_ _).alloc_ _, (Rd.lit_ [1, 5, 3, 4] (by simp) (by simp)).alloc_ _⟩
  have TB : Hid (Bk W0 (w.heap.size + 1 + 1) (some ⟨w.heap.size, 0, none⟩) 2 2 (some ⟨w.heap.size + 1, 0, none⟩) 4 4) := by
    show Bk W0 _ _ _ _ _ _ _; rw [HW0.out]; exact Bk.new (by simp)
  rw [← HW0.out]
  have ztb0 := TB.out.c0
  have ztb1 := TB.out.c1
  have ztb2 := TB.out.lt
  refine (psum_u [2, 2] [1, 5, 3, 4] 0 T.out hc2 i1 rfl rfl (l := [2]) (k := [4, 9]) (err := 0) (a := 1) (b := 2) (by decide +kernel) rfl rfl).mono ?_; rintro e0 w1 ⟨A1, c1, B1, d1, rfl, r1, k1⟩
  have K := Lib.hid (K.out.tr k1)
  have TB := Lib.hid (TB.out.kp k1)
  have T := Lib.hid (T.out.kp k1)
  have A := Lib.hid r1
  clear k1 r1 ztb0 ztb1 ztb2
  have ztb0 := TB.out.c0
  have ztb1 := TB.out.c1
  have ztb2 := TB.out.lt
  go_wp2_with fail
  refine (pmax_u [2, 2] [1, 5, 3, 4] 1 (T.out.alloc_ _) hc2 i1 rfl rfl (l := [2]) (k := [5, 4]) (err := 0) (a := 1) (b := 2) (by decide +kernel) rfl rfl).mono ?_; rintro e0 w2 ⟨A2, c2, B2, d2, rfl, r2, k2⟩
  have K := Lib.hid ((K.out.al _).tr k2)
  have TB := Lib.hid ((TB.out.alloc_ _).kp k2)
  have T := Lib.hid ((T.out.alloc_ _).kp k2)
  have A := Lib.hid ((A.out.alloc_ _).kp k2)
  have AB : Hid (Bk w2 w1.heap.size A1 1 c1 B1 2 d1) := (Bk.new rfl).kp k2
  have B := Lib.hid r2
  clear k2 r2 ztb0 ztb1 ztb2
  have ztb0 := TB.out.c0
  have ztb1 := TB.out.c1
  have ztb2 := TB.out.lt
  go_wp2_with fail
  refine (pfirst_u [2, 2] [1, 5, 3, 4] 1 (T.out.alloc_ _) hc2 i1 rfl rfl (l := [2, 2]) (k := [0, 4294967296, 0, 4294967296]) (err := 0) (a := 2) (b := 4) (by decide +kernel) rfl rfl).mono ?_; rintro e0 w3 ⟨A3, c3, B3, d3, rfl, r3, k3⟩
  have K := Lib.hid ((K.out.al _).tr k3)
  have TB := Lib.hid ((TB.out.alloc_ _).kp k3)
  have AB := Lib.hid ((AB.out.alloc_ _).kp k3)
  have T := Lib.hid ((T.out.alloc_ _).kp k3)
  have A := Lib.hid ((A.out.alloc_ _).kp k3)
  have B := Lib.hid ((B.out.alloc_ _).kp k3)
  have BB : Hid (Bk w3 w2.heap.size A2 1 c2 B2 2 d2) := (Bk.new rfl).kp k3
  have C := Lib.hid r3
  clear k3 r3 ztb0 ztb1 ztb2
  have ztb0 := TB.out.c0
  have ztb1 := TB.out.c1
  have ztb2 := TB.out.lt
  go_wp2_with fail
  refine (pmean_u [2, 2] [1, 5, 3, 4] 0 (T.out.alloc_ _) hc2 i1 rfl rfl (l := [2]) (k := [2, 4]) (err := 0) (a := 1) (b := 2) (by decide +kernel) rfl rfl).mono ?_; rintro e0 w4 ⟨A4, c4, B4, d4, rfl, r4, k4⟩
  have K := Lib.hid ((K.out.al _).tr k4)
  have TB := Lib.hid ((TB.out.alloc_ _).kp k4)
  have AB := Lib.hid ((AB.out.alloc_ _).kp k4)
  have BB := Lib.hid ((BB.out.alloc_ _).kp k4)
  have T := Lib.hid ((T.out.alloc_ _).kp k4)
  have A := Lib.hid ((A.out.alloc_ _).kp k4)
  have B := Lib.hid ((B.out.alloc_ _).kp k4)
  have C := Lib.hid ((C.out.alloc_ _).kp k4)
  have CB : Hid (Bk w4 w3.heap.size A3 2 c3 B3 4 d3) := (Bk.new rfl).kp k4
  have D := Lib.hid r4
  clear k4 r4 ztb0 ztb1 ztb2
  have zbb0 := BB.out.c0
  have zbb1 := BB.out.c1
  have zbb2 := BB.out.lt
  go_wp2_with fail
  refine (pgrow_u [2] [5, 4] 0 2 (B.out.alloc_ _) rfl rfl (l := [2, 2]) (k := [5, 4, 5, 4]) (err := 0) (a := 2) (b := 4) (by decide +kernel) rfl rfl).mono ?_; rintro e0 w5 ⟨A5, c5, B5, d5, rfl, r5, k5⟩
  have K := Lib.hid ((K.out.al _).tr k5)
  have TB := Lib.hid ((TB.out.alloc_ _).kp k5)
  have AB := Lib.hid ((AB.out.alloc_ _).kp k5)
  have BB := Lib.hid ((BB.out.alloc_ _).kp k5)
  have CB := Lib.hid ((CB.out.alloc_ _).kp k5)
  have T := Lib.hid ((T.out.alloc_ _).kp k5)
  have A := Lib.hid ((A.out.alloc_ _).kp k5)
  have B := Lib.hid ((B.out.alloc_ _).kp k5)
  have C := Lib.hid ((C.out.alloc_ _).kp k5)
  have D := Lib.hid ((D.out.alloc_ _).kp k5)
  have DB : Hid (Bk w5 w4.heap.size A4 1 c4 B4 2 d4) := (Bk.new rfl).kp k5
  have E := Lib.hid r5
  clear k5 r5 zbb0 zbb1 zbb2
  have ztb0 := TB.out.c0
  have ztb1 := TB.out.c1
  have ztb2 := TB.out.lt
  go_wp2_with fail
  refine (psum_u [2, 2] [1, 5, 3, 4] 2 (T.out.alloc_ _) hc2 i1 rfl rfl (l := []) (k := []) (err := 20) (a := 0) (b := 0) (by decide +kernel) rfl rfl).mono ?_; rintro e0 w6 ⟨A6, c6, B6, d6, rfl, r6, k6⟩
  have K := Lib.hid ((K.out.al _).tr k6)
  have TB := Lib.hid ((TB.out.alloc_ _).kp k6)
  have AB := Lib.hid ((AB.out.alloc_ _).kp k6)
  have BB := Lib.hid ((BB.out.alloc_ _).kp k6)
  have CB := Lib.hid ((CB.out.alloc_ _).kp k6)
  have DB := Lib.hid ((DB.out.alloc_ _).kp k6)
  have T := Lib.hid ((T.out.alloc_ _).kp k6)
  have A := Lib.hid ((A.out.alloc_ _).kp k6)
  have B := Lib.hid ((B.out.alloc_ _).kp k6)
  have C := Lib.hid ((C.out.alloc_ _).kp k6)
  have D := Lib.hid ((D.out.alloc_ _).kp k6)
  have E := Lib.hid ((E.out.alloc_ _).kp k6)
  have EB : Hid (Bk w6 w5.heap.size A5 2 c5 B5 4 d5) := (Bk.new rfl).kp k6
  have J := Lib.hid r6
  clear k6 r6 ztb0 ztb1 ztb2
  go_wp2_with fail
  refine (psum_u [] [] 0 (A := none) (B := none) ⟨Rd.nil _ _, Rd.nil _ _⟩ hc0 I64s.nil_ rfl rfl (l := []) (k := []) (err := 30) (a := 0) (b := 0) (by decide +kernel) rfl rfl).mono ?_; rintro e0 w7 ⟨A7, c7, B7, d7, rfl, r7, k7⟩
  have K := Lib.hid ((K.out.al _).tr k7)
  have TB := Lib.hid ((TB.out.alloc_ _).kp k7)
  have AB := Lib.hid ((AB.out.alloc_ _).kp k7)
  have BB := Lib.hid ((BB.out.alloc_ _).kp k7)
  have CB := Lib.hid ((CB.out.alloc_ _).kp k7)
  have DB := Lib.hid ((DB.out.alloc_ _).kp k7)
  have EB := Lib.hid ((EB.out.alloc_ _).kp k7)
  have T := Lib.hid ((T.out.alloc_ _).kp k7)
  have A := Lib.hid ((A.out.alloc_ _).kp k7)
  have B := Lib.hid ((B.out.alloc_ _).kp k7)
  have C := Lib.hid ((C.out.alloc_ _).kp k7)
  have D := Lib.hid ((D.out.alloc_ _).kp k7)
  have E := Lib.hid ((E.out.alloc_ _).kp k7)
  have JB : Hid (Bk w7 w6.heap.size A6 0 c6 B6 0 d6) := (Bk.new rfl).kp k7
  have Q := Lib.hid r7
  clear k7 r7 J
  have zab0 := AB.out.c0
  have zab1 := AB.out.c1
  have zab2 := AB.out.lt
  go_wp2_with fail
  refine (same_k [4, 9] [4, 9] ((A.out.alloc_ _).alloc_ _).d (Rd.lit_ [4, 9] (by simp) (by simp)) rfl rfl (r := true) (by decide)).mono ?_; rintro e0 w8 ⟨rfl, k8⟩
  have K := Lib.hid (((K.out.al _).al _).tr k8)
  have TB := Lib.hid (((TB.out.alloc_ _).alloc_ _).kp k8)
  have AB := Lib.hid (((AB.out.alloc_ _).alloc_ _).kp k8)
  have BB := Lib.hid (((BB.out.alloc_ _).alloc_ _).kp k8)
  have CB := Lib.hid (((CB.out.alloc_ _).alloc_ _).kp k8)
  have DB := Lib.hid (((DB.out.alloc_ _).alloc_ _).kp k8)
  have EB := Lib.hid (((EB.out.alloc_ _).alloc_ _).kp k8)
  have JB := Lib.hid (((JB.out.alloc_ _).alloc_ _).kp k8)
  have T := Lib.hid (((T.out.alloc_ _).alloc_ _).kp k8)
  have A := Lib.hid (((A.out.alloc_ _).alloc_ _).kp k8)
  have B := Lib.hid (((B.out.alloc_ _).alloc_ _).kp k8)
  have C := Lib.hid (((C.out.alloc_ _).alloc_ _).kp k8)
  have D := Lib.hid (((D.out.alloc_ _).alloc_ _).kp k8)
  have E := Lib.hid (((E.out.alloc_ _).alloc_ _).kp k8)
  have QB : Hid (Bk w8 w7.heap.size A7 0 c7 B7 0 d7) := ((Bk.new rfl).alloc_ _).kp k8
  clear k8 zab0 zab1 zab2 Q
  have zbb0 := BB.out.c0
  have zbb1 := BB.out.c1
  have zbb2 := BB.out.lt
  go_wp2_with fail
  refine (same_k [5, 4] [5, 4] (B.out.alloc_ _).d (Rd.lit_ [5, 4] (by simp) (by simp)) rfl rfl (r := true) (by decide)).mono ?_; rintro e0 w9 ⟨rfl, k9⟩
  have K := Lib.hid ((K.out.al _).tr k9)
  have TB := Lib.hid ((TB.out.alloc_ _).kp k9)
  have AB := Lib.hid ((AB.out.alloc_ _).kp k9)
  have BB := Lib.hid ((BB.out.alloc_ _).kp k9)
  have CB := Lib.hid ((CB.out.alloc_ _).kp k9)
  have DB := Lib.hid ((DB.out.alloc_ _).kp k9)
  have EB := Lib.hid ((EB.out.alloc_ _).kp k9)
  have JB := Lib.hid ((JB.out.alloc_ _).kp k9)
  have QB := Lib.hid ((QB.out.alloc_ _).kp k9)
  have T := Lib.hid ((T.out.alloc_ _).kp k9)
  have A := Lib.hid ((A.out.alloc_ _).kp k9)
  have B := Lib.hid ((B.out.alloc_ _).kp k9)
  have C := Lib.hid ((C.out.alloc_ _).kp k9)
  have D := Lib.hid ((D.out.alloc_ _).kp k9)
  have E := Lib.hid ((E.out.alloc_ _).kp k9)
  clear k9 zbb0 zbb1 zbb2
  have zcb0 := CB.out.c0
  have zcb1 := CB.out.c1
  have zcb2 := CB.out.lt
  go_wp2_with fail
  refine (same_k [0, 4294967296, 0, 4294967296] [0, 4294967296, 0, 4294967296] (C.out.alloc_ _).d (Rd.lit_ [0, 4294967296, 0, 4294967296] (by simp) (by simp)) rfl rfl (r := true) (by decide)).mono ?_; rintro e0 w10 ⟨rfl, k10⟩
  have K := Lib.hid ((K.out.al _).tr k10)
  have TB := Lib.hid ((TB.out.alloc_ _).kp k10)
  have AB := Lib.hid ((AB.out.alloc_ _).kp k10)
  have BB := Lib.hid ((BB.out.alloc_ _).kp k10)
  have CB := Lib.hid ((CB.out.alloc_ _).kp k10)
  have DB := Lib.hid ((DB.out.alloc_ _).kp k10)
  have EB := Lib.hid ((EB.out.alloc_ _).kp k10)
  have JB := Lib.hid ((JB.out.alloc_ _).kp k10)
  have QB := Lib.hid ((QB.out.alloc_ _).kp k10)
  have T := Lib.hid ((T.out.alloc_ _).kp k10)
  have A := Lib.hid ((A.out.alloc_ _).kp k10)
  have B := Lib.hid ((B.out.alloc_ _).kp k10)
  have C := Lib.hid ((C.out.alloc_ _).kp k10)
  have D := Lib.hid ((D.out.alloc_ _).kp k10)
  have E := Lib.hid ((E.out.alloc_ _).kp k10)
  clear k10 zcb0 zcb1 zcb2
  have zdb0 := DB.out.c0
  have zdb1 := DB.out.c1
  have zdb2 := DB.out.lt
  go_wp2_with fail
  refine (same_k [2, 4] [2, 4] (D.out.alloc_ _).d (Rd.lit_ [2, 4] (by simp) (by simp)) rfl rfl (r := true) (by decide)).mono ?_; rintro e0 w11 ⟨rfl, k11⟩
  have K := Lib.hid ((K.out.al _).tr k11)
  have TB := Lib.hid ((TB.out.alloc_ _).kp k11)
  have AB := Lib.hid ((AB.out.alloc_ _).kp k11)
  have BB := Lib.hid ((BB.out.alloc_ _).kp k11)
  have CB := Lib.hid ((CB.out.alloc_ _).kp k11)
  have DB := Lib.hid ((DB.out.alloc_ _).kp k11)
  have EB := Lib.hid ((EB.out.alloc_ _).kp k11)
  have JB := Lib.hid ((JB.out.alloc_ _).kp k11)
  have QB := Lib.hid ((QB.out.alloc_ _).kp k11)
  have T := Lib.hid ((T.out.alloc_ _).kp k11)
  have A := Lib.hid ((A.out.alloc_ _).kp k11)
  have B := Lib.hid ((B.out.alloc_ _).kp k11)
  have C := Lib.hid ((C.out.alloc_ _).kp k11)
  have D := Lib.hid ((D.out.alloc_ _).kp k11)
  have E := Lib.hid ((E.out.alloc_ _).kp k11)
  clear k11 zdb0 zdb1 zdb2
  have zeb0 := EB.out.c0
  have zeb1 := EB.out.c1
  have zeb2 := EB.out.lt
  go_wp2_with fail
  refine (same_k [5, 4, 5, 4] [5, 4, 5, 4] (E.out.alloc_ _).d (Rd.lit_ [5, 4, 5, 4] (by simp) (by simp)) rfl rfl (r := true) (by decide)).mono ?_; rintro e0 w12 ⟨rfl, k12⟩
  have K := Lib.hid ((K.out.al _).tr k12)
  have TB := Lib.hid ((TB.out.alloc_ _).kp k12)
  have AB := Lib.hid ((AB.out.alloc_ _).kp k12)
  have BB := Lib.hid ((BB.out.alloc_ _).kp k12)
  have CB := Lib.hid ((CB.out.alloc_ _).kp k12)
  have DB := Lib.hid ((DB.out.alloc_ _).kp k12)
  have EB := Lib.hid ((EB.out.alloc_ _).kp k12)
  have JB := Lib.hid ((JB.out.alloc_ _).kp k12)
  have QB := Lib.hid ((QB.out.alloc_ _).kp k12)
  have T := Lib.hid ((T.out.alloc_ _).kp k12)
  have A := Lib.hid ((A.out.alloc_ _).kp k12)
  have B := Lib.hid ((B.out.alloc_ _).kp k12)
  have C := Lib.hid ((C.out.alloc_ _).kp k12)
  have D := Lib.hid ((D.out.alloc_ _).kp k12)
  have E := Lib.hid ((E.out.alloc_ _).kp k12)
  clear k12 zeb0 zeb1 zeb2
  go_wp2
  go_ret
  exact ⟨rfl, K.out⟩
end Go.Proofs.Ytpglchimghnpeaa
