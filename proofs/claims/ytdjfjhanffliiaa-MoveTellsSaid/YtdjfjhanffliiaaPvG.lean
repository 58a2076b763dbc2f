/- Join of layer 5 (move): what it answers. -/
import Derived.Test.YtdjfjhanffliiaaPvF
set_option linter.unusedVariables false
set_option linter.unusedSimpArgs false
namespace Go.Proofs.ShM
theorem upL_zero (x : List Int) (k : Nat) : upL x k 0 = x := by
  unfold upL
  rw [Int.add_zero]
  by_cases h : k < x.length
  · rw [List.getD_eq_getElem?_getD, List.getElem?_eq_getElem h, Option.getD_some, List.set_getElem_self]
  · rw [List.set_eq_of_length_le (by omega)]
/-- What stands at each place of what was joined. -/
theorem both_is (s xs t ys h : List Int) (k : Nat) : bothL s xs t ys h k = (List.range (sizeV h).toNat).map fun i : Nat => if (digs h i).getD k 0 < s.getD k 0 then (atV s xs (digs h i)).1 else (atV t ys (upL (digs h i) k (-(s.getD k 0)))).1 := by
  unfold bothL
  refine List.map_congr_left fun i hi => ?_
  have hi' : i < (sizeV h).toNat := by simpa using hi
  unfold movedL
  simp only [List.getD_eq_getElem?_getD, List.getElem?_map, List.getElem?_range hi', Option.map_some, Option.getD_some, upL_zero]
/-- Which shapes may be joined. -/
theorem glue_same {s t : List Int} {k : Nat} {x : Int} (hk : k < s.length) (hx : s[k]? = some x) (hk2 : k < t.length) : t.set k x = s ↔ s.length = t.length ∧ s.set k 1 = t.set k 1 := by
  have e : s.set k x = s := by rw [← Option.some.inj ((List.getElem?_eq_getElem hk).symm.trans hx)]; exact List.set_getElem_self hk
  constructor
  · intro h
    refine ⟨by rw [← h, List.length_set], ?_⟩
    rw [← h, List.set_set]
  · rintro ⟨_, h⟩
    have := congrArg (fun l => l.set k x) h
    simp only [List.set_set] at this
    rw [← this]; exact e
end Go.Proofs.ShM
namespace Go.Proofs.Ytdjfjhanffliiaa
open Go.RowKit Go.Shelf Go.Proofs.ShM
set_option linter.unusedVariables false

/-- The tensors' boxes, the axis's, the answer's. -/
structure Jf (w : World) (A : Option Addr) (n c : Nat) (B : Option Addr) (m d : Nat) (C : Option Addr) (n2 e : Nat) (D : Option Addr) (m2 f : Nat) (ax : Int) (W : World) : Prop where
  kp : Kp w W
  t : Bk W w.heap.size A n c B m d
  t2 : Bk W (w.heap.size + 1) C n2 e D m2 f
  x5 : Boxed W (w.heap.size + 1 + 1) 3 (.int .i64 ax)
  r : Bk W (w.heap.size + 1 + 1 + 1) none 0 0 none 0 0
section
variable {w W W' : World} {A B C D : Option Addr} {n c m d n2 e m2 f : Nat} {ax : Int}
theorem Jf.tr (h : Jf w A n c B m d C n2 e D m2 f ax W) (k : Kp W W') : Jf w A n c B m d C n2 e D m2 f ax W' := ⟨h.kp.tr k, h.t.kp k, h.t2.kp k, kp_heap k h.x5, h.r.kp k⟩
theorem Jf.mk_ (w : World) (A : Option Addr) (n c : Nat) (B : Option Addr) (m d : Nat) (C : Option Addr) (n2 e : Nat) (D : Option Addr) (m2 f : Nat) (ax : Int) :
    Jf w A n c B m d C n2 e D m2 f ax ((((w.alloc (.cells #[.slice A n c, .slice B m d] 24)).alloc (.cells #[.slice C n2 e, .slice D m2 f] 24)).alloc (.cells #[.int .i64 ax] 3)).alloc (.cells #[.slice none 0 0, .slice none 0 0] 24)) where
  kp := (((Kp.alloc_ _ _).al _).al _).al _
  t := (((Bk.new rfl).alloc_ _).alloc_ _).alloc_ _
  t2 := ((Bk.new (by simp)).alloc_ _).alloc_ _
  x5 := by
    have h := (Boxed.new ((w.alloc (.cells #[.slice A n c, .slice B m d] 24)).alloc (.cells #[.slice C n2 e, .slice D m2 f] 24)) 3 (.int .i64 ax)).alloc (.cells #[.slice none 0 0, .slice none 0 0] 24)
    simpa only [World.size_alloc] using h
  r := Bk.new (by simp)
theorem Jf.end_ (h : Jf w A n c B m d C n2 e D m2 f ax W) (x y : Value) : Kp w ((W.setCell ⟨w.heap.size + 1 + 1 + 1, 0, none⟩ x).setCell ⟨w.heap.size + 1 + 1 + 1, 1, none⟩ y) :=
  (h.kp.setCell (p := ⟨w.heap.size + 1 + 1 + 1, 0, none⟩) (by show w.heap.size ≤ w.heap.size + 1 + 1 + 1; omega) x).setCell (p := ⟨w.heap.size + 1 + 1 + 1, 1, none⟩) (by show w.heap.size ≤ w.heap.size + 1 + 1 + 1; omega) y
end

/-- each, over Join's closure. -/
theorem each_join (A B C D E : Option Addr) (c d e f n axis b8 : Nat) (s xs t ys g : List Int) (x : Int) (w V : World) (hA : Rd w A s) (hB : Rd w B xs) (hC : Rd w C t) (hD : Rd w D ys) (T : Jf w A s.length c B xs.length d C t.length e D ys.length f (axis : Int) V)
    (X6 : Boxed V b8 3 (.int .i64 x)) (r : Rd V E g) (hg : okS g = true) (hax : axis < g.length) (hx : s.getD axis 0 = x) (hx0 : 0 ≤ x) (hx1 : x ≤ 16) :
    Calls Try.prog 31 #[.slice E g.length n, .func (.func 47) #[] #[.pointer (some ⟨w.heap.size + 1 + 1, 0, none⟩), .pointer (some ⟨b8, 0, none⟩), .pointer (some ⟨w.heap.size, 0, none⟩), .pointer (some ⟨w.heap.size + 1, 0, none⟩)]] V (RetM g (bothL s xs t ys g axis) V) := by
  rw [both_is, hx]
  exact each_any E n g 47 [.pointer (some ⟨w.heap.size + 1 + 1, 0, none⟩), .pointer (some ⟨b8, 0, none⟩), .pointer (some ⟨w.heap.size, 0, none⟩), .pointer (some ⟨w.heap.size + 1, 0, none⟩)]
    (fun k => if (digs g k).getD axis 0 < x then (atV s xs (digs g k)).1 else (atV t ys (upL (digs g k) axis (-x))).1) V r hg
    (fun k AI q W0 W1 k0 k1 hk hO => by
      obtain ⟨y, hy, y0, y1⟩ := digs_at hg hk hax
      have hl := digs_len g (k : Int)
      rw [← hl] at hO ⊢
      have hz : IntKind.i64.wrap (y - x) = y + (-x) := by rw [IntWalk.i64_in _ (by omega)] <;> omega
      have p := join1_any A B C D AI c d e f q W0.heap.size w.heap.size (w.heap.size + 1) (w.heap.size + 1 + 1) b8 s xs t ys (digs g k) axis x y _ V W1 (k0.tr k1) k0.size T.t T.t2 T.x5 X6 (hA.kp T.kp) (hB.kp T.kp) (hC.kp T.kp) (hD.kp T.kp) hO hy hz
      rw [← upL_at hy] at p
      have hgd : (digs g k).getD axis 0 = y := by rw [List.getD, hy, Option.getD_some]
      try dsimp only
      rw [hgd]
      exact p) (enters_of Try.func47 (by kernel_rfl) rfl)

set_option maxHeartbeats 4000000 in
theorem pjoin_tok (A B C D : Option Addr) (c d e f : Nat) (s xs t ys : List Int) (axis : Int) (w : World) (hA : Rd w A s) (hB : Rd w B xs) (hC : Rd w C t) (hD : Rd w D ys) (ht : tokV s xs = false ∨ tokV t ys = false) :
    Calls Try.prog 20 #[.agg #[.slice A s.length c, .slice B xs.length d], .agg #[.slice C t.length e, .slice D ys.length f], .int .i64 axis] w (RetT (glueV s xs t ys axis) w) := by
  have hlA := hA.len
  have hlB := hB.len
  have hlC := hC.len
  have hlD := hD.len
  have F0 := Lib.hid (Jf.mk_ w A s.length c B xs.length d C t.length e D ys.length f axis)
  have HT := Lib.hid (fun W (k : Kp w W) => tcheck_any A B c d s xs W (hA.kp k) (hB.kp k))
  have HT2 := Lib.hid (fun W (k : Kp w W) => tcheck_any C D e f t ys W (hC.kp k) (hD.kp k))
  have HF : Hid (glueV s xs t ys axis = ([], [], 30)) := by show glueV s xs t ys axis = _; unfold glueV; rw [if_pos ht]
  cases h1 : tokV s xs with
  | false =>
    rw [h1] at HT
    clear hA hB hC hD ht h1
    go_enter Try.func20, Try.ntmps20
    go_wp2_with fail
    refine (HT.out _ F0.out.kp).mono ?_; rintro e0 w1 ⟨rfl, k1⟩
    have F1 := Lib.hid (F0.out.tr k1)
    clear k1
    have t0 := F1.out.t.c0
    have t1 := F1.out.t.c1
    have t2 := F1.out.t2.c0
    have t3 := F1.out.t2.c1
    have t5 := F1.out.x5.cell
    have r0 := F1.out.r.c0
    have r1 := F1.out.r.c1
    have u0 := F1.out.r.f0 0
    have u1 := F1.out.r.f0 1
    go_wp2
    refine bodyPost_ret (v := .tuple #[.agg #[.slice none 0 0, .slice none 0 0], .int .i64 30]) (by simp [results, Try.results20, go_sem, r0, r1]; try rfl) rfl ?_
    exact RetT.err HF.out (F1.out.end_ _ _)
  | true =>
    have h2 : tokV t ys = false := by rcases ht with h | h; (rw [h1] at h; cases h); exact h
    rw [h1] at HT
    rw [h2] at HT2
    clear hA hB hC hD ht h1 h2
    go_enter Try.func20, Try.ntmps20
    go_wp2_with fail
    refine (HT.out _ F0.out.kp).mono ?_; rintro e0 w1 ⟨rfl, k1⟩
    have F1 := Lib.hid (F0.out.tr k1)
    clear k1
    have t0 := F1.out.t.c0
    have t1 := F1.out.t.c1
    have t2 := F1.out.t2.c0
    have t3 := F1.out.t2.c1
    have t5 := F1.out.x5.cell
    have r0 := F1.out.r.c0
    have r1 := F1.out.r.c1
    have u0 := F1.out.r.f0 0
    have u1 := F1.out.r.f0 1
    go_wp2_with fail
    refine (HT2.out _ F1.out.kp).mono ?_; rintro e0 w2 ⟨rfl, k2⟩
    have F1 := Lib.hid (F1.out.tr k2)
    clear k2 t0 t1 t2 t3 t5 r0 r1 u0 u1
    have t0 := F1.out.t.c0
    have t1 := F1.out.t.c1
    have t2 := F1.out.t2.c0
    have t3 := F1.out.t2.c1
    have t5 := F1.out.x5.cell
    have r0 := F1.out.r.c0
    have r1 := F1.out.r.c1
    have u0 := F1.out.r.f0 0
    have u1 := F1.out.r.f0 1
    go_wp2
    refine bodyPost_ret (v := .tuple #[.agg #[.slice none 0 0, .slice none 0 0], .int .i64 30]) (by simp [results, Try.results20, go_sem, r0, r1]; try rfl) rfl ?_
    exact RetT.err HF.out (F1.out.end_ _ _)

set_option maxHeartbeats 4000000 in
theorem pjoin_side (A B C D : Option Addr) (c d e f : Nat) (s xs t ys : List Int) (axis : Int) (w : World) (hA : Rd w A s) (hB : Rd w B xs) (hC : Rd w C t) (hD : Rd w D ys) (ht : tokV s xs = true) (ht2 : tokV t ys = true) (hF : glueV s xs t ys axis = ([], [], 20)) (hx : axis < 0 ∨ (s.length : Int) ≤ axis ∨ (t.length : Int) ≤ axis) :
    Calls Try.prog 20 #[.agg #[.slice A s.length c, .slice B xs.length d], .agg #[.slice C t.length e, .slice D ys.length f], .int .i64 axis] w (RetT (glueV s xs t ys axis) w) := by
  have hlA := hA.len
  have hlB := hB.len
  have hlC := hC.len
  have hlD := hD.len
  have F0 := Lib.hid (Jf.mk_ w A s.length c B xs.length d C t.length e D ys.length f axis)
  have HT := Lib.hid (fun W (k : Kp w W) => tcheck_any A B c d s xs W (hA.kp k) (hB.kp k))
  have HT2 := Lib.hid (fun W (k : Kp w W) => tcheck_any C D e f t ys W (hC.kp k) (hD.kp k))
  have HF := Lib.hid hF
  rw [ht] at HT
  rw [ht2] at HT2
  by_cases h1 : axis < 0 ∨ (s.length : Int) ≤ axis
  · have HSA : Hid (∀ W, Calls Try.prog 38 #[.agg #[.slice A s.length c, .slice B xs.length d], .int .i64 axis] W fun e w' => e = .returned (.bool false) ∧ Kp W w') := fun W => hasside_no A B c d s.length xs.length _ W h1 hlA
    clear hA hB hC hD ht ht2 hF hx h1
    go_enter Try.func20, Try.ntmps20
    go_wp2_with fail
    refine (HT.out _ F0.out.kp).mono ?_; rintro e0 w1 ⟨rfl, k1⟩
    have F1 := Lib.hid (F0.out.tr k1)
    clear k1
    have t0 := F1.out.t.c0
    have t1 := F1.out.t.c1
    have t2 := F1.out.t2.c0
    have t3 := F1.out.t2.c1
    have t5 := F1.out.x5.cell
    have r0 := F1.out.r.c0
    have r1 := F1.out.r.c1
    have u0 := F1.out.r.f0 0
    have u1 := F1.out.r.f0 1
    go_wp2_with fail
    refine (HT2.out _ F1.out.kp).mono ?_; rintro e0 w2 ⟨rfl, k2⟩
    have F1 := Lib.hid (F1.out.tr k2)
    clear k2 t0 t1 t2 t3 t5 r0 r1 u0 u1
    have t0 := F1.out.t.c0
    have t1 := F1.out.t.c1
    have t2 := F1.out.t2.c0
    have t3 := F1.out.t2.c1
    have t5 := F1.out.x5.cell
    have r0 := F1.out.r.c0
    have r1 := F1.out.r.c1
    have u0 := F1.out.r.f0 0
    have u1 := F1.out.r.f0 1
    go_wp2_with fail
    refine (HSA.out _).mono ?_; rintro e0 w3 ⟨rfl, k3⟩
    have F1 := Lib.hid (F1.out.tr k3)
    clear k3 t0 t1 t2 t3 t5 r0 r1 u0 u1
    have t0 := F1.out.t.c0
    have t1 := F1.out.t.c1
    have t2 := F1.out.t2.c0
    have t3 := F1.out.t2.c1
    have t5 := F1.out.x5.cell
    have r0 := F1.out.r.c0
    have r1 := F1.out.r.c1
    have u0 := F1.out.r.f0 0
    have u1 := F1.out.r.f0 1
    go_wp2
    refine bodyPost_ret (v := .tuple #[.agg #[.slice none 0 0, .slice none 0 0], .int .i64 20]) (by simp [results, Try.results20, go_sem, r0, r1]; try rfl) rfl ?_
    exact RetT.err HF.out (F1.out.end_ _ _)
  · have HSA : Hid (∀ W, Calls Try.prog 38 #[.agg #[.slice A s.length c, .slice B xs.length d], .int .i64 axis] W fun e w' => e = .returned (.bool true) ∧ Kp W w') := fun W => hasside_yes A B c d s.length xs.length _ W (by omega) (by omega) hlA
    have HSB : Hid (∀ W, Calls Try.prog 38 #[.agg #[.slice C t.length e, .slice D ys.length f], .int .i64 axis] W fun e w' => e = .returned (.bool false) ∧ Kp W w') := fun W => hasside_no C D e f t.length ys.length _ W (by omega) hlC
    clear hA hB hC hD ht ht2 hF hx h1
    go_enter Try.func20, Try.ntmps20
    go_wp2_with fail
    refine (HT.out _ F0.out.kp).mono ?_; rintro e0 w1 ⟨rfl, k1⟩
    have F1 := Lib.hid (F0.out.tr k1)
    clear k1
    have t0 := F1.out.t.c0
    have t1 := F1.out.t.c1
    have t2 := F1.out.t2.c0
    have t3 := F1.out.t2.c1
    have t5 := F1.out.x5.cell
    have r0 := F1.out.r.c0
    have r1 := F1.out.r.c1
    have u0 := F1.out.r.f0 0
    have u1 := F1.out.r.f0 1
    go_wp2_with fail
    refine (HT2.out _ F1.out.kp).mono ?_; rintro e0 w2 ⟨rfl, k2⟩
    have F1 := Lib.hid (F1.out.tr k2)
    clear k2 t0 t1 t2 t3 t5 r0 r1 u0 u1
    have t0 := F1.out.t.c0
    have t1 := F1.out.t.c1
    have t2 := F1.out.t2.c0
    have t3 := F1.out.t2.c1
    have t5 := F1.out.x5.cell
    have r0 := F1.out.r.c0
    have r1 := F1.out.r.c1
    have u0 := F1.out.r.f0 0
    have u1 := F1.out.r.f0 1
    go_wp2_with fail
    refine (HSA.out _).mono ?_; rintro e0 w3 ⟨rfl, k3⟩
    have F1 := Lib.hid (F1.out.tr k3)
    clear k3 t0 t1 t2 t3 t5 r0 r1 u0 u1
    have t0 := F1.out.t.c0
    have t1 := F1.out.t.c1
    have t2 := F1.out.t2.c0
    have t3 := F1.out.t2.c1
    have t5 := F1.out.x5.cell
    have r0 := F1.out.r.c0
    have r1 := F1.out.r.c1
    have u0 := F1.out.r.f0 0
    have u1 := F1.out.r.f0 1
    go_wp2_with fail
    refine (HSB.out _).mono ?_; rintro e0 w4 ⟨rfl, k4⟩
    have F1 := Lib.hid (F1.out.tr k4)
    clear k4 t0 t1 t2 t3 t5 r0 r1 u0 u1
    have t0 := F1.out.t.c0
    have t1 := F1.out.t.c1
    have t2 := F1.out.t2.c0
    have t3 := F1.out.t2.c1
    have t5 := F1.out.x5.cell
    have r0 := F1.out.r.c0
    have r1 := F1.out.r.c1
    have u0 := F1.out.r.f0 0
    have u1 := F1.out.r.f0 1
    go_wp2
    refine bodyPost_ret (v := .tuple #[.agg #[.slice none 0 0, .slice none 0 0], .int .i64 20]) (by simp [results, Try.results20, go_sem, r0, r1]; try rfl) rfl ?_
    exact RetT.err HF.out (F1.out.end_ _ _)

set_option maxHeartbeats 8000000 in
theorem pjoin_at (A B C D : Option Addr) (c d e f : Nat) (s xs t ys : List Int) (k : Nat) (x y : Int) (w : World) (hA : Rd w A s) (hB : Rd w B xs) (hC : Rd w C t) (hD : Rd w D ys) (ht : tokV s xs = true) (ht2 : tokV t ys = true) (hx : s[k]? = some x) (hy : t[k]? = some y) :
    Calls Try.prog 20 #[.agg #[.slice A s.length c, .slice B xs.length d], .agg #[.slice C t.length e, .slice D ys.length f], .int .i64 (k : Int)] w (RetT (glueV s xs t ys (k : Int)) w) := by
  have hlA := hA.len
  have hlB := hB.len
  have hlC := hC.len
  have hlD := hD.len
  have F0 := Lib.hid (Jf.mk_ w A s.length c B xs.length d C t.length e D ys.length f (k : Int))
  have HT := Lib.hid (fun W (k : Kp w W) => tcheck_any A B c d s xs W (hA.kp k) (hB.kp k))
  have HT2 := Lib.hid (fun W (k : Kp w W) => tcheck_any C D e f t ys W (hC.kp k) (hD.kp k))
  have hk := (List.getElem?_eq_some_iff.1 hx).1
  have hk2 := (List.getElem?_eq_some_iff.1 hy).1
  have hs3 : t.length ≤ 3 := (ok_iff.1 (tok_len ht2).1).1
  have hx16 := (side_of (ok_all (tok_len ht).1) hx)
  have hy16 := (side_of (ok_all (tok_len ht2).1) hy)
  have hgx : s.getD k 0 = x := by rw [List.getD, hx, Option.getD_some]
  have hgy : t.getD k 0 = y := by rw [List.getD, hy, Option.getD_some]
  obtain ⟨z, hz⟩ : ∃ z, x + y = z := ⟨_, rfl⟩
  have hwz : IntKind.i64.wrap (x + y) = z := by rw [IntWalk.i64_in _ (by omega)]; exact hz
  have HP : Hid (glueV s xs t ys k = if t.set k x = s then (if okS (t.set k z) = true then (t.set k z, bothL s xs t ys (t.set k z) k, 0) else ([], [], 20)) else ([], [], 20)) := by
    show glueV s xs t ys k = _
    unfold glueV
    rw [if_neg (by simp [ht, ht2]), Int.toNat_natCast, hgx, hgy, hz]
    by_cases hq : t.set k x = s
    · have h2 := (glue_same hk hx hk2).1 hq
      have h3 : s.set k z = t.set k z := by rw [← hq, List.set_set]
      rw [if_pos hq, h3]
      by_cases ho : okS (t.set k z) = true
      · rw [if_pos ho, if_neg (by rintro (h | h | h | h | h); (· omega); (· omega); (· exact h h2.1); (· exact h h2.2); rw [ho] at h; cases h)]
      · rw [if_neg ho, if_pos (by right; right; right; right; simpa using ho)]
    · rw [if_neg hq, if_pos]
      by_cases h2 : s.length = t.length
      · exact .inr (.inr (.inr (.inl fun h3 => hq ((glue_same hk hx hk2).2 ⟨h2, h3⟩))))
      · exact .inr (.inr (.inl h2))
  rw [HP.out]
  rw [ht] at HT
  rw [ht2] at HT2
  have HSA : Hid (∀ W, Calls Try.prog 38 #[.agg #[.slice A s.length c, .slice B xs.length d], .int .i64 (k : Int)] W fun e w' => e = .returned (.bool true) ∧ Kp W w') := fun W => hasside_yes A B c d s.length xs.length _ W (by omega) (by omega) hlA
  have HSB : Hid (∀ W, Calls Try.prog 38 #[.agg #[.slice C t.length e, .slice D ys.length f], .int .i64 (k : Int)] W fun e w' => e = .returned (.bool true) ∧ Kp W w') := fun W => hasside_yes C D e f t.length ys.length _ W (by omega) (by omega) hlC
  have HWZ := Lib.hid (fun W (kw : Kp w W) => pwith_any C e t k z W (hC.kp kw) (by omega) hk2)
  have HWX := Lib.hid (fun W (kw : Kp w W) => pwith_any C e t k x W (hC.kp kw) (by omega) hk2)
  have HEQ : Hid (∀ W E q, Kp w W → Rd W E (t.set k x) → Calls Try.prog 46 #[.slice E (t.set k x).length q, .slice A s.length c] W fun e w' => e = .returned (.bool (t.set k x == s)) ∧ Kp W w') := fun W E q kw r => (equal_any E A q c _ s W r (hA.kp kw)).mono fun e w' h => ⟨h.1, by obtain ⟨_, n, h⟩ := h; rw [h]; exact Kp.drewN_ _ _⟩
  have HCK : Hid (∀ W E q, Rd W E (t.set k z) → Calls Try.prog 43 #[.slice E (t.set k z).length q] W fun e w' => e = .returned (.bool (okS (t.set k z))) ∧ W = w') := fun W E q r => check_any E q (t.set k z) W r
  have HE : Hid (okS (t.set k z) = true → ∀ V E n b8, Jf w A s.length c B xs.length d C t.length e D ys.length f (k : Int) V → Boxed V b8 3 (.int .i64 x) → Rd V E (t.set k z) → Calls Try.prog 31 #[.slice E (t.set k z).length n, .func (.func 47) #[] #[.pointer (some ⟨w.heap.size + 1 + 1, 0, none⟩), .pointer (some ⟨b8, 0, none⟩), .pointer (some ⟨w.heap.size, 0, none⟩), .pointer (some ⟨w.heap.size + 1, 0, none⟩)]] V (RetM (t.set k z) (bothL s xs t ys (t.set k z) k) V)) :=
    fun hog V E n b8 T X r => each_join A B C D E c d e f n k b8 s xs t ys (t.set k z) x w V hA hB hC hD T X r hog (by rw [List.length_set]; exact hk2) hgx (by omega) (by omega)
  obtain ⟨ad, x', rfl, hbx, hx', hc⟩ := hA.at_ hk
  obtain rfl : x = x' := by rw [hx] at hx'; exact Option.some.inj hx'
  obtain ⟨ae, y', rfl, hby, hy', hc'⟩ := hC.at_ hk2
  obtain rfl : y = y' := by rw [hy] at hy'; exact Option.some.inj hy'
  have HCA : Hid (∀ W, Kp w W → W.cell? (ad.add k) = some (.int .i64 x)) := fun W q => (q.cell (p := ad.add k) (by rw [block_of_add]; exact hbx)).trans hc
  have HCB : Hid (∀ W, Kp w W → W.cell? (ae.add k) = some (.int .i64 y)) := fun W q => (q.cell (p := ae.add k) (by rw [block_of_add]; exact hby)).trans hc'
  have j1 : (0 : Int) ≤ (k : Int) := by omega
  have j2 : (k : Int) < (s.length : Int) := by omega
  have j3 : (k : Int) < (t.length : Int) := by omega
  have HEB : Hid ((t.set k x == s) = decide (t.set k x = s)) := by show _ = _; rw [Bool.eq_iff_iff]; simp
  generalize hg : t.set k z = g at HE HWZ HCK HP ⊢
  generalize hq : t.set k x = q at HEQ HWX HEB HP ⊢
  generalize bothL s xs t ys g k = ms at HE HP ⊢
  clear hA hB hC hD ht ht2 hx hx' hy hy' hgx hgy hg hq hc hc' HP hz hx16 hy16
  by_cases hqs : q = s
  · rw [if_pos hqs]
    rw [HEB.out, decide_eq_true hqs] at HEQ
    clear HEB hqs
    cases hok : okS g with
    | false =>
      rw [hok] at HCK
      rw [if_neg (by simp)]
      clear HE hok
      go_enter Try.func20, Try.ntmps20
      go_wp2_with fail
      refine (HT.out _ F0.out.kp).mono ?_; rintro e0 w1 ⟨rfl, k1⟩
      have F1 := Lib.hid (F0.out.tr k1)
      clear k1
      have t0 := F1.out.t.c0
      have t1 := F1.out.t.c1
      have t2 := F1.out.t2.c0
      have t3 := F1.out.t2.c1
      have t5 := F1.out.x5.cell
      have r0 := F1.out.r.c0
      have r1 := F1.out.r.c1
      have u0 := F1.out.r.f0 0
      have u1 := F1.out.r.f0 1
      go_wp2_with fail
      refine (HT2.out _ F1.out.kp).mono ?_; rintro e0 w2 ⟨rfl, k2⟩
      have F1 := Lib.hid (F1.out.tr k2)
      clear k2 t0 t1 t2 t3 t5 r0 r1 u0 u1
      have t0 := F1.out.t.c0
      have t1 := F1.out.t.c1
      have t2 := F1.out.t2.c0
      have t3 := F1.out.t2.c1
      have t5 := F1.out.x5.cell
      have r0 := F1.out.r.c0
      have r1 := F1.out.r.c1
      have u0 := F1.out.r.f0 0
      have u1 := F1.out.r.f0 1
      go_wp2_with fail
      refine (HSA.out _).mono ?_; rintro e0 w3 ⟨rfl, k3⟩
      have F1 := Lib.hid (F1.out.tr k3)
      clear k3 t0 t1 t2 t3 t5 r0 r1 u0 u1
      have t0 := F1.out.t.c0
      have t1 := F1.out.t.c1
      have t2 := F1.out.t2.c0
      have t3 := F1.out.t2.c1
      have t5 := F1.out.x5.cell
      have r0 := F1.out.r.c0
      have r1 := F1.out.r.c1
      have u0 := F1.out.r.f0 0
      have u1 := F1.out.r.f0 1
      go_wp2_with fail
      refine (HSB.out _).mono ?_; rintro e0 w4 ⟨rfl, k4⟩
      have F1 := Lib.hid (F1.out.tr k4)
      clear k4 t0 t1 t2 t3 t5 r0 r1 u0 u1
      have t0 := F1.out.t.c0
      have t1 := F1.out.t.c1
      have t2 := F1.out.t2.c0
      have t3 := F1.out.t2.c1
      have t5 := F1.out.x5.cell
      have r0 := F1.out.r.c0
      have r1 := F1.out.r.c1
      have u0 := F1.out.r.f0 0
      have u1 := F1.out.r.f0 1
      have ca := HCA.out _ F1.out.kp
      have cb := HCB.out _ F1.out.kp
      go_upto_region 6 with fail
      obtain ⟨W5, HW5⟩ : ∃ W5, Hid (W5 = w4.alloc (.cells #[.int .i64 x] 3)) := ⟨_, rfl⟩
      have k5 : Kp w4 W5 := by rw [HW5.out]; exact Kp.alloc_ _ _
      obtain ⟨b8, hb8⟩ : ∃ b8, b8 = w4.heap.size := ⟨_, rfl⟩
      have X8 : Hid (Boxed W5 b8 3 (.int .i64 x)) := by show Boxed _ _ _ _; rw [HW5.out, hb8]; exact Boxed.new _ _ _
      rw [← HW5.out, ← hb8]
      have F1 := Lib.hid (F1.out.tr k5)
      clear k5 HW5 hb8 ca cb t0 t1 t2 t3 t5 r0 r1 u0 u1
      have HKV : Hid (∀ V, Kp W5 V → Hid (Kp W5 V) ∧ Hid (Jf w (some ad) s.length c B xs.length d (some ae) t.length e D ys.length f (k : Int) V) ∧ Hid (Boxed V b8 3 (.int .i64 x)) ∧ V.cell? ⟨w.heap.size, 0, none⟩ = some (.slice (some ad) s.length c) ∧ V.cell? ⟨w.heap.size + 1, 0, none⟩ = some (.slice (some ae) t.length e) ∧ V.cell? ⟨w.heap.size + 1 + 1, 0, none⟩ = some (.int .i64 (k : Int)) ∧ V.cell? ⟨b8, 0, none⟩ = some (.int .i64 x) ∧ V.cell? (ae.add k) = some (.int .i64 y)) := fun V kV =>
        ⟨kV, F1.out.tr kV, kp_heap kV X8.out, (F1.out.tr kV).t.c0, (F1.out.tr kV).t2.c0, (F1.out.tr kV).x5.cell, Boxed.cell (kp_heap kV X8.out), HCB.out _ (F1.out.kp.tr kV)⟩
      obtain ⟨_, _, _, s0, s1, s2, s3, s4⟩ := HKV.out W5 (Kp.refl _)
      have hdr : Hid (Kp W5 W5.drew) := Below.drew (Kp.refl _)
      go_region_held3 (fun V => V.cell? ⟨w.heap.size, 0, none⟩ = some (.slice (some ad) s.length c) ∧ V.cell? ⟨w.heap.size + 1, 0, none⟩ = some (.slice (some ae) t.length e) ∧ V.cell? ⟨w.heap.size + 1 + 1, 0, none⟩ = some (.int .i64 (k : Int)) ∧ V.cell? ⟨b8, 0, none⟩ = some (.int .i64 x) ∧ V.cell? (ae.add k) = some (.int .i64 y)) (first | exact ⟨v0, v1, v2, v3, v4⟩ | exact ⟨s0, s1, s2, s3, s4⟩)
        ((go_at_call 39; refine (HWZ.out _ (F1.out.kp.tr hdr.out)).mono ?_; rintro e0 w6 ⟨A6, c6, rfl, o6, k6⟩; obtain ⟨K6, F6, X6, v0, v1, v2, v3, v4⟩ := HKV.out _ (undrawn k6); have RG : Hid (Rd w6 A6 g) := o6.sl.rd; clear o6 k6))
      clear s0 s1 s2 s3 s4
      go_wp2
      have hdr6 : Hid (Kp w6 w6.drew) := Below.drew (Kp.refl _)
      go_region_held3 (fun V => V.cell? ⟨w.heap.size, 0, none⟩ = some (.slice (some ad) s.length c) ∧ V.cell? ⟨w.heap.size + 1, 0, none⟩ = some (.slice (some ae) t.length e) ∧ V.cell? ⟨w.heap.size + 1 + 1, 0, none⟩ = some (.int .i64 (k : Int)) ∧ V.cell? ⟨b8, 0, none⟩ = some (.int .i64 x) ∧ V.cell? (ae.add k) = some (.int .i64 y)) (first | exact ⟨z0, z1, z2, z3, z4⟩ | exact ⟨y0, y1, y2, y3, y4⟩ | exact ⟨v0, v1, v2, v3, v4⟩)
        (first
          | (go_at_call 39; refine (HWX.out _ (F6.out.kp.tr hdr6.out)).mono ?_; rintro e0 w7 ⟨A7, c7, rfl, o7, k7⟩; obtain ⟨K7, F7, X7, y0, y1, y2, y3, y4⟩ := HKV.out _ (K6.out.tr (undrawn k7)); have RQ : Hid (Rd w7 A7 q) := o7.sl.rd; have RG7 := Lib.hid (RG.out.kp (undrawn k7)); clear o7 k7)
          | (go_at_call 46; refine (HEQ.out _ _ _ F7.out.kp RQ.out).mono ?_; rintro e0 w8 ⟨rfl, k8⟩; have RG9 := Lib.hid (RG7.out.kp k8); obtain ⟨K8, F1, X8, z0, z1, z2, z3, z4⟩ := HKV.out _ (K7.out.tr k8); clear k8)
          | (go_at_call 43; refine (HCK.out _ _ _ RG9.out).mono ?_; rintro e0 w9 ⟨rfl, rfl⟩))
      all_goals skip
      have r0 := F1.out.r.c0
      have r1 := F1.out.r.c1
      have u0 := F1.out.r.f0 0
      have u1 := F1.out.r.f0 1
      go_wp2
      refine bodyPost_ret (v := .tuple #[.agg #[.slice none 0 0, .slice none 0 0], .int .i64 20]) (by simp [results, Try.results20, go_sem, r0, r1]; try rfl) rfl ?_
      exact RetT.err rfl (F1.out.end_ _ _)
    | true =>
      rw [hok] at HCK
      rw [if_pos rfl]
      have HE := Lib.hid (HE.out hok)
      clear hok
      go_enter Try.func20, Try.ntmps20
      go_wp2_with fail
      refine (HT.out _ F0.out.kp).mono ?_; rintro e0 w1 ⟨rfl, k1⟩
      have F1 := Lib.hid (F0.out.tr k1)
      clear k1
      have t0 := F1.out.t.c0
      have t1 := F1.out.t.c1
      have t2 := F1.out.t2.c0
      have t3 := F1.out.t2.c1
      have t5 := F1.out.x5.cell
      have r0 := F1.out.r.c0
      have r1 := F1.out.r.c1
      have u0 := F1.out.r.f0 0
      have u1 := F1.out.r.f0 1
      go_wp2_with fail
      refine (HT2.out _ F1.out.kp).mono ?_; rintro e0 w2 ⟨rfl, k2⟩
      have F1 := Lib.hid (F1.out.tr k2)
      clear k2 t0 t1 t2 t3 t5 r0 r1 u0 u1
      have t0 := F1.out.t.c0
      have t1 := F1.out.t.c1
      have t2 := F1.out.t2.c0
      have t3 := F1.out.t2.c1
      have t5 := F1.out.x5.cell
      have r0 := F1.out.r.c0
      have r1 := F1.out.r.c1
      have u0 := F1.out.r.f0 0
      have u1 := F1.out.r.f0 1
      go_wp2_with fail
      refine (HSA.out _).mono ?_; rintro e0 w3 ⟨rfl, k3⟩
      have F1 := Lib.hid (F1.out.tr k3)
      clear k3 t0 t1 t2 t3 t5 r0 r1 u0 u1
      have t0 := F1.out.t.c0
      have t1 := F1.out.t.c1
      have t2 := F1.out.t2.c0
      have t3 := F1.out.t2.c1
      have t5 := F1.out.x5.cell
      have r0 := F1.out.r.c0
      have r1 := F1.out.r.c1
      have u0 := F1.out.r.f0 0
      have u1 := F1.out.r.f0 1
      go_wp2_with fail
      refine (HSB.out _).mono ?_; rintro e0 w4 ⟨rfl, k4⟩
      have F1 := Lib.hid (F1.out.tr k4)
      clear k4 t0 t1 t2 t3 t5 r0 r1 u0 u1
      have t0 := F1.out.t.c0
      have t1 := F1.out.t.c1
      have t2 := F1.out.t2.c0
      have t3 := F1.out.t2.c1
      have t5 := F1.out.x5.cell
      have r0 := F1.out.r.c0
      have r1 := F1.out.r.c1
      have u0 := F1.out.r.f0 0
      have u1 := F1.out.r.f0 1
      have ca := HCA.out _ F1.out.kp
      have cb := HCB.out _ F1.out.kp
      go_upto_region 6 with fail
      obtain ⟨W5, HW5⟩ : ∃ W5, Hid (W5 = w4.alloc (.cells #[.int .i64 x] 3)) := ⟨_, rfl⟩
      have k5 : Kp w4 W5 := by rw [HW5.out]; exact Kp.alloc_ _ _
      obtain ⟨b8, hb8⟩ : ∃ b8, b8 = w4.heap.size := ⟨_, rfl⟩
      have X8 : Hid (Boxed W5 b8 3 (.int .i64 x)) := by show Boxed _ _ _ _; rw [HW5.out, hb8]; exact Boxed.new _ _ _
      rw [← HW5.out, ← hb8]
      have F1 := Lib.hid (F1.out.tr k5)
      clear k5 HW5 hb8 ca cb t0 t1 t2 t3 t5 r0 r1 u0 u1
      have HKV : Hid (∀ V, Kp W5 V → Hid (Kp W5 V) ∧ Hid (Jf w (some ad) s.length c B xs.length d (some ae) t.length e D ys.length f (k : Int) V) ∧ Hid (Boxed V b8 3 (.int .i64 x)) ∧ V.cell? ⟨w.heap.size, 0, none⟩ = some (.slice (some ad) s.length c) ∧ V.cell? ⟨w.heap.size + 1, 0, none⟩ = some (.slice (some ae) t.length e) ∧ V.cell? ⟨w.heap.size + 1 + 1, 0, none⟩ = some (.int .i64 (k : Int)) ∧ V.cell? ⟨b8, 0, none⟩ = some (.int .i64 x) ∧ V.cell? (ae.add k) = some (.int .i64 y)) := fun V kV =>
        ⟨kV, F1.out.tr kV, kp_heap kV X8.out, (F1.out.tr kV).t.c0, (F1.out.tr kV).t2.c0, (F1.out.tr kV).x5.cell, Boxed.cell (kp_heap kV X8.out), HCB.out _ (F1.out.kp.tr kV)⟩
      obtain ⟨_, _, _, s0, s1, s2, s3, s4⟩ := HKV.out W5 (Kp.refl _)
      have hdr : Hid (Kp W5 W5.drew) := Below.drew (Kp.refl _)
      go_region_held3 (fun V => V.cell? ⟨w.heap.size, 0, none⟩ = some (.slice (some ad) s.length c) ∧ V.cell? ⟨w.heap.size + 1, 0, none⟩ = some (.slice (some ae) t.length e) ∧ V.cell? ⟨w.heap.size + 1 + 1, 0, none⟩ = some (.int .i64 (k : Int)) ∧ V.cell? ⟨b8, 0, none⟩ = some (.int .i64 x) ∧ V.cell? (ae.add k) = some (.int .i64 y)) (first | exact ⟨v0, v1, v2, v3, v4⟩ | exact ⟨s0, s1, s2, s3, s4⟩)
        ((go_at_call 39; refine (HWZ.out _ (F1.out.kp.tr hdr.out)).mono ?_; rintro e0 w6 ⟨A6, c6, rfl, o6, k6⟩; obtain ⟨K6, F6, X6, v0, v1, v2, v3, v4⟩ := HKV.out _ (undrawn k6); have RG : Hid (Rd w6 A6 g) := o6.sl.rd; clear o6 k6))
      clear s0 s1 s2 s3 s4
      go_wp2
      have hdr6 : Hid (Kp w6 w6.drew) := Below.drew (Kp.refl _)
      go_region_held3 (fun V => V.cell? ⟨w.heap.size, 0, none⟩ = some (.slice (some ad) s.length c) ∧ V.cell? ⟨w.heap.size + 1, 0, none⟩ = some (.slice (some ae) t.length e) ∧ V.cell? ⟨w.heap.size + 1 + 1, 0, none⟩ = some (.int .i64 (k : Int)) ∧ V.cell? ⟨b8, 0, none⟩ = some (.int .i64 x) ∧ V.cell? (ae.add k) = some (.int .i64 y)) (first | exact ⟨z0, z1, z2, z3, z4⟩ | exact ⟨y0, y1, y2, y3, y4⟩ | exact ⟨v0, v1, v2, v3, v4⟩)
        (first
          | (go_at_call 39; refine (HWX.out _ (F6.out.kp.tr hdr6.out)).mono ?_; rintro e0 w7 ⟨A7, c7, rfl, o7, k7⟩; obtain ⟨K7, F7, X7, y0, y1, y2, y3, y4⟩ := HKV.out _ (K6.out.tr (undrawn k7)); have RQ : Hid (Rd w7 A7 q) := o7.sl.rd; have RG7 := Lib.hid (RG.out.kp (undrawn k7)); clear o7 k7)
          | (go_at_call 46; refine (HEQ.out _ _ _ F7.out.kp RQ.out).mono ?_; rintro e0 w8 ⟨rfl, k8⟩; have RG9 := Lib.hid (RG7.out.kp k8); obtain ⟨K8, F1, X8, z0, z1, z2, z3, z4⟩ := HKV.out _ (K7.out.tr k8); clear k8)
          | (go_at_call 43; refine (HCK.out _ _ _ RG9.out).mono ?_; rintro e0 w9 ⟨rfl, rfl⟩))
      go_wp2_with fail
      refine (HE.out _ _ _ _ F1.out X8.out RG9.out).mono ?_; rintro e0 wz ⟨A5, c5, B5, d5, rfl, r5, p5, k5⟩
      have F1 := Lib.hid (F1.out.tr k5)
      have R5 := Lib.hid (And.intro r5 p5)
      clear k5 r5 p5
      have o0 := F1.out.r.c0
      have o1 := F1.out.r.c1
      have u0 := F1.out.r.f0 0
      have u1 := F1.out.r.f0 1
      go_wp2
      refine bodyPost_ret (v := .tuple #[.agg #[.slice A5 g.length c5, .slice B5 ms.length d5], .int .i64 0]) (by simp [results, Try.results20, go_sem, o0, o1]; try rfl) rfl ?_
      exact RetT.of rfl (R5.out.1.past F1.out.r _ _) (R5.out.2.past F1.out.r _ _) (F1.out.end_ _ _)
  · rw [if_neg hqs]
    rw [HEB.out, decide_eq_false hqs] at HEQ
    clear HE HEB hqs HCK
    go_enter Try.func20, Try.ntmps20
    go_wp2_with fail
    refine (HT.out _ F0.out.kp).mono ?_; rintro e0 w1 ⟨rfl, k1⟩
    have F1 := Lib.hid (F0.out.tr k1)
    clear k1
    have t0 := F1.out.t.c0
    have t1 := F1.out.t.c1
    have t2 := F1.out.t2.c0
    have t3 := F1.out.t2.c1
    have t5 := F1.out.x5.cell
    have r0 := F1.out.r.c0
    have r1 := F1.out.r.c1
    have u0 := F1.out.r.f0 0
    have u1 := F1.out.r.f0 1
    go_wp2_with fail
    refine (HT2.out _ F1.out.kp).mono ?_; rintro e0 w2 ⟨rfl, k2⟩
    have F1 := Lib.hid (F1.out.tr k2)
    clear k2 t0 t1 t2 t3 t5 r0 r1 u0 u1
    have t0 := F1.out.t.c0
    have t1 := F1.out.t.c1
    have t2 := F1.out.t2.c0
    have t3 := F1.out.t2.c1
    have t5 := F1.out.x5.cell
    have r0 := F1.out.r.c0
    have r1 := F1.out.r.c1
    have u0 := F1.out.r.f0 0
    have u1 := F1.out.r.f0 1
    go_wp2_with fail
    refine (HSA.out _).mono ?_; rintro e0 w3 ⟨rfl, k3⟩
    have F1 := Lib.hid (F1.out.tr k3)
    clear k3 t0 t1 t2 t3 t5 r0 r1 u0 u1
    have t0 := F1.out.t.c0
    have t1 := F1.out.t.c1
    have t2 := F1.out.t2.c0
    have t3 := F1.out.t2.c1
    have t5 := F1.out.x5.cell
    have r0 := F1.out.r.c0
    have r1 := F1.out.r.c1
    have u0 := F1.out.r.f0 0
    have u1 := F1.out.r.f0 1
    go_wp2_with fail
    refine (HSB.out _).mono ?_; rintro e0 w4 ⟨rfl, k4⟩
    have F1 := Lib.hid (F1.out.tr k4)
    clear k4 t0 t1 t2 t3 t5 r0 r1 u0 u1
    have t0 := F1.out.t.c0
    have t1 := F1.out.t.c1
    have t2 := F1.out.t2.c0
    have t3 := F1.out.t2.c1
    have t5 := F1.out.x5.cell
    have r0 := F1.out.r.c0
    have r1 := F1.out.r.c1
    have u0 := F1.out.r.f0 0
    have u1 := F1.out.r.f0 1
    have ca := HCA.out _ F1.out.kp
    have cb := HCB.out _ F1.out.kp
    go_upto_region 6 with fail
    obtain ⟨W5, HW5⟩ : ∃ W5, Hid (W5 = w4.alloc (.cells #[.int .i64 x] 3)) := ⟨_, rfl⟩
    have k5 : Kp w4 W5 := by rw [HW5.out]; exact Kp.alloc_ _ _
    obtain ⟨b8, hb8⟩ : ∃ b8, b8 = w4.heap.size := ⟨_, rfl⟩
    have X8 : Hid (Boxed W5 b8 3 (.int .i64 x)) := by show Boxed _ _ _ _; rw [HW5.out, hb8]; exact Boxed.new _ _ _
    rw [← HW5.out, ← hb8]
    have F1 := Lib.hid (F1.out.tr k5)
    clear k5 HW5 hb8 ca cb t0 t1 t2 t3 t5 r0 r1 u0 u1
    have HKV : Hid (∀ V, Kp W5 V → Hid (Kp W5 V) ∧ Hid (Jf w (some ad) s.length c B xs.length d (some ae) t.length e D ys.length f (k : Int) V) ∧ Hid (Boxed V b8 3 (.int .i64 x)) ∧ V.cell? ⟨w.heap.size, 0, none⟩ = some (.slice (some ad) s.length c) ∧ V.cell? ⟨w.heap.size + 1, 0, none⟩ = some (.slice (some ae) t.length e) ∧ V.cell? ⟨w.heap.size + 1 + 1, 0, none⟩ = some (.int .i64 (k : Int)) ∧ V.cell? ⟨b8, 0, none⟩ = some (.int .i64 x) ∧ V.cell? (ae.add k) = some (.int .i64 y)) := fun V kV =>
      ⟨kV, F1.out.tr kV, kp_heap kV X8.out, (F1.out.tr kV).t.c0, (F1.out.tr kV).t2.c0, (F1.out.tr kV).x5.cell, Boxed.cell (kp_heap kV X8.out), HCB.out _ (F1.out.kp.tr kV)⟩
    obtain ⟨_, _, _, s0, s1, s2, s3, s4⟩ := HKV.out W5 (Kp.refl _)
    have hdr : Hid (Kp W5 W5.drew) := Below.drew (Kp.refl _)
    go_region_held3 (fun V => V.cell? ⟨w.heap.size, 0, none⟩ = some (.slice (some ad) s.length c) ∧ V.cell? ⟨w.heap.size + 1, 0, none⟩ = some (.slice (some ae) t.length e) ∧ V.cell? ⟨w.heap.size + 1 + 1, 0, none⟩ = some (.int .i64 (k : Int)) ∧ V.cell? ⟨b8, 0, none⟩ = some (.int .i64 x) ∧ V.cell? (ae.add k) = some (.int .i64 y)) (first | exact ⟨v0, v1, v2, v3, v4⟩ | exact ⟨s0, s1, s2, s3, s4⟩)
      ((go_at_call 39; refine (HWZ.out _ (F1.out.kp.tr hdr.out)).mono ?_; rintro e0 w6 ⟨A6, c6, rfl, o6, k6⟩; obtain ⟨K6, F6, X6, v0, v1, v2, v3, v4⟩ := HKV.out _ (undrawn k6); have RG : Hid (Rd w6 A6 g) := o6.sl.rd; clear o6 k6))
    clear s0 s1 s2 s3 s4
    go_wp2
    have hdr6 : Hid (Kp w6 w6.drew) := Below.drew (Kp.refl _)
    refine wp_region_held_drew (S := (fun V => V.cell? ⟨w.heap.size, 0, none⟩ = some (.slice (some ad) s.length c) ∧ V.cell? ⟨w.heap.size + 1, 0, none⟩ = some (.slice (some ae) t.length e) ∧ V.cell? ⟨w.heap.size + 1 + 1, 0, none⟩ = some (.int .i64 (k : Int)) ∧ V.cell? ⟨b8, 0, none⟩ = some (.int .i64 x) ∧ V.cell? (ae.add k) = some (.int .i64 y))) (by kernel_rfl) ⟨v0, v1, v2, v3, v4⟩ (fun hHeld => ?_)
    refine wpAnyH_take (i := 0) (v := .pointer (some ⟨w.heap.size + 1, 0, none⟩)) rfl (by kernel_rfl) (by kernel_rfl) (by kernel_rfl) (fun _ _ _ h => h) (Or.inl ⟨by rfl, fun V hSV => ?_⟩) hHeld ?_
    · dsimp only at hSV; go_simp
    try simp only [Act.put, List.setIfInBounds_toArray, List.set_cons_zero, List.set_cons_succ]
    refine wpAnyH_take (i := 1) (v := .slice (some ae) t.length e) rfl (by kernel_rfl) (by kernel_rfl) (by kernel_rfl) (fun _ _ _ h => h) (Or.inl ⟨by rfl, fun V hSV => ?_⟩) hHeld ?_
    · dsimp only at hSV; go_simp
    try simp only [Act.put, List.setIfInBounds_toArray, List.set_cons_zero, List.set_cons_succ]
    refine wpAnyH_take (i := 2) (v := .int .i64 (k : Int)) rfl (by kernel_rfl) (by kernel_rfl) (by kernel_rfl) (fun _ _ _ h => h) (Or.inl ⟨by rfl, fun V hSV => ?_⟩) hHeld ?_
    · dsimp only at hSV; go_simp
    try simp only [Act.put, List.setIfInBounds_toArray, List.set_cons_zero, List.set_cons_succ]
    refine wpAnyH_take (i := 3) (v := .int .i64 x) rfl (by kernel_rfl) (by kernel_rfl) (by kernel_rfl) (fun _ _ _ h => h) (Or.inl ⟨by rfl, fun V hSV => ?_⟩) hHeld ?_
    · dsimp only at hSV; go_simp
    try simp only [Act.put, List.setIfInBounds_toArray, List.set_cons_zero, List.set_cons_succ]
    refine wpAnyH_take (i := 5) (v := .pointer (some ⟨w.heap.size, 0, none⟩)) rfl (by kernel_rfl) (by kernel_rfl) (by kernel_rfl) (fun _ _ _ h => h) (Or.inl ⟨by rfl, fun V hSV => ?_⟩) hHeld ?_
    · dsimp only at hSV; go_simp
    try simp only [Act.put, List.setIfInBounds_toArray, List.set_cons_zero, List.set_cons_succ]
    refine wpAnyH_take (i := 6) (v := .slice (some ad) s.length c) rfl (by kernel_rfl) (by kernel_rfl) (by kernel_rfl) (fun _ _ _ h => h) (Or.inl ⟨by rfl, fun V hSV => ?_⟩) hHeld ?_
    · dsimp only at hSV; go_simp
    try simp only [Act.put, List.setIfInBounds_toArray, List.set_cons_zero, List.set_cons_succ]
    refine wpAnyH_ready (rs := [4]) (by kernel_rfl) (by simp) ?_
    refine AllReadyH.cons rfl (fun K hK => ?_) AllReadyH.nil
    go_simp
    refine (HWX.out _ (F6.out.kp.tr hdr6.out)).mono ?_; rintro e0 w7 ⟨A7, c7, rfl, o7, k7⟩; obtain ⟨K7, F7, X7, y0, y1, y2, y3, y4⟩ := HKV.out _ (K6.out.tr (undrawn k7)); have RQ : Hid (Rd w7 A7 q) := o7.sl.rd; have RG7 := Lib.hid (RG.out.kp (undrawn k7)); clear o7 k7 hHeld
    dsimp only
    refine hK.out _ _ ?_ (fun hHeld => ?_)
    · exact ⟨y0, y1, y2, y3, y4⟩
    clear hK K
    try simp only [Act.put, List.setIfInBounds_toArray, List.set_cons_zero, List.set_cons_succ]
    refine wpAnyH_ready (rs := [7]) (by kernel_rfl) (by simp) ?_
    refine AllReadyH.cons rfl (fun K hK => ?_) AllReadyH.nil
    go_simp
    refine (HEQ.out _ _ _ F7.out.kp RQ.out).mono ?_; rintro e0 w8 ⟨rfl, k8⟩; have RG9 := Lib.hid (RG7.out.kp k8); obtain ⟨K8, F1, X8, z0, z1, z2, z3, z4⟩ := HKV.out _ (K7.out.tr k8); clear k8 hHeld
    dsimp only
    refine hK.out _ _ ?_ (fun hHeld => ?_)
    · exact ⟨z0, z1, z2, z3, z4⟩
    clear hK K
    try simp only [Act.put, List.setIfInBounds_toArray, List.set_cons_zero, List.set_cons_succ]
    refine wpAnyH_take (i := 8) (v := .bool true) rfl (by kernel_rfl) (by kernel_rfl) (by kernel_rfl) (fun _ _ _ h => h) (Or.inl ⟨by rfl, fun V hSV => ?_⟩) hHeld ?_
    · dsimp only at hSV; go_simp
    try simp only [Act.put, List.setIfInBounds_toArray, List.set_cons_zero, List.set_cons_succ]
    refine wpAnyH_take (i := 9) (v := .bool true) rfl (by kernel_rfl) (by kernel_rfl) (by kernel_rfl) (fun _ _ _ h => h) (Or.inl ⟨by rfl, fun V hSV => ?_⟩) hHeld ?_
    · dsimp only at hSV; go_simp
    try simp only [Act.put, List.setIfInBounds_toArray, List.set_cons_zero, List.set_cons_succ]
    refine wpAnyH_take (i := 10) (v := undef) rfl (by kernel_rfl) (by kernel_rfl) (by kernel_rfl) (fun _ _ _ h => h) (Or.inr ⟨by rfl, rfl⟩) hHeld ?_
    try simp only [Act.put, List.setIfInBounds_toArray, List.set_cons_zero, List.set_cons_succ]
    refine wpAnyH_take (i := 11) (v := undef) rfl (by kernel_rfl) (by kernel_rfl) (by kernel_rfl) (fun _ _ _ h => h) (Or.inr ⟨by rfl, rfl⟩) hHeld ?_
    try simp only [Act.put, List.setIfInBounds_toArray, List.set_cons_zero, List.set_cons_succ]
    refine wpAnyH_take (i := 12) (v := undef) rfl (by kernel_rfl) (by kernel_rfl) (by kernel_rfl) (fun _ _ _ h => h) (Or.inr ⟨by rfl, rfl⟩) hHeld ?_
    try simp only [Act.put, List.setIfInBounds_toArray, List.set_cons_zero, List.set_cons_succ]
    refine wpAnyH_take (i := 13) (v := .bool true) rfl (by kernel_rfl) (by kernel_rfl) (by kernel_rfl) (fun _ _ _ h => h) (Or.inl ⟨by rfl, fun V hSV => ?_⟩) hHeld ?_
    · dsimp only at hSV; go_simp
    try simp only [Act.put, List.setIfInBounds_toArray, List.set_cons_zero, List.set_cons_succ]
    refine wpAnyH_done (by kernel_rfl) ?_ _
    have r0 := F1.out.r.c0
    have r1 := F1.out.r.c1
    have u0 := F1.out.r.f0 0
    have u1 := F1.out.r.f0 1
    go_wp2
    refine bodyPost_ret (v := .tuple #[.agg #[.slice none 0 0, .slice none 0 0], .int .i64 20]) (by simp [results, Try.results20, go_sem, r0, r1]; try rfl) rfl ?_
    exact RetT.err rfl (F1.out.end_ _ _)

theorem pjoin_any (A B C D : Option Addr) (c d e f : Nat) (s xs t ys : List Int) (axis : Int) (w : World) (hA : Rd w A s) (hB : Rd w B xs) (hC : Rd w C t) (hD : Rd w D ys) :
    Calls Try.prog 20 #[.agg #[.slice A s.length c, .slice B xs.length d], .agg #[.slice C t.length e, .slice D ys.length f], .int .i64 axis] w (RetT (glueV s xs t ys axis) w) := by
  by_cases ht : tokV s xs = false ∨ tokV t ys = false
  · exact pjoin_tok A B C D c d e f s xs t ys axis w hA hB hC hD ht
  · have h1 : tokV s xs = true := by
      cases h : tokV s xs with
      | true => rfl
      | false => exact absurd (.inl h) ht
    have h2 : tokV t ys = true := by
      cases h : tokV t ys with
      | true => rfl
      | false => exact absurd (.inr h) ht
    by_cases hx : axis < 0 ∨ (s.length : Int) ≤ axis ∨ (t.length : Int) ≤ axis
    · refine pjoin_side A B C D c d e f s xs t ys axis w hA hB hC hD h1 h2 ?_ hx
      unfold glueV
      rw [if_neg ht, if_pos]
      rcases hx with h | h | h
      · exact .inl h
      · exact .inr (.inl h)
      · by_cases hn : (s.length : Int) ≤ axis
        · exact .inr (.inl hn)
        · exact .inr (.inr (.inl (by omega)))
    · obtain ⟨k, rfl⟩ : ∃ k : Nat, axis = (k : Int) := ⟨axis.toNat, by omega⟩
      exact pjoin_at A B C D c d e f s xs t ys k _ _ w hA hB hC hD h1 h2 (List.getElem?_eq_getElem (show k < s.length by omega)) (List.getElem?_eq_getElem (show k < t.length by omega))
end Go.Proofs.Ytdjfjhanffliiaa
