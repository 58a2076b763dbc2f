/- Slice and Pad of layer 5 (move): what they answer. -/
import Derived.Test.YtdjfjhanffliiaaPvE
import Derived.Test.YtdjfjhanffliiaaMvD
namespace Go.Proofs.Ytdjfjhanffliiaa
open Go.RowKit Go.Shelf Go.Proofs.ShM
set_option linter.unusedVariables false

/-- The tensor's box, those of two numbers, the answer's. -/
structure Sf (w : World) (A : Option Addr) (n c : Nat) (B : Option Addr) (m d : Nat) (ax fr : Int) (W : World) : Prop where
  kp : Kp w W
  t : Bk W w.heap.size A n c B m d
  x5 : Boxed W (w.heap.size + 1) 3 (.int .i64 ax)
  x6 : Boxed W (w.heap.size + 1 + 1) 3 (.int .i64 fr)
  r : Bk W (w.heap.size + 1 + 1 + 1) none 0 0 none 0 0
section
variable {w W W' : World} {A B : Option Addr} {n c m d : Nat} {ax fr : Int}
theorem Sf.tr (h : Sf w A n c B m d ax fr W) (k : Kp W W') : Sf w A n c B m d ax fr W' := ⟨h.kp.tr k, h.t.kp k, kp_heap k h.x5, kp_heap k h.x6, h.r.kp k⟩
theorem Sf.mk_ (w : World) (A : Option Addr) (n c : Nat) (B : Option Addr) (m d : Nat) (ax fr : Int) :
    Sf w A n c B m d ax fr ((((w.alloc (.cells #[.slice A n c, .slice B m d] 24)).alloc (.cells #[.int .i64 ax] 3)).alloc (.cells #[.int .i64 fr] 3)).alloc (.cells #[.slice none 0 0, .slice none 0 0] 24)) where
  kp := (((Kp.alloc_ _ _).al _).al _).al _
  t := (((Bk.new rfl).alloc_ _).alloc_ _).alloc_ _
  x5 := by
    have h := ((Boxed.new (w.alloc (.cells #[.slice A n c, .slice B m d] 24)) 3 (.int .i64 ax)).alloc (.cells #[.int .i64 fr] 3)).alloc (.cells #[.slice none 0 0, .slice none 0 0] 24)
    simpa only [World.size_alloc] using h
  x6 := by
    have h := (Boxed.new ((w.alloc (.cells #[.slice A n c, .slice B m d] 24)).alloc (.cells #[.int .i64 ax] 3)) 3 (.int .i64 fr)).alloc (.cells #[.slice none 0 0, .slice none 0 0] 24)
    simpa only [World.size_alloc] using h
  r := Bk.new (by simp)
theorem Sf.end_ (h : Sf w A n c B m d ax fr W) (x y : Value) : Kp w ((W.setCell ⟨w.heap.size + 1 + 1 + 1, 0, none⟩ x).setCell ⟨w.heap.size + 1 + 1 + 1, 1, none⟩ y) :=
  (h.kp.setCell (p := ⟨w.heap.size + 1 + 1 + 1, 0, none⟩) (by show w.heap.size ≤ w.heap.size + 1 + 1 + 1; omega) x).setCell (p := ⟨w.heap.size + 1 + 1 + 1, 1, none⟩) (by show w.heap.size ≤ w.heap.size + 1 + 1 + 1; omega) y
end

/-- An index of a shape, with its number at an axis. -/
theorem digs_at {g : List Int} (h : okS g = true) {k axis : Nat} (hk : (k : Int) < sizeV g) (hax : axis < g.length) : ∃ x, (digs g k)[axis]? = some x ∧ 0 ≤ x ∧ x ≤ 16 := by
  have hl : axis < (digs g k).length := by rw [digs_len]; exact hax
  exact ⟨_, List.getElem?_eq_getElem hl, digs_bnd h hk (List.getElem?_eq_getElem hl)⟩
theorem upL_at {X : List Int} {k : Nat} {x : Int} (h : X[k]? = some x) (m : Int) : upL X k m = X.set k (x + m) := by
  unfold upL; rw [List.getD, h, Option.getD_some]

/-- each, over Slice's closure. -/
theorem each_slice (A B D : Option Addr) (c d n axis : Nat) (s xs g : List Int) (a : Int) (fr0 : Int) (w V : World) (hA : Rd w A s) (hB : Rd w B xs) (T : Sf w A s.length c B xs.length d (axis : Int) a V) (r : Rd V D g) (hg : okS g = true) (hax : axis < g.length) (ha0 : -100 ≤ a) (ha1 : a ≤ 100) :
    Calls Try.prog 31 #[.slice D g.length n, .func (.func 40) #[] #[.pointer (some ⟨w.heap.size + 1, 0, none⟩), .pointer (some ⟨w.heap.size + 1 + 1, 0, none⟩), .pointer (some ⟨w.heap.size, 0, none⟩)]] V (RetM g (movedL s xs g axis (a)) V) :=
  each_any D n g 40 [.pointer (some ⟨w.heap.size + 1, 0, none⟩), .pointer (some ⟨w.heap.size + 1 + 1, 0, none⟩), .pointer (some ⟨w.heap.size, 0, none⟩)] (fun k => (atV s xs (upL (digs g k) axis (a))).1) V r hg
    (fun k AI q W0 W1 k0 k1 hk hO => by
      obtain ⟨x, hx, x0, x1⟩ := digs_at hg hk hax
      have hl := digs_len g (k : Int)
      rw [← hl] at hO ⊢
      have hz : IntKind.i64.wrap (x + a) = x + (a) := by rw [IntWalk.i64_in _ (by omega)] <;> omega
      have p := slice1_any A B AI c d q W0.heap.size w.heap.size (w.heap.size + 1) (w.heap.size + 1 + 1) s xs (digs g k) axis a x _ V W1 (k0.tr k1) k0.size T.t T.x5 T.x6 (hA.kp T.kp) (hB.kp T.kp) hO hx hz
      rw [← upL_at hx] at p
      exact p) (enters_of Try.func40 (by kernel_rfl) rfl)

/-- each, over Pad's closure. -/
theorem each_pad (A B D : Option Addr) (c d n axis : Nat) (s xs g : List Int) (a : Int) (fr0 : Int) (w V : World) (hA : Rd w A s) (hB : Rd w B xs) (T : Sf w A s.length c B xs.length d (axis : Int) a V) (r : Rd V D g) (hg : okS g = true) (hax : axis < g.length) (ha0 : -100 ≤ a) (ha1 : a ≤ 100) :
    Calls Try.prog 31 #[.slice D g.length n, .func (.func 44) #[] #[.pointer (some ⟨w.heap.size + 1, 0, none⟩), .pointer (some ⟨w.heap.size + 1 + 1, 0, none⟩), .pointer (some ⟨w.heap.size, 0, none⟩)]] V (RetM g (movedL s xs g axis (-a)) V) :=
  each_any D n g 44 [.pointer (some ⟨w.heap.size + 1, 0, none⟩), .pointer (some ⟨w.heap.size + 1 + 1, 0, none⟩), .pointer (some ⟨w.heap.size, 0, none⟩)] (fun k => (atV s xs (upL (digs g k) axis (-a))).1) V r hg
    (fun k AI q W0 W1 k0 k1 hk hO => by
      obtain ⟨x, hx, x0, x1⟩ := digs_at hg hk hax
      have hl := digs_len g (k : Int)
      rw [← hl] at hO ⊢
      have hz : IntKind.i64.wrap (x - a) = x + (-a) := by rw [IntWalk.i64_in _ (by omega)] <;> omega
      have p := pad1_any A B AI c d q W0.heap.size w.heap.size (w.heap.size + 1) (w.heap.size + 1 + 1) s xs (digs g k) axis a x _ V W1 (k0.tr k1) k0.size T.t T.x5 T.x6 (hA.kp T.kp) (hB.kp T.kp) hO hx hz
      rw [← upL_at hx] at p
      exact p) (enters_of Try.func44 (by kernel_rfl) rfl)

set_option maxHeartbeats 4000000 in
theorem pslice_tok (A B : Option Addr) (c d : Nat) (s xs : List Int) (axis a b : Int) (w : World) (hA : Rd w A s) (hB : Rd w B xs) (ht : tokV s xs = false) :
    Calls Try.prog 16 #[.agg #[.slice A s.length c, .slice B xs.length d], .int .i64 axis, .int .i64 a, .int .i64 b] w (RetT (sliceV s xs axis a b) w) := by
  have hlA := hA.len
  have hlB := hB.len
  have F0 := Lib.hid (Sf.mk_ w A s.length c B xs.length d axis a)
  have HT := Lib.hid (tcheck_any A B c d s xs _ (hA.kp F0.out.kp) (hB.kp F0.out.kp))
  rw [ht] at HT
  have HF : Hid (sliceV s xs axis a b = ([], [], 30)) := by show sliceV s xs axis a b = _; unfold sliceV; rw [if_pos ht]
  clear hA hB ht
  go_enter Try.func16, Try.ntmps16
  go_wp2_with fail
  refine (Calls.mono (Hid.out HT)) ?_; rintro e0 w1 ⟨rfl, k1⟩
  have F1 := Lib.hid (F0.out.tr k1)
  clear k1
  have t0 := F1.out.t.c0
  have t1 := F1.out.t.c1
  have t5 := F1.out.x5.cell
  have t6 := F1.out.x6.cell
  have r0 := F1.out.r.c0
  have r1 := F1.out.r.c1
  have u0 := F1.out.r.f0 0
  have u1 := F1.out.r.f0 1
  go_wp2
  refine bodyPost_ret (v := .tuple #[.agg #[.slice none 0 0, .slice none 0 0], .int .i64 30]) (by simp [results, Try.results16, go_sem, r0, r1]; try rfl) rfl ?_
  exact RetT.err HF.out (F1.out.end_ _ _)

set_option maxHeartbeats 4000000 in
theorem pslice_side (A B : Option Addr) (c d : Nat) (s xs : List Int) (axis a b : Int) (w : World) (hA : Rd w A s) (hB : Rd w B xs) (ht : tokV s xs = true) (hF : sliceV s xs axis a b = ([], [], 20)) (hx : axis < 0 ∨ (s.length : Int) ≤ axis) :
    Calls Try.prog 16 #[.agg #[.slice A s.length c, .slice B xs.length d], .int .i64 axis, .int .i64 a, .int .i64 b] w (RetT (sliceV s xs axis a b) w) := by
  have hlA := hA.len
  have hlB := hB.len
  have F0 := Lib.hid (Sf.mk_ w A s.length c B xs.length d axis a)
  have HT := Lib.hid (tcheck_any A B c d s xs _ (hA.kp F0.out.kp) (hB.kp F0.out.kp))
  rw [ht] at HT
  have HF := Lib.hid hF
  have HSD : Hid (∀ W, Calls Try.prog 38 #[.agg #[.slice A s.length c, .slice B xs.length d], .int .i64 axis] W fun e w' => e = .returned (.bool false) ∧ Kp W w') := fun W => hasside_no A B c d s.length xs.length _ W hx hlA
  clear hA hB ht hF hx
  go_enter Try.func16, Try.ntmps16
  go_wp2_with fail
  refine (Calls.mono (Hid.out HT)) ?_; rintro e0 w1 ⟨rfl, k1⟩
  have F1 := Lib.hid (F0.out.tr k1)
  clear k1
  have t0 := F1.out.t.c0
  have t1 := F1.out.t.c1
  have t5 := F1.out.x5.cell
  have t6 := F1.out.x6.cell
  have r0 := F1.out.r.c0
  have r1 := F1.out.r.c1
  have u0 := F1.out.r.f0 0
  have u1 := F1.out.r.f0 1
  go_wp2_with fail
  refine (HSD.out _).mono ?_; rintro e0 w2 ⟨rfl, k2⟩
  have F1 := Lib.hid (F1.out.tr k2)
  clear k2 t0 t1 t5 t6 r0 r1 u0 u1
  have t0 := F1.out.t.c0
  have t1 := F1.out.t.c1
  have t5 := F1.out.x5.cell
  have t6 := F1.out.x6.cell
  have r0 := F1.out.r.c0
  have r1 := F1.out.r.c1
  have u0 := F1.out.r.f0 0
  have u1 := F1.out.r.f0 1
  go_wp2
  refine bodyPost_ret (v := .tuple #[.agg #[.slice none 0 0, .slice none 0 0], .int .i64 20]) (by simp [results, Try.results16, go_sem, r0, r1]; try rfl) rfl ?_
  exact RetT.err HF.out (F1.out.end_ _ _)

set_option maxHeartbeats 4000000 in
theorem pslice_bad (A B : Option Addr) (c d : Nat) (s xs : List Int) (k : Nat) (a b x : Int) (w : World) (hA : Rd w A s) (hB : Rd w B xs) (ht : tokV s xs = true) (hF : sliceV s xs k a b = ([], [], 20)) (hx : s[k]? = some x) (hbad : a < 0 ∨ b ≤ a ∨ x < b) :
    Calls Try.prog 16 #[.agg #[.slice A s.length c, .slice B xs.length d], .int .i64 (k : Int), .int .i64 a, .int .i64 b] w (RetT (sliceV s xs k a b) w) := by
  have hlA := hA.len
  have hlB := hB.len
  have F0 := Lib.hid (Sf.mk_ w A s.length c B xs.length d k a)
  have HT := Lib.hid (tcheck_any A B c d s xs _ (hA.kp F0.out.kp) (hB.kp F0.out.kp))
  rw [ht] at HT
  have HF := Lib.hid hF
  have hk := (List.getElem?_eq_some_iff.1 hx).1
  have HSD : Hid (∀ W, Calls Try.prog 38 #[.agg #[.slice A s.length c, .slice B xs.length d], .int .i64 (k : Int)] W fun e w' => e = .returned (.bool true) ∧ Kp W w') := fun W => hasside_yes A B c d s.length xs.length _ W (by omega) (by omega) hlA
  obtain ⟨ad, x', rfl, hbx, hx', hc⟩ := hA.at_ hk
  obtain rfl : x = x' := by rw [hx] at hx'; exact Option.some.inj hx'
  have j1 : (0 : Int) ≤ (k : Int) := by omega
  have j2 : (k : Int) < (s.length : Int) := by omega
  have HCC : Hid (∀ W, Kp w W → W.cell? (ad.add k) = some (.int .i64 x)) := fun W q => (q.cell (p := ad.add k) (by rw [block_of_add]; exact hbx)).trans hc
  clear hA hB ht hF hx hx' hc
  by_cases c0 : a < 0
  · clear hbad
    go_enter Try.func16, Try.ntmps16
    go_wp2_with fail
    refine (Calls.mono (Hid.out HT)) ?_; rintro e0 w1 ⟨rfl, k1⟩
    have F1 := Lib.hid (F0.out.tr k1)
    clear k1
    have t0 := F1.out.t.c0
    have t1 := F1.out.t.c1
    have t5 := F1.out.x5.cell
    have t6 := F1.out.x6.cell
    have r0 := F1.out.r.c0
    have r1 := F1.out.r.c1
    have u0 := F1.out.r.f0 0
    have u1 := F1.out.r.f0 1
    go_wp2_with fail
    refine (HSD.out _).mono ?_; rintro e0 w2 ⟨rfl, k2⟩
    have F1 := Lib.hid (F1.out.tr k2)
    clear k2 t0 t1 t5 t6 r0 r1 u0 u1
    have t0 := F1.out.t.c0
    have t1 := F1.out.t.c1
    have t5 := F1.out.x5.cell
    have t6 := F1.out.x6.cell
    have r0 := F1.out.r.c0
    have r1 := F1.out.r.c1
    have u0 := F1.out.r.f0 0
    have u1 := F1.out.r.f0 1
    have hc1 := HCC.out _ F1.out.kp
    go_wp2
    refine bodyPost_ret (v := .tuple #[.agg #[.slice none 0 0, .slice none 0 0], .int .i64 20]) (by simp [results, Try.results16, go_sem, r0, r1]; try rfl) rfl ?_
    exact RetT.err HF.out (F1.out.end_ _ _)
  by_cases c1 : b ≤ a
  · clear hbad
    go_enter Try.func16, Try.ntmps16
    go_wp2_with fail
    refine (Calls.mono (Hid.out HT)) ?_; rintro e0 w1 ⟨rfl, k1⟩
    have F1 := Lib.hid (F0.out.tr k1)
    clear k1
    have t0 := F1.out.t.c0
    have t1 := F1.out.t.c1
    have t5 := F1.out.x5.cell
    have t6 := F1.out.x6.cell
    have r0 := F1.out.r.c0
    have r1 := F1.out.r.c1
    have u0 := F1.out.r.f0 0
    have u1 := F1.out.r.f0 1
    go_wp2_with fail
    refine (HSD.out _).mono ?_; rintro e0 w2 ⟨rfl, k2⟩
    have F1 := Lib.hid (F1.out.tr k2)
    clear k2 t0 t1 t5 t6 r0 r1 u0 u1
    have t0 := F1.out.t.c0
    have t1 := F1.out.t.c1
    have t5 := F1.out.x5.cell
    have t6 := F1.out.x6.cell
    have r0 := F1.out.r.c0
    have r1 := F1.out.r.c1
    have u0 := F1.out.r.f0 0
    have u1 := F1.out.r.f0 1
    have hc1 := HCC.out _ F1.out.kp
    go_wp2
    refine bodyPost_ret (v := .tuple #[.agg #[.slice none 0 0, .slice none 0 0], .int .i64 20]) (by simp [results, Try.results16, go_sem, r0, r1]; try rfl) rfl ?_
    exact RetT.err HF.out (F1.out.end_ _ _)
  by_cases c2 : x < b
  · clear hbad
    go_enter Try.func16, Try.ntmps16
    go_wp2_with fail
    refine (Calls.mono (Hid.out HT)) ?_; rintro e0 w1 ⟨rfl, k1⟩
    have F1 := Lib.hid (F0.out.tr k1)
    clear k1
    have t0 := F1.out.t.c0
    have t1 := F1.out.t.c1
    have t5 := F1.out.x5.cell
    have t6 := F1.out.x6.cell
    have r0 := F1.out.r.c0
    have r1 := F1.out.r.c1
    have u0 := F1.out.r.f0 0
    have u1 := F1.out.r.f0 1
    go_wp2_with fail
    refine (HSD.out _).mono ?_; rintro e0 w2 ⟨rfl, k2⟩
    have F1 := Lib.hid (F1.out.tr k2)
    clear k2 t0 t1 t5 t6 r0 r1 u0 u1
    have t0 := F1.out.t.c0
    have t1 := F1.out.t.c1
    have t5 := F1.out.x5.cell
    have t6 := F1.out.x6.cell
    have r0 := F1.out.r.c0
    have r1 := F1.out.r.c1
    have u0 := F1.out.r.f0 0
    have u1 := F1.out.r.f0 1
    have hc1 := HCC.out _ F1.out.kp
    go_wp2
    refine bodyPost_ret (v := .tuple #[.agg #[.slice none 0 0, .slice none 0 0], .int .i64 20]) (by simp [results, Try.results16, go_sem, r0, r1]; try rfl) rfl ?_
    exact RetT.err HF.out (F1.out.end_ _ _)
  exact absurd hbad (by omega)

set_option maxHeartbeats 4000000 in
theorem pslice_yes (A B : Option Addr) (c d : Nat) (s xs : List Int) (k : Nat) (a b x : Int) (w : World) (hA : Rd w A s) (hB : Rd w B xs) (ht : tokV s xs = true) (hx : s[k]? = some x) (h1 : 0 ≤ a) (h2 : a < b) (h3 : b ≤ x) :
    Calls Try.prog 16 #[.agg #[.slice A s.length c, .slice B xs.length d], .int .i64 (k : Int), .int .i64 a, .int .i64 b] w (RetT (sliceV s xs k a b) w) := by
  have hlA := hA.len
  have hlB := hB.len
  have F0 := Lib.hid (Sf.mk_ w A s.length c B xs.length d k a)
  have HT := Lib.hid (tcheck_any A B c d s xs _ (hA.kp F0.out.kp) (hB.kp F0.out.kp))
  rw [ht] at HT
  have ho := (tok_len ht).1
  have hs3 : s.length ≤ 3 := (ok_iff.1 ho).1
  have hk := (List.getElem?_eq_some_iff.1 hx).1
  have hgd : s.getD k 0 = x := by rw [List.getD, hx]; rfl
  have hx16 := (side_of (ok_all ho) hx)
  have HF : Hid (sliceV s xs k a b = (s.set k (b - a), movedL s xs (s.set k (b - a)) k a, 0)) := by
    show sliceV s xs k a b = _
    unfold sliceV
    rw [if_neg (by simp [ht]), Int.toNat_natCast, hgd, if_neg (by omega)]
  have HSD : Hid (∀ W, Calls Try.prog 38 #[.agg #[.slice A s.length c, .slice B xs.length d], .int .i64 (k : Int)] W fun e w' => e = .returned (.bool true) ∧ Kp W w') := fun W => hasside_yes A B c d s.length xs.length _ W (by omega) (by omega) hlA
  obtain ⟨z, hz⟩ : ∃ z, b - a = z := ⟨_, rfl⟩
  have hwz : IntKind.i64.wrap (b - a) = z := by rw [IntWalk.i64_in _ (by omega)]; exact hz
  rw [hz] at HF
  have hog : okS (s.set k z) = true := ok_set ho hx (by omega) (by omega)
  have HW := Lib.hid (fun W (kw : Kp w W) => pwith_any A c s k z W (hA.kp kw) (by omega) hk)
  have HE : Hid (∀ V D n, Sf w A s.length c B xs.length d k a V → Rd V D (s.set k z) → Calls Try.prog 31 #[.slice D (s.set k z).length n, .func (.func 40) #[] #[.pointer (some ⟨w.heap.size + 1, 0, none⟩), .pointer (some ⟨w.heap.size + 1 + 1, 0, none⟩), .pointer (some ⟨w.heap.size, 0, none⟩)]] V (RetM (s.set k z) (movedL s xs (s.set k z) k a) V)) :=
    fun V D n T r => each_slice A B D c d n k s xs (s.set k z) a 0 w V hA hB T r hog (by rw [List.length_set]; exact hk) (by omega) (by omega)
  obtain ⟨ad, x', rfl, hbx, hx', hc⟩ := hA.at_ hk
  obtain rfl : x = x' := by rw [hx] at hx'; exact Option.some.inj hx'
  have j1 : (0 : Int) ≤ (k : Int) := by omega
  have j2 : (k : Int) < (s.length : Int) := by omega
  have HCC : Hid (∀ W, Kp w W → W.cell? (ad.add k) = some (.int .i64 x)) := fun W q => (q.cell (p := ad.add k) (by rw [block_of_add]; exact hbx)).trans hc
  generalize hg : s.set k z = g at HE HF HW
  generalize movedL s xs g k a = ms at HE HF
  have j5 : ¬ a < 0 := by omega
  have j6 : ¬ b ≤ a := by omega
  have j7 : ¬ x < b := by omega
  clear hA hB ht ho hx hx' hgd hx16 hz hog hg hc
  go_enter Try.func16, Try.ntmps16
  go_wp2_with fail
  refine (Calls.mono (Hid.out HT)) ?_; rintro e0 w1 ⟨rfl, k1⟩
  have F1 := Lib.hid (F0.out.tr k1)
  clear k1
  have t0 := F1.out.t.c0
  have t1 := F1.out.t.c1
  have t5 := F1.out.x5.cell
  have t6 := F1.out.x6.cell
  have r0 := F1.out.r.c0
  have r1 := F1.out.r.c1
  have u0 := F1.out.r.f0 0
  have u1 := F1.out.r.f0 1
  go_wp2_with fail
  refine (HSD.out _).mono ?_; rintro e0 w2 ⟨rfl, k2⟩
  have F1 := Lib.hid (F1.out.tr k2)
  clear k2 t0 t1 t5 t6 r0 r1 u0 u1
  have t0 := F1.out.t.c0
  have t1 := F1.out.t.c1
  have t5 := F1.out.x5.cell
  have t6 := F1.out.x6.cell
  have r0 := F1.out.r.c0
  have r1 := F1.out.r.c1
  have u0 := F1.out.r.f0 0
  have u1 := F1.out.r.f0 1
  have hc1 := HCC.out _ F1.out.kp
  go_wp2_with fail
  refine (HW.out _ F1.out.kp).mono ?_; rintro e0 w4 ⟨A4, c4, rfl, o4, k4⟩
  have F1 := Lib.hid (F1.out.tr k4)
  have R4 : Hid (Rd w4 A4 g) := o4.sl.rd
  clear k4 o4 hc1 t0 t1 t5 t6 r0 r1 u0 u1
  have t0 := F1.out.t.c0
  have t1 := F1.out.t.c1
  have t5 := F1.out.x5.cell
  have t6 := F1.out.x6.cell
  have r0 := F1.out.r.c0
  have r1 := F1.out.r.c1
  have u0 := F1.out.r.f0 0
  have u1 := F1.out.r.f0 1
  go_wp2_with fail
  refine (HE.out _ _ _ F1.out R4.out).mono ?_; rintro e0 w5 ⟨A5, c5, B5, d5, rfl, r5, p5, k5⟩
  have F1 := Lib.hid (F1.out.tr k5)
  have R5 := Lib.hid (And.intro r5 p5)
  clear k5 r5 p5 t0 t1 t5 t6 r0 r1 u0 u1
  have o0 := F1.out.r.c0
  have o1 := F1.out.r.c1
  have u0 := F1.out.r.f0 0
  have u1 := F1.out.r.f0 1
  go_wp2
  refine bodyPost_ret (v := .tuple #[.agg #[.slice A5 g.length c5, .slice B5 ms.length d5], .int .i64 0]) (by simp [results, Try.results16, go_sem, o0, o1]; try rfl) rfl ?_
  exact RetT.of HF.out (R5.out.1.past F1.out.r _ _) (R5.out.2.past F1.out.r _ _) (F1.out.end_ _ _)

theorem pslice_any (A B : Option Addr) (c d : Nat) (s xs : List Int) (axis a b : Int) (w : World) (hA : Rd w A s) (hB : Rd w B xs) :
    Calls Try.prog 16 #[.agg #[.slice A s.length c, .slice B xs.length d], .int .i64 axis, .int .i64 a, .int .i64 b] w (RetT (sliceV s xs axis a b) w) := by
  cases ht : tokV s xs with
  | false => exact pslice_tok A B c d s xs axis a b w hA hB ht
  | true =>
    by_cases h1 : axis < 0 ∨ (s.length : Int) ≤ axis
    · exact pslice_side A B c d s xs axis a b w hA hB ht (by unfold sliceV; rw [if_neg (by simp [ht]), if_pos (by omega)]) h1
    · obtain ⟨k, rfl⟩ : ∃ k : Nat, axis = (k : Int) := ⟨axis.toNat, by omega⟩
      have hk : k < s.length := by omega
      have hx : s[k]? = some s[k] := List.getElem?_eq_getElem hk
      have hgd : s.getD k 0 = s[k] := by rw [List.getD, hx]; rfl
      by_cases hbad : a < 0 ∨ b ≤ a ∨ s[k] < b
      · exact pslice_bad A B c d s xs k a b s[k] w hA hB ht (by unfold sliceV; rw [if_neg (by simp [ht]), Int.toNat_natCast, hgd, if_pos (by omega)]) hx hbad
      · exact pslice_yes A B c d s xs k a b s[k] w hA hB ht hx (by omega) (by omega) (by omega)

set_option maxHeartbeats 4000000 in
theorem ppad_tok (A B : Option Addr) (c d : Nat) (s xs : List Int) (axis a side : Int) (w : World) (hA : Rd w A s) (hB : Rd w B xs) (ht : tokV s xs = false) :
    Calls Try.prog 18 #[.agg #[.slice A s.length c, .slice B xs.length d], .int .i64 axis, .int .i64 a, .int .i64 side] w (RetT (padV s xs axis a side) w) := by
  have hlA := hA.len
  have hlB := hB.len
  have F0 := Lib.hid (Sf.mk_ w A s.length c B xs.length d axis a)
  have HT := Lib.hid (tcheck_any A B c d s xs _ (hA.kp F0.out.kp) (hB.kp F0.out.kp))
  rw [ht] at HT
  have HF : Hid (padV s xs axis a side = ([], [], 30)) := by show padV s xs axis a side = _; unfold padV; rw [if_pos ht]
  clear hA hB ht
  go_enter Try.func18, Try.ntmps18
  go_wp2_with fail
  refine (Calls.mono (Hid.out HT)) ?_; rintro e0 w1 ⟨rfl, k1⟩
  have F1 := Lib.hid (F0.out.tr k1)
  clear k1
  have t0 := F1.out.t.c0
  have t1 := F1.out.t.c1
  have t5 := F1.out.x5.cell
  have t6 := F1.out.x6.cell
  have r0 := F1.out.r.c0
  have r1 := F1.out.r.c1
  have u0 := F1.out.r.f0 0
  have u1 := F1.out.r.f0 1
  go_wp2
  refine bodyPost_ret (v := .tuple #[.agg #[.slice none 0 0, .slice none 0 0], .int .i64 30]) (by simp [results, Try.results18, go_sem, r0, r1]; try rfl) rfl ?_
  exact RetT.err HF.out (F1.out.end_ _ _)

set_option maxHeartbeats 4000000 in
theorem ppad_side (A B : Option Addr) (c d : Nat) (s xs : List Int) (axis a side : Int) (w : World) (hA : Rd w A s) (hB : Rd w B xs) (ht : tokV s xs = true) (hF : padV s xs axis a side = ([], [], 20)) (hx : axis < 0 ∨ (s.length : Int) ≤ axis) :
    Calls Try.prog 18 #[.agg #[.slice A s.length c, .slice B xs.length d], .int .i64 axis, .int .i64 a, .int .i64 side] w (RetT (padV s xs axis a side) w) := by
  have hlA := hA.len
  have hlB := hB.len
  have F0 := Lib.hid (Sf.mk_ w A s.length c B xs.length d axis a)
  have HT := Lib.hid (tcheck_any A B c d s xs _ (hA.kp F0.out.kp) (hB.kp F0.out.kp))
  rw [ht] at HT
  have HF := Lib.hid hF
  have HSD : Hid (∀ W, Calls Try.prog 38 #[.agg #[.slice A s.length c, .slice B xs.length d], .int .i64 axis] W fun e w' => e = .returned (.bool false) ∧ Kp W w') := fun W => hasside_no A B c d s.length xs.length _ W hx hlA
  clear hA hB ht hF hx
  go_enter Try.func18, Try.ntmps18
  go_wp2_with fail
  refine (Calls.mono (Hid.out HT)) ?_; rintro e0 w1 ⟨rfl, k1⟩
  have F1 := Lib.hid (F0.out.tr k1)
  clear k1
  have t0 := F1.out.t.c0
  have t1 := F1.out.t.c1
  have t5 := F1.out.x5.cell
  have t6 := F1.out.x6.cell
  have r0 := F1.out.r.c0
  have r1 := F1.out.r.c1
  have u0 := F1.out.r.f0 0
  have u1 := F1.out.r.f0 1
  go_wp2_with fail
  refine (HSD.out _).mono ?_; rintro e0 w2 ⟨rfl, k2⟩
  have F1 := Lib.hid (F1.out.tr k2)
  clear k2 t0 t1 t5 t6 r0 r1 u0 u1
  have t0 := F1.out.t.c0
  have t1 := F1.out.t.c1
  have t5 := F1.out.x5.cell
  have t6 := F1.out.x6.cell
  have r0 := F1.out.r.c0
  have r1 := F1.out.r.c1
  have u0 := F1.out.r.f0 0
  have u1 := F1.out.r.f0 1
  go_wp2
  refine bodyPost_ret (v := .tuple #[.agg #[.slice none 0 0, .slice none 0 0], .int .i64 20]) (by simp [results, Try.results18, go_sem, r0, r1]; try rfl) rfl ?_
  exact RetT.err HF.out (F1.out.end_ _ _)

set_option maxHeartbeats 8000000 in
theorem ppad_may (A B : Option Addr) (c d : Nat) (s xs : List Int) (k : Nat) (a side x : Int) (w : World) (hA : Rd w A s) (hB : Rd w B xs) (ht : tokV s xs = true) (hx : s[k]? = some x) :
    Calls Try.prog 18 #[.agg #[.slice A s.length c, .slice B xs.length d], .int .i64 (k : Int), .int .i64 a, .int .i64 side] w (RetT (padV s xs k a side) w) := by
  have hlA := hA.len
  have hlB := hB.len
  have F0 := Lib.hid (Sf.mk_ w A s.length c B xs.length d k a)
  have HT := Lib.hid (tcheck_any A B c d s xs _ (hA.kp F0.out.kp) (hB.kp F0.out.kp))
  rw [ht] at HT
  have ho := (tok_len ht).1
  have hs3 : s.length ≤ 3 := (ok_iff.1 ho).1
  have hk := (List.getElem?_eq_some_iff.1 hx).1
  have hgd : s.getD k 0 = x := by rw [List.getD, hx]; rfl
  have hx16 := (side_of (ok_all ho) hx)
  have hlg : (s.set k side).length = s.length := List.length_set ..
  have HSD : Hid (∀ W, Calls Try.prog 38 #[.agg #[.slice A s.length c, .slice B xs.length d], .int .i64 (k : Int)] W fun e w' => e = .returned (.bool true) ∧ Kp W w') := fun W => hasside_yes A B c d s.length xs.length _ W (by omega) (by omega) hlA
  have HW := Lib.hid (fun W (kw : Kp w W) => pwith_any A c s k side W (hA.kp kw) (by omega) hk)
  have HCK : Hid (∀ W Cz e, Rd W Cz (s.set k side) → Calls Try.prog 43 #[.slice Cz (s.set k side).length e] W fun e w' => e = .returned (.bool (okS (s.set k side))) ∧ W = w') := fun W Cz e r => check_any Cz e (s.set k side) W r
  have hside : okS (s.set k side) = true → 1 ≤ side ∧ side ≤ 16 := fun h => side_of (ok_all h) (k := k) (x := side) (by rw [List.getElem?_set_self hk])
  have HE : Hid (okS (s.set k side) = true → 0 ≤ a → a ≤ 100 → ∀ V D n, Sf w A s.length c B xs.length d k a V → Rd V D (s.set k side) → Calls Try.prog 31 #[.slice D (s.set k side).length n, .func (.func 44) #[] #[.pointer (some ⟨w.heap.size + 1, 0, none⟩), .pointer (some ⟨w.heap.size + 1 + 1, 0, none⟩), .pointer (some ⟨w.heap.size, 0, none⟩)]] V (RetM (s.set k side) (movedL s xs (s.set k side) k (-a)) V)) :=
    fun hog q1 q2 V D n T r => each_pad A B D c d n k s xs (s.set k side) a 0 w V hA hB T r hog (by rw [List.length_set]; exact hk) (by omega) (by omega)
  have HP : Hid (padV s xs k a side = if a < 0 ∨ 16 < side ∨ side - x < a ∨ okS (s.set k side) = false then ([], [], 20) else (s.set k side, movedL s xs (s.set k side) k (-a), 0)) := by
    show padV s xs k a side = _
    unfold padV
    rw [if_neg (by simp [ht]), Int.toNat_natCast, hgd]
    by_cases hb : a < 0 ∨ 16 < side ∨ side - x < a ∨ okS (s.set k side) = false
    · rw [if_pos hb, if_pos (Or.inr (Or.inr hb))]
    · rw [if_neg hb, if_neg (by rintro (h | h | h); (· omega); (· omega); exact hb h)]
  obtain ⟨ad, x', rfl, hbx, hx', hc⟩ := hA.at_ hk
  obtain rfl : x = x' := by rw [hx] at hx'; exact Option.some.inj hx'
  have j1 : (0 : Int) ≤ (k : Int) := by omega
  have j2 : (k : Int) < (s.length : Int) := by omega
  have HCC : Hid (∀ W, Kp w W → W.cell? (ad.add k) = some (.int .i64 x)) := fun W q => (q.cell (p := ad.add k) (by rw [block_of_add]; exact hbx)).trans hc
  rw [HP.out]
  generalize hg : s.set k side = g at HE HW HCK hside HP ⊢
  generalize movedL s xs g k (-a) = ms at HE HP ⊢
  clear hA hB ht ho hx hx' hgd hg hc hlg HP
  cases hok : okS g with
  | false =>
    rw [hok] at HCK
    rw [if_pos (by simp)]
    clear HE hok hside
    
    go_enter Try.func18, Try.ntmps18
    go_wp2_with fail
    refine (Calls.mono (Hid.out HT)) ?_; rintro e0 w1 ⟨rfl, k1⟩
    have F1 := Lib.hid (F0.out.tr k1)
    clear k1
    have t0 := F1.out.t.c0
    have t1 := F1.out.t.c1
    have t5 := F1.out.x5.cell
    have t6 := F1.out.x6.cell
    have r0 := F1.out.r.c0
    have r1 := F1.out.r.c1
    have u0 := F1.out.r.f0 0
    have u1 := F1.out.r.f0 1
    go_wp2_with fail
    refine (HSD.out _).mono ?_; rintro e0 w2 ⟨rfl, k2⟩
    have F1 := Lib.hid (F1.out.tr k2)
    clear k2 t0 t1 t5 t6 r0 r1 u0 u1
    have t0 := F1.out.t.c0
    have t1 := F1.out.t.c1
    have t5 := F1.out.x5.cell
    have t6 := F1.out.x6.cell
    have r0 := F1.out.r.c0
    have r1 := F1.out.r.c1
    have u0 := F1.out.r.f0 0
    have u1 := F1.out.r.f0 1
    have hc1 := HCC.out _ F1.out.kp
    go_wp2_with fail
    refine (HW.out _ F1.out.kp).mono ?_; rintro e0 w4 ⟨A4, c4, rfl, o4, k4⟩
    have F1 := Lib.hid (F1.out.tr k4)
    have R4 : Hid (Rd w4 A4 g) := o4.sl.rd
    clear k4 o4 hc1 t0 t1 t5 t6 r0 r1 u0 u1
    have t0 := F1.out.t.c0
    have t1 := F1.out.t.c1
    have t5 := F1.out.x5.cell
    have t6 := F1.out.x6.cell
    have r0 := F1.out.r.c0
    have r1 := F1.out.r.c1
    have u0 := F1.out.r.f0 0
    have u1 := F1.out.r.f0 1
    have hc1 := HCC.out _ F1.out.kp
    go_wp2
    go_quiet ((go_at_call 43; exact quiet_same (HCK.out _ _ _ (R4.out.kp (Kp.drewN_ _ _)))))
    obtain ⟨w6, hw6⟩ : ∃ w6, w6 = w4.drewN nq := ⟨_, rfl⟩
    have k6 : Kp w4 w6 := by rw [hw6]; exact Kp.drewN_ _ _
    rw [← hw6]
    have F1 := Lib.hid (F1.out.tr k6)
    have R4 := Lib.hid (R4.out.kp k6)
    clear hw6 k6 t0 t1 t5 t6 r0 r1 u0 u1
    have t0 := F1.out.t.c0
    have t1 := F1.out.t.c1
    have t5 := F1.out.x5.cell
    have t6 := F1.out.x6.cell
    have r0 := F1.out.r.c0
    have r1 := F1.out.r.c1
    have u0 := F1.out.r.f0 0
    have u1 := F1.out.r.f0 1
    go_wp2
    refine bodyPost_ret (v := .tuple #[.agg #[.slice none 0 0, .slice none 0 0], .int .i64 20]) (by simp [results, Try.results18, go_sem, r0, r1]; try rfl) rfl ?_
    exact RetT.err rfl (F1.out.end_ _ _)
  | true =>
    rw [hok] at HCK
    have hsd := hside hok
    by_cases c1 : a < 0
    · rw [if_pos (by omega)]
      clear HE hok hside
      
      go_enter Try.func18, Try.ntmps18
      go_wp2_with fail
      refine (Calls.mono (Hid.out HT)) ?_; rintro e0 w1 ⟨rfl, k1⟩
      have F1 := Lib.hid (F0.out.tr k1)
      clear k1
      have t0 := F1.out.t.c0
      have t1 := F1.out.t.c1
      have t5 := F1.out.x5.cell
      have t6 := F1.out.x6.cell
      have r0 := F1.out.r.c0
      have r1 := F1.out.r.c1
      have u0 := F1.out.r.f0 0
      have u1 := F1.out.r.f0 1
      go_wp2_with fail
      refine (HSD.out _).mono ?_; rintro e0 w2 ⟨rfl, k2⟩
      have F1 := Lib.hid (F1.out.tr k2)
      clear k2 t0 t1 t5 t6 r0 r1 u0 u1
      have t0 := F1.out.t.c0
      have t1 := F1.out.t.c1
      have t5 := F1.out.x5.cell
      have t6 := F1.out.x6.cell
      have r0 := F1.out.r.c0
      have r1 := F1.out.r.c1
      have u0 := F1.out.r.f0 0
      have u1 := F1.out.r.f0 1
      have hc1 := HCC.out _ F1.out.kp
      go_wp2_with fail
      refine (HW.out _ F1.out.kp).mono ?_; rintro e0 w4 ⟨A4, c4, rfl, o4, k4⟩
      have F1 := Lib.hid (F1.out.tr k4)
      have R4 : Hid (Rd w4 A4 g) := o4.sl.rd
      clear k4 o4 hc1 t0 t1 t5 t6 r0 r1 u0 u1
      have t0 := F1.out.t.c0
      have t1 := F1.out.t.c1
      have t5 := F1.out.x5.cell
      have t6 := F1.out.x6.cell
      have r0 := F1.out.r.c0
      have r1 := F1.out.r.c1
      have u0 := F1.out.r.f0 0
      have u1 := F1.out.r.f0 1
      have hc1 := HCC.out _ F1.out.kp
      go_wp2
      go_quiet ((go_at_call 43; exact quiet_same (HCK.out _ _ _ (R4.out.kp (Kp.drewN_ _ _)))))
      obtain ⟨w6, hw6⟩ : ∃ w6, w6 = w4.drewN nq := ⟨_, rfl⟩
      have k6 : Kp w4 w6 := by rw [hw6]; exact Kp.drewN_ _ _
      rw [← hw6]
      have F1 := Lib.hid (F1.out.tr k6)
      have R4 := Lib.hid (R4.out.kp k6)
      clear hw6 k6 t0 t1 t5 t6 r0 r1 u0 u1
      have t0 := F1.out.t.c0
      have t1 := F1.out.t.c1
      have t5 := F1.out.x5.cell
      have t6 := F1.out.x6.cell
      have r0 := F1.out.r.c0
      have r1 := F1.out.r.c1
      have u0 := F1.out.r.f0 0
      have u1 := F1.out.r.f0 1
      go_wp2
      refine bodyPost_ret (v := .tuple #[.agg #[.slice none 0 0, .slice none 0 0], .int .i64 20]) (by simp [results, Try.results18, go_sem, r0, r1]; try rfl) rfl ?_
      exact RetT.err rfl (F1.out.end_ _ _)
    · obtain ⟨z, hz⟩ : ∃ z, side - x = z := ⟨_, rfl⟩
      have hwz : IntKind.i64.wrap (side - x) = z := by rw [IntWalk.i64_in _ (by omega)]; exact hz
      rw [hz]
      by_cases c2 : z < a
      · rw [if_pos (by omega)]
        clear HE hok hside hz
        
        go_enter Try.func18, Try.ntmps18
        go_wp2_with fail
        refine (Calls.mono (Hid.out HT)) ?_; rintro e0 w1 ⟨rfl, k1⟩
        have F1 := Lib.hid (F0.out.tr k1)
        clear k1
        have t0 := F1.out.t.c0
        have t1 := F1.out.t.c1
        have t5 := F1.out.x5.cell
        have t6 := F1.out.x6.cell
        have r0 := F1.out.r.c0
        have r1 := F1.out.r.c1
        have u0 := F1.out.r.f0 0
        have u1 := F1.out.r.f0 1
        go_wp2_with fail
        refine (HSD.out _).mono ?_; rintro e0 w2 ⟨rfl, k2⟩
        have F1 := Lib.hid (F1.out.tr k2)
        clear k2 t0 t1 t5 t6 r0 r1 u0 u1
        have t0 := F1.out.t.c0
        have t1 := F1.out.t.c1
        have t5 := F1.out.x5.cell
        have t6 := F1.out.x6.cell
        have r0 := F1.out.r.c0
        have r1 := F1.out.r.c1
        have u0 := F1.out.r.f0 0
        have u1 := F1.out.r.f0 1
        have hc1 := HCC.out _ F1.out.kp
        go_wp2_with fail
        refine (HW.out _ F1.out.kp).mono ?_; rintro e0 w4 ⟨A4, c4, rfl, o4, k4⟩
        have F1 := Lib.hid (F1.out.tr k4)
        have R4 : Hid (Rd w4 A4 g) := o4.sl.rd
        clear k4 o4 hc1 t0 t1 t5 t6 r0 r1 u0 u1
        have t0 := F1.out.t.c0
        have t1 := F1.out.t.c1
        have t5 := F1.out.x5.cell
        have t6 := F1.out.x6.cell
        have r0 := F1.out.r.c0
        have r1 := F1.out.r.c1
        have u0 := F1.out.r.f0 0
        have u1 := F1.out.r.f0 1
        have hc1 := HCC.out _ F1.out.kp
        go_wp2
        go_quiet ((go_at_call 43; exact quiet_same (HCK.out _ _ _ (R4.out.kp (Kp.drewN_ _ _)))))
        obtain ⟨w6, hw6⟩ : ∃ w6, w6 = w4.drewN nq := ⟨_, rfl⟩
        have k6 : Kp w4 w6 := by rw [hw6]; exact Kp.drewN_ _ _
        rw [← hw6]
        have F1 := Lib.hid (F1.out.tr k6)
        have R4 := Lib.hid (R4.out.kp k6)
        clear hw6 k6 t0 t1 t5 t6 r0 r1 u0 u1
        have t0 := F1.out.t.c0
        have t1 := F1.out.t.c1
        have t5 := F1.out.x5.cell
        have t6 := F1.out.x6.cell
        have r0 := F1.out.r.c0
        have r1 := F1.out.r.c1
        have u0 := F1.out.r.f0 0
        have u1 := F1.out.r.f0 1
        go_wp2
        refine bodyPost_ret (v := .tuple #[.agg #[.slice none 0 0, .slice none 0 0], .int .i64 20]) (by simp [results, Try.results18, go_sem, r0, r1]; try rfl) rfl ?_
        exact RetT.err rfl (F1.out.end_ _ _)
      · rw [if_neg (by simp; omega)]
        have HE := Lib.hid (HE.out hok (by omega) (by omega))
        clear hok hside hz
        
        go_enter Try.func18, Try.ntmps18
        go_wp2_with fail
        refine (Calls.mono (Hid.out HT)) ?_; rintro e0 w1 ⟨rfl, k1⟩
        have F1 := Lib.hid (F0.out.tr k1)
        clear k1
        have t0 := F1.out.t.c0
        have t1 := F1.out.t.c1
        have t5 := F1.out.x5.cell
        have t6 := F1.out.x6.cell
        have r0 := F1.out.r.c0
        have r1 := F1.out.r.c1
        have u0 := F1.out.r.f0 0
        have u1 := F1.out.r.f0 1
        go_wp2_with fail
        refine (HSD.out _).mono ?_; rintro e0 w2 ⟨rfl, k2⟩
        have F1 := Lib.hid (F1.out.tr k2)
        clear k2 t0 t1 t5 t6 r0 r1 u0 u1
        have t0 := F1.out.t.c0
        have t1 := F1.out.t.c1
        have t5 := F1.out.x5.cell
        have t6 := F1.out.x6.cell
        have r0 := F1.out.r.c0
        have r1 := F1.out.r.c1
        have u0 := F1.out.r.f0 0
        have u1 := F1.out.r.f0 1
        have hc1 := HCC.out _ F1.out.kp
        go_wp2_with fail
        refine (HW.out _ F1.out.kp).mono ?_; rintro e0 w4 ⟨A4, c4, rfl, o4, k4⟩
        have F1 := Lib.hid (F1.out.tr k4)
        have R4 : Hid (Rd w4 A4 g) := o4.sl.rd
        clear k4 o4 hc1 t0 t1 t5 t6 r0 r1 u0 u1
        have t0 := F1.out.t.c0
        have t1 := F1.out.t.c1
        have t5 := F1.out.x5.cell
        have t6 := F1.out.x6.cell
        have r0 := F1.out.r.c0
        have r1 := F1.out.r.c1
        have u0 := F1.out.r.f0 0
        have u1 := F1.out.r.f0 1
        have hc1 := HCC.out _ F1.out.kp
        go_wp2
        go_quiet ((go_at_call 43; exact quiet_same (HCK.out _ _ _ (R4.out.kp (Kp.drewN_ _ _)))))
        obtain ⟨w6, hw6⟩ : ∃ w6, w6 = w4.drewN nq := ⟨_, rfl⟩
        have k6 : Kp w4 w6 := by rw [hw6]; exact Kp.drewN_ _ _
        rw [← hw6]
        have F1 := Lib.hid (F1.out.tr k6)
        have R4 := Lib.hid (R4.out.kp k6)
        clear hw6 k6 t0 t1 t5 t6 r0 r1 u0 u1
        have t0 := F1.out.t.c0
        have t1 := F1.out.t.c1
        have t5 := F1.out.x5.cell
        have t6 := F1.out.x6.cell
        have r0 := F1.out.r.c0
        have r1 := F1.out.r.c1
        have u0 := F1.out.r.f0 0
        have u1 := F1.out.r.f0 1
        go_wp2_with fail
        refine (HE.out _ _ _ F1.out R4.out).mono ?_; rintro e0 w5 ⟨A5, c5, B5, d5, rfl, r5, p5, k5⟩
        have F1 := Lib.hid (F1.out.tr k5)
        have R5 := Lib.hid (And.intro r5 p5)
        clear k5 r5 p5 t0 t1 t5 t6 r0 r1 u0 u1
        have o0 := F1.out.r.c0
        have o1 := F1.out.r.c1
        have u0 := F1.out.r.f0 0
        have u1 := F1.out.r.f0 1
        go_wp2
        refine bodyPost_ret (v := .tuple #[.agg #[.slice A5 g.length c5, .slice B5 ms.length d5], .int .i64 0]) (by simp [results, Try.results18, go_sem, o0, o1]; try rfl) rfl ?_
        exact RetT.of rfl (R5.out.1.past F1.out.r _ _) (R5.out.2.past F1.out.r _ _) (F1.out.end_ _ _)

theorem ppad_any (A B : Option Addr) (c d : Nat) (s xs : List Int) (axis a side : Int) (w : World) (hA : Rd w A s) (hB : Rd w B xs) :
    Calls Try.prog 18 #[.agg #[.slice A s.length c, .slice B xs.length d], .int .i64 axis, .int .i64 a, .int .i64 side] w (RetT (padV s xs axis a side) w) := by
  cases ht : tokV s xs with
  | false => exact ppad_tok A B c d s xs axis a side w hA hB ht
  | true =>
    by_cases h1 : axis < 0 ∨ (s.length : Int) ≤ axis
    · exact ppad_side A B c d s xs axis a side w hA hB ht (by unfold padV; rw [if_neg (by simp [ht]), if_pos (by omega)]) h1
    · obtain ⟨k, rfl⟩ : ∃ k : Nat, axis = (k : Int) := ⟨axis.toNat, by omega⟩
      have hk : k < s.length := by omega
      exact ppad_may A B c d s xs k a side s[k] w hA hB ht (List.getElem?_eq_getElem hk)
end Go.Proofs.Ytdjfjhanffliiaa
