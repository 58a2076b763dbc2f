/- The document's Slice, its errors, and Pad, of layer 5 (fullerref05). -/
import Derived.Test.YtdjfjhanffliiaaMvD
namespace Go.Proofs.Ytdjfjhanffliiaa
open Go.RowKit Go.Proofs.ShM
set_option linter.unusedVariables false

set_option maxHeartbeats 4000000 in
theorem rslice_tok (A B : Option Addr) (c d : Nat) (s xs : List Int) (axis a b : Int) (w : World) (hA : Rd w A s) (hB : Rd w B xs) (ht : tokV s xs = false) :
    Calls Try.prog 17 #[.agg #[.slice A s.length c, .slice B xs.length d], .int .i64 axis, .int .i64 a, .int .i64 b] w (RetT (sliceV s xs axis a b) w) := by
  have hl := hB.len
  have hlA := hA.len
  have F0 := Lib.hid (Fr.mk_ w A s.length c B xs.length d 24)
  have HT := Lib.hid (rtcheck_any A B c d s xs _ (hA.kp F0.out.kp) (hB.kp F0.out.kp))
  rw [ht] at HT
  have HF : Hid (sliceV s xs axis a b = ([], [], 30)) := by show sliceV s xs axis a b = _; unfold sliceV; rw [if_pos ht]
  clear hA hB ht
  go_enter Try.func17, Try.ntmps17
  go_wp2_with fail
  refine (Calls.mono (Hid.out HT)) ?_; rintro e0 w1 ⟨rfl, k1⟩
  have F1 := Lib.hid (F0.out.tr k1)
  obtain ⟨_, b0, b1, r0, r1, f0, f1, _⟩ := F1.out
  clear k1
  go_wp2
  refine bodyPost_ret (v := .tuple #[.agg #[.slice none 0 0, .slice none 0 0], .int .i64 30]) (by simp [results, Try.results17, go_sem, r0, r1]; try rfl) rfl ?_
  exact RetT.err HF.out (F1.out.end_ _ _)

set_option maxHeartbeats 4000000 in
theorem rslice_bad (A B : Option Addr) (c d : Nat) (s xs : List Int) (axis a b : Int) (w : World) (hA : Rd w A s) (hB : Rd w B xs) (ht : tokV s xs = true) (hF : sliceV s xs axis a b = ([], [], 20)) (hbad : axis < 0 ∨ (s.length : Int) ≤ axis ∨ a < 0 ∨ b ≤ a ∨ s.getD axis.toNat 0 < b) :
    Calls Try.prog 17 #[.agg #[.slice A s.length c, .slice B xs.length d], .int .i64 axis, .int .i64 a, .int .i64 b] w (RetT (sliceV s xs axis a b) w) := by
  have hl := hB.len
  have hlA := hA.len
  have F0 := Lib.hid (Fr.mk_ w A s.length c B xs.length d 24)
  have HT := Lib.hid (rtcheck_any A B c d s xs _ (hA.kp F0.out.kp) (hB.kp F0.out.kp))
  rw [ht] at HT
  have HF := Lib.hid hF
  have hside := fun (k : Nat) (x : Int) (h : s[k]? = some x) => side_of (ok_all (tok_len ht).1) h
  clear hF
  by_cases c1 : axis < 0
  · clear hA hB ht hbad hside
    go_enter Try.func17, Try.ntmps17
    go_wp2_with fail
    refine (Calls.mono (Hid.out HT)) ?_; rintro e0 w1 ⟨rfl, k1⟩
    have F1 := Lib.hid (F0.out.tr k1)
    obtain ⟨_, b0, b1, r0, r1, f0, f1, _⟩ := F1.out
    clear k1
    go_wp2
    refine bodyPost_ret (v := .tuple #[.agg #[.slice none 0 0, .slice none 0 0], .int .i64 20]) (by simp [results, Try.results17, go_sem, r0, r1]; try rfl) rfl ?_
    exact RetT.err HF.out (F1.out.end_ _ _)
  by_cases c2 : (s.length : Int) ≤ axis
  · clear hA hB ht hbad hside
    go_enter Try.func17, Try.ntmps17
    go_wp2_with fail
    refine (Calls.mono (Hid.out HT)) ?_; rintro e0 w1 ⟨rfl, k1⟩
    have F1 := Lib.hid (F0.out.tr k1)
    obtain ⟨_, b0, b1, r0, r1, f0, f1, _⟩ := F1.out
    clear k1
    go_wp2
    refine bodyPost_ret (v := .tuple #[.agg #[.slice none 0 0, .slice none 0 0], .int .i64 20]) (by simp [results, Try.results17, go_sem, r0, r1]; try rfl) rfl ?_
    exact RetT.err HF.out (F1.out.end_ _ _)
  obtain ⟨k, rfl⟩ : ∃ k : Nat, axis = (k : Int) := ⟨axis.toNat, by omega⟩
  have hk : k < s.length := by omega
  obtain ⟨ad, x, rfl, hbx, hx, hc⟩ := hA.at_ hk
  have hgd : s.getD k 0 = x := by rw [List.getD, hx]; rfl
  have hx16 := hside k x hx
  rw [Int.toNat_natCast, hgd] at hbad
  have j1 : (0 : Int) ≤ (k : Int) := by omega
  have j2 : (k : Int) < (s.length : Int) := by omega
  clear hA hB ht hx hside hgd
  by_cases c3 : a < 0
  · skip
    clear hbad
    go_enter Try.func17, Try.ntmps17
    go_wp2_with fail
    refine (Calls.mono (Hid.out HT)) ?_; rintro e0 w1 ⟨rfl, k1⟩
    have F1 := Lib.hid (F0.out.tr k1)
    obtain ⟨_, b0, b1, r0, r1, f0, f1, _⟩ := F1.out
    have hc1 := (F1.out.kp.cell (p := ad.add k) (by rw [block_of_add]; exact hbx)).trans hc
    clear k1
    go_wp2
    refine bodyPost_ret (v := .tuple #[.agg #[.slice none 0 0, .slice none 0 0], .int .i64 20]) (by simp [results, Try.results17, go_sem, r0, r1]; try rfl) rfl ?_
    exact RetT.err HF.out (F1.out.end_ _ _)
  by_cases c4 : b ≤ a
  · skip
    clear hbad
    go_enter Try.func17, Try.ntmps17
    go_wp2_with fail
    refine (Calls.mono (Hid.out HT)) ?_; rintro e0 w1 ⟨rfl, k1⟩
    have F1 := Lib.hid (F0.out.tr k1)
    obtain ⟨_, b0, b1, r0, r1, f0, f1, _⟩ := F1.out
    have hc1 := (F1.out.kp.cell (p := ad.add k) (by rw [block_of_add]; exact hbx)).trans hc
    clear k1
    go_wp2
    refine bodyPost_ret (v := .tuple #[.agg #[.slice none 0 0, .slice none 0 0], .int .i64 20]) (by simp [results, Try.results17, go_sem, r0, r1]; try rfl) rfl ?_
    exact RetT.err HF.out (F1.out.end_ _ _)
  by_cases c5 : x < b
  · skip
    clear hbad
    go_enter Try.func17, Try.ntmps17
    go_wp2_with fail
    refine (Calls.mono (Hid.out HT)) ?_; rintro e0 w1 ⟨rfl, k1⟩
    have F1 := Lib.hid (F0.out.tr k1)
    obtain ⟨_, b0, b1, r0, r1, f0, f1, _⟩ := F1.out
    have hc1 := (F1.out.kp.cell (p := ad.add k) (by rw [block_of_add]; exact hbx)).trans hc
    clear k1
    go_wp2
    refine bodyPost_ret (v := .tuple #[.agg #[.slice none 0 0, .slice none 0 0], .int .i64 20]) (by simp [results, Try.results17, go_sem, r0, r1]; try rfl) rfl ?_
    exact RetT.err HF.out (F1.out.end_ _ _)
  exact absurd hbad (by omega)

theorem rslice_any (A B : Option Addr) (c d : Nat) (s xs : List Int) (axis a b : Int) (w : World) (hA : Rd w A s) (hB : Rd w B xs) :
    Calls Try.prog 17 #[.agg #[.slice A s.length c, .slice B xs.length d], .int .i64 axis, .int .i64 a, .int .i64 b] w (RetT (sliceV s xs axis a b) w) := by
  cases ht : tokV s xs with
  | false => exact rslice_tok A B c d s xs axis a b w hA hB ht
  | true =>
    by_cases hbad : axis < 0 ∨ (s.length : Int) ≤ axis ∨ a < 0 ∨ b ≤ a ∨ s.getD axis.toNat 0 < b
    · exact rslice_bad A B c d s xs axis a b w hA hB ht (by unfold sliceV; rw [if_neg (by simp [ht]), if_pos hbad]) hbad
    · obtain ⟨k, rfl⟩ : ∃ k : Nat, axis = (k : Int) := ⟨axis.toNat, by omega⟩
      rw [Int.toNat_natCast] at hbad
      have hk : k < s.length := by omega
      have hx : s[k]? = some s[k] := List.getElem?_eq_getElem hk
      have hgd : s.getD k 0 = s[k] := by rw [List.getD, hx]; rfl
      rw [hgd] at hbad
      exact rslice_yes A B c d s xs k a b s[k] w hA hB ht hx (by omega) (by omega) (by omega)

set_option maxHeartbeats 4000000 in
theorem rpad_tok (A B : Option Addr) (c d : Nat) (s xs : List Int) (axis a side : Int) (w : World) (hA : Rd w A s) (hB : Rd w B xs) (ht : tokV s xs = false) :
    Calls Try.prog 19 #[.agg #[.slice A s.length c, .slice B xs.length d], .int .i64 axis, .int .i64 a, .int .i64 side] w (RetT (padV s xs axis a side) w) := by
  have hl := hB.len
  have hlA := hA.len
  have F0 := Lib.hid (Fr.mk_ w A s.length c B xs.length d 24)
  have HT := Lib.hid (rtcheck_any A B c d s xs _ (hA.kp F0.out.kp) (hB.kp F0.out.kp))
  rw [ht] at HT
  have HF : Hid (padV s xs axis a side = ([], [], 30)) := by show padV s xs axis a side = _; unfold padV; rw [if_pos ht]
  clear hA hB ht
  go_enter Try.func19, Try.ntmps19
  go_wp2_with fail
  refine (Calls.mono (Hid.out HT)) ?_; rintro e0 w1 ⟨rfl, k1⟩
  have F1 := Lib.hid (F0.out.tr k1)
  obtain ⟨_, b0, b1, r0, r1, f0, f1, _⟩ := F1.out
  clear k1
  go_wp2
  refine bodyPost_ret (v := .tuple #[.agg #[.slice none 0 0, .slice none 0 0], .int .i64 30]) (by simp [results, Try.results19, go_sem, r0, r1]; try rfl) rfl ?_
  exact RetT.err HF.out (F1.out.end_ _ _)

set_option maxHeartbeats 4000000 in
theorem rpad_bad (A B : Option Addr) (c d : Nat) (s xs : List Int) (axis a side : Int) (w : World) (hA : Rd w A s) (hB : Rd w B xs) (ht : tokV s xs = true) (hF : padV s xs axis a side = ([], [], 20)) (hbad : axis < 0 ∨ (s.length : Int) ≤ axis ∨ a < 0 ∨ 16 < side ∨ IntKind.i64.wrap (side - s.getD axis.toNat 0) < a) :
    Calls Try.prog 19 #[.agg #[.slice A s.length c, .slice B xs.length d], .int .i64 axis, .int .i64 a, .int .i64 side] w (RetT (padV s xs axis a side) w) := by
  have hl := hB.len
  have hlA := hA.len
  have F0 := Lib.hid (Fr.mk_ w A s.length c B xs.length d 24)
  have HT := Lib.hid (rtcheck_any A B c d s xs _ (hA.kp F0.out.kp) (hB.kp F0.out.kp))
  rw [ht] at HT
  have HF := Lib.hid hF
  have hside := fun (k : Nat) (x : Int) (h : s[k]? = some x) => side_of (ok_all (tok_len ht).1) h
  clear hF
  by_cases c1 : axis < 0
  · clear hA hB ht hbad hside
    go_enter Try.func19, Try.ntmps19
    go_wp2_with fail
    refine (Calls.mono (Hid.out HT)) ?_; rintro e0 w1 ⟨rfl, k1⟩
    have F1 := Lib.hid (F0.out.tr k1)
    obtain ⟨_, b0, b1, r0, r1, f0, f1, _⟩ := F1.out
    clear k1
    go_wp2
    refine bodyPost_ret (v := .tuple #[.agg #[.slice none 0 0, .slice none 0 0], .int .i64 20]) (by simp [results, Try.results19, go_sem, r0, r1]; try rfl) rfl ?_
    exact RetT.err HF.out (F1.out.end_ _ _)
  by_cases c2 : (s.length : Int) ≤ axis
  · clear hA hB ht hbad hside
    go_enter Try.func19, Try.ntmps19
    go_wp2_with fail
    refine (Calls.mono (Hid.out HT)) ?_; rintro e0 w1 ⟨rfl, k1⟩
    have F1 := Lib.hid (F0.out.tr k1)
    obtain ⟨_, b0, b1, r0, r1, f0, f1, _⟩ := F1.out
    clear k1
    go_wp2
    refine bodyPost_ret (v := .tuple #[.agg #[.slice none 0 0, .slice none 0 0], .int .i64 20]) (by simp [results, Try.results19, go_sem, r0, r1]; try rfl) rfl ?_
    exact RetT.err HF.out (F1.out.end_ _ _)
  obtain ⟨k, rfl⟩ : ∃ k : Nat, axis = (k : Int) := ⟨axis.toNat, by omega⟩
  have hk : k < s.length := by omega
  obtain ⟨ad, x, rfl, hbx, hx, hc⟩ := hA.at_ hk
  have hgd : s.getD k 0 = x := by rw [List.getD, hx]; rfl
  have hx16 := hside k x hx
  rw [Int.toNat_natCast, hgd] at hbad
  have j1 : (0 : Int) ≤ (k : Int) := by omega
  have j2 : (k : Int) < (s.length : Int) := by omega
  clear hA hB ht hx hside hgd
  by_cases c3 : a < 0
  · skip
    clear hbad
    go_enter Try.func19, Try.ntmps19
    go_wp2_with fail
    refine (Calls.mono (Hid.out HT)) ?_; rintro e0 w1 ⟨rfl, k1⟩
    have F1 := Lib.hid (F0.out.tr k1)
    obtain ⟨_, b0, b1, r0, r1, f0, f1, _⟩ := F1.out
    have hc1 := (F1.out.kp.cell (p := ad.add k) (by rw [block_of_add]; exact hbx)).trans hc
    clear k1
    go_wp2
    refine bodyPost_ret (v := .tuple #[.agg #[.slice none 0 0, .slice none 0 0], .int .i64 20]) (by simp [results, Try.results19, go_sem, r0, r1]; try rfl) rfl ?_
    exact RetT.err HF.out (F1.out.end_ _ _)
  by_cases c4 : 16 < side
  · skip
    clear hbad
    go_enter Try.func19, Try.ntmps19
    go_wp2_with fail
    refine (Calls.mono (Hid.out HT)) ?_; rintro e0 w1 ⟨rfl, k1⟩
    have F1 := Lib.hid (F0.out.tr k1)
    obtain ⟨_, b0, b1, r0, r1, f0, f1, _⟩ := F1.out
    have hc1 := (F1.out.kp.cell (p := ad.add k) (by rw [block_of_add]; exact hbx)).trans hc
    clear k1
    go_wp2
    refine bodyPost_ret (v := .tuple #[.agg #[.slice none 0 0, .slice none 0 0], .int .i64 20]) (by simp [results, Try.results19, go_sem, r0, r1]; try rfl) rfl ?_
    exact RetT.err HF.out (F1.out.end_ _ _)
  by_cases c5 : IntKind.i64.wrap (side - x) < a
  · skip
    obtain ⟨z, hz⟩ : ∃ z, IntKind.i64.wrap (side - x) = z := ⟨_, rfl⟩
    rw [hz] at c5
    clear hbad
    go_enter Try.func19, Try.ntmps19
    go_wp2_with fail
    refine (Calls.mono (Hid.out HT)) ?_; rintro e0 w1 ⟨rfl, k1⟩
    have F1 := Lib.hid (F0.out.tr k1)
    obtain ⟨_, b0, b1, r0, r1, f0, f1, _⟩ := F1.out
    have hc1 := (F1.out.kp.cell (p := ad.add k) (by rw [block_of_add]; exact hbx)).trans hc
    clear k1
    go_wp2
    refine bodyPost_ret (v := .tuple #[.agg #[.slice none 0 0, .slice none 0 0], .int .i64 20]) (by simp [results, Try.results19, go_sem, r0, r1]; try rfl) rfl ?_
    exact RetT.err HF.out (F1.out.end_ _ _)
  exact absurd hbad (by omega)

set_option maxHeartbeats 4000000 in
theorem rpad_may (A B : Option Addr) (c d : Nat) (s xs : List Int) (k : Nat) (a side x z : Int) (w : World) (hA : Rd w A s) (hB : Rd w B xs) (ht : tokV s xs = true) (hx : s[k]? = some x) (h1 : 0 ≤ a) (h2 : side ≤ 16) (hz : IntKind.i64.wrap (side - x) = z) (h3 : ¬ z < a) (h4 : ∀ ok, okS (s.set k side) = ok → ok = false ∨ a ≤ 16) :
    Calls Try.prog 19 #[.agg #[.slice A s.length c, .slice B xs.length d], .int .i64 (k : Int), .int .i64 a, .int .i64 side] w (RetT (if okS (s.set k side) = true then (s.set k side, movedL s xs (s.set k side) k (-a), 0) else ([], [], 20)) w) := by
  have hl := hB.len
  have hlA := hA.len
  have F0 := Lib.hid (Fr.mk_ w A s.length c B xs.length d 24)
  have HT := Lib.hid (rtcheck_any A B c d s xs _ (hA.kp F0.out.kp) (hB.kp F0.out.kp))
  rw [ht] at HT
  have ho := (tok_len ht).1
  have hs3 : s.length ≤ 3 := (ok_iff.1 ho).1
  have hk := (List.getElem?_eq_some_iff.1 hx).1
  have HW := Lib.hid (fun W (kw : Kp w W) => rset_any A c s k side W (hA.kp kw) (by omega) hk)
  have HCK : Hid (∀ W Cz e, Rd W Cz (s.set k side) → Calls Try.prog 45 #[.slice Cz (s.set k side).length e] W fun e w' => e = .returned (.bool (okS (s.set k side))) ∧ W = w') := fun W Cz e r => rcheck_any Cz e (s.set k side) W r
  have HM : Hid (okS (s.set k side) = true → ∀ W Cz e, Kp w W → Rd W Cz (s.set k side) → Calls Try.prog 41 #[.agg #[.slice A s.length c, .slice B xs.length d], .slice Cz (s.set k side).length e, .int .i64 (k : Int), .int .i64 (-a)] W (RetM (s.set k side) (movedL s xs (s.set k side) k (-a)) W)) := by
    intro hog W Cz e kw r
    have ha : a ≤ 16 := by rcases h4 _ hog with h | h; cases h; exact h
    exact moved_any A B Cz c d e s xs (s.set k side) k (-a) W (hA.kp kw) (hB.kp kw) r ht hog (by rw [List.length_set]; exact hk) (by omega) (by omega)
  obtain ⟨ad, x', rfl, hbx, hx', hc⟩ := hA.at_ hk
  obtain rfl : x = x' := by rw [hx] at hx'; exact Option.some.inj hx'
  have h4' := h4 _ rfl
  generalize hg : s.set k side = g at HM HW HCK h4' ⊢
  generalize movedL s xs g k (-a) = ms at HM ⊢
  have hneg : okS g = true → wrap64 (-a) = -a := fun h => by
    have h5 : a ≤ 16 := by rcases h4' with h' | h'; (rw [h] at h'; cases h'); exact h'
    unfold wrap64; omega
  have j1 : (0 : Int) ≤ (k : Int) := by omega
  have j2 : (k : Int) < (s.length : Int) := by omega
  have j3 : ¬ (k : Int) < 0 := by omega
  have j4 : ¬ (s.length : Int) ≤ (k : Int) := by omega
  have j5 : ¬ a < 0 := by omega
  have j6 : ¬ 16 < side := by omega
  clear hA hB ht ho hx hx' hg h4 h4'
  cases hok : okS g with
  | false =>
    rw [hok] at HCK
    rw [if_neg (by simp)]
    clear HM hok hneg
    go_enter Try.func19, Try.ntmps19
    go_wp2_with fail
    refine (Calls.mono (Hid.out HT)) ?_; rintro e0 w1 ⟨rfl, k1⟩
    have F1 := Lib.hid (F0.out.tr k1)
    obtain ⟨_, b0, b1, r0, r1, f0, f1, _⟩ := F1.out
    have hc1 := (F1.out.kp.cell (p := ad.add k) (by rw [block_of_add]; exact hbx)).trans hc
    clear k1
    go_wp2_with fail
    refine (HW.out _ F1.out.kp).mono ?_; rintro e0 w4 ⟨A4, c4, rfl, o4, k4⟩
    have R4 : Hid (Rd w4 A4 g) := o4.sl.rd
    have F1 := Lib.hid (F1.out.tr k4)
    clear k4 o4 b0 b1 r0 r1 f0 f1 hc1
    obtain ⟨_, b0, b1, r0, r1, f0, f1, _⟩ := F1.out
    go_wp2_with fail
    refine (HCK.out _ _ _ R4.out).mono ?_; rintro e0 w5 ⟨rfl, rfl⟩
    go_wp2
    refine bodyPost_ret (v := .tuple #[.agg #[.slice none 0 0, .slice none 0 0], .int .i64 20]) (by simp [results, Try.results19, go_sem, r0, r1]; try rfl) rfl ?_
    exact RetT.err rfl (F1.out.end_ _ _)
  | true =>
    rw [hok] at HCK
    rw [if_pos rfl]
    have HM := Lib.hid (HM.out hok)
    obtain ⟨y, hy⟩ : ∃ y, -a = y := ⟨_, rfl⟩
    have hneg := (hneg hok).trans hy
    rw [hy] at HM
    clear hok hy
    go_enter Try.func19, Try.ntmps19
    go_wp2_with fail
    refine (Calls.mono (Hid.out HT)) ?_; rintro e0 w1 ⟨rfl, k1⟩
    have F1 := Lib.hid (F0.out.tr k1)
    have TO : Hid (Bk w1 (w.heap.size + 1) none 0 0 none 0 0) := (Bk.new (World.size_alloc _ _).symm).kp k1
    obtain ⟨_, b0, b1, r0, r1, f0, f1, _⟩ := F1.out
    have hc1 := (F1.out.kp.cell (p := ad.add k) (by rw [block_of_add]; exact hbx)).trans hc
    clear k1
    go_wp2_with fail
    refine (HW.out _ F1.out.kp).mono ?_; rintro e0 w4 ⟨A4, c4, rfl, o4, k4⟩
    have R4 : Hid (Rd w4 A4 g) := o4.sl.rd
    have F1 := Lib.hid (F1.out.tr k4)
    have TO := Lib.hid (TO.out.kp k4)
    clear k4 o4 b0 b1 r0 r1 f0 f1 hc1
    obtain ⟨_, b0, b1, r0, r1, f0, f1, _⟩ := F1.out
    go_wp2_with fail
    refine (HCK.out _ _ _ R4.out).mono ?_; rintro e0 w5 ⟨rfl, rfl⟩
    go_wp2_with fail
    refine (HM.out _ _ _ F1.out.kp R4.out).mono ?_; rintro e0 w5 ⟨A5, c5, B5, d5, rfl, r5, p5, k5⟩
    have R5 := Lib.hid (And.intro r5 p5)
    have TO := Lib.hid (TO.out.kp k5)
    have KK := Lib.hid (F1.out.kp.tr k5)
    clear k5 r5 p5 b0 b1 r0 r1 f0 f1
    have o0 := TO.out.c0
    have o1 := TO.out.c1
    have u0 := TO.out.f0 0
    have u1 := TO.out.f0 1
    go_wp2
    refine bodyPost_ret (v := .tuple #[.agg #[.slice A5 g.length c5, .slice B5 ms.length d5], .int .i64 0]) (by simp [results, Try.results19, go_sem, o0, o1]; try rfl) rfl ?_
    exact RetT.of rfl (R5.out.1.past TO.out _ _) (R5.out.2.past TO.out _ _) ((KK.out.setCell (p := ⟨w.heap.size + 1, 0, none⟩) (Nat.le_succ _) _).setCell (p := ⟨w.heap.size + 1, 1, none⟩) (Nat.le_succ _) _)

theorem rpad_any (A B : Option Addr) (c d : Nat) (s xs : List Int) (axis a side : Int) (w : World) (hA : Rd w A s) (hB : Rd w B xs) (hi : I64 side) :
    Calls Try.prog 19 #[.agg #[.slice A s.length c, .slice B xs.length d], .int .i64 axis, .int .i64 a, .int .i64 side] w (RetT (padV s xs axis a side) w) := by
  cases ht : tokV s xs with
  | false => exact rpad_tok A B c d s xs axis a side w hA hB ht
  | true =>
    by_cases hbad : axis < 0 ∨ (s.length : Int) ≤ axis ∨ a < 0 ∨ 16 < side ∨ IntKind.i64.wrap (side - s.getD axis.toNat 0) < a
    · refine rpad_bad A B c d s xs axis a side w hA hB ht ?_ hbad
      unfold padV
      rw [if_neg (by simp [ht]), if_pos]
      by_cases g1 : axis < 0
      · exact .inl g1
      by_cases g2 : (s.length : Int) ≤ axis
      · exact .inr (.inl g2)
      by_cases g3 : a < 0
      · exact .inr (.inr (.inl g3))
      by_cases g4 : 16 < side
      · exact .inr (.inr (.inr (.inl g4)))
      have h : IntKind.i64.wrap (side - s.getD axis.toNat 0) < a := by
        rcases hbad with h | h | h | h | h
        · exact absurd h g1
        · exact absurd h g2
        · exact absurd h g3
        · exact absurd h g4
        · exact h
      obtain ⟨k, rfl⟩ : ∃ k : Nat, axis = (k : Int) := ⟨axis.toNat, by omega⟩
      rw [Int.toNat_natCast] at h ⊢
      have hk : k < s.length := by omega
      have hx : s[k]? = some s[k] := List.getElem?_eq_getElem hk
      have hx16 := side_of (ok_all (tok_len ht).1) hx
      have hgd : s.getD k 0 = s[k] := by rw [List.getD, hx]; rfl
      rw [hgd] at h ⊢
      generalize s[k] = x at hx hgd hx16 h ⊢
      by_cases hlow : -1000 ≤ side
      · rw [IntWalk.i64_in _ (by omega)] at h
        exact .inr (.inr (.inr (.inr (.inl h))))
      · refine .inr (.inr (.inr (.inr (.inr ?_))))
        cases hok : okS (s.set k side) with
        | false => rfl
        | true =>
          have := (side_of (ok_all hok) (k := k) (x := side) (by rw [List.getElem?_set_self hk])).1
          omega
    · obtain ⟨k, rfl⟩ : ∃ k : Nat, axis = (k : Int) := ⟨axis.toNat, by omega⟩
      rw [Int.toNat_natCast] at hbad
      have hk : k < s.length := by omega
      have hx : s[k]? = some s[k] := List.getElem?_eq_getElem hk
      have hgd : s.getD k 0 = s[k] := by rw [List.getD, hx]; rfl
      have hx16 := side_of (ok_all (tok_len ht).1) hx
      rw [hgd] at hbad
      generalize s[k] = x at hx hgd hx16 hbad
      unfold I64 at hi
      have hside : okS (s.set k side) = true → 1 ≤ side := fun h => (side_of (ok_all h) (k := k) (x := side) (by rw [List.getElem?_set_self hk])).1
      have hres : padV s xs k a side = if okS (s.set k side) = true then (s.set k side, movedL s xs (s.set k side) k (-a), 0) else ([], [], 20) := by
        unfold padV
        rw [if_neg (by simp [ht]), Int.toNat_natCast, hgd]
        cases hok : okS (s.set k side) with
        | false => rw [if_pos (by simp), if_neg (by simp)]
        | true =>
          have h1 := hside hok
          have h2 : IntKind.i64.wrap (side - x) = side - x := IntWalk.i64_in _ (by omega)
          rw [h2] at hbad
          rw [if_neg (by simp; omega), if_pos rfl]
      rw [hres]
      exact rpad_may A B c d s xs k a side x _ w hA hB ht hx (by omega) (by omega) rfl (by omega) (fun ok h => by
        cases ok with
        | false => exact .inl rfl
        | true =>
          have h1 := hside h
          have h2 : IntKind.i64.wrap (side - x) = side - x := IntWalk.i64_in _ (by omega)
          rw [h2] at hbad
          exact .inr (by omega))
end Go.Proofs.Ytdjfjhanffliiaa
