/- The document's small calls of layer 5 (fullerref05): a list turned, a list with another number, a tensor in another shape. -/
import Derived.Test.YtdjfjhanffliiaaMvM
namespace Go.Proofs.Ytdjfjhanffliiaa
open Go.RowKit Go.Proofs.ShM
set_option linter.unusedVariables false

set_option maxHeartbeats 1000000 in
theorem turned_any (A : Option Addr) (c : Nat) (l : List Int) (w : World) (h : Rd w A l) (hl : l.length ≤ 1000) :
    Calls Try.prog 35 #[.slice A l.length c] w (RetO l.reverse w) := by
  have HA := Lib.hid h
  clear h
  go_enter Try.func35, Try.ntmps35
  go_wp2
  go_loopw [3, 4] (fun v i wr => ∃ (k : Nat) (zs : List Int) (Az : Option Addr) (cz : Nat), i = .int .i64 ((k : Int) - 1) ∧ v = .slice Az zs.length cz ∧ Hid (k ≤ l.length) ∧ Hid (zs = (l.drop k).reverse) ∧ Hid (Own w.heap.size wr (.slice Az zs.length cz) zs) ∧ Hid (Kp w wr)) (fun _ i _ => (intOf i + 1).toNat)
  case atStart => exact ⟨l.length, [], none, 0, by go_num, rfl, Lib.hid (Nat.le_refl _), Lib.hid (by simp), Own.nil_ _ _, Kp.refl _⟩
  case round =>
    obtain ⟨k, zs, Az, cz, rfl, rfl, hkl, hz, hown, hk0⟩ := hrel
    have hkl' : k ≤ l.length := hkl.out
    have HZL : Hid (zs.length = l.length - k) := by show zs.length = _; rw [hz.out]; simp
    cases k with
    | zero =>
      have HE := Lib.hid (rev_end hz.out)
      go_wp2
      go_ret
      exact RetO.on (by rw [← HE.out]) (by rw [← HE.out]; exact hown.out) hk0.out
    | succ k =>
      obtain ⟨ad, x, rfl, hb, hx, hc⟩ := (HA.out.kp hk0.out).at_ (k := k) (by omega)
      have e1 : ((k + 1 : Nat) : Int) - 1 = (k : Int) := by omega
      rw [e1]
      have HX := Lib.hid hx
      have HBs : Hid (w.heap.size ≤ wr.heap.size) := hk0.out.size
      clear hx hb e1
      go_wp2_with (at_builtin; refine wpList_app rfl (.tmp 12) (.tmp 17) rfl _ zs rfl (hown.out.kp (Kp.alloc_ _ _)) _ _ [x] _ rfl rfl (Rd.one _ _ _) (by have := HZL.out; simp; omega) (by have := HBs.out; simp; omega) ?_; intro zs2 A2 c2 w2 HZ hown2 hb2; have HB := Lib.hid ((Kp.al hk0.out _).trans hb2); have HO2 := Lib.hid hown2; clear hown2 hb2)
      go_roundw
      case rel => exact ⟨k, zs2, A2, c2, by go_num, rfl, Lib.hid (by omega), Lib.hid (rev_step hz.out HX.out HZ.out), HO2.out, HB.out⟩
      case measure => simp [intOf]

set_option maxHeartbeats 1000000 in
theorem rset_any (A : Option Addr) (c : Nat) (l : List Int) (k : Nat) (n : Int) (w : World) (h : Rd w A l) (hl : l.length ≤ 1000) (hk : k < l.length) :
    Calls Try.prog 42 #[.slice A l.length c, .int .i64 (k : Int), .int .i64 n] w (RetO (l.set k n) w) := by
  have j1 : (0 : Int) ≤ (k : Int) := by omega
  have j2 : (k : Int) < (l.length : Int) := by omega
  go_enter Try.func42, Try.ntmps42
  go_wp2_with (at_builtin; refine wpList_app rfl (.tmp 8) (.tmp 9) rfl _ [] rfl (Own.zero _ (Nat.le_refl _)) A c l _ rfl rfl (h.alloc_ _) (by simp; omega) (by simp) ?_; intro zs' A' c' w1 HZ hown1 hb1; have HB := Lib.hid (((Below.refl _ _).alloc (Nat.le_refl _) _).trans hb1); have HW := Lib.hid hown1; have HP := Lib.hid (hown1.addr (by have := HZ.out; rw [this, List.nil_append]; omega)); have hzl : Hid (zs'.length = l.length) := (by show zs'.length = _; rw [HZ.out, List.nil_append]); clear hown1 hb1; obtain ⟨g, rfl, hg1, hg2⟩ := HP.out; have e1 := HW.out.cell_ (List.getElem?_eq_getElem (show k < zs'.length by rw [hzl.out]; exact hk)); have e2 := HW.out.froz_ k; have j3 : (k : Int) < (zs'.length : Int) := (by rw [hzl.out]; exact j2))
  go_ret
  have hz : zs' = l := by rw [HZ.out]; simp
  subst hz
  exact RetO.on (by simp) (HW.out.set_ k n) (HB.out.setCell (p := ⟨g, k, none⟩) hg1 _)

set_option maxHeartbeats 1000000 in
theorem rreshape_any (A B C : Option Addr) (c d e : Nat) (s xs g : List Int) (w : World) (hA : Rd w A s) (hB : Rd w B xs) (hC : Rd w C g) :
    Calls Try.prog 12 #[.agg #[.slice A s.length c, .slice B xs.length d], .slice C g.length e] w (RetT (reshapeV s xs g) w) := by
  have hl := hB.len
  have F0 := Lib.hid (Fr.mk_ w A s.length c B xs.length d 24)
  have HT := Lib.hid (rtcheck_any A B c d s xs _ (hA.kp F0.out.kp) (hB.kp F0.out.kp))
  have HS := Lib.hid (fun W (k : Kp w W) => rsize_any C e g W (hC.kp k))
  have HR := Lib.hid (And.intro hB hC)
  have hsz := size_le g
  cases ht : tokV s xs with
  | false =>
    rw [ht] at HT
    have HF : Hid (reshapeV s xs g = ([], [], 30)) := by show reshapeV s xs g = _; unfold reshapeV; rw [if_pos ht]
    clear ht
    go_enter Try.func12, Try.ntmps12
    go_wp2_with fail
    refine (Calls.mono (Hid.out HT)) ?_; rintro e0 w1 ⟨rfl, k1⟩
    have F1 := Lib.hid (F0.out.tr k1)
    obtain ⟨_, b0, b1, r0, r1, f0, f1, _⟩ := F1.out
    clear k1
    go_wp2
    refine bodyPost_ret (by simp [results, Try.results12, go_sem, r0, r1]; try rfl) rfl ?_
    exact RetT.err HF.out (F1.out.end_ _ _)
  | true =>
    rw [ht] at HT
    have hpos := (tok_len ht).2.2
    obtain ⟨N, hN⟩ : ∃ N : Int, sizeV g = N := ⟨_, rfl⟩
    rw [hN] at HS hsz
    by_cases hq : N = (xs.length : Int)
    · have HF : Hid (reshapeV s xs g = (g, xs, 0)) := by show reshapeV s xs g = _; unfold reshapeV; rw [if_neg (by simp [ht]), if_pos (by rw [hN]; exact hq)]
      have q1 : (N == 0) = false := by rw [beq_eq_false_iff_ne]; omega
      have q2 : (N != (xs.length : Int)) = false := by simpa using hq
      clear ht hN hq
      go_enter Try.func12, Try.ntmps12
      go_wp2_with fail
      refine (Calls.mono (Hid.out HT)) ?_; rintro e0 w1 ⟨rfl, k1⟩
      have F1 := Lib.hid (F0.out.tr k1)
      have TO : Hid (Bk w1 (w.heap.size + 1) none 0 0 none 0 0) := (Bk.new (World.size_alloc _ _).symm).kp k1
      clear k1
      obtain ⟨_, b0, b1, r0, r1, f0, f1, _⟩ := F1.out
      go_wp2_with fail
      refine (HS.out _ F1.out.kp).mono ?_; rintro e0 w2 ⟨rfl, rfl⟩
      go_wp2
      refine bodyPost_ret (by simp [results, Try.results12, go_sem, r0, r1]; try rfl) rfl ?_
      have hb := TO.out
      exact RetT.of HF.out ((HR.out.2.kp F1.out.kp).past hb _ _) ((HR.out.1.kp F1.out.kp).past hb _ _) (F1.out.end_ _ _)
    · have HF : Hid (reshapeV s xs g = ([], [], 20)) := by show reshapeV s xs g = _; unfold reshapeV; rw [if_neg (by simp [ht]), if_neg (by rw [hN]; exact hq)]
      have q2 : (N != (xs.length : Int)) = true := by simpa using hq
      clear ht hN hq
      by_cases h0 : N = 0
      · subst h0
        go_enter Try.func12, Try.ntmps12
        go_wp2_with fail
        refine (Calls.mono (Hid.out HT)) ?_; rintro e0 w1 ⟨rfl, k1⟩
        have F1 := Lib.hid (F0.out.tr k1)
        clear k1
        obtain ⟨_, b0, b1, r0, r1, f0, f1, _⟩ := F1.out
        go_wp2_with fail
        refine (HS.out _ F1.out.kp).mono ?_; rintro e0 w2 ⟨rfl, rfl⟩
        go_wp2
        refine bodyPost_ret (by simp [results, Try.results12, go_sem, r0, r1]; try rfl) rfl ?_
        exact RetT.err HF.out (F1.out.end_ _ _)
      · have q1 : (N == 0) = false := by simpa using h0
        go_enter Try.func12, Try.ntmps12
        go_wp2_with fail
        refine (Calls.mono (Hid.out HT)) ?_; rintro e0 w1 ⟨rfl, k1⟩
        have F1 := Lib.hid (F0.out.tr k1)
        clear k1
        obtain ⟨_, b0, b1, r0, r1, f0, f1, _⟩ := F1.out
        go_wp2_with fail
        refine (HS.out _ F1.out.kp).mono ?_; rintro e0 w2 ⟨rfl, rfl⟩
        go_wp2
        refine bodyPost_ret (by simp [results, Try.results12, go_sem, r0, r1]; try rfl) rfl ?_
        exact RetT.err HF.out (F1.out.end_ _ _)
end Go.Proofs.Ytdjfjhanffliiaa
