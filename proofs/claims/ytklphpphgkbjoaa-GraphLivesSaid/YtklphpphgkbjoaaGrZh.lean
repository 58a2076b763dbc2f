/- The landed graph: Params, Inputs, Uses, Live. -/
import Derived.Test.YtklphpphgkbjoaaGrZg
namespace Go.Proofs.Ytklphpphgkbjoaa.Gz
open Go.RowKit Go.Proofs.ShM Go.Proofs.GrM
set_option linter.unusedVariables false
set_option linter.unusedSimpArgs false
set_option maxHeartbeats 8000000

theorem kp_box {A B : World} (k : Kp A B) {j : Nat} {t : TypeId} {v : Value} (h : Boxed A j t v) : Boxed B j t v := (k.block j h.lt).trans h
/-! ### Inputs -/
set_option maxRecDepth 100000 in
theorem inputs_z (A : Option Addr) (c m : Nat) (l : List Nd) (s : List Int) (is : Bool) (w : World) (h : RdG w A l) (hc1 : l.length ≤ c) (hc2 : c ≤ 9223372036854775807) (hsm : SmallG l) (hm : m = l.length) (hr : inputsV l = (s, is)) :
    Calls Try.prog 11 #[.slice A m c] w fun e w' => ∃ A' c', e = .returned (.tuple #[.slice A' s.length c', .bool is]) ∧ Own w.heap.size w' (.slice A' s.length c') s ∧ Kp w w' := by
  subst hm
  have hl := h.len
  have HRD := Lib.hid h
  have HC := Lib.hid (check_z A c l.length l (checkB l) w h hc1 hc2 rfl rfl)
  have HSM : Hid (∀ t ∈ l, t.2.2.length ≤ 100) := fun t ht => (hsm.2 t ht).2.1
  clear h hsm
  cases hck : checkB l with
  | false =>
    rw [hck] at HC
    have hv : (s, is) = (([] : List Int), false) := by rw [← hr]; unfold inputsV; rw [if_neg (by simp [hck])]
    injection hv with e1 e2
    subst e1 e2
    clear hck hr
    go_enter Try.func11, Try.ntmps11
    go_wp2_with fail
    refine (Hid.out HC).mono ?_; rintro e w1 ⟨rfl, k1⟩
    have K1 := Lib.hid k1
    clear k1
    go_wp2
    go_ret2
    exact ⟨none, 0, rfl, Own.nil_ _ _, K1.out⟩
  | true =>
    rw [hck] at HC
    have HV0 : Hid ((s, is) = outI (((l.drop 0).find? fun n => decide (n.1 = 1)).map (·.2.2))) := by
      show (s, is) = _
      rw [← hr]
      unfold inputsV inputsO
      rw [if_pos hck, List.drop_zero]
      rfl
    clear hck hr
    go_enter Try.func11, Try.ntmps11
    go_wp2_with fail
    refine (Hid.out HC).mono ?_; rintro e w1 ⟨rfl, k1⟩
    have K1 := Lib.hid k1
    clear k1
    go_wp2
    go_loopw [10] (fun i wx => ∃ k : Nat, i = .int .i64 (k : Int) ∧ Hid (k ≤ l.length) ∧ Hid ((s, is) = outI (((l.drop k).find? fun n => decide (n.1 = 1)).map (·.2.2))) ∧ wx = w1) (fun i _ => l.length - (intOf i).toNat)
    case atStart => exact ⟨0, rfl, Nat.zero_le _, HV0.out, rfl⟩
    case round =>
      obtain ⟨k, rfl, hk, hT, rfl⟩ := hrel
      by_cases hj : k < l.length
      · have hj' : (k : Int) < (l.length : Int) := by omega
        obtain ⟨ad, t, P, e, Q, f, rfl, hlt, ht, hc0', hc1', hc2', hN, _, hd⟩ := HRD.out.at_ hj
        have hc0 := (K1.out.cell (p := ad.add (k * 3)) (by rw [block_of_add]; exact hlt)).trans hc0'
        have hc3 := (K1.out.cell (p := ⟨(ad.add (k * 3)).block, (ad.add (k * 3)).off + 2, none⟩) (by rw [block_of_add]; exact hlt)).trans hc2'
        have hlt2 := Nat.lt_of_lt_of_le hlt K1.out.size
        clear hc0' hc1' hc2'
        obtain ⟨hb, ee⟩ := List.getElem?_eq_some_iff.1 ht
        by_cases h1 : t.1 = 1
        · have i1 : (t.1 == 1) = true := by simpa using h1
          have HT2 : Hid ((s, is) = (t.2.2, true)) := by show (s, is) = _; rw [hT.out, List.drop_eq_getElem_cons hb, ee, List.find?_cons_of_pos (by simpa using h1)]; rfl
          have hle := HSM.out t (List.mem_of_getElem? ht)
          have HCL := Lib.hid (clone_g Q f t.2.2 wr (hN.rn.kp K1.out) (by omega))
          obtain ⟨op, la, s2⟩ := t
          dsimp only at hc0 hc3 HT2 i1 HCL hle
          injection HT2.out with e1 e2
          subst e1 e2
          clear h1 ht ee hN hT HT2
          go_wp2_with fail
          refine (Hid.out HCL).mono ?_; rintro e0 w2 ⟨A', c', rfl, o2, k2⟩
          have O2 := Lib.hid o2
          have K2 : Hid (Kp w w2) := K1.out.tr k2
          clear o2 k2
          go_wp2
          go_ret2
          refine ⟨A', c', rfl, O2.out.weakG K1.out.size, K2.out⟩
        · have i1 : (t.1 == 1) = false := by simpa using h1
          have HT2 : Hid ((s, is) = outI (((l.drop (k + 1)).find? fun n => decide (n.1 = 1)).map (·.2.2))) := by
            show (s, is) = _
            rw [hT.out, List.drop_eq_getElem_cons hb, ee, List.find?_cons_of_neg (by simpa using h1)]
          clear h1 ht ee hN
          go_wp2
          go_roundw
          case rel => exact ⟨k + 1, by go_num, (by show k + 1 ≤ l.length; omega), HT2.out, (by first | rfl | trivial)⟩
          case measure => simp [intOf]; omega
      · have hj' : ¬ (k : Int) < (l.length : Int) := by omega
        have HT2 : Hid ((s, is) = ([], false)) := by show (s, is) = _; rw [hT.out, List.drop_eq_nil_of_le (by omega)]; rfl
        injection HT2.out with e1 e2
        subst e1 e2
        clear HT2 hT HV0
        go_wp2
        go_ret2
        exact ⟨none, 0, rfl, Own.nil_ _ _, K1.out⟩

/-! ### Uses -/
theorem uses_num (l : List Nd) (x : Int) : ∀ k, k ≤ l.length → numbersV k (fun i => ((l.getD i nd0).2.1.filter (· == x)).length) = usesF 0 (l.take k) x
  | 0, _ => by simp [numbersV, usesF]
  | k + 1, h => by
    have hn : l[k]? = some l[k] := List.getElem?_eq_getElem (by omega)
    rw [numbersV_succ, uses_num l x k (by omega), List.take_add_one, hn, uses_app, List.length_take, Nat.min_eq_left (by omega), getD_at hn]
    congr 1
    simp [usesF, List.map_const']
set_option maxRecDepth 100000 in
theorem uses_z (A : Option Addr) (c m : Nat) (l : List Nd) (x : Int) (r : List Int) (w : World) (h : RdG w A l) (hc1 : l.length ≤ c) (hc2 : c ≤ 9223372036854775807) (hm : m = l.length) (hr : usesV l x = r) :
    Calls Try.prog 20 #[.slice A m c, .int .i64 x] w (RetOg r w) := by
  subst hm
  have hl := h.len
  have KB : Hid (Kp w ((w.alloc (.cells #[.slice A l.length c] 22)).alloc (.cells #[.int .i64 x] 3))) := (Kp.alloc_ _ _).tr (Kp.alloc_ _ _)
  have B0 : Hid (Boxed ((w.alloc (.cells #[.slice A l.length c] 22)).alloc (.cells #[.int .i64 x] 3)) w.heap.size 22 (.slice A l.length c)) := (Boxed.new w _ _).alloc _
  have B1 : Hid (Boxed ((w.alloc (.cells #[.slice A l.length c] 22)).alloc (.cells #[.int .i64 x] 3)) (w.heap.size + 1) 3 (.int .i64 x)) := by
    have h := Boxed.new (w.alloc (.cells #[.slice A l.length c] 22)) 3 (.int .i64 x)
    rw [World.size_alloc] at h
    exact h
  have HC := Lib.hid (check_z A c l.length l (checkB l) _ (h.kp KB.out) hc1 hc2 rfl rfl)
  have HRD := Lib.hid h
  have p0 := B0.out.cell
  have p1 := B1.out.cell
  clear h
  cases hck : checkB l with
  | false =>
    rw [hck] at HC
    have hv : r = [] := by rw [← hr]; unfold usesV; rw [if_neg (by simp [hck])]
    subst hv
    clear hck hr
    go_enter Try.func20, Try.ntmps20
    go_wp2_with fail
    refine (Hid.out HC).mono ?_; rintro e w1 ⟨rfl, k1⟩
    have K1 : Hid (Kp w w1) := KB.out.tr k1
    clear k1
    go_wp2
    go_ret
    exact ⟨none, 0, rfl, Own.nil_ _ _, K1.out⟩
  | true =>
    rw [hck] at HC
    have hl24 : l.length ≤ 24 := (check_iff.1 hck).2.1
    have HGA : Hid (∀ j, (l.getD j nd0).2.1.length ≤ 2) := getD_args hck
    have HR : Hid (r = numbersV l.length (fun i => ((l.getD i nd0).2.1.filter (· == x)).length)) := by
      show r = _
      rw [uses_num l x l.length (Nat.le_refl _), List.take_length, ← hr]; unfold usesV; rw [if_pos hck]
    clear hck hr
    go_enter Try.func20, Try.ntmps20
    go_wp2_with fail
    refine (Hid.out HC).mono ?_; rintro e w1 ⟨rfl, k1⟩
    have K1 : Hid (Kp w w1) := KB.out.tr k1
    have B2 := Lib.hid (kp_box k1 B0.out)
    have B3 := Lib.hid (kp_box k1 B1.out)
    have HNU := Lib.hid (numbers_any l.length 32 [.pointer (some ⟨w.heap.size, 0, none⟩), .pointer (some ⟨w.heap.size + 1, 0, none⟩)] (fun i => ((l.getD i nd0).2.1.filter (· == x)).length) r w1 (by omega)
      (fun i => Nat.le_trans (List.length_filter_le _ _) (by have := HGA.out i; omega)) HR.out (fun args W => enters_of Try.func32 (by kernel_rfl) rfl args W)
      (fun k W hk kW => by
        have hn : l[k]? = some l[k] := List.getElem?_eq_getElem hk
        refine uses1 A none l.length c w.heap.size (w.heap.size + 1) k 0 0 l [] x W (kp_box kW B2.out) (kp_box kW B3.out) (HRD.out.kp (K1.out.tr kW)) rfl _ hn (by have := HGA.out k; rw [getD_at hn] at this; omega) _ ?_
        rw [getD_at hn]))
    have p2 := B2.out.cell
    have p3 := B3.out.cell
    clear k1 p0 p1
    go_wp2_with fail
    refine (Hid.out HNU).mono ?_; rintro e w2 ⟨A', c', rfl, o2, k2⟩
    have O2 := Lib.hid o2
    have K2 : Hid (Kp w w2) := K1.out.tr k2
    clear o2 k2
    go_wp2
    go_ret
    exact ⟨A', c', rfl, O2.out.weakG K1.out.size, K2.out⟩
end Go.Proofs.Ytklphpphgkbjoaa.Gz
