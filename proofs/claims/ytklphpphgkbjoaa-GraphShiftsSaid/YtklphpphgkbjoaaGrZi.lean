/- The landed graph: Params. -/
import Derived.Test.YtklphpphgkbjoaaGrZh
namespace Go.Proofs.Ytklphpphgkbjoaa.Gz
open Go.RowKit Go.Proofs.ShM Go.Proofs.GrM
set_option linter.unusedVariables false
set_option linter.unusedSimpArgs false
set_option maxHeartbeats 8000000

def markP (l : List Nd) (k : Nat) : List Int := (List.range 8).map fun p : Nat => if namesB (l.take k) (p : Int) = true then (1 : Int) else 0
theorem markP_len (l : List Nd) (k : Nat) : (markP l k).length = 8 := by simp [markP]
theorem markP_at {l : List Nd} {k p : Nat} (hp : p < 8) : (markP l k)[p]? = some (if namesB (l.take k) (p : Int) = true then (1 : Int) else 0) := by
  unfold markP
  rw [List.getElem?_map, List.getElem?_range hp]; rfl
theorem markP_zero (l : List Nd) : markP l 0 = [0, 0, 0, 0, 0, 0, 0, 0] := by
  unfold markP
  simp [namesB, List.range, List.range.loop]
theorem markP_no {l : List Nd} {k : Nat} {t : Nd} (h : l[k]? = some t) (h2 : t.1 ≠ 2) : markP l (k + 1) = markP l k := by
  unfold markP
  congr 1
  funext p
  rw [names_take _ h, show decide (t.1 = 2 ∧ t.2.2.getD 0 0 = (p : Int)) = false by rw [decide_eq_false_iff_not]; exact fun g => h2 g.1, Bool.or_false]
theorem markP_yes {l : List Nd} {k q : Nat} {t : Nd} (h : l[k]? = some t) (h2 : t.1 = 2) (hq : t.2.2.getD 0 0 = (q : Int)) (h8 : q < 8) : markP l (k + 1) = (markP l k).set q 1 := by
  apply List.ext_getElem?
  intro p
  by_cases hp : p < 8
  · rw [markP_at hp, List.getElem?_set, markP_len, names_take _ h]
    by_cases e : q = p
    · subst e
      rw [if_pos rfl, if_pos h8, show decide (t.1 = 2 ∧ t.2.2.getD 0 0 = (q : Int)) = true from decide_eq_true ⟨h2, hq⟩, Bool.or_true]
      rfl
    · rw [if_neg e, markP_at hp, show decide (t.1 = 2 ∧ t.2.2.getD 0 0 = (p : Int)) = false by rw [decide_eq_false_iff_not, hq]; omega, Bool.or_false]
  · rw [List.getElem?_eq_none (by rw [markP_len]; omega), List.getElem?_eq_none (by rw [List.length_set, markP_len]; omega)]
theorem pup_num (l : List Nd) : ∀ k, numbersV k (fun p => if namesB l (p : Int) = true then 1 else 0) = pup l k
  | 0 => by simp [numbersV, pup]
  | k + 1 => by
    rw [numbersV_succ, pup_succ, pup_num l k]
    congr 1
    split <;> rfl
theorem par_at {l : List Nd} (h : checkB l = true) {k : Nat} {t : Nd} (hn : l[k]? = some t) (h2 : t.1 = 2) : ∃ q : Nat, t.2.2.getD 0 0 = (q : Int) ∧ q < 8 ∧ t.2.2 ≠ [] := by
  obtain ⟨a, b⟩ := par_of h hn h2
  have c := ((mem_params h).1 b).1
  exact ⟨(t.2.2.getD 0 0).toNat, by omega, by omega, a⟩
set_option maxRecDepth 100000 in
theorem params_z (A : Option Addr) (c m : Nat) (l : List Nd) (r : List Int) (w : World) (h : RdG w A l) (hc1 : l.length ≤ c) (hc2 : c ≤ 9223372036854775807) (hm : m = l.length) (hr : paramsV l = r) :
    Calls Try.prog 18 #[.slice A m c] w (RetOg r w) := by
  subst hm
  have hl := h.len
  have HC := Lib.hid (check_z A c l.length l (checkB l) w h hc1 hc2 rfl rfl)
  have HRD := Lib.hid h
  clear h
  cases hck : checkB l with
  | false =>
    rw [hck] at HC
    have hv : r = [] := by rw [← hr]; unfold paramsV; rw [if_neg (by simp [hck])]
    subst hv
    clear hck hr
    go_enter Try.func18, Try.ntmps18
    go_wp2_with fail
    refine (Hid.out HC).mono ?_; rintro e w1 ⟨rfl, k1⟩
    have K1 := Lib.hid k1
    clear k1
    go_wp2
    go_ret
    exact ⟨none, 0, rfl, Own.nil_ _ _, K1.out⟩
  | true =>
    rw [hck] at HC
    have HPAR : Hid (∀ (k : Nat) (t : Nd), l[k]? = some t → t.1 = 2 → ∃ q : Nat, t.2.2.getD 0 0 = (q : Int) ∧ q < 8 ∧ t.2.2 ≠ []) := fun k t hn h2 => par_at hck hn h2
    have HR : Hid (r = numbersV 8 (fun p => if namesB l (p : Int) = true then 1 else 0)) := by
      show r = _
      rw [pup_num, ← hr]; unfold paramsV; rw [if_pos hck]; rfl
    clear hck hr
    go_enter Try.func18, Try.ntmps18
    go_wp2_with fail
    refine (Hid.out HC).mono ?_; rintro e w1 ⟨rfl, k1⟩
    have K1 := Lib.hid k1
    clear k1 HC
    have A0 : Hid (Ai 44 (w1.alloc (.cells #[.int .i64 0, .int .i64 0, .int .i64 0, .int .i64 0, .int .i64 0, .int .i64 0, .int .i64 0, .int .i64 0] 44)) w1.heap.size (markP l 0)) := by
      show Ai _ _ _ _
      rw [markP_zero]
      exact Ai.new w1 [0, 0, 0, 0, 0, 0, 0, 0]
    have KA : Hid (Kp w1 (w1.alloc (.cells #[.int .i64 0, .int .i64 0, .int .i64 0, .int .i64 0, .int .i64 0, .int .i64 0, .int .i64 0, .int .i64 0] 44))) := Kp.alloc_ _ _
    go_wp2
    go_loopw [10] (fun i wx => ∃ k : Nat, i = .int .i64 (k : Int) ∧ Hid (k ≤ l.length) ∧ Hid (Ai 44 wx w1.heap.size (markP l k)) ∧ Hid (Kp w1 wx)) (fun i _ => l.length - (intOf i).toNat)
    case atStart => exact ⟨0, rfl, Nat.zero_le _, A0.out, KA.out⟩
    case round =>
      obtain ⟨k, rfl, hk, hA, hK⟩ := hrel
      have KO : Hid (Kp w wr) := K1.out.tr hK.out
      by_cases hj : k < l.length
      · have hj' : (k : Int) < (l.length : Int) := by omega
        obtain ⟨ad, t, P, e, Q, f, rfl, hlt, ht, hc0, _, hc3, hN, _, hd⟩ := (HRD.out.kp KO.out).at_ hj
        by_cases h1 : t.1 = 2
        · have i1 : (t.1 == 2) = true := by simpa using h1
          obtain ⟨q, hq1, hq2, hne⟩ := HPAR.out k t ht h1
          obtain ⟨ae, rfl, hlt2, hce, hm0⟩ := cell_first hN.rn hne
          rw [hq1] at hce
          have HM := Lib.hid (markP_yes ht h1 hq1 hq2)
          have i2 : (0 : Int) < (t.2.2.length : Int) := by omega
          have i3 : (q : Int) < 8 := by omega
          have hlen := hN.rn.len
          have u0 := hA.out.froz q
          have HA2 := Lib.hid (hA.out.set_ q 1)
          have HK2 : Hid (Kp w1 (wr.setCell ⟨w1.heap.size, q, none⟩ (.int .i64 1))) := hK.out.setCell (p := ⟨w1.heap.size, q, none⟩) (Nat.le_refl _) _
          have hlt3 := hA.out.lt
          have hcl := hA.out.cell (markP_at hq2)
          obtain ⟨op, la, s2⟩ := t
          dsimp only at hc0 hc3 i1 i2 hlen
          obtain ⟨n2, hn2⟩ : ∃ n2, n2 = s2.length := ⟨_, rfl⟩
          rw [← hn2] at hc3 i2 hlen
          clear h1 ht hN hq1 hne hm0 hd hn2
          go_wp2
          go_roundw
          case rel => exact ⟨k + 1, by go_num, (by show k + 1 ≤ l.length; omega), (by rw [HM.out]; exact HA2.out), HK2.out⟩
          case measure => simp [intOf]; omega
        · have i1 : (t.1 == 2) = false := by simpa using h1
          have HM := Lib.hid (markP_no ht h1)
          clear h1 ht hN
          go_wp2
          go_roundw
          case rel => exact ⟨k + 1, by go_num, (by show k + 1 ≤ l.length; omega), (by rw [HM.out]; exact hA.out), hK.out⟩
          case measure => simp [intOf]; omega
      · have hj' : ¬ (k : Int) < (l.length : Int) := by omega
        obtain rfl : k = l.length := by have := hk.out; omega
        have HNU := Lib.hid (numbers_any 8 31 [.pointer (some ⟨w1.heap.size, 0, none⟩)] (fun p => if namesB l (p : Int) = true then 1 else 0) r wr (by omega)
          (fun i => by split <;> omega) HR.out (fun args W => enters_of Try.func31 (by kernel_rfl) rfl args W)
          (fun p W hp kW => by
            refine params1 w1.heap.size p _ _ W (hA.out.kp kW) ?_ (markP_len l l.length)
            rw [markP_at hp, List.take_length]
            split <;> rfl))
        go_wp2_with fail
        refine (Hid.out HNU).mono ?_; rintro e w2 ⟨A', c', rfl, o2, k2⟩
        have O2 := Lib.hid o2
        have K2 : Hid (Kp w w2) := KO.out.tr k2
        clear o2 k2
        go_wp2
        go_ret
        exact ⟨A', c', rfl, O2.out.weakG KO.out.size, K2.out⟩
end Go.Proofs.Ytklphpphgkbjoaa.Gz
