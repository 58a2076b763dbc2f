/- The landed graph: Live. -/
import Derived.Test.YtklphpphgkbjoaaGrZh
namespace Go.Proofs.Ytklphpphgkbjoaa.Gz
open Go.RowKit Go.Proofs.ShM Go.Proofs.GrM
set_option linter.unusedVariables false
set_option linter.unusedSimpArgs false
set_option maxHeartbeats 8000000

def markL (acc : List Int) : List Int := (List.range 24).map fun i : Nat => if acc.contains (i : Int) = true then (1 : Int) else 0
theorem markL_len (acc : List Int) : (markL acc).length = 24 := by simp [markL]
theorem markL_at {acc : List Int} {p : Nat} (hp : p < 24) : (markL acc)[p]? = some (if acc.contains (p : Int) = true then (1 : Int) else 0) := by
  unfold markL
  rw [List.getElem?_map, List.getElem?_range hp]; rfl
theorem markL_snoc {acc : List Int} {q : Nat} (h : q < 24) : markL (acc ++ [(q : Int)]) = (markL acc).set q 1 := by
  apply List.ext_getElem?
  intro p
  by_cases hp : p < 24
  · rw [markL_at hp, List.getElem?_set, markL_len]
    by_cases e : q = p
    · subst e
      rw [if_pos rfl, if_pos h, if_pos (by simp)]
    · rw [if_neg e, markL_at hp]
      congr 2
      simp only [List.contains_append, eq_iff_iff, Bool.or_eq_true]
      simp
      omega
  · rw [List.getElem?_eq_none (by rw [markL_len]; omega), List.getElem?_eq_none (by rw [List.length_set, markL_len]; omega)]
theorem markL_nil : markL [] = List.replicate 24 0 := by
  unfold markL
  simp [List.range, List.range.loop, List.replicate]
theorem upTo_num (acc : List Int) : ∀ k, numbersV k (fun p => if acc.contains (p : Int) = true then 1 else 0) = upTo k acc
  | 0 => by simp [numbersV, upTo]
  | k + 1 => by
    rw [numbersV_succ, upTo_succ, upTo_num acc k]
    congr 1
    split <;> rfl
theorem args_in {l : List Nd} (h : checkB l = true) {k : Nat} {t : Nd} (hn : l[k]? = some t) : ∀ a ∈ t.2.1, 0 ≤ a ∧ a < (k : Int) := fun a ha => (node_iff.1 ((check_iff.1 h).2.2 k t hn)).2.2.2.1 a ha
set_option maxRecDepth 100000 in
theorem live_z (A : Option Addr) (c m : Nat) (l : List Nd) (r : List Int) (w : World) (h : RdG w A l) (hc1 : l.length ≤ c) (hc2 : c ≤ 9223372036854775807) (hm : m = l.length) (hr : liveV l = r) :
    Calls Try.prog 22 #[.slice A m c] w (RetOg r w) := by
  subst hm
  have hl := h.len
  have HC := Lib.hid (check_z A c l.length l (checkB l) w h hc1 hc2 rfl rfl)
  have HRD := Lib.hid h
  clear h
  cases hck : checkB l with
  | false =>
    rw [hck] at HC
    have hv : r = [] := by rw [← hr]; unfold liveV; rw [if_neg (by simp [hck])]
    subst hv
    clear hck hr
    go_enter Try.func22, Try.ntmps22
    go_wp2_with fail
    refine (Hid.out HC).mono ?_; rintro e w1 ⟨rfl, k1⟩
    have K1 := Lib.hid k1
    clear k1
    go_wp2
    go_ret
    exact ⟨none, 0, rfl, Own.nil_ _ _, K1.out⟩
  | true =>
    rw [hck] at HC
    have hl24 : l.length ≤ 24 := (check_iff.1 hck).2.1
    have hl1 : 1 ≤ l.length := (check_iff.1 hck).1
    have HAI : Hid (∀ (k : Nat) (t : Nd), l[k]? = some t → ∀ a ∈ t.2.1, 0 ≤ a ∧ a < (k : Int)) := fun k t hn => args_in hck hn
    obtain ⟨S, hS⟩ : ∃ S, S = liveA l := ⟨_, rfl⟩
    have HS0 : Hid (S = liveS l l.length [(l.length : Int) - 1]) := hS
    have HR : Hid (r = numbersV l.length (fun p => if S.contains (p : Int) = true then 1 else 0)) := by
      show r = _
      rw [upTo_num, hS, ← hr]; unfold liveV; rw [if_pos hck]
    obtain ⟨last, hlast⟩ : ∃ last, last + 1 = l.length := ⟨l.length - 1, by omega⟩
    have hw1 : IntKind.i64.wrap ((l.length : Int) - 1) = (last : Int) := by rw [IntKind.wrap_i64]; omega
    have hl24' : (last : Int) < 24 := by omega
    have hlast0 : last < 24 := by omega
    have hzero : (List.replicate 24 (0 : Int)).map (Value.int .i64) = [.int .i64 0, .int .i64 0, .int .i64 0, .int .i64 0, .int .i64 0, .int .i64 0, .int .i64 0, .int .i64 0, .int .i64 0, .int .i64 0, .int .i64 0, .int .i64 0, .int .i64 0, .int .i64 0, .int .i64 0, .int .i64 0, .int .i64 0, .int .i64 0, .int .i64 0, .int .i64 0, .int .i64 0, .int .i64 0, .int .i64 0, .int .i64 0] := rfl
    have HZ := Lib.hid hzero
    clear hck hr hS hzero
    go_enter Try.func22, Try.ntmps22
    go_wp2_with fail
    refine (Hid.out HC).mono ?_; rintro e w1 ⟨rfl, k1⟩
    have K1 := Lib.hid k1
    clear k1 HC
    have A0 : Hid (Ai 46 (w1.alloc (.cells (([.int .i64 0, .int .i64 0, .int .i64 0, .int .i64 0, .int .i64 0, .int .i64 0, .int .i64 0, .int .i64 0, .int .i64 0, .int .i64 0, .int .i64 0, .int .i64 0, .int .i64 0, .int .i64 0, .int .i64 0, .int .i64 0, .int .i64 0, .int .i64 0, .int .i64 0, .int .i64 0, .int .i64 0, .int .i64 0, .int .i64 0, .int .i64 0] : List Value).set last (.int .i64 1)).toArray 46)) w1.heap.size (markL [(l.length : Int) - 1])) := by
      show Ai _ _ _ _
      have e1 : markL [(l.length : Int) - 1] = (List.replicate 24 (0 : Int)).set last 1 := by
        rw [show (l.length : Int) - 1 = (last : Int) by omega, show ([(last : Int)] : List Int) = [] ++ [(last : Int)] from rfl, markL_snoc hlast0, markL_nil]
      have h := Ai.new (t := 46) w1 ((List.replicate 24 (0 : Int)).set last 1)
      rw [List.map_set, HZ.out] at h
      rw [e1]
      exact h
    have KA : Hid (Kp w1 (w1.alloc (.cells (([.int .i64 0, .int .i64 0, .int .i64 0, .int .i64 0, .int .i64 0, .int .i64 0, .int .i64 0, .int .i64 0, .int .i64 0, .int .i64 0, .int .i64 0, .int .i64 0, .int .i64 0, .int .i64 0, .int .i64 0, .int .i64 0, .int .i64 0, .int .i64 0, .int .i64 0, .int .i64 0, .int .i64 0, .int .i64 0, .int .i64 0, .int .i64 0] : List Value).set last (.int .i64 1)).toArray 46))) := Kp.alloc_ _ _
    have HLA := Lib.hid hlast
    clear hlast
    go_wp2
    go_loopw [17] (fun i wx => ∃ (b k : Nat) (acc : List Int), i = .int .i64 (b : Int) ∧ Hid (b + k = l.length) ∧ Hid (S = liveS l k acc) ∧ Hid (Ai 46 wx w1.heap.size (markL acc)) ∧ Hid (Kp w1 wx)) (fun i _ => l.length - (intOf i).toNat)
    case atStart => exact ⟨0, l.length, _, rfl, Nat.zero_add _, HS0.out, A0.out, KA.out⟩
    case round =>
      obtain ⟨b, k, acc, rfl, hbk, hT, hA, hK⟩ := hrel
      have KO : Hid (Kp w wr) := K1.out.tr hK.out
      match k, hbk, hT with
      | 0, hbk, hT =>
        obtain rfl : b = l.length := by have := hbk.out; omega
        have HSA : Hid (S = acc) := hT.out
        have HNU := Lib.hid (numbers_any l.length 33 [.pointer (some ⟨w1.heap.size, 0, none⟩)] (fun p => if S.contains (p : Int) = true then 1 else 0) r wr (by omega)
          (fun i => by split <;> omega) HR.out (fun args W => enters_of Try.func33 (by kernel_rfl) rfl args W)
          (fun p W hp kW => by
            refine live1 w1.heap.size p _ _ W (hA.out.kp kW) ?_ (markL_len acc)
            rw [markL_at (by omega), ← HSA.out]
            split <;> rfl))
        clear hT hbk
        go_wp2_with fail
        refine (Hid.out HNU).mono ?_; rintro e w2 ⟨A', c', rfl, o2, k2⟩
        have O2 := Lib.hid o2
        have K2 : Hid (Kp w w2) := KO.out.tr k2
        clear o2 k2
        go_wp2
        go_ret
        exact ⟨A', c', rfl, O2.out.weakG KO.out.size, K2.out⟩
      | k + 1, hbk, hT =>
        have hb1 : b < l.length := by have := hbk.out; omega
        have hk1 : k < l.length := by have := hbk.out; omega
        have hj' : (b : Int) < (l.length : Int) := by omega
        have hw2 : IntKind.i64.wrap ((last : Int) - (b : Int)) = (k : Int) := by rw [IntKind.wrap_i64]; have := hbk.out; have := HLA.out; omega
        have hk24 : (k : Int) < 24 := by omega
        have hk24' : k < 24 := by omega
        have HBK : Hid (b + 1 + k = l.length) := by show b + 1 + k = _; have := hbk.out; omega
        obtain ⟨ad, t, P, e, Q, f, rfl, hlt0, ht, _, hc10, _, hN, _, _⟩ := HRD.out.at_ hk1
        have hc1 := (KO.out.cell (p := ⟨(ad.add (k * 3)).block, (ad.add (k * 3)).off + 1, none⟩) (by rw [block_of_add]; exact hlt0)).trans hc10
        have hlt := Nat.lt_of_lt_of_le hlt0 KO.out.size
        clear hc10
        have hgt := getD_at ht
        have hT' : Hid (S = liveS l k (if acc.contains (k : Int) = true then acc ++ t.2.1 else acc)) := by show S = _; rw [hT.out, liveS, hgt]
        have hcm := hA.out.cell (markL_at (acc := acc) hk24')
        have HAR := Lib.hid (HAI.out k t ht)
        clear hgt hT hbk
        obtain ⟨q, hq⟩ : ∃ q, q = acc.contains (k : Int) := ⟨_, rfl⟩
        rw [← hq] at hT' hcm
        clear hq
        cases q with
        | false =>
          have HT2 : Hid (S = liveS l k acc) := by show S = _; have := hT'.out; simpa using this
          simp only [Bool.false_eq_true, if_false] at hcm
          clear hT' ht hN
          go_wp2
          go_roundw
          case rel => exact ⟨b + 1, k, acc, by go_num, HBK.out, HT2.out, hA.out, hK.out⟩
          case measure => simp [intOf]; omega
        | true =>
          obtain ⟨args, ha⟩ : ∃ args, args = t.2.1 := ⟨_, rfl⟩
          have HT2 : Hid (S = liveS l k (acc ++ args)) := by show S = _; have := hT'.out; rw [ha]; simpa using this
          simp only [if_true] at hcm
          rw [← ha] at hc1 hN HAR
          obtain ⟨n0, hn0⟩ : ∃ n0, n0 = args.length := ⟨_, rfl⟩
          rw [← hn0] at hc1
          have HN := Lib.hid hN.ra
          have HN0 := Lib.hid hn0
          have hnl : n0 ≤ 9223372036854775807 := by rw [hn0]; exact hN.ra.len
          obtain ⟨wo, hwo⟩ : ∃ wo, wo = wr := ⟨_, rfl⟩
          subst hwo
          have HA0 : Hid (Ai 46 wo w1.heap.size (markL (acc ++ args.take 0))) := by show Ai _ _ _ _; rw [List.take_zero, List.append_nil]; exact hA.out
          clear hT' ht hN ha hn0 hA
          go_wp2
          go_loopw [35] (fun i wx => ∃ j : Nat, i = .int .i64 (j : Int) ∧ Hid (j ≤ n0) ∧ Hid (Ai 46 wx w1.heap.size (markL (acc ++ args.take j))) ∧ Hid (Kp w1 wx)) (fun i _ => n0 - (intOf i).toNat)
          case atStart => exact ⟨0, rfl, Nat.zero_le _, HA0.out, hK.out⟩
          case round =>
            obtain ⟨j, rfl, hj2, hA2, hK2⟩ := hrel
            by_cases hq : j < n0
            · have hq' : (j : Int) < (n0 : Int) := by omega
              have KW2 := Lib.hid (K1.out.tr hK2.out)
              obtain ⟨ae, x, rfl, hlt3, hx, hc3⟩ := (HN.out.kp KW2.out).at_ (show j < args.length by rw [← HN0.out]; exact hq)
              obtain ⟨h0, h1⟩ := HAR.out x (List.mem_of_getElem? hx)
              obtain ⟨y, rfl⟩ : ∃ y : Nat, x = (y : Int) := ⟨x.toNat, by omega⟩
              have hy : y < 24 := by omega
              have i3 : (y : Int) < 24 := by omega
              have HM : Hid (markL (acc ++ args.take (j + 1)) = (markL (acc ++ args.take j)).set y 1) := by
                show _ = _
                rw [List.take_add_one, hx, ← List.append_assoc]
                exact markL_snoc hy
              have u0 := hA2.out.froz y
              have HA3 := Lib.hid (hA2.out.set_ y 1)
              have HK3 : Hid (Kp w1 (wr.setCell ⟨w1.heap.size, y, none⟩ (.int .i64 1))) := hK2.out.setCell (p := ⟨w1.heap.size, y, none⟩) (Nat.le_refl _) _
              have hlt4 := hA2.out.lt
              have hcl := hA2.out.cell (markL_at hy)
              clear hx h1
              go_wp2
              go_roundw
              case rel => exact ⟨j + 1, by go_num, (by show j + 1 ≤ n0; omega), (by rw [HM.out]; exact HA3.out), HK3.out⟩
              case measure => simp [intOf]; omega
            · have hq' : ¬ (j : Int) < (n0 : Int) := by omega
              have HA3 : Hid (Ai 46 wr w1.heap.size (markL (acc ++ args))) := by
                have := hA2.out
                rw [List.take_of_length_le (by rw [← HN0.out]; omega)] at this
                exact this
              go_wp2
              go_roundw
              case rel => exact ⟨b + 1, k, acc ++ args, by go_num, HBK.out, HT2.out, HA3.out, hK2.out⟩
              case measure => simp [intOf]; omega
end Go.Proofs.Ytklphpphgkbjoaa.Gz
