/- The document's Check and Size of layer 2, and whether two lists are the same: what each answers. -/
import Derived.Test.YtdekchfapblgeaaShapeA
namespace Go.Proofs.Ytdekchfapblgeaa
open Go.RowKit Go.Proofs.ShM

set_option maxHeartbeats 400000 in
theorem rproduct_any (A : Option Addr) (c : Nat) (xs : List Int) (w : World) (h : Rd w A xs) (h3 : xs.length ≤ 3) (ha : Hid (xs.all sideB = true)) :
    Calls Try.prog 43 #[.slice A xs.length c] w fun e w' => e = .returned (.int .i64 (prodS xs)) ∧ w = w' := by
  go_enter Try.func43, Try.ntmps43
  go_wp2
  go_loop [3, 4] (fun p i => ∃ (k : Nat) (q : Int), i = .int .i64 k ∧ p = .int .i64 q ∧ Hid (ShA.Rel xs q k)) (fun _ i => xs.length - (intOf i).toNat)
  case atStart => exact ⟨0, 1, rfl, rfl, ShA.start xs⟩
  case round =>
    obtain ⟨k, q, rfl, rfl, hr⟩ := hrel
    by_cases hk : k < xs.length
    · have hb2 := ShA.bnd2 hr.out (by omega) hk
      obtain ⟨ad, x, rfl, _, hx, hc⟩ := h.at_ hk
      have hs := side_of ha.out hx
      have HX := Lib.hid hx
      clear hx
      have hb3 := ShA.mulb hb2 hs.1 hs.2
      clear hb2
      go_wp2
      go_round
      case rel => exact ⟨k + 1, q * x, by go_num, rfl, ShA.step hr.out HX.out hs.1 hs.2⟩
      case measure => simp [intOf]; omega
    · have hk' : k = xs.length := by have := hr.out.1; omega
      have HP := Lib.hid (ShA.all_ hr.out hk').2
      clear hk'
      go_wp2
      go_ret
      exact ⟨ret_int HP.out, rfl⟩

namespace ShB
theorem ok_long {s : List Int} (h : 3 < s.length) : okS s = false := by
  cases e : okS s with
  | false => rfl
  | true => have := (ok_iff.1 e).1; omega
theorem ok_side {s : List Int} {x : Int} {k : Nat} (hx : s[k]? = some x) (h : x < 1 ∨ 16 < x) : okS s = false := by
  cases e : okS s with
  | false => rfl
  | true => have := side_of (ok_iff.1 e).2.1 hx; omega
theorem ok_end {s : List Int} (h3 : s.length ≤ 3) (h : s.all sideB = true) : decide (prodS s ≤ 64) = okS s := by
  unfold okS; rw [h, decide_eq_true h3]; rfl
end ShB

set_option maxHeartbeats 400000 in
theorem rcheck_any (A : Option Addr) (c : Nat) (xs : List Int) (w : World) (h : Rd w A xs) :
    Calls Try.prog 31 #[.slice A xs.length c] w fun e w' => e = .returned (.bool (okS xs)) ∧ w = w' := by
  have hl := h.len
  by_cases h3 : 3 < xs.length
  · have HF := Lib.hid (ShB.ok_long h3)
    go_enter Try.func31, Try.ntmps31
    go_wp2
    go_ret
    exact ⟨ret_bool HF.out.symm, rfl⟩
  · go_enter Try.func31, Try.ntmps31
    go_wp2
    go_loop [3] (fun i => ∃ (k : Nat) (q : Int), i = .int .i64 k ∧ Hid (ShA.Rel xs q k)) (fun i => xs.length - (intOf i).toNat)
    case atStart => exact ⟨0, 1, rfl, ShA.start xs⟩
    case round =>
      obtain ⟨k, q, rfl, hr⟩ := hrel
      by_cases hk : k < xs.length
      · obtain ⟨ad, x, rfl, _, hx, hc⟩ := h.at_ hk
        have HX := Lib.hid hx
        clear hx
        by_cases hx1 : x < 1
        · have HF := Lib.hid (ShB.ok_side HX.out (.inl hx1))
          go_wp2
          go_ret
          exact ⟨ret_bool HF.out.symm, rfl⟩
        · by_cases hx2 : 16 < x
          · have HF := Lib.hid (ShB.ok_side HX.out (.inr hx2))
            go_wp2
            go_ret
            exact ⟨ret_bool HF.out.symm, rfl⟩
          · go_wp2
            go_round
            case rel => exact ⟨k + 1, q * x, by go_num, ShA.step hr.out HX.out (by omega) (by omega)⟩
            case measure => simp [intOf]; omega
      · have hk' : k = xs.length := by have := hr.out.1; omega
        have HA := Lib.hid (ShA.all_ hr.out hk').1
        have HK := Lib.hid hk'; clear hk'
        have H := Lib.hid h; clear h
        go_wp2_with fail
        refine (rproduct_any _ _ _ _ H.out (by omega) HA.out).mono ?_; rintro e w' ⟨rfl, rfl⟩
        go_wp2
        go_ret
        exact ⟨ret_bool (ShB.ok_end (by omega) HA.out), rfl⟩

set_option maxHeartbeats 400000 in
theorem rsize_any (A : Option Addr) (c : Nat) (xs : List Int) (w : World) (h : Rd w A xs) :
    Calls Try.prog 32 #[.slice A xs.length c] w fun e w' => e = .returned (.int .i64 (sizeV xs)) ∧ w = w' := by
  have H := Lib.hid h; clear h
  cases ho : okS xs with
  | true =>
    have HO := Lib.hid ho; clear ho
    have HC := Lib.hid (rcheck_any A c xs w H.out)
    rw [HO.out] at HC
    go_enter Try.func32, Try.ntmps32
    go_wp2_with fail
    refine (Calls.mono (Hid.out HC)) ?_; rintro e w' ⟨rfl, rfl⟩
    go_wp2_with fail
    refine (rproduct_any _ _ _ _ H.out (ok_iff.1 HO.out).1 (ok_iff.1 HO.out).2.1).mono ?_; rintro e w' ⟨rfl, rfl⟩
    go_wp2
    go_ret
    exact ⟨ret_int (size_ok HO.out).symm, rfl⟩
  | false =>
    have HO := Lib.hid ho; clear ho
    have HC := Lib.hid (rcheck_any A c xs w H.out)
    rw [HO.out] at HC
    go_enter Try.func32, Try.ntmps32
    go_wp2_with fail
    refine (Calls.mono (Hid.out HC)) ?_; rintro e w' ⟨rfl, rfl⟩
    go_wp2
    go_ret
    exact ⟨ret_int (size_no HO.out).symm, rfl⟩

namespace ShB
def Eqd (xs ys : List Int) (k : Nat) : Prop := k ≤ xs.length ∧ xs.take k = ys.take k
theorem eq_start (xs ys : List Int) : Eqd xs ys 0 := ⟨Nat.zero_le _, rfl⟩
theorem eq_step {xs ys : List Int} {k : Nat} {x : Int} (h : Eqd xs ys k) (hx : xs[k]? = some x) (hy : ys[k]? = some x) : Eqd xs ys (k + 1) :=
  ⟨(List.getElem?_eq_some_iff.1 hx).1, by rw [take_of hx, take_of hy, h.2]⟩
theorem eq_end {xs ys : List Int} (h : Eqd xs ys xs.length) (hl : xs.length = ys.length) : (xs == ys) = true := by
  have := h.2
  rw [List.take_length, hl, List.take_length] at this
  rw [this]; simp
theorem eq_bad {xs ys : List Int} {k : Nat} {x y : Int} (hx : xs[k]? = some x) (hy : ys[k]? = some y) (h : x ≠ y) : (xs == ys) = false := by
  rw [beq_eq_false_iff_ne]
  rintro rfl
  rw [hx] at hy
  exact h (Option.some.inj hy)
theorem eq_len {xs ys : List Int} (h : xs.length ≠ ys.length) : (xs == ys) = false := by
  rw [beq_eq_false_iff_ne]
  rintro rfl
  exact h rfl
end ShB

set_option maxHeartbeats 400000 in
theorem same_any (A B : Option Addr) (c d : Nat) (xs ys : List Int) (w : World) (h : Rd w A xs) (g : Rd w B ys) :
    Calls Try.prog 27 #[.slice A xs.length c, .slice B ys.length d] w fun e w' => e = .returned (.bool (xs == ys)) ∧ ∃ n, w' = w.drewN n := by
  have hl := h.len
  by_cases hn : xs.length = ys.length
  · have HN := Lib.hid hn
    have hle : ys.length ≤ 9223372036854775807 := by omega
    have e1 : ((xs.length : Int) != (ys.length : Int)) = false := by simp [hn]
    clear hn
    go_enter Try.func27, Try.ntmps27
    go_wp2
    go_loopw [5] (fun i wr => ∃ (k n : Nat), i = .int .i64 k ∧ wr = w.drewN n ∧ Hid (ShB.Eqd xs ys k)) (fun i _ => xs.length - (intOf i).toNat)
    case atStart => exact ⟨0, 0, rfl, rfl, ShB.eq_start _ _⟩
    case round =>
      obtain ⟨k, n, rfl, rfl, hr⟩ := hrel
      by_cases hk : k < xs.length
      · obtain ⟨ad, x, rfl, _, hx, hc⟩ := h.at_ hk
        obtain ⟨bd, y, rfl, _, hy, hcy⟩ := g.at_ (k := k) (by have := HN.out; omega)
        have HX := Lib.hid hx
        have HY := Lib.hid hy
        have hky : k < ys.length := by have := HN.out; omega
        have i1 : (0 : Int) ≤ (k : Int) := by omega
        have i2 : (k : Int) < (xs.length : Int) := by omega
        have i3 : (k : Int) < (ys.length : Int) := by omega
        clear hx hy e1
        by_cases hxy : x = y
        · subst hxy
          go_wp2
          go_quiet (fail)
          go_wp2
          go_roundw
          case rel => exact ⟨k + 1, _, by go_num, by first | rfl | exact World.drewN_drewN _ _ _, ShB.eq_step hr.out HX.out HY.out⟩
          case measure => simp [intOf]; omega
        · have e2 : (x != y) = true := by simpa using hxy
          have HF := Lib.hid (ShB.eq_bad HX.out HY.out hxy)
          clear hxy
          go_wp2
          go_quiet (fail)
          go_wp2
          go_ret
          exact ⟨ret_bool HF.out.symm, _, by first | rfl | exact World.drewN_drewN _ _ _⟩
      · have hk' : k = xs.length := by have := hr.out.1; omega
        have HF := Lib.hid (ShB.eq_end (hk' ▸ hr.out) HN.out)
        clear hk' e1
        go_wp2
        go_ret
        exact ⟨ret_bool HF.out.symm, _, rfl⟩
  · have HF := Lib.hid (ShB.eq_len hn)
    have e1 : ((xs.length : Int) != (ys.length : Int)) = true := by simp; omega
    clear hn
    go_enter Try.func27, Try.ntmps27
    go_wp2
    go_ret
    exact ⟨ret_bool HF.out.symm, 0, rfl⟩
end Go.Proofs.Ytdekchfapblgeaa
