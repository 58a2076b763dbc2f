/- Check and Size of layer 2, and the document's: what each answers. -/
import Derived.Test.YtdekchfapblgeaaShMem
namespace Go.Proofs.Ytdekchfapblgeaa
open Go.RowKit Go.Proofs.ShM

namespace ShA
/-- What holds at each round's head: the first k sides may be, and their product. -/
def Rel (xs : List Int) (p : Int) (k : Nat) : Prop := k ≤ xs.length ∧ (xs.take k).all sideB = true ∧ p = prodS (xs.take k)
theorem start (xs : List Int) : Rel xs 1 0 := ⟨Nat.zero_le _, rfl, rfl⟩
theorem bnd {xs : List Int} {p : Int} {k : Nat} (h : Rel xs p k) (h3 : xs.length ≤ 3) : 1 ≤ p ∧ p ≤ 4096 := by
  obtain ⟨_, h2, rfl⟩ := h
  exact ⟨prod_pos h2, prod_le3 h2 (by have := List.length_take_le k xs; omega)⟩
theorem bnd2 {xs : List Int} {p : Int} {k : Nat} (h : Rel xs p k) (h3 : xs.length ≤ 3) (hk : k < xs.length) : 1 ≤ p ∧ p ≤ 256 := by
  obtain ⟨_, h2, rfl⟩ := h
  exact ⟨prod_pos h2, prod_le2 h2 (by rw [List.length_take]; omega)⟩
theorem mulb {p x : Int} (h : 1 ≤ p ∧ p ≤ 256) (h1 : 1 ≤ x) (h2 : x ≤ 16) : 1 ≤ p * x ∧ p * x ≤ 4096 := by
  have a := Int.mul_le_mul h.1 h1 (by omega) (by omega)
  have b := Int.mul_le_mul h.2 h2 (by omega) (by omega)
  omega
theorem step {xs : List Int} {p x : Int} {k : Nat} (h : Rel xs p k) (hx : xs[k]? = some x) (h1 : 1 ≤ x) (h2 : x ≤ 16) : Rel xs (p * x) (k + 1) := by
  obtain ⟨_, hb, rfl⟩ := h
  have hk := (List.getElem?_eq_some_iff.1 hx).1
  exact ⟨hk, by rw [all_take_of hx, hb, sideB_iff.2 ⟨h1, h2⟩]; rfl, by rw [take_of hx, prod_snoc]⟩
theorem bad {xs : List Int} {x : Int} {k : Nat} (hx : xs[k]? = some x) (h : x < 1 ∨ 16 < x) : sizeV xs = 0 :=
  size_side (all_false_of hx (by unfold sideB; rw [decide_eq_false]; omega))
theorem all_ {xs : List Int} {p : Int} {k : Nat} (h : Rel xs p k) (hk : k = xs.length) : xs.all sideB = true ∧ p = prodS xs := by
  obtain ⟨_, hb, rfl⟩ := h
  subst hk
  rw [List.take_length] at *
  exact ⟨hb, rfl⟩
end ShA

set_option maxHeartbeats 400000 in
theorem size_any (A : Option Addr) (c : Nat) (xs : List Int) (w : World) (h : Rd w A xs) :
    Calls Try.prog 29 #[.slice A xs.length c] w fun e w' => e = .returned (.int .i64 (sizeV xs)) ∧ w = w' := by
  have hl := h.len
  by_cases h3 : 3 < xs.length
  · have HF := Lib.hid (size_long h3)
    go_enter Try.func29, Try.ntmps29
    go_wp2
    go_ret
    exact ⟨ret_int HF.out.symm, rfl⟩
  · go_enter Try.func29, Try.ntmps29
    go_wp2
    go_loop [3, 5, 11] (fun p _ i => ∃ (k : Nat) (q : Int), i = .int .i64 k ∧ p = .int .i64 q ∧ Hid (ShA.Rel xs q k)) (fun _ _ i => xs.length - (intOf i).toNat)
    case atStart => exact ⟨0, 1, rfl, rfl, ShA.start xs⟩
    case round =>
      obtain ⟨k, q, rfl, rfl, hr⟩ := hrel
      have hb := ShA.bnd hr.out (by omega)
      by_cases hk : k < xs.length
      · have hb2 := ShA.bnd2 hr.out (by omega) hk
        obtain ⟨ad, x, rfl, _, hx, hc⟩ := h.at_ hk
        have HX := Lib.hid hx
        clear hx
        by_cases hx1 : x < 1
        · have HF := Lib.hid (ShA.bad HX.out (.inl hx1))
          clear hb2
          go_wp2
          go_ret
          exact ⟨ret_int HF.out.symm, rfl⟩
        · by_cases hx2 : 16 < x
          · have HF := Lib.hid (ShA.bad HX.out (.inr hx2))
            clear hb2
            go_wp2
            go_ret
            exact ⟨ret_int HF.out.symm, rfl⟩
          · have hb3 := ShA.mulb hb2 (show 1 ≤ x by omega) (show x ≤ 16 by omega)
            clear hb2
            go_wp2
            go_round
            case rel => exact ⟨k + 1, q * x, by go_num, rfl, ShA.step hr.out HX.out (by omega) (by omega)⟩
            case measure => simp [intOf]; omega
      · have hk' : k = xs.length := by have := hr.out.1; omega
        obtain ⟨ha, hp⟩ := ShA.all_ hr.out hk'
        have HA := Lib.hid (And.intro ha hp); clear ha hp
        have HK := Lib.hid hk'; clear hk'
        by_cases hq : 64 < q
        all_goals
          go_wp2
          go_ret
          refine ⟨ret_int ?_, rfl⟩
        · rw [size_big (by rw [← HA.out.2]; exact hq)]
        · rw [size_fit (by omega) HA.out.1 (by rw [← HA.out.2]; omega), ← HA.out.2]

theorem check_any (A : Option Addr) (c : Nat) (xs : List Int) (w : World) (h : Rd w A xs) :
    Calls Try.prog 25 #[.slice A xs.length c] w fun e w' => e = .returned (.bool (okS xs)) ∧ w = w' := by
  have H := Lib.hid h; clear h
  go_enter Try.func25, Try.ntmps25
  go_wp2_with fail
  refine (size_any _ _ _ _ H.out).mono ?_; rintro e w' ⟨rfl, rfl⟩
  go_wp2
  go_ret
  exact ⟨ret_bool size_pos, rfl⟩
end Go.Proofs.Ytdekchfapblgeaa
