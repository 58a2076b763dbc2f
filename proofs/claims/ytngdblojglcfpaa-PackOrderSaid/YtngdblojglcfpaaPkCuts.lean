/- A list's bytes that are cut are none, and a list has one byte more than its numbers: the law's call returns true. -/
import Derived.Test.YtngdblojglcfpaaPkC
namespace Go.Proofs.Ytngdblojglcfpaa
open Go.RowKit Go.Proofs.ShM Go.Proofs.PkM
set_option linter.unusedVariables false

theorem B8.Rd.take_ {W : World} {A : Option Addr} {xs : List Int} (h : B8.Rd W A xs) (k : Nat) : B8.Rd W A (xs.take k) :=
  ⟨by rw [List.length_take]; have := h.1; omega, fun hp => by
    rw [List.length_take] at hp
    obtain ⟨ad, e, hb, hc⟩ := h.2 (by omega)
    refine ⟨ad, e, hb, fun j u hu => hc j u ?_⟩
    rw [List.getElem?_take] at hu
    split at hu
    · exact hu
    · cases hu⟩
theorem list_cases (b l : List Int) (size : Int) : (∃ r, listV b l size = (r, 0)) ∨ listV b l size = ([], 40) := by
  unfold listV
  split
  · exact Or.inl ⟨_, rfl⟩
  · exact Or.inr rfl
theorem byte_app {a b : List Int} (h : Bytes a) (g : Bytes b) : Bytes (a ++ b) := fun x hx => by
  rcases List.mem_append.1 hx with hx | hx
  · exact h x hx
  · exact g x hx
theorem all_bytes (l : List Int) (k : Nat) : Bytes (allB l k) := fun x hx => by
  unfold allB at hx
  obtain ⟨n, _, hn⟩ := List.mem_flatMap.1 hx
  exact byte_bytes k n x hn
theorem list_bytes {b l r : List Int} {size : Int} (hb : Bytes b) (h : listV b l size = (r, 0)) : Bytes r := by
  obtain ⟨h1, _, _, rfl⟩ := list_is h
  refine byte_app (byte_app hb fun x hx => ?_) (all_bytes _ _)
  rw [List.mem_singleton] at hx
  subst hx; omega

set_option maxHeartbeats 4000000 in
theorem pcuts_walk (C : PkC) (A : Option Addr) (c : Nat) (l : List Int) (size cut : Int) (w : World) (hA : Rd w A l) (hl : I64l l) (hs : I64 size) (g0 : 0 ≤ cut) (g1 : cut ≤ 65535) :
    Calls Try.prog 5 #[.slice A l.length c, .int .i64 size, .int .u16 cut] w fun e w' => e = .returned (.bool true) ∧ Kp w w' := by
  have hlA := hA.len
  have HAW := Lib.hid (pkawake_any C)
  by_cases f0 : 300 < l.length
  · have f1 : (300 : Int) < (l.length : Int) := by omega
    clear f0 C hA hl hs
    go_enter Try.func5, Try.ntmps5
    go_wp2_with fail
    refine (HAW.out _).mono ?_; rintro e0 w1 ⟨rfl, k1⟩
    go_wp2
    go_ret
    exact ⟨rfl, k1⟩
  · have f1 : ¬ (300 : Int) < (l.length : Int) := by omega
    rcases list_cases [] l size with ⟨r, hr⟩ | hr
    · have hrl := list_len hr
      obtain ⟨h255, hsz, _, _⟩ := list_is hr
      have hs8 := siz_cases hsz
      obtain ⟨N, hN⟩ : ∃ N, N = r.length := ⟨_, rfl⟩
      have hm0 : 0 ≤ size * (l.length : Int) ∧ size * (l.length : Int) ≤ 2040 := by
        rcases hs8 with rfl | rfl | rfl <;> omega
      have hN1 : 1 ≤ N ∧ N ≤ 2041 := by omega
      obtain ⟨q, hq⟩ : ∃ q : Nat, cut % (N : Int) = (q : Int) := ⟨(cut % (N : Int)).toNat, by have := Int.emod_nonneg cut (show (N : Int) ≠ 0 by omega); omega⟩
      have hqN : q < N := by have := Int.emod_lt_of_pos cut (show (0 : Int) < N by omega); omega
      have hcut := list_cut hr (k := q) (by omega)
      have htl : (r.take q).length = q := by rw [List.length_take]; omega
      have CL : Hid (∀ W, Kp w W → Calls Try.prog 11 #[.slice none 0 0, .slice A l.length c, .int .i64 size] W (RetB r 0 N W)) := fun W k =>
        C.list none A 0 c 0 l.length [] l size r 0 N W (B8.Rd.nil _ _) (by simp) (by simp) (by simp) (fun _ h => by cases h) (hA.kp k) (by omega) hl hs rfl rfl hr hN.symm
      have CT : Hid (∀ W B d, B8.Rd W B r → r.length ≤ d ∧ d ≤ 9223372036854775807 → Calls Try.prog 12 #[.slice B q d, .int .i64 size] W (RetLB [] [] 40 0 0 W)) := fun W B d rb hd =>
        C.takeList B d q (r.take q) size [] [] 40 0 0 W (rb.take_ q) (by omega) hd.2 (by omega) (fun x hx => list_bytes (fun _ h => by cases h) hr x (List.mem_of_mem_take hx)) hs htl.symm hcut rfl rfl
      have t1 : Int.tmod cut (N : Int) = (q : Int) := by rw [IntWalk.rem_in _ _ g0]; exact hq
      obtain ⟨z, hz⟩ : ∃ z, z = size * (l.length : Int) := ⟨_, rfl⟩
      have w1 : IntKind.i64.wrap (size * (l.length : Int)) = z := by rw [hz]; exact IntWalk.i64_in _ (by omega)
      have w2 : IntKind.i64.wrap (1 + z) = (N : Int) := by rw [IntWalk.i64_in _ (by omega)]; omega
      have n0 : ¬ (N : Int) = 0 := by omega
      have j1 : (0 : Int) ≤ (q : Int) := by omega
      have j2 : q ≤ N := by omega
      have HN2 := Lib.hid (And.intro hN hqN)
      clear hcut htl hrl h255 hsz hs8 hN hm0 hN1 hq hqN hz f0 C hA hl hs hr
      go_enter Try.func5, Try.ntmps5
      go_wp2_with fail
      refine (HAW.out _).mono ?_; rintro e0 w1 ⟨rfl, k1⟩
      have K := Lib.hid k1
      clear k1
      go_wp2_with fail
      refine (CL.out _ K.out).mono ?_; rintro e0 w2 ⟨B, d, rfl, rb, hd, k2⟩
      have K := Lib.hid (K.out.tr k2)
      have j3 : q ≤ d := by have h1 := HN2.out.1; have h2 := HN2.out.2; have h3 := hd.out.1; omega
      clear k2
      go_wp2_with fail
      refine (CT.out _ _ _ rb.out hd.out).mono ?_; rintro e0 w3 ⟨A3, c3, B3, d3, rfl, _, _, _, k3⟩
      have K := Lib.hid (K.out.tr k3)
      clear k3
      go_wp2
      go_ret
      exact ⟨rfl, K.out⟩
    · have CL : Hid (∀ W, Kp w W → Calls Try.prog 11 #[.slice none 0 0, .slice A l.length c, .int .i64 size] W (RetB [] 40 0 W)) := fun W k =>
        C.list none A 0 c 0 l.length [] l size [] 40 0 W (B8.Rd.nil _ _) (by simp) (by simp) (by simp) (fun _ h => by cases h) (hA.kp k) (by omega) hl hs rfl rfl hr rfl
      clear f0 C hA hl hs hr
      go_enter Try.func5, Try.ntmps5
      go_wp2_with fail
      refine (HAW.out _).mono ?_; rintro e0 w1 ⟨rfl, k1⟩
      have K := Lib.hid k1
      clear k1
      go_wp2_with fail
      refine (CL.out _ K.out).mono ?_; rintro e0 w2 ⟨B, d, rfl, _, _, k2⟩
      have K := Lib.hid (K.out.tr k2)
      clear k2
      go_wp2
      go_ret
      exact ⟨rfl, K.out⟩
end Go.Proofs.Ytngdblojglcfpaa
