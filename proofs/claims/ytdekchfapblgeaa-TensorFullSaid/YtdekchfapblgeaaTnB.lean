/- The place of an index, the number there, and a tensor with another there: what each answers, and the document's. -/
import Derived.Test.YtdekchfapblgeaaTnA
import Derived.Deep.RegionWith
namespace Go.Proofs.Ytdekchfapblgeaa
open Go.RowKit Go.Proofs.ShM

namespace TnB
theorem pin_cases (s d t : List Int) : (∃ e : Int, (e = 30 ∨ e = 20) ∧ pinV s d t = (0, e)) ∨ ∃ k : Nat, k < d.length ∧ pinV s d t = ((k : Int), 0) ∧ tokV s d = true := by
  cases h : tokV s d with
  | false => exact .inl ⟨30, .inl rfl, by unfold pinV; rw [h]; rfl⟩
  | true =>
    obtain ⟨a, b⟩ := tok_iff.1 h
    have e : pinV s d t = placeV s t := by unfold pinV; rw [if_pos h]
    cases ht : inIdx s t with
    | false => exact .inl ⟨20, .inr rfl, by rw [e]; exact place_no (.inr ht)⟩
    | true =>
      obtain ⟨p0, p1, _⟩ := plc_in (ok_all a) ht
      refine .inr ⟨(plc s t).toNat, by omega, ?_, rfl⟩
      rw [e, place_yes a ht, Int.toNat_of_nonneg p0]
theorem at_yes {s d t : List Int} {k : Nat} {x : Int} (h : pinV s d t = ((k : Int), 0)) (hx : d[k]? = some x) : atV s d t = (x, 0) := by
  unfold atV; rw [h]; simp [hx]
theorem at_err {s d t : List Int} {e : Int} (h : pinV s d t = (0, e)) (he : e = 30 ∨ e = 20) : atV s d t = (0, e) := by
  unfold atV; rw [h]; rcases he with rfl | rfl <;> rfl
theorem with_yes {s d t : List Int} {k : Nat} (n : Int) (h : pinV s d t = ((k : Int), 0)) : withV s d t n = (s, d.set k n, 0) := by
  unfold withV; rw [h]; simp
theorem with_err {s d t : List Int} {e : Int} (n : Int) (h : pinV s d t = (0, e)) (he : e = 30 ∨ e = 20) : withV s d t n = ([], [], e) := by
  unfold withV; rw [h]; rcases he with rfl | rfl <;> rfl
theorem pin_no {s d : List Int} (t : List Int) (h : tokV s d = false) : pinV s d t = (0, 30) := by unfold pinV; rw [h]; rfl
theorem pin_is {s d : List Int} (t : List Int) (h : tokV s d = true) : pinV s d t = placeV s t := by unfold pinV; rw [h]; rfl
end TnB
/-- The number and the error, the answer being that. -/
theorem RetK.of {r : Int × Int} {n err : Int} {w w' : World} (h : r = (n, err)) (k : Kp w w') : RetK r.1 r.2 w (.returned (.tuple #[.int .i64 n, .int .i64 err])) w' := ⟨by rw [h], k⟩

set_option maxHeartbeats 1000000 in
theorem pin_any (A B C : Option Addr) (c d g : Nat) (s xs t : List Int) (w : World) (hA : Rd w A s) (hB : Rd w B xs) (hC : Rd w C t) :
    Calls Try.prog 33 #[.agg #[.slice A s.length c, .slice B xs.length d], .slice C t.length g] w (RetK (pinV s xs t).1 (pinV s xs t).2 w) := by
  have hl := hA.len
  have gl := hB.len
  have kl := hC.len
  have K0 : Hid (Kp w (w.alloc (.cells #[.slice A s.length c, .slice B xs.length d] 24))) := Kp.alloc_ _ _
  have HT := Lib.hid (tcheck_any A B c d s xs _ (hA.kp K0.out) (hB.kp K0.out))
  cases ht : tokV s xs with
  | false =>
    rw [ht] at HT
    have HF := Lib.hid (TnB.pin_no t ht)
    clear ht
    go_enter Try.func33, Try.ntmps33
    go_wp2_with fail
    refine (Calls.mono (Hid.out HT)) ?_; rintro e w1 ⟨rfl, k1⟩
    go_wp2
    go_ret2
    exact RetK.of HF.out (K0.out.tr k1)
  | true =>
    rw [ht] at HT
    have HF := Lib.hid (TnB.pin_is t ht)
    clear ht
    obtain ⟨p, hp⟩ : ∃ p, p = placeV s t := ⟨_, rfl⟩
    have HP : Hid (∀ W, Kp w W → Calls Try.prog 44 #[.slice A s.length c, .slice C t.length g] W (RetN p W)) := fun W k => by rw [hp]; exact place_any A C c g s t W (hA.kp k) (hC.kp k)
    rw [← hp] at HF
    clear hp
    go_enter Try.func33, Try.ntmps33
    go_wp2_with fail
    refine (Calls.mono (Hid.out HT)) ?_; rintro e w1 ⟨rfl, k1⟩
    have c0 : w1.cell? ⟨w.heap.size, 0, none⟩ = some (.slice A s.length c) := (k1.cell (p := ⟨w.heap.size, 0, none⟩) (by simp)).trans (World.cell?_alloc_at _ _ _ 0 rfl)
    have K1 := Lib.hid (K0.out.tr k1)
    clear k1
    go_wp2_with fail
    refine (Calls.mono (HP.out _ K1.out)) ?_; rintro e w2 ⟨rfl, n, rfl⟩
    go_wp2
    go_ret2
    exact RetK.of HF.out (K1.out.tr (Kp.drewN_ _ _))

set_option maxHeartbeats 1000000 in
theorem at_any (A B C : Option Addr) (c d g : Nat) (s xs t : List Int) (w : World) (hA : Rd w A s) (hB : Rd w B xs) (hC : Rd w C t) :
    Calls Try.prog 20 #[.agg #[.slice A s.length c, .slice B xs.length d], .slice C t.length g] w (RetK (atV s xs t).1 (atV s xs t).2 w) := by
  have hl := hA.len
  have gl := hB.len
  have kl := hC.len
  have K0 : Hid (Kp w (w.alloc (.cells #[.slice A s.length c, .slice B xs.length d] 24))) := Kp.alloc_ _ _
  have HT := Lib.hid (pin_any A B C c d g s xs t _ (hA.kp K0.out) (hB.kp K0.out) (hC.kp K0.out))
  rcases TnB.pin_cases s xs t with ⟨e, he, hp⟩ | ⟨k, hk, hp, _⟩
  · rw [hp] at HT
    have HF := Lib.hid (TnB.at_err hp he)
    clear hp
    rcases he with rfl | rfl
    all_goals
      go_enter Try.func20, Try.ntmps20
      go_wp2_with fail
      refine (Calls.mono (Hid.out HT)) ?_; rintro e w1 ⟨rfl, k1⟩
      go_wp2
      go_ret2
      exact RetK.of HF.out (K0.out.tr k1)
  · rw [hp] at HT
    obtain ⟨bd, x, rfl, hlt, hx, hc⟩ := hB.at_ hk
    have HF := Lib.hid (TnB.at_yes hp hx)
    clear hp hx
    go_enter Try.func20, Try.ntmps20
    go_wp2_with fail
    refine (Calls.mono (Hid.out HT)) ?_; rintro e w1 ⟨rfl, k1⟩
    have c0 : w1.cell? ⟨w.heap.size, 1, none⟩ = some (.slice (some bd) xs.length d) := (k1.cell (p := ⟨w.heap.size, 1, none⟩) (by simp)).trans (World.cell?_alloc_at _ _ _ 1 rfl)
    have c1 : w1.cell? (bd.add k) = some (.int .i64 x) := ((K0.out.tr k1).cell (by rw [block_of_add]; exact hlt)).trans hc
    have K1 := Lib.hid (K0.out.tr k1)
    clear k1 hc
    go_wp2
    go_ret2
    exact RetK.of HF.out K1.out

set_option maxHeartbeats 1000000 in
theorem rat_any (A B C : Option Addr) (c d g : Nat) (s xs t : List Int) (w : World) (hA : Rd w A s) (hB : Rd w B xs) (hC : Rd w C t) :
    Calls Try.prog 21 #[.agg #[.slice A s.length c, .slice B xs.length d], .slice C t.length g] w (RetK (atV s xs t).1 (atV s xs t).2 w) := by
  have hl := hA.len
  have gl := hB.len
  have kl := hC.len
  have K0 : Hid (Kp w (w.alloc (.cells #[.slice A s.length c, .slice B xs.length d] 24))) := Kp.alloc_ _ _
  have HT := Lib.hid (rtcheck_any A B c d s xs _ (hA.kp K0.out) (hB.kp K0.out))
  cases ht : tokV s xs with
  | false =>
    rw [ht] at HT
    have HF := Lib.hid (TnB.at_err (TnB.pin_no t ht) (.inl rfl))
    clear ht
    go_enter Try.func21, Try.ntmps21
    go_wp2_with fail
    refine (Calls.mono (Hid.out HT)) ?_; rintro e w1 ⟨rfl, k1⟩
    go_wp2
    go_ret2
    exact RetK.of HF.out (K0.out.tr k1)
  | true =>
    rw [ht] at HT
    obtain ⟨p, hp⟩ : ∃ p, p = placeV s t := ⟨_, rfl⟩
    have HP : Hid (∀ W, Kp w W → Calls Try.prog 34 #[.slice A s.length c, .slice C t.length g] W (RetK p.1 p.2 W)) := fun W k => by rw [hp]; exact rplace_any A C c g s t W (hA.kp k) (hC.kp k)
    rw [← TnB.pin_is t ht] at hp
    rcases TnB.pin_cases s xs t with ⟨e, he, h2⟩ | ⟨k, hk, h2, _⟩
    · have HF := Lib.hid (TnB.at_err h2 he)
      rw [h2] at hp
      subst hp
      clear h2 ht
      rcases he with rfl | rfl
      all_goals
        go_enter Try.func21, Try.ntmps21
        go_wp2_with fail
        refine (Calls.mono (Hid.out HT)) ?_; rintro e w1 ⟨rfl, k1⟩
        have c0 : w1.cell? ⟨w.heap.size, 0, none⟩ = some (.slice A s.length c) := (k1.cell (p := ⟨w.heap.size, 0, none⟩) (by simp)).trans (World.cell?_alloc_at _ _ _ 0 rfl)
        have K1 := Lib.hid (K0.out.tr k1)
        clear k1
        go_wp2_with fail
        refine (Calls.mono (HP.out _ K1.out)) ?_; rintro e w2 ⟨rfl, k2⟩
        go_wp2
        go_ret2
        exact RetK.of HF.out (K1.out.tr k2)
    · obtain ⟨bd, x, rfl, hlt, hx, hc⟩ := hB.at_ hk
      have HF := Lib.hid (TnB.at_yes h2 hx)
      rw [h2] at hp
      subst hp
      clear h2 hx ht
      go_enter Try.func21, Try.ntmps21
      go_wp2_with fail
      refine (Calls.mono (Hid.out HT)) ?_; rintro e w1 ⟨rfl, k1⟩
      have c0 : w1.cell? ⟨w.heap.size, 0, none⟩ = some (.slice A s.length c) := (k1.cell (p := ⟨w.heap.size, 0, none⟩) (by simp)).trans (World.cell?_alloc_at _ _ _ 0 rfl)
      have C2 : Hid (w1.cell? ⟨w.heap.size, 1, none⟩ = some (.slice (some bd) xs.length d) ∧ w.heap.size < w1.heap.size) := ⟨(k1.cell (p := ⟨w.heap.size, 1, none⟩) (by simp)).trans (World.cell?_alloc_at _ _ _ 1 rfl), by have := k1.size; simp at this; omega⟩
      have K1 := Lib.hid (K0.out.tr k1)
      clear k1
      go_wp2_with fail
      refine (Calls.mono (HP.out _ K1.out)) ?_; rintro e w2 ⟨rfl, k2⟩
      have c1 : w2.cell? ⟨w.heap.size, 1, none⟩ = some (.slice (some bd) xs.length d) := (k2.cell (p := ⟨w.heap.size, 1, none⟩) C2.out.2).trans C2.out.1
      have c3 : w2.cell? (bd.add k) = some (.int .i64 x) := ((K1.out.tr k2).cell (by rw [block_of_add]; exact hlt)).trans hc
      have K2 := Lib.hid (K1.out.tr k2)
      clear k2 hc c0
      go_wp2
      go_ret2
      exact RetK.of HF.out K2.out
end Go.Proofs.Ytdekchfapblgeaa
