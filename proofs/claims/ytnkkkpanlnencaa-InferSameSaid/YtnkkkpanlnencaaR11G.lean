/- The document's layer 11: Few, Same, Shapes. -/
import Derived.Test.YtnkkkpanlnencaaR11F
namespace Go.Proofs.Ytnkkkpanlnencaa
open Go.RowKit Go.Proofs.ShM Go.Proofs.GrM Go.Proofs.InM
set_option linter.unusedVariables false
set_option maxHeartbeats 8000000

def fewL (l : List (List Int)) : Bool := l.all (fun s => decide (s.length ≤ 100)) && decide (l.length ≤ 10)
theorem rfew11_any (A : Option Addr) (c : Nat) (l : List (List Int)) (w : World) (h : RdL w A l) :
    Calls Try.prog 10 #[.slice A l.length c] w fun e w' => e = .returned (.bool (fewL l)) ∧ w' = w := by
  have hl := h.len
  have HRD := Lib.hid h
  obtain ⟨r, hr⟩ : ∃ r, r = fewL l := ⟨_, rfl⟩
  have HR := Lib.hid hr
  rw [← hr]
  clear hr h
  go_enter Try.func10, Try.ntmps10
  go_wp2
  go_loopw [3] (fun i wx => ∃ k : Nat, i = .int .i64 (k : Int) ∧ Hid (k ≤ l.length) ∧ Hid (r = ((l.drop k).all (fun s => decide (s.length ≤ 100)) && decide (l.length ≤ 10))) ∧ wx = w) (fun i _ => l.length - (intOf i).toNat)
  case atStart => exact ⟨0, rfl, Nat.zero_le _, HR.out, rfl⟩
  case round =>
    obtain ⟨k, rfl, hk, hT, rfl⟩ := hrel
    by_cases hj : k < l.length
    · have hj' : (k : Int) < (l.length : Int) := by omega
      obtain ⟨ad, t, P, e, rfl, hlt, ht, hc0, hN, _, _, _⟩ := HRD.out.at_ hj
      have hd : (l.drop k).all (fun s => decide (s.length ≤ 100)) = (decide (t.length ≤ 100) && (l.drop (k + 1)).all (fun s => decide (s.length ≤ 100))) := by rw [drop_of ht]; rfl
      obtain ⟨a, ha⟩ : ∃ a, a = t.length := ⟨_, rfl⟩
      rw [← ha] at hc0 hd
      have HD := Lib.hid hd
      clear hd ht hN ha
      by_cases h1 : a ≤ 100
      · have i1 : ¬ (100 : Int) < (a : Int) := by omega
        have HT2 : Hid (r = ((l.drop (k + 1)).all (fun s => decide (s.length ≤ 100)) && decide (l.length ≤ 10))) := by show r = _; rw [hT.out, HD.out]; simp [h1]
        go_wp2
        go_roundw
        case rel => exact ⟨k + 1, by go_num, (by show k + 1 ≤ l.length; omega), HT2.out, (by first | rfl | trivial)⟩
        case measure => simp [intOf]; omega
      · have i1 : (100 : Int) < (a : Int) := by omega
        have HT2 : Hid (r = false) := by show r = _; rw [hT.out, HD.out]; simp [h1]
        go_wp2
        go_ret
        exact ⟨by rw [HT2.out]; rfl, rfl⟩
    · have hj' : ¬ (k : Int) < (l.length : Int) := by omega
      have HT2 : Hid (r = decide (l.length ≤ 10)) := by show r = decide (l.length ≤ 10); rw [hT.out, List.drop_eq_nil_of_le (by omega)]; rfl
      by_cases h3 : (l.length : Int) ≤ 10
      · have HT3 : Hid (r = true) := by show r = true; rw [HT2.out, decide_eq_true_iff]; omega
        go_wp2
        go_ret
        exact ⟨by rw [HT3.out]; simp, rfl⟩
      · have HT3 : Hid (r = false) := by show r = false; rw [HT2.out, decide_eq_false_iff_not]; omega
        go_wp2
        go_ret
        exact ⟨by rw [HT3.out]; simp, rfl⟩
theorem quiet_same11 {A B : Option Addr} {a b : List Int} {c d n : Nat} {w : World} (h : Rd w A a) (g : Rd w B b) {r : Bool} (hr : (a == b) = r) :
    Calls Try.prog 15 #[.slice A a.length c, .slice B b.length d] (w.drewN n) fun e w'' => e = .returned (.bool r) ∧ ∃ m, w'' = w.drewN m :=
  (same_any A B c d a b (w.drewN n) (h.drewN n) (g.drewN n)).mono fun _ _ ⟨h1, k, h2⟩ => ⟨by rw [h1, hr], n + k, by rw [h2, World.drewN_drewN]⟩
theorem rsame11_any (A B : Option Addr) (c d : Nat) (xs ys : List (List Int)) (w : World) (h : RdL w A xs) (g : RdL w B ys) :
    Calls Try.prog 16 #[.slice A xs.length c, .slice B ys.length d] w fun e w' => e = .returned (.bool (xs == ys)) ∧ Kp w w' := by
  have hl := h.len
  have gl := g.len
  have H := Lib.hid h
  have G := Lib.hid g
  obtain ⟨r, hr⟩ : ∃ r, r = (xs == ys) := ⟨_, rfl⟩
  have HR : Hid (r = (xs.drop 0 == ys.drop 0)) := hr
  rw [← hr]
  by_cases hn : xs.length = ys.length
  · have t1 : ((xs.length : Int) != (ys.length : Int)) = false := by simp; omega
    have HN := Lib.hid hn
    clear hr h g hn
    go_enter Try.func16, Try.ntmps16
    go_wp2
    go_loopw [5] (fun i wx => ∃ k : Nat, i = .int .i64 (k : Int) ∧ Hid (k ≤ xs.length) ∧ Hid (r = (xs.drop k == ys.drop k)) ∧ Hid (Kp w wx)) (fun i _ => xs.length - (intOf i).toNat)
    case atStart => exact ⟨0, rfl, Nat.zero_le _, HR.out, Kp.refl _⟩
    case round =>
      obtain ⟨k, rfl, hk, hT, hK⟩ := hrel
      by_cases hj : k < xs.length
      · have hj' : (k : Int) < (xs.length : Int) := by omega
        have hj2 : k < ys.length := by have := HN.out; omega
        have hj3 : (k : Int) < (ys.length : Int) := by omega
        obtain ⟨ad, x, P, e, rfl, hlt, hx, hc0, rx, _, _, _⟩ := (H.out.kp hK.out).at_ hj
        obtain ⟨bd, y, Q, f, rfl, hlu, hy, hd0, ry, _, _, _⟩ := (G.out.kp hK.out).at_ hj2
        have hd : (xs.drop k == ys.drop k) = ((x == y) && (xs.drop (k + 1) == ys.drop (k + 1))) := by rw [drop_of hx, drop_of hy]; rfl
        have hxl := rx.len
        have hyl := ry.len
        obtain ⟨q, hq⟩ : ∃ q, (x == y) = q := ⟨_, rfl⟩
        have HS : Hid (∀ n, Calls Try.prog 15 #[.slice P x.length e, .slice Q y.length f] (wr.drewN n) fun e w'' => e = .returned (.bool q) ∧ ∃ m, w'' = wr.drewN m) := fun n => quiet_same11 rx ry hq
        have HC : Hid (∀ n, (wr.drewN n).cell? (ad.add k) = some (.slice P x.length e) ∧ (wr.drewN n).cell? (bd.add k) = some (.slice Q y.length f)) := fun n => ⟨hc0, hd0⟩
        rw [hq] at hd
        have HD := Lib.hid hd
        clear hd hq hx hy rx ry
        cases q with
        | true =>
          have HT2 : Hid (r = (xs.drop (k + 1) == ys.drop (k + 1))) := by show r = _; rw [hT.out, HD.out, Bool.true_and]
          go_wp2_with fail
          go_quiet ((go_at_call 15; exact HS.out _))
          go_wp2
          go_roundw
          case rel => exact ⟨k + 1, by go_num, (by show k + 1 ≤ xs.length; omega), HT2.out, hK.out.tr (Kp.drewN_ _ _)⟩
          case measure => simp [intOf]; omega
        | false =>
          have HT2 : Hid (r = false) := by show r = _; rw [hT.out, HD.out, Bool.false_and]
          go_wp2_with fail
          go_quiet ((go_at_call 15; exact HS.out _))
          go_wp2
          go_ret
          exact ⟨by rw [HT2.out]; rfl, hK.out.tr (Kp.drewN_ _ _)⟩
      · have hj' : ¬ (k : Int) < (xs.length : Int) := by omega
        have HT2 : Hid (r = true) := by show r = _; rw [hT.out, List.drop_eq_nil_of_le (by omega), List.drop_eq_nil_of_le (by have := HN.out; omega)]; rfl
        go_wp2
        go_ret
        exact ⟨by rw [HT2.out]; rfl, hK.out⟩
  · have t1 : ((xs.length : Int) != (ys.length : Int)) = true := by simp; omega
    have hv : r = false := by
      rw [hr]
      cases e : (xs == ys) with
      | false => rfl
      | true => exact absurd (congrArg List.length (by simpa using e)) hn
    subst hv
    clear hr h g hn
    go_enter Try.func16, Try.ntmps16
    go_wp2
    go_ret
    exact ⟨rfl, Kp.refl _⟩
end Go.Proofs.Ytnkkkpanlnencaa
