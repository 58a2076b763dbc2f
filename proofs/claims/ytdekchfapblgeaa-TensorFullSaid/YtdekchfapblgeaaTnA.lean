/- Check of layer 3, and the document's; Few; slices.Clone: what each answers. -/
import Derived.Test.YtdekchfapblgeaaTnShape
import Derived.Test.YtdekchfapblgeaaTnLawM
namespace Go.Proofs.Ytdekchfapblgeaa
open Go.RowKit Go.Proofs.ShM

namespace TnA
theorem tok_no {s d : List Int} (h : okS s = false) : tokV s d = false := by unfold tokV; rw [h]; rfl
theorem tok_is {s d : List Int} (h : okS s = true) : tokV s d = ((d.length : Int) == sizeV s) := by
  unfold tokV; rw [h, Bool.eq_iff_iff]; simp
end TnA

/-- A callee that leaves the world as it is, within a region that draws. -/
theorem quiet_same {f : FuncId} {args : Array Value} {w : World} {n : Nat} {v : Value} (h : Calls Try.prog f args (w.drewN n) fun e w' => e = .returned v ∧ w.drewN n = w') :
    Calls Try.prog f args (w.drewN n) fun e w'' => e = .returned v ∧ ∃ m, w'' = w.drewN m := h.mono fun _ _ ⟨he, hm⟩ => ⟨he, n, hm.symm⟩

set_option maxHeartbeats 1000000 in
theorem tcheck_any (A B : Option Addr) (c d : Nat) (s xs : List Int) (w : World) (h : Rd w A s) (g : Rd w B xs) :
    Calls Try.prog 22 #[.agg #[.slice A s.length c, .slice B xs.length d]] w fun e w' => e = .returned (.bool (tokV s xs)) ∧ Kp w w' := by
  have hl := h.len
  have gl := g.len
  have HC : Hid (∀ W, Kp w W → Calls Try.prog 25 #[.slice A s.length c] W fun e w' => e = .returned (.bool (okS s)) ∧ W = w') := fun W k => check_any A c s W (h.kp k)
  have HS : Hid (∀ W, Kp w W → Calls Try.prog 29 #[.slice A s.length c] W fun e w' => e = .returned (.int .i64 (sizeV s)) ∧ W = w') := fun W k => size_any A c s W (h.kp k)
  have K0 : Hid (Kp w (w.alloc (.cells #[.slice A s.length c, .slice B xs.length d] 24))) := Kp.alloc_ _ _
  cases ho : okS s with
  | false =>
    rw [ho] at HC
    have HF := Lib.hid (TnA.tok_no (d := xs) ho)
    clear ho
    go_enter Try.func22, Try.ntmps22
    go_wp2
    go_quiet ((go_at_call 25; exact quiet_same (HC.out _ (K0.out.tr (Kp.drewN_ _ _)))))
    go_wp2
    go_ret
    exact ⟨ret_bool HF.out.symm, K0.out.tr (Kp.drewN_ _ _)⟩
  | true =>
    rw [ho] at HC
    have HF := Lib.hid (TnA.tok_is (d := xs) ho)
    clear ho
    go_enter Try.func22, Try.ntmps22
    go_wp2
    go_quiet (first | (go_at_call 25; exact quiet_same (HC.out _ (K0.out.tr (Kp.drewN_ _ _)))) | (go_at_call 29; exact quiet_same (HS.out _ (K0.out.tr (Kp.drewN_ _ _)))))
    go_wp2
    go_ret
    exact ⟨ret_bool HF.out.symm, K0.out.tr (Kp.drewN_ _ _)⟩

set_option maxHeartbeats 1000000 in
theorem rtcheck_any (A B : Option Addr) (c d : Nat) (s xs : List Int) (w : World) (h : Rd w A s) (g : Rd w B xs) :
    Calls Try.prog 23 #[.agg #[.slice A s.length c, .slice B xs.length d]] w fun e w' => e = .returned (.bool (tokV s xs)) ∧ Kp w w' := by
  have hl := h.len
  have gl := g.len
  have HC : Hid (∀ W, Kp w W → Calls Try.prog 31 #[.slice A s.length c] W fun e w' => e = .returned (.bool (okS s)) ∧ W = w') := fun W k => rcheck_any A c s W (h.kp k)
  have HS : Hid (∀ W, Kp w W → Calls Try.prog 32 #[.slice A s.length c] W fun e w' => e = .returned (.int .i64 (sizeV s)) ∧ W = w') := fun W k => rsize_any A c s W (h.kp k)
  have K0 : Hid (Kp w (w.alloc (.cells #[.slice A s.length c, .slice B xs.length d] 24))) := Kp.alloc_ _ _
  cases ho : okS s with
  | false =>
    rw [ho] at HC
    have HF := Lib.hid (TnA.tok_no (d := xs) ho)
    clear ho
    go_enter Try.func23, Try.ntmps23
    go_wp2_with (go_at_call 31; refine (Calls.mono (HC.out _ K0.out)) ?_; rintro e w' ⟨rfl, rfl⟩)
    go_quiet (fail)
    go_wp2
    go_ret
    exact ⟨ret_bool HF.out.symm, K0.out.tr (Kp.drewN_ _ _)⟩
  | true =>
    rw [ho] at HC
    have HF := Lib.hid (TnA.tok_is (d := xs) ho)
    clear ho
    go_enter Try.func23, Try.ntmps23
    go_wp2_with (go_at_call 31; refine (Calls.mono (HC.out _ K0.out)) ?_; rintro e w' ⟨rfl, rfl⟩)
    go_quiet ((go_at_call 32; exact quiet_same (HS.out _ (K0.out.tr (Kp.drewN_ _ _)))))
    go_wp2
    go_ret
    exact ⟨ret_bool HF.out.symm, K0.out.tr (Kp.drewN_ _ _)⟩

/-- At most a hundred of each. -/
def fewV (n m : Nat) : Bool := decide (n ≤ 100) && decide (m ≤ 100)
set_option maxHeartbeats 400000 in
theorem few_any (A B : Option Addr) (c d n m : Nat) (w : World) (h : n ≤ 9223372036854775807) (g : m ≤ 9223372036854775807) :
    Calls Try.prog 10 #[.agg #[.slice A n c, .slice B m d]] w fun e w' => e = .returned (.bool (fewV n m)) ∧ Kp w w' := by
  have K0 : Hid (Kp w (w.alloc (.cells #[.slice A n c, .slice B m d] 24))) := Kp.alloc_ _ _
  by_cases h1 : n ≤ 100
  · have HF : Hid (decide ((m : Int) ≤ 100) = fewV n m) := by show _ = fewV n m; unfold fewV; simp [h1]; omega
    go_enter Try.func10, Try.ntmps10
    go_wp2
    go_ret
    exact ⟨ret_bool HF.out, K0.out⟩
  · have HF : Hid (fewV n m = false) := by show fewV n m = false; unfold fewV; simp [h1]
    go_enter Try.func10, Try.ntmps10
    go_wp2
    go_ret
    exact ⟨ret_bool HF.out.symm, K0.out⟩

/-- The answer is a list of the call's own. -/
def RetO (xs : List Int) (w : World) (e : Ending) (w' : World) : Prop := ∃ A c, e = .returned (.slice A xs.length c) ∧ Own w.heap.size w' (.slice A xs.length c) xs ∧ Kp w w'
set_option maxHeartbeats 1000000 in
theorem clone_any (A : Option Addr) (c : Nat) (xs : List Int) (w : World) (h : Rd w A xs) (hs : xs.length ≤ 1000000) :
    Calls Try.prog 30 #[.slice A xs.length c] w (RetO xs w) := by
  have qT : ∀ (w : World) (a : Option Addr) (n c : Nat), (binOp .eql 22 (.slice a n c) (.slice none 0 0)).run Try.prog w = .ok (.bool a.isNone) w := fun w a n c => Lib.run_eql_slice_nil w _ _ a n c 0 0 Try.underlying22
  cases A with
  | none =>
    obtain rfl : xs = [] := by
      cases xs with
      | nil => rfl
      | cons x xs => obtain ⟨ad, e, _⟩ := h.2 (by simp); cases e
    go_enter Try.func30, Try.ntmps30
    go_wp2
    go_ret
    exact ⟨none, 0, rfl, Own.nil_ _ _, Kp.refl _⟩
  | some ad =>
    go_enter Try.func30, Try.ntmps30
    go_wp2_with (at_builtin; refine wpList_app rfl (.tmp 5) (.tmp 6) rfl _ [] rfl (Own.zero w (Nat.le_refl _)) (some ad) c xs _ rfl rfl (h.alloc_ _) (by simpa using hs) (by simp) ?_; intro z1 A1 c1 w1 HZ o1 b1; have K1 := Lib.hid ((Kp.alloc_ w _).trans b1); have R1 := Lib.hid o1; clear o1 b1)
    go_ret
    have hz : z1 = xs := by have := HZ.out; simpa using this
    subst hz
    exact ⟨A1, c1, rfl, R1.out, K1.out⟩
end Go.Proofs.Ytdekchfapblgeaa
