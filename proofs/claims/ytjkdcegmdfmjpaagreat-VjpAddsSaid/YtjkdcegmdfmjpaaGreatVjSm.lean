import Derived.Test.YtjkdcegmdfmjpaaGreatTk
import Derived.Test.YtjkdcegmdfmjpaaGreatVjC
set_option maxHeartbeats 16000000
set_option maxRecDepth 100000
set_option linter.unusedVariables false
set_option linter.unusedSimpArgs false
namespace Go.Proofs.YtjkdcegmdfmjpaaGreat
open Go.RowKit Go.Proofs.ShM Go.Proofs.GrM Go.Proofs.InM Go.Proofs.ImM Go.Proofs.EvM
def in40 (x : Int) : Bool := decide (-1099511627776 ≤ x ∧ x ≤ 1099511627776)
def smallT (t : T) : Bool := t.2.all in40 && (decide (t.1.length ≤ 100) && decide (t.2.length ≤ 100))
def Sk (r : Bool) (t : T) (k : Nat) : Prop := ((t.2.drop k).all in40 && (decide (t.1.length ≤ 100) && decide (t.2.length ≤ 100))) = r
theorem sk_start {t : T} {r : Bool} (h : smallT t = r) : Sk r t 0 := h
theorem sk_bad {r : Bool} {t : T} {k : Nat} {x : Int} (h : Sk r t k) (hx : t.2[k]? = some x) (hb : in40 x = false) : r = false := by
 obtain ⟨hlt, e⟩ := List.getElem?_eq_some_iff.1 hx
 unfold Sk at h
 rw [List.drop_eq_getElem_cons hlt, e, List.all_cons, hb] at h
 exact h.symm
theorem sk_step {r : Bool} {t : T} {k : Nat} {x : Int} (h : Sk r t k) (hx : t.2[k]? = some x) (hb : in40 x = true) : Sk r t (k + 1) := by
 obtain ⟨hlt, e⟩ := List.getElem?_eq_some_iff.1 hx
 unfold Sk at h
 rw [List.drop_eq_getElem_cons hlt, e, List.all_cons, hb, Bool.true_and] at h
 exact h
theorem sk_end {r : Bool} {t : T} {k : Nat} (h : Sk r t k) (hk : ¬ k < t.2.length) : r = (decide (t.1.length ≤ 100) && decide (t.2.length ≤ 100)) := by
 unfold Sk at h
 rw [List.drop_of_length_le (by omega), List.all_nil, Bool.true_and] at h
 exact h.symm
theorem small_any14 (P Q : Option Addr) (e f n m : Nat) (t : T) (w : World) (h : TR w P t.1 Q t.2) (hn : n = t.1.length) (hm : m = t.2.length) {r : Bool} (hr : smallT t = r) :
  Calls Tryz.prog 14 #[.agg #[.slice P n e, .slice Q m f]] w fun e w' => e = .returned (.bool r) ∧ Kp w w' := by
 have F1 : Hid (Bk (w.alloc (.cells #[.slice P n e, .slice Q m f] 27)) w.heap.size P n e Q m f) := Bk.new rfl
 have K0 : Hid (Kp w (w.alloc (.cells #[.slice P n e, .slice Q m f] 27))) := Kp.alloc_ _ _
 have HR := lH (h.kp K0.out)
 have HS : Hid (Sk r t 0) := sk_start hr
 have bn : n ≤ 9223372036854775807 := by rw [hn]; exact h.s.len
 have bm : m ≤ 9223372036854775807 := by rw [hm]; exact h.d.len
 have HNM := lH (And.intro hn hm)
 obtain ⟨W1, hW1⟩ := eX (w.alloc (.cells #[.slice P n e, .slice Q m f] 27))
 have p0 := F1.out.c0
 have p1 := F1.out.c1
 rw [← hW1] at F1 HR K0 p0 p1
 have HW1 := lH hW1
 clear h hn hm hr hW1
 go_enter Tryz.func14, Tryz.ntmps14
 go_upto_region 1 with fail
 rw [← HW1.out]
 go_wp2
 go_loopw [3] (fun i wx => ∃ k : Nat, i = .int .i64 (k : Int) ∧ Hid (k ≤ m) ∧ Hid (Sk r t k) ∧ wx = W1) (fun i _ => m - (intOf i).toNat)
 case atStart => exact ⟨0, rfl, Nat.zero_le _, HS.out, rfl⟩
 case round =>
  obtain ⟨k, rfl, hk, hS, rfl⟩ := hrel
  by_cases hkm : k < m
  ·have hk1 : (k : Int) < (m : Int) := by omega
   obtain ⟨ad, x, rfl, hlt, hx, hcx⟩ := HR.out.d.at_ (k := k) (by rw [← HNM.out.2]; exact hkm)
   cases hb : in40 x with
   | false =>
    obtain rfl : r = false := sk_bad hS.out hx hb
    by_cases h1 : x < -1099511627776
    ·clear hb hx
     go_wp2
     go_ret
     exact ⟨rfl, K0.out⟩
    ·have h2 : 1099511627776 < x := by
      unfold in40 at hb
      simp at hb
      omega
     clear hb hx
     go_wp2
     go_ret
     exact ⟨rfl, K0.out⟩
   | true =>
    have HT := lH (sk_step hS.out hx hb)
    have hb2 : -1099511627776 ≤ x ∧ x ≤ 1099511627776 := by unfold in40 at hb; simpa using hb
    have h1 : ¬ x < -1099511627776 := by omega
    have h2 : ¬ 1099511627776 < x := by omega
    clear hb hx hb2
    go_wp2
    go_roundw
    case rel => exact ⟨k + 1, by go_num, (by show k + 1 ≤ m; omega), HT.out, (by first | rfl | trivial)⟩
    case measure => simp [intOf]; omega
  ·have hk1 : ¬ (k : Int) < (m : Int) := by omega
   have he := sk_end hS.out (by rw [← HNM.out.2]; exact hkm)
   rw [← HNM.out.1, ← HNM.out.2] at he
   by_cases h1 : n ≤ 100
   ·by_cases h2 : m ≤ 100
    ·have g1 : (n : Int) ≤ 100 := by omega
     have g2 : (m : Int) ≤ 100 := by omega
     obtain rfl : r = true := by rw [he]; simp [h1, h2]
     clear he
     go_wp2
     go_ret
     exact ⟨rfl, K0.out⟩
    ·have g1 : (n : Int) ≤ 100 := by omega
     have g2 : ¬ (m : Int) ≤ 100 := by omega
     obtain rfl : r = false := by rw [he]; simp [h2]
     clear he
     go_wp2
     go_ret
     exact ⟨rfl, K0.out⟩
   ·have g1 : ¬ (n : Int) ≤ 100 := by omega
    obtain rfl : r = false := by rw [he]; simp [h1]
    clear he
    go_wp2
    go_ret
    exact ⟨rfl, K0.out⟩
theorem small_facts {t : T} (h : smallT t = true) : t.1.length ≤ 100 ∧ t.2.length ≤ 100 ∧ Bd t.2 := by
 unfold smallT at h
 simp only [Bool.and_eq_true, List.all_eq_true, decide_eq_true_eq] at h
 refine ⟨h.2.1, h.2.2, fun i => ?_⟩
 rw [List.getD_eq_getElem?_getD]
 cases e : t.2[i]? with
 | none => decide
 | some x =>
  have := h.1 x (List.mem_of_getElem? e)
  unfold in40 at this
  simpa using this
end Go.Proofs.YtjkdcegmdfmjpaaGreat
