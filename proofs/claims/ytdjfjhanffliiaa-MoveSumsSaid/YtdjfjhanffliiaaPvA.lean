/- The program's small calls of layer 5 (move): a list turned in place, a list turned, a tensor's number at an index, whether there is such a side, a shape with another side. -/
import Derived.Test.YtdjfjhanffliiaaMvM
namespace Go.Proofs.ShM
/-- The first k and the last k of a list have changed places. -/
def Rv (xs : List Int) (k : Nat) (zs : List Int) : Prop := zs.length = xs.length ∧ 2 * k ≤ xs.length + 1 ∧ ∀ i, i < xs.length → zs[i]? = if i < k ∨ xs.length ≤ i + k then xs[xs.length - 1 - i]? else xs[i]?
theorem rv_start (xs : List Int) : Rv xs 0 xs := ⟨rfl, by omega, fun i hi => by rw [if_neg (by omega)]⟩
theorem rv_get {xs zs : List Int} {k m : Nat} (h : Rv xs k zs) (hm : k + m + 1 = xs.length) (hk : k < m) : ∃ a b, xs[k]? = some a ∧ xs[m]? = some b ∧ zs[k]? = some a ∧ zs[m]? = some b := by
  obtain ⟨h1, h2, h3⟩ := h
  refine ⟨xs[k]'(by omega), xs[m]'(by omega), List.getElem?_eq_getElem _, List.getElem?_eq_getElem _, ?_, ?_⟩
  · rw [h3 k (by omega), if_neg (by omega)]; exact List.getElem?_eq_getElem _
  · rw [h3 m (by omega), if_neg (by omega)]; exact List.getElem?_eq_getElem _
theorem rv_step {xs zs : List Int} {k m : Nat} {a b : Int} (h : Rv xs k zs) (hm : k + m + 1 = xs.length) (hk : k < m) (ha : xs[k]? = some a) (hb : xs[m]? = some b) : Rv xs (k + 1) ((zs.set k b).set m a) := by
  obtain ⟨h1, h2, h3⟩ := h
  refine ⟨by simpa using h1, by omega, fun i hi => ?_⟩
  by_cases e1 : i = m
  · subst e1
    rw [List.getElem?_set_self (by simp; omega), if_pos (by omega), ← ha]
    congr 1; omega
  · rw [List.getElem?_set_ne (by omega)]
    by_cases e2 : i = k
    · subst e2
      rw [List.getElem?_set_self (by omega), if_pos (by omega), ← hb]
      congr 1; omega
    · rw [List.getElem?_set_ne (by omega), h3 i hi]
      by_cases e3 : i < k ∨ xs.length ≤ i + k
      · rw [if_pos e3, if_pos (by omega)]
      · rw [if_neg e3, if_neg (by omega)]
theorem rv_end {xs zs : List Int} {k : Nat} (h : Rv xs k zs) (hk : ¬ (k : Int) < (xs.length : Int) - 1 - k) : zs = xs.reverse := by
  obtain ⟨h1, h2, h3⟩ := h
  apply List.ext_getElem?
  intro i
  by_cases hi : i < xs.length
  · rw [h3 i hi, List.getElem?_reverse hi]
    split
    · rfl
    · rename_i e
      congr 1; omega
  · rw [List.getElem?_eq_none (by omega), List.getElem?_eq_none (by simp; omega)]
end Go.Proofs.ShM
namespace Go.Proofs.Ytdjfjhanffliiaa
open Go.RowKit Go.Proofs.ShM
set_option linter.unusedVariables false

/-- The list has been turned in its place. -/
def RetR (B : Nat) (A : Option Addr) (n c : Nat) (xs : List Int) (w : World) (e : Ending) (w' : World) : Prop := (∃ v, e = .returned v) ∧ Own B w' (.slice A n c) xs.reverse ∧ Below B w w'

set_option maxHeartbeats 2000000 in
theorem rev_any (A : Option Addr) (c B : Nat) (xs : List Int) (w : World) (h : Own B w (.slice A xs.length c) xs) (hl : xs.length ≤ 1000) :
    Calls Try.prog 51 #[.slice A xs.length c] w (RetR B A xs.length c xs w) := by
  by_cases h0 : xs.length = 0
  · obtain rfl : xs = [] := List.eq_nil_of_length_eq_zero h0
    have HO := Lib.hid h
    clear h h0 hl
    go_enter Try.func51, Try.ntmps51
    go_wp2
    go_loopw [2, 3] (fun i j wr => i = .int .i64 0 ∧ j = .int .i64 (-1) ∧ wr = w) (fun _ _ _ => 0)
    case atStart => exact ⟨rfl, rfl, rfl⟩
    case round =>
      obtain ⟨rfl, rfl, rfl⟩ := hrel
      go_wp2
      go_end0
      exact ⟨⟨_, rfl⟩, HO.out, Below.refl _ _⟩
  · obtain ⟨g, rfl, hg1, hg2⟩ := h.addr (by omega)
    have HO := Lib.hid h
    have HS := Lib.hid (rv_start xs)
    have hn : 1 ≤ xs.length := by omega
    clear h h0
    go_enter Try.func51, Try.ntmps51
    go_wp2
    go_loopw [2, 3] (fun i j wr => ∃ (k : Nat) (zs : List Int), i = .int .i64 k ∧ j = .int .i64 ((xs.length : Int) - 1 - k) ∧ Hid (Rv xs k zs) ∧ Hid (Own B wr (.slice (some ⟨g, 0, none⟩) xs.length c) zs) ∧ Hid (Below B w wr)) (fun i _ _ => xs.length - (intOf i).toNat)
    case atStart => exact ⟨0, xs, rfl, by go_num, HS.out, HO.out, Below.refl _ _⟩
    case round =>
      obtain ⟨k, zs, rfl, rfl, hr, hown, hb⟩ := hrel
      have hk2 : 2 * k ≤ xs.length + 1 := hr.out.2.1
      by_cases hlt : (k : Int) < (xs.length : Int) - 1 - k
      · obtain ⟨m, hm⟩ : ∃ m : Nat, (xs.length : Int) - 1 - k = m := ⟨((xs.length : Int) - 1 - k).toNat, by omega⟩
        rw [hm] at hlt ⊢
        have hkm : k < m := by omega
        have hkm' : k + m + 1 = xs.length := by omega
        obtain ⟨a, b, ha, hbb, hza, hzb⟩ := rv_get hr.out hkm' hkm
        have HR2 := Lib.hid (rv_step hr.out hkm' hkm ha hbb)
        have e1 := hown.out.cell_ hza
        have e2 := hown.out.cell_ hzb
        have e3 := hown.out.froz_ k
        have e4 := hown.out.froz_ m
        have j1 : (0 : Int) ≤ (k : Int) := by omega
        have j2 : (k : Int) < (xs.length : Int) := by omega
        have j3 : (0 : Int) ≤ (m : Int) := by omega
        have j4 : (m : Int) < (xs.length : Int) := by omega
        have HM := Lib.hid hm
        clear ha hbb hza hzb hkm' hm
        have hne : ¬ k = m := by omega
        go_wp2
        go_region
        all_goals
          go_wp2
          go_roundw
          case rel =>
            have hmm := HM.out
            refine ⟨k + 1, (zs.set k b).set m a, by go_num, by go_num, HR2.out, ?_, ?_⟩
            · exact ((hown.out.drew).set_ k b).set_ m a
            · exact ((hb.out.drew).setCell (p := ⟨g, k, none⟩) hg1 _).setCell (p := ⟨g, m, none⟩) hg1 _
          case measure => simp [intOf]; omega
      · have HE := Lib.hid (rv_end hr.out hlt)
        go_wp2
        go_end0
        exact ⟨⟨_, rfl⟩, by rw [← HE.out]; exact hown.out, hb.out⟩

set_option maxHeartbeats 1000000 in
theorem pturned_any (A : Option Addr) (c : Nat) (l : List Int) (w : World) (h : Rd w A l) (hl : l.length ≤ 1000) :
    Calls Try.prog 32 #[.slice A l.length c] w (RetO l.reverse w) := by
  have HC := Lib.hid (clone_any A c l w h (by omega))
  have HL : Hid (l.length ≤ 1000) := hl
  clear h
  go_enter Try.func32, Try.ntmps32
  go_wp2_with fail
  refine HC.out.mono ?_; rintro e w1 ⟨A1, c1, rfl, o1, k1⟩
  have HK := Lib.hid k1
  have HR := Lib.hid (rev_any A1 c1 w.heap.size l w1 o1 HL.out)
  clear k1 o1
  go_wp2_with fail
  refine HR.out.mono ?_; rintro e w2 ⟨⟨v, rfl⟩, o2, b2⟩
  have HO := Lib.hid o2
  have HB := Lib.hid b2
  clear o2 b2
  go_wp2
  go_ret
  exact RetO.on (by simp) HO.out (HK.out.trans HB.out)

set_option maxHeartbeats 1000000 in
theorem pat_any (A B C : Option Addr) (c d g : Nat) (s xs t : List Int) (w : World) (hA : Rd w A s) (hB : Rd w B xs) (hC : Rd w C t) :
    Calls Try.prog 34 #[.agg #[.slice A s.length c, .slice B xs.length d], .slice C t.length g] w fun e w' => e = .returned (.int .i64 (atV s xs t).1) ∧ Kp w w' := by
  have K0 : Hid (Kp w (w.alloc (.cells #[.slice A s.length c, .slice B xs.length d] 24))) := Kp.alloc_ _ _
  have HT := Lib.hid (at_any A B C c d g s xs t _ (hA.kp K0.out) (hB.kp K0.out) (hC.kp K0.out))
  clear hA hB hC
  generalize (atV s xs t).1 = x at HT ⊢
  generalize (atV s xs t).2 = y at HT
  go_enter Try.func34, Try.ntmps34
  go_wp2_with fail
  refine (Calls.mono (Hid.out HT)) ?_; rintro e w1 ⟨rfl, k1⟩
  have K1 := Lib.hid (K0.out.tr k1)
  clear k1
  go_wp2
  go_ret
  exact ⟨rfl, K1.out⟩

set_option maxHeartbeats 1000000 in
theorem hasside_yes (A B : Option Addr) (c d n m : Nat) (axis : Int) (w : World) (h0 : 0 ≤ axis) (h1 : axis < (n : Int)) (hn : n ≤ 9223372036854775807) :
    Calls Try.prog 38 #[.agg #[.slice A n c, .slice B m d], .int .i64 axis] w fun e w' => e = .returned (.bool true) ∧ Kp w w' := by
  have K0 : Hid (Kp w (w.alloc (.cells #[.slice A n c, .slice B m d] 24))) := Kp.alloc_ _ _
  go_enter Try.func38, Try.ntmps38
  go_wp2
  go_ret
  exact ⟨rfl, K0.out⟩
set_option maxHeartbeats 1000000 in
theorem hasside_no (A B : Option Addr) (c d n m : Nat) (axis : Int) (w : World) (h0 : axis < 0 ∨ (n : Int) ≤ axis) (hn : n ≤ 9223372036854775807) :
    Calls Try.prog 38 #[.agg #[.slice A n c, .slice B m d], .int .i64 axis] w fun e w' => e = .returned (.bool false) ∧ Kp w w' := by
  have K0 : Hid (Kp w (w.alloc (.cells #[.slice A n c, .slice B m d] 24))) := Kp.alloc_ _ _
  by_cases hx : axis < 0
  · have hx' : ¬ 0 ≤ axis := by omega
    clear h0
    go_enter Try.func38, Try.ntmps38
    go_wp2
    go_ret
    exact ⟨rfl, K0.out⟩
  · have hx' : 0 ≤ axis := by omega
    have hy : ¬ axis < (n : Int) := by omega
    clear h0
    go_enter Try.func38, Try.ntmps38
    go_wp2
    go_ret
    exact ⟨rfl, K0.out⟩

set_option maxHeartbeats 1000000 in
theorem pwith_any (A : Option Addr) (c : Nat) (l : List Int) (k : Nat) (n : Int) (w : World) (h : Rd w A l) (hl : l.length ≤ 1000) (hk : k < l.length) :
    Calls Try.prog 39 #[.slice A l.length c, .int .i64 (k : Int), .int .i64 n] w (RetO (l.set k n) w) := by
  have HC := Lib.hid (clone_any A c l w h (by omega))
  have j1 : (0 : Int) ≤ (k : Int) := by omega
  have j2 : (k : Int) < (l.length : Int) := by omega
  clear h
  go_enter Try.func39, Try.ntmps39
  go_wp2_with fail
  refine HC.out.mono ?_; rintro e w1 ⟨A1, c1, rfl, o1, k1⟩
  obtain ⟨g, rfl, hg1, hg2⟩ := o1.addr (by omega)
  have HK := Lib.hid k1
  have HO := Lib.hid o1
  have e1 := HO.out.cell_ (List.getElem?_eq_getElem hk)
  have e2 := HO.out.froz_ k
  clear k1 o1
  go_wp2
  go_ret
  exact RetO.on (by simp) (HO.out.set_ k n) (HK.out.setCell (p := ⟨g, k, none⟩) hg1 _)
end Go.Proofs.Ytdjfjhanffliiaa
