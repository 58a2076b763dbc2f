/- The landed graph: an array of ints; Params, Inputs, Uses, Live. -/
import Derived.Test.YtklphpphgkbjoaaGrZe
import Derived.Test.YtklphpphgkbjoaaGrZf
namespace Go.Proofs.Ytklphpphgkbjoaa.Gz
open Go.RowKit Go.Proofs.ShM Go.Proofs.GrM
set_option linter.unusedVariables false
set_option linter.unusedSimpArgs false
set_option maxHeartbeats 8000000

theorem heap_setA {W : World} {b : Nat} {cs : Array Value} {t : TypeId} (h : W.heap[b]? = some (.cells cs t (0, 0))) (i : Nat) (x : Value) : (W.setCell ⟨b, i, none⟩ x).heap[b]? = some (.cells (cs.setIfInBounds i x) t (0, 0)) := by
  obtain ⟨hlt, hk⟩ := Array.getElem?_eq_some_iff.1 h
  show (W.heap.modify b _)[b]? = _
  rw [Array.getElem?_eq_getElem (by rw [Array.size_modify]; exact hlt), Array.getElem_modify_self, hk]
  rfl
/-- Block b is an array of these ints. -/
def Ai (t : TypeId) (W : World) (b : Nat) (xs : List Int) : Prop := W.heap[b]? = some (.cells (xs.map (Value.int .i64)).toArray t (0, 0))
section
variable {t : TypeId} {W W' : World} {b k : Nat} {xs : List Int} {v u : Int}
theorem Ai.lt (h : Ai t W b xs) : b < W.heap.size := (Array.getElem?_eq_some_iff.1 h).1
theorem Ai.kp (h : Ai t W b xs) (kw : Kp W W') : Ai t W' b xs := (kw.block b h.lt).trans h
theorem Ai.cell (h : Ai t W b xs) (hk : xs[k]? = some v) : W.cell? ⟨b, k, none⟩ = some (.int .i64 v) := by simp [World.cell?, show W.heap[b]? = _ from h, hk]
theorem Ai.froz (h : Ai t W b xs) (i : Nat) : W.frozen? ⟨b, i, none⟩ = false := by simp [World.frozen?, show W.heap[b]? = _ from h]
theorem Ai.new (W : World) (xs : List Int) : Ai t (W.alloc (.cells (xs.map (Value.int .i64)).toArray t)) W.heap.size xs := World.alloc_heap_new W _
theorem Ai.set_ (h : Ai t W b xs) (k : Nat) (u : Int) : Ai t (W.setCell ⟨b, k, none⟩ (.int .i64 u)) b (xs.set k u) := by
  have := heap_setA h k (.int .i64 u)
  unfold Ai
  rw [this]
  simp [List.map_set]
end
theorem clone_g (A : Option Addr) (c : Nat) (xs : List Int) (w : World) (h : Rd w A xs) (hs : xs.length ≤ 1000000) :
    Calls Try.prog 25 #[.slice A xs.length c] w (RetOg xs w) := by
  have qT : ∀ (w : World) (a : Option Addr) (n c : Nat), (binOp .eql 25 (.slice a n c) (.slice none 0 0)).run Try.prog w = .ok (.bool a.isNone) w := fun w a n c => Lib.run_eql_slice_nil w _ _ a n c 0 0 Try.underlying25
  cases A with
  | none =>
    obtain rfl : xs = [] := by
      cases xs with
      | nil => rfl
      | cons x xs => obtain ⟨ad, e, _⟩ := h.2 (by simp); cases e
    go_enter Try.func25, Try.ntmps25
    go_wp2
    go_ret
    exact ⟨none, 0, rfl, Own.nil_ _ _, Kp.refl _⟩
  | some ad =>
    go_enter Try.func25, Try.ntmps25
    go_wp2_with (at_builtin; refine wpList_app rfl (.tmp 5) (.tmp 6) rfl _ [] rfl (Own.zero w (Nat.le_refl _)) (some ad) c xs _ rfl rfl (h.alloc_ _) (by simpa using hs) (by simp) ?_; intro z1 A1 c1 w1 HZ o1 b1; have K1 := Lib.hid ((Kp.alloc_ w _).trans b1); have R1 := Lib.hid o1; clear o1 b1)
    go_ret
    have hz : z1 = xs := by have := HZ.out; simpa using this
    subst hz
    exact ⟨A1, c1, rfl, R1.out, K1.out⟩

/-- The closures that read an array. -/
theorem params1 (b k : Nat) (xs : List Int) (v : Int) (W : World) (h : Ai 44 W b xs) (hk : xs[k]? = some v) (hl : xs.length = 8) :
    Calls Try.prog 31 #[.int .i64 (k : Int), .pointer (some ⟨b, 0, none⟩)] W fun e W' => e = .returned (.int .i64 v) ∧ Kp W W' := by
  have hc := h.cell hk
  have hk8 : k < 8 := by have := (List.getElem?_eq_some_iff.1 hk).1; omega
  have i2 : (k : Int) < 8 := by omega
  clear hk h hl
  go_enter Try.func31, Try.ntmps31
  go_wp2
  go_ret
  exact ⟨rfl, Kp.refl _⟩
theorem live1 (b k : Nat) (xs : List Int) (v : Int) (W : World) (h : Ai 46 W b xs) (hk : xs[k]? = some v) (hl : xs.length = 24) :
    Calls Try.prog 33 #[.int .i64 (k : Int), .pointer (some ⟨b, 0, none⟩)] W fun e W' => e = .returned (.int .i64 v) ∧ Kp W W' := by
  have hc := h.cell hk
  have hk8 : k < 24 := by have := (List.getElem?_eq_some_iff.1 hk).1; omega
  have i2 : (k : Int) < 24 := by omega
  clear hk h hl
  go_enter Try.func33, Try.ntmps33
  go_wp2
  go_ret
  exact ⟨rfl, Kp.refl _⟩
theorem uses1 (A P : Option Addr) (m c b b2 i n d : Nat) (l : List Nd) (args : List Int) (x : Int) (W : World) (hb : Boxed W b 22 (.slice A m c)) (hx : Boxed W b2 3 (.int .i64 x)) (hl : RdG W A l) (hm : m = l.length) (t : Nd) (ht : l[i]? = some t) (hn : t.2.1.length ≤ 100) (r : Nat) (hr : r = (t.2.1.filter (· == x)).length) :
    Calls Try.prog 32 #[.int .i64 (i : Int), .pointer (some ⟨b, 0, none⟩), .pointer (some ⟨b2, 0, none⟩)] W fun e W' => e = .returned (.int .i64 (r : Int)) ∧ Kp W W' := by
  have c1 := hb.cell
  have c2 := hx.cell
  have hi : i < l.length := (List.getElem?_eq_some_iff.1 ht).1
  obtain ⟨ad, t', P, e, Q, g, rfl, hlt, ht', _, hc1, _, hN, _, _⟩ := hl.at_ hi
  obtain rfl : t = t' := by rw [ht] at ht'; injection ht'
  have hi2 : (i : Int) < (m : Int) := by omega
  obtain ⟨args, ha⟩ : ∃ args, args = t.2.1 := ⟨_, rfl⟩
  rw [← ha] at hc1 hN hr hn
  obtain ⟨n0, hn0⟩ : ∃ n0, n0 = args.length := ⟨_, rfl⟩
  rw [← hn0] at hc1 hn
  have HN0 := Lib.hid hn0
  have HN := Lib.hid hN.ra
  have H0 : Hid (r = 0 + ((args.drop 0).filter (· == x)).length) := by show r = _; rw [hr, List.drop_zero, Nat.zero_add]
  have hml : m ≤ 9223372036854775807 := by rw [hm]; exact hl.len
  clear hr hn0 hN ht ht' ha hm hb hx hl hi
  go_enter Try.func32, Try.ntmps32
  go_wp2
  go_loopw [5, 14] (fun v j wx => ∃ (q k : Nat), v = .int .i64 (q : Int) ∧ j = .int .i64 (k : Int) ∧ Hid (k ≤ n0) ∧ q ≤ k ∧ Hid (r = q + ((args.drop k).filter (· == x)).length) ∧ wx = W) (fun _ j _ => n0 - (intOf j).toNat)
  case atStart => exact ⟨0, 0, rfl, rfl, Nat.zero_le _, Nat.zero_le _, H0.out, rfl⟩
  case round =>
    obtain ⟨q, k, rfl, rfl, hk, hqk, hT, rfl⟩ := hrel
    by_cases hj : k < n0
    · have hj' : (k : Int) < (n0 : Int) := by omega
      obtain ⟨ae, y, rfl, hlt3, hy, hc3⟩ := HN.out.at_ (show k < args.length by rw [← HN0.out]; exact hj)
      obtain ⟨hbb, ee⟩ := List.getElem?_eq_some_iff.1 hy
      by_cases hxy : y = x
      · have e1 : (y == x) = true := by simpa using hxy
        have HT2 : Hid (r = (q + 1) + ((args.drop (k + 1)).filter (· == x)).length) := by
          show r = _
          rw [hT.out, List.drop_eq_getElem_cons hbb, ee, List.filter_cons_of_pos (by simpa using hxy), List.length_cons]; omega
        clear hy ee hxy
        go_wp2
        go_roundw
        case rel => exact ⟨q + 1, k + 1, by go_num, by go_num, (by show k + 1 ≤ n0; omega), by omega, HT2.out, (by first | rfl | trivial)⟩
        case measure => simp [intOf]; omega
      · have e1 : (y == x) = false := by simpa using hxy
        have HT2 : Hid (r = q + ((args.drop (k + 1)).filter (· == x)).length) := by
          show r = _
          rw [hT.out, List.drop_eq_getElem_cons hbb, ee, List.filter_cons_of_neg (by simpa using hxy)]
        clear hy ee hxy
        go_wp2
        go_roundw
        case rel => exact ⟨q, k + 1, rfl, by go_num, (by show k + 1 ≤ n0; omega), by omega, HT2.out, (by first | rfl | trivial)⟩
        case measure => simp [intOf]; omega
    · have hj' : ¬ (k : Int) < (n0 : Int) := by omega
      have HT2 : Hid (r = q) := by show r = q; rw [hT.out, List.drop_eq_nil_of_le (by rw [← HN0.out]; omega)]; simp
      go_wp2
      go_ret
      exact ⟨by rw [HT2.out]; rfl, Kp.refl _⟩
end Go.Proofs.Ytklphpphgkbjoaa.Gz
