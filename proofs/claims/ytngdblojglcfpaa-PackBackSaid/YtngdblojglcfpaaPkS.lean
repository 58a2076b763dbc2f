/- Layer 8 of the program: Take and TakeList: what each answers. -/
import Derived.Test.YtngdblojglcfpaaPkR
import Derived.Test.YtngdblojglcfpaaPkY
import Derived.Tactics
import Derived.Tactics2
import Derived.Defers
import Derived.Recover
import Derived.Laws.Pointers
namespace Go.Proofs.Ytngdblojglcfpaa
open Go.RowKit Go.Proofs.ShM Go.Proofs.PkM
set_option linter.unusedVariables false
set_option maxHeartbeats 4000000

set_option maxRecDepth 100000 in
theorem take_thrown (A : Option Addr) (m c : Nat) (bs : List Int) (size : Int) (w : World) (hA : B8.Rd w A bs) (hm : m = bs.length)
    (HB : Hid (∀ W, Kp w W → Calls Try.prog 19 #[.slice A bs.length c, .int .i64 size] W (RetT W.heap.size W))) :
    Calls Try.prog 10 #[.slice A m c, .int .i64 size] w (RetNB 0 [] 40 0 w) := by
  subst hm
  have hmf : ∀ (fn : Fn) (first cap : Array Value) (w : World), (Instr.makeFunc fn first cap).run Try.prog w = .ok (.func fn first cap) w := fun _ _ _ _ => rfl
  obtain ⟨W0, HW0⟩ : ∃ W0, Hid (W0 = w.alloc (.cells #[.int .i64 0] 25)) := ⟨_, rfl⟩
  have hs0 : Hid (W0.heap.size = w.heap.size + 1) := by show _ = _; rw [HW0.out]; simp
  have hk0 : Hid (Kp w W0) := by show Kp _ _; rw [HW0.out]; exact Kp.alloc_ _ _
  have c0 : Hid (W0.cell? ⟨w.heap.size, 0, none⟩ = some (.int .i64 0) ∧ W0.frozen? ⟨w.heap.size, 0, none⟩ = false) := by show _ ∧ _; rw [HW0.out]; simp [go_sem]
  have HBW := Lib.hid (HB.out W0 hk0.out)
  rw [HW0.out] at HBW
  have hA0 := Lib.hid (hA.kp hk0.out)
  clear HB
  go_enter_defers Try.func10, Try.ntmps10
  go_wp2_with fail
  refine (Hid.out HBW).mono ?_; rintro e W' ⟨rfl, k⟩
  rw [← HW0.out] at k
  have hW : Hid (Below (w.heap.size + 1) W0 W') := by show Below _ _ _; rw [← hs0.out]; exact k
  clear k HBW
  go_wp2_with fail
  refine leaves_cons (f := 18) (args := #[.pointer (some ⟨w.heap.size, 0, none⟩)]) (by simp) (by simp [go_sem]) ?_
  have x1 : W'.cell? ⟨w.heap.size, 0, none⟩ = some (.int .i64 0) := by rw [hW.out.cell (by simp)]; exact c0.out.1
  refine (take1_thrown ⟨w.heap.size, 0, none⟩ 0 [] _ x1 (by rw [hW.out.frozen (by simp)]; exact c0.out.2)).mono ?_
  rintro e u' w'' ⟨rfl, rfl, rfl⟩
  have y1 : (W'.setCell ⟨w.heap.size, 0, none⟩ (.int .i64 40)).cell? ⟨w.heap.size, 0, none⟩ = some (.int .i64 40) := set_same _ x1
  have hk : Kp w (W'.setCell ⟨w.heap.size, 0, none⟩ (.int .i64 40)) := Below.setCell (hk0.out.trans (hW.out.mono (by omega))) (by simp) _
  simp [Leaves, settle, results, Try.results10, go_sem, y1]
  exact ⟨none, 0, rfl, B8.Rd.nil _ _, ⟨by simp, by omega⟩, hk⟩
set_option maxRecDepth 100000 in
theorem take_fine (A : Option Addr) (m c : Nat) (bs : List Int) (v : Int) (r : List Int) (size : Int) (w : World) (hA : B8.Rd w A bs) (hm : m = bs.length) (hr : r.length ≤ 10000)
    (HB : Hid (∀ W, Kp w W → Calls Try.prog 19 #[.slice A bs.length c, .int .i64 size] W (RetR A bs v r W))) :
    Calls Try.prog 10 #[.slice A m c, .int .i64 size] w (RetNB v r 0 r.length w) := by
  subst hm
  have hmf : ∀ (fn : Fn) (first cap : Array Value) (w : World), (Instr.makeFunc fn first cap).run Try.prog w = .ok (.func fn first cap) w := fun _ _ _ _ => rfl
  obtain ⟨W0, HW0⟩ : ∃ W0, Hid (W0 = w.alloc (.cells #[.int .i64 0] 25)) := ⟨_, rfl⟩
  have hs0 : Hid (W0.heap.size = w.heap.size + 1) := by show _ = _; rw [HW0.out]; simp
  have hk0 : Hid (Kp w W0) := by show Kp _ _; rw [HW0.out]; exact Kp.alloc_ _ _
  have c0 : Hid (W0.cell? ⟨w.heap.size, 0, none⟩ = some (.int .i64 0) ∧ W0.frozen? ⟨w.heap.size, 0, none⟩ = false) := by show _ ∧ _; rw [HW0.out]; simp [go_sem]
  have HBW := Lib.hid (HB.out W0 hk0.out)
  rw [HW0.out] at HBW
  have hA0 := Lib.hid (hA.kp hk0.out)
  clear HB
  go_enter_defers Try.func10, Try.ntmps10
  go_wp2_with fail
  refine (Hid.out HBW).mono ?_; rintro e W1 ⟨D, d, rfl, i, _, _, k⟩
  rw [← HW0.out] at k
  have K1 := Lib.hid k
  have HC := Lib.hid (clone8_any D d r W1 (i W1 (hA0.out.kp K1.out)) (by omega))
  clear k HBW i
  go_wp2_with fail
  refine (Hid.out HC).mono ?_; rintro e W' ⟨F, f, rfl, own, k⟩
  have hW : Hid (Below (w.heap.size + 1) W0 W') := by show Below _ _ _; rw [← hs0.out]; exact K1.out.tr k
  have hown := Lib.hid own
  clear own k HC
  have x1 : W'.cell? ⟨w.heap.size, 0, none⟩ = some (.int .i64 0) := by rw [hW.out.cell (by simp)]; exact c0.out.1
  have z1 : W'.frozen? ⟨w.heap.size, 0, none⟩ = false := by rw [hW.out.frozen (by simp)]; exact c0.out.2
  go_wp2
  refine leaves_cons (f := 18) (args := #[.pointer (some ⟨w.heap.size, 0, none⟩)]) (by simp) (by simp [go_sem]) ?_
  have y1 : (W'.setCell ⟨w.heap.size, 0, none⟩ (.int .i64 0)).cell? ⟨w.heap.size, 0, none⟩ = some (.int .i64 0) := set_same _ x1
  refine (take1_idle ⟨w.heap.size, 0, none⟩ 0 _ y1 (by simp [go_sem, z1])).mono ?_
  rintro e u' w'' ⟨rfl, rfl, rfl⟩
  have q1 := set_same (.int .i64 0) y1
  have hk : Kp w ((W'.setCell ⟨w.heap.size, 0, none⟩ (.int .i64 0)).setCell ⟨w.heap.size, 0, none⟩ (.int .i64 0)) := Below.setCell (Below.setCell (hk0.out.trans (hW.out.mono (by omega))) (by simp) _) (by simp) _
  have hh1 : w.heap.size + 1 ≤ W1.heap.size := by rw [← hs0.out]; exact K1.out.size
  obtain ⟨rd, l1, l2⟩ := B8.own_room (hown.out.of_block (w' := (W'.setCell ⟨w.heap.size, 0, none⟩ (.int .i64 0)).setCell ⟨w.heap.size, 0, none⟩ (.int .i64 0)) fun g hg => by
    have hge := hown.out.from_ hg
    rw [Below.heap_setCell _ _ _ _ (by simp; omega), Below.heap_setCell _ _ _ _ (by simp; omega)])
  simp [Leaves, settle, results, Try.results10, go_sem, q1]
  exact ⟨F, f, rfl, rd, ⟨l1, l2⟩, hk⟩
set_option maxRecDepth 100000 in
theorem takeList_thrown (A : Option Addr) (m c : Nat) (bs : List Int) (size : Int) (w : World) (hA : B8.Rd w A bs) (hm : m = bs.length)
    (HB : Hid (∀ W, Kp w W → Calls Try.prog 23 #[.slice A bs.length c, .int .i64 size] W (RetT W.heap.size W))) :
    Calls Try.prog 12 #[.slice A m c, .int .i64 size] w (RetLB [] [] 40 0 0 w) := by
  subst hm
  have hmf : ∀ (fn : Fn) (first cap : Array Value) (w : World), (Instr.makeFunc fn first cap).run Try.prog w = .ok (.func fn first cap) w := fun _ _ _ _ => rfl
  obtain ⟨W0, HW0⟩ : ∃ W0, Hid (W0 = w.alloc (.cells #[.int .i64 0] 25)) := ⟨_, rfl⟩
  have hs0 : Hid (W0.heap.size = w.heap.size + 1) := by show _ = _; rw [HW0.out]; simp
  have hk0 : Hid (Kp w W0) := by show Kp _ _; rw [HW0.out]; exact Kp.alloc_ _ _
  have c0 : Hid (W0.cell? ⟨w.heap.size, 0, none⟩ = some (.int .i64 0) ∧ W0.frozen? ⟨w.heap.size, 0, none⟩ = false) := by show _ ∧ _; rw [HW0.out]; simp [go_sem]
  have HBW := Lib.hid (HB.out W0 hk0.out)
  rw [HW0.out] at HBW
  have hA0 := Lib.hid (hA.kp hk0.out)
  clear HB
  go_enter_defers Try.func12, Try.ntmps12
  go_wp2_with fail
  refine (Hid.out HBW).mono ?_; rintro e W' ⟨rfl, k⟩
  rw [← HW0.out] at k
  have hW : Hid (Below (w.heap.size + 1) W0 W') := by show Below _ _ _; rw [← hs0.out]; exact k
  clear k HBW
  go_wp2_with fail
  refine leaves_cons (f := 22) (args := #[.pointer (some ⟨w.heap.size, 0, none⟩)]) (by simp) (by simp [go_sem]) ?_
  have x1 : W'.cell? ⟨w.heap.size, 0, none⟩ = some (.int .i64 0) := by rw [hW.out.cell (by simp)]; exact c0.out.1
  refine (takeList1_thrown ⟨w.heap.size, 0, none⟩ 0 [] _ x1 (by rw [hW.out.frozen (by simp)]; exact c0.out.2)).mono ?_
  rintro e u' w'' ⟨rfl, rfl, rfl⟩
  have y1 : (W'.setCell ⟨w.heap.size, 0, none⟩ (.int .i64 40)).cell? ⟨w.heap.size, 0, none⟩ = some (.int .i64 40) := set_same _ x1
  have hk : Kp w (W'.setCell ⟨w.heap.size, 0, none⟩ (.int .i64 40)) := Below.setCell (hk0.out.trans (hW.out.mono (by omega))) (by simp) _
  simp [Leaves, settle, results, Try.results12, go_sem, y1]
  exact ⟨none, 0, none, 0, rfl, Rd.nil _ _, B8.Rd.nil _ _, ⟨by simp, by omega⟩, hk⟩
set_option maxRecDepth 100000 in
theorem takeList_fine (A : Option Addr) (m c : Nat) (bs : List Int) (v r : List Int) (size : Int) (w : World) (hA : B8.Rd w A bs) (hm : m = bs.length) (hr : r.length ≤ 10000)
    (HB : Hid (∀ W, Kp w W → Calls Try.prog 23 #[.slice A bs.length c, .int .i64 size] W (fun e W' => ∃ B b D d, e = .returned (.tuple #[.slice B v.length b, .slice D r.length d]) ∧ Own W.heap.size W' (.slice B v.length b) v ∧ (∀ V, B8.Rd V A bs → B8.Rd V D r) ∧ r.length ≤ d ∧ d ≤ 9223372036854775807 ∧ Kp W W'))) :
    Calls Try.prog 12 #[.slice A m c, .int .i64 size] w (RetLB v r 0 v.length r.length w) := by
  subst hm
  have hmf : ∀ (fn : Fn) (first cap : Array Value) (w : World), (Instr.makeFunc fn first cap).run Try.prog w = .ok (.func fn first cap) w := fun _ _ _ _ => rfl
  obtain ⟨W0, HW0⟩ : ∃ W0, Hid (W0 = w.alloc (.cells #[.int .i64 0] 25)) := ⟨_, rfl⟩
  have hs0 : Hid (W0.heap.size = w.heap.size + 1) := by show _ = _; rw [HW0.out]; simp
  have hk0 : Hid (Kp w W0) := by show Kp _ _; rw [HW0.out]; exact Kp.alloc_ _ _
  have c0 : Hid (W0.cell? ⟨w.heap.size, 0, none⟩ = some (.int .i64 0) ∧ W0.frozen? ⟨w.heap.size, 0, none⟩ = false) := by show _ ∧ _; rw [HW0.out]; simp [go_sem]
  have HBW := Lib.hid (HB.out W0 hk0.out)
  rw [HW0.out] at HBW
  have hA0 := Lib.hid (hA.kp hk0.out)
  clear HB
  go_enter_defers Try.func12, Try.ntmps12
  go_wp2_with fail
  refine (Hid.out HBW).mono ?_; rintro e W1 ⟨P, b, D, d, rfl, ov, i, _, _, k⟩
  rw [← HW0.out] at k
  rw [← HW0.out] at ov
  have OV := Lib.hid ov
  clear ov
  have K1 := Lib.hid k
  have HC := Lib.hid (clone8_any D d r W1 (i W1 (hA0.out.kp K1.out)) (by omega))
  clear k HBW i
  go_wp2_with fail
  refine (Hid.out HC).mono ?_; rintro e W' ⟨F, f, rfl, own, k⟩
  have hW : Hid (Below (w.heap.size + 1) W0 W') := by show Below _ _ _; rw [← hs0.out]; exact K1.out.tr k
  have hown := Lib.hid own
  have OV2 := Lib.hid (OV.out.kp k)
  clear own k HC
  have x1 : W'.cell? ⟨w.heap.size, 0, none⟩ = some (.int .i64 0) := by rw [hW.out.cell (by simp)]; exact c0.out.1
  have z1 : W'.frozen? ⟨w.heap.size, 0, none⟩ = false := by rw [hW.out.frozen (by simp)]; exact c0.out.2
  go_wp2
  refine leaves_cons (f := 22) (args := #[.pointer (some ⟨w.heap.size, 0, none⟩)]) (by simp) (by simp [go_sem]) ?_
  have y1 : (W'.setCell ⟨w.heap.size, 0, none⟩ (.int .i64 0)).cell? ⟨w.heap.size, 0, none⟩ = some (.int .i64 0) := set_same _ x1
  refine (takeList1_idle ⟨w.heap.size, 0, none⟩ 0 _ y1 (by simp [go_sem, z1])).mono ?_
  rintro e u' w'' ⟨rfl, rfl, rfl⟩
  have q1 := set_same (.int .i64 0) y1
  have hk : Kp w ((W'.setCell ⟨w.heap.size, 0, none⟩ (.int .i64 0)).setCell ⟨w.heap.size, 0, none⟩ (.int .i64 0)) := Below.setCell (Below.setCell (hk0.out.trans (hW.out.mono (by omega))) (by simp) _) (by simp) _
  have hh1 : w.heap.size + 1 ≤ W1.heap.size := by rw [← hs0.out]; exact K1.out.size
  obtain ⟨rd, l1, l2⟩ := B8.own_room (hown.out.of_block (w' := (W'.setCell ⟨w.heap.size, 0, none⟩ (.int .i64 0)).setCell ⟨w.heap.size, 0, none⟩ (.int .i64 0)) fun g hg => by
    have hge := hown.out.from_ hg
    rw [Below.heap_setCell _ _ _ _ (by simp; omega), Below.heap_setCell _ _ _ _ (by simp; omega)])
  obtain ⟨_, _, ev, rv⟩ := (OV2.out.of_block (w' := (W'.setCell ⟨w.heap.size, 0, none⟩ (.int .i64 0)).setCell ⟨w.heap.size, 0, none⟩ (.int .i64 0)) fun g hg => by
    have hge := OV2.out.from_ hg
    rw [hs0.out] at hge
    rw [Below.heap_setCell _ _ _ _ (by simp; omega), Below.heap_setCell _ _ _ _ (by simp; omega)]).form
  injection ev with ev1 ev2 ev3
  rw [← ev1] at rv
  simp [Leaves, settle, results, Try.results12, go_sem, q1]
  exact ⟨P, b, F, f, rfl, rv, rd, ⟨l1, l2⟩, hk⟩
end Go.Proofs.Ytngdblojglcfpaa
