/- Layer 8 of the program: Put and List: what each answers. -/
import Derived.Test.YtngdblojglcfpaaPkQ
import Derived.Test.YtngdblojglcfpaaPkX
import Derived.Tactics
import Derived.Tactics2
import Derived.Defers
import Derived.Recover
import Derived.Laws.Pointers
namespace Go.Proofs.Ytngdblojglcfpaa
open Go.RowKit Go.Proofs.ShM Go.Proofs.PkM
set_option linter.unusedVariables false
set_option maxHeartbeats 4000000

theorem B8.own_room {B n c : Nat} {A : Option Addr} {xs : List Int} {w : World} (h : B8.Own B w (.slice A n c) xs) : B8.Rd w A xs ∧ xs.length ≤ c ∧ c ≤ 9223372036854775807 := by
  obtain ⟨A', c', e, h1, h2, h3⟩ := h.ints
  injection e with e1 e2 e3
  subst e1 e3
  exact ⟨h3, h1, by unfold maxLen at h2; omega⟩
set_option maxRecDepth 100000 in
theorem put_thrown (A : Option Addr) (m c : Nat) (bs : List Int) (n size : Int) (w : World) (hA : B8.Rd w A bs) (hm : m = bs.length) (hc : bs.length ≤ 10000)
    (HB : Hid (∀ D d W0 W, Kp w W0 → W0.heap.size = w.heap.size + 1 → Kp W0 W → B8.Own (w.heap.size + 1) W (.slice D bs.length d) bs → Calls Try.prog 16 #[.slice D bs.length d, .int .i64 n, .int .i64 size] W (RetT (w.heap.size + 1) W))) :
    Calls Try.prog 9 #[.slice A m c, .int .i64 n, .int .i64 size] w (RetB [] 40 0 w) := by
  subst hm
  have hmf : ∀ (fn : Fn) (first cap : Array Value) (w : World), (Instr.makeFunc fn first cap).run Try.prog w = .ok (.func fn first cap) w := fun _ _ _ _ => rfl
  obtain ⟨W0, HW0⟩ : ∃ W0, Hid (W0 = w.alloc (.cells #[.int .i64 0] 25)) := ⟨_, rfl⟩
  have hs0 : Hid (W0.heap.size = w.heap.size + 1) := by show _ = _; rw [HW0.out]; simp
  have hk0 : Hid (Kp w W0) := by show Kp _ _; rw [HW0.out]; exact Kp.alloc_ _ _
  have c0 : Hid (W0.cell? ⟨w.heap.size, 0, none⟩ = some (.int .i64 0) ∧ W0.frozen? ⟨w.heap.size, 0, none⟩ = false) := by show _ ∧ _; rw [HW0.out]; simp [go_sem]
  have HC := Lib.hid (clone8_any A c bs W0 (hA.kp hk0.out) (by omega))
  rw [HW0.out] at HC
  go_enter_defers Try.func9, Try.ntmps9
  go_wp2_with fail
  refine (Hid.out HC).mono ?_; rintro e w2 ⟨E, d, rfl, o2, k2⟩
  rw [← HW0.out] at o2 k2
  have K2 := Lib.hid k2
  have O2 := Lib.hid (show B8.Own (w.heap.size + 1) w2 (.slice E bs.length d) bs by rw [← hs0.out]; exact o2)
  have HBW := Lib.hid (HB.out E d W0 w2 hk0.out hs0.out K2.out O2.out)
  clear o2 k2 HC
  go_wp2_with fail
  refine (Hid.out HBW).mono ?_; rintro e W' ⟨rfl, k⟩
  have hW : Hid (Below (w.heap.size + 1) W0 W') := by show Below _ _ _; rw [← hs0.out] at k ⊢; exact K2.out.trans k
  clear k HBW
  go_wp2_with fail
  refine leaves_cons (f := 14) (args := #[.pointer (some ⟨w.heap.size, 0, none⟩)]) (by simp) (by simp [go_sem]) ?_
  have x1 : W'.cell? ⟨w.heap.size, 0, none⟩ = some (.int .i64 0) := by rw [hW.out.cell (by simp)]; exact c0.out.1
  refine (put1_thrown ⟨w.heap.size, 0, none⟩ 0 [] _ x1 (by rw [hW.out.frozen (by simp)]; exact c0.out.2)).mono ?_
  rintro e u' w'' ⟨rfl, rfl, rfl⟩
  have y1 : (W'.setCell ⟨w.heap.size, 0, none⟩ (.int .i64 40)).cell? ⟨w.heap.size, 0, none⟩ = some (.int .i64 40) := set_same _ x1
  have hk : Kp w (W'.setCell ⟨w.heap.size, 0, none⟩ (.int .i64 40)) := Below.setCell (hk0.out.trans (hW.out.mono (by omega))) (by simp) _
  simp [Leaves, settle, results, Try.results9, go_sem, y1]
  exact ⟨none, 0, rfl, B8.Rd.nil _ _, ⟨by simp, by omega⟩, hk⟩
set_option maxRecDepth 100000 in
theorem put_fine (A : Option Addr) (m c : Nat) (bs r : List Int) (n size : Int) (w : World) (hA : B8.Rd w A bs) (hm : m = bs.length) (hc : bs.length ≤ 10000)
    (HB : Hid (∀ D d W0 W, Kp w W0 → W0.heap.size = w.heap.size + 1 → Kp W0 W → B8.Own (w.heap.size + 1) W (.slice D bs.length d) bs → Calls Try.prog 16 #[.slice D bs.length d, .int .i64 n, .int .i64 size] W (RetW (w.heap.size + 1) r W))) :
    Calls Try.prog 9 #[.slice A m c, .int .i64 n, .int .i64 size] w (RetB r 0 r.length w) := by
  subst hm
  have hmf : ∀ (fn : Fn) (first cap : Array Value) (w : World), (Instr.makeFunc fn first cap).run Try.prog w = .ok (.func fn first cap) w := fun _ _ _ _ => rfl
  obtain ⟨W0, HW0⟩ : ∃ W0, Hid (W0 = w.alloc (.cells #[.int .i64 0] 25)) := ⟨_, rfl⟩
  have hs0 : Hid (W0.heap.size = w.heap.size + 1) := by show _ = _; rw [HW0.out]; simp
  have hk0 : Hid (Kp w W0) := by show Kp _ _; rw [HW0.out]; exact Kp.alloc_ _ _
  have c0 : Hid (W0.cell? ⟨w.heap.size, 0, none⟩ = some (.int .i64 0) ∧ W0.frozen? ⟨w.heap.size, 0, none⟩ = false) := by show _ ∧ _; rw [HW0.out]; simp [go_sem]
  have HC := Lib.hid (clone8_any A c bs W0 (hA.kp hk0.out) (by omega))
  rw [HW0.out] at HC
  go_enter_defers Try.func9, Try.ntmps9
  go_wp2_with fail
  refine (Hid.out HC).mono ?_; rintro e w2 ⟨E, d, rfl, o2, k2⟩
  rw [← HW0.out] at o2 k2
  have K2 := Lib.hid k2
  have O2 := Lib.hid (show B8.Own (w.heap.size + 1) w2 (.slice E bs.length d) bs by rw [← hs0.out]; exact o2)
  have HBW := Lib.hid (HB.out E d W0 w2 hk0.out hs0.out K2.out O2.out)
  clear o2 k2 HC
  go_wp2_with fail
  refine (Hid.out HBW).mono ?_; rintro e W' ⟨F, f, rfl, own, k⟩
  have hW : Hid (Below (w.heap.size + 1) W0 W') := by show Below _ _ _; rw [← hs0.out] at k ⊢; exact K2.out.trans k
  have hown := Lib.hid own
  clear k own HBW
  have x1 : W'.cell? ⟨w.heap.size, 0, none⟩ = some (.int .i64 0) := by rw [hW.out.cell (by simp)]; exact c0.out.1
  have z1 : W'.frozen? ⟨w.heap.size, 0, none⟩ = false := by rw [hW.out.frozen (by simp)]; exact c0.out.2
  go_wp2
  refine leaves_cons (f := 14) (args := #[.pointer (some ⟨w.heap.size, 0, none⟩)]) (by simp) (by simp [go_sem]) ?_
  have y1 : (W'.setCell ⟨w.heap.size, 0, none⟩ (.int .i64 0)).cell? ⟨w.heap.size, 0, none⟩ = some (.int .i64 0) := set_same _ x1
  refine (put1_idle ⟨w.heap.size, 0, none⟩ 0 _ y1 (by simp [go_sem, z1])).mono ?_
  rintro e u' w'' ⟨rfl, rfl, rfl⟩
  have q1 := set_same (.int .i64 0) y1
  have hk : Kp w ((W'.setCell ⟨w.heap.size, 0, none⟩ (.int .i64 0)).setCell ⟨w.heap.size, 0, none⟩ (.int .i64 0)) := Below.setCell (Below.setCell (hk0.out.trans (hW.out.mono (by omega))) (by simp) _) (by simp) _
  obtain ⟨rd, l1, l2⟩ := B8.own_room (hown.out.of_block (w' := (W'.setCell ⟨w.heap.size, 0, none⟩ (.int .i64 0)).setCell ⟨w.heap.size, 0, none⟩ (.int .i64 0)) fun g hg => by
    have hge := hown.out.from_ hg
    rw [Below.heap_setCell _ _ _ _ (by simp; omega), Below.heap_setCell _ _ _ _ (by simp; omega)])
  simp [Leaves, settle, results, Try.results9, go_sem, q1]
  exact ⟨F, f, rfl, rd, ⟨l1, l2⟩, hk⟩
set_option maxRecDepth 100000 in
theorem list_thrown (A : Option Addr) (m c : Nat) (bs : List Int) (L : Option Addr) (p q : Nat) (size : Int) (w : World) (hA : B8.Rd w A bs) (hm : m = bs.length) (hc : bs.length ≤ 10000)
    (HB : Hid (∀ D d W0 W, Kp w W0 → W0.heap.size = w.heap.size + 1 → Kp W0 W → B8.Own (w.heap.size + 1) W (.slice D bs.length d) bs → Calls Try.prog 21 #[.slice D bs.length d, .slice L p q, .int .i64 size] W (RetT (w.heap.size + 1) W))) :
    Calls Try.prog 11 #[.slice A m c, .slice L p q, .int .i64 size] w (RetB [] 40 0 w) := by
  subst hm
  have hmf : ∀ (fn : Fn) (first cap : Array Value) (w : World), (Instr.makeFunc fn first cap).run Try.prog w = .ok (.func fn first cap) w := fun _ _ _ _ => rfl
  obtain ⟨W0, HW0⟩ : ∃ W0, Hid (W0 = w.alloc (.cells #[.int .i64 0] 25)) := ⟨_, rfl⟩
  have hs0 : Hid (W0.heap.size = w.heap.size + 1) := by show _ = _; rw [HW0.out]; simp
  have hk0 : Hid (Kp w W0) := by show Kp _ _; rw [HW0.out]; exact Kp.alloc_ _ _
  have c0 : Hid (W0.cell? ⟨w.heap.size, 0, none⟩ = some (.int .i64 0) ∧ W0.frozen? ⟨w.heap.size, 0, none⟩ = false) := by show _ ∧ _; rw [HW0.out]; simp [go_sem]
  have HC := Lib.hid (clone8_any A c bs W0 (hA.kp hk0.out) (by omega))
  rw [HW0.out] at HC
  go_enter_defers Try.func11, Try.ntmps11
  go_wp2_with fail
  refine (Hid.out HC).mono ?_; rintro e w2 ⟨E, d, rfl, o2, k2⟩
  rw [← HW0.out] at o2 k2
  have K2 := Lib.hid k2
  have O2 := Lib.hid (show B8.Own (w.heap.size + 1) w2 (.slice E bs.length d) bs by rw [← hs0.out]; exact o2)
  have HBW := Lib.hid (HB.out E d W0 w2 hk0.out hs0.out K2.out O2.out)
  clear o2 k2 HC
  go_wp2_with fail
  refine (Hid.out HBW).mono ?_; rintro e W' ⟨rfl, k⟩
  have hW : Hid (Below (w.heap.size + 1) W0 W') := by show Below _ _ _; rw [← hs0.out] at k ⊢; exact K2.out.trans k
  clear k HBW
  go_wp2_with fail
  refine leaves_cons (f := 20) (args := #[.pointer (some ⟨w.heap.size, 0, none⟩)]) (by simp) (by simp [go_sem]) ?_
  have x1 : W'.cell? ⟨w.heap.size, 0, none⟩ = some (.int .i64 0) := by rw [hW.out.cell (by simp)]; exact c0.out.1
  refine (list1_thrown ⟨w.heap.size, 0, none⟩ 0 [] _ x1 (by rw [hW.out.frozen (by simp)]; exact c0.out.2)).mono ?_
  rintro e u' w'' ⟨rfl, rfl, rfl⟩
  have y1 : (W'.setCell ⟨w.heap.size, 0, none⟩ (.int .i64 40)).cell? ⟨w.heap.size, 0, none⟩ = some (.int .i64 40) := set_same _ x1
  have hk : Kp w (W'.setCell ⟨w.heap.size, 0, none⟩ (.int .i64 40)) := Below.setCell (hk0.out.trans (hW.out.mono (by omega))) (by simp) _
  simp [Leaves, settle, results, Try.results11, go_sem, y1]
  exact ⟨none, 0, rfl, B8.Rd.nil _ _, ⟨by simp, by omega⟩, hk⟩
set_option maxRecDepth 100000 in
theorem list_fine (A : Option Addr) (m c : Nat) (bs r : List Int) (L : Option Addr) (p q : Nat) (size : Int) (w : World) (hA : B8.Rd w A bs) (hm : m = bs.length) (hc : bs.length ≤ 10000)
    (HB : Hid (∀ D d W0 W, Kp w W0 → W0.heap.size = w.heap.size + 1 → Kp W0 W → B8.Own (w.heap.size + 1) W (.slice D bs.length d) bs → Calls Try.prog 21 #[.slice D bs.length d, .slice L p q, .int .i64 size] W (RetW (w.heap.size + 1) r W))) :
    Calls Try.prog 11 #[.slice A m c, .slice L p q, .int .i64 size] w (RetB r 0 r.length w) := by
  subst hm
  have hmf : ∀ (fn : Fn) (first cap : Array Value) (w : World), (Instr.makeFunc fn first cap).run Try.prog w = .ok (.func fn first cap) w := fun _ _ _ _ => rfl
  obtain ⟨W0, HW0⟩ : ∃ W0, Hid (W0 = w.alloc (.cells #[.int .i64 0] 25)) := ⟨_, rfl⟩
  have hs0 : Hid (W0.heap.size = w.heap.size + 1) := by show _ = _; rw [HW0.out]; simp
  have hk0 : Hid (Kp w W0) := by show Kp _ _; rw [HW0.out]; exact Kp.alloc_ _ _
  have c0 : Hid (W0.cell? ⟨w.heap.size, 0, none⟩ = some (.int .i64 0) ∧ W0.frozen? ⟨w.heap.size, 0, none⟩ = false) := by show _ ∧ _; rw [HW0.out]; simp [go_sem]
  have HC := Lib.hid (clone8_any A c bs W0 (hA.kp hk0.out) (by omega))
  rw [HW0.out] at HC
  go_enter_defers Try.func11, Try.ntmps11
  go_wp2_with fail
  refine (Hid.out HC).mono ?_; rintro e w2 ⟨E, d, rfl, o2, k2⟩
  rw [← HW0.out] at o2 k2
  have K2 := Lib.hid k2
  have O2 := Lib.hid (show B8.Own (w.heap.size + 1) w2 (.slice E bs.length d) bs by rw [← hs0.out]; exact o2)
  have HBW := Lib.hid (HB.out E d W0 w2 hk0.out hs0.out K2.out O2.out)
  clear o2 k2 HC
  go_wp2_with fail
  refine (Hid.out HBW).mono ?_; rintro e W' ⟨F, f, rfl, own, k⟩
  have hW : Hid (Below (w.heap.size + 1) W0 W') := by show Below _ _ _; rw [← hs0.out] at k ⊢; exact K2.out.trans k
  have hown := Lib.hid own
  clear k own HBW
  have x1 : W'.cell? ⟨w.heap.size, 0, none⟩ = some (.int .i64 0) := by rw [hW.out.cell (by simp)]; exact c0.out.1
  have z1 : W'.frozen? ⟨w.heap.size, 0, none⟩ = false := by rw [hW.out.frozen (by simp)]; exact c0.out.2
  go_wp2
  refine leaves_cons (f := 20) (args := #[.pointer (some ⟨w.heap.size, 0, none⟩)]) (by simp) (by simp [go_sem]) ?_
  have y1 : (W'.setCell ⟨w.heap.size, 0, none⟩ (.int .i64 0)).cell? ⟨w.heap.size, 0, none⟩ = some (.int .i64 0) := set_same _ x1
  refine (list1_idle ⟨w.heap.size, 0, none⟩ 0 _ y1 (by simp [go_sem, z1])).mono ?_
  rintro e u' w'' ⟨rfl, rfl, rfl⟩
  have q1 := set_same (.int .i64 0) y1
  have hk : Kp w ((W'.setCell ⟨w.heap.size, 0, none⟩ (.int .i64 0)).setCell ⟨w.heap.size, 0, none⟩ (.int .i64 0)) := Below.setCell (Below.setCell (hk0.out.trans (hW.out.mono (by omega))) (by simp) _) (by simp) _
  obtain ⟨rd, l1, l2⟩ := B8.own_room (hown.out.of_block (w' := (W'.setCell ⟨w.heap.size, 0, none⟩ (.int .i64 0)).setCell ⟨w.heap.size, 0, none⟩ (.int .i64 0)) fun g hg => by
    have hge := hown.out.from_ hg
    rw [Below.heap_setCell _ _ _ _ (by simp; omega), Below.heap_setCell _ _ _ _ (by simp; omega)])
  simp [Leaves, settle, results, Try.results11, go_sem, q1]
  exact ⟨F, f, rfl, rd, ⟨l1, l2⟩, hk⟩
end Go.Proofs.Ytngdblojglcfpaa
