/- Layer 8 of the program once more: what the four calls answer is the call's own. -/
import Derived.Test.YtdcgmnkoomhocaaPkAll
import Derived.Tactics
import Derived.Tactics2
import Derived.Defers
import Derived.Recover
import Derived.Laws.Pointers
namespace Go.Proofs.Ytdcgmnkoomhocaa
open Go.RowKit Go.Proofs.ShM Go.Proofs.PkM
set_option linter.unusedVariables false
set_option maxHeartbeats 4000000

/-- Bytes of the call's own, and an error. -/
def RetBow (r : List Int) (err : Int) (w : World) (e : Ending) (w' : World) : Prop := ∃ A c, e = .returned (.tuple #[.slice A r.length c, .int .i64 err]) ∧ B8.Own w.heap.size w' (.slice A r.length c) r ∧ Kp w w'
/-- A number, bytes of the call's own, and an error. -/
def RetNow (v : Int) (r : List Int) (err : Int) (w : World) (e : Ending) (w' : World) : Prop := ∃ F f, e = .returned (.tuple #[.int .i64 v, .slice F r.length f, .int .i64 err]) ∧ B8.Own w.heap.size w' (.slice F r.length f) r ∧ Kp w w'
/-- Numbers and bytes, both of the call's own, and an error. -/
def RetLow (v r : List Int) (err : Int) (w : World) (e : Ending) (w' : World) : Prop := ∃ P b F f, e = .returned (.tuple #[.slice P v.length b, .slice F r.length f, .int .i64 err]) ∧ Own w.heap.size w' (.slice P v.length b) v ∧ B8.Own w.heap.size w' (.slice F r.length f) r ∧ Kp w w'
theorem B8.Own.weakW {B C : Nat} {w : World} {v : Value} {xs : List Int} (h : B8.Own C w v xs) (hB : B ≤ C) : B8.Own B w v xs := by
  refine ⟨h.1, ?_⟩
  rcases h.2 with h0 | ⟨g, cap, cur, e, hb, r⟩
  · exact .inl h0
  · exact .inr ⟨g, cap, cur, e, by omega, r⟩
theorem Own.weakW {B C : Nat} {w : World} {v : Value} {xs : List Int} (h : Own C w v xs) (hB : B ≤ C) : Own B w v xs := by
  refine ⟨h.1, ?_⟩
  rcases h.2 with h0 | ⟨g, cap, cur, e, hb, r⟩
  · exact .inl h0
  · exact .inr ⟨g, cap, cur, e, by omega, r⟩
set_option maxRecDepth 100000 in
theorem put_own (A : Option Addr) (m c : Nat) (bs r : List Int) (n size : Int) (w : World) (hA : B8.Rd w A bs) (hm : m = bs.length) (hc : bs.length ≤ 200000)
    (HB : Hid (∀ D d W0 W, Kp w W0 → W0.heap.size = w.heap.size + 1 → Kp W0 W → B8.Own (w.heap.size + 1) W (.slice D bs.length d) bs → Calls Try.prog 29 #[.slice D bs.length d, .int .i64 n, .int .i64 size] W (RetWk (w.heap.size + 1) r W))) :
    Calls Try.prog 15 #[.slice A m c, .int .i64 n, .int .i64 size] w (RetBow r 0 w) := by
  subst hm
  have hmf : ∀ (fn : Fn) (first cap : Array Value) (w : World), (Instr.makeFunc fn first cap).run Try.prog w = .ok (.func fn first cap) w := fun _ _ _ _ => rfl
  obtain ⟨W0, HW0⟩ : ∃ W0, Hid (W0 = w.alloc (.cells #[.int .i64 0] 26)) := ⟨_, rfl⟩
  have hs0 : Hid (W0.heap.size = w.heap.size + 1) := by show _ = _; rw [HW0.out]; simp
  have hk0 : Hid (Kp w W0) := by show Kp _ _; rw [HW0.out]; exact Kp.alloc_ _ _
  have c0 : Hid (W0.cell? ⟨w.heap.size, 0, none⟩ = some (.int .i64 0) ∧ W0.frozen? ⟨w.heap.size, 0, none⟩ = false) := by show _ ∧ _; rw [HW0.out]; simp [go_sem]
  have HC := Lib.hid (clone8_any A c bs W0 (hA.kp hk0.out) (by omega))
  rw [HW0.out] at HC
  go_enter_defers Try.func15, Try.ntmps15
  go_wp2_with fail
  refine (Hid.out HC).mono ?_; rintro e w2 ⟨E, d, rfl, o2, k2⟩
  rw [← HW0.out] at o2 k2
  have K2 := Lib.hid k2
  have O2 := Lib.hid (show B8.Own (w.heap.size + 1) w2 (.slice E bs.length d) bs by rw [← hs0.out]; exact o2)
  have HBW := Lib.hid (HB.out E d W0 w2 hk0.out hs0.out K2.out O2.out)
  clear o2 k2 HC
  go_wp2_with fail
  refine (Hid.out HBW).mono ?_; rintro e W' ⟨F, f, rfl, own, k⟩
  have hW : Hid (Below (w.heap.size + 1) W0 W') := by show Below _ _ _; rw [← hs0.out] at k ⊢; exact K2.out.trans k
  have hown := Lib.hid own
  clear k own HBW
  have x1 : W'.cell? ⟨w.heap.size, 0, none⟩ = some (.int .i64 0) := by rw [hW.out.cell (by simp)]; exact c0.out.1
  have z1 : W'.frozen? ⟨w.heap.size, 0, none⟩ = false := by rw [hW.out.frozen (by simp)]; exact c0.out.2
  go_wp2
  refine leaves_cons (f := 27) (args := #[.pointer (some ⟨w.heap.size, 0, none⟩)]) (by simp) (by simp [go_sem]) ?_
  have y1 : (W'.setCell ⟨w.heap.size, 0, none⟩ (.int .i64 0)).cell? ⟨w.heap.size, 0, none⟩ = some (.int .i64 0) := set_same _ x1
  refine (put1_idle ⟨w.heap.size, 0, none⟩ 0 _ y1 (by simp [go_sem, z1])).mono ?_
  rintro e u' w'' ⟨rfl, rfl, rfl⟩
  have q1 := set_same (.int .i64 0) y1
  have hk : Kp w ((W'.setCell ⟨w.heap.size, 0, none⟩ (.int .i64 0)).setCell ⟨w.heap.size, 0, none⟩ (.int .i64 0)) := Below.setCell (Below.setCell (hk0.out.trans (hW.out.mono (by omega))) (by simp) _) (by simp) _
  have fin := hown.out.of_block (w' := (W'.setCell ⟨w.heap.size, 0, none⟩ (.int .i64 0)).setCell ⟨w.heap.size, 0, none⟩ (.int .i64 0)) fun g hg => by
    have hge := hown.out.from_ hg
    rw [Below.heap_setCell _ _ _ _ (by simp; omega), Below.heap_setCell _ _ _ _ (by simp; omega)]
  simp [Leaves, settle, results, Try.results15, go_sem, q1]
  exact ⟨F, f, rfl, fin.weakW (by omega), hk⟩
set_option maxRecDepth 100000 in
theorem list_own (A : Option Addr) (m c : Nat) (bs r : List Int) (L : Option Addr) (p q : Nat) (size : Int) (w : World) (hA : B8.Rd w A bs) (hm : m = bs.length) (hc : bs.length ≤ 200000)
    (HB : Hid (∀ D d W0 W, Kp w W0 → W0.heap.size = w.heap.size + 1 → Kp W0 W → B8.Own (w.heap.size + 1) W (.slice D bs.length d) bs → Calls Try.prog 32 #[.slice D bs.length d, .slice L p q, .int .i64 size] W (RetWk (w.heap.size + 1) r W))) :
    Calls Try.prog 16 #[.slice A m c, .slice L p q, .int .i64 size] w (RetBow r 0 w) := by
  subst hm
  have hmf : ∀ (fn : Fn) (first cap : Array Value) (w : World), (Instr.makeFunc fn first cap).run Try.prog w = .ok (.func fn first cap) w := fun _ _ _ _ => rfl
  obtain ⟨W0, HW0⟩ : ∃ W0, Hid (W0 = w.alloc (.cells #[.int .i64 0] 26)) := ⟨_, rfl⟩
  have hs0 : Hid (W0.heap.size = w.heap.size + 1) := by show _ = _; rw [HW0.out]; simp
  have hk0 : Hid (Kp w W0) := by show Kp _ _; rw [HW0.out]; exact Kp.alloc_ _ _
  have c0 : Hid (W0.cell? ⟨w.heap.size, 0, none⟩ = some (.int .i64 0) ∧ W0.frozen? ⟨w.heap.size, 0, none⟩ = false) := by show _ ∧ _; rw [HW0.out]; simp [go_sem]
  have HC := Lib.hid (clone8_any A c bs W0 (hA.kp hk0.out) (by omega))
  rw [HW0.out] at HC
  go_enter_defers Try.func16, Try.ntmps16
  go_wp2_with fail
  refine (Hid.out HC).mono ?_; rintro e w2 ⟨E, d, rfl, o2, k2⟩
  rw [← HW0.out] at o2 k2
  have K2 := Lib.hid k2
  have O2 := Lib.hid (show B8.Own (w.heap.size + 1) w2 (.slice E bs.length d) bs by rw [← hs0.out]; exact o2)
  have HBW := Lib.hid (HB.out E d W0 w2 hk0.out hs0.out K2.out O2.out)
  clear o2 k2 HC
  go_wp2_with fail
  refine (Hid.out HBW).mono ?_; rintro e W' ⟨F, f, rfl, own, k⟩
  have hW : Hid (Below (w.heap.size + 1) W0 W') := by show Below _ _ _; rw [← hs0.out] at k ⊢; exact K2.out.trans k
  have hown := Lib.hid own
  clear k own HBW
  have x1 : W'.cell? ⟨w.heap.size, 0, none⟩ = some (.int .i64 0) := by rw [hW.out.cell (by simp)]; exact c0.out.1
  have z1 : W'.frozen? ⟨w.heap.size, 0, none⟩ = false := by rw [hW.out.frozen (by simp)]; exact c0.out.2
  go_wp2
  refine leaves_cons (f := 31) (args := #[.pointer (some ⟨w.heap.size, 0, none⟩)]) (by simp) (by simp [go_sem]) ?_
  have y1 : (W'.setCell ⟨w.heap.size, 0, none⟩ (.int .i64 0)).cell? ⟨w.heap.size, 0, none⟩ = some (.int .i64 0) := set_same _ x1
  refine (list1_idle ⟨w.heap.size, 0, none⟩ 0 _ y1 (by simp [go_sem, z1])).mono ?_
  rintro e u' w'' ⟨rfl, rfl, rfl⟩
  have q1 := set_same (.int .i64 0) y1
  have hk : Kp w ((W'.setCell ⟨w.heap.size, 0, none⟩ (.int .i64 0)).setCell ⟨w.heap.size, 0, none⟩ (.int .i64 0)) := Below.setCell (Below.setCell (hk0.out.trans (hW.out.mono (by omega))) (by simp) _) (by simp) _
  have fin := hown.out.of_block (w' := (W'.setCell ⟨w.heap.size, 0, none⟩ (.int .i64 0)).setCell ⟨w.heap.size, 0, none⟩ (.int .i64 0)) fun g hg => by
    have hge := hown.out.from_ hg
    rw [Below.heap_setCell _ _ _ _ (by simp; omega), Below.heap_setCell _ _ _ _ (by simp; omega)]
  simp [Leaves, settle, results, Try.results16, go_sem, q1]
  exact ⟨F, f, rfl, fin.weakW (by omega), hk⟩
set_option maxRecDepth 100000 in
theorem take_own (A : Option Addr) (m c : Nat) (bs : List Int) (v : Int) (r : List Int) (size : Int) (w : World) (hA : B8.Rd w A bs) (hm : m = bs.length) (hr : r.length ≤ 200000)
    (HB : Hid (∀ W, Kp w W → Calls Try.prog 38 #[.slice A bs.length c, .int .i64 size] W (RetR A bs v r W))) :
    Calls Try.prog 20 #[.slice A m c, .int .i64 size] w (RetNow v r 0 w) := by
  subst hm
  have hmf : ∀ (fn : Fn) (first cap : Array Value) (w : World), (Instr.makeFunc fn first cap).run Try.prog w = .ok (.func fn first cap) w := fun _ _ _ _ => rfl
  obtain ⟨W0, HW0⟩ : ∃ W0, Hid (W0 = w.alloc (.cells #[.int .i64 0] 26)) := ⟨_, rfl⟩
  have hs0 : Hid (W0.heap.size = w.heap.size + 1) := by show _ = _; rw [HW0.out]; simp
  have hk0 : Hid (Kp w W0) := by show Kp _ _; rw [HW0.out]; exact Kp.alloc_ _ _
  have c0 : Hid (W0.cell? ⟨w.heap.size, 0, none⟩ = some (.int .i64 0) ∧ W0.frozen? ⟨w.heap.size, 0, none⟩ = false) := by show _ ∧ _; rw [HW0.out]; simp [go_sem]
  have HBW := Lib.hid (HB.out W0 hk0.out)
  rw [HW0.out] at HBW
  have hA0 := Lib.hid (hA.kp hk0.out)
  clear HB
  go_enter_defers Try.func20, Try.ntmps20
  go_wp2_with fail
  refine (Hid.out HBW).mono ?_; rintro e W1 ⟨D, d, rfl, i, _, _, k⟩
  rw [← HW0.out] at k
  have K1 := Lib.hid k
  have HC := Lib.hid (clone8_any D d r W1 (i W1 (hA0.out.kp K1.out)) (by omega))
  clear k HBW i
  go_wp2_with fail
  refine (Hid.out HC).mono ?_; rintro e W' ⟨F, f, rfl, own, k⟩
  have hW : Hid (Below (w.heap.size + 1) W0 W') := by show Below _ _ _; rw [← hs0.out]; exact K1.out.tr k
  have hown := Lib.hid own
  clear own k HC
  have x1 : W'.cell? ⟨w.heap.size, 0, none⟩ = some (.int .i64 0) := by rw [hW.out.cell (by simp)]; exact c0.out.1
  have z1 : W'.frozen? ⟨w.heap.size, 0, none⟩ = false := by rw [hW.out.frozen (by simp)]; exact c0.out.2
  go_wp2
  refine leaves_cons (f := 37) (args := #[.pointer (some ⟨w.heap.size, 0, none⟩)]) (by simp) (by simp [go_sem]) ?_
  have y1 : (W'.setCell ⟨w.heap.size, 0, none⟩ (.int .i64 0)).cell? ⟨w.heap.size, 0, none⟩ = some (.int .i64 0) := set_same _ x1
  refine (take1_idle ⟨w.heap.size, 0, none⟩ 0 _ y1 (by simp [go_sem, z1])).mono ?_
  rintro e u' w'' ⟨rfl, rfl, rfl⟩
  have q1 := set_same (.int .i64 0) y1
  have hk : Kp w ((W'.setCell ⟨w.heap.size, 0, none⟩ (.int .i64 0)).setCell ⟨w.heap.size, 0, none⟩ (.int .i64 0)) := Below.setCell (Below.setCell (hk0.out.trans (hW.out.mono (by omega))) (by simp) _) (by simp) _
  have hh1 : w.heap.size + 1 ≤ W1.heap.size := by rw [← hs0.out]; exact K1.out.size
  have fin := hown.out.of_block (w' := (W'.setCell ⟨w.heap.size, 0, none⟩ (.int .i64 0)).setCell ⟨w.heap.size, 0, none⟩ (.int .i64 0)) fun g hg => by
    have hge := hown.out.from_ hg
    rw [Below.heap_setCell _ _ _ _ (by simp; omega), Below.heap_setCell _ _ _ _ (by simp; omega)]
  simp [Leaves, settle, results, Try.results20, go_sem, q1]
  exact ⟨F, f, rfl, fin.weakW (by omega), hk⟩
set_option maxRecDepth 100000 in
theorem takeList_own (A : Option Addr) (m c : Nat) (bs : List Int) (v r : List Int) (size : Int) (w : World) (hA : B8.Rd w A bs) (hm : m = bs.length) (hr : r.length ≤ 200000)
    (HB : Hid (∀ W, Kp w W → Calls Try.prog 40 #[.slice A bs.length c, .int .i64 size] W (fun e W' => ∃ B b D d, e = .returned (.tuple #[.slice B v.length b, .slice D r.length d]) ∧ Own W.heap.size W' (.slice B v.length b) v ∧ (∀ V, B8.Rd V A bs → B8.Rd V D r) ∧ r.length ≤ d ∧ d ≤ 9223372036854775807 ∧ Kp W W'))) :
    Calls Try.prog 21 #[.slice A m c, .int .i64 size] w (RetLow v r 0 w) := by
  subst hm
  have hmf : ∀ (fn : Fn) (first cap : Array Value) (w : World), (Instr.makeFunc fn first cap).run Try.prog w = .ok (.func fn first cap) w := fun _ _ _ _ => rfl
  obtain ⟨W0, HW0⟩ : ∃ W0, Hid (W0 = w.alloc (.cells #[.int .i64 0] 26)) := ⟨_, rfl⟩
  have hs0 : Hid (W0.heap.size = w.heap.size + 1) := by show _ = _; rw [HW0.out]; simp
  have hk0 : Hid (Kp w W0) := by show Kp _ _; rw [HW0.out]; exact Kp.alloc_ _ _
  have c0 : Hid (W0.cell? ⟨w.heap.size, 0, none⟩ = some (.int .i64 0) ∧ W0.frozen? ⟨w.heap.size, 0, none⟩ = false) := by show _ ∧ _; rw [HW0.out]; simp [go_sem]
  have HBW := Lib.hid (HB.out W0 hk0.out)
  rw [HW0.out] at HBW
  have hA0 := Lib.hid (hA.kp hk0.out)
  clear HB
  go_enter_defers Try.func21, Try.ntmps21
  go_wp2_with fail
  refine (Hid.out HBW).mono ?_; rintro e W1 ⟨P, b, D, d, rfl, ov, i, _, _, k⟩
  rw [← HW0.out] at k
  rw [← HW0.out] at ov
  have OV := Lib.hid ov
  clear ov
  have K1 := Lib.hid k
  have HC := Lib.hid (clone8_any D d r W1 (i W1 (hA0.out.kp K1.out)) (by omega))
  clear k HBW i
  go_wp2_with fail
  refine (Hid.out HC).mono ?_; rintro e W' ⟨F, f, rfl, own, k⟩
  have hW : Hid (Below (w.heap.size + 1) W0 W') := by show Below _ _ _; rw [← hs0.out]; exact K1.out.tr k
  have hown := Lib.hid own
  have OV2 := Lib.hid (OV.out.kp k)
  clear own k HC
  have x1 : W'.cell? ⟨w.heap.size, 0, none⟩ = some (.int .i64 0) := by rw [hW.out.cell (by simp)]; exact c0.out.1
  have z1 : W'.frozen? ⟨w.heap.size, 0, none⟩ = false := by rw [hW.out.frozen (by simp)]; exact c0.out.2
  go_wp2
  refine leaves_cons (f := 39) (args := #[.pointer (some ⟨w.heap.size, 0, none⟩)]) (by simp) (by simp [go_sem]) ?_
  have y1 : (W'.setCell ⟨w.heap.size, 0, none⟩ (.int .i64 0)).cell? ⟨w.heap.size, 0, none⟩ = some (.int .i64 0) := set_same _ x1
  refine (takeList1_idle ⟨w.heap.size, 0, none⟩ 0 _ y1 (by simp [go_sem, z1])).mono ?_
  rintro e u' w'' ⟨rfl, rfl, rfl⟩
  have q1 := set_same (.int .i64 0) y1
  have hk : Kp w ((W'.setCell ⟨w.heap.size, 0, none⟩ (.int .i64 0)).setCell ⟨w.heap.size, 0, none⟩ (.int .i64 0)) := Below.setCell (Below.setCell (hk0.out.trans (hW.out.mono (by omega))) (by simp) _) (by simp) _
  have hh1 : w.heap.size + 1 ≤ W1.heap.size := by rw [← hs0.out]; exact K1.out.size
  have fin := hown.out.of_block (w' := (W'.setCell ⟨w.heap.size, 0, none⟩ (.int .i64 0)).setCell ⟨w.heap.size, 0, none⟩ (.int .i64 0)) fun g hg => by
    have hge := hown.out.from_ hg
    rw [Below.heap_setCell _ _ _ _ (by simp; omega), Below.heap_setCell _ _ _ _ (by simp; omega)]
  have fiv := OV2.out.of_block (w' := (W'.setCell ⟨w.heap.size, 0, none⟩ (.int .i64 0)).setCell ⟨w.heap.size, 0, none⟩ (.int .i64 0)) fun g hg => by
    have hge := OV2.out.from_ hg
    rw [hs0.out] at hge
    rw [Below.heap_setCell _ _ _ _ (by simp; omega), Below.heap_setCell _ _ _ _ (by simp; omega)]
  simp [Leaves, settle, results, Try.results21, go_sem, q1]
  exact ⟨P, b, F, f, rfl, fiv.weakW (by rw [hs0.out]; omega), fin.weakW (by omega), hk⟩
theorem put_w (n : Int) (size : Int) (w : World) (hm : mayB n size = true) :
    Calls Try.prog 15 #[.slice none 0 0, .int .i64 n, .int .i64 size] w (RetBow (byteL n size.toNat) 0 w) :=
  put_own none 0 0 [] _ n size w (B8.Rd.nil _ _) rfl (by simp) (fun D d W0 W1 k0 e0 k1 o => by
    have h := write_yes (w.heap.size + 1) D 0 d [] n size W1 o (by rw [← e0]; exact k1.size) (by simp) hm
    exact h)
theorem list_w (L : Option Addr) (p q : Nat) (l : List Int) (size : Int) (w : World) (hL : Rd w L l) (hp : p = l.length) (hl : l.length ≤ 255) (hs : sizB size = true) (hm : ∀ n ∈ l, mayB n size = true) :
    Calls Try.prog 16 #[.slice none 0 0, .slice L p q, .int .i64 size] w (RetBow ((l.length : Int) :: allB l size.toNat) 0 w) :=
  list_own none 0 0 [] _ L p q size w (B8.Rd.nil _ _) rfl (by simp) (fun D d' W0 W1 k0 e0 k1 o => by
    have h := writeList_yes (w.heap.size + 1) D L 0 d' p q [] l size W1 o (by rw [← e0]; exact k1.size) (by simp) (fun W' b => (hL.kp k0).kp (kp_of e0 k1 b)) hp hl hs hm
    exact h)
theorem take_w (A : Option Addr) (c : Nat) (bs : List Int) (size v : Int) (r : List Int) (err : Int) (w : World) (hR : B8.Rd w A bs) (hc1 : bs.length ≤ c) (hc2 : c ≤ 9223372036854775807) (hl : bs.length ≤ 200000) (hb : Bytes bs) (hv : takeV bs size = (v, r, err)) (h0 : err = 0) :
    Calls Try.prog 20 #[.slice A bs.length c, .int .i64 size] w (RetNow v r err w) := by
  unfold takeV at hv
  by_cases h : sizB size = true ∧ size ≤ bs.length
  · rw [if_pos h] at hv
    injection hv with h1 h2
    injection h2 with h2 h3
    subst h1 h2 h3
    exact take_own A _ c bs _ _ size w hR rfl (by rw [List.length_drop]; omega) (fun W1 k1 => read_yes A _ c bs size W1 (hR.kp k1) hc1 hc2 hb rfl h.1 h.2 hl)
  · rw [if_neg h] at hv
    injection hv with _ h; injection h with _ h; omega
theorem takeList_w (A : Option Addr) (c : Nat) (bs : List Int) (size : Int) (v r : List Int) (err : Int) (w : World) (hR : B8.Rd w A bs) (hc1 : bs.length ≤ c) (hc2 : c ≤ 9223372036854775807) (hl : bs.length ≤ 200000) (hb : Bytes bs) (hv : takeListV bs size = (v, r, err)) (h0 : err = 0) :
    Calls Try.prog 21 #[.slice A bs.length c, .int .i64 size] w (RetLow v r err w) := by
  unfold takeListV at hv
  by_cases h : sizB size = true ∧ 1 ≤ bs.length
  · rw [if_pos h] at hv
    have HL := fun W1 k1 => readList_any A _ c bs size W1 (hR.kp k1) hc1 hc2 hb rfl h.1 h.2 hl
    cases e : manyV size.toNat (bs.getD 0 0).toNat (bs.drop 1) with
    | none => rw [e] at hv; injection hv with _ h; injection h with _ h; omega
    | some q =>
      obtain ⟨q1, q2⟩ := q
      have hq : q2.length ≤ 200000 := by
        have hd := (many_back h.1 (fun x hx => hb x (List.mem_of_mem_drop hx)) e).2.2.2
        have := congrArg List.length hd
        rw [List.length_append, List.length_drop] at this
        omega
      rw [e] at hv HL
      injection hv with h1 h2
      injection h2 with h2 h3
      subst h1 h2 h3
      refine takeList_own A _ c bs _ _ size w hR rfl hq (fun W1 k1 => (HL W1 k1).mono fun _ _ g => ?_)
      rcases g with g | ⟨v, r, g, g2⟩
      · cases g.1
      · injection g with g
        injection g with g3 g4
        subst g3 g4
        exact g2
  · rw [if_neg h] at hv
    injection hv with _ h; injection h with _ h; omega
end Go.Proofs.Ytdcgmnkoomhocaa
