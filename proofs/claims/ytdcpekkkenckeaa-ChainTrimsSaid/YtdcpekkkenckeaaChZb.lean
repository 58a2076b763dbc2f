/- The landed chain: Check and its closure, parted and its, Newer. -/
import Derived.Test.YtdcpekkkenckeaaChZa
namespace Go.Proofs.Ytdcpekkkenckeaa.Cz
open Go.RowKit Go.Proofs.ShM Go.Proofs.GrM Go.Proofs.ImM Go.Proofs.ChM
set_option linter.unusedVariables false
set_option linter.unusedSimpArgs false
set_option maxRecDepth 100000
set_option maxHeartbeats 8000000

theorem sizeV (W : World) : ((sizeOf (Try.prog.elem 22)).run Try.prog W) = .ok 3 W := by
  obtain ⟨i, hi, _, h1, _⟩ := info_parts ver_info
  simp [sizeOf, typeInfo, show Try.prog.elem 22 = 41 by kernel_rfl, hi, h1]
theorem run_hi (W : World) (A : Option Addr) (n c j : Nat) (hj : j ≤ c) : (Instr.sliceAt 22 (.slice A n c) none (some (.int .i64 (j : Int))) none).run Try.prog W = .ok (.slice A j c) W := by
  have hu : Try.prog.underlying 22 = some (.slice (Try.prog.elem 22)) := by kernel_rfl
  rw [run_sliceAt_slice W _ _ _ _ _ hu, run_slice_h W _ A n c hu .i64 j (by omega) (by omega), sizeV]
  cases A <;> simp [Result.andThen, sliced, Addr.add]
def cutV (A : Option Addr) (c j : Nat) : Option Addr := if c = j then A else A.map (·.add (j * 3))
theorem run_lo (W : World) (A : Option Addr) (n c j : Nat) (hj : j ≤ n) : (Instr.sliceAt 22 (.slice A n c) (some (.int .i64 (j : Int))) none none).run Try.prog W = .ok (.slice (cutV A c j) (n - j) (c - j)) W := by
  have hu : Try.prog.underlying 22 = some (.slice (Try.prog.elem 22)) := by kernel_rfl
  rw [run_sliceAt_slice W _ _ _ _ _ hu, run_slice_l W _ A n c hu .i64 j (by omega) (by omega), sizeV]
  simp [Result.andThen, sliced, cutV]
theorem rd_cutV {w : World} {A : Option Addr} {l : List Nd} (h : RdG w A l) {c k : Nat} (hk : k ≤ l.length) (hc : l.length ≤ c) : RdG w (cutV A c k) (l.drop k) := by
  rcases Nat.lt_or_ge k l.length with hk' | hk'
  · obtain ⟨ad, _, _, _, _, rfl, _⟩ := h.atv hk'
    unfold cutV
    rw [if_neg (by omega)]
    exact h.drop_ hk'
  · rw [List.drop_eq_nil_of_le hk']
    exact RdN.nil_ _ _ _

theorem check1 (A : Option Addr) (n c k b : Nat) (l : List Nd) (q : Bool) (w : World) (h : RdG w A l) (hn : n = l.length) (hc : l.length ≤ c ∧ c ≤ 9223372036854775807) (hk : k < n) (hb : w.cell? ⟨b, 0, none⟩ = some (.slice A n c)) (hlt : b < w.heap.size) (hq : (!mayB (l.getD k nd0) (l.take k)) = q) :
    Calls Try.prog 30 #[.int .i64 (k : Int), .pointer (some ⟨b, 0, none⟩)] w fun e w' => e = .returned (.bool q) ∧ Kp w w' := by
  obtain ⟨ad, P, e, Q, f, rfl, had, y0, y1, y2, hR⟩ := h.atv (show k < l.length by omega)
  obtain ⟨y, hy⟩ := eX (mayB (l.getD k nd0) (l.take k))
  rw [← hy] at hq
  obtain ⟨x, hx⟩ := eX (l.getD k nd0).1
  obtain ⟨n1, hn1⟩ := eX (l.getD k nd0).2.1.length
  obtain ⟨n2, hn2⟩ := eX (l.getD k nd0).2.2.length
  have HM : Hid (∀ W, Kp w W → Calls Try.prog 31 #[.agg #[.int .i64 x, .slice P n1 e, .slice Q n2 f], .slice (some ad) k c] W fun e w' => e = .returned (.bool y) ∧ Kp W w') := fun W kW => by
    rw [hx]
    exact mayStand_any P Q _ n1 e n2 f k c _ _ y W (hR.r.kp kW) hn1 hn2 ((h.take_ k).kp kW) (by rw [List.length_take]; omega) hy.symm
  rw [← hx] at y0
  rw [← hn1] at y1
  rw [← hn2] at y2
  have hcut : ∀ W, (Instr.sliceAt 22 (.slice (some ad) n c) none (some (.int .i64 (k : Int))) none).run Try.prog W = .ok (.slice (some ad) k c) W := fun W => run_hi W _ _ _ _ (by omega)
  have hk' : (k : Int) < (n : Int) := by omega
  have HSS : Hid (∀ V, Kp w V → V.cell? ⟨b, 0, none⟩ = some (.slice (some ad) n c) ∧ V.cell? (ad.add (k * 3)) = some (.int .i64 x) ∧ V.cell? ⟨(ad.add (k * 3)).block, (ad.add (k * 3)).off + 1, none⟩ = some (.slice P n1 e) ∧ V.cell? ⟨(ad.add (k * 3)).block, (ad.add (k * 3)).off + 2, none⟩ = some (.slice Q n2 f)) := fun V kV =>
    ⟨(kV.cell (show (⟨b, 0, none⟩ : Addr).block < _ from hlt)).trans hb, (kV.cell (by rw [block_of_add]; exact had)).trans y0, (kV.cell (by rw [block_of_add]; exact had)).trans y1, (kV.cell (by rw [block_of_add]; exact had)).trans y2⟩
  have H0 := lH (HSS.out _ (Below.drew (Kp.refl w)))
  clear hy hx hn1 hn2 hR y0 y1 y2 had hb hlt h hc hk hn
  go_enter Try.func30, Try.ntmps30
  go_wp2_with fail
  refine wp_region_held_drew (S := fun V => V.cell? ⟨b, 0, none⟩ = some (.slice (some ad) n c) ∧ V.cell? (ad.add (k * 3)) = some (.int .i64 x) ∧ V.cell? ⟨(ad.add (k * 3)).block, (ad.add (k * 3)).off + 1, none⟩ = some (.slice P n1 e) ∧ V.cell? ⟨(ad.add (k * 3)).block, (ad.add (k * 3)).off + 2, none⟩ = some (.slice Q n2 f)) (by kernel_rfl) H0.out (fun hHeld => ?_)
  have X2 : Hid (Kp w w.drew) := Below.drew (Kp.refl _)
  generalize w.drew = V0 at X2 hHeld ⊢
  refine tK 0 (.slice (some ad) n c) rfl hHeld <| tK 1 (.int .i64 (k : Int)) rfl hHeld <| tK 2 (.pointer (some (ad.add (k * 3)))) rfl hHeld <| tK 3 (.agg #[.int .i64 x, .slice P n1 e, .slice Q n2 f]) rfl hHeld <| tK 4 (.slice (some ad) n c) rfl hHeld <| tK 5 (.int .i64 (k : Int)) rfl hHeld <| tK 6 (.slice (some ad) k c) rfl hHeld ?_
  refine rD 7 rfl fun K9_ hK => ?_
  go_simp
  refine (HM.out _ X2.out).mono ?_; rintro e3 w3 ⟨rfl, k3⟩
  dsimp only
  have X3 : Hid (Kp w w3) := X2.out.tr k3
  clear k3
  refine hK.out _ _ (HSS.out _ X3.out) fun hHeld => ?_
  clear hK
  refine tK 8 (.bool q) rfl hHeld ?_
  refine rD 9 rfl fun K9_ hK => ?_
  go_simp
  refine hK.out _ _ (HSS.out _ X3.out) fun hHeld => ?_
  clear hK
  refine wpAnyH_done (by kernel_rfl) ?_ _
  clear hHeld HSS
  go_wp2
  go_ret
  exact ⟨rfl, X3.out⟩

/-! ### Check -/
theorem first_no (p : Nat → Bool) : ∀ n : Nat, ∃ q, q ≤ n ∧ (∀ j, j < q → p j = false) ∧ (q < n → p q = true)
  | 0 => ⟨0, Nat.le_refl _, fun j h => absurd h (Nat.not_lt_zero j), fun h => absurd h (Nat.lt_irrefl _)⟩
  | n + 1 => by
    obtain ⟨q, h1, h2, h3⟩ := first_no p n
    by_cases hq : q < n
    · exact ⟨q, by omega, h2, fun _ => h3 hq⟩
    · obtain rfl : q = n := by omega
      cases e : p q with
      | true => exact ⟨q, by omega, h2, fun _ => e⟩
      | false => exact ⟨q + 1, by omega, fun j hj => by
          rcases Nat.lt_or_ge j q with h | h
          · exact h2 j h
          · rw [show j = q by omega]; exact e, fun h => absurd h (by omega)⟩
theorem may_iff {l : List Nd} {k : Nat} (hk : k < l.length) : mayB (l.getD k nd0) (l.take k) = true ↔ tokT (l.getD k nd0).2 = true ∧ 0 ≤ (l.getD k nd0).1 ∧ (k = 0 ∨ ((l.getD (k - 1) nd0).1 < (l.getD k nd0).1 ∧ (l.getD k nd0).2.1 = (l.getD (k - 1) nd0).2.1)) := by
  have hl : (l.take k).length = k := by rw [List.length_take]; omega
  unfold mayB
  rw [hl]
  rcases Nat.eq_zero_or_pos k with h0 | h0
  · subst h0
    simp only [Bool.and_eq_true, Bool.or_eq_true, decide_eq_true_eq]
    exact ⟨fun ⟨⟨a, b⟩, _⟩ => ⟨b, a, .inl trivial⟩, fun ⟨a, b, _⟩ => ⟨⟨b, a⟩, .inl trivial⟩⟩
  · rw [show (l.take k).getD (k - 1) nd0 = l.getD (k - 1) nd0 by rw [List.getD_eq_getElem?_getD, List.getElem?_take_of_lt (by omega), List.getD_eq_getElem?_getD]]
    simp only [Bool.and_eq_true, Bool.or_eq_true, decide_eq_true_eq, beq_iff_eq]
    exact ⟨fun ⟨⟨a, b⟩, c⟩ => ⟨b, a, c⟩, fun ⟨a, b, c⟩ => ⟨⟨b, a⟩, c⟩⟩
theorem chk_may {l : List Nd} : chkV l = true ↔ l.length ≤ 16 ∧ ∀ k, k < l.length → mayB (l.getD k nd0) (l.take k) = true := by
  rw [chk_iff]
  constructor
  · rintro ⟨h1, h2⟩
    refine ⟨h1, fun k hk => (may_iff hk).2 ?_⟩
    have hc : chkV l = true := chk_iff.2 ⟨h1, h2⟩
    obtain ⟨a, b, c⟩ := ver_iff.1 (h2 k hk)
    refine ⟨a, b, c.imp id fun ⟨c1, c2⟩ => ⟨c1, ?_⟩⟩
    rw [shape_one hc (show k - 1 < l.length by omega)]; exact c2
  · rintro ⟨h1, h2⟩
    have hs : ∀ k, k < l.length → (l.getD k nd0).2.1 = (l.getD 0 nd0).2.1 := fun k => by
      induction k with
      | zero => exact fun _ => rfl
      | succ k ih =>
        intro hk
        rcases ((may_iff hk).1 (h2 _ hk)).2.2 with h | h
        · omega
        · rw [h.2, Nat.add_sub_cancel]; exact ih (by omega)
    refine ⟨h1, fun k hk => ver_iff.2 ?_⟩
    obtain ⟨a, b, c⟩ := (may_iff hk).1 (h2 k hk)
    exact ⟨a, b, c.imp id fun ⟨c1, _⟩ => ⟨c1, hs k hk⟩⟩

theorem check_v (A : Option Addr) (c n : Nat) (l : List Nd) (b : Bool) (w : World) (h : RdG w A l) (hc : l.length ≤ c ∧ c ≤ 9223372036854775807) (hn : n = l.length) (hb : chkV l = b) :
    Calls Try.prog 17 #[.slice A n c] w fun e W' => e = .returned (.bool b) ∧ Kp w W' := by
  obtain ⟨w1, hw1⟩ := eX (w.alloc (.cells #[.slice A n c] 22))
  have K1 : Hid (Kp w w1) := by rw [hw1]; exact Kp.alloc_ _ _
  have B1 : Hid (w1.cell? ⟨w.heap.size, 0, none⟩ = some (.slice A n c)) := by rw [hw1, World.cell?_alloc_at _ _ _ _ rfl]; rfl
  have L1 : Hid (w.heap.size < w1.heap.size) := by rw [hw1, World.size_alloc]; exact Nat.lt_succ_self _
  have hn9 : n ≤ 9223372036854775807 := by omega
  by_cases h16 : 16 < n
  · obtain rfl : false = b := by
      rw [← hb]
      cases e : chkV l with
      | false => rfl
      | true => have := (chk_iff.1 e).1; omega
    have h16' : (16 : Int) < (n : Int) := by omega
    have HW := lH hw1
    clear hb hc hn h h16
    clear hw1
    go_enter Try.func17, Try.ntmps17
    go_wp2
    go_ret
    exact ⟨rfl, by rw [← HW.out]; exact K1.out⟩
  · obtain ⟨q, hq, h1, h2⟩ := first_no (fun k => !mayB (l.getD k nd0) (l.take k)) n
    have hbq : (decide ((q : Int) = (n : Int))) = b := by
      rw [← hb]
      cases e : chkV l with
      | true =>
        refine decide_eq_true ?_
        by_cases hqn : q < n
        · have := h2 hqn
          rw [(chk_may.1 e).2 q (by omega)] at this
          cases this
        · omega
      | false =>
        refine decide_eq_false fun hqn => ?_
        rw [chk_may.2 ⟨by omega, fun k hk => by simpa using h1 k (by omega)⟩] at e
        cases e
    have HU : Hid (∀ W, Kp w1 W → Calls Try.prog 32 #[.slice A n c, .func (.func 30) #[] #[.pointer (some ⟨w.heap.size, 0, none⟩)]] W fun e w' => e = .returned (.int .i64 (q : Int)) ∧ Kp W w') := fun W kW =>
      upTo_any _ [.pointer (some ⟨w.heap.size, 0, none⟩)] _ A n c q W hn9 hq h1 h2 (fun args V => by simp [callFunc, go_sem]; try rfl) fun k V hk kV =>
        check1 A n c k w.heap.size l _ V (h.kp ((K1.out.tr kW).tr kV)) hn hc hk (((kW.tr kV).cell (show (⟨w.heap.size, 0, none⟩ : Addr).block < _ from L1.out)).trans B1.out) (Nat.lt_of_lt_of_le L1.out (kW.tr kV).size) rfl
    have hmf : ∀ (fn : Fn) (first cap : Array Value) (V : World), (Instr.makeFunc fn first cap).run Try.prog V = .ok (.func fn first cap) V := fun _ _ _ _ => rfl
    have h16' : decide ((16 : Int) < (n : Int)) = false := decide_eq_false (by omega)
    have HW := lH hw1
    have HBQ := lH hbq
    have HSS : Hid (∀ V, Kp w1 V → V.cell? ⟨w.heap.size, 0, none⟩ = some (.slice A n c)) := fun V kV => (kV.cell (show (⟨w.heap.size, 0, none⟩ : Addr).block < _ from L1.out)).trans B1.out
    have H0 := lH (HSS.out _ (Below.drew (Kp.refl w1)))
    have q0 := B1.out
    clear hb hc hn h hw1 hbq h1 h2 hq h16
    go_enter Try.func17, Try.ntmps17
    go_wp2_with fail
    rw [← HW.out]
    refine wp_region_held_drew (S := fun V => V.cell? ⟨w.heap.size, 0, none⟩ = some (.slice A n c)) (by kernel_rfl) H0.out (fun hHeld => ?_)
    have X2 : Hid (Kp w1 w1.drew) := Below.drew (Kp.refl _)
    generalize w1.drew = V0 at X2 hHeld ⊢
    refine tK 0 (.slice A n c) rfl hHeld <| tK 1 (.func (.func 30) #[] #[.pointer (some ⟨w.heap.size, 0, none⟩)]) rfl hHeld <| tK 3 (.slice A n c) rfl hHeld <| tK 4 (.int .i64 (n : Int)) rfl hHeld ?_
    refine rD 2 rfl fun K9_ hK => ?_
    go_simp
    refine (HU.out _ X2.out).mono ?_; rintro e3 w3 ⟨rfl, k3⟩
    dsimp only
    have X3 : Hid (Kp w1 w3) := X2.out.tr k3
    clear k3
    refine hK.out _ _ (HSS.out _ X3.out) fun hHeld => ?_
    clear hK
    refine rD 5 rfl fun K9_ hK => ?_
    go_simp
    refine hK.out _ _ (HSS.out _ X3.out) fun hHeld => ?_
    clear hK
    refine rD 6 rfl fun K9_ hK => ?_
    go_simp
    refine hK.out _ _ (HSS.out _ X3.out) fun hHeld => ?_
    clear hK
    refine wpAnyH_done (by kernel_rfl) ?_ _
    clear hHeld HSS
    go_wp2
    go_ret
    exact ⟨by rw [← HBQ.out]; congr, K1.out.tr X3.out⟩

/-! ### parted, Newer -/
theorem parted1 (A : Option Addr) (n c k b d : Nat) (l : List Nd) (s : Int) (q : Bool) (w : World) (h : RdG w A l) (hn : n = l.length) (hk : k < n) (hb : w.cell? ⟨b, 0, none⟩ = some (.slice A n c)) (hd : w.cell? ⟨d, 0, none⟩ = some (.int .i64 s)) (hq : decide (s < (l.getD k nd0).1) = q) :
    Calls Try.prog 33 #[.int .i64 (k : Int), .pointer (some ⟨b, 0, none⟩), .pointer (some ⟨d, 0, none⟩)] w fun e w' => e = .returned (.bool q) ∧ Kp w w' := by
  obtain ⟨ad, P, e, Q, f, rfl, had, y0, _, _, _⟩ := h.atv (show k < l.length by omega)
  obtain ⟨x, hx⟩ := eX (l.getD k nd0).1
  rw [← hx] at y0 hq
  have hk' : (k : Int) < (n : Int) := by omega
  clear hx h hn hk
  cases q <;>
  · go_enter Try.func33, Try.ntmps33
    go_wp2_with fail
    go_quiet (fail)
    go_wp2
    go_ret
    exact ⟨rfl, Kp.drewN_ _ _⟩
theorem parted_no (A : Option Addr) (c n : Nat) (l : List Nd) (s : Int) (w : World) (h : RdG w A l) (hc : l.length ≤ c ∧ c ≤ 9223372036854775807) (hn : n = l.length) (hb : chkV l = false) :
    Calls Try.prog 24 #[.slice A n c, .int .i64 s] w fun e W' => e = .returned (.tuple #[.slice none 0 0, .slice none 0 0]) ∧ Kp w W' := by
  have K1 : Hid (Kp w ((w.alloc (.cells #[.slice A n c] 22)).alloc (.cells #[.int .i64 s] 3))) := (Kp.alloc_ _ _).tr (Kp.alloc_ _ _)
  have HC : Hid (∀ W, Kp w W → Calls Try.prog 17 #[.slice A n c] W fun e w' => e = .returned (.bool false) ∧ Kp W w') := fun W kW => check_v A c n l false W (h.kp kW) hc hn hb
  clear h hc hn hb
  go_enter Try.func24, Try.ntmps24
  go_wp2_with fail
  refine (HC.out _ K1.out).mono ?_; rintro e w1 ⟨rfl, k1⟩
  have K2 := lH (K1.out.tr k1)
  clear k1
  go_wp2
  go_ret2
  exact ⟨rfl, K2.out⟩
theorem parted_v (A : Option Addr) (c n q : Nat) (l : List Nd) (s : Int) (w : World) (h : RdG w A l) (hc : l.length ≤ c ∧ c ≤ 9223372036854775807) (hn : n = l.length) (hb : chkV l = true) (hq : q ≤ n) (h1 : ∀ j, j < q → decide (s < (l.getD j nd0).1) = false) (h2 : q < n → decide (s < (l.getD q nd0).1) = true) :
    Calls Try.prog 24 #[.slice A n c, .int .i64 s] w fun e W' => e = .returned (.tuple #[.slice A q c, .slice (cutV A c q) (n - q) (c - q)]) ∧ Kp w W' := by
  obtain ⟨w1, hw1⟩ := eX ((w.alloc (.cells #[.slice A n c] 22)).alloc (.cells #[.int .i64 s] 3))
  have K1 : Hid (Kp w w1) := by rw [hw1]; exact (Kp.alloc_ _ _).tr (Kp.alloc_ _ _)
  have L1 : Hid (w.heap.size + 1 < w1.heap.size) := by rw [hw1, World.size_alloc, World.size_alloc]; exact Nat.lt_succ_self _
  have B1 : Hid (w1.cell? ⟨w.heap.size, 0, none⟩ = some (.slice A n c)) := by
    rw [hw1]; exact ((Kp.alloc_ _ _).cell (show (⟨w.heap.size, 0, none⟩ : Addr).block < _ by rw [World.size_alloc]; exact Nat.lt_succ_self _)).trans (by rw [World.cell?_alloc_at _ _ _ _ rfl]; rfl)
  have B2 : Hid (w1.cell? ⟨w.heap.size + 1, 0, none⟩ = some (.int .i64 s)) := by
    rw [hw1]; rw [World.cell?_alloc_at _ _ _ _ (by rw [World.size_alloc])]; rfl
  have hn9 : n ≤ 9223372036854775807 := by omega
  have HC : Hid (∀ W, Kp w W → Calls Try.prog 17 #[.slice A n c] W fun e w' => e = .returned (.bool true) ∧ Kp W w') := fun W kW => check_v A c n l true W (h.kp kW) hc hn hb
  have HSS : Hid (∀ V, Kp w1 V → V.cell? ⟨w.heap.size, 0, none⟩ = some (.slice A n c) ∧ V.cell? ⟨w.heap.size + 1, 0, none⟩ = some (.int .i64 s)) := fun V kV =>
    ⟨(kV.cell (show (⟨w.heap.size, 0, none⟩ : Addr).block < _ by show w.heap.size < _; have := L1.out; omega)).trans B1.out, (kV.cell (show (⟨w.heap.size + 1, 0, none⟩ : Addr).block < _ from L1.out)).trans B2.out⟩
  have HU : Hid (∀ W, Kp w1 W → Calls Try.prog 32 #[.slice A n c, .func (.func 33) #[] #[.pointer (some ⟨w.heap.size, 0, none⟩), .pointer (some ⟨w.heap.size + 1, 0, none⟩)]] W fun e w' => e = .returned (.int .i64 (q : Int)) ∧ Kp W w') := fun W kW =>
    upTo_any _ [.pointer (some ⟨w.heap.size, 0, none⟩), .pointer (some ⟨w.heap.size + 1, 0, none⟩)] _ A n c q W hn9 hq h1 h2 (fun args V => by simp [callFunc, go_sem]; try rfl) fun k V hk kV =>
      parted1 A n c k w.heap.size (w.heap.size + 1) l s _ V (h.kp ((K1.out.tr kW).tr kV)) hn hk (HSS.out _ (kW.tr kV)).1 (HSS.out _ (kW.tr kV)).2 rfl
  have hmf : ∀ (fn : Fn) (first cap : Array Value) (V : World), (Instr.makeFunc fn first cap).run Try.prog V = .ok (.func fn first cap) V := fun _ _ _ _ => rfl
  have hcut : ∀ W, (Instr.sliceAt 22 (.slice A n c) none (some (.int .i64 (q : Int))) none).run Try.prog W = .ok (.slice A q c) W := fun W => run_hi W _ _ _ _ (by omega)
  obtain ⟨C, hC⟩ := eX (cutV A c q)
  obtain ⟨m, hm⟩ := eX (n - q)
  obtain ⟨d, hd⟩ := eX (c - q)
  rw [← hC, ← hm, ← hd]
  have hcut2 : ∀ W, (Instr.sliceAt 22 (.slice A n c) (some (.int .i64 (q : Int))) none none).run Try.prog W = .ok (.slice C m d) W := fun W => by rw [hC, hm, hd]; exact run_lo W _ _ _ _ hq
  have HW := lH hw1
  clear h hc hn hb h1 h2 hw1 hq hC hm hd
  go_enter Try.func24, Try.ntmps24
  go_wp2_with fail
  rw [← HW.out]
  refine (HC.out _ K1.out).mono ?_; rintro e w2 ⟨rfl, k2⟩
  have q0 := (HSS.out _ k2).1
  have K2 := lH k2
  clear k2
  go_wp2_with fail
  refine (HU.out _ K2.out).mono ?_; rintro e w3 ⟨rfl, k3⟩
  have K3 := lH (K2.out.tr k3)
  replace q0 := (HSS.out _ K3.out).1
  clear k3
  go_wp2_with fail
  go_quiet (fail)
  go_wp2
  go_ret2
  exact ⟨rfl, (K1.out.tr K3.out).tr (Kp.drewN_ _ _)⟩
/-- How many are not behind a stamp. -/
theorem part_ex (l : List Nd) (s : Int) (n : Nat) : ∃ q, q ≤ n ∧ (∀ j, j < q → decide (s < (l.getD j nd0).1) = false) ∧ (q < n → decide (s < (l.getD q nd0).1) = true) := first_no (fun j => decide (s < (l.getD j nd0).1)) n
theorem newer_part {l : List Nd} (hc : chkV l = true) {s : Int} {q : Nat} (hq : q ≤ l.length) (h1 : ∀ j, j < q → decide (s < (l.getD j nd0).1) = false) (h2 : q < l.length → decide (s < (l.getD q nd0).1) = true) : newerC l s = decide (0 < ((l.length - q : Nat) : Int)) := by
  unfold newerC
  rw [hc, Bool.true_and]
  by_cases hl : q < l.length
  · have h3 := of_decide_eq_true (h2 hl)
    have : s < (l.getD (l.length - 1) nd0).1 := by
      rcases Nat.eq_or_lt_of_le (show q ≤ l.length - 1 by omega) with e | e
      · rw [← e]; exact h3
      · have := rises' hc e (by omega); omega
    rw [decide_eq_true this, decide_eq_true (show 0 < l.length by omega), decide_eq_true (show (0 : Int) < ((l.length - q : Nat) : Int) by omega)]; rfl
  · rw [decide_eq_false (show ¬ (0 : Int) < ((l.length - q : Nat) : Int) by omega)]
    rcases Nat.eq_zero_or_pos l.length with h0 | h0
    · rw [h0]; rfl
    · rw [h1 (l.length - 1) (by omega), Bool.and_false]
theorem newer_v (A : Option Addr) (c n : Nat) (l : List Nd) (s : Int) (b : Bool) (w : World) (h : RdG w A l) (hc : l.length ≤ c ∧ c ≤ 9223372036854775807) (hn : n = l.length) (hb : newerC l s = b) :
    Calls Try.prog 19 #[.slice A n c, .int .i64 s] w fun e W' => e = .returned (.bool b) ∧ Kp w W' := by
  cases hk : chkV l with
  | false =>
    obtain rfl : false = b := by rw [← hb]; unfold newerC; rw [hk]; rfl
    have HP : Hid _ := parted_no A c n l s w h hc hn hk
    clear h hc hn hb hk
    go_enter Try.func19, Try.ntmps19
    go_wp2_with fail
    refine Calls.mono HP.out ?_; rintro e w1 ⟨rfl, k1⟩
    have K1 := lH k1
    clear k1
    go_wp2
    go_ret
    exact ⟨rfl, K1.out⟩
  | true =>
    obtain ⟨q, hq, h1, h2⟩ := part_ex l s n
    have HP : Hid _ := parted_v A c n q l s w h hc hn hk hq h1 h2
    rw [newer_part hk (by omega) h1 (by rw [← hn]; exact h2), ← hn] at hb
    have HB := lH hb
    have hm9 : n - q ≤ 9223372036854775807 := by omega
    generalize n - q = m at HP HB hm9
    generalize cutV A c q = C at HP
    generalize c - q = d at HP
    clear h hc hn hb hk h1 h2 hq
    go_enter Try.func19, Try.ntmps19
    go_wp2_with fail
    refine Calls.mono HP.out ?_; rintro e w1 ⟨rfl, k1⟩
    have K1 := lH k1
    clear k1
    go_wp2
    go_ret
    exact ⟨by rw [← HB.out, show decide ((0 : Int) < (m : Int)) = decide (0 < m) from decide_eq_decide.2 (by omega)]; rfl, K1.out⟩
end Go.Proofs.Ytdcpekkkenckeaa.Cz
