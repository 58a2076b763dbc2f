/- ImageSizes, over the contracts of the calls. -/
import Derived.Test.YtlbnbamgfffahaaImApart
namespace Go.Proofs.Ytlbnbamgfffahaa
open Go.RowKit Go.Proofs.ShM Go.Proofs.PkM Go.Proofs.ImM
set_option linter.unusedVariables false

theorem B8.Rd.take_ {w : World} {A : Option Addr} {xs : List Int} (h : B8.Rd w A xs) (k : Nat) : B8.Rd w A (xs.take k) := by
  refine ⟨by rw [List.length_take]; have := h.1; omega, fun hp => ?_⟩
  rw [List.length_take] at hp
  obtain ⟨ad, e, hb, hc⟩ := h.2 (by omega)
  refine ⟨ad, e, hb, fun j u hj => ?_⟩
  rw [List.getElem?_take] at hj
  split at hj
  · exact hc j u hj
  · cases hj
set_option maxHeartbeats 4000000 in
theorem imsizes_few (HW : ∀ w : World, Calls Try.prog 8 #[] w fun e w' => e = .returned (.bool true) ∧ Kp w w') (P Q : Option Addr) (c d n m : Nat) (cut : Int) (w : World) (hn : n ≤ 9223372036854775807) (hm : m ≤ 9223372036854775807) (h : 100 < n ∨ 100 < m) :
    Calls Try.prog 5 #[.agg #[.slice P n c, .slice Q m d], .int .u16 cut] w fun e w' => e = .returned (.bool true) ∧ Kp w w' := by
  have HAW := Lib.hid HW
  have F0 := Lib.hid (Bk.new (W := w) (b := w.heap.size) (A := P) (n := n) (c := c) (B := Q) (m := m) (d := d) rfl)
  have K0 : Hid (Kp w (w.alloc (.cells #[.slice P n c, .slice Q m d] 26))) := Kp.alloc_ _ _
  have HF := Lib.hid (fun W => few_no (A := P) (B := Q) (c := c) (d := d) (W := W) hn hm h)
  clear HW h hn hm
  go_enter Try.func5, Try.ntmps5
  go_wp2_with fail
  refine (HAW.out _).mono ?_; rintro e0 w1 ⟨rfl, k1⟩
  have K1 := Lib.hid (K0.out.tr k1)
  have p0 := (F0.out.kp k1).c0
  have p1 := (F0.out.kp k1).c1
  clear k1
  go_wp2_with fail
  refine (HF.out _).mono ?_; rintro e0 w2 ⟨rfl, k2⟩
  have K2 := Lib.hid (K1.out.tr k2)
  clear k2
  go_wp2
  go_ret
  exact ⟨rfl, K2.out⟩
set_option maxHeartbeats 4000000 in
theorem imsizes_tok (HW : ∀ w : World, Calls Try.prog 8 #[] w fun e w' => e = .returned (.bool true) ∧ Kp w w') (P Q : Option Addr) (c d n m : Nat) (cut : Int) (w : World) (hn : n ≤ 100) (hm : m ≤ 100)
    (HC : Hid (∀ W, Kp w W → Calls Try.prog 21 #[.agg #[.slice P n c, .slice Q m d]] W fun e w' => e = .returned (.bool false) ∧ Kp W w')) :
    Calls Try.prog 5 #[.agg #[.slice P n c, .slice Q m d], .int .u16 cut] w fun e w' => e = .returned (.bool true) ∧ Kp w w' := by
  have HAW := Lib.hid HW
  have F0 := Lib.hid (Bk.new (W := w) (b := w.heap.size) (A := P) (n := n) (c := c) (B := Q) (m := m) (d := d) rfl)
  have K0 : Hid (Kp w (w.alloc (.cells #[.slice P n c, .slice Q m d] 26))) := Kp.alloc_ _ _
  have HF := Lib.hid (fun W => few_yes (A := P) (B := Q) (c := c) (d := d) (W := W) hn hm)
  clear HW hn hm
  go_enter Try.func5, Try.ntmps5
  go_wp2_with fail
  refine (HAW.out _).mono ?_; rintro e0 w1 ⟨rfl, k1⟩
  have K1 := Lib.hid (K0.out.tr k1)
  have F1 := Lib.hid (F0.out.kp k1)
  have p0 := F1.out.c0
  have p1 := F1.out.c1
  clear k1
  go_wp2_with fail
  refine (HF.out _).mono ?_; rintro e0 w2 ⟨rfl, k2⟩
  have K2 := Lib.hid (K1.out.tr k2)
  have p0 := (F1.out.kp k2).c0
  have p1 := (F1.out.kp k2).c1
  clear k2
  go_wp2_with fail
  refine (HC.out _ K2.out).mono ?_; rintro e0 w3 ⟨rfl, k3⟩
  have K3 := Lib.hid (K2.out.tr k3)
  clear k3
  go_wp2
  go_ret
  exact ⟨rfl, K3.out⟩

set_option maxHeartbeats 8000000 in
theorem imsizes_with (P Q : Option Addr) (c d n m L k : Nat) (cut : Int) (b : List Int) (w : World) (hn : n ≤ 100) (hm : m ≤ 100) (hL : L = 1 + n + 8 * m) (hk : k < L) (hck : cut % (1 + (n : Int) + 8 * (m : Int)) = (k : Int)) (hc0 : 0 ≤ cut) (hc1 : cut ≤ 65535)
    (HW : Hid (∀ w : World, Calls Try.prog 8 #[] w fun e w' => e = .returned (.bool true) ∧ Kp w w'))
    (LB : Hid (b.length = L))
    (HC : Hid (∀ W, Kp w W → Calls Try.prog 21 #[.agg #[.slice P n c, .slice Q m d]] W fun e w' => e = .returned (.bool true) ∧ Kp W w'))
    (C1 : Hid (∀ W, Kp w W → Calls Try.prog 11 #[.slice none 0 0, .agg #[.slice P n c, .slice Q m d]] W (RetB b 0 L W)))
    (C2 : Hid (∀ W D c0, B8.Rd W D (b.take k) → k ≤ c0 → c0 ≤ 9223372036854775807 → Calls Try.prog 15 #[.slice D k c0] W (RetTB [] [] [] 50 0 0 0 W))) :
    Calls Try.prog 5 #[.agg #[.slice P n c, .slice Q m d], .int .u16 cut] w fun e w' => e = .returned (.bool true) ∧ Kp w w' := by
  have F0 := Lib.hid (Bk.new (W := w) (b := w.heap.size) (A := P) (n := n) (c := c) (B := Q) (m := m) (d := d) rfl)
  have K0 : Hid (Kp w (w.alloc (.cells #[.slice P n c, .slice Q m d] 26))) := Kp.alloc_ _ _
  have HF := Lib.hid (fun W => few_yes (A := P) (B := Q) (c := c) (d := d) (W := W) hn hm)
  go_enter Try.func5, Try.ntmps5
  go_wp2_with fail
  refine (HW.out _).mono ?_; rintro e0 w1 ⟨rfl, k1⟩
  have K1 := Lib.hid (K0.out.tr k1)
  have F1 := Lib.hid (F0.out.kp k1)
  have p0 := F1.out.c0
  have p1 := F1.out.c1
  clear k1
  go_wp2_with fail
  refine (HF.out _).mono ?_; rintro e0 w2 ⟨rfl, k2⟩
  have K2 := Lib.hid (K1.out.tr k2)
  have F2 := Lib.hid (F1.out.kp k2)
  have p0 := F2.out.c0
  have p1 := F2.out.c1
  clear k2
  go_wp2_with fail
  refine (HC.out _ K2.out).mono ?_; rintro e0 w3 ⟨rfl, k3⟩
  have K3 := Lib.hid (K2.out.tr k3)
  have F3 := Lib.hid (F2.out.kp k3)
  have p0 := F3.out.c0
  have p1 := F3.out.c1
  clear k3
  go_wp2_with fail
  refine (C1.out _ K3.out).mono ?_; rintro e0 w4 ⟨A4, c4, rfl, r4, l4, k4⟩
  have K4 := Lib.hid (K3.out.tr k4)
  have F4 := Lib.hid (F3.out.kp k4)
  have p0 := F4.out.c0
  have p1 := F4.out.c1
  have lc1 : L ≤ c4 := by have := l4.out.1; rw [LB.out] at this; exact this
  have lc2 := l4.out.2
  clear k4
  have hkc : (k : Int) ≤ (c4 : Int) := by omega
  have hkn : k ≤ c4 := by omega
  have RB := Lib.hid (r4.out.take_ k)
  clear r4 l4 hk
  go_wp2_with fail
  refine (C2.out _ A4 c4 RB.out hkn lc2).mono ?_; rintro e0 w5 ⟨P5, c5, Q5, d5, R5, f5, rfl, _, _, _, k5⟩
  have F5 : Hid (Bk (w5.alloc (.cells #[.slice P5 0 c5, .slice Q5 0 d5] 26)) w5.heap.size P5 0 c5 Q5 0 d5) := Bk.new rfl
  have K5 : Hid (Kp w (w5.alloc (.cells #[.slice P5 0 c5, .slice Q5 0 d5] 26))) := (K4.out.tr k5).al _
  have q0 := F5.out.c0
  have q1 := F5.out.c1
  clear k5 p0 p1
  go_wp2
  go_ret
  exact ⟨rfl, K5.out⟩
theorem imsizes_walk (C : ImC) (P Q : Option Addr) (c d : Nat) (t : T) (cut : Int) (w : World) (hT : TR w P t.1 Q t.2) (n1 : N64 t.1) (n2 : N64 t.2) (hc0 : 0 ≤ cut) (hc1 : cut ≤ 65535) :
    Calls Try.prog 5 #[.agg #[.slice P t.1.length c, .slice Q t.2.length d], .int .u16 cut] w fun e w' => e = .returned (.bool true) ∧ Kp w w' := by
  have ls := hT.s.len
  have ld := hT.d.len
  by_cases h : 100 < t.1.length ∨ 100 < t.2.length
  · exact imsizes_few (imawake_any C) P Q c d _ _ cut w ls ld h
  have HCK : Hid (∀ W, Kp w W → Calls Try.prog 21 #[.agg #[.slice P t.1.length c, .slice Q t.2.length d]] W fun e w' => e = .returned (.bool (tokT t)) ∧ Kp W w') := fun W k => tcheck_u t.1 t.2 (hT.kp k) rfl rfl rfl
  cases htok : tokT t with
  | false =>
    rw [htok] at HCK
    exact imsizes_tok (imawake_any C) P Q c d _ _ cut w (by omega) (by omega) HCK
  | true =>
    rw [htok] at HCK
    have hlen := tn_len t
    have hL : (1 + (t.1.length : Int) + 8 * (t.2.length : Int)) = ((1 + t.1.length + 8 * t.2.length : Nat) : Int) := by push_cast; rfl
    obtain ⟨k, hk⟩ : ∃ k : Nat, cut % (1 + (t.1.length : Int) + 8 * (t.2.length : Int)) = (k : Int) := ⟨(cut % (1 + (t.1.length : Int) + 8 * (t.2.length : Int))).toNat, by rw [Int.toNat_of_nonneg (Int.emod_nonneg _ (by omega))]⟩
    have hkl : k < 1 + t.1.length + 8 * t.2.length := by
      have := Int.emod_lt_of_pos cut (show 0 < (1 + (t.1.length : Int) + 8 * (t.2.length : Int)) by omega)
      omega
    have hv : itakeV ((tnB t).take k) = (([], []), [], 50) := by
      unfold itakeV
      rw [cut_none htok n2 (by omega)]
    have hp : iputV [] t = (tnB t, 0) := by unfold iputV; rw [if_pos htok]; rfl
    have hb := tn_bytes (t := t) (by omega)
    refine imsizes_with P Q c d t.1.length t.2.length (1 + t.1.length + 8 * t.2.length) k cut (tnB t) w (by omega) (by omega) rfl hkl hk hc0 hc1 (imawake_any C) hlen HCK ?_ ?_
    · exact fun W k => C.put none P Q 0 0 _ c _ d [] t (tnB t) 0 _ W (B8.Rd.nil _ _) (by simp) (by simp) (by simp) (fun _ h => by cases h) (hT.kp k) (by omega) (by omega) n1 n2 rfl rfl rfl hp hlen
    · exact fun W D c0 r h1 h2 => C.take D c0 k ((tnB t).take k) ([], []) [] 50 0 0 0 W r (by rw [List.length_take]; omega) h2 (by rw [List.length_take]; omega) (fun x hx => hb x (List.mem_of_mem_take hx)) (by rw [List.length_take]; omega) hv rfl rfl rfl
end Go.Proofs.Ytlbnbamgfffahaa
