/- The document's layer 17: Read, Newer, Trim. -/
import Derived.Test.YtdcpekkkenckeaaR17A
namespace Go.Proofs.Ytdcpekkkenckeaa
open Go.RowKit Go.Proofs.ShM Go.Proofs.GrM Go.Proofs.ImM Go.Proofs.ChM
set_option linter.unusedVariables false
set_option maxRecDepth 100000
set_option maxHeartbeats 4000000

/-- A tensor, and whether it is there. -/
def RetTB (t : T) (b : Bool) (x y : Nat) (w : World) (e : Ending) (w' : World) : Prop :=
  ∃ P c Q d, e = .returned (.tuple #[.agg #[.slice P x c, .slice Q y d], .bool b]) ∧ Hid (TRm w' P c Q d t) ∧ Kp w w'
/-- Versions that lie in memory. -/
def RetV (l : List Nd) (k : Nat) (w : World) (e : Ending) (w' : World) : Prop :=
  ∃ A c, e = .returned (.slice A k c) ∧ Hid (RdG w' A l) ∧ Hid (l.length ≤ c ∧ c ≤ 9223372036854775807) ∧ Kp w w'
/-- Versions, and an error. -/
def RetVe (l : List Nd) (err : Int) (k : Nat) (w : World) (e : Ending) (w' : World) : Prop :=
  ∃ A c, e = .returned (.tuple #[.slice A k c, .int .i64 err]) ∧ Hid (RdG w' A l) ∧ Hid (l.length ≤ c ∧ c ≤ 9223372036854775807) ∧ Kp w w'
theorem TRm.set2 {w : World} {P Q : Option Addr} {c d b : Nat} {t : T} (h : TRm w P c Q d t) {A B : Option Addr} {n n' m m' : Nat} (g : Bk w b A n n' B m m') (x y : Value) : TRm ((w.setCell ⟨b, 0, none⟩ x).setCell ⟨b, 1, none⟩ y) P c Q d t := ⟨h.r.past g x y, h.c1, h.c2⟩
theorem Kp.set2 {w w' : World} (h : Kp w w') {b : Nat} (hb : w.heap.size ≤ b) (x y : Value) : Kp w ((w'.setCell ⟨b, 0, none⟩ x).setCell ⟨b, 1, none⟩ y) := (h.setCell (p := ⟨b, 0, none⟩) hb _).setCell (p := ⟨b, 1, none⟩) hb _
theorem rread17_any (A : Option Addr) (n c : Nat) (l : List Nd) (s : Int) (t : T) (b : Bool) (x y : Nat) (w : World) (h : RdG w A l) (hn : n = l.length) (hq : readC l s = (t, b)) (hx : t.1.length = x) (hy : t.2.length = y) :
    Calls Try.prog 12 #[.slice A n c, .int .i64 s] w (RetTB t b x y w) := by
  have hl := h.len
  have F0 : Hid (Bk (w.alloc (.cells #[.slice none 0 0, .slice none 0 0] 25)) w.heap.size none 0 0 none 0 0) := Bk.new rfl
  have K0 : Hid (Kp w (w.alloc (.cells #[.slice none 0 0, .slice none 0 0] 25))) := Kp.alloc_ _ _
  obtain ⟨u, hu⟩ : ∃ u, u = chkV l := ⟨_, rfl⟩
  obtain ⟨a, ha⟩ : ∃ a, a = atC l s := ⟨_, rfl⟩
  have HC : Hid (∀ W, Kp w W → Calls Try.prog 18 #[.slice A n c] W fun e w' => e = .returned (.bool u) ∧ Kp W w') := fun W kW => rcheck17_any A n c l W (h.kp kW) hn hu.symm
  have HA : Hid (∀ W, Kp w W → Calls Try.prog 26 #[.slice A n c, .int .i64 s] W fun e w' => e = .returned (.int .i64 a) ∧ w' = W) := fun W kW => rat17_any A n c l s W (h.kp kW) hn ha.symm
  unfold readC at hq
  rw [← hu, ← ha] at hq
  have fin : ∀ W, Kp w W → Bk W w.heap.size none 0 0 none 0 0 → t = cT → b = false → ∃ P c Q d, Ending.returned (.tuple #[.agg #[.slice none 0 0, .slice none 0 0], .bool false]) = .returned (.tuple #[.agg #[.slice P x c, .slice Q y d], .bool b]) ∧ Hid (TRm ((W.setCell ⟨w.heap.size, 0, none⟩ (.slice none 0 0)).setCell ⟨w.heap.size, 1, none⟩ (.slice none 0 0)) P c Q d t) ∧ Kp w ((W.setCell ⟨w.heap.size, 0, none⟩ (.slice none 0 0)).setCell ⟨w.heap.size, 1, none⟩ (.slice none 0 0)) := by
    intro W kW _ e1 e2
    subst e1 e2
    obtain rfl : 0 = x := hx
    obtain rfl : 0 = y := hy
    exact ⟨none, 0, none, 0, rfl, (⟨TR.nil_, by decide, by decide⟩ : TRm _ none 0 none 0 cT), kW.set2 (Nat.le_refl _) _ _⟩
  by_cases g : u = true ∧ 0 ≤ a
  · rw [if_pos g] at hq
    obtain ⟨rfl, g2⟩ := g
    rcases at_cases l s with ⟨e, _⟩ | ⟨k, hk, e, _, _⟩
    · omega
    rw [← ha] at e
    subst e
    injection hq with e1 e2
    subst e1 e2
    rw [Int.toNat_natCast] at hx hy ⊢
    have HR := Lib.hid h
    have hk' : (k : Int) < (n : Int) := by omega
    have hn' : n ≤ 9223372036854775807 := by omega
    have hk0 : decide ((k : Int) < 0) = false := decide_eq_false (by omega)
    have HK : Hid (k < l.length) := hk
    clear hu ha h hn fin hk g2 hl
    go_enter Try.func12, Try.ntmps12
    go_wp2_with fail
    refine (HC.out _ K0.out).mono ?_; rintro e w1 ⟨rfl, k1⟩
    have K1 := Lib.hid (K0.out.tr k1)
    have F1 := Lib.hid (F0.out.kp k1)
    clear k1
    go_wp2_with fail
    refine (HA.out _ K1.out).mono ?_; rintro e w2 ⟨rfl, e2⟩
    obtain rfl := e2
    obtain ⟨ad, P, e, Q, f, rfl, hlt, hc0, hc1, hc2, hTR⟩ := (HR.out.kp K1.out).atv HK.out
    have HT := Lib.hid hTR
    rw [hx] at hc1
    rw [hy] at hc2
    have q0 := F1.out.c0
    have q1 := F1.out.c1
    have u0 := F1.out.f0 0
    have u1 := F1.out.f0 1
    clear hTR hc0
    go_wp2
    have HZ := F1.out.put (C := P) (n' := x) (c' := e) (D := Q) (m' := y) (d' := f)
    have z0 := HZ.c0
    have z1 := HZ.c1
    refine bodyPost_ret (v := .tuple #[.agg #[.slice P x e, .slice Q y f], .bool true]) (by simp [results, Try.results12, go_sem, z0, z1]; try rfl) rfl ?_
    exact ⟨P, e, Q, f, rfl, HT.out.set2 F1.out _ _, K1.out.set2 (Nat.le_refl _) _ _⟩
  · rw [if_neg g] at hq
    injection hq with e1 e2
    have HF := Lib.hid (fun W h1 h2 => fin W h1 h2 e1.symm e2.symm)
    have hc : u = false ∨ decide (a < 0) = true := by
      cases u with
      | false => exact .inl rfl
      | true => exact .inr (decide_eq_true (by by_cases h0 : 0 ≤ a; exact absurd ⟨rfl, h0⟩ g; omega))
    clear hu ha h hn fin e1 e2 hx hy g hl
    cases u with
    | false =>
      clear hc
      go_enter Try.func12, Try.ntmps12
      go_wp2_with fail
      refine (HC.out _ K0.out).mono ?_; rintro e w1 ⟨rfl, k1⟩
      have K1 := Lib.hid (K0.out.tr k1)
      have F1 := Lib.hid (F0.out.kp k1)
      clear k1
      go_wp2_with fail
      refine (HA.out _ K1.out).mono ?_; rintro e w2 ⟨rfl, e2⟩
      obtain rfl := e2
      have q0 := F1.out.c0
      have q1 := F1.out.c1
      have u0 := F1.out.f0 0
      have u1 := F1.out.f0 1
      go_wp2
      have HZ := F1.out.put (C := none) (n' := 0) (c' := 0) (D := none) (m' := 0) (d' := 0)
      have z0 := HZ.c0
      have z1 := HZ.c1
      refine bodyPost_ret (v := .tuple #[.agg #[.slice none 0 0, .slice none 0 0], .bool false]) (by simp [results, Try.results12, go_sem, z0, z1]; try rfl) rfl ?_
      exact HF.out _ K1.out F1.out
    | true =>
      have ha0 : decide (a < 0) = true := by
        rcases hc with h | h
        · cases h
        · exact h
      clear hc
      go_enter Try.func12, Try.ntmps12
      go_wp2_with fail
      refine (HC.out _ K0.out).mono ?_; rintro e w1 ⟨rfl, k1⟩
      have K1 := Lib.hid (K0.out.tr k1)
      have F1 := Lib.hid (F0.out.kp k1)
      clear k1
      go_wp2_with fail
      refine (HA.out _ K1.out).mono ?_; rintro e w2 ⟨rfl, e2⟩
      obtain rfl := e2
      have q0 := F1.out.c0
      have q1 := F1.out.c1
      have u0 := F1.out.f0 0
      have u1 := F1.out.f0 1
      go_wp2
      have HZ := F1.out.put (C := none) (n' := 0) (c' := 0) (D := none) (m' := 0) (d' := 0)
      have z0 := HZ.c0
      have z1 := HZ.c1
      refine bodyPost_ret (v := .tuple #[.agg #[.slice none 0 0, .slice none 0 0], .bool false]) (by simp [results, Try.results12, go_sem, z0, z1]; try rfl) rfl ?_
      exact HF.out _ K1.out F1.out

/-! ### Newer -/
theorem rnewer17_any (A : Option Addr) (n c : Nat) (l : List Nd) (s : Int) (b : Bool) (w : World) (h : RdG w A l) (hn : n = l.length) (hq : newerC l s = b) :
    Calls Try.prog 20 #[.slice A n c, .int .i64 s] w fun e w' => e = .returned (.bool b) ∧ Kp w w' := by
  have hl := h.len
  obtain ⟨u, hu⟩ : ∃ u, u = chkV l := ⟨_, rfl⟩
  have HC : Hid (Calls Try.prog 18 #[.slice A n c] w fun e w' => e = .returned (.bool u) ∧ Kp w w') := rcheck17_any A n c l w h hn hu.symm
  unfold newerC at hq
  rw [← hu] at hq
  have hn' : n ≤ 9223372036854775807 := by omega
  cases u with
  | false =>
    obtain rfl : b = false := hq.symm
    clear hu hn hl h hq
    go_enter Try.func20, Try.ntmps20
    go_wp2_with fail
    refine (Hid.out HC).mono ?_; rintro e w1 ⟨rfl, k1⟩
    have K1 := Lib.hid k1
    clear k1
    go_wp2
    go_ret
    exact ⟨rfl, K1.out⟩
  | true =>
    by_cases h0 : n = 0
    · subst h0
      obtain rfl : b = false := by rw [← hq, show decide (0 < l.length) = false from decide_eq_false (by omega)]; rfl
      clear hu hn hl h hq
      go_enter Try.func20, Try.ntmps20
      go_wp2_with fail
      refine (Hid.out HC).mono ?_; rintro e w1 ⟨rfl, k1⟩
      have K1 := Lib.hid k1
      clear k1
      go_wp2
      go_ret
      exact ⟨rfl, K1.out⟩
    · obtain ⟨m, rfl⟩ : ∃ m, n = m + 1 := ⟨n - 1, by omega⟩
      have hm : m < l.length := by omega
      rw [show decide (0 < l.length) = true from decide_eq_true (by omega), show l.length - 1 = m by omega] at hq
      have HR := Lib.hid h
      have HM := Lib.hid hm
      obtain ⟨x, hx⟩ : ∃ x, x = (l.getD m nd0).1 := ⟨_, rfl⟩
      rw [← hx] at hq
      have HX := Lib.hid hx
      obtain rfl : decide (s < x) = b := hq
      have hd0 : decide ((0 : Int) < ((m + 1 : Nat) : Int)) = true := decide_eq_true (by omega)
      clear hu hn h hm hx
      go_enter Try.func20, Try.ntmps20
      go_wp2_with fail
      refine (Hid.out HC).mono ?_; rintro e w1 ⟨rfl, k1⟩
      obtain ⟨ad, P, e, Q, f, rfl, hlt, hc0, _, _, _⟩ := (HR.out.kp k1).atv HM.out
      rw [← HX.out] at hc0
      have K1 := Lib.hid k1
      clear k1
      go_wp2
      go_ret
      exact ⟨rfl, K1.out⟩

/-! ### Trim -/
theorem RdN.drop_ {w : World} {X : Nat → Prop} {ad : Addr} {l : List Nd} (h : RdN w X (some ad) l) {k : Nat} (hk : k < l.length) : RdN w X (some (ad.add (k * 3))) (l.drop k) := by
  obtain ⟨h1, vs, hv, h3⟩ := h
  obtain ⟨ad', e, hb, hc⟩ := h3 (by omega)
  injection e with e
  subst e
  refine ⟨by rw [List.length_drop]; omega, vs.drop k, ⟨by rw [List.length_drop, List.length_drop, hv.len], fun j p t g1 g2 => ?_⟩, fun _ => ⟨_, rfl, by rw [block_of_add]; exact hb, fun j u hu => ?_⟩⟩
  · rw [List.getElem?_drop] at g1 g2
    exact hv.at_ _ p t g1 g2
  · rw [Addr.add_add]
    refine hc _ u ?_
    have : flatN vs = flatN (vs.take k) ++ flatN (vs.drop k) := by rw [← flatN_append, List.take_append_drop]
    have hl : (flatN (vs.take k)).length = k * 3 := by rw [flatN_len, List.length_take, hv.len]; congr 1; omega
    rw [this, List.getElem?_append_right (by rw [hl]; omega), hl, show k * 3 + j - k * 3 = j by omega]
    exact hu
theorem rtrim17_any (A : Option Addr) (n c j : Nat) (l m : List Nd) (s : Int) (w : World) (h : RdG w A l) (hn : n = l.length) (hc : l.length ≤ c ∧ c ≤ 9223372036854775807) (hq : trimC l s = m) (hj : m.length = j) :
    Calls Try.prog 22 #[.slice A n c, .int .i64 s] w (RetV m j w) := by
  have hl := h.len
  obtain ⟨u, hu⟩ : ∃ u, u = chkV l := ⟨_, rfl⟩
  obtain ⟨a, ha⟩ : ∃ a, a = atC l s := ⟨_, rfl⟩
  have HC : Hid (Calls Try.prog 18 #[.slice A n c] w fun e w' => e = .returned (.bool u) ∧ Kp w w') := rcheck17_any A n c l w h hn hu.symm
  have HA : Hid (∀ W, Kp w W → Calls Try.prog 26 #[.slice A n c, .int .i64 s] W fun e w' => e = .returned (.int .i64 a) ∧ w' = W) := fun W kW => rat17_any A n c l s W (h.kp kW) hn ha.symm
  unfold trimC at hq
  rw [← hu, ← ha] at hq
  have HR := Lib.hid h
  have HCL := Lib.hid hc
  have hn' : n ≤ 9223372036854775807 := by omega
  by_cases g : u = true ∧ 0 ≤ a
  · rw [if_pos g] at hq
    obtain ⟨rfl, g2⟩ := g
    rcases at_cases l s with ⟨e, _⟩ | ⟨k, hk, e, _, _⟩
    · omega
    rw [← ha] at e
    subst e
    rw [Int.toNat_natCast] at hq
    subst hq
    obtain ⟨ad, _, _, _, _, rfl, _⟩ := h.atv hk
    have hjn : j = n - k := by rw [← hj, List.length_drop]; omega
    have HD : Hid (RdG w (some (ad.add (k * 3))) (l.drop k)) := h.drop_ hk
    have HDL : Hid ((l.drop k).length ≤ c - k ∧ c - k ≤ 9223372036854775807) := by show _ ∧ _; rw [List.length_drop]; omega
    have hk0 : decide ((k : Int) < 0) = false := decide_eq_false (by omega)
    have hkc : c ≠ k := by omega
    have hk1 : (k : Int) ≤ (c : Int) := by omega
    have hk2 : (k : Int) ≤ (n : Int) := by omega
    have hk3 : k ≤ n := by omega
    have hc2 : c ≤ 9223372036854775807 := hc.2
    subst hjn
    clear hu ha h hn hk g2 hl hc hj
    go_enter Try.func22, Try.ntmps22
    go_wp2_with fail
    refine (Hid.out HC).mono ?_; rintro e w1 ⟨rfl, k1⟩
    have K1 := Lib.hid k1
    clear k1
    go_wp2_with fail
    refine (HA.out _ K1.out).mono ?_; rintro e w2 ⟨rfl, e2⟩
    obtain rfl := e2
    go_wp2
    go_ret
    exact ⟨some (ad.add (k * 3)), c - k, by simp, HD.out.kp K1.out, HDL.out, K1.out⟩
  · rw [if_neg g] at hq
    subst hq
    obtain rfl : j = n := by omega
    have hc : u = false ∨ decide (a < 0) = true := by
      cases u with
      | false => exact .inl rfl
      | true => exact .inr (decide_eq_true (by by_cases h0 : 0 ≤ a; exact absurd ⟨rfl, h0⟩ g; omega))
    clear hu ha h hn g hl hj
    cases u with
    | false =>
      clear hc
      go_enter Try.func22, Try.ntmps22
      go_wp2_with fail
      refine (Hid.out HC).mono ?_; rintro e w1 ⟨rfl, k1⟩
      have K1 := Lib.hid k1
      clear k1
      go_wp2_with fail
      refine (HA.out _ K1.out).mono ?_; rintro e w2 ⟨rfl, e2⟩
      obtain rfl := e2
      go_wp2
      go_ret
      exact ⟨A, c, rfl, HR.out.kp K1.out, HCL.out, K1.out⟩
    | true =>
      have ha0 : decide (a < 0) = true := by
        rcases hc with h | h
        · cases h
        · exact h
      clear hc
      go_enter Try.func22, Try.ntmps22
      go_wp2_with fail
      refine (Hid.out HC).mono ?_; rintro e w1 ⟨rfl, k1⟩
      have K1 := Lib.hid k1
      clear k1
      go_wp2_with fail
      refine (HA.out _ K1.out).mono ?_; rintro e w2 ⟨rfl, e2⟩
      obtain rfl := e2
      go_wp2
      go_ret
      exact ⟨A, c, rfl, HR.out.kp K1.out, HCL.out, K1.out⟩
end Go.Proofs.Ytdcpekkkenckeaa
