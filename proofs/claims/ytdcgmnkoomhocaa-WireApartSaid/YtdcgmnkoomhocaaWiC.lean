/- Layer 12's calls: what each answers, as one statement each; the law's first calls. -/
import Derived.Test.YtdcgmnkoomhocaaR12N
namespace Go.Proofs.Ytdcgmnkoomhocaa
open Go.RowKit Go.Proofs.ShM Go.Proofs.GrM Go.Proofs.PkM Go.Proofs.WiM
set_option linter.unusedVariables false

/-- Nodes and an error. -/
def RetNs (ts : List Nd) (err : Int) (k : Nat) (w : World) (e : Ending) (w' : World) : Prop :=
  ∃ A c, e = .returned (.tuple #[.slice A k c, .int .i64 err]) ∧ Hid (RdG w' A ts) ∧ Hid (ts.length ≤ c ∧ c ≤ 9223372036854775807) ∧ Kp w w'
/-- What the three calls answer. -/
structure WiC : Prop where
  check : ∀ (A : Option Addr) (c m : Nat) (l : List Nd) (b : Bool) (W : World), RdG W A l → l.length ≤ c → c ≤ 9223372036854775807 → SmallG l → m = l.length → checkB l = b →
    Calls Try.prog 14 #[.slice A m c] W fun e W' => e = .returned (.bool b) ∧ Kp W W'
  write : ∀ (A : Option Addr) (c m : Nat) (l : List Nd) (r : List Int) (err : Int) (k : Nat) (W : World), RdG W A l → l.length ≤ c → c ≤ 9223372036854775807 → SmallG l → m = l.length → writeV l = (r, err) → r.length = k →
    Calls Try.prog 9 #[.slice A m c] W (RetB r err k W)
  read : ∀ (A : Option Addr) (c m : Nat) (bs : List Int) (ts : List Nd) (err : Int) (k : Nat) (W : World), B8.Rd W A bs → bs.length ≤ c → c ≤ 9223372036854775807 → bs.length ≤ 100000 → Bytes bs → m = bs.length → readV bs = (ts, err) → ts.length = k →
    Calls Try.prog 11 #[.slice A m c] W (RetNs ts err k W)
theorem str_self12 (bs : List Int) : ((strOfNums bs).toList == (strOfNums bs).toList) = true := by simp

theorem same_ns (y : List Nd) {k : Nat} (hk : y.length = k) (W : World) (E F : Option Addr) (c d : Nat) (h : RdG W E y) (g : RdG W F y) :
    Calls Try.prog 13 #[.slice E k c, .slice F k d] W fun e w' => e = .returned (.bool true) ∧ Kp W w' := by
  subst hk
  refine (rsame10_q E F c d y y W h g).mono ?_
  rintro e w' ⟨rfl, n, rfl⟩
  exact ⟨by simp, Kp.drewN_ _ _⟩
def W1 : List Int := [1, 3, 0, 1, 0, 0, 0, 0, 0, 0, 0, 1]
def L1 : List Nd := [(3, [], [1])]
set_option maxHeartbeats 8000000 in
set_option maxRecDepth 100000 in
theorem wiawake_any (C : WiC) (w : World) : Calls Try.prog 7 #[] w fun e w' => e = .returned (.bool true) ∧ Kp w w' := by
  have HC := Lib.hid C
  have hsm : SmallG L1 := by
    refine ⟨by decide, fun t ht => ?_⟩
    simp only [L1, List.mem_cons, List.not_mem_nil, or_false] at ht
    subst ht
    refine ⟨by decide, by decide, ?_, ?_, ?_⟩ <;> intro x hx <;> simp at hx <;> omega
  have hb1 : Bytes W1 := by unfold Bytes W1; decide
  have v1 : writeV L1 = (W1, 0) := by decide +kernel
  have v2 : readV W1 = (L1, 0) := by decide +kernel
  have v3 : writeV [] = ([], 100) := by decide +kernel
  have v4 : readV [] = ([], 120) := by decide +kernel
  have HV := Lib.hid (And.intro v1 (And.intro v2 (And.intro v3 v4)))
  have HS := Lib.hid (And.intro hsm (And.intro (show SmallG [] from ⟨by decide, fun _ h => by cases h⟩) hb1))
  obtain ⟨W5, hW5⟩ : ∃ W5, W5 = (w.alloc (.cells #[.int .i64 1] 3)).alloc (.cells #[.int .i64 3, .slice none 0 0, .slice (some ⟨w.heap.size, 0, none⟩) 1 1] 36) := ⟨_, rfl⟩
  have HW5 := Lib.hid hW5
  have hK5 : Kp w W5 := by rw [hW5]; exact gal (Kp.alloc_ _ _) _
  have r1 : Rd (w.alloc (.cells #[.int .i64 1] 3)) (some ⟨w.heap.size, 0, none⟩) [1] := Rd.one w 1 _
  have hL : Hid (RdG W5 (some ⟨w.heap.size + 1, 0, none⟩) L1) := by
    show RdG _ _ _
    have a1 := AllN.cons (vn_mk (op := 3) (c := 0) (d := 1) (Rd.nil _ none) r1 (by decide) (by decide) (by decide) (by decide)) (AllN.nil_ _ (fun _ => True))
    have h := RdN.lit a1 (by decide) 36
    rw [World.size_alloc] at h
    rw [hW5]
    exact h
  have K0 := Lib.hid hK5
  have hstr : ((strOfNums W1).toList == [1, 3, 0, 1, 0, 0, 0, 0, 0, 0, 0, 1]) = true := by decide +kernel
  clear C hsm hb1 v1 v2 v3 v4 hW5 hK5 r1
  go_enter Try.func7, Try.ntmps7
  go_wp2_with fail
  rw [← HW5.out]
  refine (HC.out.write _ 1 1 L1 W1 0 12 _ hL.out (by decide) (by decide) HS.out.1 rfl HV.out.1 rfl).mono ?_; rintro e w1 ⟨A1, c1, rfl, b1, l1, k1⟩
  have K := Lib.hid (K0.out.tr k1)
  have N1 := Lib.hid (hL.out.kp k1)
  clear k1
  go_wp2_with fail
  refine (HC.out.read A1 c1 12 W1 L1 0 1 _ b1.out l1.out.1 l1.out.2 (by decide) HS.out.2.2 rfl HV.out.2.1 rfl).mono ?_; rintro e w2 ⟨A2, c2, rfl, n2, l2, k2⟩
  have K := Lib.hid (K.out.tr k2)
  have N1 := Lib.hid (N1.out.kp k2)
  have b1 := Lib.hid (b1.out.kp k2)
  clear k2
  go_wp2_with fail
  refine (HC.out.write none 0 0 [] [] 100 0 _ (RdN.nil_ _ _ _) (by decide) (by decide) HS.out.2.1 rfl HV.out.2.2.1 rfl).mono ?_; rintro e w3 ⟨A3, c3, rfl, _, _, k3⟩
  have K := Lib.hid (K.out.tr k3)
  have N1 := Lib.hid (N1.out.kp k3)
  have b1 := Lib.hid (b1.out.kp k3)
  have n2 := Lib.hid (n2.out.kp k3)
  clear k3
  go_wp2_with fail
  refine (HC.out.read none 0 0 [] [] 120 0 _ (B8.Rd.nil _ _) (by decide) (by decide) (by decide) (fun _ h => by cases h) rfl HV.out.2.2.2 rfl).mono ?_; rintro e w4 ⟨A4, c4, rfl, _, _, k4⟩
  have K := Lib.hid (K.out.tr k4)
  have N1 := Lib.hid (N1.out.kp k4)
  have b1 := Lib.hid (b1.out.kp k4)
  have n2 := Lib.hid (n2.out.kp k4)
  have s1 := run_str c1 b1.out (n := 12) rfl
  clear k4
  go_wp2_with fail
  refine (same_ns L1 (k := 1) rfl _ _ _ c2 1 n2.out N1.out).mono ?_; rintro e w5 ⟨rfl, k5⟩
  have K := Lib.hid (K.out.tr k5)
  clear k5 s1
  go_wp2
  go_ret
  exact ⟨rfl, K.out⟩
end Go.Proofs.Ytdcgmnkoomhocaa
