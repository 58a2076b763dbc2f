/- Layer 8's calls: what each answers, as one statement each; bytes as strings, for the walk. -/
import Derived.Test.YtngdblojglcfpaaPkMem
import Derived.Test.YtngdblojglcfpaaPkL
namespace Go.Proofs.Ytngdblojglcfpaa
open Go.RowKit Go.Proofs.ShM Go.Proofs.PkM
set_option linter.unusedVariables false

theorem kp_al {w w' : World} (h : Kp w w') (o : Obj) : Kp w (w'.alloc o) := h.tr (Kp.alloc_ _ _)
/-- Bytes and an error. -/
def RetB (l : List Int) (err : Int) (n : Nat) (w : World) (e : Ending) (w' : World) : Prop :=
  ∃ A c, e = .returned (.tuple #[.slice A n c, .int .i64 err]) ∧ Hid (B8.Rd w' A l) ∧ Hid (l.length ≤ c ∧ c ≤ 9223372036854775807) ∧ Kp w w'
/-- A number, bytes and an error. -/
def RetNB (v : Int) (l : List Int) (err : Int) (n : Nat) (w : World) (e : Ending) (w' : World) : Prop :=
  ∃ A c, e = .returned (.tuple #[.int .i64 v, .slice A n c, .int .i64 err]) ∧ Hid (B8.Rd w' A l) ∧ Hid (l.length ≤ c ∧ c ≤ 9223372036854775807) ∧ Kp w w'
/-- Numbers, bytes and an error. -/
def RetLB (v l : List Int) (err : Int) (m n : Nat) (w : World) (e : Ending) (w' : World) : Prop :=
  ∃ A c B d, e = .returned (.tuple #[.slice A m c, .slice B n d, .int .i64 err]) ∧ Hid (Rd w' A v) ∧ Hid (B8.Rd w' B l) ∧ Hid (l.length ≤ d ∧ d ≤ 9223372036854775807) ∧ Kp w w'
def I64l (xs : List Int) : Prop := ∀ x ∈ xs, I64 x

/-- What the four calls answer. -/
structure PkC : Prop where
  put : ∀ (A : Option Addr) (c m : Nat) (bs : List Int) (n size : Int) (r : List Int) (err : Int) (k : Nat) (W : World), B8.Rd W A bs → bs.length ≤ c → c ≤ 9223372036854775807 → bs.length ≤ 10000 → Bytes bs → I64 n → I64 size → m = bs.length → putV bs n size = (r, err) → r.length = k →
    Calls Try.prog 9 #[.slice A m c, .int .i64 n, .int .i64 size] W (RetB r err k W)
  take : ∀ (A : Option Addr) (c m : Nat) (bs : List Int) (size v : Int) (r : List Int) (err : Int) (k : Nat) (W : World), B8.Rd W A bs → bs.length ≤ c → c ≤ 9223372036854775807 → bs.length ≤ 10000 → Bytes bs → I64 size → m = bs.length → takeV bs size = (v, r, err) → r.length = k →
    Calls Try.prog 10 #[.slice A m c, .int .i64 size] W (RetNB v r err k W)
  list : ∀ (A B : Option Addr) (c d m p : Nat) (bs l : List Int) (size : Int) (r : List Int) (err : Int) (k : Nat) (W : World), B8.Rd W A bs → bs.length ≤ c → c ≤ 9223372036854775807 → bs.length ≤ 10000 → Bytes bs → Rd W B l → l.length ≤ 300 → I64l l → I64 size → m = bs.length → p = l.length → listV bs l size = (r, err) → r.length = k →
    Calls Try.prog 11 #[.slice A m c, .slice B p d, .int .i64 size] W (RetB r err k W)
  takeList : ∀ (A : Option Addr) (c m : Nat) (bs : List Int) (size : Int) (v r : List Int) (err : Int) (j k : Nat) (W : World), B8.Rd W A bs → bs.length ≤ c → c ≤ 9223372036854775807 → bs.length ≤ 10000 → Bytes bs → I64 size → m = bs.length → takeListV bs size = (v, r, err) → v.length = j → r.length = k →
    Calls Try.prog 12 #[.slice A m c, .int .i64 size] W (RetLB v r err j k W)

theorem run_str {W : World} {A : Option Addr} {bs : List Int} {n : Nat} (c : Nat) (h : B8.Rd W A bs) (hn : n = bs.length) : (convert 23 9 (.slice A n c)).run Try.prog W = .ok (.string (strOfNums bs)) W := by
  subst hn
  cases A with
  | none =>
    have e : bs = [] := by
      rcases Nat.eq_zero_or_pos bs.length with h0 | h0
      · exact List.eq_nil_of_length_eq_zero h0
      · obtain ⟨_, e, _⟩ := h.2 h0; cases e
    subst e
    exact run_convert_bytes_nil W 23 5 Try.underlying23 Try.underlying5 _ _ 9 Try.underlying9
  | some ad =>
    have hl : (loadCells ad bs.length).run Try.prog W = .ok (bs.map (Value.int .u8)).toArray W := by
      have := run_loadCells_list (P := Try.prog) W ad (bs.map (Value.int .u8)) (fun j v hj => by
        rw [List.getElem?_map, Option.map_eq_some_iff] at hj
        obtain ⟨x, hx, rfl⟩ := hj
        obtain ⟨ad', e, _, hc⟩ := h.2 (by have := (List.getElem?_eq_some_iff.1 hx).1; omega)
        injection e with e
        subst e
        exact hc j x hx)
      simpa using this
    rw [run_convert_bytes_string W 23 9 5 _ bs.length c Try.underlying23 Try.underlying5 Try.underlying9, run_bytesToString W _ bs.length c bs hl, foldl_push_bytes]
    simp [strOfNums, ByteArray.empty, ByteArray.emptyWithCapacity]
    rfl

set_option maxHeartbeats 4000000 in
set_option maxRecDepth 100000 in
theorem pkawake_any (C : PkC) (w : World) : Calls Try.prog 8 #[] w fun e w' => e = .returned (.bool true) ∧ Kp w w' := by
  have HC := Lib.hid C
  have hb1 : Bytes [1, 2, 9] := by unfold Bytes; decide
  have hb2 : Bytes [2, 5, 6] := by unfold Bytes; decide
  have hi : ∀ x : Int, -1000 ≤ x → x ≤ 1000 → I64 x := fun x h1 h2 => by unfold I64; omega
  have HB := Lib.hid (And.intro hb1 (And.intro hb2 hi))
  clear C hb1 hb2 hi
  go_enter Try.func8, Try.ntmps8
  go_wp2_with fail
  refine (HC.out.put none 0 0 [] 258 2 [1, 2] 0 2 _ (B8.Rd.nil _ _) (by simp) (by simp) (by simp) (fun _ h => by cases h) (HB.out.2.2 _ (by omega) (by omega)) (HB.out.2.2 _ (by omega) (by omega)) rfl (by decide) rfl).mono ?_; rintro e0 w1 ⟨A1, c1, rfl, r1, l1, k1⟩
  have K := Lib.hid k1
  clear k1
  go_wp2_with fail
  refine (HC.out.take _ _ _ [1, 2, 9] 2 258 [9] 0 1 _ (B8.Rd.lit _ [1, 2, 9] (by simp) _) (by simp) (by simp) (by simp) HB.out.1 (HB.out.2.2 _ (by omega) (by omega)) rfl (by decide) rfl).mono ?_; rintro e0 w2 ⟨A2, c2, rfl, r2, l2, k2⟩
  have r1 := Lib.hid ((r1.out.alloc_ _).kp k2)
  have K := Lib.hid ((kp_al K.out _).tr k2)
  clear k2
  go_wp2_with fail
  refine (HC.out.list none _ 0 2 0 2 [] [5, 6] 1 [2, 5, 6] 0 3 _ (B8.Rd.nil _ _) (by simp) (by simp) (by simp) (fun _ h => by cases h) (Rd.lit _ [5, 6] (by simp) _) (by simp) (fun x hx => by simp at hx; rcases hx with rfl | rfl <;> exact HB.out.2.2 _ (by omega) (by omega)) (HB.out.2.2 _ (by omega) (by omega)) rfl rfl (by decide) rfl).mono ?_; rintro e0 w3 ⟨A3, c3, rfl, r3, l3, k3⟩
  have r1 := Lib.hid ((r1.out.alloc_ _).kp k3)
  have r2 := Lib.hid ((r2.out.alloc_ _).kp k3)
  have K := Lib.hid ((kp_al K.out _).tr k3)
  clear k3
  go_wp2_with fail
  refine (HC.out.takeList A3 c3 3 [2, 5, 6] 1 [5, 6] [] 0 2 0 _ r3.out l3.out.1 l3.out.2 (by simp) HB.out.2.1 (HB.out.2.2 _ (by omega) (by omega)) rfl (by decide) rfl rfl).mono ?_; rintro e0 w4 ⟨A4, c4, B4, d4, rfl, r4, r5, l5, k4⟩
  have r1 := Lib.hid (r1.out.kp k4)
  have r2 := Lib.hid (r2.out.kp k4)
  have r3 := Lib.hid (r3.out.kp k4)
  have K := Lib.hid (K.out.tr k4)
  clear k4
  go_wp2_with fail
  refine (HC.out.put none 0 0 [] 256 1 [] 40 0 _ (B8.Rd.nil _ _) (by simp) (by simp) (by simp) (fun _ h => by cases h) (HB.out.2.2 _ (by omega) (by omega)) (HB.out.2.2 _ (by omega) (by omega)) rfl (by decide) rfl).mono ?_; rintro e0 w5 ⟨A5, c5, rfl, _, _, k5⟩
  have r1 := Lib.hid (r1.out.kp k5)
  have r2 := Lib.hid (r2.out.kp k5)
  have r3 := Lib.hid (r3.out.kp k5)
  have r4 := Lib.hid (r4.out.kp k5)
  have K := Lib.hid (K.out.tr k5)
  clear k5
  go_wp2_with fail
  refine (HC.out.take none 0 0 [] 1 0 [] 40 0 _ (B8.Rd.nil _ _) (by simp) (by simp) (by simp) (fun _ h => by cases h) (HB.out.2.2 _ (by omega) (by omega)) rfl (by decide) rfl).mono ?_; rintro e0 w6 ⟨A6, c6, rfl, _, _, k6⟩
  have K := Lib.hid (K.out.tr k6)
  have s1 := run_str (n := 2) c1 (r1.out.kp k6) rfl
  have s2 := run_str (n := 1) c2 (r2.out.kp k6) rfl
  have s3 := run_str (n := 3) c3 (r3.out.kp k6) rfl
  have r4 := Lib.hid (r4.out.kp k6)
  have q1 : (strOfNums [1, 2]).toList = [1, 2] := by decide +kernel
  have q2 : (strOfNums [9]).toList = [9] := by decide +kernel
  have q3 : (strOfNums [2, 5, 6]).toList = [2, 5, 6] := by decide +kernel
  clear k6
  go_wp2_with fail
  refine (same_n [5, 6] [5, 6] (r4.out.alloc_ _) (Rd.lit _ [5, 6] (by simp) _) rfl rfl (r := true) (by decide)).mono ?_; rintro e0 w7 ⟨rfl, m, rfl⟩
  go_wp2
  go_ret
  exact ⟨rfl, (kp_al K.out _).tr (Kp.drewN_ _ _)⟩
end Go.Proofs.Ytngdblojglcfpaa
