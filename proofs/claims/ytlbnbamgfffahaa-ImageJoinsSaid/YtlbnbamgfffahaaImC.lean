/- Layer 9's calls: what each answers, as one statement each; the law's first calls. -/
import Derived.Test.YtlbnbamgfffahaaImMem
import Derived.Test.YtlbnbamgfffahaaR9B
namespace Go.Proofs.Ytlbnbamgfffahaa
open Go.RowKit Go.Proofs.ShM Go.Proofs.PkM Go.Proofs.ImM
set_option linter.unusedVariables false

/-- A tensor, bytes and an error. -/
def RetTB (s xs r : List Int) (err : Int) (a b k : Nat) (w : World) (e : Ending) (w' : World) : Prop :=
  ∃ P c Q d R f, e = .returned (.tuple #[.agg #[.slice P a c, .slice Q b d], .slice R k f, .int .i64 err]) ∧ Hid (TR w' P s Q xs) ∧ Hid (B8.Rd w' R r) ∧ Hid (r.length ≤ f ∧ f ≤ 9223372036854775807) ∧ Kp w w'
/-- Tensors and an error. -/
def RetTs (ts : List T) (err : Int) (k : Nat) (w : World) (e : Ending) (w' : World) : Prop :=
  ∃ A c, e = .returned (.tuple #[.slice A k c, .int .i64 err]) ∧ Hid (RdT w' A ts) ∧ Hid (ts.length ≤ c ∧ c ≤ 9223372036854775807) ∧ Kp w w'
/-- What the four calls answer. -/
structure ImC : Prop where
  put : ∀ (A P Q : Option Addr) (c m n e q f : Nat) (bs : List Int) (t : T) (r : List Int) (err : Int) (k : Nat) (W : World), B8.Rd W A bs → bs.length ≤ c → c ≤ 9223372036854775807 → bs.length ≤ 100000 → Bytes bs → TR W P t.1 Q t.2 → t.1.length ≤ 100 → t.2.length ≤ 100 → N64 t.1 → N64 t.2 → m = bs.length → n = t.1.length → q = t.2.length → iputV bs t = (r, err) → r.length = k →
    Calls Try.prog 11 #[.slice A m c, .agg #[.slice P n e, .slice Q q f]] W (RetB r err k W)
  take : ∀ (A : Option Addr) (c m : Nat) (bs : List Int) (t : T) (r : List Int) (err : Int) (a b k : Nat) (W : World), B8.Rd W A bs → bs.length ≤ c → c ≤ 9223372036854775807 → bs.length ≤ 100000 → Bytes bs → m = bs.length → itakeV bs = (t, r, err) → t.1.length = a → t.2.length = b → r.length = k →
    Calls Try.prog 15 #[.slice A m c] W (RetTB t.1 t.2 r err a b k W)
  write : ∀ (A : Option Addr) (c m : Nat) (ts : List T) (r : List Int) (err : Int) (k : Nat) (W : World), RdT W A ts → ts.length ≤ c → c ≤ 9223372036854775807 → ts.length ≤ 100000 → (allT ts).length ≤ 100000 → (∀ t ∈ ts, t.1.length ≤ 100 ∧ t.2.length ≤ 100 ∧ N64 t.1 ∧ N64 t.2) → m = ts.length → iwriteV ts = (r, err) → r.length = k →
    Calls Try.prog 13 #[.slice A m c] W (RetB r err k W)
  read : ∀ (A : Option Addr) (c m : Nat) (bs : List Int) (ts : List T) (err : Int) (k : Nat) (W : World), B8.Rd W A bs → bs.length ≤ c → c ≤ 9223372036854775807 → bs.length ≤ 100000 → Bytes bs → m = bs.length → ireadV bs = (ts, err) → ts.length = k →
    Calls Try.prog 17 #[.slice A m c] W (RetTs ts err k W)

theorem B8.own_rm {B n c : Nat} {A : Option Addr} {xs : List Int} {w : World} (h : B8.Own B w (.slice A n c) xs) : B8.Rd w A xs ∧ xs.length ≤ c ∧ c ≤ 9223372036854775807 := by
  obtain ⟨A', c', e, h1, h2, h3⟩ := h.ints
  injection e with e1 e2 e3
  subst e1 e3
  exact ⟨h3, h1, by unfold maxLen at h2; omega⟩
theorem str_self9 (bs : List Int) : ((strOfNums bs).toList == (strOfNums bs).toList) = true := by simp
def B1 : List Int := [0, 0, 0, 0, 0, 0, 0, 0, 1]
def B2 : List Int := B1 ++ B1
abbrev T1 : T := ([], [1])
set_option maxHeartbeats 8000000 in
set_option maxRecDepth 100000 in
theorem imawake_any (C : ImC) (w : World) : Calls Try.prog 8 #[] w fun e w' => e = .returned (.bool true) ∧ Kp w w' := by
  have HC := Lib.hid C
  have hb1 : Bytes B1 := by unfold Bytes B1; decide
  have hb2 : Bytes B2 := by unfold Bytes B2 B1; decide
  have hn1 : N64 [1] := by unfold N64; decide
  have hn0 : N64 [] := fun _ h => by cases h
  have HB := Lib.hid (And.intro hb1 (And.intro hb2 (And.intro hn1 hn0)))
  have v1 : iputV [] T1 = (B1, 0) := by decide +kernel
  have v2 : itakeV B1 = (T1, [], 0) := by decide +kernel
  have v3 : ireadV B2 = ([T1, T1], 0) := by decide +kernel
  have v4 : iwriteV [T1, T1] = (B2, 0) := by decide +kernel
  have v5 : iputV [] ([], []) = ([], 30) := by decide +kernel
  have v6 : itakeV [] = (([], []), [], 50) := by decide +kernel
  have HV := Lib.hid (And.intro v1 (And.intro v2 (And.intro v3 (And.intro v4 (And.intro v5 v6)))))
  clear C hb1 hb2 hn1 hn0 v1 v2 v3 v4 v5 v6
  have F1 : Hid (Bk ((w.alloc (.cells #[.int .i64 1] 3)).alloc (.cells #[.slice none 0 0, .slice (some ⟨w.heap.size, 0, none⟩) 1 1] 26)) (w.heap.size + 1) none 0 0 (some ⟨w.heap.size, 0, none⟩) 1 1) := Bk.new (by simp)
  have R1 : Hid (TR ((w.alloc (.cells #[.int .i64 1] 3)).alloc (.cells #[.slice none 0 0, .slice (some ⟨w.heap.size, 0, none⟩) 1 1] 26)) none [] (some ⟨w.heap.size, 0, none⟩) [1]) := ⟨Rd.nil _ _, (Rd.one w 1 3).alloc_ _⟩
  have K0 : Hid (Kp w ((w.alloc (.cells #[.int .i64 1] 3)).alloc (.cells #[.slice none 0 0, .slice (some ⟨w.heap.size, 0, none⟩) 1 1] 26))) := (Kp.alloc_ _ _).tr (Kp.alloc_ _ _)
  have p0 := F1.out.c0
  have p1 := F1.out.c1
  go_enter Try.func8, Try.ntmps8
  go_wp2_with fail
  refine (HC.out.put none none (some ⟨w.heap.size, 0, none⟩) 0 0 0 0 1 1 [] T1 B1 0 9 _ (B8.Rd.nil _ _) (by simp) (by simp) (by simp) (fun _ h => by cases h) R1.out (by simp) (by simp) HB.out.2.2.2 HB.out.2.2.1 rfl rfl rfl HV.out.1 rfl).mono ?_; rintro e0 w1 ⟨A1, c1, rfl, r1, l1, k1⟩
  have K := Lib.hid (K0.out.tr k1)
  have F1 := Lib.hid (F1.out.kp k1)
  have R1 := Lib.hid (R1.out.kp k1)
  clear k1 p0 p1 K0
  go_wp2_with fail
  refine (HC.out.take A1 c1 9 B1 T1 [] 0 0 1 0 _ r1.out l1.out.1 l1.out.2 (by decide) HB.out.1 rfl HV.out.2.1 rfl rfl rfl).mono ?_; rintro e0 w2 ⟨P, a, Q, b, R, f, rfl, t2, _, _, k2⟩
  have K := Lib.hid (K.out.tr k2)
  have F1 := Lib.hid (F1.out.kp k2)
  have R1 := Lib.hid (R1.out.kp k2)
  have r1 := Lib.hid (r1.out.kp k2)
  have FB : Hid (Bk (w2.alloc (.cells #[.slice P 0 a, .slice Q 1 b] 26)) w2.heap.size P 0 a Q 1 b) := Bk.new rfl
  have RB := Lib.hid (((r1.out.alloc_ (.cells #[.slice P 0 a, .slice Q 1 b] 26)).alloc_ (.cells #[] 5)))
  have OB : Hid (B8.Own (w2.heap.size + 1) ((w2.alloc (.cells #[.slice P 0 a, .slice Q 1 b] 26)).alloc (.cells #[] 5)) (.slice (some ⟨w2.heap.size + 1, 0, none⟩) 0 0) []) := by
    have h := B8.Own.zero (B := w2.heap.size + 1) (w2.alloc (.cells #[.slice P 0 a, .slice Q 1 b] 26)) (by simp)
    rw [World.size_alloc] at h
    exact h
  clear k2
  go_wp2_with (first
    | (at_builtin; (refine B8.wpList_app (B := w2.heap.size + 1) rfl (.tmp 30) (.tmp 31) rfl _ [] rfl OB.out A1 c1 B1 _ rfl rfl RB.out (by decide) (by first | (simp; done) | (simp; omega)) ?_; intro z1 D1 g1 u1 HZ1 o1 b1; have O1 := Lib.hid o1; have KB : Hid (Kp w2 u1) := (((Kp.refl _).al _).al _).trans (b1.mono (by omega)); have RB1 := Lib.hid (r1.out.kp KB.out); have HK1 := Lib.hid b1; clear o1 b1))
    | (at_builtin; refine B8.wpList_app (B := w2.heap.size + 1) rfl (.tmp 32) (.tmp 33) rfl _ z1 rfl O1.out A1 c1 B1 _ rfl rfl RB1.out (by rw [HZ1.out]; decide) (by have := HK1.out.size; simp at this; omega) ?_; intro z2 D2 g2 u2 HZ2 o2 b2; have O2 := Lib.hid o2; have KC : Hid (Kp w2 u2) := KB.out.trans (b2.mono (by omega)); have HK2 := Lib.hid b2; clear o2 b2))
  have e2 : z2 = B2 := by rw [HZ2.out, HZ1.out]; rfl
  have ea : z2.length = 18 := by rw [e2]; rfl
  obtain ⟨rr2, rl2, rm2⟩ := B8.own_rm O2.out
  have FB2 : Hid (Bk u2 w2.heap.size P 0 a Q 1 b) := by
    have h : Bk u1 w2.heap.size P 0 a Q 1 b := (HK1.out.block w2.heap.size (by simp)).trans (FB.out.alloc_ _)
    exact (HK2.out.block w2.heap.size (by simp)).trans h
  have F1 := Lib.hid (F1.out.kp KC.out)
  have R1 := Lib.hid (R1.out.kp KC.out)
  have r1 := Lib.hid (r1.out.kp KC.out)
  have t2 := Lib.hid (t2.out.kp KC.out)
  have K := Lib.hid (K.out.tr KC.out)
  refine (HC.out.read D2 g2 z2.length B2 [T1, T1] 0 2 _ (by rw [← e2]; exact rr2) (by rw [← e2]; exact rl2) rm2 (by decide) HB.out.2.1 (by rw [e2]) HV.out.2.2.1 rfl).mono ?_; rintro e0 w3 ⟨A3, c3, rfl, r3, l3, k3⟩
  have F1 := Lib.hid (F1.out.kp k3)
  have R1 := Lib.hid (R1.out.kp k3)
  have r1 := Lib.hid (r1.out.kp k3)
  have t2 := Lib.hid (t2.out.kp k3)
  have FB := Lib.hid (FB2.out.kp k3)
  have K := Lib.hid (K.out.tr k3)
  clear k3 FB2 OB RB O1 O2 HZ1 HZ2 KB KC RB1 HK1 HK2 rr2 rl2 rm2
  clear e2
  go_wp2_with fail
  refine (HC.out.write A3 c3 2 [T1, T1] B2 0 18 _ r3.out l3.out.1 l3.out.2 (by simp) (by decide) (fun t ht => by simp at ht; rcases ht with rfl | rfl; all_goals exact ⟨by simp, by simp, HB.out.2.2.2, HB.out.2.2.1⟩) rfl HV.out.2.2.2.1 rfl).mono ?_; rintro e0 w4 ⟨A4, c4, rfl, r4, l4, k4⟩
  have F1 := Lib.hid (F1.out.kp k4)
  have R1 := Lib.hid (R1.out.kp k4)
  have r1 := Lib.hid (r1.out.kp k4)
  have t2 := Lib.hid (t2.out.kp k4)
  have FB := Lib.hid (FB.out.kp k4)
  have K := Lib.hid (K.out.tr k4)
  clear k4 r3 l3
  go_wp2_with fail
  refine (HC.out.put none none none 0 0 0 0 0 0 [] ([], []) [] 30 0 _ (B8.Rd.nil _ _) (by simp) (by simp) (by simp) (fun _ h => by cases h) ⟨Rd.nil _ _, Rd.nil _ _⟩ (by simp) (by simp) HB.out.2.2.2 HB.out.2.2.2 rfl rfl rfl HV.out.2.2.2.2.1 rfl).mono ?_; rintro e0 w5 ⟨A5, c5, rfl, _, _, k5⟩
  have F1 := Lib.hid (F1.out.kp k5)
  have R1 := Lib.hid (R1.out.kp k5)
  have r1 := Lib.hid (r1.out.kp k5)
  have r4 := Lib.hid (r4.out.kp k5)
  have t2 := Lib.hid (t2.out.kp k5)
  have FB := Lib.hid (FB.out.kp k5)
  have K := Lib.hid (K.out.tr k5)
  clear k5
  go_wp2_with fail
  refine (HC.out.take none 0 0 [] ([], []) [] 50 0 0 0 _ (B8.Rd.nil _ _) (by simp) (by simp) (by simp) (fun _ h => by cases h) rfl HV.out.2.2.2.2.2 rfl rfl rfl).mono ?_; rintro e0 w6 ⟨P6, a6, Q6, b6, R6, f6, rfl, _, _, _, k6⟩
  have k6' : Hid (Kp w5 (w6.alloc (.cells #[.slice P6 0 a6, .slice Q6 0 b6] 26))) := k6.al _
  have F1 := Lib.hid (F1.out.kp k6'.out)
  have R1 := Lib.hid (R1.out.kp k6'.out)
  have r1 := Lib.hid (r1.out.kp k6'.out)
  have r4 := Lib.hid (r4.out.kp k6'.out)
  have t2 := Lib.hid (t2.out.kp k6'.out)
  have FB := Lib.hid (FB.out.kp k6'.out)
  have K := Lib.hid (K.out.tr k6'.out)
  have HST : Hid (∀ V, Kp (w6.alloc (.cells #[.slice P6 0 a6, .slice Q6 0 b6] 26)) V → ((convert 22 9 (.slice A1 9 c1)).run Try.prog V = .ok (.string (strOfNums B1)) V) ∧ ((convert 22 9 (.slice A4 18 c4)).run Try.prog V = .ok (.string (strOfNums B2)) V)) := fun V kV =>
    ⟨run_str (n := 9) c1 (r1.out.kp kV) rfl, run_str (n := 18) c4 (r4.out.kp kV) rfl⟩
  obtain ⟨s1, s2⟩ := HST.out _ (Kp.refl _)
  have q1 : (strOfNums B1).toList = [0, 0, 0, 0, 0, 0, 0, 0, 1] := by decide +kernel
  have p0 := F1.out.c0
  have p1 := F1.out.c1
  have p2 := FB.out.c0
  have p3 := FB.out.c1
  clear k6 k6'
  go_wp2_with fail
  refine (tsame_u (l := []) (k := [1]) t2.out R1.out rfl rfl).mono ?_; rintro e0 w7 ⟨rfl, k7⟩
  obtain ⟨s1, s2⟩ := HST.out _ k7
  have q2 := str_add B1 B1
  have q3 : strOfNums (B1 ++ B1) = strOfNums B2 := rfl
  have q4 : ¬ 9223372036854775807 < (strOfNums B1).size + (strOfNums B1).size := by
    have h1 : (strOfNums B1).size = B1.length := strOfNums_size B1
    have h2 : B1.length = 9 := rfl
    omega
  have q5 := str_self9 B2
  have K7 := Lib.hid (K.out.tr k7)
  rw [q3] at q2
  clear k7 q1 q3
  go_wp2
  go_ret
  exact ⟨rfl, K7.out⟩
end Go.Proofs.Ytlbnbamgfffahaa
