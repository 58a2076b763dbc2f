import Derived.Test.YtjkdcegmdfmjpaaGreatTk
import Derived.Test.YtjkdcegmdfmjpaaGreatEvZa
import Derived.Test.YtjkdcegmdfmjpaaGreatEvC
import Derived.Test.YtjkdcegmdfmjpaaGreatEvN
set_option maxHeartbeats 16000000
set_option maxRecDepth 100000
set_option linter.unusedVariables false
set_option linter.unusedSimpArgs false
namespace Go.Proofs.YtjkdcegmdfmjpaaGreat.Ez
open Go.RowKit Go.Proofs.ShM Go.Proofs.GrM Go.Proofs.InM Go.Proofs.ImM Go.Proofs.FixM Go.Proofs.EvM
structure Ej (W : World) (bj bn ba bb : Nat) (op : Int) (Q A1 A2 B1 B2 I1 I2 R S : Option Addr) (d a1 a2 b1 b2 i1 i2 rc sc : Nat) (nums : List Int) (a b inp : T) (ps : List T) (s : List Int) : Prop where
 j0 : W.cell? ⟨bj, 0, none⟩ = some (.int .i64 op)
 j7 : W.cell? ⟨bj, 7, none⟩ = some (.slice I1 inp.1.length i1)
 j8 : W.cell? ⟨bj, 8, none⟩ = some (.slice I2 inp.2.length i2)
 j9 : W.cell? ⟨bj, 9, none⟩ = some (.slice R ps.length rc)
 j10 : W.cell? ⟨bj, 10, none⟩ = some (.slice S s.length sc)
 n0 : W.cell? ⟨bn, 0, none⟩ = some (.slice Q nums.length d)
 p0 : W.cell? ⟨ba, 0, none⟩ = some (.slice A1 a.1.length a1)
 p1 : W.cell? ⟨ba, 1, none⟩ = some (.slice A2 a.2.length a2)
 q0 : W.cell? ⟨bb, 0, none⟩ = some (.slice B1 b.1.length b1)
 q1 : W.cell? ⟨bb, 1, none⟩ = some (.slice B2 b.2.length b2)
 rn : Rd W Q nums
 ra : TRc W A1 a1 A2 a2 a
 rb : TRc W B1 b1 B2 b2 b
 ri : TRc W I1 i1 I2 i2 inp
 rp : RdT W R ps
 rs : Sl W S sc s
 na : I64s a.2
 nb : I64s b.2
section
variable {W : World} {bj bn ba bb : Nat} {op : Int} {Q A1 A2 B1 B2 I1 I2 R S : Option Addr} {d a1 a2 b1 b2 i1 i2 rc sc : Nat} {nums : List Int} {a b inp : T} {ps : List T} {s : List Int}
theorem er_two (op : Int) (s xs t ys : List Int) : (twoV op s xs t ys).2.2 ≠ 0 → (twoV op s xs t ys).1 = [] ∧ (twoV op s xs t ys).2.1 = [] := fun h => by rw [two_err op s xs t ys h]; exact ⟨rfl, rfl⟩
theorem er_one (op : Int) (s xs : List Int) : (oneV op s xs).2.2 ≠ 0 → (oneV op s xs).1 = [] ∧ (oneV op s xs).2.1 = [] := fun h => by rw [one_err op s xs h]; exact ⟨rfl, rfl⟩
theorem er_full (s : List Int) (n : Int) : (fullV s n).2.2 ≠ 0 → (fullV s n).1 = [] ∧ (fullV s n).2.1 = [] := by
 unfold fullV
 split
 ·exact fun h => absurd rfl h
 ·exact fun _ => ⟨rfl, rfl⟩
theorem er_mat (s xs t ys : List Int) : (matV s xs t ys).2.2 ≠ 0 → (matV s xs t ys).1 = [] ∧ (matV s xs t ys).2.1 = [] := by
 unfold matV
 split
 ·exact fun _ => ⟨rfl, rfl⟩
 ·split
  ·exact fun _ => ⟨rfl, rfl⟩
  ·split
   ·exact fun h => absurd rfl h
   ·exact fun _ => ⟨rfl, rfl⟩
theorem er_reshape (s xs g : List Int) : (reshapeV s xs g).2.2 ≠ 0 → (reshapeV s xs g).1 = [] ∧ (reshapeV s xs g).2.1 = [] := by
 unfold reshapeV
 split
 ·exact fun _ => ⟨rfl, rfl⟩
 ·split
  ·exact fun h => absurd rfl h
  ·exact fun _ => ⟨rfl, rfl⟩
theorem er_turn (s xs : List Int) : (turnV s xs).2.2 ≠ 0 → (turnV s xs).1 = [] ∧ (turnV s xs).2.1 = [] := by
 unfold turnV
 split
 ·exact fun _ => ⟨rfl, rfl⟩
 ·exact fun h => absurd rfl h
theorem er_slice (s xs : List Int) (x y z : Int) : (sliceV s xs x y z).2.2 ≠ 0 → (sliceV s xs x y z).1 = [] ∧ (sliceV s xs x y z).2.1 = [] := by
 unfold sliceV
 split
 ·exact fun _ => ⟨rfl, rfl⟩
 ·split
  ·exact fun _ => ⟨rfl, rfl⟩
  ·exact fun h => absurd rfl h
theorem er_glue (s xs t ys : List Int) (x : Int) : (glueV s xs t ys x).2.2 ≠ 0 → (glueV s xs t ys x).1 = [] ∧ (glueV s xs t ys x).2.1 = [] := by
 unfold glueV
 split
 ·exact fun _ => ⟨rfl, rfl⟩
 ·split
  ·exact fun _ => ⟨rfl, rfl⟩
  ·exact fun h => absurd rfl h
theorem er_tog (f : Int → Int → Int × Int) (x0 : Int) (s xs : List Int) (x : Int) : (togV f x0 s xs x).2.2 ≠ 0 → (togV f x0 s xs x).1 = [] ∧ (togV f x0 s xs x).2.1 = [] := by
 unfold togV
 split
 ·exact fun _ => ⟨rfl, rfl⟩
 ·split
  ·exact fun _ => ⟨rfl, rfl⟩
  ·split
   ·exact fun h => absurd rfl h
   ·exact fun _ => ⟨rfl, rfl⟩
theorem er_sum (s xs : List Int) (x : Int) : (sumV s xs x).2.2 ≠ 0 → (sumV s xs x).1 = [] ∧ (sumV s xs x).2.1 = [] := er_tog _ _ s xs x
theorem er_max (s xs : List Int) (x : Int) : (maxV s xs x).2.2 ≠ 0 → (maxV s xs x).1 = [] ∧ (maxV s xs x).2.1 = [] := er_tog _ _ s xs x
theorem er_mean (s xs : List Int) (x : Int) : (meanV s xs x).2.2 ≠ 0 → (meanV s xs x).1 = [] ∧ (meanV s xs x).2.1 = [] := by
 unfold meanV
 split
 ·exact fun h => absurd rfl h
 ·exact fun _ => ⟨rfl, rfl⟩
theorem one_e (H : Ej W bj bn ba bb op Q A1 A2 B1 B2 I1 I2 R S d a1 a2 b1 b2 i1 i2 rc sc nums a b inp ps s) : Calls Tryz.prog 26 #[.pointer (some ⟨bj, 0, none⟩), .pointer (some ⟨ba, 0, none⟩)] W (RetTo (tnE (oneV op a.1 a.2)) W) := by
 have xj0 : W.cell? ⟨bj, 0, none⟩ = some (.int .i64 op) := H.j0
 have xp0 : W.cell? ⟨ba, 0, none⟩ = some (.slice A1 a.1.length a1) := H.p0
 have xp1 : W.cell? ⟨ba, 1, none⟩ = some (.slice A2 a.2.length a2) := H.p1
 have lba : ba < W.heap.size := Iz.lt_cell H.p0
 have lbj : bj < W.heap.size := Iz.lt_cell H.j0
 have HC : Hid (∀ V, Kp W V → Calls Tryz.prog 28 #[.int .i64 op, .agg #[.slice A1 a.1.length a1, .slice A2 a.2.length a2]] V (RetT (oneV op a.1 a.2) V)) := fun V kV => one_any op A1 A2 a1 a2 a.1 a.2 V (H.ra.r.s.kp kV) (H.ra.r.d.kp kV) H.na
 have HE := lH (er_one op a.1 a.2)
 obtain ⟨Q3, hQ⟩ := eX (oneV op a.1 a.2)
 rw [← hQ] at HC HE ⊢
 have F0 : Hid (Bx (W.alloc (.cells #[.slice none 0 0, .slice none 0 0, .int .i64 0] 53)) W.heap.size [.slice none 0 0, .slice none 0 0, .int .i64 0] 53) := Bx.new rfl
 have K0 : Hid (Kp W (W.alloc (.cells #[.slice none 0 0, .slice none 0 0, .int .i64 0] 53))) := Kp.alloc_ _ _
 clear H hQ
 go_enter Tryz.func26, Tryz.ntmps26
 go_wp2_with fail
 refine (HC.out _ K0.out).mono ?_; rintro e1 w1 ⟨A3, c3, B3, d3, rfl, s3, t3, k1⟩
 have K1 := lH (K0.out.tr k1)
 have F1 := lH (F0.out.kp k1)
 have S4 := lH s3; have T4 := lH t3
 clear k1 s3 t3 xj0 xp0 xp1
 dsimp only
 go_wp2_with fail
 refine (tell_t _ _ _ _ _ _ _ _).mono ?_; rintro e2 w2 ⟨rfl, k2⟩
 have K2 := lH (K1.out.tr k2)
 have F2 := lH (F1.out.kp k2)
 have S5 := lH (S4.out.kp k2); have T5 := lH (T4.out.kp k2)
 clear k2
 have o0 := F2.out.cell (j := 0) rfl
 have o1 := F2.out.cell (j := 1) rfl
 have o2 := F2.out.cell (j := 2) rfl
 have f0 := F2.out.frz 0
 have f1 := F2.out.frz 1
 have f2 := F2.out.frz 2
 go_wp2
 refine bodyPost_ret (v := .agg #[.slice A3 Q3.1.length c3, .slice B3 Q3.2.1.length d3, .int .i64 Q3.2.2]) (by simp [results, Tryz.results26, go_sem, o0, o1, o2]; try rfl) rfl ?_
 exact RetTo.box (slice_ne _ _ _) (slice_ne _ _ _) rfl rfl rfl HE.out (Nat.le_refl _) F2.out S5.out T5.out K2.out
theorem two_e (H : Ej W bj bn ba bb op Q A1 A2 B1 B2 I1 I2 R S d a1 a2 b1 b2 i1 i2 rc sc nums a b inp ps s) : Calls Tryz.prog 29 #[.pointer (some ⟨bj, 0, none⟩), .pointer (some ⟨ba, 0, none⟩), .pointer (some ⟨bb, 0, none⟩)] W (RetTo (tnE (twoV op a.1 a.2 b.1 b.2)) W) := by
 have xj0 : W.cell? ⟨bj, 0, none⟩ = some (.int .i64 op) := H.j0
 have xp0 : W.cell? ⟨ba, 0, none⟩ = some (.slice A1 a.1.length a1) := H.p0
 have xp1 : W.cell? ⟨ba, 1, none⟩ = some (.slice A2 a.2.length a2) := H.p1
 have xq0 : W.cell? ⟨bb, 0, none⟩ = some (.slice B1 b.1.length b1) := H.q0
 have xq1 : W.cell? ⟨bb, 1, none⟩ = some (.slice B2 b.2.length b2) := H.q1
 have lba : ba < W.heap.size := Iz.lt_cell H.p0
 have lbb : bb < W.heap.size := Iz.lt_cell H.q0
 have lbj : bj < W.heap.size := Iz.lt_cell H.j0
 have HC : Hid (∀ V, Kp W V → Calls Tryz.prog 30 #[.int .i64 op, .agg #[.slice A1 a.1.length a1, .slice A2 a.2.length a2], .agg #[.slice B1 b.1.length b1, .slice B2 b.2.length b2]] V (RetT (twoV op a.1 a.2 b.1 b.2) V)) := fun V kV => two_any op A1 A2 B1 B2 a1 a2 b1 b2 a.1 a.2 b.1 b.2 V (H.ra.r.s.kp kV) (H.ra.r.d.kp kV) (H.rb.r.s.kp kV) (H.rb.r.d.kp kV) H.na H.nb
 have HE := lH (er_two op a.1 a.2 b.1 b.2)
 obtain ⟨Q3, hQ⟩ := eX (twoV op a.1 a.2 b.1 b.2)
 rw [← hQ] at HC HE ⊢
 have F0 : Hid (Bx (W.alloc (.cells #[.slice none 0 0, .slice none 0 0, .int .i64 0] 53)) W.heap.size [.slice none 0 0, .slice none 0 0, .int .i64 0] 53) := Bx.new rfl
 have K0 : Hid (Kp W (W.alloc (.cells #[.slice none 0 0, .slice none 0 0, .int .i64 0] 53))) := Kp.alloc_ _ _
 clear H hQ
 go_enter Tryz.func29, Tryz.ntmps29
 go_wp2_with fail
 refine (HC.out _ K0.out).mono ?_; rintro e1 w1 ⟨A3, c3, B3, d3, rfl, s3, t3, k1⟩
 have K1 := lH (K0.out.tr k1)
 have F1 := lH (F0.out.kp k1)
 have S4 := lH s3; have T4 := lH t3
 clear k1 s3 t3 xj0 xp0 xp1 xq0 xq1
 dsimp only
 go_wp2_with fail
 refine (tell_t _ _ _ _ _ _ _ _).mono ?_; rintro e2 w2 ⟨rfl, k2⟩
 have K2 := lH (K1.out.tr k2)
 have F2 := lH (F1.out.kp k2)
 have S5 := lH (S4.out.kp k2); have T5 := lH (T4.out.kp k2)
 clear k2
 have o0 := F2.out.cell (j := 0) rfl
 have o1 := F2.out.cell (j := 1) rfl
 have o2 := F2.out.cell (j := 2) rfl
 have f0 := F2.out.frz 0
 have f1 := F2.out.frz 1
 have f2 := F2.out.frz 2
 go_wp2
 refine bodyPost_ret (v := .agg #[.slice A3 Q3.1.length c3, .slice B3 Q3.2.1.length d3, .int .i64 Q3.2.2]) (by simp [results, Tryz.results29, go_sem, o0, o1, o2]; try rfl) rfl ?_
 exact RetTo.box (slice_ne _ _ _) (slice_ne _ _ _) rfl rfl rfl HE.out (Nat.le_refl _) F2.out S5.out T5.out K2.out
theorem mat_e (H : Ej W bj bn ba bb op Q A1 A2 B1 B2 I1 I2 R S d a1 a2 b1 b2 i1 i2 rc sc nums a b inp ps s) : Calls Tryz.prog 36 #[.pointer (some ⟨ba, 0, none⟩), .pointer (some ⟨bb, 0, none⟩)] W (RetTo (tnE (matV a.1 a.2 b.1 b.2)) W) := by
 have xp0 : W.cell? ⟨ba, 0, none⟩ = some (.slice A1 a.1.length a1) := H.p0
 have xp1 : W.cell? ⟨ba, 1, none⟩ = some (.slice A2 a.2.length a2) := H.p1
 have xq0 : W.cell? ⟨bb, 0, none⟩ = some (.slice B1 b.1.length b1) := H.q0
 have xq1 : W.cell? ⟨bb, 1, none⟩ = some (.slice B2 b.2.length b2) := H.q1
 have lba : ba < W.heap.size := Iz.lt_cell H.p0
 have lbb : bb < W.heap.size := Iz.lt_cell H.q0
 have HC : Hid (∀ V, Kp W V → Calls Tryz.prog 37 #[.agg #[.slice A1 a.1.length a1, .slice A2 a.2.length a2], .agg #[.slice B1 b.1.length b1, .slice B2 b.2.length b2]] V (RetT (matV a.1 a.2 b.1 b.2) V)) := fun V kV => pmat_pre A1 A2 B1 B2 a1 a2 b1 b2 a.1 a.2 b.1 b.2 V (H.ra.r.s.kp kV) (H.ra.r.d.kp kV) (H.rb.r.s.kp kV) (H.rb.r.d.kp kV) H.na H.nb
 have HE := lH (er_mat a.1 a.2 b.1 b.2)
 obtain ⟨Q3, hQ⟩ := eX (matV a.1 a.2 b.1 b.2)
 rw [← hQ] at HC HE ⊢
 have F0 : Hid (Bx (W.alloc (.cells #[.slice none 0 0, .slice none 0 0, .int .i64 0] 53)) W.heap.size [.slice none 0 0, .slice none 0 0, .int .i64 0] 53) := Bx.new rfl
 have K0 : Hid (Kp W (W.alloc (.cells #[.slice none 0 0, .slice none 0 0, .int .i64 0] 53))) := Kp.alloc_ _ _
 clear H hQ
 go_enter Tryz.func36, Tryz.ntmps36
 go_wp2_with fail
 refine (HC.out _ K0.out).mono ?_; rintro e1 w1 ⟨A3, c3, B3, d3, rfl, s3, t3, k1⟩
 have K1 := lH (K0.out.tr k1)
 have F1 := lH (F0.out.kp k1)
 have S4 := lH s3; have T4 := lH t3
 clear k1 s3 t3 xp0 xp1 xq0 xq1
 dsimp only
 go_wp2_with fail
 refine (tell_t _ _ _ _ _ _ _ _).mono ?_; rintro e2 w2 ⟨rfl, k2⟩
 have K2 := lH (K1.out.tr k2)
 have F2 := lH (F1.out.kp k2)
 have S5 := lH (S4.out.kp k2); have T5 := lH (T4.out.kp k2)
 clear k2
 have o0 := F2.out.cell (j := 0) rfl
 have o1 := F2.out.cell (j := 1) rfl
 have o2 := F2.out.cell (j := 2) rfl
 have f0 := F2.out.frz 0
 have f1 := F2.out.frz 1
 have f2 := F2.out.frz 2
 go_wp2
 refine bodyPost_ret (v := .agg #[.slice A3 Q3.1.length c3, .slice B3 Q3.2.1.length d3, .int .i64 Q3.2.2]) (by simp [results, Tryz.results36, go_sem, o0, o1, o2]; try rfl) rfl ?_
 exact RetTo.box (slice_ne _ _ _) (slice_ne _ _ _) rfl rfl rfl HE.out (Nat.le_refl _) F2.out S5.out T5.out K2.out
theorem form_e (H : Ej W bj bn ba bb op Q A1 A2 B1 B2 I1 I2 R S d a1 a2 b1 b2 i1 i2 rc sc nums a b inp ps s) : Calls Tryz.prog 38 #[.pointer (some ⟨ba, 0, none⟩), .pointer (some ⟨bn, 0, none⟩)] W (RetTo (tnE (reshapeV a.1 a.2 nums)) W) := by
 have xp0 : W.cell? ⟨ba, 0, none⟩ = some (.slice A1 a.1.length a1) := H.p0
 have xp1 : W.cell? ⟨ba, 1, none⟩ = some (.slice A2 a.2.length a2) := H.p1
 have xn0 : W.cell? ⟨bn, 0, none⟩ = some (.slice Q nums.length d) := H.n0
 have lba : ba < W.heap.size := Iz.lt_cell H.p0
 have lbn : bn < W.heap.size := Iz.lt_cell H.n0
 have HC : Hid (∀ V, Kp W V → Calls Tryz.prog 39 #[.agg #[.slice A1 a.1.length a1, .slice A2 a.2.length a2], .slice Q nums.length d] V (RetT (reshapeV a.1 a.2 nums) V)) := fun V kV => preshape_any A1 A2 Q a1 a2 d a.1 a.2 nums V (H.ra.r.s.kp kV) (H.ra.r.d.kp kV) (H.rn.kp kV)
 have HE := lH (er_reshape a.1 a.2 nums)
 obtain ⟨Q3, hQ⟩ := eX (reshapeV a.1 a.2 nums)
 rw [← hQ] at HC HE ⊢
 have F0 : Hid (Bx (W.alloc (.cells #[.slice none 0 0, .slice none 0 0, .int .i64 0] 53)) W.heap.size [.slice none 0 0, .slice none 0 0, .int .i64 0] 53) := Bx.new rfl
 have K0 : Hid (Kp W (W.alloc (.cells #[.slice none 0 0, .slice none 0 0, .int .i64 0] 53))) := Kp.alloc_ _ _
 clear H hQ
 go_enter Tryz.func38, Tryz.ntmps38
 go_wp2_with fail
 refine (HC.out _ K0.out).mono ?_; rintro e1 w1 ⟨A3, c3, B3, d3, rfl, s3, t3, k1⟩
 have K1 := lH (K0.out.tr k1)
 have F1 := lH (F0.out.kp k1)
 have S4 := lH s3; have T4 := lH t3
 clear k1 s3 t3 xp0 xp1 xn0
 dsimp only
 go_wp2_with fail
 refine (tell_t _ _ _ _ _ _ _ _).mono ?_; rintro e2 w2 ⟨rfl, k2⟩
 have K2 := lH (K1.out.tr k2)
 have F2 := lH (F1.out.kp k2)
 have S5 := lH (S4.out.kp k2); have T5 := lH (T4.out.kp k2)
 clear k2
 have o0 := F2.out.cell (j := 0) rfl
 have o1 := F2.out.cell (j := 1) rfl
 have o2 := F2.out.cell (j := 2) rfl
 have f0 := F2.out.frz 0
 have f1 := F2.out.frz 1
 have f2 := F2.out.frz 2
 go_wp2
 refine bodyPost_ret (v := .agg #[.slice A3 Q3.1.length c3, .slice B3 Q3.2.1.length d3, .int .i64 Q3.2.2]) (by simp [results, Tryz.results38, go_sem, o0, o1, o2]; try rfl) rfl ?_
 exact RetTo.box (slice_ne _ _ _) (slice_ne _ _ _) rfl rfl rfl HE.out (Nat.le_refl _) F2.out S5.out T5.out K2.out
theorem turn_e (H : Ej W bj bn ba bb op Q A1 A2 B1 B2 I1 I2 R S d a1 a2 b1 b2 i1 i2 rc sc nums a b inp ps s) : Calls Tryz.prog 40 #[.pointer (some ⟨ba, 0, none⟩)] W (RetTo (tnE (turnV a.1 a.2)) W) := by
 have xp0 : W.cell? ⟨ba, 0, none⟩ = some (.slice A1 a.1.length a1) := H.p0
 have xp1 : W.cell? ⟨ba, 1, none⟩ = some (.slice A2 a.2.length a2) := H.p1
 have lba : ba < W.heap.size := Iz.lt_cell H.p0
 have HC : Hid (∀ V, Kp W V → Calls Tryz.prog 41 #[.agg #[.slice A1 a.1.length a1, .slice A2 a.2.length a2]] V (RetT (turnV a.1 a.2) V)) := fun V kV => pturn_any A1 A2 a1 a2 a.1 a.2 V (H.ra.r.s.kp kV) (H.ra.r.d.kp kV)
 have HE := lH (er_turn a.1 a.2)
 obtain ⟨Q3, hQ⟩ := eX (turnV a.1 a.2)
 rw [← hQ] at HC HE ⊢
 have F0 : Hid (Bx (W.alloc (.cells #[.slice none 0 0, .slice none 0 0, .int .i64 0] 53)) W.heap.size [.slice none 0 0, .slice none 0 0, .int .i64 0] 53) := Bx.new rfl
 have K0 : Hid (Kp W (W.alloc (.cells #[.slice none 0 0, .slice none 0 0, .int .i64 0] 53))) := Kp.alloc_ _ _
 clear H hQ
 go_enter Tryz.func40, Tryz.ntmps40
 go_wp2_with fail
 refine (HC.out _ K0.out).mono ?_; rintro e1 w1 ⟨A3, c3, B3, d3, rfl, s3, t3, k1⟩
 have K1 := lH (K0.out.tr k1)
 have F1 := lH (F0.out.kp k1)
 have S4 := lH s3; have T4 := lH t3
 clear k1 s3 t3 xp0 xp1
 dsimp only
 go_wp2_with fail
 refine (tell_t _ _ _ _ _ _ _ _).mono ?_; rintro e2 w2 ⟨rfl, k2⟩
 have K2 := lH (K1.out.tr k2)
 have F2 := lH (F1.out.kp k2)
 have S5 := lH (S4.out.kp k2); have T5 := lH (T4.out.kp k2)
 clear k2
 have o0 := F2.out.cell (j := 0) rfl
 have o1 := F2.out.cell (j := 1) rfl
 have o2 := F2.out.cell (j := 2) rfl
 have f0 := F2.out.frz 0
 have f1 := F2.out.frz 1
 have f2 := F2.out.frz 2
 go_wp2
 refine bodyPost_ret (v := .agg #[.slice A3 Q3.1.length c3, .slice B3 Q3.2.1.length d3, .int .i64 Q3.2.2]) (by simp [results, Tryz.results40, go_sem, o0, o1, o2]; try rfl) rfl ?_
 exact RetTo.box (slice_ne _ _ _) (slice_ne _ _ _) rfl rfl rfl HE.out (Nat.le_refl _) F2.out S5.out T5.out K2.out
theorem part_e (H : Ej W bj bn ba bb op Q A1 A2 B1 B2 I1 I2 R S d a1 a2 b1 b2 i1 i2 rc sc nums a b inp ps s) (h1 : nums.length = 3) : Calls Tryz.prog 42 #[.pointer (some ⟨ba, 0, none⟩), .pointer (some ⟨bn, 0, none⟩)] W (RetTo (tnE (sliceV a.1 a.2 (nums.getD 0 0) (nums.getD 1 0) (nums.getD 2 0))) W) := by
 obtain ⟨x, y, z, rfl⟩ := Iz.three_list h1
 obtain ⟨aq, rfl, hlt, hc⟩ := H.rn.2 (by simp)
 have y0 : W.cell? aq = some (.int .i64 x) := by simpa [Addr.add] using hc 0 x rfl
 have y1 : W.cell? ⟨aq.block, aq.off + 1, none⟩ = some (.int .i64 y) := hc 1 y rfl
 have y2 : W.cell? ⟨aq.block, aq.off + 2, none⟩ = some (.int .i64 z) := hc 2 z rfl
 have xn0 : W.cell? ⟨bn, 0, none⟩ = some (.slice (some aq) 3 d) := H.n0
 have xp0 := H.p0
 have xp1 := H.p1
 obtain ⟨Q3, hQ⟩ := eX (sliceV a.1 a.2 x y z)
 have HC : Hid (∀ V, Kp W V → Calls Tryz.prog 43 #[.agg #[.slice A1 a.1.length a1, .slice A2 a.2.length a2], .int .i64 x, .int .i64 y, .int .i64 z] V (RetT Q3 V)) := fun V kV => by rw [hQ]; exact pslice_any A1 A2 a1 a2 a.1 a.2 x y z V (H.ra.r.s.kp kV) (H.ra.r.d.kp kV)
 have HE : Hid (Q3.2.2 ≠ 0 → Q3.1 = [] ∧ Q3.2.1 = []) := by show _; rw [hQ]; exact er_slice a.1 a.2 x y z
 have HG : Hid (RetTo (tnE (sliceV a.1 a.2 (([x, y, z] : List Int).getD 0 0) (([x, y, z] : List Int).getD 1 0) (([x, y, z] : List Int).getD 2 0))) W = RetTo (tnE Q3) W) := by rw [hQ]; rfl
 rw [HG.out]
 have HSS : Hid (∀ V, Kp W V → V.cell? ⟨ba, 0, none⟩ = some (.slice A1 a.1.length a1) ∧ V.cell? ⟨ba, 1, none⟩ = some (.slice A2 a.2.length a2) ∧ V.cell? ⟨bn, 0, none⟩ = some (.slice (some aq) 3 d) ∧ V.cell? aq = some (.int .i64 x) ∧ V.cell? ⟨aq.block, aq.off + 1, none⟩ = some (.int .i64 y) ∧ V.cell? ⟨aq.block, aq.off + 2, none⟩ = some (.int .i64 z)) := fun V kV => ⟨Iz.kp_cell xp0 kV, Iz.kp_cell xp1 kV, Iz.kp_cell xn0 kV, Iz.kp_cell y0 kV, Iz.kp_cell y1 kV, Iz.kp_cell y2 kV⟩
 have F0 : Hid (Bx (W.alloc (.cells #[.slice none 0 0, .slice none 0 0, .int .i64 0] 53)) W.heap.size [.slice none 0 0, .slice none 0 0, .int .i64 0] 53) := Bx.new rfl
 have K0 : Hid (Kp W (W.alloc (.cells #[.slice none 0 0, .slice none 0 0, .int .i64 0] 53))) := Kp.alloc_ _ _
 clear H hQ hc h1 hlt xp0 xp1 xn0 y0 y1 y2
 obtain ⟨W0, hW0⟩ := eX ((W.alloc (.cells #[.slice none 0 0, .slice none 0 0, .int .i64 0] 53)))
 rw [← hW0] at F0 K0
 have HW := lH hW0
 have K4 : Hid (Kp W0 W0.drew) := Below.drew (Kp.refl W0)
 have hS0 := HSS.out _ K0.out
 clear hW0
 go_enter Tryz.func42, Tryz.ntmps42
 go_wp2_with fail
 rw [← HW.out]
 refine wp_region_held_drew (S := fun V => V.cell? ⟨ba, 0, none⟩ = some (.slice A1 a.1.length a1) ∧ V.cell? ⟨ba, 1, none⟩ = some (.slice A2 a.2.length a2) ∧ V.cell? ⟨bn, 0, none⟩ = some (.slice (some aq) 3 d) ∧ V.cell? aq = some (.int .i64 x) ∧ V.cell? ⟨aq.block, aq.off + 1, none⟩ = some (.int .i64 y) ∧ V.cell? ⟨aq.block, aq.off + 2, none⟩ = some (.int .i64 z)) (by kernel_rfl) (HSS.out _ (Below.drew K0.out)) (fun hHeld => ?_)
 have hdr : Hid (Kp W W0.drew) := Below.drew K0.out
 have FB := lH (F0.out.kp K4.out)
 generalize W0.drew = V0 at hdr hHeld FB ⊢
 refine tK 0 (.agg #[.slice A1 a.1.length a1, .slice A2 a.2.length a2]) rfl hHeld <| tK 1 (.slice (some aq) 3 d) rfl hHeld <| tK 2 (.pointer (some aq)) rfl hHeld <| tK 3 (.int .i64 x) rfl hHeld <| tK 4 (.slice (some aq) 3 d) rfl hHeld <| tK 5 (.pointer (some ⟨aq.block, aq.off + 1, none⟩)) rfl hHeld <| tK 6 (.int .i64 y) rfl hHeld <| tK 7 (.slice (some aq) 3 d) rfl hHeld <| tK 8 (.pointer (some ⟨aq.block, aq.off + 2, none⟩)) rfl hHeld <| tK 9 (.int .i64 z) rfl hHeld ?_
 refine rD 10 rfl fun K9_ hK => ?_
 go_simp
 refine (HC.out _ hdr.out).mono ?_; rintro e1 w1 ⟨A3, c3, B3, d3, rfl, s3, t3, k1⟩
 dsimp only
 have K1 := lH (hdr.out.tr k1)
 have F1 := lH (FB.out.kp k1)
 have S4 := lH s3; have T4 := lH t3
 have hS1 := HSS.out _ K1.out
 clear k1 s3 t3
 refine hK.out _ _ (hS1) fun hHeld => ?_
 clear hK
 refine tK 11 (.agg #[.slice A3 Q3.1.length c3, .slice B3 Q3.2.1.length d3]) rfl hHeld <| tK 12 (.int .i64 Q3.2.2) rfl hHeld ?_
 refine rD 13 rfl fun K9_ hK => ?_
 go_simp
 refine (tell_t _ _ _ _ _ _ _ _).mono ?_; rintro e2 w2 ⟨rfl, k2⟩
 dsimp only
 have K2 := lH (K1.out.tr k2)
 have F2 := lH (F1.out.kp k2)
 have S5 := lH (S4.out.kp k2); have T5 := lH (T4.out.kp k2)
 have hS2 := HSS.out _ K2.out
 clear k2
 refine hK.out _ _ (hS2) fun hHeld => ?_
 clear hK
 have o0 := F2.out.cell (j := 0) rfl
 have o1 := F2.out.cell (j := 1) rfl
 have o2 := F2.out.cell (j := 2) rfl
 have f0 := F2.out.frz 0
 have f1 := F2.out.frz 1
 have f2 := F2.out.frz 2
 have hS3 := HSS.out _ (((K2.out.setCell (p := ⟨W.heap.size, 0, none⟩) (Nat.le_refl _) (.slice A3 Q3.1.length c3)).setCell (p := ⟨W.heap.size, 1, none⟩) (Nat.le_refl _) (.slice B3 Q3.2.1.length d3)).setCell (p := ⟨W.heap.size, 2, none⟩) (Nat.le_refl _) (.int .i64 Q3.2.2))
 refine rD 14 rfl fun K9_ hK => ?_
 go_simp
 refine hK.out _ _ (hS3) fun hHeld => ?_
 clear hK
 refine wpAnyH_done (by kernel_rfl) ?_ _
 clear hHeld hS1 hS2 hS3 HSS
 go_wp2
 refine bodyPost_ret (v := .agg #[.slice A3 Q3.1.length c3, .slice B3 Q3.2.1.length d3, .int .i64 Q3.2.2]) (by simp [results, Tryz.results42, go_sem, o0, o1, o2]; try rfl) rfl ?_
 exact RetTo.box (slice_ne _ _ _) (slice_ne _ _ _) rfl rfl rfl HE.out (Nat.le_refl _) F2.out S5.out T5.out K2.out
theorem glue_e (H : Ej W bj bn ba bb op Q A1 A2 B1 B2 I1 I2 R S d a1 a2 b1 b2 i1 i2 rc sc nums a b inp ps s) (h1 : nums.length = 1) : Calls Tryz.prog 44 #[.pointer (some ⟨ba, 0, none⟩), .pointer (some ⟨bb, 0, none⟩), .pointer (some ⟨bn, 0, none⟩)] W (RetTo (tnE (glueV a.1 a.2 b.1 b.2 (nums.getD 0 0))) W) := by
 obtain ⟨x, rfl⟩ := Iz.one_list h1
 obtain ⟨aq, rfl, hlt, hc⟩ := H.rn.2 (by simp)
 have y0 : W.cell? aq = some (.int .i64 x) := by simpa [Addr.add] using hc 0 x rfl
 have xn0 : W.cell? ⟨bn, 0, none⟩ = some (.slice (some aq) 1 d) := H.n0
 have xp0 := H.p0
 have xp1 := H.p1
 have xq0 := H.q0
 have xq1 := H.q1
 obtain ⟨Q3, hQ⟩ := eX (glueV a.1 a.2 b.1 b.2 x)
 have HC : Hid (∀ V, Kp W V → Calls Tryz.prog 45 #[.agg #[.slice A1 a.1.length a1, .slice A2 a.2.length a2], .agg #[.slice B1 b.1.length b1, .slice B2 b.2.length b2], .int .i64 x] V (RetT Q3 V)) := fun V kV => by rw [hQ]; exact pjoin_any A1 A2 B1 B2 a1 a2 b1 b2 a.1 a.2 b.1 b.2 x V (H.ra.r.s.kp kV) (H.ra.r.d.kp kV) (H.rb.r.s.kp kV) (H.rb.r.d.kp kV)
 have HE : Hid (Q3.2.2 ≠ 0 → Q3.1 = [] ∧ Q3.2.1 = []) := by show _; rw [hQ]; exact er_glue a.1 a.2 b.1 b.2 x
 have HG : Hid (RetTo (tnE (glueV a.1 a.2 b.1 b.2 (([x] : List Int).getD 0 0))) W = RetTo (tnE Q3) W) := by rw [hQ]; rfl
 rw [HG.out]
 have HSS : Hid (∀ V, Kp W V → V.cell? ⟨ba, 0, none⟩ = some (.slice A1 a.1.length a1) ∧ V.cell? ⟨ba, 1, none⟩ = some (.slice A2 a.2.length a2) ∧ V.cell? ⟨bb, 0, none⟩ = some (.slice B1 b.1.length b1) ∧ V.cell? ⟨bb, 1, none⟩ = some (.slice B2 b.2.length b2) ∧ V.cell? ⟨bn, 0, none⟩ = some (.slice (some aq) 1 d) ∧ V.cell? aq = some (.int .i64 x)) := fun V kV => ⟨Iz.kp_cell xp0 kV, Iz.kp_cell xp1 kV, Iz.kp_cell xq0 kV, Iz.kp_cell xq1 kV, Iz.kp_cell xn0 kV, Iz.kp_cell y0 kV⟩
 have F0 : Hid (Bx (W.alloc (.cells #[.slice none 0 0, .slice none 0 0, .int .i64 0] 53)) W.heap.size [.slice none 0 0, .slice none 0 0, .int .i64 0] 53) := Bx.new rfl
 have K0 : Hid (Kp W (W.alloc (.cells #[.slice none 0 0, .slice none 0 0, .int .i64 0] 53))) := Kp.alloc_ _ _
 clear H hQ hc h1 hlt xp0 xp1 xq0 xq1 xn0 y0
 obtain ⟨W0, hW0⟩ := eX ((W.alloc (.cells #[.slice none 0 0, .slice none 0 0, .int .i64 0] 53)))
 rw [← hW0] at F0 K0
 have HW := lH hW0
 have K4 : Hid (Kp W0 W0.drew) := Below.drew (Kp.refl W0)
 have hS0 := HSS.out _ K0.out
 clear hW0
 go_enter Tryz.func44, Tryz.ntmps44
 go_wp2_with fail
 rw [← HW.out]
 refine wp_region_held_drew (S := fun V => V.cell? ⟨ba, 0, none⟩ = some (.slice A1 a.1.length a1) ∧ V.cell? ⟨ba, 1, none⟩ = some (.slice A2 a.2.length a2) ∧ V.cell? ⟨bb, 0, none⟩ = some (.slice B1 b.1.length b1) ∧ V.cell? ⟨bb, 1, none⟩ = some (.slice B2 b.2.length b2) ∧ V.cell? ⟨bn, 0, none⟩ = some (.slice (some aq) 1 d) ∧ V.cell? aq = some (.int .i64 x)) (by kernel_rfl) (HSS.out _ (Below.drew K0.out)) (fun hHeld => ?_)
 have hdr : Hid (Kp W W0.drew) := Below.drew K0.out
 have FB := lH (F0.out.kp K4.out)
 generalize W0.drew = V0 at hdr hHeld FB ⊢
 refine tK 0 (.agg #[.slice A1 a.1.length a1, .slice A2 a.2.length a2]) rfl hHeld <| tK 1 (.agg #[.slice B1 b.1.length b1, .slice B2 b.2.length b2]) rfl hHeld <| tK 2 (.slice (some aq) 1 d) rfl hHeld <| tK 3 (.pointer (some aq)) rfl hHeld <| tK 4 (.int .i64 x) rfl hHeld ?_
 refine rD 5 rfl fun K9_ hK => ?_
 go_simp
 refine (HC.out _ hdr.out).mono ?_; rintro e1 w1 ⟨A3, c3, B3, d3, rfl, s3, t3, k1⟩
 dsimp only
 have K1 := lH (hdr.out.tr k1)
 have F1 := lH (FB.out.kp k1)
 have S4 := lH s3; have T4 := lH t3
 have hS1 := HSS.out _ K1.out
 clear k1 s3 t3
 refine hK.out _ _ (hS1) fun hHeld => ?_
 clear hK
 refine tK 6 (.agg #[.slice A3 Q3.1.length c3, .slice B3 Q3.2.1.length d3]) rfl hHeld <| tK 7 (.int .i64 Q3.2.2) rfl hHeld ?_
 refine rD 8 rfl fun K9_ hK => ?_
 go_simp
 refine (tell_t _ _ _ _ _ _ _ _).mono ?_; rintro e2 w2 ⟨rfl, k2⟩
 dsimp only
 have K2 := lH (K1.out.tr k2)
 have F2 := lH (F1.out.kp k2)
 have S5 := lH (S4.out.kp k2); have T5 := lH (T4.out.kp k2)
 have hS2 := HSS.out _ K2.out
 clear k2
 refine hK.out _ _ (hS2) fun hHeld => ?_
 clear hK
 have o0 := F2.out.cell (j := 0) rfl
 have o1 := F2.out.cell (j := 1) rfl
 have o2 := F2.out.cell (j := 2) rfl
 have f0 := F2.out.frz 0
 have f1 := F2.out.frz 1
 have f2 := F2.out.frz 2
 have hS3 := HSS.out _ (((K2.out.setCell (p := ⟨W.heap.size, 0, none⟩) (Nat.le_refl _) (.slice A3 Q3.1.length c3)).setCell (p := ⟨W.heap.size, 1, none⟩) (Nat.le_refl _) (.slice B3 Q3.2.1.length d3)).setCell (p := ⟨W.heap.size, 2, none⟩) (Nat.le_refl _) (.int .i64 Q3.2.2))
 refine rD 9 rfl fun K9_ hK => ?_
 go_simp
 refine hK.out _ _ (hS3) fun hHeld => ?_
 clear hK
 refine wpAnyH_done (by kernel_rfl) ?_ _
 clear hHeld hS1 hS2 hS3 HSS
 go_wp2
 refine bodyPost_ret (v := .agg #[.slice A3 Q3.1.length c3, .slice B3 Q3.2.1.length d3, .int .i64 Q3.2.2]) (by simp [results, Tryz.results44, go_sem, o0, o1, o2]; try rfl) rfl ?_
 exact RetTo.box (slice_ne _ _ _) (slice_ne _ _ _) rfl rfl rfl HE.out (Nat.le_refl _) F2.out S5.out T5.out K2.out
theorem sum_e (H : Ej W bj bn ba bb op Q A1 A2 B1 B2 I1 I2 R S d a1 a2 b1 b2 i1 i2 rc sc nums a b inp ps s) (h1 : nums.length = 1) : Calls Tryz.prog 46 #[.pointer (some ⟨ba, 0, none⟩), .pointer (some ⟨bn, 0, none⟩)] W (RetTo (tnE (sumV a.1 a.2 (nums.getD 0 0))) W) := by
 obtain ⟨x, rfl⟩ := Iz.one_list h1
 obtain ⟨aq, rfl, hlt, hc⟩ := H.rn.2 (by simp)
 have y0 : W.cell? aq = some (.int .i64 x) := by simpa [Addr.add] using hc 0 x rfl
 have xn0 : W.cell? ⟨bn, 0, none⟩ = some (.slice (some aq) 1 d) := H.n0
 have xp0 := H.p0
 have xp1 := H.p1
 obtain ⟨Q3, hQ⟩ := eX (sumV a.1 a.2 x)
 have HC : Hid (∀ V, Kp W V → Calls Tryz.prog 47 #[.agg #[.slice A1 a.1.length a1, .slice A2 a.2.length a2], .int .i64 x] V (RetT Q3 V)) := fun V kV => by rw [hQ]; exact (psum_any A1 A2 a1 a2 a.1 a.2 x V ⟨H.ra.r.s.kp kV, H.ra.c1.1, H.ra.c1.2⟩ (H.ra.r.d.kp kV) H.na).mono fun _ _ r => r.weak
 have HE : Hid (Q3.2.2 ≠ 0 → Q3.1 = [] ∧ Q3.2.1 = []) := by show _; rw [hQ]; exact er_sum a.1 a.2 x
 have HG : Hid (RetTo (tnE (sumV a.1 a.2 (([x] : List Int).getD 0 0))) W = RetTo (tnE Q3) W) := by rw [hQ]; rfl
 rw [HG.out]
 have HSS : Hid (∀ V, Kp W V → V.cell? ⟨ba, 0, none⟩ = some (.slice A1 a.1.length a1) ∧ V.cell? ⟨ba, 1, none⟩ = some (.slice A2 a.2.length a2) ∧ V.cell? ⟨bn, 0, none⟩ = some (.slice (some aq) 1 d) ∧ V.cell? aq = some (.int .i64 x)) := fun V kV => ⟨Iz.kp_cell xp0 kV, Iz.kp_cell xp1 kV, Iz.kp_cell xn0 kV, Iz.kp_cell y0 kV⟩
 have F0 : Hid (Bx (W.alloc (.cells #[.slice none 0 0, .slice none 0 0, .int .i64 0] 53)) W.heap.size [.slice none 0 0, .slice none 0 0, .int .i64 0] 53) := Bx.new rfl
 have K0 : Hid (Kp W (W.alloc (.cells #[.slice none 0 0, .slice none 0 0, .int .i64 0] 53))) := Kp.alloc_ _ _
 clear H hQ hc h1 hlt xp0 xp1 xn0 y0
 obtain ⟨W0, hW0⟩ := eX ((W.alloc (.cells #[.slice none 0 0, .slice none 0 0, .int .i64 0] 53)))
 rw [← hW0] at F0 K0
 have HW := lH hW0
 have K4 : Hid (Kp W0 W0.drew) := Below.drew (Kp.refl W0)
 have hS0 := HSS.out _ K0.out
 clear hW0
 go_enter Tryz.func46, Tryz.ntmps46
 go_wp2_with fail
 rw [← HW.out]
 refine wp_region_held_drew (S := fun V => V.cell? ⟨ba, 0, none⟩ = some (.slice A1 a.1.length a1) ∧ V.cell? ⟨ba, 1, none⟩ = some (.slice A2 a.2.length a2) ∧ V.cell? ⟨bn, 0, none⟩ = some (.slice (some aq) 1 d) ∧ V.cell? aq = some (.int .i64 x)) (by kernel_rfl) (HSS.out _ (Below.drew K0.out)) (fun hHeld => ?_)
 have hdr : Hid (Kp W W0.drew) := Below.drew K0.out
 have FB := lH (F0.out.kp K4.out)
 generalize W0.drew = V0 at hdr hHeld FB ⊢
 refine tK 0 (.agg #[.slice A1 a.1.length a1, .slice A2 a.2.length a2]) rfl hHeld <| tK 1 (.slice (some aq) 1 d) rfl hHeld <| tK 2 (.pointer (some aq)) rfl hHeld <| tK 3 (.int .i64 x) rfl hHeld ?_
 refine rD 4 rfl fun K9_ hK => ?_
 go_simp
 refine (HC.out _ hdr.out).mono ?_; rintro e1 w1 ⟨A3, c3, B3, d3, rfl, s3, t3, k1⟩
 dsimp only
 have K1 := lH (hdr.out.tr k1)
 have F1 := lH (FB.out.kp k1)
 have S4 := lH s3; have T4 := lH t3
 have hS1 := HSS.out _ K1.out
 clear k1 s3 t3
 refine hK.out _ _ (hS1) fun hHeld => ?_
 clear hK
 refine tK 5 (.agg #[.slice A3 Q3.1.length c3, .slice B3 Q3.2.1.length d3]) rfl hHeld <| tK 6 (.int .i64 Q3.2.2) rfl hHeld ?_
 refine rD 7 rfl fun K9_ hK => ?_
 go_simp
 refine (tell_t _ _ _ _ _ _ _ _).mono ?_; rintro e2 w2 ⟨rfl, k2⟩
 dsimp only
 have K2 := lH (K1.out.tr k2)
 have F2 := lH (F1.out.kp k2)
 have S5 := lH (S4.out.kp k2); have T5 := lH (T4.out.kp k2)
 have hS2 := HSS.out _ K2.out
 clear k2
 refine hK.out _ _ (hS2) fun hHeld => ?_
 clear hK
 have o0 := F2.out.cell (j := 0) rfl
 have o1 := F2.out.cell (j := 1) rfl
 have o2 := F2.out.cell (j := 2) rfl
 have f0 := F2.out.frz 0
 have f1 := F2.out.frz 1
 have f2 := F2.out.frz 2
 have hS3 := HSS.out _ (((K2.out.setCell (p := ⟨W.heap.size, 0, none⟩) (Nat.le_refl _) (.slice A3 Q3.1.length c3)).setCell (p := ⟨W.heap.size, 1, none⟩) (Nat.le_refl _) (.slice B3 Q3.2.1.length d3)).setCell (p := ⟨W.heap.size, 2, none⟩) (Nat.le_refl _) (.int .i64 Q3.2.2))
 refine rD 8 rfl fun K9_ hK => ?_
 go_simp
 refine hK.out _ _ (hS3) fun hHeld => ?_
 clear hK
 refine wpAnyH_done (by kernel_rfl) ?_ _
 clear hHeld hS1 hS2 hS3 HSS
 go_wp2
 refine bodyPost_ret (v := .agg #[.slice A3 Q3.1.length c3, .slice B3 Q3.2.1.length d3, .int .i64 Q3.2.2]) (by simp [results, Tryz.results46, go_sem, o0, o1, o2]; try rfl) rfl ?_
 exact RetTo.box (slice_ne _ _ _) (slice_ne _ _ _) rfl rfl rfl HE.out (Nat.le_refl _) F2.out S5.out T5.out K2.out
theorem mean_e (H : Ej W bj bn ba bb op Q A1 A2 B1 B2 I1 I2 R S d a1 a2 b1 b2 i1 i2 rc sc nums a b inp ps s) (h1 : nums.length = 1) : Calls Tryz.prog 48 #[.pointer (some ⟨ba, 0, none⟩), .pointer (some ⟨bn, 0, none⟩)] W (RetTo (tnE (meanV a.1 a.2 (nums.getD 0 0))) W) := by
 obtain ⟨x, rfl⟩ := Iz.one_list h1
 obtain ⟨aq, rfl, hlt, hc⟩ := H.rn.2 (by simp)
 have y0 : W.cell? aq = some (.int .i64 x) := by simpa [Addr.add] using hc 0 x rfl
 have xn0 : W.cell? ⟨bn, 0, none⟩ = some (.slice (some aq) 1 d) := H.n0
 have xp0 := H.p0
 have xp1 := H.p1
 obtain ⟨Q3, hQ⟩ := eX (meanV a.1 a.2 x)
 have HC : Hid (∀ V, Kp W V → Calls Tryz.prog 49 #[.agg #[.slice A1 a.1.length a1, .slice A2 a.2.length a2], .int .i64 x] V (RetT Q3 V)) := fun V kV => by rw [hQ]; exact pmean_any A1 A2 a1 a2 a.1 a.2 x V ⟨H.ra.r.s.kp kV, H.ra.c1.1, H.ra.c1.2⟩ (H.ra.r.d.kp kV) H.na
 have HE : Hid (Q3.2.2 ≠ 0 → Q3.1 = [] ∧ Q3.2.1 = []) := by show _; rw [hQ]; exact er_mean a.1 a.2 x
 have HG : Hid (RetTo (tnE (meanV a.1 a.2 (([x] : List Int).getD 0 0))) W = RetTo (tnE Q3) W) := by rw [hQ]; rfl
 rw [HG.out]
 have HSS : Hid (∀ V, Kp W V → V.cell? ⟨ba, 0, none⟩ = some (.slice A1 a.1.length a1) ∧ V.cell? ⟨ba, 1, none⟩ = some (.slice A2 a.2.length a2) ∧ V.cell? ⟨bn, 0, none⟩ = some (.slice (some aq) 1 d) ∧ V.cell? aq = some (.int .i64 x)) := fun V kV => ⟨Iz.kp_cell xp0 kV, Iz.kp_cell xp1 kV, Iz.kp_cell xn0 kV, Iz.kp_cell y0 kV⟩
 have F0 : Hid (Bx (W.alloc (.cells #[.slice none 0 0, .slice none 0 0, .int .i64 0] 53)) W.heap.size [.slice none 0 0, .slice none 0 0, .int .i64 0] 53) := Bx.new rfl
 have K0 : Hid (Kp W (W.alloc (.cells #[.slice none 0 0, .slice none 0 0, .int .i64 0] 53))) := Kp.alloc_ _ _
 clear H hQ hc h1 hlt xp0 xp1 xn0 y0
 obtain ⟨W0, hW0⟩ := eX ((W.alloc (.cells #[.slice none 0 0, .slice none 0 0, .int .i64 0] 53)))
 rw [← hW0] at F0 K0
 have HW := lH hW0
 have K4 : Hid (Kp W0 W0.drew) := Below.drew (Kp.refl W0)
 have hS0 := HSS.out _ K0.out
 clear hW0
 go_enter Tryz.func48, Tryz.ntmps48
 go_wp2_with fail
 rw [← HW.out]
 refine wp_region_held_drew (S := fun V => V.cell? ⟨ba, 0, none⟩ = some (.slice A1 a.1.length a1) ∧ V.cell? ⟨ba, 1, none⟩ = some (.slice A2 a.2.length a2) ∧ V.cell? ⟨bn, 0, none⟩ = some (.slice (some aq) 1 d) ∧ V.cell? aq = some (.int .i64 x)) (by kernel_rfl) (HSS.out _ (Below.drew K0.out)) (fun hHeld => ?_)
 have hdr : Hid (Kp W W0.drew) := Below.drew K0.out
 have FB := lH (F0.out.kp K4.out)
 generalize W0.drew = V0 at hdr hHeld FB ⊢
 refine tK 0 (.agg #[.slice A1 a.1.length a1, .slice A2 a.2.length a2]) rfl hHeld <| tK 1 (.slice (some aq) 1 d) rfl hHeld <| tK 2 (.pointer (some aq)) rfl hHeld <| tK 3 (.int .i64 x) rfl hHeld ?_
 refine rD 4 rfl fun K9_ hK => ?_
 go_simp
 refine (HC.out _ hdr.out).mono ?_; rintro e1 w1 ⟨A3, c3, B3, d3, rfl, s3, t3, k1⟩
 dsimp only
 have K1 := lH (hdr.out.tr k1)
 have F1 := lH (FB.out.kp k1)
 have S4 := lH s3; have T4 := lH t3
 have hS1 := HSS.out _ K1.out
 clear k1 s3 t3
 refine hK.out _ _ (hS1) fun hHeld => ?_
 clear hK
 refine tK 5 (.agg #[.slice A3 Q3.1.length c3, .slice B3 Q3.2.1.length d3]) rfl hHeld <| tK 6 (.int .i64 Q3.2.2) rfl hHeld ?_
 refine rD 7 rfl fun K9_ hK => ?_
 go_simp
 refine (tell_t _ _ _ _ _ _ _ _).mono ?_; rintro e2 w2 ⟨rfl, k2⟩
 dsimp only
 have K2 := lH (K1.out.tr k2)
 have F2 := lH (F1.out.kp k2)
 have S5 := lH (S4.out.kp k2); have T5 := lH (T4.out.kp k2)
 have hS2 := HSS.out _ K2.out
 clear k2
 refine hK.out _ _ (hS2) fun hHeld => ?_
 clear hK
 have o0 := F2.out.cell (j := 0) rfl
 have o1 := F2.out.cell (j := 1) rfl
 have o2 := F2.out.cell (j := 2) rfl
 have f0 := F2.out.frz 0
 have f1 := F2.out.frz 1
 have f2 := F2.out.frz 2
 have hS3 := HSS.out _ (((K2.out.setCell (p := ⟨W.heap.size, 0, none⟩) (Nat.le_refl _) (.slice A3 Q3.1.length c3)).setCell (p := ⟨W.heap.size, 1, none⟩) (Nat.le_refl _) (.slice B3 Q3.2.1.length d3)).setCell (p := ⟨W.heap.size, 2, none⟩) (Nat.le_refl _) (.int .i64 Q3.2.2))
 refine rD 8 rfl fun K9_ hK => ?_
 go_simp
 refine hK.out _ _ (hS3) fun hHeld => ?_
 clear hK
 refine wpAnyH_done (by kernel_rfl) ?_ _
 clear hHeld hS1 hS2 hS3 HSS
 go_wp2
 refine bodyPost_ret (v := .agg #[.slice A3 Q3.1.length c3, .slice B3 Q3.2.1.length d3, .int .i64 Q3.2.2]) (by simp [results, Tryz.results48, go_sem, o0, o1, o2]; try rfl) rfl ?_
 exact RetTo.box (slice_ne _ _ _) (slice_ne _ _ _) rfl rfl rfl HE.out (Nat.le_refl _) F2.out S5.out T5.out K2.out
theorem max_e (H : Ej W bj bn ba bb op Q A1 A2 B1 B2 I1 I2 R S d a1 a2 b1 b2 i1 i2 rc sc nums a b inp ps s) (h1 : nums.length = 1) : Calls Tryz.prog 50 #[.pointer (some ⟨ba, 0, none⟩), .pointer (some ⟨bn, 0, none⟩)] W (RetTo (tnE (maxV a.1 a.2 (nums.getD 0 0))) W) := by
 obtain ⟨x, rfl⟩ := Iz.one_list h1
 obtain ⟨aq, rfl, hlt, hc⟩ := H.rn.2 (by simp)
 have y0 : W.cell? aq = some (.int .i64 x) := by simpa [Addr.add] using hc 0 x rfl
 have xn0 : W.cell? ⟨bn, 0, none⟩ = some (.slice (some aq) 1 d) := H.n0
 have xp0 := H.p0
 have xp1 := H.p1
 obtain ⟨Q3, hQ⟩ := eX (maxV a.1 a.2 x)
 have HC : Hid (∀ V, Kp W V → Calls Tryz.prog 51 #[.agg #[.slice A1 a.1.length a1, .slice A2 a.2.length a2], .int .i64 x] V (RetT Q3 V)) := fun V kV => by rw [hQ]; exact (pmax_any A1 A2 a1 a2 a.1 a.2 x V ⟨H.ra.r.s.kp kV, H.ra.c1.1, H.ra.c1.2⟩ (H.ra.r.d.kp kV) H.na).mono fun _ _ r => r.weak
 have HE : Hid (Q3.2.2 ≠ 0 → Q3.1 = [] ∧ Q3.2.1 = []) := by show _; rw [hQ]; exact er_max a.1 a.2 x
 have HG : Hid (RetTo (tnE (maxV a.1 a.2 (([x] : List Int).getD 0 0))) W = RetTo (tnE Q3) W) := by rw [hQ]; rfl
 rw [HG.out]
 have HSS : Hid (∀ V, Kp W V → V.cell? ⟨ba, 0, none⟩ = some (.slice A1 a.1.length a1) ∧ V.cell? ⟨ba, 1, none⟩ = some (.slice A2 a.2.length a2) ∧ V.cell? ⟨bn, 0, none⟩ = some (.slice (some aq) 1 d) ∧ V.cell? aq = some (.int .i64 x)) := fun V kV => ⟨Iz.kp_cell xp0 kV, Iz.kp_cell xp1 kV, Iz.kp_cell xn0 kV, Iz.kp_cell y0 kV⟩
 have F0 : Hid (Bx (W.alloc (.cells #[.slice none 0 0, .slice none 0 0, .int .i64 0] 53)) W.heap.size [.slice none 0 0, .slice none 0 0, .int .i64 0] 53) := Bx.new rfl
 have K0 : Hid (Kp W (W.alloc (.cells #[.slice none 0 0, .slice none 0 0, .int .i64 0] 53))) := Kp.alloc_ _ _
 clear H hQ hc h1 hlt xp0 xp1 xn0 y0
 obtain ⟨W0, hW0⟩ := eX ((W.alloc (.cells #[.slice none 0 0, .slice none 0 0, .int .i64 0] 53)))
 rw [← hW0] at F0 K0
 have HW := lH hW0
 have K4 : Hid (Kp W0 W0.drew) := Below.drew (Kp.refl W0)
 have hS0 := HSS.out _ K0.out
 clear hW0
 go_enter Tryz.func50, Tryz.ntmps50
 go_wp2_with fail
 rw [← HW.out]
 refine wp_region_held_drew (S := fun V => V.cell? ⟨ba, 0, none⟩ = some (.slice A1 a.1.length a1) ∧ V.cell? ⟨ba, 1, none⟩ = some (.slice A2 a.2.length a2) ∧ V.cell? ⟨bn, 0, none⟩ = some (.slice (some aq) 1 d) ∧ V.cell? aq = some (.int .i64 x)) (by kernel_rfl) (HSS.out _ (Below.drew K0.out)) (fun hHeld => ?_)
 have hdr : Hid (Kp W W0.drew) := Below.drew K0.out
 have FB := lH (F0.out.kp K4.out)
 generalize W0.drew = V0 at hdr hHeld FB ⊢
 refine tK 0 (.agg #[.slice A1 a.1.length a1, .slice A2 a.2.length a2]) rfl hHeld <| tK 1 (.slice (some aq) 1 d) rfl hHeld <| tK 2 (.pointer (some aq)) rfl hHeld <| tK 3 (.int .i64 x) rfl hHeld ?_
 refine rD 4 rfl fun K9_ hK => ?_
 go_simp
 refine (HC.out _ hdr.out).mono ?_; rintro e1 w1 ⟨A3, c3, B3, d3, rfl, s3, t3, k1⟩
 dsimp only
 have K1 := lH (hdr.out.tr k1)
 have F1 := lH (FB.out.kp k1)
 have S4 := lH s3; have T4 := lH t3
 have hS1 := HSS.out _ K1.out
 clear k1 s3 t3
 refine hK.out _ _ (hS1) fun hHeld => ?_
 clear hK
 refine tK 5 (.agg #[.slice A3 Q3.1.length c3, .slice B3 Q3.2.1.length d3]) rfl hHeld <| tK 6 (.int .i64 Q3.2.2) rfl hHeld ?_
 refine rD 7 rfl fun K9_ hK => ?_
 go_simp
 refine (tell_t _ _ _ _ _ _ _ _).mono ?_; rintro e2 w2 ⟨rfl, k2⟩
 dsimp only
 have K2 := lH (K1.out.tr k2)
 have F2 := lH (F1.out.kp k2)
 have S5 := lH (S4.out.kp k2); have T5 := lH (T4.out.kp k2)
 have hS2 := HSS.out _ K2.out
 clear k2
 refine hK.out _ _ (hS2) fun hHeld => ?_
 clear hK
 have o0 := F2.out.cell (j := 0) rfl
 have o1 := F2.out.cell (j := 1) rfl
 have o2 := F2.out.cell (j := 2) rfl
 have f0 := F2.out.frz 0
 have f1 := F2.out.frz 1
 have f2 := F2.out.frz 2
 have hS3 := HSS.out _ (((K2.out.setCell (p := ⟨W.heap.size, 0, none⟩) (Nat.le_refl _) (.slice A3 Q3.1.length c3)).setCell (p := ⟨W.heap.size, 1, none⟩) (Nat.le_refl _) (.slice B3 Q3.2.1.length d3)).setCell (p := ⟨W.heap.size, 2, none⟩) (Nat.le_refl _) (.int .i64 Q3.2.2))
 refine rD 8 rfl fun K9_ hK => ?_
 go_simp
 refine hK.out _ _ (hS3) fun hHeld => ?_
 clear hK
 refine wpAnyH_done (by kernel_rfl) ?_ _
 clear hHeld hS1 hS2 hS3 HSS
 go_wp2
 refine bodyPost_ret (v := .agg #[.slice A3 Q3.1.length c3, .slice B3 Q3.2.1.length d3, .int .i64 Q3.2.2]) (by simp [results, Tryz.results50, go_sem, o0, o1, o2]; try rfl) rfl ?_
 exact RetTo.box (slice_ne _ _ _) (slice_ne _ _ _) rfl rfl rfl HE.out (Nat.le_refl _) F2.out S5.out T5.out K2.out
end
end Go.Proofs.YtjkdcegmdfmjpaaGreat.Ez
