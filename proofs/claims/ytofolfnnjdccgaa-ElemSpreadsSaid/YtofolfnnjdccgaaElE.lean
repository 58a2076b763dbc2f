/- What Two of layer 4 answers. -/
import Derived.Test.YtofolfnnjdccgaaElD
namespace Go.Proofs.Ytofolfnnjdccgaa
open Go.RowKit Go.Proofs.ShM Go.Proofs.FixM
set_option linter.unusedVariables false

theorem spread_i64 {s xs g : List Int} (h : I64s xs) (k : Nat) : I64s (spreadL s xs g k) := by
  intro x hx
  unfold spreadL at hx
  obtain ⟨i, _, rfl⟩ := List.mem_map.1 hx
  cases hi : xs[(srcI s g i).toNat]? with
  | none => rw [List.getD, hi]; simp
  | some x => rw [List.getD, hi]; exact h.get hi
theorem join_spreads {s xs g ys j : List Int} (ht : tokV s xs = true) (hu : tokV g ys = true) (hj : joinV s g = (j, 0)) :
    spreadV s xs j = (j, spreadL s xs j (sizeV j).toNat, 0) ∧ spreadV g ys j = (j, spreadL g ys j (sizeV j).toNat, 0) :=
  have h := join_iff.1 hj
  ⟨TnG.spread_yes ht (fits_iff.2 h.left), TnG.spread_yes hu (fits_iff.2 h.right)⟩

/-- The blocks of Two: the tensors', the answer's. -/
structure Tw (w : World) (A : Option Addr) (n c : Nat) (B : Option Addr) (m d : Nat) (C : Option Addr) (n' c' : Nat) (D : Option Addr) (m' d' : Nat) (W : World) : Prop where
  a : Bk W w.heap.size A n c B m d
  b : Bk W (w.heap.size + 1) C n' c' D m' d'
  o : Bk W (w.heap.size + 1 + 1) none 0 0 none 0 0
  k : Kp w W
section
variable {w W W' : World} {A B C D : Option Addr} {n c m d n' c' m' d' : Nat}
theorem Tw.tr (h : Tw w A n c B m d C n' c' D m' d' W) (k : Kp W W') : Tw w A n c B m d C n' c' D m' d' W' := ⟨h.a.kp k, h.b.kp k, h.o.kp k, h.k.tr k⟩
theorem Tw.al (h : Tw w A n c B m d C n' c' D m' d' W) (o : Obj) : Tw w A n c B m d C n' c' D m' d' (W.alloc o) := h.tr (Kp.alloc_ _ _)
theorem Tw.mk_ (w : World) (A : Option Addr) (n c : Nat) (B : Option Addr) (m d : Nat) (C : Option Addr) (n' c' : Nat) (D : Option Addr) (m' d' : Nat) : Tw w A n c B m d C n' c' D m' d'
    (((w.alloc (.cells #[.slice A n c, .slice B m d] 24)).alloc (.cells #[.slice C n' c', .slice D m' d'] 24)).alloc (.cells #[.slice none 0 0, .slice none 0 0] 24)) :=
  ⟨((Bk.new rfl).alloc_ _).alloc_ _, (Bk.new (by simp)).alloc_ _, Bk.new (by simp), ((Kp.alloc_ _ _).al _).al _⟩
end
/-- A cell that holds a function. -/
def Fc (W : World) (b : Nat) (n : Nat) : Prop := W.cell? ⟨b, 0, none⟩ = some (.func (.func n) #[] #[]) ∧ b < W.heap.size
theorem Fc.kp {W W' : World} {b n : Nat} (h : Fc W b n) (k : Kp W W') : Fc W' b n := ⟨(k.cell (p := ⟨b, 0, none⟩) h.2).trans h.1, Nat.lt_of_lt_of_le h.2 k.size⟩
theorem Fc.new (W : World) (n : Nat) (t : TypeId) : Fc (W.alloc (.cells #[.func (.func n) #[] #[]] t)) W.heap.size n := ⟨by simp, by simp⟩

set_option maxHeartbeats 2000000 in
theorem two_op {op : Int} (A B C D : Option Addr) (c d c' d' : Nat) (s xs g ys : List Int) (w : World) (hop : op < 10 ∨ 13 < op) :
    Calls Try.prog 14 #[.int .i64 op, .agg #[.slice A s.length c, .slice B xs.length d], .agg #[.slice C g.length c', .slice D ys.length d']] w (RetT (twoV op s xs g ys) w) := by
  obtain ⟨v, hv⟩ := two_nofn hop
  have HO : Hid (twoV op s xs g ys = ([], [], 1)) := by show twoV op s xs g ys = _; unfold twoV; rw [if_pos hop]
  clear hop
  have hfd := field_1
  have heq := eql_nofunc Try.underlying36
  go_enter Try.func14, Try.ntmps14
  go_wp2_with fail
  refine (kinds_any _).mono ?_; rintro e w1 ⟨b, rfl, hmd, k1⟩
  have TW : Hid (Tw w A s.length c B xs.length d C g.length c' D ys.length d' w1) := (Tw.mk_ w A s.length c B xs.length d C g.length c' D ys.length d').tr k1
  clear k1
  have o0 := TW.out.o.c0
  have o1 := TW.out.o.c1
  have o2 := TW.out.o.lt
  have p0 := TW.out.o.f0 0
  have p1 := TW.out.o.f0 1
  go_wp2_with (at_lookup; refine wpList_getM rfl _ _ rfl op rfl rfl hmd _ hv ?_)
  refine bodyPost_ret (v := .tuple #[.agg #[.slice none 0 0, .slice none 0 0], .int .i64 1]) (by simp [results, Try.results14, go_sem, o0, o1, o2]) rfl ?_
  exact RetT.err HO.out (Kp.al ((TW.out.k.setCell (p := ⟨w.heap.size + 1 + 1, 0, none⟩) (Nat.le_succ_of_le (Nat.le_succ _)) _).setCell (p := ⟨w.heap.size + 1 + 1, 1, none⟩) (Nat.le_succ_of_le (Nat.le_succ _)) _) _)

set_option maxHeartbeats 2000000 in
theorem two_toka {op : Int} (A B C D : Option Addr) (c d c' d' : Nat) (s xs g ys : List Int) (w : World) (hA : Rd w A s) (hB : Rd w B xs) (hC : Rd w C g) (hD : Rd w D ys) (hop : 10 ≤ op ∧ op ≤ 13) (ht : tokV s xs = false) :
    Calls Try.prog 14 #[.int .i64 op, .agg #[.slice A s.length c, .slice B xs.length d], .agg #[.slice C g.length c', .slice D ys.length d']] w (RetT (twoV op s xs g ys) w) := by
  obtain ⟨n, hv, _, _⟩ := two_fn hop
  have HO : Hid (twoV op s xs g ys = ([], [], 30)) := by show twoV op s xs g ys = _; unfold twoV; rw [if_neg (by omega), if_pos (.inl ht)]
  have HC := Lib.hid (fun W (k : Kp w W) => tcheck_any A B c d s xs W (hA.kp k) (hB.kp k))
  rw [ht] at HC
  clear hA hB hC hD ht hop
  have hfd := field_1
  have heq := eql_func Try.underlying36 (.func n) #[] #[]
  go_enter Try.func14, Try.ntmps14
  go_wp2_with fail
  refine (kinds_any _).mono ?_; rintro e w1 ⟨b, rfl, hmd, k1⟩
  have TW : Hid (Tw w A s.length c B xs.length d C g.length c' D ys.length d' w1) := (Tw.mk_ w A s.length c B xs.length d C g.length c' D ys.length d').tr k1
  clear k1
  have a0 := TW.out.a.c0
  have a1 := TW.out.a.c1
  have a2 := TW.out.a.lt
  go_wp2_with (at_lookup; refine wpList_getM rfl _ _ rfl op rfl rfl hmd _ hv ?_)
  refine (HC.out _ (TW.out.k.al _)).mono ?_; rintro e w2 ⟨rfl, k2⟩
  have TW := Lib.hid ((TW.out.al _).tr k2)
  clear a0 a1 a2 k2 hmd
  have o0 := TW.out.o.c0
  have o1 := TW.out.o.c1
  have o2 := TW.out.o.lt
  have p0 := TW.out.o.f0 0
  have p1 := TW.out.o.f0 1
  go_wp2
  refine bodyPost_ret (v := .tuple #[.agg #[.slice none 0 0, .slice none 0 0], .int .i64 30]) (by simp [results, Try.results14, go_sem, o0, o1]) rfl ?_
  exact RetT.out_ HO.out (Nat.le_succ_of_le (Nat.le_succ _)) TW.out.k

set_option maxHeartbeats 2000000 in
theorem two_tokb {op : Int} (A B C D : Option Addr) (c d c' d' : Nat) (s xs g ys : List Int) (w : World) (hA : Rd w A s) (hB : Rd w B xs) (hC : Rd w C g) (hD : Rd w D ys) (hop : 10 ≤ op ∧ op ≤ 13) (ht : tokV s xs = true) (hu : tokV g ys = false) :
    Calls Try.prog 14 #[.int .i64 op, .agg #[.slice A s.length c, .slice B xs.length d], .agg #[.slice C g.length c', .slice D ys.length d']] w (RetT (twoV op s xs g ys) w) := by
  obtain ⟨n, hv, _, _⟩ := two_fn hop
  have HO : Hid (twoV op s xs g ys = ([], [], 30)) := by show twoV op s xs g ys = _; unfold twoV; rw [if_neg (by omega), if_pos (.inr hu)]
  have HC := Lib.hid (fun W (k : Kp w W) => tcheck_any A B c d s xs W (hA.kp k) (hB.kp k))
  rw [ht] at HC
  have HD := Lib.hid (fun W (k : Kp w W) => tcheck_any C D c' d' g ys W (hC.kp k) (hD.kp k))
  rw [hu] at HD
  clear hA hB hC hD ht hu hop
  have hfd := field_1
  have heq := eql_func Try.underlying36 (.func n) #[] #[]
  go_enter Try.func14, Try.ntmps14
  go_wp2_with fail
  refine (kinds_any _).mono ?_; rintro e w1 ⟨b, rfl, hmd, k1⟩
  have TW : Hid (Tw w A s.length c B xs.length d C g.length c' D ys.length d' w1) := (Tw.mk_ w A s.length c B xs.length d C g.length c' D ys.length d').tr k1
  clear k1
  have a0 := TW.out.a.c0
  have a1 := TW.out.a.c1
  have a2 := TW.out.a.lt
  go_wp2_with (at_lookup; refine wpList_getM rfl _ _ rfl op rfl rfl hmd _ hv ?_)
  refine (HC.out _ (TW.out.k.al _)).mono ?_; rintro e w2 ⟨rfl, k2⟩
  have TW := Lib.hid ((TW.out.al _).tr k2)
  clear a0 a1 a2 k2 hmd
  have b0 := TW.out.b.c0
  have b1 := TW.out.b.c1
  have b2 := TW.out.b.lt
  go_wp2_with fail
  refine (HD.out _ TW.out.k).mono ?_; rintro e w3 ⟨rfl, k3⟩
  have TW := Lib.hid (TW.out.tr k3)
  clear b0 b1 b2 k3
  have o0 := TW.out.o.c0
  have o1 := TW.out.o.c1
  have o2 := TW.out.o.lt
  have p0 := TW.out.o.f0 0
  have p1 := TW.out.o.f0 1
  go_wp2
  refine bodyPost_ret (v := .tuple #[.agg #[.slice none 0 0, .slice none 0 0], .int .i64 30]) (by simp [results, Try.results14, go_sem, o0, o1]) rfl ?_
  exact RetT.out_ HO.out (Nat.le_succ_of_le (Nat.le_succ _)) TW.out.k

set_option maxHeartbeats 2000000 in
theorem two_join {op : Int} (A B C D : Option Addr) (c d c' d' : Nat) (s xs g ys : List Int) (w : World) (hA : Rd w A s) (hB : Rd w B xs) (hC : Rd w C g) (hD : Rd w D ys) (hop : 10 ≤ op ∧ op ≤ 13) (ht : tokV s xs = true) (hu : tokV g ys = true) (hj : joinV s g = ([], 20)) :
    Calls Try.prog 14 #[.int .i64 op, .agg #[.slice A s.length c, .slice B xs.length d], .agg #[.slice C g.length c', .slice D ys.length d']] w (RetT (twoV op s xs g ys) w) := by
  obtain ⟨n, hv, _, _⟩ := two_fn hop
  have HO : Hid (twoV op s xs g ys = ([], [], 20)) := by show twoV op s xs g ys = _; unfold twoV; rw [if_neg (by omega), if_neg (by simp [ht, hu]), hj]; rfl
  have hl := hA.len
  have hl2 := hC.len
  have HC := Lib.hid (fun W (k : Kp w W) => tcheck_any A B c d s xs W (hA.kp k) (hB.kp k))
  rw [ht] at HC
  have HD := Lib.hid (fun W (k : Kp w W) => tcheck_any C D c' d' g ys W (hC.kp k) (hD.kp k))
  rw [hu] at HD
  have HJ := Lib.hid (fun W (k : Kp w W) => join_any A C c c' s g W (hA.kp k) (hC.kp k))
  rw [hj] at HJ
  clear hA hB hC hD ht hu hop hj
  have hfd := field_1
  have heq := eql_func Try.underlying36 (.func n) #[] #[]
  go_enter Try.func14, Try.ntmps14
  go_wp2_with fail
  refine (kinds_any _).mono ?_; rintro e w1 ⟨b, rfl, hmd, k1⟩
  have TW : Hid (Tw w A s.length c B xs.length d C g.length c' D ys.length d' w1) := (Tw.mk_ w A s.length c B xs.length d C g.length c' D ys.length d').tr k1
  clear k1
  have a0 := TW.out.a.c0
  have a1 := TW.out.a.c1
  have a2 := TW.out.a.lt
  go_wp2_with (at_lookup; refine wpList_getM rfl _ _ rfl op rfl rfl hmd _ hv ?_)
  refine (HC.out _ (TW.out.k.al _)).mono ?_; rintro e w2 ⟨rfl, k2⟩
  have TW := Lib.hid ((TW.out.al _).tr k2)
  clear a0 a1 a2 k2 hmd
  have b0 := TW.out.b.c0
  have b1 := TW.out.b.c1
  have b2 := TW.out.b.lt
  go_wp2_with fail
  refine (HD.out _ TW.out.k).mono ?_; rintro e w3 ⟨rfl, k3⟩
  have TW := Lib.hid (TW.out.tr k3)
  clear b0 b1 b2 k3
  have a0 := TW.out.a.c0
  have a1 := TW.out.a.c1
  have a2 := TW.out.a.lt
  have b0 := TW.out.b.c0
  have b1 := TW.out.b.c1
  have b2 := TW.out.b.lt
  go_wp2_with fail
  refine (HJ.out _ TW.out.k).mono ?_; rintro e w4 ⟨AJ, cJ, rfl, oJ, k4⟩
  have TW := Lib.hid (TW.out.tr k4)
  clear a0 a1 a2 b0 b1 b2 k4 oJ
  have o0 := TW.out.o.c0
  have o1 := TW.out.o.c1
  have o2 := TW.out.o.lt
  have p0 := TW.out.o.f0 0
  have p1 := TW.out.o.f0 1
  go_wp2
  refine bodyPost_ret (v := .tuple #[.agg #[.slice none 0 0, .slice none 0 0], .int .i64 20]) (by simp [results, Try.results14, go_sem, o0, o1]) rfl ?_
  exact RetT.out_ HO.out (Nat.le_succ_of_le (Nat.le_succ _)) TW.out.k

set_option maxHeartbeats 4000000 in
theorem two_ok {op : Int} (A B C D : Option Addr) (c d c' d' : Nat) (s xs g ys : List Int) (w : World) (hA : Rd w A s) (hB : Rd w B xs) (hC : Rd w C g) (hD : Rd w D ys) (hi : I64s xs) (hi2 : I64s ys) (hop : 10 ≤ op ∧ op ≤ 13) (ht : tokV s xs = true) (hu : tokV g ys = true) {j : List Int} (hj : joinV s g = (j, 0)) :
    Calls Try.prog 14 #[.int .i64 op, .agg #[.slice A s.length c, .slice B xs.length d], .agg #[.slice C g.length c', .slice D ys.length d']] w (RetT (twoV op s xs g ys) w) := by
  obtain ⟨n, hv, HF, HN⟩ := two_fn hop
  have hl := hA.len
  have hl2 := hC.len
  obtain ⟨e1, e2⟩ := join_spreads ht hu hj
  have HO : Hid (twoV op s xs g ys = if (two2 op (spreadL s xs j (sizeV j).toNat) (spreadL g ys j (sizeV j).toNat)).2 = 0 then (j, (two2 op (spreadL s xs j (sizeV j).toNat) (spreadL g ys j (sizeV j).toNat)).1, 0) else ([], [], (two2 op (spreadL s xs j (sizeV j).toNat) (spreadL g ys j (sizeV j).toNat)).2)) := by
    show twoV op s xs g ys = _
    unfold twoV
    rw [if_neg (by omega), if_neg (by simp [ht, hu]), hj]
    dsimp only
    rw [if_neg (by simp), e1, e2]
  have HC := Lib.hid (fun W (k : Kp w W) => tcheck_any A B c d s xs W (hA.kp k) (hB.kp k))
  rw [ht] at HC
  have HD := Lib.hid (fun W (k : Kp w W) => tcheck_any C D c' d' g ys W (hC.kp k) (hD.kp k))
  rw [hu] at HD
  have HJ := Lib.hid (fun W (k : Kp w W) => join_any A C c c' s g W (hA.kp k) (hC.kp k))
  rw [hj] at HJ
  have i1 := spread_i64 (s := s) (g := j) hi (sizeV j).toNat
  have i2 := spread_i64 (s := g) (g := j) hi2 (sizeV j).toNat
  have l1 := spread_len s xs j (sizeV j).toNat
  have l2 := spread_len g ys j (sizeV j).toNat
  have HR := Lib.hid (And.intro (TR.mk hA hB) (TR.mk hC hD))
  unfold two2 at HO
  generalize hX : spreadL s xs j (sizeV j).toNat = X at HO e1 i1 l1
  generalize hY : spreadL g ys j (sizeV j).toNat = Y at HO e2 i2 l2
  have HX : Hid ((∀ args W, (callFunc n args).run Try.prog W = .ok (.enter n args) W) ∧ ∀ x y, x ∈ X → y ∈ Y → ∀ W, Calls Try.prog n #[.int .i64 x, .int .i64 y] W fun e W' => e = .returned (.tuple #[.int .i64 (numsV op x y).1, .int .i64 (numsV op x y).2]) ∧ Kp W W') :=
    ⟨HF, fun x y hx hy W => HN x y (i1 x hx) (i2 y hy) W⟩
  obtain ⟨f, hf⟩ : ∃ f : Int × Int → Int × Int, f = fun p => numsV op p.1 p.2 := ⟨_, rfl⟩
  have HX : Hid ((∀ args W, (callFunc n args).run Try.prog W = .ok (.enter n args) W) ∧ ∀ x y, x ∈ X → y ∈ Y → ∀ W, Calls Try.prog n #[.int .i64 x, .int .i64 y] W fun e W' => e = .returned (.tuple #[.int .i64 (f (x, y)).1, .int .i64 (f (x, y)).2]) ∧ Kp W W') := by
    rw [hf]; exact HX
  rw [← hf] at HO
  have HE := Lib.hid (And.intro e1 e2)
  have HLN : Hid (X.length = Y.length ∧ (sizeV j).toNat = (X.zip Y).length) := by
    refine Lib.hid ⟨by rw [l1, l2], ?_⟩
    rw [List.length_zip, l1, l2, Nat.min_self]
  clear hX hY i1 i2 l1 l2 hf HF HN hA hB hC hD ht hu hop hj e1 e2 hi hi2
  have hfd := field_1
  have heq := eql_func Try.underlying36 (.func n) #[] #[]
  go_enter Try.func14, Try.ntmps14
  go_wp2_with fail
  refine (kinds_any _).mono ?_; rintro e w1 ⟨b, rfl, hmd, k1⟩
  have TW : Hid (Tw w A s.length c B xs.length d C g.length c' D ys.length d' w1) := (Tw.mk_ w A s.length c B xs.length d C g.length c' D ys.length d').tr k1
  clear k1
  have a0 := TW.out.a.c0
  have a1 := TW.out.a.c1
  have a2 := TW.out.a.lt
  go_wp2_with (at_lookup; refine wpList_getM rfl _ _ rfl op rfl rfl hmd _ hv ?_)
  have TF := Lib.hid (Fc.new w1 n 36)
  refine (HC.out _ (TW.out.k.al _)).mono ?_; rintro e w2 ⟨rfl, k2⟩
  have TW := Lib.hid ((TW.out.al _).tr k2)
  have TF := Lib.hid (TF.out.kp k2)
  clear a0 a1 a2 k2 hmd
  have b0 := TW.out.b.c0
  have b1 := TW.out.b.c1
  have b2 := TW.out.b.lt
  go_wp2_with fail
  refine (HD.out _ TW.out.k).mono ?_; rintro e w3 ⟨rfl, k3⟩
  have TW := Lib.hid (TW.out.tr k3)
  have TF := Lib.hid (TF.out.kp k3)
  clear b0 b1 b2 k3
  have a0 := TW.out.a.c0
  have a1 := TW.out.a.c1
  have a2 := TW.out.a.lt
  have b0 := TW.out.b.c0
  have b1 := TW.out.b.c1
  have b2 := TW.out.b.lt
  go_wp2_with fail
  refine (HJ.out _ TW.out.k).mono ?_; rintro e w4 ⟨AJ, cJ, rfl, oJ, k4⟩
  have TW := Lib.hid (TW.out.tr k4)
  have TF := Lib.hid (TF.out.kp k4)
  have OJ : Hid (Rd w4 AJ j) := oJ.rd
  clear a0 a1 a2 b0 b1 b2 k4 oJ
  have a0 := TW.out.a.c0
  have a1 := TW.out.a.c1
  have a2 := TW.out.a.lt
  go_wp2_with fail
  refine (spread_u s xs j (HR.out.1.kp TW.out.k) OJ.out rfl rfl rfl HE.out.1 rfl rfl).mono ?_; rintro e w5 ⟨A5, c5, B5, d5, rfl, r5, k5⟩
  have TW := Lib.hid (TW.out.tr k5)
  have TF := Lib.hid (TF.out.kp k5)
  have OJ := Lib.hid (OJ.out.kp k5)
  have R5 := Lib.hid r5
  clear a0 a1 a2 k5 r5
  have b0 := TW.out.b.c0
  have b1 := TW.out.b.c1
  have b2 := TW.out.b.lt
  go_wp2_with fail
  refine (spread_u g ys j ((HR.out.2.kp TW.out.k).alloc_ _) (OJ.out.alloc_ _) rfl rfl rfl HE.out.2 rfl rfl).mono ?_; rintro e w6 ⟨A6, c6, B6, d6, rfl, r6, k6⟩
  have BX : Hid (Bk w6 w5.heap.size A5 j.length c5 B5 X.length d5) := (Bk.new rfl).kp k6
  have TW := Lib.hid ((TW.out.al _).tr k6)
  have TF := Lib.hid ((TF.out.kp (Kp.alloc_ _ _)).kp k6)
  have OJ := Lib.hid ((OJ.out.alloc_ _).kp k6)
  have R5 := Lib.hid ((R5.out.alloc_ _).kp k6)
  have R6 := Lib.hid r6
  clear b0 b1 b2 k6 r6
  go_wp2_with fail
  have hkx : Kp w6 (w6.alloc (.cells #[.slice A6 j.length c6, .slice B6 Y.length d6] 24)) := Kp.alloc_ _ _
  have BY : Hid (Bk (w6.alloc (.cells #[.slice A6 j.length c6, .slice B6 Y.length d6] 24)) w6.heap.size A6 j.length c6 B6 Y.length d6) := Bk.new rfl
  have BX := Lib.hid (BX.out.kp hkx)
  have TW := Lib.hid (TW.out.tr hkx)
  have TF := Lib.hid (TF.out.kp hkx)
  have OJ := Lib.hid (OJ.out.kp hkx)
  have R5 := Lib.hid (R5.out.kp hkx)
  have R6 := Lib.hid (R6.out.kp hkx)
  clear hkx
  refine (each_three f (X.zip Y) _ _ j 29 ⟨w1.heap.size, 0, none⟩ ⟨w5.heap.size, 0, none⟩ ⟨w6.heap.size, 0, none⟩ _ OJ.out HLN.out.2
    (two1_tells f X Y n _ _ _ _ _ _ _ _ R5.out.d R6.out.d HLN.out.1 TF.out.1 BX.out.c1 BY.out.c1 TF.out.2 BX.out.lt BY.out.lt HX.out.1 HX.out.2) (fun args W => MuLone.run_callFunc_enter Try.func29 (by kernel_rfl) rfl args W)).mono ?_
  rintro e w7 ⟨A7, c7, B7, d7, rfl, r7, q7, k7⟩
  have TW := Lib.hid (TW.out.tr k7)
  have R7 := Lib.hid (And.intro r7 q7)
  clear k7 r7 q7
  rw [← HO.out] at R7 ⊢
  obtain ⟨⟨l, k, er⟩, hlk⟩ : ∃ r, twoV op s xs g ys = r := ⟨_, rfl⟩
  rw [hlk] at R7 ⊢
  have o0 := TW.out.o.c0
  have o1 := TW.out.o.c1
  have p0 := TW.out.o.f0 0
  have p1 := TW.out.o.f0 1
  dsimp only at R7 ⊢
  go_wp2
  refine bodyPost_ret (v := .tuple #[.agg #[.slice A7 l.length c7, .slice B7 k.length d7], .int .i64 er]) (by simp [results, Try.results14, go_sem, o0, o1]) rfl ?_
  exact RetT.put_ hlk (Nat.le_succ_of_le (Nat.le_succ _)) R7.out.1 R7.out.2 TW.out.o TW.out.k

theorem two_any (op : Int) (A B C D : Option Addr) (c d c' d' : Nat) (s xs g ys : List Int) (w : World) (hA : Rd w A s) (hB : Rd w B xs) (hC : Rd w C g) (hD : Rd w D ys) (hi : I64s xs) (hi2 : I64s ys) :
    Calls Try.prog 14 #[.int .i64 op, .agg #[.slice A s.length c, .slice B xs.length d], .agg #[.slice C g.length c', .slice D ys.length d']] w (RetT (twoV op s xs g ys) w) := by
  by_cases hop : op < 10 ∨ 13 < op
  · exact two_op A B C D c d c' d' s xs g ys w hop
  · cases ht : tokV s xs with
    | false => exact two_toka A B C D c d c' d' s xs g ys w hA hB hC hD (by omega) ht
    | true =>
      cases hu : tokV g ys with
      | false => exact two_tokb A B C D c d c' d' s xs g ys w hA hB hC hD (by omega) ht hu
      | true =>
        rcases join_cases s g with ⟨j, hj, _⟩ | hj
        · exact two_ok A B C D c d c' d' s xs g ys w hA hB hC hD hi hi2 (by omega) ht hu hj
        · exact two_join A B C D c d c' d' s xs g ys w hA hB hC hD (by omega) ht hu hj
end Go.Proofs.Ytofolfnnjdccgaa
