/- What One of layer 4 answers. -/
import Derived.Test.YtofolfnnjdccgaaElC
import Derived.Test.YtofolfnnjdccgaaFxAll
import Derived.Conc.MuLone
import Derived.Laws.EntriesVeiled
namespace Go.Proofs.Ytofolfnnjdccgaa
open Go.RowKit Go.Proofs.ShM Go.Proofs.FixM

set_option maxHeartbeats 400000 in
theorem relu_any (x : Int) (W : World) : Calls Try.prog 46 #[.int .i64 x] W fun e W' => e = .returned (.tuple #[.int .i64 (max x 0), .int .i64 0]) ∧ Kp W W' := by
  have hmax : ∀ (W : World) (ts : Array TypeId) (t : TypeId), (Builtin.max_ ts t #[.int .i64 x, .int .i64 0]).run Try.prog W = .ok (.int .i64 (max x 0)) W := by
    intro W ts t
    by_cases h : 0 < x
    · have e : max x 0 = x := by omega
      rw [e]
      go_simp
      omega
    · have e : max x 0 = 0 := by omega
      rw [e]
      go_simp
      omega
  generalize max x 0 = y at hmax
  go_enter Try.func46, Try.ntmps46
  go_wp2
  go_ret2
  exact ⟨rfl, Kp.refl _⟩

theorem one_fn {op : Int} (h : 20 ≤ op ∧ op ≤ 23) : ∃ n, (atM kindsL op).getD (.agg #[.nilFunc, .nilFunc]) = .agg #[.func (.func n) #[] #[], .nilFunc] ∧ (∀ args W, (callFunc n args).run Try.prog W = .ok (.enter n args) W) ∧
    ∀ x, I64 x → ∀ W, Calls Try.prog n #[.int .i64 x] W fun e W' => e = .returned (.tuple #[.int .i64 (numV op x).1, .int .i64 (numV op x).2]) ∧ Kp W W' := by
  have hc : op = 20 ∨ op = 21 ∨ op = 22 ∨ op = 23 := by omega
  rcases hc with rfl | rfl | rfl | rfl
  · exact ⟨45, rfl, fun args W => MuLone.run_callFunc_enter Try.func45 (by kernel_rfl) rfl args W, fun x hx W => (Fx.neg_any x hx W).mono fun e w' ⟨h1, h2⟩ => ⟨h1, h2 ▸ Kp.refl _⟩⟩
  · exact ⟨46, rfl, fun args W => MuLone.run_callFunc_enter Try.func46 (by kernel_rfl) rfl args W, fun x hx W => relu_any x W⟩
  · exact ⟨47, rfl, fun args W => MuLone.run_callFunc_enter Try.func47 (by kernel_rfl) rfl args W, fun x hx W => (Fx.pow_any x hx W).mono fun e w' ⟨h1, h2⟩ => ⟨h1, h2.below⟩⟩
  · exact ⟨48, rfl, fun args W => MuLone.run_callFunc_enter Try.func48 (by kernel_rfl) rfl args W, fun x hx W => (Fx.sqrt_any x hx W).mono fun e w' ⟨h1, h2⟩ => ⟨h1, h2.below⟩⟩
theorem atM_none {L : List (Int × Value)} {k : Int} (h : ∀ x ∈ L, k ≠ x.1) : atM L k = none := by
  induction L with
  | nil => rfl
  | cons x L ih => obtain ⟨j, v⟩ := x; simp only [atM]; rw [if_neg (h (j, v) (by simp))]; exact ih fun y hy => h y (by simp [hy])
theorem one_nofn {op : Int} (h : op < 20 ∨ 23 < op) : ∃ v, (atM kindsL op).getD (.agg #[.nilFunc, .nilFunc]) = .agg #[.nilFunc, v] := by
  by_cases hc : op = 10 ∨ op = 11 ∨ op = 12 ∨ op = 13
  · rcases hc with rfl | rfl | rfl | rfl <;> exact ⟨_, rfl⟩
  · exact ⟨.nilFunc, by rw [atM_none (by unfold kindsL; simp; omega)]; rfl⟩
theorem two_fn {op : Int} (h : 10 ≤ op ∧ op ≤ 13) : ∃ n, (atM kindsL op).getD (.agg #[.nilFunc, .nilFunc]) = .agg #[.nilFunc, .func (.func n) #[] #[]] ∧ (∀ args W, (callFunc n args).run Try.prog W = .ok (.enter n args) W) ∧
    ∀ x y, I64 x → I64 y → ∀ W, Calls Try.prog n #[.int .i64 x, .int .i64 y] W fun e W' => e = .returned (.tuple #[.int .i64 (numsV op x y).1, .int .i64 (numsV op x y).2]) ∧ Kp W W' := by
  have hc : op = 10 ∨ op = 11 ∨ op = 12 ∨ op = 13 := by omega
  rcases hc with rfl | rfl | rfl | rfl
  · exact ⟨42, rfl, fun args W => MuLone.run_callFunc_enter Try.func42 (by kernel_rfl) rfl args W, fun x y hx hy W => (Fx.add_any x y hx hy W).mono fun e w' ⟨h1, h2⟩ => ⟨h1, h2 ▸ Kp.refl _⟩⟩
  · exact ⟨43, rfl, fun args W => MuLone.run_callFunc_enter Try.func43 (by kernel_rfl) rfl args W, fun x y hx hy W => (Fx.sub_any x y hx hy W).mono fun e w' ⟨h1, h2⟩ => ⟨h1, h2 ▸ Kp.refl _⟩⟩
  · exact ⟨20, rfl, fun args W => MuLone.run_callFunc_enter Try.func20 (by kernel_rfl) rfl args W, fun x y hx hy W => (Fx.mul_any x y hx hy W).mono fun e w' ⟨h1, h2⟩ => ⟨h1, h2.below⟩⟩
  · exact ⟨44, rfl, fun args W => MuLone.run_callFunc_enter Try.func44 (by kernel_rfl) rfl args W, fun x y hx hy W => (Fx.div_any x y hx hy W).mono fun e w' ⟨h1, h2⟩ => ⟨h1, h2.below⟩⟩
theorem two_nofn {op : Int} (h : op < 10 ∨ 13 < op) : ∃ v, (atM kindsL op).getD (.agg #[.nilFunc, .nilFunc]) = .agg #[v, .nilFunc] := by
  by_cases hc : op = 20 ∨ op = 21 ∨ op = 22 ∨ op = 23
  · rcases hc with rfl | rfl | rfl | rfl <;> exact ⟨_, rfl⟩
  · exact ⟨.nilFunc, by rw [atM_none (by unfold kindsL; simp; omega)]; rfl⟩

theorem field_0 (u v : Value) (W : World) : (Instr.field 44 (.agg #[u, v]) 0).run Try.prog W = .ok u W := by
  have h := Try.underlying44
  have h2 := Try.underlying42
  simp [Instr.field, run_underlying h, part, isAgg, run_underlying h2, asAgg, Result.andThen]
theorem field_1 (u v : Value) (W : World) : (Instr.field 44 (.agg #[u, v]) 1).run Try.prog W = .ok v W := by
  have h := Try.underlying44
  have h2 := Try.underlying36
  simp [Instr.field, run_underlying h, part, isAgg, run_underlying h2, asAgg, Result.andThen]

theorem equalIn_func {P : Program} (W : World) (d : Nat) {t : TypeId} {a b c} (h : P.underlying t = some (.func a b c)) (f : Fn) (x y : Array Value) : (Op.equalIn (d + 1) t (.func f x y) .nilFunc).run P W = .ok false W := by
  simp [Op.equalIn, run_underlying h]
theorem equalIn_nofunc {P : Program} (W : World) (d : Nat) {t : TypeId} {a b c} (h : P.underlying t = some (.func a b c)) : (Op.equalIn (d + 1) t .nilFunc .nilFunc).run P W = .ok true W := by
  simp [Op.equalIn, run_underlying h]
theorem eql_func {P : Program} {t : TypeId} {a b c} (h : P.underlying t = some (.func a b c)) (f : Fn) (x y : Array Value) (W : World) : (binOp .eql t (.func f x y) .nilFunc).run P W = .ok (.bool false) W := by
  simp only [binOp]
  simp [Op.equal, Op.maxDepth, equalIn_func W 9999 h]
theorem eql_nofunc {P : Program} {t : TypeId} {a b c} (h : P.underlying t = some (.func a b c)) (W : World) : (binOp .eql t .nilFunc .nilFunc).run P W = .ok (.bool true) W := by
  simp only [binOp]
  simp [Op.equal, Op.maxDepth, equalIn_nofunc W 9999 h]

/-- A tensor told by each, put into the block of the answer. -/
theorem RetT.put_ {r : Tn} {w w3 : World} {b : Nat} {A : Option Addr} {n c : Nat} {B : Option Addr} {m d : Nat} {C D : Option Addr} {c' d' : Nat} {l k : List Int} {err : Int} (hr : r = (l, k, err)) (hb : w.heap.size ≤ b)
    (hC : Rd w3 C l) (hD : Rd w3 D k) (h : Bk w3 b A n c B m d) (kp : Kp w w3) :
    RetT r w (.returned (.tuple #[.agg #[.slice C l.length c', .slice D k.length d'], .int .i64 err])) ((w3.setCell ⟨b, 0, none⟩ (.slice C l.length c')).setCell ⟨b, 1, none⟩ (.slice D k.length d')) :=
  RetT.of hr (hC.past h _ _) (hD.past h _ _) ((kp.setCell (p := ⟨b, 0, none⟩) hb _).setCell (p := ⟨b, 1, none⟩) hb _)

set_option maxHeartbeats 2000000 in
theorem one_ok {op : Int} (A B : Option Addr) (c d : Nat) (s xs : List Int) (w : World) (hA : Rd w A s) (hB : Rd w B xs) (hi : I64s xs) (hop : 20 ≤ op ∧ op ≤ 23) (ht : tokV s xs = true) :
    Calls Try.prog 12 #[.int .i64 op, .agg #[.slice A s.length c, .slice B xs.length d]] w (RetT (oneV op s xs) w) := by
  have hl := hA.len
  have hl2 := hB.len
  obtain ⟨n, hv, HF, HN⟩ := one_fn hop
  have HX := Lib.hid (And.intro HF fun x (hx : x ∈ xs) W => HN x (hi x hx) W)
  have HO : Hid (oneV op s xs = if (mapE (numV op) xs).2 = 0 then (s, (mapE (numV op) xs).1, 0) else ([], [], (mapE (numV op) xs).2)) := by
    show oneV op s xs = _
    unfold oneV
    rw [if_neg (by omega), ht, if_neg (by simp)]
  have HC := Lib.hid (fun W (k : Kp w W) => tcheck_any A B c d s xs W (hA.kp k) (hB.kp k))
  rw [ht] at HC
  have HL := Lib.hid (fun W (k : Kp w W) => clone_any A c s W (hA.kp k) (by have := (ok_iff.1 (tok_len ht).1).1; omega))
  have HS : Hid ((sizeV s).toNat = xs.length) := (tok_len ht).2.1
  have HR := Lib.hid (And.intro hA hB)
  generalize hf : numV op = f at HO HX
  clear hf HF HN hA hB ht hop hi
  have hfd := field_0
  have heq := eql_func Try.underlying42 (.func n) #[] #[]
  go_enter Try.func12, Try.ntmps12
  go_wp2_with fail
  refine (kinds_any _).mono ?_; rintro e w1 ⟨g, rfl, hmd, k1⟩
  have TB : Hid (Bk w1 w.heap.size A s.length c B xs.length d) := ((Bk.new rfl).alloc_ _).kp k1
  have TO : Hid (Bk w1 (w.heap.size + 1) none 0 0 none 0 0) := (Bk.new (World.size_alloc _ _).symm).kp k1
  have K := Lib.hid (((Kp.alloc_ _ _).al _).tr k1)
  have t0 := TB.out.c0
  have t1 := TB.out.c1
  have t2 := TB.out.lt
  clear k1
  go_wp2_with (at_lookup; refine wpList_getM rfl _ _ rfl op rfl rfl hmd _ hv ?_)
  have hsz : w1.heap.size < w1.heap.size + 1 := Nat.lt_succ_self _
  refine (HC.out _ (K.out.al _)).mono ?_; rintro e w2 ⟨rfl, k2⟩
  have TF : Hid (w2.cell? ⟨w1.heap.size, 0, none⟩ = some (.func (.func n) #[] #[]) ∧ w1.heap.size < w2.heap.size) := ⟨(k2.cell (p := ⟨w1.heap.size, 0, none⟩) (by simp)).trans (by simp), Nat.lt_of_lt_of_le (by simp) k2.size⟩
  have TB := Lib.hid ((TB.out.alloc_ _).kp k2)
  have TO := Lib.hid ((TO.out.alloc_ _).kp k2)
  have K := Lib.hid ((K.out.al _).tr k2)
  clear t0 t1 t2 k2 hmd
  have t0 := TB.out.c0
  have t1 := TB.out.c1
  have t2 := TB.out.lt
  go_wp2_with fail
  refine (HL.out _ K.out).mono ?_; rintro e w3 ⟨A3, c3, rfl, o3, k3⟩
  have TF : Hid (w3.cell? ⟨w1.heap.size, 0, none⟩ = some (.func (.func n) #[] #[]) ∧ w1.heap.size < w3.heap.size) := ⟨(k3.cell (p := ⟨w1.heap.size, 0, none⟩) TF.out.2).trans TF.out.1, Nat.lt_of_lt_of_le TF.out.2 k3.size⟩
  have TB := Lib.hid (TB.out.kp k3)
  have TO := Lib.hid (TO.out.kp k3)
  have K := Lib.hid (K.out.tr k3)
  have O3 := Lib.hid o3
  clear t0 t1 t2 k3 o3
  go_wp2_with fail
  refine (each_two f xs _ _ s 26 ⟨w1.heap.size, 0, none⟩ ⟨w.heap.size, 0, none⟩ _ O3.out.sl.rd HS.out (one1_tells f xs n _ _ _ _ _ (HR.out.2.kp K.out) TF.out.1 TB.out.c1 TF.out.2 TB.out.lt HX.out.1 HX.out.2) (fun args W => MuLone.run_callFunc_enter Try.func26 (by kernel_rfl) rfl args W)).mono ?_
  rintro e w4 ⟨A4, c4, B4, d4, rfl, r4, q4, k4⟩
  have TO := Lib.hid (TO.out.kp k4)
  have K := Lib.hid (K.out.tr k4)
  have R4 := Lib.hid (And.intro r4 q4)
  clear k4 r4 q4
  rw [← HO.out] at R4 ⊢
  obtain ⟨⟨l, k, er⟩, hlk⟩ : ∃ r, oneV op s xs = r := ⟨_, rfl⟩
  rw [hlk] at R4 ⊢
  have o0 := TO.out.c0
  have o1 := TO.out.c1
  have p0 := TO.out.f0 0
  have p1 := TO.out.f0 1
  dsimp only at R4 ⊢
  go_wp2
  refine bodyPost_ret (v := .tuple #[.agg #[.slice A4 l.length c4, .slice B4 k.length d4], .int .i64 er]) (by simp [results, Try.results12, go_sem, o0, o1]) rfl ?_
  exact RetT.put_ hlk (Nat.le_succ _) R4.out.1 R4.out.2 TO.out K.out

theorem RetT.out_ {r : Tn} {w w3 : World} {b : Nat} {err : Int} (hr : r = ([], [], err)) (hb : w.heap.size ≤ b) (kp : Kp w w3) :
    RetT r w (.returned (.tuple #[.agg #[.slice none 0 0, .slice none 0 0], .int .i64 err])) ((w3.setCell ⟨b, 0, none⟩ (.slice none 0 0)).setCell ⟨b, 1, none⟩ (.slice none 0 0)) :=
  RetT.err hr ((kp.setCell (p := ⟨b, 0, none⟩) hb _).setCell (p := ⟨b, 1, none⟩) hb _)

set_option maxHeartbeats 2000000 in
theorem one_op {op : Int} (A B : Option Addr) (c d : Nat) (s xs : List Int) (w : World) (hop : op < 20 ∨ 23 < op) :
    Calls Try.prog 12 #[.int .i64 op, .agg #[.slice A s.length c, .slice B xs.length d]] w (RetT (oneV op s xs) w) := by
  obtain ⟨v, hv⟩ := one_nofn hop
  have HO : Hid (oneV op s xs = ([], [], 1)) := by show oneV op s xs = _; unfold oneV; rw [if_pos hop]
  clear hop
  have hfd := field_0
  have heq := eql_nofunc Try.underlying42
  go_enter Try.func12, Try.ntmps12
  go_wp2_with fail
  refine (kinds_any _).mono ?_; rintro e w1 ⟨g, rfl, hmd, k1⟩
  have TO : Hid (Bk w1 (w.heap.size + 1) none 0 0 none 0 0) := (Bk.new (World.size_alloc _ _).symm).kp k1
  have K := Lib.hid (((Kp.alloc_ _ _).al _).tr k1)
  clear k1
  have o0 := TO.out.c0
  have o1 := TO.out.c1
  have o2 := TO.out.lt
  have p0 := TO.out.f0 0
  have p1 := TO.out.f0 1
  go_wp2_with (at_lookup; refine wpList_getM rfl _ _ rfl op rfl rfl hmd _ hv ?_)
  refine bodyPost_ret (v := .tuple #[.agg #[.slice none 0 0, .slice none 0 0], .int .i64 1]) (by simp [results, Try.results12, go_sem, o0, o1, o2]) rfl ?_
  exact RetT.err HO.out (Kp.al ((K.out.setCell (p := ⟨w.heap.size + 1, 0, none⟩) (Nat.le_succ _) _).setCell (p := ⟨w.heap.size + 1, 1, none⟩) (Nat.le_succ _) _) _)

set_option maxHeartbeats 2000000 in
theorem one_tok {op : Int} (A B : Option Addr) (c d : Nat) (s xs : List Int) (w : World) (hA : Rd w A s) (hB : Rd w B xs) (hop : 20 ≤ op ∧ op ≤ 23) (ht : tokV s xs = false) :
    Calls Try.prog 12 #[.int .i64 op, .agg #[.slice A s.length c, .slice B xs.length d]] w (RetT (oneV op s xs) w) := by
  obtain ⟨n, hv, _, _⟩ := one_fn hop
  have HO : Hid (oneV op s xs = ([], [], 30)) := by show oneV op s xs = _; unfold oneV; rw [if_neg (by omega), if_pos ht]
  have HC := Lib.hid (fun W (k : Kp w W) => tcheck_any A B c d s xs W (hA.kp k) (hB.kp k))
  rw [ht] at HC
  clear hA hB ht hop
  have hfd := field_0
  have heq := eql_func Try.underlying42 (.func n) #[] #[]
  go_enter Try.func12, Try.ntmps12
  go_wp2_with fail
  refine (kinds_any _).mono ?_; rintro e w1 ⟨g, rfl, hmd, k1⟩
  have TB : Hid (Bk w1 w.heap.size A s.length c B xs.length d) := ((Bk.new rfl).alloc_ _).kp k1
  have TO : Hid (Bk w1 (w.heap.size + 1) none 0 0 none 0 0) := (Bk.new (World.size_alloc _ _).symm).kp k1
  have K := Lib.hid (((Kp.alloc_ _ _).al _).tr k1)
  have t0 := TB.out.c0
  have t1 := TB.out.c1
  have t2 := TB.out.lt
  clear k1
  go_wp2_with (at_lookup; refine wpList_getM rfl _ _ rfl op rfl rfl hmd _ hv ?_)
  refine (HC.out _ (K.out.al _)).mono ?_; rintro e w2 ⟨rfl, k2⟩
  have TO := Lib.hid ((TO.out.alloc_ _).kp k2)
  have K := Lib.hid ((K.out.al _).tr k2)
  clear t0 t1 t2 k2 hmd
  have o0 := TO.out.c0
  have o1 := TO.out.c1
  have p0 := TO.out.f0 0
  have p1 := TO.out.f0 1
  go_wp2
  refine bodyPost_ret (v := .tuple #[.agg #[.slice none 0 0, .slice none 0 0], .int .i64 30]) (by simp [results, Try.results12, go_sem, o0, o1]) rfl ?_
  exact RetT.out_ HO.out (Nat.le_succ _) K.out

theorem one_any (op : Int) (A B : Option Addr) (c d : Nat) (s xs : List Int) (w : World) (hA : Rd w A s) (hB : Rd w B xs) (hi : I64s xs) :
    Calls Try.prog 12 #[.int .i64 op, .agg #[.slice A s.length c, .slice B xs.length d]] w (RetT (oneV op s xs) w) := by
  by_cases hop : op < 20 ∨ 23 < op
  · exact one_op A B c d s xs w hop
  · cases ht : tokV s xs with
    | true => exact one_ok A B c d s xs w hA hB hi (by omega) ht
    | false => exact one_tok A B c d s xs w hA hB (by omega) ht
end Go.Proofs.Ytofolfnnjdccgaa
