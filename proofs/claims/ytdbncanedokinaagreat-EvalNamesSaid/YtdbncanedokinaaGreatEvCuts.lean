/- EvalCuts, over the contracts of the calls. -/
import Derived.Test.YtdbncanedokinaaGreatEvAgain
import Derived.Test.YtdbncanedokinaaGreatEvN
namespace Go.Proofs.YtdbncanedokinaaGreat
open Go.RowKit Go.Proofs.ShM Go.Proofs.GrM Go.Proofs.InM Go.Proofs.ImM Go.Proofs.EvM
set_option linter.unusedVariables false
set_option maxRecDepth 100000
set_option linter.unusedSimpArgs false
set_option maxHeartbeats 16000000

theorem cut_at13 {a : Int} {n : Nat} (h0 : 0 ≤ a) (h1 : a ≤ 255) (hn : 1 ≤ n) (hn2 : n ≤ 30) : ∃ k : Nat, 1 + a % (n : Int) = (k : Int) ∧ 1 ≤ k ∧ k ≤ n := by
  have h2 := Int.emod_nonneg a (show (n : Int) ≠ 0 by omega)
  have h3 := Int.emod_lt_of_pos a (show (0 : Int) < (n : Int) by omega)
  exact ⟨(1 + a % (n : Int)).toNat, by omega, by omega, by omega⟩
theorem quiet_same13 {A B : Option Addr} {a b : List Int} {c d n : Nat} {w : World} (h : Rd w A a) (g : Rd w B b) (hr : a = b) :
    Calls Tryz.prog 13 #[.slice A a.length c, .slice B b.length d] (w.drewN n) fun e w'' => e = .returned (.bool true) ∧ ∃ m, w'' = w.drewN m :=
  (same_any A B c d a b (w.drewN n) (h.drewN n) (g.drewN n)).mono fun _ _ ⟨h1, k, h2⟩ => ⟨by rw [h1, hr]; simp, n + k, by rw [h2, World.drewN_drewN]⟩
theorem max13 (x y z : Int) (hz : z = max x y) (W : World) (ts : Array TypeId) (t : TypeId) : (Builtin.max_ ts t #[.int .i64 x, .int .i64 y]).run Tryz.prog W = .ok (.int .i64 z) W := by
  rw [run_max_int2]
  by_cases hc : y > x
  · rw [if_pos hc, hz, Int.max_eq_right (by omega)]
  · rw [if_neg hc, hz, Int.max_eq_left (by omega)]
theorem run_ahead13 (W : World) (A : Option Addr) (m c i : Nat) (hi : i ≤ c) : (Instr.sliceAt 22 (.slice A m c) none (some (.int .i64 (i : Int))) none).run Tryz.prog W = .ok (.slice A i c) W := by
  have hu : Tryz.prog.underlying 22 = some (.slice (Tryz.prog.elem 22)) := by kernel_rfl
  have hsz : ((sizeOf (Tryz.prog.elem 22)).run Tryz.prog W) = .ok 3 W := by
    obtain ⟨i, hi, _, h1, _⟩ := info_parts nd_info
    simp [sizeOf, typeInfo, show Tryz.prog.elem 22 = 39 by kernel_rfl, hi, h1]
  have := run_slice_h W 22 A m c hu .i64 (i : Int) (by omega) (by omega)
  have e0 : ∀ a : Addr, a.add 0 = a := fun a => by unfold Addr.add; simp
  rw [run_sliceAt_slice W _ _ _ _ _ hu, this, hsz]
  simp [Result.andThen, sliced, e0]
theorem args_len (ts : List T) (l : List Int) : (argsT ts l).length = l.length := by unfold argsT; rw [List.length_map]
theorem args_step13 {ts : List T} {l : List Int} {j a : Nat} {x : T} (h : l[j]? = some (a : Int)) (hx : ts[a]? = some x) : (argsT ts l).take (j + 1) = (argsT ts l).take j ++ [x] := by
  have h1 : (argsT ts l)[j]? = some x := by
    unfold argsT
    rw [List.getElem?_map, h]
    show some (ts.getD (a : Int).toNat eT) = _
    rw [Int.toNat_natCast, List.getD_eq_getElem?_getD, hx]; rfl
  rw [List.take_add_one, h1]; rfl
theorem sm_args {ts : List T} {l : List Int} (h1 : l.length ≤ 100) (h2 : (argsT ts l).all tokT = true) (h3 : ∀ t ∈ ts, N64 t.2) : SmTs (argsT ts l) :=
  ⟨by rw [args_len]; exact h1, fun t ht => by
    have hf := tok_few (List.all_eq_true.1 h2 t ht)
    exact ⟨hf.1, hf.2.1, hf.2.2, n64_args h3 l t ht⟩⟩
theorem ecuts_far (HW : ∀ w : World, Calls Tryz.prog 7 #[] w fun e w' => e = .returned (.bool true) ∧ Kp w w') (A P Q R : Option Addr) (c n a b e f k d : Nat) (ga : Int) (g0 : 0 ≤ ga) (g1 : ga ≤ 255) (w : World) (hn : n ≤ 9223372036854775807) (i er : Int) (hi : i < (n : Int)) (he : er ≠ 0)
    (h : FewL A c n w false ∨ FewL A c n w true ∧ (FewE P Q R a b e f k d w false ∨ FewE P Q R a b e f k d w true ∧ ∀ W, Kp w W → Calls Tryz.prog 10 #[.slice A n c, .agg #[.slice P a e, .slice Q b f], .slice R k d] W (RetVs [] i er 0 W))) :
    Calls Tryz.prog 3 #[.slice A n c, .agg #[.slice P a e, .slice Q b f], .slice R k d, .int .u8 ga] w fun e w' => e = .returned (.bool true) ∧ Kp w w' := by
  have HAW := Lib.hid HW
  clear HW
  have F5 : Hid (Bk (w.alloc (.cells #[.slice P a e, .slice Q b f] 25)) w.heap.size P a e Q b f) := Bk.new rfl
  have K0 : Hid (Kp w (w.alloc (.cells #[.slice P a e, .slice Q b f] 25))) := Kp.alloc_ _ _
  rcases h with h | ⟨h, h2 | ⟨h2, h3⟩⟩
  · have H := Lib.hid h
    clear h
    go_enter Tryz.func3, Tryz.ntmps3
    go_wp2_with fail
    refine (HAW.out _).mono ?_; rintro e0 w1 ⟨rfl, k1⟩
    have K1 := Lib.hid (K0.out.tr k1)
    have F5 := Lib.hid (F5.out.kp k1)
    have p0 := F5.out.c0
    have p1 := F5.out.c1
    clear k1
    go_wp2_with fail
    refine (H.out _ K1.out).mono ?_; rintro e0 w2 ⟨rfl, rfl⟩
    go_wp2
    go_ret
    exact ⟨rfl, K1.out⟩
  · have H := Lib.hid h
    have H2 := Lib.hid h2
    clear h h2
    go_enter Tryz.func3, Tryz.ntmps3
    go_wp2_with fail
    refine (HAW.out _).mono ?_; rintro e0 w1 ⟨rfl, k1⟩
    have K1 := Lib.hid (K0.out.tr k1)
    have F5 := Lib.hid (F5.out.kp k1)
    have p0 := F5.out.c0
    have p1 := F5.out.c1
    clear k1
    go_wp2_with fail
    refine (H.out _ K1.out).mono ?_; rintro e0 w2 ⟨rfl, rfl⟩
    go_wp2_with fail
    refine (H2.out _ K1.out).mono ?_; rintro e0 w2 ⟨rfl, k2⟩
    have K2 := Lib.hid (K1.out.tr k2)
    have F5 := Lib.hid (F5.out.kp k2)
    clear k2 p0 p1
    go_wp2
    go_ret
    exact ⟨rfl, K2.out⟩
  · have H := Lib.hid h
    have H2 := Lib.hid h2
    have H3 := Lib.hid h3
    have i1 : (er != 0) = true := by simpa using he
    clear h h2 h3 he
    go_enter Tryz.func3, Tryz.ntmps3
    go_wp2_with fail
    refine (HAW.out _).mono ?_; rintro e0 w1 ⟨rfl, k1⟩
    have K1 := Lib.hid (K0.out.tr k1)
    have F5 := Lib.hid (F5.out.kp k1)
    have p0 := F5.out.c0
    have p1 := F5.out.c1
    clear k1
    go_wp2_with fail
    refine (H.out _ K1.out).mono ?_; rintro e0 w2 ⟨rfl, rfl⟩
    go_wp2_with fail
    refine (H2.out _ K1.out).mono ?_; rintro e0 w2 ⟨rfl, k2⟩
    have K2 := Lib.hid (K1.out.tr k2)
    have F5 := Lib.hid (F5.out.kp k2)
    clear k2
    replace p0 := F5.out.c0
    replace p1 := F5.out.c1
    go_wp2_with fail
    refine (H3.out _ K2.out).mono ?_; rintro e0 w3 ⟨E3, c3, rfl, r3, l3, k3⟩
    have K3 := Lib.hid (K2.out.tr k3)
    clear k3 p0 p1
    go_wp2
    go_ret
    exact ⟨rfl, K3.out⟩

theorem ecuts_main (C : EvC) (A P Q R : Option Addr) (c e f d : Nat) (l : List Nd) (t : T) (ps : List T) (ga : Int) (g0 : 0 ≤ ga) (g1 : ga ≤ 255) (w : World) (RL : RdG w A l) (L : l.length ≤ c) (M : c ≤ 9223372036854775807) (hS : SmallG l) (hf : fewN l = true)
    (RT : TRc w P e Q f t) (ST : SmT t) (RP : RdT w R ps) (SP : SmTs ps) (LP : ps.length ≤ d ∧ d ≤ 9223372036854775807) (h1 : fewE t ps = true) (ts : List T) (hv : allE l t ps = (ts, -1, 0)) (hts : ts.length = l.length) (hc : checkB l = true) (hev : evF t ps l [] = (ts, -1, 0)) (hsh : shapesV l = (shT ts, -1, 0)) :
    Calls Tryz.prog 3 #[.slice A l.length c, .agg #[.slice P t.1.length e, .slice Q t.2.length f], .slice R ps.length d, .int .u8 ga] w fun e w' => e = .returned (.bool true) ∧ Kp w w' := by
  have HAW := Lib.hid (evawake_any C)
  have HFL := Lib.hid (few_l (c := c) RL hf)
  have HF1 := Lib.hid (few_e RT RP (d := d) h1)
  have hl1 := (check_iff.1 hc).1
  have hl24 := (check_iff.1 hc).2.1
  obtain ⟨k, hk, hk1, hk2⟩ := cut_at13 g0 g1 hl1 (by omega)
  obtain ⟨m, hm⟩ : ∃ m, m + 1 = k := ⟨k - 1, by omega⟩
  obtain ⟨al, nd, P0, c0, Q0, d0, hA, hlt0, hnd, z0, z1, z2, NN, ⟨lc0, lc1⟩, ld0, ld1⟩ := RL.at_ (k := m) (by omega)
  subst hA
  obtain ⟨op, la, lb⟩ := nd
  have hnode := ev_node hc hev hts hnd
  have hnsm := hS.2 _ (List.mem_of_getElem? hnd)
  have hargs := (node_iff.1 ((check_iff.1 hc).2.2 m _ hnd)).2.2.2.1
  have hn64 : ∀ t ∈ ts, N64 t.2 := by
    have h := n64_ev (inp := t) (ps := ps) ST.2.2.2 (fun u hu => (SP.2 u hu).2.2.2) l [] (fun _ h => by cases h) (fun n hn => (hS.2 n hn).2.2.2.2)
    rw [hev] at h
    exact h
  obtain ⟨aa, haa⟩ : ∃ aa, aa = argsT ts la := ⟨_, rfl⟩
  have hsa : SmTs aa := by rw [haa]; exact sm_args hnsm.1 (node_inv hnode).1 hn64
  obtain ⟨u, hu⟩ : ∃ u, u = ts.getD m eT := ⟨_, rfl⟩
  have hum : ts[m]? = some u := by rw [hu, List.getD_eq_getElem?_getD, List.getElem?_eq_getElem (by omega)]; rfl
  dsimp only at hnode hargs hnsm z0 z1 z2 lc0 ld0
  rw [← haa, ← hu] at hnode
  obtain ⟨tk, htk⟩ : ∃ tk, tk = ts.take k := ⟨_, rfl⟩
  have htkl : tk.length = k := by rw [htk, List.length_take]; omega
  have hlkl : (l.take k).length = k := by rw [List.length_take]; omega
  have HA1 : Hid (∀ W, Kp w W → Calls Tryz.prog 10 #[.slice (some al) l.length c, .agg #[.slice P t.1.length e, .slice Q t.2.length f], .slice R ps.length d] W (RetVs ts (-1) 0 l.length W)) := fun W kk =>
    C.all (some al) P Q R c l.length t.1.length t.2.length e f ps.length d l t ps ts (-1) 0 l.length W (RL.kp kk) L M hS rfl (RT.kp kk) ST rfl rfl (RP.kp kk) LP.1 LP.2 SP rfl hv hts
  have HA2 : Hid (∀ W, Kp w W → Calls Tryz.prog 10 #[.slice (some al) k c, .agg #[.slice P t.1.length e, .slice Q t.2.length f], .slice R ps.length d] W (RetVs tk (-1) 0 k W)) := fun W kk =>
    C.all (some al) P Q R c k t.1.length t.2.length e f ps.length d (l.take k) t ps tk (-1) 0 k W ((RL.kp kk).take_ k) (by omega) M (small_take hS k) hlkl.symm (RT.kp kk) ST rfl rfl (RP.kp kk) LP.1 LP.2 SP rfl (by rw [htk]; exact all_take hc hev hts hk1 hk2) htkl
  have HSHP : Hid (∀ W, Kp w W → Calls Tryz.prog 11 #[.slice (some al) l.length c] W (RetLs (shT ts) (-1) 0 l.length W)) := fun W kk =>
    C.shapes (some al) c l.length l (shT ts) (-1) 0 l.length W (RL.kp kk) L M hS rfl hsh (by unfold shT; rw [List.length_map]; exact hts)
  obtain ⟨ux, hux⟩ : ∃ x, x = u.1.length := ⟨_, rfl⟩
  obtain ⟨uy, huy⟩ : ∃ y, y = u.2.length := ⟨_, rfl⟩
  have HND : Hid (∀ W S g z m, Kp w W → z = aa → m = z.length → RdT W S z → z.length ≤ g → g ≤ 9223372036854775807 → Calls Tryz.prog 14 #[.agg #[.int .i64 op, .slice P0 la.length c0, .slice Q0 lb.length d0], .slice S m g, .agg #[.slice P t.1.length e, .slice Q t.2.length f], .slice R ps.length d] W (RetV1 u 0 ux uy W)) := fun W S g z m kk hz hm hR h1 h2 => by
    subst hz
    exact C.node P0 Q0 P Q R S la.length lb.length c0 d0 t.1.length t.2.length e f m g ps.length d (op, la, lb) t u z ps 0 ux uy W (NN.ra.kp kk) (NN.rn.kp kk) rfl rfl ⟨lc0, lc1⟩ ⟨ld0, ld1⟩ hnsm.1 hnsm.2.1 hnsm.2.2 hR h1 h2 hsa hm (RT.kp kk) ST rfl rfl (RP.kp kk) LP.1 LP.2 SP rfl hnode hux.symm huy.symm
  have HCL : Hid (∀ V, Kp w V → V.cell? (al.add (m * 3)) = some (.int .i64 op) ∧ V.cell? ⟨(al.add (m * 3)).block, (al.add (m * 3)).off + 1, none⟩ = some (.slice P0 la.length c0) ∧ V.cell? ⟨(al.add (m * 3)).block, (al.add (m * 3)).off + 2, none⟩ = some (.slice Q0 lb.length d0)) := fun V kV =>
    ⟨(kV.cell (by rw [block_of_add]; exact hlt0)).trans z0, (kV.cell (by rw [block_of_add]; exact hlt0)).trans z1, (kV.cell (by rw [block_of_add]; exact hlt0)).trans z2⟩
  have HLA : Hid (Rd w P0 la) := NN.ra
  have HARG : Hid (∀ (j : Nat) (a : Int), la[j]? = some a → ∃ x : Nat, a = (x : Int) ∧ x < l.length) := fun j a ha => by
    have h := hargs a (List.mem_of_getElem? ha)
    exact ⟨a.toNat, by omega, by omega⟩
  have HAA : Hid (aa = argsT ts la ∧ aa.length = la.length) := ⟨haa, by rw [haa, args_len]⟩
  have HUM : Hid (ts[m]? = some u ∧ u.1.length = ux ∧ u.2.length = uy) := ⟨hum, hux.symm, huy.symm⟩
  obtain ⟨n, hn⟩ : ∃ n, n = l.length := ⟨_, rfl⟩
  rw [← hn] at HFL HA1 HSHP HARG hk hk2 hl1 hl24 hts L ⊢
  have HTN : Hid (ts.length = n ∧ tk = ts.take k ∧ tk.length = k) := ⟨hts, htk, htkl⟩
  obtain ⟨a, ha⟩ : ∃ a, a = t.1.length := ⟨_, rfl⟩
  obtain ⟨b, hb⟩ : ∃ b, b = t.2.length := ⟨_, rfl⟩
  obtain ⟨kp, hkp⟩ : ∃ k, k = ps.length := ⟨_, rfl⟩
  rw [← ha, ← hb, ← hkp] at HF1 HA1 HA2 HND ⊢
  obtain ⟨na, hna⟩ : ∃ k, k = la.length := ⟨_, rfl⟩
  obtain ⟨nb, hnb⟩ : ∃ k, k = lb.length := ⟨_, rfl⟩
  rw [← hna, ← hnb] at HND HCL
  rw [← hna] at HAA
  have HNA : Hid (na = la.length) := hna
  have hna100 : na ≤ 100 := by rw [hna]; exact hnsm.1
  have hmx : ∀ W ts t, (Builtin.max_ ts t #[.int .i64 1, .int .i64 (n : Int)]).run Tryz.prog W = .ok (.int .i64 (n : Int)) W := fun W ts t => max13 1 n n (by omega) W ts t
  have hkw : wrap64 (1 + ga % (n : Int)) = (k : Int) := by rw [hk]; unfold wrap64; omega
  have hmw : IntKind.i64.wrap ((k : Int) - 1) = (m : Int) := by rw [IntKind.wrap_i64]; omega
  have i1 : ((n : Int) != (n : Int)) = false := by simp
  have i2 : ((k : Int) != (k : Int)) = false := by simp
  have i3 : ¬ (n : Int) < (k : Int) := by omega
  have i4 : (m : Int) < (n : Int) := by omega
  have i5 : m < n := by omega
  have i6 : ¬ (n : Int) = 0 := by omega
  have hkc : k ≤ c := by omega
  have F5 : Hid (Bk (w.alloc (.cells #[.slice P a e, .slice Q b f] 25)) w.heap.size P a e Q b f) := Bk.new rfl
  have K0 : Hid (Kp w (w.alloc (.cells #[.slice P a e, .slice Q b f] 25))) := Kp.alloc_ _ _
  have S1 : ∀ W, (Instr.sliceAt 22 (.slice (some al) n c) none (some (.int .i64 (k : Int))) none).run Tryz.prog W = .ok (.slice (some al) k c) W := fun W => run_ahead13 W (some al) n c k hkc
  have hnc : n ≤ 9223372036854775807 := by omega
  clear C RL L hS hf hl24 hnd z0 z1 z2 NN lc0 lc1 ld0 ld1 hnode hnsm hargs hn64 haa hsa hu hum htk htkl hlkl hux huy hn hts ha hb hkp hna hnb RT ST RP SP LP h1 hv hc hev hsh hlt0 hk
  go_enter Tryz.func3, Tryz.ntmps3
  go_wp2_with fail
  refine (HAW.out _).mono ?_; rintro e0 w1 ⟨rfl, k_⟩
  have K := Lib.hid (K0.out.tr k_)
  have F5 := Lib.hid (F5.out.kp k_)
  have p0 := F5.out.c0
  have p1 := F5.out.c1
  clear k_
  go_wp2_with fail
  refine (HFL.out _ K.out).mono ?_; rintro e0 w2 ⟨rfl, rfl⟩
  go_wp2_with fail
  refine (HF1.out _ K.out).mono ?_; rintro e0 w3 ⟨rfl, k_⟩
  have K := Lib.hid (K.out.tr k_)
  have F5 := Lib.hid (F5.out.kp k_)
  replace p0 := F5.out.c0
  replace p1 := F5.out.c1
  clear k_
  go_wp2_with fail
  refine (HA1.out _ K.out).mono ?_; rintro e0 w4 ⟨E4, c4, rfl, r4, l4, k_⟩
  have K := Lib.hid (K.out.tr k_)
  have F5 := Lib.hid (F5.out.kp k_)
  clear k_ p0 p1
  go_wp2_with fail
  refine (HSHP.out _ K.out).mono ?_; rintro e0 w5 ⟨E5, c5, rfl, r5, l5, k_⟩
  have K := Lib.hid (K.out.tr k_)
  have F5 := Lib.hid (F5.out.kp k_)
  have r4 := Lib.hid (r4.out.kp k_)
  clear k_ HAW HFL HF1 HA1 HSHP
  obtain ⟨av, u', P5, c6, Q5, d6, hE4, hlt4, hu', s0, s1, hR5⟩ := trc_at r4.out (k := m) (by rw [HTN.out.1]; exact i5)
  subst hE4
  obtain rfl : u = u' := by have h := HUM.out.1; rw [hu'] at h; injection h with h; exact h.symm
  have HVC : Hid (∀ V, Kp w5 V → V.cell? (av.add (m * 2)) = some (.slice P5 ux c6) ∧ V.cell? ⟨(av.add (m * 2)).block, (av.add (m * 2)).off + 1, none⟩ = some (.slice Q5 uy d6)) := fun V kV =>
    ⟨(kV.cell (by rw [block_of_add]; exact hlt4)).trans (by rw [← HUM.out.2.1]; exact s0), (kV.cell (by rw [block_of_add]; exact hlt4)).trans (by rw [← HUM.out.2.2]; exact s1)⟩
  have HR5 := Lib.hid hR5
  clear hlt4 hu' s0 s1 hR5
  have hkc4 : k ≤ c4 := by have h := l4.out.1; rw [HTN.out.1] at h; omega
  have S2 : ∀ W, (Instr.sliceAt 26 (.slice (some av) n c4) none (some (.int .i64 (k : Int))) none).run Tryz.prog W = .ok (.slice (some av) k c4) W := fun W => run_front W (some av) n c4 k hkc4
  have KB : Hid (Kp w5 w5) := Kp.refl _
  have HQ1 : Hid (∀ V, Kp w5 V → V.cell? ⟨w.heap.size, 0, none⟩ = some (.slice P a e) ∧ V.cell? ⟨w.heap.size, 1, none⟩ = some (.slice Q b f)) := fun V kV => ⟨(F5.out.kp kV).c0, (F5.out.kp kV).c1⟩
  have t0 := HQ1.out _ (Kp.drewN_ w5 1)
  go_wp2_with fail
  refine wp_region_held_drew (S := fun V => V.cell? ⟨w.heap.size, 0, none⟩ = some (.slice P a e) ∧ V.cell? ⟨w.heap.size, 1, none⟩ = some (.slice Q b f)) (by kernel_rfl) t0 (fun hHeld => ?_)
  refine wpAnyH_take (i := 0) (v := .slice (some al) n c) rfl (by kernel_rfl) (by kernel_rfl) (by kernel_rfl) (fun _ _ _ h => h) (Or.inl ⟨by kernel_rfl, fun V hSV => ?_⟩) hHeld ?_
  · (try dsimp only at hSV); go_simp
  try simp only [Act.put, List.setIfInBounds_toArray, List.set_cons_zero, List.set_cons_succ]
  refine wpAnyH_take (i := 1) (v := .int .i64 (k : Int)) rfl (by kernel_rfl) (by kernel_rfl) (by kernel_rfl) (fun _ _ _ h => h) (Or.inl ⟨by kernel_rfl, fun V hSV => ?_⟩) hHeld ?_
  · (try dsimp only at hSV); go_simp
  try simp only [Act.put, List.setIfInBounds_toArray, List.set_cons_zero, List.set_cons_succ]
  refine wpAnyH_take (i := 2) (v := .slice (some al) k c) rfl (by kernel_rfl) (by kernel_rfl) (by kernel_rfl) (fun _ _ _ h => h) (Or.inl ⟨by kernel_rfl, fun V hSV => ?_⟩) hHeld ?_
  · (try dsimp only at hSV); go_simp
  try simp only [Act.put, List.setIfInBounds_toArray, List.set_cons_zero, List.set_cons_succ]
  refine wpAnyH_take (i := 3) (v := .agg #[.slice P a e, .slice Q b f]) rfl (by kernel_rfl) (by kernel_rfl) (by kernel_rfl) (fun _ _ _ h => h) (Or.inl ⟨by kernel_rfl, fun V hSV => ?_⟩) hHeld ?_
  · (try dsimp only at hSV); go_simp
  try simp only [Act.put, List.setIfInBounds_toArray, List.set_cons_zero, List.set_cons_succ]
  refine wpAnyH_take (i := 4) (v := .slice R kp d) rfl (by kernel_rfl) (by kernel_rfl) (by kernel_rfl) (fun _ _ _ h => h) (Or.inl ⟨by kernel_rfl, fun V hSV => ?_⟩) hHeld ?_
  · (try dsimp only at hSV); go_simp
  try simp only [Act.put, List.setIfInBounds_toArray, List.set_cons_zero, List.set_cons_succ]
  refine wpAnyH_ready (rs := [5]) (by kernel_rfl) (by simp) ?_
  refine AllReadyH.cons rfl (fun K9_ hK => ?_) AllReadyH.nil
  go_simp
  refine (HA2.out _ (K.out.tr (Kp.drewN_ w5 1))).mono ?_; rintro e0 w6 ⟨E6, c7, rfl, r6, l6, k_⟩
  dsimp only
  have K6 : Hid (Kp w5 w6) := (Kp.drewN_ w5 1).tr k_
  have hq := HQ1.out _ K6.out
  clear k_
  refine hK.out _ _ ?_ (fun hHeld => ?_)
  · exact hq
  clear hK
  try simp only [Act.put, List.setIfInBounds_toArray, List.set_cons_zero, List.set_cons_succ]
  refine wpAnyH_take (i := 6) (v := .tuple #[.slice E6 k c7, .int .i64 (-1), .int .i64 0]) rfl (by kernel_rfl) (by kernel_rfl) (by kernel_rfl) (fun _ _ _ h => h) (Or.inl ⟨by kernel_rfl, fun V hSV => ?_⟩) hHeld ?_
  · (try dsimp only at hSV); go_simp
  try simp only [Act.put, List.setIfInBounds_toArray, List.set_cons_zero, List.set_cons_succ]
  refine wpAnyH_take (i := 7) (v := .slice E6 k c7) rfl (by kernel_rfl) (by kernel_rfl) (by kernel_rfl) (fun _ _ _ h => h) (Or.inl ⟨by kernel_rfl, fun V hSV => ?_⟩) hHeld ?_
  · (try dsimp only at hSV); go_simp
  try simp only [Act.put, List.setIfInBounds_toArray, List.set_cons_zero, List.set_cons_succ]
  refine wpAnyH_take (i := 8) (v := .int .i64 (-1)) rfl (by kernel_rfl) (by kernel_rfl) (by kernel_rfl) (fun _ _ _ h => h) (Or.inl ⟨by kernel_rfl, fun V hSV => ?_⟩) hHeld ?_
  · (try dsimp only at hSV); go_simp
  try simp only [Act.put, List.setIfInBounds_toArray, List.set_cons_zero, List.set_cons_succ]
  refine wpAnyH_take (i := 9) (v := .int .i64 0) rfl (by kernel_rfl) (by kernel_rfl) (by kernel_rfl) (fun _ _ _ h => h) (Or.inl ⟨by kernel_rfl, fun V hSV => ?_⟩) hHeld ?_
  · (try dsimp only at hSV); go_simp
  try simp only [Act.put, List.setIfInBounds_toArray, List.set_cons_zero, List.set_cons_succ]
  refine wpAnyH_ready (rs := [10]) (by kernel_rfl) (by simp) ?_
  refine AllReadyH.cons rfl (fun K9_ hK => ?_) AllReadyH.nil
  go_simp
  refine hK.out _ _ ?_ (fun hHeld => ?_)
  · exact hq
  clear hK
  try simp only [Act.put, List.setIfInBounds_toArray, List.set_cons_zero, List.set_cons_succ]
  refine wpAnyH_ready (rs := [11]) (by kernel_rfl) (by simp) ?_
  refine AllReadyH.cons rfl (fun K9_ hK => ?_) AllReadyH.nil
  go_simp
  refine hK.out _ _ ?_ (fun hHeld => ?_)
  · exact hq
  clear hK
  try simp only [Act.put, List.setIfInBounds_toArray, List.set_cons_zero, List.set_cons_succ]
  refine wpAnyH_ready (rs := [12]) (by kernel_rfl) (by simp) ?_
  refine AllReadyH.cons rfl (fun K9_ hK => ?_) AllReadyH.nil
  go_simp
  refine hK.out _ _ ?_ (fun hHeld => ?_)
  · exact hq
  clear hK
  try simp only [Act.put, List.setIfInBounds_toArray, List.set_cons_zero, List.set_cons_succ]
  refine wpAnyH_done (by kernel_rfl) ?_ _
  have r4 := Lib.hid (r4.out.kp K6.out)
  have r5 := Lib.hid (r5.out.kp K6.out)
  have F5 := Lib.hid (F5.out.kp K6.out)
  have K := Lib.hid (K.out.tr K6.out)
  have R7 : Hid (RdT w6 (some av) tk) := by show RdT _ _ _; rw [HTN.out.2.1]; exact r4.out.take_ k
  clear t0 hq HQ1
  go_wp2_with fail
  refine (same_ts tk HTN.out.2.2 _ E6 (some av) c7 c4 r6.out R7.out).mono ?_; rintro e0 w7 ⟨rfl, k_⟩
  have K7 := Lib.hid (K6.out.tr k_)
  have r4 := Lib.hid (r4.out.kp k_)
  have r5 := Lib.hid (r5.out.kp k_)
  have F5 := Lib.hid (F5.out.kp k_)
  have K := Lib.hid (K.out.tr k_)
  clear k_ K6 R7 r6 l6 HA2 hkc4 S1 S2
  go_wp2
  go_loopw [20] (fun i wx => ∃ j : Nat, i = .int .i64 (j : Int) ∧ Hid (j ≤ n) ∧ Hid (Kp w7 wx)) (fun i _ => n - (intOf i).toNat)
  case atStart => exact ⟨0, rfl, Nat.zero_le _, Kp.refl _⟩
  case round =>
    obtain ⟨j, rfl, hj, hK⟩ := hrel
    by_cases hjk : j < n
    · have hj1 : (j : Int) < (n : Int) := by omega
      obtain ⟨ad, x, P3, c3, Q3, d3, hE, hlt, hx, hcs, _, hR3⟩ := trc_at (r4.out.kp hK.out) (k := j) (by rw [HTN.out.1]; exact hjk)
      injection hE with hE
      subst hE
      obtain ⟨bd, s', P4, f4, rfl, hlu, hs', hds, rs', _, _, _⟩ := (r5.out.kp hK.out).at_ (k := j) (by unfold shT; rw [List.length_map, HTN.out.1]; exact hjk)
      have hs2 : x.1 = s' := by
        unfold shT at hs'
        rw [List.getElem?_map, hx] at hs'
        injection hs'
      have HQS : Hid (∀ q, Calls Tryz.prog 13 #[.slice P3 x.1.length c3, .slice P4 s'.length f4] (wr.drewN q) fun e w'' => e = .returned (.bool true) ∧ ∃ m, w'' = wr.drewN m) := fun q => quiet_same13 hR3.r.s rs' hs2
      have HC2 : ∀ q, (wr.drewN q).cell? (av.add (j * 2)) = some (.slice P3 x.1.length c3) := fun q => hcs
      have HD2 : ∀ q, (wr.drewN q).cell? (bd.add j) = some (.slice P4 s'.length f4) := fun q => hds
      clear hx hs' hs2 hR3 rs'
      go_wp2_with fail
      go_quiet ((go_at_call 13; exact HQS.out _))
      go_wp2
      go_roundw
      case rel => exact ⟨j + 1, by go_num, (by show j + 1 ≤ n; omega), hK.out.tr (Kp.drewN_ _ _)⟩
      case measure => simp [intOf]; omega
    · have hj1 : ¬ (j : Int) < (n : Int) := by omega
      clear hj hjk
      go_wp2
      go_loopw [21, 22] (fun x i wx => ∃ (q : Nat) (E : Option Addr) (g : Nat) (dn : List T), x = .slice E dn.length g ∧ i = .int .i64 (q : Int) ∧ Hid (q ≤ na) ∧ Hid (dn = aa.take q) ∧ Hid (OwnT w7.heap.size wx (.slice E dn.length g) dn) ∧ Hid (Kp w7 wx)) (fun _ i _ => na - (intOf i).toNat)
      case atStart => exact ⟨0, none, 0, [], rfl, rfl, Nat.zero_le _, (by show [] = _; rw [List.take_zero]), OwnT.nil_ _ _, hK.out⟩
      case round =>
        clear hK
        obtain ⟨q, E, g, dn, rfl, rfl, hq, hD, hO, hK⟩ := hrel
        have KW := Lib.hid (K.out.tr hK.out)
        obtain ⟨y0, y1, y2⟩ := HCL.out _ KW.out
        by_cases hqn : q < na
        · have hq1 : (q : Int) < (na : Int) := by omega
          have hdl : dn.length ≤ 100 := by rw [hD.out, List.length_take]; omega
          obtain ⟨ap, z, hP0, hlt, hz, hcz⟩ := (HLA.out.kp KW.out).at_ (k := q) (by rw [← HNA.out]; exact hqn)
          obtain ⟨zz, rfl, hzn⟩ := HARG.out q z hz
          subst hP0
          have hz1 : (zz : Int) < (n : Int) := by omega
          obtain ⟨ad, x, P3, c3, Q3, d3, hE, hltx, hx, t1, t2, hR3⟩ := trc_at r4.out (k := zz) (by rw [HTN.out.1]; exact hzn)
          injection hE with hE
          subst hE
          have HST := Lib.hid (args_step13 hz hx)
          have T1 := (hK.out.cell (p := av.add (zz * 2)) (by rw [block_of_add]; exact hltx)).trans t1
          have T2 := (hK.out.cell (p := ⟨(av.add (zz * 2)).block, (av.add (zz * 2)).off + 1, none⟩) (by rw [block_of_add]; exact hltx)).trans t2
          have HROW := Lib.hid (one_row hR3 hK.out hO.out (Nat.le_refl _))
          have HO2 := Lib.hid (hO.out.kp (Kp.alloc_ wr (.cells #[.slice P3 x.1.length c3, .slice Q3 x.2.length d3] 25)))
          have HS2 : Hid (w7.heap.size ≤ (wr.alloc (.cells #[.slice P3 x.1.length c3, .slice Q3 x.2.length d3] 25)).heap.size) := by show _ ≤ _; have := hK.out.size; simp; omega
          obtain ⟨n1, hn1⟩ : ∃ n, n = x.1.length := ⟨_, rfl⟩
          obtain ⟨n2, hn2⟩ : ∃ n, n = x.2.length := ⟨_, rfl⟩
          rw [← hn1] at T1 HROW HO2 HS2
          rw [← hn2] at T2 HROW HO2 HS2
          have hltx2 := Nat.lt_of_lt_of_le hltx hK.out.size
          clear t1 t2 hx hz hR3 hn1 hn2 hltx
          go_wp2_with (at_builtin; refine wpList_appT (B := w7.heap.size) rfl (.tmp 147) (.tmp 160) rfl _ dn rfl HO2.out _ 1 [x] 1 rfl rfl HROW.out (by simp; omega) HS2.out ?_; intro q1 A1 c1 w8 HZ o1 b1 _; have O8 := Lib.hid o1; have K8 : Hid (Kp w7 w8) := (hK.out.tr (Kp.alloc_ _ _)).trans b1; clear o1 b1)
          go_roundw
          case rel => exact ⟨q + 1, A1, c1, q1, rfl, by go_num, (by show q + 1 ≤ na; omega), (by show q1 = _; rw [HZ.out, HAA.out.1, HST.out, ← HAA.out.1, ← hD.out]), O8.out, K8.out⟩
          case measure => simp [intOf]; omega
        · have hq1 : ¬ (q : Int) < (na : Int) := by omega
          have hda : dn = aa := by rw [hD.out, List.take_of_length_le (by rw [HAA.out.2]; omega)]
          obtain ⟨nd, hnd⟩ : ∃ n, n = dn.length := ⟨_, rfl⟩
          have HDA : Hid (dn = aa ∧ nd = dn.length) := ⟨hda, hnd⟩
          have HO : Hid (RdT wr E dn ∧ dn.length ≤ g ∧ g ≤ 9223372036854775807) := by
            obtain ⟨A9, c9, e9, m9, l9⟩ := hO.out.form
            injection e9 with e91 e92 e93
            subst e91 e93
            exact ⟨m9, l9⟩
          rw [← hnd]
          clear hD hq hqn hda hnd hO
          go_wp2_with fail
          go_cut [23, 24] (fun vb ve wx => ve = .int .i64 0 ∧ ∃ b9 A9 c9 B9 d9, vb = .pointer (some ⟨b9, 0, none⟩) ∧ Hid (Bk wx b9 A9 ux c9 B9 uy d9) ∧ Hid (TR wx A9 u.1 B9 u.2) ∧ Hid (Kp wr wx))
          case first =>
            have hdr8 : Hid (Kp wr wr.drew) := Below.drew (Kp.refl _)
            have HKX : Hid (∀ V, Kp wr V → V.cell? (al.add (m * 3)) = some (.int .i64 op) ∧ V.cell? ⟨(al.add (m * 3)).block, (al.add (m * 3)).off + 1, none⟩ = some (.slice P0 na c0) ∧ V.cell? ⟨(al.add (m * 3)).block, (al.add (m * 3)).off + 2, none⟩ = some (.slice Q0 nb d0) ∧ V.cell? ⟨w.heap.size, 0, none⟩ = some (.slice P a e) ∧ V.cell? ⟨w.heap.size, 1, none⟩ = some (.slice Q b f)) := fun V kV => by
              obtain ⟨h1, h2, h3⟩ := HCL.out _ (KW.out.tr kV)
              have h5 := (F5.out.kp hK.out).kp kV
              exact ⟨h1, h2, h3, h5.c0, h5.c1⟩
            have s0 := HKX.out _ hdr8.out
            refine wp_region_held_drew (S := fun V => V.cell? (al.add (m * 3)) = some (.int .i64 op) ∧ V.cell? ⟨(al.add (m * 3)).block, (al.add (m * 3)).off + 1, none⟩ = some (.slice P0 na c0) ∧ V.cell? ⟨(al.add (m * 3)).block, (al.add (m * 3)).off + 2, none⟩ = some (.slice Q0 nb d0) ∧ V.cell? ⟨w.heap.size, 0, none⟩ = some (.slice P a e) ∧ V.cell? ⟨w.heap.size, 1, none⟩ = some (.slice Q b f)) (by kernel_rfl) s0 (fun hHeld => ?_)
            refine wpAnyH_take (i := 0) (v := .slice (some al) n c) rfl (by kernel_rfl) (by kernel_rfl) (by kernel_rfl) (fun _ _ _ h => h) (Or.inl ⟨by kernel_rfl, fun V hSV => ?_⟩) hHeld ?_
            · (try dsimp only at hSV); go_simp
            try simp only [Act.put, List.setIfInBounds_toArray, List.set_cons_zero, List.set_cons_succ]
            refine wpAnyH_take (i := 1) (v := .int .i64 (k : Int)) rfl (by kernel_rfl) (by kernel_rfl) (by kernel_rfl) (fun _ _ _ h => h) (Or.inl ⟨by kernel_rfl, fun V hSV => ?_⟩) hHeld ?_
            · (try dsimp only at hSV); go_simp
            try simp only [Act.put, List.setIfInBounds_toArray, List.set_cons_zero, List.set_cons_succ]
            refine wpAnyH_take (i := 2) (v := .int .i64 (m : Int)) rfl (by kernel_rfl) (by kernel_rfl) (by kernel_rfl) (fun _ _ _ h => h) (Or.inl ⟨by kernel_rfl, fun V hSV => ?_⟩) hHeld ?_
            · (try dsimp only at hSV); go_simp
            try simp only [Act.put, List.setIfInBounds_toArray, List.set_cons_zero, List.set_cons_succ]
            refine wpAnyH_take (i := 3) (v := .pointer (some (al.add (m * 3)))) rfl (by kernel_rfl) (by kernel_rfl) (by kernel_rfl) (fun _ _ _ h => h) (Or.inl ⟨by kernel_rfl, fun V hSV => ?_⟩) hHeld ?_
            · (try dsimp only at hSV); go_simp
            try simp only [Act.put, List.setIfInBounds_toArray, List.set_cons_zero, List.set_cons_succ]
            refine wpAnyH_take (i := 4) (v := .agg #[.int .i64 op, .slice P0 na c0, .slice Q0 nb d0]) rfl (by kernel_rfl) (by kernel_rfl) (by kernel_rfl) (fun _ _ _ h => h) (Or.inl ⟨by kernel_rfl, fun V hSV => ?_⟩) hHeld ?_
            · (try dsimp only at hSV); go_simp
            try simp only [Act.put, List.setIfInBounds_toArray, List.set_cons_zero, List.set_cons_succ]
            refine wpAnyH_take (i := 5) (v := .slice E nd g) rfl (by kernel_rfl) (by kernel_rfl) (by kernel_rfl) (fun _ _ _ h => h) (Or.inl ⟨by kernel_rfl, fun V hSV => ?_⟩) hHeld ?_
            · (try dsimp only at hSV); go_simp
            try simp only [Act.put, List.setIfInBounds_toArray, List.set_cons_zero, List.set_cons_succ]
            refine wpAnyH_take (i := 6) (v := .agg #[.slice P a e, .slice Q b f]) rfl (by kernel_rfl) (by kernel_rfl) (by kernel_rfl) (fun _ _ _ h => h) (Or.inl ⟨by kernel_rfl, fun V hSV => ?_⟩) hHeld ?_
            · (try dsimp only at hSV); go_simp
            try simp only [Act.put, List.setIfInBounds_toArray, List.set_cons_zero, List.set_cons_succ]
            refine wpAnyH_take (i := 7) (v := .slice R kp d) rfl (by kernel_rfl) (by kernel_rfl) (by kernel_rfl) (fun _ _ _ h => h) (Or.inl ⟨by kernel_rfl, fun V hSV => ?_⟩) hHeld ?_
            · (try dsimp only at hSV); go_simp
            try simp only [Act.put, List.setIfInBounds_toArray, List.set_cons_zero, List.set_cons_succ]
            refine wpAnyH_ready (rs := [8, 12]) (by kernel_rfl) (by simp) ?_
            refine AllReadyH.cons rfl (fun K9_ hK => ?_) ?_
            · go_simp
              refine (HND.out _ E g dn nd (KW.out.tr hdr8.out) HDA.out.1 HDA.out.2 (HO.out.1.kp hdr8.out) HO.out.2.1 HO.out.2.2).mono ?_; rintro e0 w9 ⟨A9, c9, B9, d9, rfl, r9, k9⟩
              dsimp only
              have K9 : Hid (Kp wr w9) := hdr8.out.tr k9
              have hq := HKX.out _ K9.out
              have R9 := Lib.hid r9
              clear r9 k9
              refine hK.out _ _ ?_ (fun hHeld => ?_)
              · exact hq
              clear hK
              try simp only [Act.put, List.setIfInBounds_toArray, List.set_cons_zero, List.set_cons_succ]
              refine wpAnyH_take (i := 9) (v := .tuple #[.agg #[.slice A9 ux c9, .slice B9 uy d9], .int .i64 0]) rfl (by kernel_rfl) (by kernel_rfl) (by kernel_rfl) (fun _ _ _ h => h) (Or.inl ⟨by kernel_rfl, fun V hSV => ?_⟩) hHeld ?_
              · (try dsimp only at hSV); go_simp
              try simp only [Act.put, List.setIfInBounds_toArray, List.set_cons_zero, List.set_cons_succ]
              refine wpAnyH_take (i := 10) (v := .agg #[.slice A9 ux c9, .slice B9 uy d9]) rfl (by kernel_rfl) (by kernel_rfl) (by kernel_rfl) (fun _ _ _ h => h) (Or.inl ⟨by kernel_rfl, fun V hSV => ?_⟩) hHeld ?_
              · (try dsimp only at hSV); go_simp
              try simp only [Act.put, List.setIfInBounds_toArray, List.set_cons_zero, List.set_cons_succ]
              refine wpAnyH_take (i := 11) (v := .int .i64 0) rfl (by kernel_rfl) (by kernel_rfl) (by kernel_rfl) (fun _ _ _ h => h) (Or.inl ⟨by kernel_rfl, fun V hSV => ?_⟩) hHeld ?_
              · (try dsimp only at hSV); go_simp
              try simp only [Act.put, List.setIfInBounds_toArray, List.set_cons_zero, List.set_cons_succ]
              refine wpAnyH_ready (rs := [12]) (by kernel_rfl) (by simp) ?_
              refine AllReadyH.cons rfl (fun K9_ hK => ?_) AllReadyH.nil
              go_simp
              refine hK.out _ _ ?_ (fun hHeld => ?_)
              · exact HKX.out _ (K9.out.al _)
              clear hK
              try simp only [Act.put, List.setIfInBounds_toArray, List.set_cons_zero, List.set_cons_succ]
              refine wpAnyH_ready (rs := [13]) (by kernel_rfl) (by simp) ?_
              refine AllReadyH.cons rfl (fun K9_ hK => ?_) AllReadyH.nil
              go_simp
              refine hK.out _ _ ?_ (fun hHeld => ?_)
              · exact HKX.out _ (K9.out.al _)
              clear hK
              try simp only [Act.put, List.setIfInBounds_toArray, List.set_cons_zero, List.set_cons_succ]
              refine wpAnyH_ready (rs := [14]) (by kernel_rfl) (by simp) ?_
              refine AllReadyH.cons rfl (fun K9_ hK => ?_) AllReadyH.nil
              go_simp
              refine hK.out _ _ ?_ (fun hHeld => ?_)
              · exact HKX.out _ (K9.out.al _)
              clear hK
              try simp only [Act.put, List.setIfInBounds_toArray, List.set_cons_zero, List.set_cons_succ]
              refine wpAnyH_done (by kernel_rfl) ?_ _
              go_wp2
              go_meet
              exact ⟨rfl, w9.heap.size, A9, c9, B9, d9, rfl, Bk.new rfl, R9.out.r.alloc_ _, K9.out.al _⟩
            refine AllReadyH.cons rfl (fun K9_ hK => ?_) AllReadyH.nil
            go_simp
            refine hK.out _ _ ?_ (fun hHeld => ?_)
            · exact HKX.out _ (hdr8.out.al _)
            clear hK
            try simp only [Act.put, List.setIfInBounds_toArray, List.set_cons_zero, List.set_cons_succ]
            refine wpAnyH_ready (rs := [8]) (by kernel_rfl) (by simp) ?_
            refine AllReadyH.cons rfl (fun K9_ hK => ?_) AllReadyH.nil
            go_simp
            refine (HND.out _ E g dn nd (KW.out.tr (hdr8.out.al _)) HDA.out.1 HDA.out.2 (HO.out.1.kp (hdr8.out.al _)) HO.out.2.1 HO.out.2.2).mono ?_; rintro e0 w9 ⟨A9, c9, B9, d9, rfl, r9, k9⟩
            dsimp only
            have K9 : Hid (Kp wr w9) := (hdr8.out.al _).tr k9
            have hq := HKX.out _ K9.out
            have R9 := Lib.hid r9
            have TZ : Hid (Bk w9 wr.heap.size none 0 0 none 0 0) := Bk.kp (Bk.new (W := wr.drew) rfl) k9
            have z0 := TZ.out.c0
            have z1 := TZ.out.c1
            have z2 := TZ.out.f0 0
            have z3 := TZ.out.f0 1
            clear r9 k9
            refine hK.out _ _ ?_ (fun hHeld => ?_)
            · exact hq
            clear hK
            try simp only [Act.put, List.setIfInBounds_toArray, List.set_cons_zero, List.set_cons_succ]
            refine wpAnyH_take (i := 9) (v := .tuple #[.agg #[.slice A9 ux c9, .slice B9 uy d9], .int .i64 0]) rfl (by kernel_rfl) (by kernel_rfl) (by kernel_rfl) (fun _ _ _ h => h) (Or.inl ⟨by kernel_rfl, fun V hSV => ?_⟩) hHeld ?_
            · (try dsimp only at hSV); go_simp
            try simp only [Act.put, List.setIfInBounds_toArray, List.set_cons_zero, List.set_cons_succ]
            refine wpAnyH_take (i := 10) (v := .agg #[.slice A9 ux c9, .slice B9 uy d9]) rfl (by kernel_rfl) (by kernel_rfl) (by kernel_rfl) (fun _ _ _ h => h) (Or.inl ⟨by kernel_rfl, fun V hSV => ?_⟩) hHeld ?_
            · (try dsimp only at hSV); go_simp
            try simp only [Act.put, List.setIfInBounds_toArray, List.set_cons_zero, List.set_cons_succ]
            refine wpAnyH_take (i := 11) (v := .int .i64 0) rfl (by kernel_rfl) (by kernel_rfl) (by kernel_rfl) (fun _ _ _ h => h) (Or.inl ⟨by kernel_rfl, fun V hSV => ?_⟩) hHeld ?_
            · (try dsimp only at hSV); go_simp
            try simp only [Act.put, List.setIfInBounds_toArray, List.set_cons_zero, List.set_cons_succ]
            refine wpAnyH_ready (rs := [13]) (by kernel_rfl) (by simp) ?_
            refine AllReadyH.cons rfl (fun K9_ hK => ?_) AllReadyH.nil
            go_simp
            refine hK.out _ _ ?_ (fun hHeld => ?_)
            · exact HKX.out _ ((K9.out.setCell (p := ⟨wr.heap.size, 0, none⟩) (Nat.le_refl _) _).setCell (p := ⟨wr.heap.size, 1, none⟩) (Nat.le_refl _) _)
            clear hK
            try simp only [Act.put, List.setIfInBounds_toArray, List.set_cons_zero, List.set_cons_succ]
            refine wpAnyH_ready (rs := [14]) (by kernel_rfl) (by simp) ?_
            refine AllReadyH.cons rfl (fun K9_ hK => ?_) AllReadyH.nil
            go_simp
            refine hK.out _ _ ?_ (fun hHeld => ?_)
            · exact HKX.out _ ((K9.out.setCell (p := ⟨wr.heap.size, 0, none⟩) (Nat.le_refl _) _).setCell (p := ⟨wr.heap.size, 1, none⟩) (Nat.le_refl _) _)
            clear hK
            try simp only [Act.put, List.setIfInBounds_toArray, List.set_cons_zero, List.set_cons_succ]
            refine wpAnyH_done (by kernel_rfl) ?_ _
            go_wp2
            go_meet
            exact ⟨rfl, wr.heap.size, A9, c9, B9, d9, rfl, TZ.out.put, R9.out.r.past TZ.out _ _, ((K9.out.setCell (p := ⟨wr.heap.size, 0, none⟩) (Nat.le_refl _) _).setCell (p := ⟨wr.heap.size, 1, none⟩) (Nat.le_refl _) _)⟩
          case rest =>
            obtain ⟨rfl, b9, A9, c9, B9, d9, rfl, FB, RB, k_⟩ := hcut
            have K9 := Lib.hid (hK.out.tr k_.out)
            have HQ6 : Hid (∀ V, Kp wc V → V.cell? ⟨b9, 0, none⟩ = some (.slice A9 ux c9) ∧ V.cell? ⟨b9, 1, none⟩ = some (.slice B9 uy d9) ∧ V.cell? (av.add (m * 2)) = some (.slice P5 ux c6) ∧ V.cell? ⟨(av.add (m * 2)).block, (av.add (m * 2)).off + 1, none⟩ = some (.slice Q5 uy d6)) := fun V kV => ⟨(FB.out.kp kV).c0, (FB.out.kp kV).c1, (HVC.out _ ((K7.out.tr K9.out).tr kV)).1, (HVC.out _ ((K7.out.tr K9.out).tr kV)).2⟩
            have HSM : Hid (Calls Tryz.prog 15 #[.agg #[.slice A9 ux c9, .slice B9 uy d9], .agg #[.slice P5 ux c6, .slice Q5 uy d6]] wc.drew fun e w' => e = .returned (.bool true) ∧ Kp wc.drew w') := tsame_u (RB.out.kp (Kp.drewN_ wc 1)) ((HR5.out.kp (K7.out.tr K9.out)).kp (Kp.drewN_ wc 1)).r HUM.out.2.1 HUM.out.2.2
            have s0 := HQ6.out _ (Kp.drewN_ wc 1)
            clear y0 y1 y2
            go_wp2_with fail
            refine wp_region_held_drew (S := fun V => V.cell? ⟨b9, 0, none⟩ = some (.slice A9 ux c9) ∧ V.cell? ⟨b9, 1, none⟩ = some (.slice B9 uy d9) ∧ V.cell? (av.add (m * 2)) = some (.slice P5 ux c6) ∧ V.cell? ⟨(av.add (m * 2)).block, (av.add (m * 2)).off + 1, none⟩ = some (.slice Q5 uy d6)) (by kernel_rfl) s0 (fun hHeld => ?_)
            refine wpAnyH_take (i := 0) (v := .bool true) rfl (by kernel_rfl) (by kernel_rfl) (by kernel_rfl) (fun _ _ _ h => h) (Or.inl ⟨by kernel_rfl, fun V hSV => ?_⟩) hHeld ?_
            · (try dsimp only at hSV); go_simp
            try simp only [Act.put, List.setIfInBounds_toArray, List.set_cons_zero, List.set_cons_succ]
            refine wpAnyH_take (i := 1) (v := .bool true) rfl (by kernel_rfl) (by kernel_rfl) (by kernel_rfl) (fun _ _ _ h => h) (Or.inl ⟨by kernel_rfl, fun V hSV => ?_⟩) hHeld ?_
            · (try dsimp only at hSV); go_simp
            try simp only [Act.put, List.setIfInBounds_toArray, List.set_cons_zero, List.set_cons_succ]
            refine wpAnyH_take (i := 2) (v := .int .i64 0) rfl (by kernel_rfl) (by kernel_rfl) (by kernel_rfl) (fun _ _ _ h => h) (Or.inl ⟨by kernel_rfl, fun V hSV => ?_⟩) hHeld ?_
            · (try dsimp only at hSV); go_simp
            try simp only [Act.put, List.setIfInBounds_toArray, List.set_cons_zero, List.set_cons_succ]
            refine wpAnyH_take (i := 3) (v := .bool true) rfl (by kernel_rfl) (by kernel_rfl) (by kernel_rfl) (fun _ _ _ h => h) (Or.inl ⟨by kernel_rfl, fun V hSV => ?_⟩) hHeld ?_
            · (try dsimp only at hSV); go_simp
            try simp only [Act.put, List.setIfInBounds_toArray, List.set_cons_zero, List.set_cons_succ]
            refine wpAnyH_take (i := 4) (v := .bool true) rfl (by kernel_rfl) (by kernel_rfl) (by kernel_rfl) (fun _ _ _ h => h) (Or.inl ⟨by kernel_rfl, fun V hSV => ?_⟩) hHeld ?_
            · (try dsimp only at hSV); go_simp
            try simp only [Act.put, List.setIfInBounds_toArray, List.set_cons_zero, List.set_cons_succ]
            refine wpAnyH_take (i := 5) (v := .bool true) rfl (by kernel_rfl) (by kernel_rfl) (by kernel_rfl) (fun _ _ _ h => h) (Or.inl ⟨by kernel_rfl, fun V hSV => ?_⟩) hHeld ?_
            · (try dsimp only at hSV); go_simp
            try simp only [Act.put, List.setIfInBounds_toArray, List.set_cons_zero, List.set_cons_succ]
            refine wpAnyH_take (i := 6) (v := .agg #[.slice A9 ux c9, .slice B9 uy d9]) rfl (by kernel_rfl) (by kernel_rfl) (by kernel_rfl) (fun _ _ _ h => h) (Or.inl ⟨by kernel_rfl, fun V hSV => ?_⟩) hHeld ?_
            · (try dsimp only at hSV); go_simp
            try simp only [Act.put, List.setIfInBounds_toArray, List.set_cons_zero, List.set_cons_succ]
            refine wpAnyH_take (i := 7) (v := .slice (some av) n c4) rfl (by kernel_rfl) (by kernel_rfl) (by kernel_rfl) (fun _ _ _ h => h) (Or.inl ⟨by kernel_rfl, fun V hSV => ?_⟩) hHeld ?_
            · (try dsimp only at hSV); go_simp
            try simp only [Act.put, List.setIfInBounds_toArray, List.set_cons_zero, List.set_cons_succ]
            refine wpAnyH_take (i := 8) (v := .int .i64 (k : Int)) rfl (by kernel_rfl) (by kernel_rfl) (by kernel_rfl) (fun _ _ _ h => h) (Or.inl ⟨by kernel_rfl, fun V hSV => ?_⟩) hHeld ?_
            · (try dsimp only at hSV); go_simp
            try simp only [Act.put, List.setIfInBounds_toArray, List.set_cons_zero, List.set_cons_succ]
            refine wpAnyH_take (i := 9) (v := .int .i64 (m : Int)) rfl (by kernel_rfl) (by kernel_rfl) (by kernel_rfl) (fun _ _ _ h => h) (Or.inl ⟨by kernel_rfl, fun V hSV => ?_⟩) hHeld ?_
            · (try dsimp only at hSV); go_simp
            try simp only [Act.put, List.setIfInBounds_toArray, List.set_cons_zero, List.set_cons_succ]
            refine wpAnyH_take (i := 10) (v := .pointer (some (av.add (m * 2)))) rfl (by kernel_rfl) (by kernel_rfl) (by kernel_rfl) (fun _ _ _ h => h) (Or.inl ⟨by kernel_rfl, fun V hSV => ?_⟩) hHeld ?_
            · (try dsimp only at hSV); go_simp
            try simp only [Act.put, List.setIfInBounds_toArray, List.set_cons_zero, List.set_cons_succ]
            refine wpAnyH_take (i := 11) (v := .agg #[.slice P5 ux c6, .slice Q5 uy d6]) rfl (by kernel_rfl) (by kernel_rfl) (by kernel_rfl) (fun _ _ _ h => h) (Or.inl ⟨by kernel_rfl, fun V hSV => ?_⟩) hHeld ?_
            · (try dsimp only at hSV); go_simp
            try simp only [Act.put, List.setIfInBounds_toArray, List.set_cons_zero, List.set_cons_succ]
            refine wpAnyH_ready (rs := [12]) (by kernel_rfl) (by simp) ?_
            refine AllReadyH.cons rfl (fun K9_ hK => ?_) AllReadyH.nil
            go_simp
            refine HSM.out.mono ?_; rintro e0 w9 ⟨rfl, k9⟩
            dsimp only
            have K10 : Hid (Kp wc w9) := (Kp.drewN_ wc 1).tr k9
            have hq := HQ6.out _ K10.out
            clear k9
            refine hK.out _ _ ?_ (fun hHeld => ?_)
            · exact hq
            clear hK
            try simp only [Act.put, List.setIfInBounds_toArray, List.set_cons_zero, List.set_cons_succ]
            refine wpAnyH_take (i := 13) (v := .bool true) rfl (by kernel_rfl) (by kernel_rfl) (by kernel_rfl) (fun _ _ _ h => h) (Or.inl ⟨by kernel_rfl, fun V hSV => ?_⟩) hHeld ?_
            · (try dsimp only at hSV); go_simp
            try simp only [Act.put, List.setIfInBounds_toArray, List.set_cons_zero, List.set_cons_succ]
            refine wpAnyH_take (i := 14) (v := .bool true) rfl (by kernel_rfl) (by kernel_rfl) (by kernel_rfl) (fun _ _ _ h => h) (Or.inl ⟨by kernel_rfl, fun V hSV => ?_⟩) hHeld ?_
            · (try dsimp only at hSV); go_simp
            try simp only [Act.put, List.setIfInBounds_toArray, List.set_cons_zero, List.set_cons_succ]
            refine wpAnyH_take (i := 15) (v := .int .i64 (-1)) rfl (by kernel_rfl) (by kernel_rfl) (by kernel_rfl) (fun _ _ _ h => h) (Or.inl ⟨by kernel_rfl, fun V hSV => ?_⟩) hHeld ?_
            · (try dsimp only at hSV); go_simp
            try simp only [Act.put, List.setIfInBounds_toArray, List.set_cons_zero, List.set_cons_succ]
            refine wpAnyH_take (i := 16) (v := .bool true) rfl (by kernel_rfl) (by kernel_rfl) (by kernel_rfl) (fun _ _ _ h => h) (Or.inl ⟨by kernel_rfl, fun V hSV => ?_⟩) hHeld ?_
            · (try dsimp only at hSV); go_simp
            try simp only [Act.put, List.setIfInBounds_toArray, List.set_cons_zero, List.set_cons_succ]
            refine wpAnyH_take (i := 17) (v := .bool true) rfl (by kernel_rfl) (by kernel_rfl) (by kernel_rfl) (fun _ _ _ h => h) (Or.inl ⟨by kernel_rfl, fun V hSV => ?_⟩) hHeld ?_
            · (try dsimp only at hSV); go_simp
            try simp only [Act.put, List.setIfInBounds_toArray, List.set_cons_zero, List.set_cons_succ]
            refine wpAnyH_ready (rs := [18]) (by kernel_rfl) (by simp) ?_
            refine AllReadyH.cons rfl (fun K9_ hK => ?_) AllReadyH.nil
            go_simp
            refine hK.out _ _ ?_ (fun hHeld => ?_)
            · exact hq
            clear hK
            try simp only [Act.put, List.setIfInBounds_toArray, List.set_cons_zero, List.set_cons_succ]
            refine wpAnyH_done (by kernel_rfl) ?_ _
            go_wp2
            go_ret
            exact ⟨rfl, (KW.out.tr (k_.out.tr K10.out))⟩
theorem ecuts_walk (C : EvC) (A P Q R : Option Addr) (c e f d : Nat) (l : List Nd) (t : T) (ps : List T) (ga : Int) (w : World) (RL : RdG w A l) (N : ∀ t ∈ l, Nd64 t) (L : l.length ≤ c) (M : c ≤ 9223372036854775807)
    (RT : TRc w P e Q f t) (n1 : N64 t.1 ∧ N64 t.2) (RP : RdT w R ps) (NP : ∀ t ∈ ps, N64 t.1 ∧ N64 t.2) (LP : ps.length ≤ d ∧ d ≤ 9223372036854775807) (g0 : 0 ≤ ga) (g1 : ga ≤ 255) :
    Calls Tryz.prog 3 #[.slice A l.length c, .agg #[.slice P t.1.length e, .slice Q t.2.length f], .slice R ps.length d, .int .u8 ga] w fun e w' => e = .returned (.bool true) ∧ Kp w w' := by
  have hl := RL.len
  cases hf : fewN l with
  | false => exact ecuts_far (evawake_any C) A P Q R c _ _ _ e f _ d ga g0 g1 w hl (-1) 1 (by omega) (by omega) (.inl (few_l RL hf))
  | true =>
  cases h1 : fewE t ps with
  | false => exact ecuts_far (evawake_any C) A P Q R c _ _ _ e f _ d ga g0 g1 w hl (-1) 1 (by omega) (by omega) (.inr ⟨few_l RL hf, .inl (few_e RT RP h1)⟩)
  | true =>
  rcases all_cases l t ps with ⟨ts, hv, hts, hc, hev, hsh⟩ | ⟨i, er, hv, he, hi⟩
  · exact ecuts_main C A P Q R c e f d l t ps ga g0 g1 w RL L M (small_few hf N) hf RT (sm_t h1 n1.1 n1.2) RP (sm_ts h1 NP) LP h1 ts hv hts hc hev hsh
  · exact ecuts_far (evawake_any C) A P Q R c _ _ _ e f _ d ga g0 g1 w hl i er hi he (.inr ⟨few_l RL hf, .inr ⟨few_e RT RP h1, fun W k => C.all A P Q R c l.length t.1.length t.2.length e f ps.length d l t ps [] i er 0 W (RL.kp k) L M (small_few hf N) rfl (RT.kp k) (sm_t h1 n1.1 n1.2) rfl rfl (RP.kp k) LP.1 LP.2 (sm_ts h1 NP) rfl hv rfl⟩⟩)
end Go.Proofs.YtdbncanedokinaaGreat
