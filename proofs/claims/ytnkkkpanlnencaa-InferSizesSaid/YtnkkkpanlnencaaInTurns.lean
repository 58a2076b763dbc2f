/- InferTurns, over the contracts of the calls. -/
import Derived.Test.YtnkkkpanlnencaaInTells
namespace Go.Proofs.Ytnkkkpanlnencaa
open Go.RowKit Go.Proofs.ShM Go.Proofs.GrM Go.Proofs.InM
set_option linter.unusedVariables false
set_option maxHeartbeats 8000000

theorem sl_one {s : List Int} (h : s.length ≤ 100) (g : W64 s) : SmallL [s] := ⟨by show 1 ≤ 100; decide, fun t ht => by
  have : t = s := by simpa using ht
  rw [this]; exact ⟨h, g⟩⟩
theorem sl_two {s t : List Int} (h : s.length ≤ 100) (g : W64 s) (h' : t.length ≤ 100) (g' : W64 t) : SmallL [s, t] := ⟨by show 2 ≤ 100; decide, fun u hu => by
  have : u = s ∨ u = t := by simpa using hu
  rcases this with rfl | rfl
  · exact ⟨h, g⟩
  · exact ⟨h', g'⟩⟩
theorem sn_mk {op : Int} {nums : List Int} (h : -9223372036854775808 ≤ op ∧ op ≤ 9223372036854775807) (h1 : nums.length ≤ 100) (h2 : W64 nums) : SmallN (op, [], nums) := ⟨by show 0 ≤ 100; decide, h1, w64_one h, w64_nil, h2⟩
/-- Two lists in a new row. -/
theorem rdl_lit2 {w : World} {P Q : Option Addr} {a b : List Int} {c d : Nat} (h : Rd w P a) (h1 : a.length ≤ c ∧ c ≤ 9223372036854775807) (g : Rd w Q b) (g1 : b.length ≤ d ∧ d ≤ 9223372036854775807) (ty : TypeId) :
    RdL (w.alloc (.cells #[.slice P a.length c, .slice Q b.length d] ty)) (some ⟨w.heap.size, 0, none⟩) [a, b] :=
  RdLX.lit (AllL.cons (vl_mk h h1.1 h1.2) (AllL.cons (vl_mk g g1.1 g1.2) (AllL.nil_ _ _))) (by show 2 ≤ 1000; decide) ty
theorem rdl_lit1 {w : World} {P : Option Addr} {a : List Int} {c : Nat} (h : Rd w P a) (h1 : a.length ≤ c ∧ c ≤ 9223372036854775807) (ty : TypeId) :
    RdL (w.alloc (.cells #[.slice P a.length c] ty)) (some ⟨w.heap.size, 0, none⟩) [a] := RdLX.one h h1.1 h1.2 (fun _ _ _ => trivial) ty
/-- A node with no Args and such numbers, of lists. -/
theorem InC.node0 (C : InC) (op : Int) (nums : List Int) (Q B : Option Addr) (m d na e k : Nat) (gs : List (List Int)) (r : Sh) (W : World) (hQ : Rd W Q nums) (hd : nums.length ≤ d ∧ d ≤ 9223372036854775807) (hN : SmallN (op, [], nums)) (hG : RdL W B gs) (he : gs.length ≤ e ∧ e ≤ 9223372036854775807) (hS : SmallL gs) (hm : m = nums.length) (hna : na = gs.length) (hr : nodeV op nums gs = r) (hk : r.1.length = k) :
    Calls Try.prog 11 #[.agg #[.int .i64 op, .slice none 0 0, .slice Q m d], .slice B na e] W (RetE r k W) :=
  C.node (op, [], nums) none Q B 0 m na 0 d e k gs r W (Rd.nil _ _) hQ ⟨Nat.le_refl _, by omega⟩ hd hN hG he hS rfl hm hna hr hk
set_option maxRecDepth 100000 in
theorem iturns_true (C : InC) (A B : Option Addr) (c d : Nat) (a b : List Int) (o : Int) (W : World) (R : Rd W A a) (S : Rd W B b) (h100 : a.length ≤ 100) (g100 : b.length ≤ 100) (hc : a.length ≤ c ∧ c ≤ 9223372036854775807) (hd : b.length ≤ d ∧ d ≤ 9223372036854775807) (NA : W64 a) (NB : W64 b) (o0 : 0 ≤ o) (o1 : o ≤ 255) (ho : okS a = true) :
    Calls Try.prog 5 #[.slice A a.length c, .slice B b.length d, .int .u8 o] W fun e w' => e = .returned (.bool true) ∧ Below W.heap.size W w' := by
  have HC := Lib.hid C
  have HAW : Hid (∀ V, Calls Try.prog 8 #[] V fun e w' => e = .returned (.bool true) ∧ Kp V w') := fun V => inawake_any C V
  have i1 : ¬ (100 : Int) < (a.length : Int) := by omega
  have i2 : ¬ (100 : Int) < (b.length : Int) := by omega
  obtain ⟨x, e, hx⟩ : ∃ x e, joinV a b = (x, e) := ⟨_, _, rfl⟩
  have hop : 10 ≤ 10 + o % 4 ∧ 10 + o % 4 ≤ 13 := by omega
  have V1 : Hid (nodeV (10 + o % 4) [] [a, b] = (x, e)) := by show _ = _; rw [node_two hop, hx]
  have V2 : Hid (nodeV (10 + o % 4) [] [b, a] = (x, e)) := by show _ = _; rw [node_two hop, join_comm, hx]
  have hee : (e == e) = true := by simp
  have HSA : Hid (SmallL [a] ∧ SmallL [a, b] ∧ SmallL [b, a]) := ⟨sl_one h100 NA, sl_two h100 NA g100 NB, sl_two g100 NB h100 NA⟩
  have HSN : Hid (SmallN (10 + o % 4, [], []) ∧ SmallN (41, [], []) ∧ SmallN (20, [], [])) := ⟨sn_mk (by omega) (by decide) w64_nil, sn_mk (by omega) (by decide) w64_nil, sn_mk (by omega) (by decide) w64_nil⟩
  have HCC : Hid ((a.length ≤ c ∧ c ≤ 9223372036854775807) ∧ b.length ≤ d ∧ d ≤ 9223372036854775807) := ⟨hc, hd⟩
  obtain ⟨t, ht⟩ : ∃ t, t = a.reverse := ⟨_, rfl⟩
  have V3 : Hid (nodeV 41 [] [a] = (t, 0)) := by show _ = _; rw [node_turn, if_pos ho, ht]
  have V4 : Hid (nodeV 41 [] [t] = (a, 0)) := by show _ = _; rw [node_turn, ht, if_pos (ok_rev' ho), List.reverse_reverse]
  have V5 : Hid (nodeV 20 [] [a] = (a, 0)) := by show _ = _; rw [node_neg, if_pos ho]
  have HST : Hid (SmallL [t]) := by show SmallL [t]; rw [ht]; exact sl_one (by rw [List.length_reverse]; exact h100) (fun y hy => NA y (List.mem_reverse.1 hy))
  have HAA : Hid ((a == a) = true) := by show _ = _; simp
  have HCK : Hid (∀ V, Kp W V → Calls Try.prog 18 #[.slice A a.length c] V fun e w' => e = .returned (.bool true) ∧ V = w') := fun V k => check_n a (R.kp k) rfl ho
  have HRA := Lib.hid R
  have HRB := Lib.hid S
  clear C R S hc hd NA NB ho hop hx ht h100 g100
  go_enter Try.func5, Try.ntmps5
  go_wp2_with fail
  refine (HAW.out _).mono ?_; rintro e0 w1 ⟨rfl, k1⟩
  have K2 : Hid (Kp W (w1.alloc (.cells #[.int .i64 (10 + o % 4), .slice none 0 0, .slice none 0 0] 25))) := gal k1 _
  have F2 : Hid (Nb (w1.alloc (.cells #[.int .i64 (10 + o % 4), .slice none 0 0, .slice none 0 0] 25)) w1.heap.size (10 + o % 4) none 0 0 none 0 0) := Nb.new rfl
  have RA := Lib.hid (HRA.out.kp K2.out)
  have RB := Lib.hid (HRB.out.kp K2.out)
  have HG3 : Hid (RdL ((w1.alloc (.cells #[.int .i64 (10 + o % 4), .slice none 0 0, .slice none 0 0] 25)).alloc (.cells #[.slice A a.length c, .slice B b.length d] 23)) (some ⟨w1.heap.size + 1, 0, none⟩) [a, b]) := by
    have h := rdl_lit2 RA.out HCC.out.1 RB.out HCC.out.2 23
    rw [World.size_alloc] at h
    exact h
  clear k1 HRA HRB
  go_wp2_with fail
  refine (HC.out.node0 (10 + o % 4) [] none _ 0 0 2 2 x.length [a, b] (x, e) _ (Rd.nil _ _) (by decide) HSN.out.1 HG3.out (by show 2 ≤ 2 ∧ _; omega) HSA.out.2.1 rfl rfl V1.out rfl).mono ?_; rintro e0 w3 ⟨A3, c3, rfl, r3, l3, k3⟩
  have M3 := Lib.hid (Kp.tr (Kp.alloc_ _ _) k3)
  have K3 := Lib.hid (K2.out.tr M3.out)
  have RA := Lib.hid (RA.out.kp M3.out)
  have RB := Lib.hid (RB.out.kp M3.out)
  have F2 := Lib.hid (F2.out.kp M3.out)
  clear k3
  have p0 := F2.out.c0
  have p1 := F2.out.c1
  have p2 := F2.out.c2
  go_wp2_with fail
  refine (HC.out.node0 (10 + o % 4) [] none _ 0 0 2 2 x.length [b, a] (x, e) _ (Rd.nil _ _) (by decide) HSN.out.1 (rdl_lit2 RB.out HCC.out.2 RA.out HCC.out.1 _) (by show 2 ≤ 2 ∧ _; omega) HSA.out.2.2 rfl rfl V2.out rfl).mono ?_; rintro e0 w4 ⟨A4, c4, rfl, r4, l4, k4⟩
  have M4 := Lib.hid (Kp.tr (Kp.alloc_ _ _) k4)
  have K4 := Lib.hid (K3.out.tr M4.out)
  have RA := Lib.hid (RA.out.kp M4.out)
  have r3 := Lib.hid (r3.out.kp M4.out)
  clear k4
  clear RB F2 p0 p1 p2
  go_wp2_with fail
  refine (HC.out.node0 41 [] none _ 0 0 1 1 t.length [a] (t, 0) _ (Rd.nil _ _) (by decide) HSN.out.2.1 (rdl_lit1 RA.out HCC.out.1 _) (by show 1 ≤ 1 ∧ _; omega) HSA.out.1 rfl rfl V3.out rfl).mono ?_; rintro e0 w5 ⟨A5, c5, rfl, r5, l5, k5⟩
  have M5 := Lib.hid (Kp.tr (Kp.alloc_ _ _) k5)
  have K5 := Lib.hid (K4.out.tr M5.out)
  have RA := Lib.hid (RA.out.kp M5.out)
  have r3 := Lib.hid (r3.out.kp M5.out)
  have r4 := Lib.hid (r4.out.kp M5.out)
  clear k5
  go_wp2_with fail
  refine (HC.out.node0 41 [] none _ 0 0 1 1 a.length [t] (a, 0) _ (Rd.nil _ _) (by decide) HSN.out.2.1 (rdl_lit1 r5.out l5.out _) (by show 1 ≤ 1 ∧ _; omega) HST.out rfl rfl V4.out rfl).mono ?_; rintro e0 w6 ⟨A6, c6, rfl, r6, l6, k6⟩
  have M6 := Lib.hid (Kp.tr (Kp.alloc_ _ _) k6)
  have K6 := Lib.hid (K5.out.tr M6.out)
  have RA := Lib.hid (RA.out.kp M6.out)
  have r3 := Lib.hid (r3.out.kp M6.out)
  have r4 := Lib.hid (r4.out.kp M6.out)
  clear k6
  go_wp2_with fail
  refine (HC.out.node0 20 [] none _ 0 0 1 1 a.length [a] (a, 0) _ (Rd.nil _ _) (by decide) HSN.out.2.2 (rdl_lit1 RA.out HCC.out.1 _) (by show 1 ≤ 1 ∧ _; omega) HSA.out.1 rfl rfl V5.out rfl).mono ?_; rintro e0 w7 ⟨A7, c7, rfl, r7, l7, k7⟩
  have M7 := Lib.hid (Kp.tr (Kp.alloc_ _ _) k7)
  have K7 := Lib.hid (K6.out.tr M7.out)
  have RA := Lib.hid (RA.out.kp M7.out)
  have r3 := Lib.hid (r3.out.kp M7.out)
  have r4 := Lib.hid (r4.out.kp M7.out)
  have r6 := Lib.hid (r6.out.kp M7.out)
  clear k7
  go_wp2_with fail
  refine (HCK.out _ K7.out).mono ?_; rintro e0 w8 ⟨rfl, rfl⟩
  go_wp2_with fail
  refine (same_g x x r3.out r4.out rfl rfl (r := true) (by simp)).mono ?_; rintro e0 w9 ⟨rfl, k9⟩
  have K9 := Lib.hid (K7.out.tr k9)
  have r6 := Lib.hid (r6.out.kp k9)
  have r7 := Lib.hid (r7.out.kp k9)
  have RA := Lib.hid (RA.out.kp k9)
  clear k9
  go_wp2_with fail
  refine (same_g a a r6.out RA.out rfl rfl HAA.out).mono ?_; rintro e0 w10 ⟨rfl, k10⟩
  have K10 := Lib.hid (K9.out.tr k10)
  have r7 := Lib.hid (r7.out.kp k10)
  have RA := Lib.hid (RA.out.kp k10)
  clear k10
  go_wp2_with fail
  refine (same_g a a r7.out RA.out rfl rfl HAA.out).mono ?_; rintro e0 w11 ⟨rfl, k11⟩
  have K11 := Lib.hid (K10.out.tr k11)
  clear k11
  go_wp2
  go_ret
  exact ⟨rfl, K11.out⟩
set_option maxRecDepth 100000 in
theorem iturns_false (C : InC) (A B : Option Addr) (c d : Nat) (a b : List Int) (o : Int) (W : World) (R : Rd W A a) (S : Rd W B b) (h100 : a.length ≤ 100) (g100 : b.length ≤ 100) (hc : a.length ≤ c ∧ c ≤ 9223372036854775807) (hd : b.length ≤ d ∧ d ≤ 9223372036854775807) (NA : W64 a) (NB : W64 b) (o0 : 0 ≤ o) (o1 : o ≤ 255) (ho : okS a = false) :
    Calls Try.prog 5 #[.slice A a.length c, .slice B b.length d, .int .u8 o] W fun e w' => e = .returned (.bool true) ∧ Below W.heap.size W w' := by
  have HC := Lib.hid C
  have HAW : Hid (∀ V, Calls Try.prog 8 #[] V fun e w' => e = .returned (.bool true) ∧ Kp V w') := fun V => inawake_any C V
  have i1 : ¬ (100 : Int) < (a.length : Int) := by omega
  have i2 : ¬ (100 : Int) < (b.length : Int) := by omega
  obtain ⟨x, e, hx⟩ : ∃ x e, joinV a b = (x, e) := ⟨_, _, rfl⟩
  have hop : 10 ≤ 10 + o % 4 ∧ 10 + o % 4 ≤ 13 := by omega
  have V1 : Hid (nodeV (10 + o % 4) [] [a, b] = (x, e)) := by show _ = _; rw [node_two hop, hx]
  have V2 : Hid (nodeV (10 + o % 4) [] [b, a] = (x, e)) := by show _ = _; rw [node_two hop, join_comm, hx]
  have hee : (e == e) = true := by simp
  have HSA : Hid (SmallL [a] ∧ SmallL [a, b] ∧ SmallL [b, a]) := ⟨sl_one h100 NA, sl_two h100 NA g100 NB, sl_two g100 NB h100 NA⟩
  have HSN : Hid (SmallN (10 + o % 4, [], []) ∧ SmallN (41, [], []) ∧ SmallN (20, [], [])) := ⟨sn_mk (by omega) (by decide) w64_nil, sn_mk (by omega) (by decide) w64_nil, sn_mk (by omega) (by decide) w64_nil⟩
  have HCC : Hid ((a.length ≤ c ∧ c ≤ 9223372036854775807) ∧ b.length ≤ d ∧ d ≤ 9223372036854775807) := ⟨hc, hd⟩
  obtain ⟨t, ht⟩ : ∃ t : List Int, t = [] := ⟨_, rfl⟩
  have V3 : Hid (nodeV 41 [] [a] = (t, 20)) := by show _ = _; rw [node_turn, if_neg (by rw [ho]; simp), ht]
  have V4 : Hid (nodeV 41 [] [t] = (t, 0)) := by show _ = _; rw [ht]; decide +kernel
  have V5 : Hid (nodeV 20 [] [a] = (t, 20)) := by show _ = _; rw [node_neg, if_neg (by rw [ho]; simp), ht]
  have HST : Hid (SmallL [t]) := by show SmallL [t]; rw [ht]; exact sl_one (by decide) w64_nil
  have HCK : Hid (∀ V, Kp W V → Calls Try.prog 18 #[.slice A a.length c] V fun e w' => e = .returned (.bool false) ∧ V = w') := fun V k => check_n a (R.kp k) rfl ho
  have HRA := Lib.hid R
  have HRB := Lib.hid S
  clear C R S hc hd NA NB ho hop hx ht h100 g100
  go_enter Try.func5, Try.ntmps5
  go_wp2_with fail
  refine (HAW.out _).mono ?_; rintro e0 w1 ⟨rfl, k1⟩
  have K2 : Hid (Kp W (w1.alloc (.cells #[.int .i64 (10 + o % 4), .slice none 0 0, .slice none 0 0] 25))) := gal k1 _
  have F2 : Hid (Nb (w1.alloc (.cells #[.int .i64 (10 + o % 4), .slice none 0 0, .slice none 0 0] 25)) w1.heap.size (10 + o % 4) none 0 0 none 0 0) := Nb.new rfl
  have RA := Lib.hid (HRA.out.kp K2.out)
  have RB := Lib.hid (HRB.out.kp K2.out)
  have HG3 : Hid (RdL ((w1.alloc (.cells #[.int .i64 (10 + o % 4), .slice none 0 0, .slice none 0 0] 25)).alloc (.cells #[.slice A a.length c, .slice B b.length d] 23)) (some ⟨w1.heap.size + 1, 0, none⟩) [a, b]) := by
    have h := rdl_lit2 RA.out HCC.out.1 RB.out HCC.out.2 23
    rw [World.size_alloc] at h
    exact h
  clear k1 HRA HRB
  go_wp2_with fail
  refine (HC.out.node0 (10 + o % 4) [] none _ 0 0 2 2 x.length [a, b] (x, e) _ (Rd.nil _ _) (by decide) HSN.out.1 HG3.out (by show 2 ≤ 2 ∧ _; omega) HSA.out.2.1 rfl rfl V1.out rfl).mono ?_; rintro e0 w3 ⟨A3, c3, rfl, r3, l3, k3⟩
  have M3 := Lib.hid (Kp.tr (Kp.alloc_ _ _) k3)
  have K3 := Lib.hid (K2.out.tr M3.out)
  have RA := Lib.hid (RA.out.kp M3.out)
  have RB := Lib.hid (RB.out.kp M3.out)
  have F2 := Lib.hid (F2.out.kp M3.out)
  clear k3
  have p0 := F2.out.c0
  have p1 := F2.out.c1
  have p2 := F2.out.c2
  go_wp2_with fail
  refine (HC.out.node0 (10 + o % 4) [] none _ 0 0 2 2 x.length [b, a] (x, e) _ (Rd.nil _ _) (by decide) HSN.out.1 (rdl_lit2 RB.out HCC.out.2 RA.out HCC.out.1 _) (by show 2 ≤ 2 ∧ _; omega) HSA.out.2.2 rfl rfl V2.out rfl).mono ?_; rintro e0 w4 ⟨A4, c4, rfl, r4, l4, k4⟩
  have M4 := Lib.hid (Kp.tr (Kp.alloc_ _ _) k4)
  have K4 := Lib.hid (K3.out.tr M4.out)
  have RA := Lib.hid (RA.out.kp M4.out)
  have r3 := Lib.hid (r3.out.kp M4.out)
  clear k4
  clear RB F2 p0 p1 p2
  go_wp2_with fail
  refine (HC.out.node0 41 [] none _ 0 0 1 1 t.length [a] (t, 20) _ (Rd.nil _ _) (by decide) HSN.out.2.1 (rdl_lit1 RA.out HCC.out.1 _) (by show 1 ≤ 1 ∧ _; omega) HSA.out.1 rfl rfl V3.out rfl).mono ?_; rintro e0 w5 ⟨A5, c5, rfl, r5, l5, k5⟩
  have M5 := Lib.hid (Kp.tr (Kp.alloc_ _ _) k5)
  have K5 := Lib.hid (K4.out.tr M5.out)
  have RA := Lib.hid (RA.out.kp M5.out)
  have r3 := Lib.hid (r3.out.kp M5.out)
  have r4 := Lib.hid (r4.out.kp M5.out)
  clear k5
  go_wp2_with fail
  refine (HC.out.node0 41 [] none _ 0 0 1 1 t.length [t] (t, 0) _ (Rd.nil _ _) (by decide) HSN.out.2.1 (rdl_lit1 r5.out l5.out _) (by show 1 ≤ 1 ∧ _; omega) HST.out rfl rfl V4.out rfl).mono ?_; rintro e0 w6 ⟨A6, c6, rfl, r6, l6, k6⟩
  have M6 := Lib.hid (Kp.tr (Kp.alloc_ _ _) k6)
  have K6 := Lib.hid (K5.out.tr M6.out)
  have RA := Lib.hid (RA.out.kp M6.out)
  have r3 := Lib.hid (r3.out.kp M6.out)
  have r4 := Lib.hid (r4.out.kp M6.out)
  clear k6
  go_wp2_with fail
  refine (HC.out.node0 20 [] none _ 0 0 1 1 t.length [a] (t, 20) _ (Rd.nil _ _) (by decide) HSN.out.2.2 (rdl_lit1 RA.out HCC.out.1 _) (by show 1 ≤ 1 ∧ _; omega) HSA.out.1 rfl rfl V5.out rfl).mono ?_; rintro e0 w7 ⟨A7, c7, rfl, r7, l7, k7⟩
  have M7 := Lib.hid (Kp.tr (Kp.alloc_ _ _) k7)
  have K7 := Lib.hid (K6.out.tr M7.out)
  have RA := Lib.hid (RA.out.kp M7.out)
  have r3 := Lib.hid (r3.out.kp M7.out)
  have r4 := Lib.hid (r4.out.kp M7.out)
  have r6 := Lib.hid (r6.out.kp M7.out)
  clear k7
  go_wp2_with fail
  refine (HCK.out _ K7.out).mono ?_; rintro e0 w8 ⟨rfl, rfl⟩
  go_wp2_with fail
  refine (same_g x x r3.out r4.out rfl rfl (r := true) (by simp)).mono ?_; rintro e0 w9 ⟨rfl, k9⟩
  have K9 := Lib.hid (K7.out.tr k9)
  clear k9
  go_wp2
  go_ret
  exact ⟨rfl, K9.out⟩
theorem iturns_walk (C : InC) (A B : Option Addr) (c d : Nat) (a b : List Int) (o : Int) (W : World) (R : Rd W A a) (S : Rd W B b) (hc : a.length ≤ c ∧ c ≤ 9223372036854775807) (hd : b.length ≤ d ∧ d ≤ 9223372036854775807) (NA : W64 a) (NB : W64 b) (o0 : 0 ≤ o) (o1 : o ≤ 255) :
    Calls Try.prog 5 #[.slice A a.length c, .slice B b.length d, .int .u8 o] W fun e w' => e = .returned (.bool true) ∧ Below W.heap.size W w' := by
  have HAW : Hid (∀ V, Calls Try.prog 8 #[] V fun e w' => e = .returned (.bool true) ∧ Kp V w') := fun V => inawake_any C V
  by_cases h1 : 100 < a.length
  · obtain ⟨n, hn⟩ : ∃ n, n = a.length := ⟨_, rfl⟩
    rw [← hn] at h1 hc ⊢
    have i1 : (100 : Int) < (n : Int) := by omega
    have hnn : n ≤ 9223372036854775807 := by omega
    clear hn h1 R S NA NB C
    go_enter Try.func5, Try.ntmps5
    go_wp2_with fail
    refine (HAW.out _).mono ?_; rintro e0 w1 ⟨rfl, k1⟩
    have K1 := Lib.hid k1
    clear k1
    go_wp2
    go_ret
    exact ⟨rfl, K1.out⟩
  · by_cases h2 : 100 < b.length
    · obtain ⟨n, hn⟩ : ∃ n, n = b.length := ⟨_, rfl⟩
      rw [← hn] at h2 hd ⊢
      have i1 : ¬ (100 : Int) < (a.length : Int) := by omega
      have i2 : (100 : Int) < (n : Int) := by omega
      have hnn : n ≤ 9223372036854775807 := by omega
      clear hn h1 h2 R S NA NB C
      go_enter Try.func5, Try.ntmps5
      go_wp2_with fail
      refine (HAW.out _).mono ?_; rintro e0 w1 ⟨rfl, k1⟩
      have K1 := Lib.hid k1
      clear k1
      go_wp2
      go_ret
      exact ⟨rfl, K1.out⟩
    · cases ho : okS a with
      | true => exact iturns_true C A B c d a b o W R S (by omega) (by omega) hc hd NA NB o0 o1 ho
      | false => exact iturns_false C A B c d a b o W R S (by omega) (by omega) hc hd NA NB o0 o1 ho
end Go.Proofs.Ytnkkkpanlnencaa
