/- EvalOther, over the contracts of the calls. -/
import Derived.Test.YtdbncanedokinaaGreatEvNames
import Derived.Deep.RegionHeld3
import Derived.Deep.RegionWith
namespace Go.Proofs.YtdbncanedokinaaGreat
open Go.RowKit Go.Proofs.ShM Go.Proofs.GrM Go.Proofs.InM Go.Proofs.ImM Go.Proofs.EvM
set_option linter.unusedVariables false
set_option maxRecDepth 100000
set_option linter.unusedSimpArgs false
set_option maxHeartbeats 16000000

/-- A node whose lists lie in blocks of X. -/
theorem vn_x {w : World} {X : Nat → Prop} {P Q : Option Addr} {op : Int} {a b : List Int} {c d : Nat} (h : Rd w P a) (g : Rd w Q b) (x1 : ∀ ad, P = some ad → 0 < a.length → X ad.block) (x2 : ∀ ad, Q = some ad → 0 < b.length → X ad.block) (h1 : a.length ≤ c) (h2 : c ≤ 9223372036854775807) (h3 : b.length ≤ d) (h4 : d ≤ 9223372036854775807) :
    Vn w X (.int .i64 op, .slice P a.length c, .slice Q b.length d) (op, a, b) := ⟨P, c, Q, d, rfl, h1, h2, h3, h4, ⟨h, g, x1, x2⟩⟩
theorem not_new13 {w : World} {n c k : Nat} (hk : k < w.heap.size) (e : (Value.slice (some ⟨w.heap.size, 0, none⟩) n c).ownBlock = some k) : False := by
  have : w.heap.size = k := by simpa [Value.ownBlock] using e
  omega
/-- The three nodes more, as a row. -/
theorem more_row {w : World} {B : Nat} {v : Value} {ts : List Nd} (o : OwnN B w v ts) (x y : Int) :
    RdN ((((w.alloc (.cells #[.int .i64 x, .int .i64 x] 3)).alloc (.cells #[.int .i64 x] 3)).alloc (.cells #[.int .i64 y] 3)).alloc (.cells #[.int .i64 11, .slice (some ⟨w.heap.size, 0, none⟩) 2 2, .slice none 0 0, .int .i64 20, .slice (some ⟨w.heap.size + 1, 0, none⟩) 1 1, .slice none 0 0, .int .i64 20, .slice (some ⟨w.heap.size + 1 + 1, 0, none⟩) 1 1, .slice none 0 0] 39))
      (fun k => v.ownBlock ≠ some k) (some ⟨w.heap.size + 1 + 1 + 1, 0, none⟩) [(11, [x, x], ([] : List Int)), (20, [x], []), (20, [y], [])] := by
  have hx : ∀ k, w.heap.size ≤ k → v.ownBlock ≠ some k := fun k hk e => by have := o.row_lt e; omega
  have r1 : Rd (w.alloc (.cells #[.int .i64 x, .int .i64 x] 3)) (some ⟨w.heap.size, 0, none⟩) [x, x] := Rd.two w x x _
  have r2 : Rd ((w.alloc (.cells #[.int .i64 x, .int .i64 x] 3)).alloc (.cells #[.int .i64 x] 3)) (some ⟨w.heap.size + 1, 0, none⟩) [x] := by
    have h := Rd.one (w.alloc (.cells #[.int .i64 x, .int .i64 x] 3)) x 3
    rwa [World.size_alloc] at h
  have r3 : Rd (((w.alloc (.cells #[.int .i64 x, .int .i64 x] 3)).alloc (.cells #[.int .i64 x] 3)).alloc (.cells #[.int .i64 y] 3)) (some ⟨w.heap.size + 1 + 1, 0, none⟩) [y] := by
    have h := Rd.one ((w.alloc (.cells #[.int .i64 x, .int .i64 x] 3)).alloc (.cells #[.int .i64 x] 3)) y 3
    rwa [World.size_alloc, World.size_alloc] at h
  have a3 := AllN.cons (vn_x (X := fun k => v.ownBlock ≠ some k) (op := 20) (c := 1) (d := 0) r3 (Rd.nil _ none) (fun ad e _ => by injection e with e; rw [← e]; exact hx _ (by show w.heap.size ≤ w.heap.size + 1 + 1; omega)) (fun ad e _ => by cases e) (by simp) (by decide) (by simp) (by decide)) (AllN.nil_ _ _)
  have a2 := AllN.cons (vn_x (X := fun k => v.ownBlock ≠ some k) (op := 20) (c := 1) (d := 0) (r2.alloc_ (.cells #[.int .i64 y] 3)) (Rd.nil _ none) (fun ad e _ => by injection e with e; rw [← e]; exact hx _ (by show w.heap.size ≤ w.heap.size + 1; omega)) (fun ad e _ => by cases e) (by simp) (by decide) (by simp) (by decide)) a3
  have a1 := AllN.cons (vn_x (X := fun k => v.ownBlock ≠ some k) (op := 11) (c := 2) (d := 0) ((r1.alloc_ (.cells #[.int .i64 x] 3)).alloc_ (.cells #[.int .i64 y] 3)) (Rd.nil _ none) (fun ad e _ => by injection e with e; rw [← e]; exact hx _ (Nat.le_refl _)) (fun ad e _ => by cases e) (by simp) (by decide) (by simp) (by decide)) a2
  have h := RdN.lit a1 (by simp) 39
  rw [World.size_alloc, World.size_alloc, World.size_alloc] at h
  exact h
theorem small_more {l : List Nd} (h : SmallG l) (h1 : 1 ≤ l.length) (hl : l.length ≤ 20) : SmallG (moreN l) := by
  have e : ∀ x : Int, 0 ≤ x → x ≤ 30 → -9223372036854775808 ≤ x ∧ x ≤ 9223372036854775807 := fun x h1 h2 => by omega
  refine ⟨by unfold moreN; simp; omega, fun t ht => ?_⟩
  unfold moreN at ht
  rcases List.mem_append.1 ht with ht | ht
  · exact h.2 t ht
  · simp at ht
    rcases ht with rfl | rfl | rfl <;> refine ⟨by simp, by simp, ?_, ?_, ?_⟩ <;> intro x hx <;> simp at hx <;> omega
theorem eother_far (HW : ∀ w : World, Calls Tryz.prog 7 #[] w fun e w' => e = .returned (.bool true) ∧ Kp w w') (A P Q R : Option Addr) (c n a b e f k d : Nat) (w : World) (hn : n ≤ 9223372036854775807)
    (h : FewL A c n w false ∨ FewL A c n w true ∧ (FewE P Q R a b e f k d w false ∨ FewE P Q R a b e f k d w true ∧ (20 < n ∨ n = 0))) :
    Calls Tryz.prog 6 #[.slice A n c, .agg #[.slice P a e, .slice Q b f], .slice R k d] w fun e w' => e = .returned (.bool true) ∧ Kp w w' := by
  have HAW := Lib.hid HW
  clear HW
  have F5 : Hid (Bk (w.alloc (.cells #[.slice P a e, .slice Q b f] 25)) w.heap.size P a e Q b f) := Bk.new rfl
  have K0 : Hid (Kp w (w.alloc (.cells #[.slice P a e, .slice Q b f] 25))) := Kp.alloc_ _ _
  rcases h with h | ⟨h, h2 | ⟨h2, h3⟩⟩
  · have H := Lib.hid h
    clear h
    go_enter Tryz.func6, Tryz.ntmps6
    go_wp2_with fail
    refine (HAW.out _).mono ?_; rintro e0 w1 ⟨rfl, k1⟩
    have K1 := Lib.hid (K0.out.tr k1)
    have F5 := Lib.hid (F5.out.kp k1)
    have p0 := F5.out.c0
    have p1 := F5.out.c1
    clear k1
    go_wp2_with fail
    refine (H.out _ K1.out).mono ?_; rintro e0 w2 ⟨rfl, rfl⟩
    go_wp2
    go_ret
    exact ⟨rfl, K1.out⟩
  · have H := Lib.hid h
    have H2 := Lib.hid h2
    clear h h2
    go_enter Tryz.func6, Tryz.ntmps6
    go_wp2_with fail
    refine (HAW.out _).mono ?_; rintro e0 w1 ⟨rfl, k1⟩
    have K1 := Lib.hid (K0.out.tr k1)
    have F5 := Lib.hid (F5.out.kp k1)
    have p0 := F5.out.c0
    have p1 := F5.out.c1
    clear k1
    go_wp2_with fail
    refine (H.out _ K1.out).mono ?_; rintro e0 w2 ⟨rfl, rfl⟩
    go_wp2_with fail
    refine (H2.out _ K1.out).mono ?_; rintro e0 w2 ⟨rfl, k2⟩
    have K2 := Lib.hid (K1.out.tr k2)
    clear k2 p0 p1
    go_wp2
    go_ret
    exact ⟨rfl, K2.out⟩
  · have H := Lib.hid h
    have H2 := Lib.hid h2
    clear h h2
    rcases h3 with h3 | h3
    · have g1 : (20 : Int) < (n : Int) := by omega
      clear h3
      go_enter Tryz.func6, Tryz.ntmps6
      go_wp2_with fail
      refine (HAW.out _).mono ?_; rintro e0 w1 ⟨rfl, k1⟩
      have K1 := Lib.hid (K0.out.tr k1)
      have F5 := Lib.hid (F5.out.kp k1)
      have p0 := F5.out.c0
      have p1 := F5.out.c1
      clear k1
      go_wp2_with fail
      refine (H.out _ K1.out).mono ?_; rintro e0 w2 ⟨rfl, rfl⟩
      go_wp2_with fail
      refine (H2.out _ K1.out).mono ?_; rintro e0 w2 ⟨rfl, k2⟩
      have K2 := Lib.hid (K1.out.tr k2)
      clear k2 p0 p1
      go_wp2
      go_ret
      exact ⟨rfl, K2.out⟩
    · have g1 : ¬ (20 : Int) < (n : Int) := by omega
      have g2 : ((n : Int) == 0) = true := by rw [beq_iff_eq]; omega
      clear h3
      go_enter Tryz.func6, Tryz.ntmps6
      go_wp2_with fail
      refine (HAW.out _).mono ?_; rintro e0 w1 ⟨rfl, k1⟩
      have K1 := Lib.hid (K0.out.tr k1)
      have F5 := Lib.hid (F5.out.kp k1)
      have p0 := F5.out.c0
      have p1 := F5.out.c1
      clear k1
      go_wp2_with fail
      refine (H.out _ K1.out).mono ?_; rintro e0 w2 ⟨rfl, rfl⟩
      go_wp2_with fail
      refine (H2.out _ K1.out).mono ?_; rintro e0 w2 ⟨rfl, k2⟩
      have K2 := Lib.hid (K1.out.tr k2)
      clear k2 p0 p1
      go_wp2
      go_ret
      exact ⟨rfl, K2.out⟩

theorem eother_main (C : EvC) (A P Q R : Option Addr) (c e f d : Nat) (l : List Nd) (t : T) (ps : List T) (w : World) (RL : RdG w A l) (L : l.length ≤ c) (M : c ≤ 9223372036854775807) (hS : SmallG l) (hf : fewN l = true) (hl1 : 1 ≤ l.length) (hl20 : l.length ≤ 20)
    (RT : TRc w P e Q f t) (ST : SmT t) (RP : RdT w R ps) (SP : SmTs ps) (LP : ps.length ≤ d ∧ d ≤ 9223372036854775807) (h1 : fewE t ps = true) :
    Calls Tryz.prog 6 #[.slice A l.length c, .agg #[.slice P t.1.length e, .slice Q t.2.length f], .slice R ps.length d] w fun e w' => e = .returned (.bool true) ∧ Kp w w' := by
  have HAW := Lib.hid (evawake_any C)
  have HFL := Lib.hid (few_l (c := c) RL hf)
  have HF1 := Lib.hid (few_e RT RP (d := d) h1)
  obtain ⟨v, at_, err, hv⟩ : ∃ v at_ err, allE l t ps = (v, at_, err) := ⟨_, _, _, rfl⟩
  obtain ⟨v2, at2, err2, hv2⟩ : ∃ v at_ err, allE (moreN l) t ps = (v, at_, err) := ⟨_, _, _, rfl⟩
  have HM := all_more t ps hl1 hl20
  rw [hv, hv2] at HM
  have hsm := small_more hS hl1 hl20
  have hml : (moreN l).length = l.length + 3 := by unfold moreN; simp
  have HA1 : Hid (∀ W, Kp w W → Calls Tryz.prog 10 #[.slice A l.length c, .agg #[.slice P t.1.length e, .slice Q t.2.length f], .slice R ps.length d] W (RetVs v at_ err v.length W)) := fun W k =>
    C.all A P Q R c l.length t.1.length t.2.length e f ps.length d l t ps v at_ err v.length W (RL.kp k) L M hS rfl (RT.kp k) ST rfl rfl (RP.kp k) LP.1 LP.2 SP rfl hv rfl
  have HA2 : Hid (∀ W E g z m, Kp w W → z = moreN l → m = z.length → RdG W E z → z.length ≤ g ∧ g ≤ 9223372036854775807 → Calls Tryz.prog 10 #[.slice E m g, .agg #[.slice P t.1.length e, .slice Q t.2.length f], .slice R ps.length d] W (RetVs v2 at2 err2 v2.length W)) := fun W E g z m k hz hm hE hg => by
    subst hz
    exact C.all E P Q R g m t.1.length t.2.length e f ps.length d (moreN l) t ps v2 at2 err2 v2.length W hE hg.1 hg.2 hsm hm (RT.kp k) ST rfl rfl (RP.kp k) LP.1 LP.2 SP rfl hv2 rfl
  obtain ⟨p, hp⟩ : ∃ p, p = l.length := ⟨_, rfl⟩
  obtain ⟨m, hm⟩ : ∃ m, m + 1 = p := ⟨p - 1, by omega⟩
  have HMN : Hid (moreN l = l ++ [(11, [(m : Int), (m : Int)], []), (20, [(m : Int)], []), (20, [(p : Int) + 1], [])]) := by
    show _ = _
    unfold moreN
    rw [← hp, show (p : Int) - 1 = (m : Int) by omega]
  have HPL := Lib.hid hp
  have HRL := Lib.hid RL
  rw [← hp] at HFL HA1 HM ⊢
  obtain ⟨a, ha⟩ : ∃ a, a = t.1.length := ⟨_, rfl⟩
  obtain ⟨b, hb⟩ : ∃ b, b = t.2.length := ⟨_, rfl⟩
  obtain ⟨k, hk⟩ : ∃ k, k = ps.length := ⟨_, rfl⟩
  rw [← ha, ← hb, ← hk] at HF1 HA1 HA2 ⊢
  have HMM := Lib.hid HM
  have hp20 : p ≤ 20 := by omega
  have hp1 : 1 ≤ p := by omega
  have i1 : ¬ (20 : Int) < (p : Int) := by omega
  have i2 : ((p : Int) == 0) = false := by rw [beq_eq_false_iff_ne]; omega
  have i3 : IntKind.i64.wrap ((p : Int) - 1) = (m : Int) := by rw [IntKind.wrap_i64]; omega
  have i4 : IntKind.i64.wrap ((p : Int) + 1) = (p : Int) + 1 := by rw [IntKind.wrap_i64]; omega
  have HI := Lib.hid (And.intro hm (And.intro hp1 hp20))
  have F5 : Hid (Bk (w.alloc (.cells #[.slice P a e, .slice Q b f] 25)) w.heap.size P a e Q b f) := Bk.new rfl
  have K0 : Hid (Kp w (w.alloc (.cells #[.slice P a e, .slice Q b f] 25))) := Kp.alloc_ _ _
  clear C RL L M hS hf hl1 hl20 RT ST RP SP LP h1 hv hv2 HM hsm hml hp hm ha hb hk hp1
  go_enter Tryz.func6, Tryz.ntmps6
  go_wp2_with fail
  refine (HAW.out _).mono ?_; rintro e0 w1 ⟨rfl, k_⟩
  have K := Lib.hid (K0.out.tr k_)
  have F5 := Lib.hid (F5.out.kp k_)
  have p0 := F5.out.c0
  have p1 := F5.out.c1
  clear k_
  go_wp2_with fail
  refine (HFL.out _ K.out).mono ?_; rintro e0 w2 ⟨rfl, rfl⟩
  go_wp2_with fail
  refine (HF1.out _ K.out).mono ?_; rintro e0 w3 ⟨rfl, k_⟩
  have K := Lib.hid (K.out.tr k_)
  have F5 := Lib.hid (F5.out.kp k_)
  have OB := Lib.hid (OwnN.zero w3 (Nat.le_refl _))
  have hR0 : Hid (RdN (w3.alloc (.cells #[] 39)) (fun k => (Value.slice (some ⟨w3.heap.size, 0, none⟩) 0 0).ownBlock ≠ some k) A l) := (HRL.out.kp K.out).old.mono (Kp.alloc_ _ _) (fun k hk _ e => not_new13 hk e)
  have hll : Hid (l.length ≤ 100) := by show _ ≤ _; rw [← HPL.out]; omega
  clear k_ p0 p1
  go_wp2_with (first
    | (at_builtin; (refine wpList_appN (B := w3.heap.size) rfl (.tmp 40) (.tmp 41) rfl _ [] rfl OB.out A c l _ rfl HPL.out hR0.out (by have := hll.out; simp; omega) (by simp) ?_; intro zz A1 c1 w4 HZ o4 b4 _; have O4 := Lib.hid o4; have K4 : Hid (Kp w3 w4) := (Kp.alloc_ _ _).trans b4; have HROW := Lib.hid (more_row O4.out (m : Int) ((p : Int) + 1)); have KR : Hid (Kp w4 ((((w4.alloc (.cells #[.int .i64 (m : Int), .int .i64 (m : Int)] 3)).alloc (.cells #[.int .i64 (m : Int)] 3)).alloc (.cells #[.int .i64 ((p : Int) + 1)] 3)).alloc (.cells #[.int .i64 11, .slice (some ⟨w4.heap.size, 0, none⟩) 2 2, .slice none 0 0, .int .i64 20, .slice (some ⟨w4.heap.size + 1, 0, none⟩) 1 1, .slice none 0 0, .int .i64 20, .slice (some ⟨w4.heap.size + 1 + 1, 0, none⟩) 1 1, .slice none 0 0] 39))) := gal (gal (gal (Kp.alloc_ _ _) _) _) _; have O5 := Lib.hid (O4.out.kp KR.out); have HZL : Hid (zz.length ≤ 100) := (by show _ ≤ _; rw [HZ.out]; exact hll.out); clear o4 b4))
    | (at_builtin; refine wpList_appN (B := w3.heap.size) rfl (.tmp 42) (.tmp 57) rfl _ zz rfl O5.out _ 3 [(11, [(m : Int), (m : Int)], []), (20, [(m : Int)], []), (20, [(p : Int) + 1], [])] 3 rfl rfl HROW.out (by have := HZL.out; simp; omega) (by have h1 := K4.out.size; have h2 := KR.out.size; omega) ?_; intro z2 A2 c2 w5 HZ2 o5 b5 _; have O6 := Lib.hid o5; have K5 : Hid (Kp w3 w5) := (K4.out.tr KR.out).trans b5; have F6 := Lib.hid (F5.out.kp K5.out); have p0 := F6.out.c0; have p1 := F6.out.c1; clear o5 b5))
  refine (HA1.out _ (K.out.tr K5.out)).mono ?_; rintro e0 w6 ⟨E6, c6, rfl, r6, l6, k_⟩
  have K6 := Lib.hid (K5.out.tr k_)
  have F6 := Lib.hid (F6.out.kp k_)
  have p0 := F6.out.c0
  have p1 := F6.out.c1
  have N6 := Lib.hid (n_of_own (O6.out.kp k_))
  clear k_
  go_wp2_with fail
  refine (HA2.out _ _ _ z2 _ (K.out.tr K6.out) (by rw [HMN.out, HZ2.out, HZ.out]; rfl) rfl N6.out.1 N6.out.2).mono ?_; rintro e0 w7 ⟨E7, c7, rfl, r7, l7, k_⟩
  have K7 := Lib.hid ((K.out.tr K6.out).tr k_)
  have r6 := Lib.hid (r6.out.kp k_)
  clear k_ p0 p1
  have qq : ∀ x : Int, (x == x) = true := fun x => by simp
  rcases HMM.out with ⟨i, er, j, e1, e2, e3⟩ | ⟨tt, e1, e2, e3⟩
  · injection e1 with e1 e4
    injection e4 with e4 e5
    injection e3 with e3 e6
    injection e6 with e6 e7
    subst e1 e4 e5 e3 e6 e7
    have g1 : (err2 != 0) = true := by simpa using e2
    have g2 : (err2 == 0) = false := by simpa using e2
    have g3 := qq err2
    clear e2 qq
    go_wp2
    go_ret
    exact ⟨rfl, K7.out⟩
  · injection e1 with e1 e4
    injection e4 with e4 e5
    subst e1 e4 e5
    rcases e3 with ⟨j, er, e3, e4⟩ | ⟨z, n, e3, hz⟩
    · injection e3 with e3 e6
      injection e6 with e6 e7
      subst e3 e6 e7
      have g1 : (err2 != 0) = true := by simpa using e4
      clear e4 qq
      go_wp2
      go_ret
      exact ⟨rfl, K7.out⟩
    · injection e3 with e3 e6
      injection e6 with e6 e7
      subst e6 e7
      obtain ⟨x, hx⟩ : ∃ x, x = v.getD (p - 1) eT := ⟨_, rfl⟩
      rw [← hx] at e3 hz
      have hv1 : v[m]? = some x := by
        have hlt : m < v.length := by have := HI.out; omega
        rw [hx, List.getD_eq_getElem?_getD, show p - 1 = m by have := HI.out; omega, List.getElem?_eq_getElem hlt]; rfl
      have hw0 : v2[p]? = some z := by rw [e3, List.getElem?_append_right (by omega), e2, Nat.sub_self]; rfl
      have hw2 : v2[p + 2]? = some x := by rw [e3, List.getElem?_append_right (by omega), e2, show p + 2 - p = 2 by omega]; rfl
      have hwl : v2.length = p + 3 := by rw [e3, List.length_append, e2]; rfl
      obtain ⟨ad, P0, d0, Q0, f0, hE6, hb0, a1, a2, ra⟩ := rd_two_cells r6.out hv1
      obtain ⟨ae, P1, d1, Q1, f1, hE7, hb1, b1, b2, rb⟩ := rd_two_cells r7.out hw0
      obtain ⟨ae', P2, d2, Q2, f2, hE7', _, c1', c2', rc⟩ := rd_two_cells r7.out hw2
      subst hE6 hE7
      injection hE7' with hE7'
      subst hE7'
      have hzl : z.2.length = x.2.length := by rw [hz, List.length_replicate]
      have HZZ := Lib.hid hz
      have RB := Lib.hid rb
      have RA := Lib.hid ra
      have RC := Lib.hid rc
      have g1 : ((v.length : Int) != (p : Int)) = false := by rw [bne, e2]; simp
      have g2 : IntKind.i64.wrap ((p : Int) + 3) = (p : Int) + 3 := by rw [IntKind.wrap_i64]; omega
      have g3 : ((v2.length : Int) != (p : Int) + 3) = false := by rw [bne, hwl]; simp
      have g4 : (p : Int) < (v2.length : Int) := by omega
      have g5 : IntKind.i64.wrap ((p : Int) + 2) = ((p + 2 : Nat) : Int) := by rw [IntKind.wrap_i64]; omega
      have g6 : ((p + 2 : Nat) : Int) < (v2.length : Int) := by omega
      have g7 : (m : Int) < (v.length : Int) := by have := HI.out; omega
      obtain ⟨n1, hn1⟩ : ∃ n, n = z.2.length := ⟨_, rfl⟩
      obtain ⟨x1, hx1⟩ : ∃ n, n = x.1.length := ⟨_, rfl⟩
      obtain ⟨x2, hx2⟩ : ∃ n, n = x.2.length := ⟨_, rfl⟩
      obtain ⟨s1, hs1⟩ : ∃ n, n = z.1.length := ⟨_, rfl⟩
      obtain ⟨nv, hnv⟩ : ∃ n, n = v.length := ⟨_, rfl⟩
      obtain ⟨nw, hnw⟩ : ∃ n, n = v2.length := ⟨_, rfl⟩
      obtain ⟨pp, hpp⟩ : ∃ n, n = p + 2 := ⟨_, rfl⟩
      rw [← hnv] at g1 g7
      rw [← hnw] at g3 g4 g6
      rw [← hpp] at g5 g6 c1' c2'
      rw [← hs1] at b1
      rw [← hn1] at b2 hzl
      rw [← hx1] at a1 c1'
      rw [← hx2] at a2 c2' hzl
      have HN1 := Lib.hid hn1
      have HX := Lib.hid (And.intro hx1 hx2)
      have g8 : ((x2 : Int) == (x2 : Int)) = true := by simp
      have hpnv : Hid (nv ≤ 9223372036854775807 ∧ nw ≤ 9223372036854775807) := ⟨by rw [hnv]; omega, by rw [hnw]; omega⟩
      have hn1b : n1 ≤ 9223372036854775807 := by rw [hn1]; exact rb.r.d.len
      rw [← hnv, ← hnw]
      clear hv1 hw0 hw2 hwl e3 hz hx ra rb rc hn1 hx1 hx2 hs1 hnv hnw hpp e2 qq
      subst hzl
      go_wp2
      go_loopw [16] (fun i wx => ∃ k : Nat, i = .int .i64 (k : Int) ∧ Hid (k ≤ n1) ∧ wx = w7) (fun i _ => n1 - (intOf i).toNat)
      case atStart => exact ⟨0, rfl, Nat.zero_le _, rfl⟩
      case round =>
        obtain ⟨k, rfl, hk, rfl⟩ := hrel
        by_cases hj : k < n1
        · have hj' : (k : Int) < (n1 : Int) := by omega
          obtain ⟨af, y, rfl, hlt3, hy, hc3⟩ := RB.out.r.d.at_ (show k < z.2.length by rw [← HN1.out]; exact hj)
          have hy0 : y = 0 := by
            rw [HZZ.out, List.getElem?_replicate] at hy
            split at hy
            · injection hy with hy; exact hy.symm
            · cases hy
          subst hy0
          clear hy
          go_wp2
          go_roundw
          case rel => exact ⟨k + 1, by go_num, (by show k + 1 ≤ n1; omega), (by first | rfl | trivial)⟩
          case measure => simp [intOf]; omega
        · have hj' : ¬ (k : Int) < (n1 : Int) := by omega
          have HQ6 : Hid (∀ V, Kp wr V → V.cell? (ae.add (pp * 2)) = some (.slice P2 x1 d2) ∧ V.cell? ⟨(ae.add (pp * 2)).block, (ae.add (pp * 2)).off + 1, none⟩ = some (.slice Q2 n1 f2) ∧ V.cell? (ad.add (m * 2)) = some (.slice P0 x1 d0) ∧ V.cell? ⟨(ad.add (m * 2)).block, (ad.add (m * 2)).off + 1, none⟩ = some (.slice Q0 n1 f0) ∧ V.cell? ⟨(ae.add (p * 2)).block, (ae.add (p * 2)).off + 1, none⟩ = some (.slice Q1 n1 f1)) := fun V kV =>
            ⟨(kV.cell (by rw [block_of_add]; exact hb1)).trans c1', (kV.cell (by rw [block_of_add]; exact hb1)).trans c2', (kV.cell (by rw [block_of_add]; exact hb0)).trans a1, (kV.cell (by rw [block_of_add]; exact hb0)).trans a2, (kV.cell (by rw [block_of_add]; exact hb1)).trans b2⟩
          have HSM : Hid (Calls Tryz.prog 15 #[.agg #[.slice P2 x1 d2, .slice Q2 n1 f2], .agg #[.slice P0 x1 d0, .slice Q0 n1 f0]] wr.drew fun e w' => e = .returned (.bool true) ∧ Kp wr.drew w') := tsame_u (RC.out.kp (Kp.drewN_ wr 1)).r (RA.out.kp (Kp.drewN_ wr 1)).r HX.out.1.symm HX.out.2.symm
          have s0 := HQ6.out _ (Kp.drewN_ wr 1)
          clear hj hk
          go_wp2_with fail
          refine wp_region_held_drew (S := fun V => V.cell? (ae.add (pp * 2)) = some (.slice P2 x1 d2) ∧ V.cell? ⟨(ae.add (pp * 2)).block, (ae.add (pp * 2)).off + 1, none⟩ = some (.slice Q2 n1 f2) ∧ V.cell? (ad.add (m * 2)) = some (.slice P0 x1 d0) ∧ V.cell? ⟨(ad.add (m * 2)).block, (ad.add (m * 2)).off + 1, none⟩ = some (.slice Q0 n1 f0) ∧ V.cell? ⟨(ae.add (p * 2)).block, (ae.add (p * 2)).off + 1, none⟩ = some (.slice Q1 n1 f1)) (by kernel_rfl) s0 (fun hHeld => ?_)
          refine wpAnyH_take (i := 0) (v := .bool true) rfl (by kernel_rfl) (by kernel_rfl) (by kernel_rfl) (fun _ _ _ h => h) (Or.inl ⟨by kernel_rfl, fun V hSV => ?_⟩) hHeld ?_
          · (try dsimp only at hSV); go_simp
          try simp only [Act.put, List.setIfInBounds_toArray, List.set_cons_zero, List.set_cons_succ]
          refine wpAnyH_take (i := 1) (v := .bool true) rfl (by kernel_rfl) (by kernel_rfl) (by kernel_rfl) (fun _ _ _ h => h) (Or.inl ⟨by kernel_rfl, fun V hSV => ?_⟩) hHeld ?_
          · (try dsimp only at hSV); go_simp
          try simp only [Act.put, List.setIfInBounds_toArray, List.set_cons_zero, List.set_cons_succ]
          refine wpAnyH_take (i := 2) (v := .slice (some ae) nw c7) rfl (by kernel_rfl) (by kernel_rfl) (by kernel_rfl) (fun _ _ _ h => h) (Or.inl ⟨by kernel_rfl, fun V hSV => ?_⟩) hHeld ?_
          · (try dsimp only at hSV); go_simp
          try simp only [Act.put, List.setIfInBounds_toArray, List.set_cons_zero, List.set_cons_succ]
          refine wpAnyH_take (i := 3) (v := .int .i64 (p : Int)) rfl (by kernel_rfl) (by kernel_rfl) (by kernel_rfl) (fun _ _ _ h => h) (Or.inl ⟨by kernel_rfl, fun V hSV => ?_⟩) hHeld ?_
          · (try dsimp only at hSV); go_simp
          try simp only [Act.put, List.setIfInBounds_toArray, List.set_cons_zero, List.set_cons_succ]
          refine wpAnyH_take (i := 4) (v := .int .i64 (pp : Int)) rfl (by kernel_rfl) (by kernel_rfl) (by kernel_rfl) (fun _ _ _ h => h) (Or.inl ⟨by kernel_rfl, fun V hSV => ?_⟩) hHeld ?_
          · (try dsimp only at hSV); go_simp
          try simp only [Act.put, List.setIfInBounds_toArray, List.set_cons_zero, List.set_cons_succ]
          refine wpAnyH_take (i := 5) (v := .pointer (some (ae.add (pp * 2)))) rfl (by kernel_rfl) (by kernel_rfl) (by kernel_rfl) (fun _ _ _ h => h) (Or.inl ⟨by kernel_rfl, fun V hSV => ?_⟩) hHeld ?_
          · (try dsimp only at hSV); go_simp
          try simp only [Act.put, List.setIfInBounds_toArray, List.set_cons_zero, List.set_cons_succ]
          refine wpAnyH_take (i := 6) (v := .agg #[.slice P2 x1 d2, .slice Q2 n1 f2]) rfl (by kernel_rfl) (by kernel_rfl) (by kernel_rfl) (fun _ _ _ h => h) (Or.inl ⟨by kernel_rfl, fun V hSV => ?_⟩) hHeld ?_
          · (try dsimp only at hSV); go_simp
          try simp only [Act.put, List.setIfInBounds_toArray, List.set_cons_zero, List.set_cons_succ]
          refine wpAnyH_take (i := 7) (v := .slice (some ad) nv c6) rfl (by kernel_rfl) (by kernel_rfl) (by kernel_rfl) (fun _ _ _ h => h) (Or.inl ⟨by kernel_rfl, fun V hSV => ?_⟩) hHeld ?_
          · (try dsimp only at hSV); go_simp
          try simp only [Act.put, List.setIfInBounds_toArray, List.set_cons_zero, List.set_cons_succ]
          refine wpAnyH_take (i := 8) (v := .int .i64 (p : Int)) rfl (by kernel_rfl) (by kernel_rfl) (by kernel_rfl) (fun _ _ _ h => h) (Or.inl ⟨by kernel_rfl, fun V hSV => ?_⟩) hHeld ?_
          · (try dsimp only at hSV); go_simp
          try simp only [Act.put, List.setIfInBounds_toArray, List.set_cons_zero, List.set_cons_succ]
          refine wpAnyH_take (i := 9) (v := .int .i64 (m : Int)) rfl (by kernel_rfl) (by kernel_rfl) (by kernel_rfl) (fun _ _ _ h => h) (Or.inl ⟨by kernel_rfl, fun V hSV => ?_⟩) hHeld ?_
          · (try dsimp only at hSV); go_simp
          try simp only [Act.put, List.setIfInBounds_toArray, List.set_cons_zero, List.set_cons_succ]
          refine wpAnyH_take (i := 10) (v := .pointer (some (ad.add (m * 2)))) rfl (by kernel_rfl) (by kernel_rfl) (by kernel_rfl) (fun _ _ _ h => h) (Or.inl ⟨by kernel_rfl, fun V hSV => ?_⟩) hHeld ?_
          · (try dsimp only at hSV); go_simp
          try simp only [Act.put, List.setIfInBounds_toArray, List.set_cons_zero, List.set_cons_succ]
          refine wpAnyH_take (i := 11) (v := .agg #[.slice P0 x1 d0, .slice Q0 n1 f0]) rfl (by kernel_rfl) (by kernel_rfl) (by kernel_rfl) (fun _ _ _ h => h) (Or.inl ⟨by kernel_rfl, fun V hSV => ?_⟩) hHeld ?_
          · (try dsimp only at hSV); go_simp
          try simp only [Act.put, List.setIfInBounds_toArray, List.set_cons_zero, List.set_cons_succ]
          refine wpAnyH_ready (rs := [12]) (by kernel_rfl) (by simp) ?_
          refine AllReadyH.cons rfl (fun K9_ hK => ?_) AllReadyH.nil
          go_simp
          refine HSM.out.mono ?_; rintro e0 w9 ⟨rfl, k9⟩
          dsimp only
          have K9 : Hid (Kp wr w9) := (Kp.drewN_ wr 1).tr k9
          have hq := HQ6.out _ K9.out
          clear k9
          refine hK.out _ _ ?_ (fun hHeld => ?_)
          · exact hq
          clear hK
          try simp only [Act.put, List.setIfInBounds_toArray, List.set_cons_zero, List.set_cons_succ]
          refine wpAnyH_take (i := 13) (v := .bool true) rfl (by kernel_rfl) (by kernel_rfl) (by kernel_rfl) (fun _ _ _ h => h) (Or.inl ⟨by kernel_rfl, fun V hSV => ?_⟩) hHeld ?_
          · (try dsimp only at hSV); go_simp
          try simp only [Act.put, List.setIfInBounds_toArray, List.set_cons_zero, List.set_cons_succ]
          refine wpAnyH_take (i := 14) (v := .bool true) rfl (by kernel_rfl) (by kernel_rfl) (by kernel_rfl) (fun _ _ _ h => h) (Or.inl ⟨by kernel_rfl, fun V hSV => ?_⟩) hHeld ?_
          · (try dsimp only at hSV); go_simp
          try simp only [Act.put, List.setIfInBounds_toArray, List.set_cons_zero, List.set_cons_succ]
          refine wpAnyH_take (i := 15) (v := .slice (some ae) nw c7) rfl (by kernel_rfl) (by kernel_rfl) (by kernel_rfl) (fun _ _ _ h => h) (Or.inl ⟨by kernel_rfl, fun V hSV => ?_⟩) hHeld ?_
          · (try dsimp only at hSV); go_simp
          try simp only [Act.put, List.setIfInBounds_toArray, List.set_cons_zero, List.set_cons_succ]
          refine wpAnyH_take (i := 16) (v := .int .i64 (p : Int)) rfl (by kernel_rfl) (by kernel_rfl) (by kernel_rfl) (fun _ _ _ h => h) (Or.inl ⟨by kernel_rfl, fun V hSV => ?_⟩) hHeld ?_
          · (try dsimp only at hSV); go_simp
          try simp only [Act.put, List.setIfInBounds_toArray, List.set_cons_zero, List.set_cons_succ]
          refine wpAnyH_take (i := 17) (v := .pointer (some (ae.add (p * 2)))) rfl (by kernel_rfl) (by kernel_rfl) (by kernel_rfl) (fun _ _ _ h => h) (Or.inl ⟨by kernel_rfl, fun V hSV => ?_⟩) hHeld ?_
          · (try dsimp only at hSV); go_simp
          try simp only [Act.put, List.setIfInBounds_toArray, List.set_cons_zero, List.set_cons_succ]
          refine wpAnyH_take (i := 18) (v := .pointer (some ⟨(ae.add (p * 2)).block, (ae.add (p * 2)).off + 1, none⟩)) rfl (by kernel_rfl) (by kernel_rfl) (by kernel_rfl) (fun _ _ _ h => h) (Or.inl ⟨by kernel_rfl, fun V hSV => ?_⟩) hHeld ?_
          · (try dsimp only at hSV); go_simp
          try simp only [Act.put, List.setIfInBounds_toArray, List.set_cons_zero, List.set_cons_succ]
          refine wpAnyH_take (i := 19) (v := .slice Q1 n1 f1) rfl (by kernel_rfl) (by kernel_rfl) (by kernel_rfl) (fun _ _ _ h => h) (Or.inl ⟨by kernel_rfl, fun V hSV => ?_⟩) hHeld ?_
          · (try dsimp only at hSV); go_simp
          try simp only [Act.put, List.setIfInBounds_toArray, List.set_cons_zero, List.set_cons_succ]
          refine wpAnyH_take (i := 20) (v := .int .i64 (n1 : Int)) rfl (by kernel_rfl) (by kernel_rfl) (by kernel_rfl) (fun _ _ _ h => h) (Or.inl ⟨by kernel_rfl, fun V hSV => ?_⟩) hHeld ?_
          · (try dsimp only at hSV); go_simp
          try simp only [Act.put, List.setIfInBounds_toArray, List.set_cons_zero, List.set_cons_succ]
          refine wpAnyH_take (i := 21) (v := .slice (some ad) nv c6) rfl (by kernel_rfl) (by kernel_rfl) (by kernel_rfl) (fun _ _ _ h => h) (Or.inl ⟨by kernel_rfl, fun V hSV => ?_⟩) hHeld ?_
          · (try dsimp only at hSV); go_simp
          try simp only [Act.put, List.setIfInBounds_toArray, List.set_cons_zero, List.set_cons_succ]
          refine wpAnyH_take (i := 22) (v := .int .i64 (p : Int)) rfl (by kernel_rfl) (by kernel_rfl) (by kernel_rfl) (fun _ _ _ h => h) (Or.inl ⟨by kernel_rfl, fun V hSV => ?_⟩) hHeld ?_
          · (try dsimp only at hSV); go_simp
          try simp only [Act.put, List.setIfInBounds_toArray, List.set_cons_zero, List.set_cons_succ]
          refine wpAnyH_take (i := 23) (v := .int .i64 (m : Int)) rfl (by kernel_rfl) (by kernel_rfl) (by kernel_rfl) (fun _ _ _ h => h) (Or.inl ⟨by kernel_rfl, fun V hSV => ?_⟩) hHeld ?_
          · (try dsimp only at hSV); go_simp
          try simp only [Act.put, List.setIfInBounds_toArray, List.set_cons_zero, List.set_cons_succ]
          refine wpAnyH_take (i := 24) (v := .pointer (some (ad.add (m * 2)))) rfl (by kernel_rfl) (by kernel_rfl) (by kernel_rfl) (fun _ _ _ h => h) (Or.inl ⟨by kernel_rfl, fun V hSV => ?_⟩) hHeld ?_
          · (try dsimp only at hSV); go_simp
          try simp only [Act.put, List.setIfInBounds_toArray, List.set_cons_zero, List.set_cons_succ]
          refine wpAnyH_take (i := 25) (v := .pointer (some ⟨(ad.add (m * 2)).block, (ad.add (m * 2)).off + 1, none⟩)) rfl (by kernel_rfl) (by kernel_rfl) (by kernel_rfl) (fun _ _ _ h => h) (Or.inl ⟨by kernel_rfl, fun V hSV => ?_⟩) hHeld ?_
          · (try dsimp only at hSV); go_simp
          try simp only [Act.put, List.setIfInBounds_toArray, List.set_cons_zero, List.set_cons_succ]
          refine wpAnyH_take (i := 26) (v := .slice Q0 n1 f0) rfl (by kernel_rfl) (by kernel_rfl) (by kernel_rfl) (fun _ _ _ h => h) (Or.inl ⟨by kernel_rfl, fun V hSV => ?_⟩) hHeld ?_
          · (try dsimp only at hSV); go_simp
          try simp only [Act.put, List.setIfInBounds_toArray, List.set_cons_zero, List.set_cons_succ]
          refine wpAnyH_take (i := 27) (v := .int .i64 (n1 : Int)) rfl (by kernel_rfl) (by kernel_rfl) (by kernel_rfl) (fun _ _ _ h => h) (Or.inl ⟨by kernel_rfl, fun V hSV => ?_⟩) hHeld ?_
          · (try dsimp only at hSV); go_simp
          try simp only [Act.put, List.setIfInBounds_toArray, List.set_cons_zero, List.set_cons_succ]
          refine wpAnyH_take (i := 28) (v := .bool true) rfl (by kernel_rfl) (by kernel_rfl) (by kernel_rfl) (fun _ _ _ h => h) (Or.inl ⟨by kernel_rfl, fun V hSV => ?_⟩) hHeld ?_
          · (try dsimp only at hSV); go_simp
          try simp only [Act.put, List.setIfInBounds_toArray, List.set_cons_zero, List.set_cons_succ]
          refine wpAnyH_take (i := 29) (v := .bool true) rfl (by kernel_rfl) (by kernel_rfl) (by kernel_rfl) (fun _ _ _ h => h) (Or.inl ⟨by kernel_rfl, fun V hSV => ?_⟩) hHeld ?_
          · (try dsimp only at hSV); go_simp
          try simp only [Act.put, List.setIfInBounds_toArray, List.set_cons_zero, List.set_cons_succ]
          refine wpAnyH_ready (rs := [30]) (by kernel_rfl) (by simp) ?_
          refine AllReadyH.cons rfl (fun K9_ hK => ?_) AllReadyH.nil
          go_simp
          refine hK.out _ _ ?_ (fun hHeld => ?_)
          · exact hq
          clear hK
          try simp only [Act.put, List.setIfInBounds_toArray, List.set_cons_zero, List.set_cons_succ]
          refine wpAnyH_done (by kernel_rfl) ?_ _
          go_wp2
          go_ret
          exact ⟨rfl, K7.out.tr K9.out⟩
theorem eother_walk (C : EvC) (A P Q R : Option Addr) (c e f d : Nat) (l : List Nd) (t : T) (ps : List T) (w : World) (RL : RdG w A l) (N : ∀ t ∈ l, Nd64 t) (L : l.length ≤ c) (M : c ≤ 9223372036854775807)
    (RT : TRc w P e Q f t) (n1 : N64 t.1 ∧ N64 t.2) (RP : RdT w R ps) (NP : ∀ t ∈ ps, N64 t.1 ∧ N64 t.2) (LP : ps.length ≤ d ∧ d ≤ 9223372036854775807) :
    Calls Tryz.prog 6 #[.slice A l.length c, .agg #[.slice P t.1.length e, .slice Q t.2.length f], .slice R ps.length d] w fun e w' => e = .returned (.bool true) ∧ Kp w w' := by
  have hl := RL.len
  cases hf : fewN l with
  | false => exact eother_far (evawake_any C) A P Q R c _ _ _ e f _ d w hl (.inl (few_l RL hf))
  | true =>
  cases h1 : fewE t ps with
  | false => exact eother_far (evawake_any C) A P Q R c _ _ _ e f _ d w hl (.inr ⟨few_l RL hf, .inl (few_e RT RP h1)⟩)
  | true =>
  by_cases hb : 20 < l.length ∨ l.length = 0
  · exact eother_far (evawake_any C) A P Q R c _ _ _ e f _ d w hl (.inr ⟨few_l RL hf, .inr ⟨few_e RT RP h1, hb⟩⟩)
  · exact eother_main C A P Q R c e f d l t ps w RL L M (small_few hf N) hf (by omega) (by omega) RT (sm_t h1 n1.1 n1.2) RP (sm_ts h1 NP) LP h1
end Go.Proofs.YtdbncanedokinaaGreat
