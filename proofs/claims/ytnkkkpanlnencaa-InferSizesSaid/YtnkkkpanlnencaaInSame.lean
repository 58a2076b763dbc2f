/- InferSame, over the contracts of the calls. -/
import Derived.Test.YtnkkkpanlnencaaInCuts
import Derived.Deep.DeepCutAuto
namespace Go.Proofs.Ytnkkkpanlnencaa
open Go.RowKit Go.Proofs.ShM Go.Proofs.GrM Go.Proofs.InM
set_option linter.unusedVariables false
set_option linter.unusedSimpArgs false
set_option maxHeartbeats 8000000

theorem Nb.put2 {W : World} {b n c m d m' d' : Nat} {op : Int} {P Q Q' : Option Addr} (h : Nb W b op P n c Q m d) : Nb (W.setCell ⟨b, 2, none⟩ (.slice Q' m' d')) b op P n c Q' m' d' := by
  obtain ⟨hlt, hk⟩ := Array.getElem?_eq_some_iff.1 h
  show (W.heap.modify b _)[b]? = _
  rw [Array.getElem?_eq_getElem (by rw [Array.size_modify]; exact hlt), Array.getElem_modify_self, hk]
  rfl
theorem Rd.put11 {w : World} {A : Option Addr} {xs : List Int} (h : Rd w A xs) {p : Addr} (hp : ∀ ad, A = some ad → ad.block ≠ p.block) (u : Value) : Rd (w.setCell p u) A xs :=
  ⟨h.1, fun hn => by
    obtain ⟨ad, e, hb, hc⟩ := h.2 hn
    refine ⟨ad, e, by rw [World.size_setCell]; exact hb, fun j x hx => ?_⟩
    rw [World.cell?_setCell_other]
    · exact hc j x hx
    · intro e'
      exact hp ad e (by rw [e', block_of_add])⟩
theorem other_take {l : List Nd} {k : Nat} {t : Nd} (x : Int) (b : Nat) (h : l[k]? = some t) : (l.take (k + 1)).map (otherN x b) = (l.take k).map (otherN x b) ++ [otherN x b t] := by
  rw [take_of h, List.map_append]; rfl
theorem small_other {x : Int} {b : Nat} {l : List Nd} (hx : I64 x) (hc : checkB l = true) (h : SmallG l) : SmallG (l.map (otherN x b)) := by
  refine ⟨by rw [List.length_map]; exact h.1, fun t ht => ?_⟩
  obtain ⟨u, hu, rfl⟩ := List.mem_map.1 ht
  obtain ⟨g1, g2, g3, g4, g5⟩ := h.2 u hu
  obtain ⟨i, hi⟩ := List.mem_iff_getElem?.1 hu
  have hn := (node_iff.1 ((check_iff.1 hc).2.2 i u hi)).2.2.1
  unfold otherN
  split
  · exact ⟨g1, by show 1 ≤ 100; decide, g3, g4, w64_one hx⟩
  · split
    · rename_i h2
      obtain ⟨op, a, nums⟩ := u
      subst h2
      obtain ⟨p, s, e, p0, p1, _⟩ := nums_2 hn
      have e' : nums = p :: s := e
      subst e'
      refine ⟨g1, g2, g3, g4, fun y hy => ?_⟩
      have hy' : y = (p + (b : Int)) % 8 ∨ y ∈ s := by simpa using hy
      rcases hy' with rfl | hy'
      · omega
      · exact g5 y (List.mem_cons_of_mem _ hy')
    · exact ⟨g1, g2, g3, g4, g5⟩
/-- What a row of one node is, of lists that lie elsewhere. -/
theorem node_row_any {B : Nat} {w : World} {v : Value} {ts : List Nd} {op : Int} {P Q : Option Addr} {a b : List Int} {c d : Nat} (ra : Rd w P a) (rn : Rd w Q b) (hc : a.length ≤ c ∧ c ≤ 9223372036854775807) (hd : b.length ≤ d ∧ d ≤ 9223372036854775807) (o : OwnN B w v ts) (xa : ∀ ad, P = some ad → 0 < a.length → v.ownBlock ≠ some ad.block) (xn : ∀ ad, Q = some ad → 0 < b.length → v.ownBlock ≠ some ad.block) :
    RdN (w.alloc (.cells #[.int .i64 op, .slice P a.length c, .slice Q b.length d] 25)) (fun k => v.ownBlock ≠ some k) (some ⟨w.heap.size, 0, none⟩) [(op, a, b)] :=
  RdN.one (X := fun k => v.ownBlock ≠ some k) (t := (op, a, b)) ⟨ra, rn, xa, xn⟩ hc hd 25
set_option maxRecDepth 100000 in
theorem isame_main (C : InC) (A : Option Addr) (c : Nat) (l : List Nd) (x : Int) (b : Nat) (W : World) (R : RdG W A l) (L : l.length ≤ c) (M : c ≤ 9223372036854775807) (hS : SmallG l) (hf : fewN l = true) (hc : checkB l = true) (hx : I64 x) (hb : b ≤ 255) :
    Calls Try.prog 7 #[.slice A l.length c, .int .i64 x, .int .u8 (b : Int)] W fun e w' => e = .returned (.bool true) ∧ Below W.heap.size W w' := by
  have HC := Lib.hid C
  have HRD := Lib.hid R
  have HAW : Hid (∀ V, Calls Try.prog 8 #[] V fun e w' => e = .returned (.bool true) ∧ Kp V w') := fun V => inawake_any C V
  have HF : Hid (∀ V, Kp W V → Calls Try.prog 9 #[.slice A l.length c] V fun e w' => e = .returned (.bool true) ∧ w' = V) := fun V k => by
    have := rfew10_any A c l V (R.kp k)
    rw [hf] at this; exact this
  have HCK : Hid (∀ V, Kp W V → Calls Try.prog 17 #[.slice A l.length c] V fun e w' => e = .returned (.bool true) ∧ Kp V w') := fun V k => C.check A c l.length l true V (R.kp k) L M hS rfl hc
  have hl1 := (check_iff.1 hc).1
  have hl24 := (check_iff.1 hc).2.1
  obtain ⟨ss, y, z, hs⟩ : ∃ ss y z, shapesV l = (ss, y, z) := ⟨_, _, _, rfl⟩
  have H1 : Hid (∀ V, Kp W V → Calls Try.prog 13 #[.slice A l.length c] V (RetE3 (ss, y, z) ss.length V)) := fun V kk => C.shapes A c l.length ss.length l (ss, y, z) V (R.kp kk) L M hS rfl hs rfl
  obtain ⟨lm, hlm⟩ : ∃ lm, lm = l.map (otherN x b) := ⟨_, rfl⟩
  have HLM : Hid (SmallG lm ∧ shapesV lm = (ss, y, z) ∧ lm = l.map (otherN x b)) := ⟨by rw [hlm]; exact small_other hx hc hS, by rw [hlm, other_shapes hc]; exact hs, hlm⟩
  have HNM : Hid (∀ (k : Nat) (t : Nd), l[k]? = some t → numsB t = true) := fun k t ht => (node_iff.1 ((check_iff.1 hc).2.2 k t ht)).2.2.1
  have hyy : (y == y) = true := by simp
  have hzz : (z == z) = true := by simp
  clear C R hS hf hc hs hlm hl1
  go_enter Try.func7, Try.ntmps7
  go_wp2_with fail
  refine (HAW.out _).mono ?_; rintro e w1 ⟨rfl, k1⟩
  have K := Lib.hid k1
  clear k1
  go_wp2_with fail
  refine (HF.out _ K.out).mono ?_; rintro e w2 ⟨rfl, hw2⟩
  obtain rfl : w2 = w1 := hw2
  go_wp2_with fail
  refine (HCK.out _ K.out).mono ?_; rintro e w3 ⟨rfl, k3⟩
  have K3 := Lib.hid (K.out.tr k3)
  clear k3 HAW HF HCK
  go_wp2
  go_loopw [8, 9] (fun v i wx => ∃ k : Nat, ∃ dn : List Nd, Hid (OwnN w3.heap.size wx v dn) ∧ i = .int .i64 (k : Int) ∧ Hid (k ≤ l.length) ∧ Hid (dn = (l.take k).map (otherN x b)) ∧ Hid (Kp w3 wx)) (fun _ i _ => l.length - (intOf i).toNat)
  case atStart => exact ⟨0, [], OwnN.nil_ _ _, rfl, Nat.zero_le _, rfl, Kp.refl _⟩
  case round =>
    obtain ⟨k, dn, hO, rfl, hk, hD, hK⟩ := hrel
    obtain ⟨wo, hwo⟩ : ∃ wo, wo = wr := ⟨_, rfl⟩
    subst hwo
    obtain ⟨A8, c8, rfl, _, _, _⟩ := hO.out.form
    have hdl : Hid (dn.length ≤ 30) := by show _ ≤ _; rw [hD.out, List.length_map, List.length_take]; omega
    by_cases hj : k < l.length
    · have hj' : (k : Int) < (l.length : Int) := by omega
      have KW := Lib.hid (K3.out.tr hK.out)
      obtain ⟨ad, t, P, e, Q, g, rfl, hlt, ht, hc0', hc1', hc2', hN, hcP, hcQ⟩ := HRD.out.at_ hj
      have hc0 := (KW.out.cell (p := ad.add (k * 3)) (by rw [block_of_add]; exact hlt)).trans hc0'
      have hc1 := (KW.out.cell (p := ⟨(ad.add (k * 3)).block, (ad.add (k * 3)).off + 1, none⟩) (by rw [block_of_add]; exact hlt)).trans hc1'
      have hc2 := (KW.out.cell (p := ⟨(ad.add (k * 3)).block, (ad.add (k * 3)).off + 2, none⟩) (by rw [block_of_add]; exact hlt)).trans hc2'
      have hnu := HNM.out k t ht
      have hdk := other_take x b ht
      have HDK : Hid ((l.take (k + 1)).map (otherN x b) = dn ++ [otherN x b t]) := by show _ = _; rw [hdk, hD.out]
      obtain ⟨op, la, nums⟩ := t
      have ra0 : Rd W P la := hN.ra
      have rn0 : Rd W Q nums := hN.rn
      replace hcP : la.length ≤ e ∧ e ≤ 9223372036854775807 := hcP
      replace hcQ : nums.length ≤ g ∧ g ≤ 9223372036854775807 := hcQ
      replace hc0 : wo.cell? (ad.add (k * 3)) = some (.int .i64 op) := hc0
      replace hc1 : wo.cell? ⟨(ad.add (k * 3)).block, (ad.add (k * 3)).off + 1, none⟩ = some (.slice P la.length e) := hc1
      replace hc2 : wo.cell? ⟨(ad.add (k * 3)).block, (ad.add (k * 3)).off + 2, none⟩ = some (.slice Q nums.length g) := hc2
      have RP := Lib.hid (ra0.kp KW.out)
      have RQ := Lib.hid (rn0.kp KW.out)
      have XP : Hid (∀ ad', P = some ad' → 0 < la.length → (Value.slice A8 dn.length c8).ownBlock ≠ some ad'.block) := fun ad' e1 e2 e3 => by
        have h1 := hO.out.from_ e3
        obtain ⟨ad2, e4, hbk, _⟩ := ra0.2 e2
        rw [e1] at e4; injection e4 with e4; subst e4
        have := K3.out.size
        omega
      have XQ : Hid (∀ ad', Q = some ad' → 0 < nums.length → (Value.slice A8 dn.length c8).ownBlock ≠ some ad'.block) := fun ad' e1 e2 e3 => by
        have h1 := hO.out.from_ e3
        obtain ⟨ad2, e4, hbk, _⟩ := rn0.2 e2
        rw [e1] at e4; injection e4 with e4; subst e4
        have := K3.out.size
        omega
      have F0 : Hid (Nb (wo.alloc (.cells #[.int .i64 op, .slice P la.length e, .slice Q nums.length g] 25)) wo.heap.size op P la.length e Q nums.length g) := Nb.new rfl
      have HCP := Lib.hid (And.intro hcP hcQ)
      have hla := ra0.len
      have hlb := rn0.len
      have hsz : Hid (w3.heap.size ≤ wo.heap.size) := hK.out.size
      clear hc0' hc1' hc2' hN hcP hcQ ht hdk ra0
      by_cases h3 : op = 3
      · subst h3
        have hv : Hid (otherN x b ((3 : Int), la, nums) = (3, la, [x])) := rfl
        clear hnu rn0
        have hrow : Hid (RdN (((wo.alloc (.cells #[.int .i64 3, .slice P la.length e, .slice (some ⟨wo.heap.size + 1, 0, none⟩) 1 1] 25)).alloc (.cells #[.int .i64 x] 3)).alloc (.cells #[.int .i64 3, .slice P la.length e, .slice (some ⟨wo.heap.size + 1, 0, none⟩) 1 1] 25)) (fun k => (Value.slice A8 dn.length c8).ownBlock ≠ some k) (some ⟨wo.heap.size + 1 + 1, 0, none⟩) [((3 : Int), la, [x])]) := by
          have g1 := Rd.one (wo.alloc (.cells #[.int .i64 3, .slice P la.length e, .slice (some ⟨wo.heap.size + 1, 0, none⟩) 1 1] 25)) x 3
          rw [World.size_alloc] at g1
          have h := node_row_any (op := 3) (c := e) (d := 1) ((RP.out.alloc_ _).alloc_ _) g1 HCP.out.1 ⟨by show 1 ≤ 1; omega, by omega⟩ ((hO.out.kp (Kp.alloc_ _ _)).kp (Kp.alloc_ _ _)) XP.out (fun ad' e1 _ e3 => by
            injection e1 with e1
            have := hO.out.row_lt e3
            rw [← e1] at this
            have : wo.heap.size + 1 < wo.heap.size := this
            omega)
          rw [World.size_alloc, World.size_alloc] at h
          exact h
        have p0 := F0.out.c0
        clear F0
        go_wp2_with (at_builtin; refine wpList_appN (B := w3.heap.size) rfl (.tmp 60) (.tmp 62) rfl _ dn rfl (((hO.out.kp (Kp.alloc_ _ _)).kp (Kp.alloc_ _ _)).kp (Kp.alloc_ _ _)) _ _ [((3 : Int), la, [x])] 1 rfl rfl hrow.out (by have := hdl.out; simp; omega) (by have := hsz.out; simp; omega) ?_; intro z1 A1 c1 w6 HZ1 o1 b1 _; have O1 := Lib.hid o1; have K6 : Hid (Kp w3 w6) := (gal (gal (gal hK.out _) _) _).trans b1; clear o1 b1)
        go_roundw
        case rel => exact ⟨k + 1, z1, O1.out, by go_num, (by show k + 1 ≤ l.length; omega), (by show z1 = _; rw [HZ1.out, HDK.out, hv.out]), K6.out⟩
        case measure => simp [intOf]; omega
      · have e3 : (op == 3) = false := by simpa using h3
        by_cases h2 : op = 2
        · subst h2
          obtain ⟨p, s, ens, pp0, pp7, _⟩ := nums_2 hnu
          have ens' : nums = p :: s := ens
          subst ens'
          obtain ⟨z0, hz0⟩ : ∃ z0, z0 = (p + (b : Int)) % 8 := ⟨_, rfl⟩
          have hv : Hid (otherN x b ((2 : Int), la, p :: s) = (2, la, z0 :: s)) := by show _ = _; rw [hz0]; rfl
          obtain ⟨aq, rfl, hlq, cq0⟩ := rd_1 RQ.out
          have RT : Hid (Rd wo (tailA (some aq) g) s) := RQ.out.tail_ HCP.out.2.1
          obtain ⟨Q2, hQ2⟩ : ∃ Q2, Q2 = tailA (some aq) g := ⟨_, rfl⟩
          rw [← hQ2] at RT
          obtain ⟨g2, hg2⟩ : ∃ g2, g2 = g - 1 := ⟨_, rfl⟩
          obtain ⟨m0, hm0⟩ : ∃ m0, m0 = (p :: s).length := ⟨_, rfl⟩
          obtain ⟨m2, hm2⟩ : ∃ m2, m2 = s.length := ⟨_, rfl⟩
          have hcut : ∀ V, (Instr.sliceAt 23 (.slice (some aq) m0 g) (some (.int .i64 1)) none none).run Try.prog V = .ok (.slice Q2 m2 g2) V := fun V => by
            rw [hm0, hQ2, hg2, run_tail V aq (p :: s).length g (by simp)]
            rw [hm2]; simp
          have hm1 : (0 : Int) < (m0 : Int) := by rw [hm0]; simp
          have hm1' : 0 < m0 := by rw [hm0]; simp
          have hml : m0 ≤ 9223372036854775807 := by rw [hm0]; exact hlb
          have HM2 : Hid (m2 = s.length) := hm2
          rw [← hm0] at F0 hc2
          have p0 := F0.out.c0
          obtain ⟨W1, hW1⟩ : ∃ W1, W1 = wo.alloc (.cells #[.int .i64 2, .slice P la.length e, .slice (some aq) m0 g] 25) := ⟨_, rfl⟩
          have HW1 := Lib.hid hW1
          have hs1 : W1.heap.size = wo.heap.size + 1 := by rw [hW1]; simp
          have HS1 := Lib.hid hs1
          have F1 : Hid (Nb W1 wo.heap.size 2 P la.length e (some aq) m0 g) := by rw [hW1]; exact F0.out
          have KA : Hid (Kp wo W1) := by show Kp wo W1; rw [hW1]; exact Kp.alloc_ _ _
          obtain ⟨q0, hq0⟩ : ∃ q0, q0 = p + (b : Int) := ⟨_, rfl⟩
          have hwb : IntKind.i64.wrap (b : Int) = (b : Int) := by rw [IntKind.wrap_i64]; omega
          have hwz : IntKind.i64.wrap (p + (b : Int)) = q0 := by rw [IntKind.wrap_i64]; omega
          have hqz : q0.tmod 8 = z0 := by rw [hz0, ← hq0, Int.tmod_eq_emod_of_nonneg (by omega)]
          have cq1 : W1.drew.cell? aq = some (.int .i64 p) := (KA.out.cell hlq).trans cq0
          have cq2 : (W1.alloc (.cells #[.int .i64 z0] 3)).cell? aq = some (.int .i64 p) := ((Kp.alloc_ W1 _).cell (Nat.lt_of_lt_of_le hlq KA.out.size)).trans cq1
          have d2 : W1.drew.cell? ⟨wo.heap.size, 2, none⟩ = some (.slice (some aq) m0 g) := F1.out.c2
          have da2 : (W1.alloc (.cells #[.int .i64 z0] 3)).cell? ⟨wo.heap.size, 2, none⟩ = some (.slice (some aq) m0 g) := (F1.out.alloc_ (.cells #[.int .i64 z0] 3)).c2
          have d3 : W1.drew.frozen? ⟨wo.heap.size, 2, none⟩ = false := F1.out.f0 2
          have hso : W1.drew.heap.size = wo.heap.size + 1 := hs1
          have OZ : Hid (Own (wo.heap.size + 1) ((W1.alloc (.cells #[.int .i64 z0] 3)).drew) (.slice (some ⟨wo.heap.size + 1, 0, none⟩) 1 1) [z0]) := by
            have h := Own.one (B := wo.heap.size + 1) W1 z0 (by rw [HS1.out]; exact Nat.le_refl _)
            rw [HS1.out] at h
            exact h.drew
          have RTz : Hid (Rd ((W1.alloc (.cells #[.int .i64 z0] 3)).drew) Q2 s) := ((RT.out.kp KA.out).alloc_ _).drew
          have HZ0 := Lib.hid hz0
          have hsl : Hid (s.length ≤ 3) := by
            have h : parB (p :: s) = true := by have := hnu; simpa [numsB] using this
            have h' : (decide (0 ≤ p ∧ p ≤ 7) && okS s) = true := h
            rw [Bool.and_eq_true] at h'
            exact (ok_iff.1 h'.2).1
          clear hnu rn0 ens hQ2 hg2 hm0 hm2 hW1 hs1 hq0 hz0
          go_wp2_with fail
          rw [← HW1.out]
          go_cut [10] (fun v wx => v = .pointer (some ⟨wo.heap.size, 0, none⟩) ∧ ∃ A1 c1 m1, Hid (Nb wx wo.heap.size 2 P la.length e A1 m1 c1) ∧ Hid (m1 = s.length + 1) ∧ Hid (Own (wo.heap.size + 1) wx (.slice A1 m1 c1) (z0 :: s)) ∧ Hid (Kp wo wx))
          case first =>
            go_region_law (first
              | (refine step_appI (B := wo.heap.size + 1) rfl (.tmp 54) (.tmp 57) rfl _ [z0] rfl OZ.out Q2 g2 s m2 rfl HM2.out RTz.out (by have := hsl.out; simp; omega) (by have := HS1.out; simp; omega) ?_; intro z1 A1 c1 w4 HZ1 o1 b1; have O1 := Lib.hid o1; have B1 : Hid (Below (wo.heap.size + 1) W1 w4) := (Below.drew (Below.alloc (Below.refl _ _) (by rw [HS1.out]; exact Nat.le_refl _) _)).trans b1; have g3 := (B1.out.cell (p := ⟨wo.heap.size, 2, none⟩) (Nat.lt_succ_self _)).trans d2; have g4 := (B1.out.frozen (p := ⟨wo.heap.size, 2, none⟩) (Nat.lt_succ_self _)).trans d3; clear o1 b1))
            all_goals
              have hz1 : z1 = z0 :: s := by rw [HZ1.out]; rfl
              have N4 : Hid (Nb (w4.setCell ⟨wo.heap.size, 2, none⟩ (.slice A1 z1.length c1)) wo.heap.size 2 P la.length e A1 z1.length c1) := Nb.put2 (show Nb w4 wo.heap.size 2 P la.length e (some aq) m0 g from (B1.out.block wo.heap.size (Nat.lt_succ_self _)).trans F1.out)
              have O4 : Hid (Own (wo.heap.size + 1) (w4.setCell ⟨wo.heap.size, 2, none⟩ (.slice A1 z1.length c1)) (.slice A1 z1.length c1) z1) := O1.out.of_block fun g hg => by have := O1.out.from_ hg; rw [Below.heap_setCell _ _ _ _ (by simp; omega)]
              have K4 : Hid (Kp wo (w4.setCell ⟨wo.heap.size, 2, none⟩ (.slice A1 z1.length c1))) := Below.setCell (KA.out.trans (B1.out.mono (Nat.le_succ _))) (Nat.le_refl _) _
              have HL1 : Hid (z1.length = s.length + 1) := by show _ = _; rw [hz1]; rfl
              rw [hz1] at O4
              have O5 : Hid (Own (wo.heap.size + 1) (w4.setCell ⟨wo.heap.size, 2, none⟩ (.slice A1 z1.length c1)) (.slice A1 z1.length c1) (z0 :: s)) := by rw [hz1]; exact O4.out
              clear hz1 O4
              go_wp2
              go_meet
              exact ⟨rfl, A1, c1, z1.length, N4.out, HL1.out, O5.out, K4.out⟩
          case rest =>
            obtain ⟨rfl, A1, c1, m1, N1, HM1, O1, KC⟩ := hcut
            have s0 := N1.out.c0
            have s1 := N1.out.c1
            have s2 := N1.out.c2
            have hrow : Hid (RdN (wc.alloc (.cells #[.int .i64 2, .slice P la.length e, .slice A1 m1 c1] 25)) (fun k => (Value.slice A8 dn.length c8).ownBlock ≠ some k) (some ⟨wc.heap.size, 0, none⟩) [((2 : Int), la, z0 :: s)]) := by
              have h := node_row_any (op := 2) (c := e) (d := c1) (RP.out.kp KC.out) O1.out.sl.rd HCP.out.1 ⟨O1.out.sl.le, O1.out.sl.cap⟩ (hO.out.kp KC.out) XP.out (fun ad' e1 e2 e3 => by
                have h1 := hO.out.row_lt e3
                obtain ⟨g', e4, h2, _⟩ := O1.out.addrI e2
                rw [e1] at e4; injection e4 with e4
                rw [e4] at h1
                have : g' < wo.heap.size := h1
                omega)
              rw [show (z0 :: s).length = m1 from HM1.out.symm] at h
              exact h
            go_wp2_with (at_builtin; refine wpList_appN (B := w3.heap.size) rfl (.tmp 60) (.tmp 62) rfl _ dn rfl ((hO.out.kp KC.out).kp (Kp.alloc_ _ _)) _ _ [((2 : Int), la, z0 :: s)] 1 rfl rfl hrow.out (by have := hdl.out; simp; omega) (by have := hsz.out; have := KC.out.size; simp; omega) ?_; intro z1 A2 c2 w6 HZ1 o1 b1 _; have O6 := Lib.hid o1; have K6 : Hid (Kp w3 w6) := (gal (hK.out.tr KC.out) _).trans b1; clear o1 b1)
            go_roundw
            case rel => exact ⟨k + 1, z1, O6.out, by go_num, (by show k + 1 ≤ l.length; omega), (by show z1 = _; rw [HZ1.out, HDK.out, hv.out]), K6.out⟩
            case measure => simp [intOf]; omega
        · have e2 : (op == 2) = false := by simpa using h2
          have hv : Hid (otherN x b (op, la, nums) = (op, la, nums)) := by show _ = _; unfold otherN; rw [if_neg h3, if_neg h2]
          have p0 := F0.out.c0
          have p1 := F0.out.c1
          have p2 := F0.out.c2
          have hrow : Hid (RdN ((wo.alloc (.cells #[.int .i64 op, .slice P la.length e, .slice Q nums.length g] 25)).alloc (.cells #[.int .i64 op, .slice P la.length e, .slice Q nums.length g] 25)) (fun k => (Value.slice A8 dn.length c8).ownBlock ≠ some k) (some ⟨wo.heap.size + 1, 0, none⟩) [(op, la, nums)]) := by
            have h := node_row_any (op := op) (c := e) (d := g) (RP.out.alloc_ (.cells #[.int .i64 op, .slice P la.length e, .slice Q nums.length g] 25)) (RQ.out.alloc_ _) HCP.out.1 HCP.out.2 (hO.out.kp (Kp.alloc_ _ _)) XP.out XQ.out
            rw [World.size_alloc] at h
            exact h
          clear hnu rn0
          go_wp2_with (at_builtin; refine wpList_appN (B := w3.heap.size) rfl (.tmp 60) (.tmp 62) rfl _ dn rfl ((hO.out.kp (Kp.alloc_ _ _)).kp (Kp.alloc_ _ _)) _ _ [(op, la, nums)] 1 rfl rfl hrow.out (by have := hdl.out; simp; omega) (by have := hsz.out; simp; omega) ?_; intro z1 A1 c1 w6 HZ1 o1 b1 _; have O1 := Lib.hid o1; have K6 : Hid (Kp w3 w6) := (gal (gal hK.out _) _).trans b1; clear o1 b1)
          go_roundw
          case rel => exact ⟨k + 1, z1, O1.out, by go_num, (by show k + 1 ≤ l.length; omega), (by show z1 = _; rw [HZ1.out, HDK.out, hv.out]), K6.out⟩
          case measure => simp [intOf]; omega
    · have hj' : ¬ (k : Int) < (l.length : Int) := by omega
      have hdm : dn = lm := by rw [hD.out, HLM.out.2.2, List.take_of_length_le (by omega)]
      obtain ⟨m8, hm8⟩ : ∃ m8, m8 = dn.length := ⟨_, rfl⟩
      have HM8 : Hid (m8 = lm.length) := by show _ = _; rw [hm8, hdm]
      have MO := Lib.hid (n_of_own hO.out)
      have MO2 : Hid (RdG wo A8 lm ∧ lm.length ≤ c8 ∧ c8 ≤ 9223372036854775807) := by rw [← hdm]; exact MO.out
      rw [← hm8] at hO ⊢
      clear hdm hm8 MO
      go_wp2_with fail
      refine (H1.out _ (K3.out.tr hK.out)).mono ?_; rintro e0 w5 ⟨A5, c5, rfl, r5, _, k5⟩
      have K5 := Lib.hid ((K3.out.tr hK.out).tr k5)
      have MO3 := Lib.hid (MO2.out.1.kp k5)
      clear k5
      go_wp2_with fail
      refine (HC.out.shapes A8 c8 m8 ss.length lm (ss, y, z) _ MO3.out MO2.out.2.1 MO2.out.2.2 HLM.out.1 HM8.out HLM.out.2.1 rfl).mono ?_; rintro e0 w6 ⟨A6, c6, rfl, r6, _, k6⟩
      have K6 := Lib.hid (K5.out.tr k6)
      have r5 := Lib.hid (r5.out.kp k6)
      clear k6
      have HSM : Hid (Calls Try.prog 16 #[.slice A5 ss.length c5, .slice A6 ss.length c6] w6 fun e w' => e = .returned (.bool true) ∧ Kp w6 w') := by
        have h := rsame11_any A5 A6 c5 c6 ss ss w6 r5.out r6.out
        rw [show (ss == ss) = true by simp] at h
        exact h
      go_wp2_with fail
      refine (Hid.out HSM).mono ?_; rintro e0 w7 ⟨rfl, k7⟩
      have K7 := Lib.hid (K6.out.tr k7)
      clear k7
      go_wp2
      go_ret
      exact ⟨rfl, K7.out⟩
set_option maxRecDepth 100000 in
theorem isame_walk (C : InC) (A : Option Addr) (c : Nat) (l : List Nd) (x : Int) (b : Nat) (W : World) (R : RdG W A l) (N : ∀ t ∈ l, Nd64 t) (L : l.length ≤ c) (M : c ≤ 9223372036854775807) (hx : I64 x) (hb : b ≤ 255) :
    Calls Try.prog 7 #[.slice A l.length c, .int .i64 x, .int .u8 (b : Int)] W fun e w' => e = .returned (.bool true) ∧ Below W.heap.size W w' := by
  have HAW : Hid (∀ V, Calls Try.prog 8 #[] V fun e w' => e = .returned (.bool true) ∧ Kp V w') := fun V => inawake_any C V
  have HF : Hid (∀ V, Kp W V → Calls Try.prog 9 #[.slice A l.length c] V fun e w' => e = .returned (.bool (fewN l)) ∧ w' = V) := fun V k => rfew10_any A c l V (R.kp k)
  cases hf : fewN l with
  | false =>
    rw [hf] at HF
    clear hf C R N
    go_enter Try.func7, Try.ntmps7
    go_wp2_with fail
    refine (HAW.out _).mono ?_; rintro e w1 ⟨rfl, k1⟩
    have K := Lib.hid k1
    clear k1
    go_wp2_with fail
    refine (HF.out _ K.out).mono ?_; rintro e w2 ⟨rfl, hw2⟩
    obtain rfl : w2 = w1 := hw2
    go_wp2
    go_ret
    exact ⟨rfl, K.out⟩
  | true =>
    rw [hf] at HF
    have HCK : Hid (∀ V, Kp W V → Calls Try.prog 17 #[.slice A l.length c] V fun e w' => e = .returned (.bool (checkB l)) ∧ Kp V w') := fun V k => C.check A c l.length l (checkB l) V (R.kp k) L M (small_few hf N) rfl rfl
    cases hc : checkB l with
    | false =>
      rw [hc] at HCK
      clear hf hc C R N
      go_enter Try.func7, Try.ntmps7
      go_wp2_with fail
      refine (HAW.out _).mono ?_; rintro e w1 ⟨rfl, k1⟩
      have K := Lib.hid k1
      clear k1
      go_wp2_with fail
      refine (HF.out _ K.out).mono ?_; rintro e w2 ⟨rfl, hw2⟩
      obtain rfl : w2 = w1 := hw2
      go_wp2_with fail
      refine (HCK.out _ K.out).mono ?_; rintro e w3 ⟨rfl, k3⟩
      have K := Lib.hid (K.out.tr k3)
      clear k3
      go_wp2
      go_ret
      exact ⟨rfl, K.out⟩
    | true =>
      exact isame_main C A c l x b W R L M (small_few hf N) hf hc hx hb
theorem isame_walk_i (C : InC) (A : Option Addr) (c : Nat) (l : List Nd) (x o : Int) (W : World) (R : RdG W A l) (N : ∀ t ∈ l, Nd64 t) (L : l.length ≤ c) (M : c ≤ 9223372036854775807) (hx : I64 x) (o0 : 0 ≤ o) (o1 : o ≤ 255) :
    Calls Try.prog 7 #[.slice A l.length c, .int .i64 x, .int .u8 o] W fun e w' => e = .returned (.bool true) ∧ Below W.heap.size W w' := by
  obtain ⟨b, rfl⟩ : ∃ b : Nat, o = (b : Int) := ⟨o.toNat, by omega⟩
  exact isame_walk C A c l x b W R N L M hx (by omega)
end Go.Proofs.Ytnkkkpanlnencaa
