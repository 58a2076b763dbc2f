/- The document's layer 11: Shapes. -/
import Derived.Test.YtnkkkpanlnencaaR11F
import Derived.Test.YtnkkkpanlnencaaInMex
namespace Go.Proofs.Ytnkkkpanlnencaa
open Go.RowKit Go.Proofs.ShM Go.Proofs.GrM Go.Proofs.InM
set_option linter.unusedVariables false
set_option maxHeartbeats 8000000

/-- Lists, a number and an error. -/
def RetSS (r : List (List Int) × Int × Int) (W : World) (e : Ending) (W' : World) : Prop :=
  ∃ A c, e = .returned (.tuple #[.slice A r.1.length c, .int .i64 r.2.1, .int .i64 r.2.2]) ∧ Hid (RdL W' A r.1) ∧ Hid (r.1.length ≤ c ∧ c ≤ 9223372036854775807) ∧ Kp W W'
theorem RetSS.none_ {W W' : World} (k : Kp W W') (i e : Int) : RetSS ([], i, e) W (.returned (.tuple #[.slice none 0 0, .int .i64 i, .int .i64 e])) W' :=
  ⟨none, 0, rfl, RdLX.nil_ _ _ _, ⟨by simp, by omega⟩, k⟩
theorem args_take {acc : List (List Int)} {l : List Int} {j a : Nat} {s : List Int} (h : l[j]? = some (a : Int)) (hs : acc[a]? = some s) : argsOf acc (l.take (j + 1)) = argsOf acc (l.take j) ++ [s] := by
  unfold argsOf
  rw [take_of h, List.map_append]
  congr 1
  show [acc.getD ((a : Int)).toNat []] = [s]
  rw [Int.toNat_natCast, List.getD, hs]; rfl
set_option maxRecDepth 100000 in
theorem rshapes11 (A : Option Addr) (c : Nat) (l : List Nd) (w : World) (h : RdG w A l) (h64 : ∀ t ∈ l, Nd64 t) :
    Calls Try.prog 14 #[.slice A l.length c] w (RetSS (shapesV l) w) := by
  have hl := h.len
  have HRD := Lib.hid h
  have HC := Lib.hid (rcheck10 A c l w h)
  have H64 := Lib.hid h64
  cases hck : checkB l with
  | false =>
    rw [hck] at HC
    rw [show shapesV l = ([], -1, 100) by unfold shapesV; rw [if_neg (by simp [hck])]]
    clear hck h h64
    go_enter Try.func14, Try.ntmps14
    go_wp2_with fail
    refine (Hid.out HC).mono ?_; rintro e w1 ⟨rfl, k1⟩
    have K1 := Lib.hid k1
    clear k1
    go_wp2
    go_ret3
    exact RetSS.none_ K1.out (-1) 100
  | true =>
    rw [hck] at HC
    obtain ⟨r, hr⟩ : ∃ r, r = shapesV l := ⟨_, rfl⟩
    have HT0 : Hid (shF (l.drop 0) [] = r) := by show _ = _; rw [hr]; unfold shapesV; rw [if_pos hck]; rfl
    have HL24 := Lib.hid ((check_iff.1 hck).2.1)
    have HNB : Hid (∀ (k : Nat) (t : Nd), l[k]? = some t → t.2.1.length ≤ 2 ∧ ∀ a ∈ t.2.1, 0 ≤ a ∧ a < (k : Int)) := fun k t ht => by
      obtain ⟨_, g2, _, g4, _⟩ := node_iff.1 ((check_iff.1 hck).2.2 k t ht)
      have := arity_le t.1
      exact ⟨by omega, g4⟩
    rw [← hr]
    clear hck h h64 hr
    go_enter Try.func14, Try.ntmps14
    go_wp2_with fail
    refine (Hid.out HC).mono ?_; rintro e w1 ⟨rfl, k1⟩
    have K1 := Lib.hid k1
    clear k1
    go_wp2
    go_loopw [6, 7] (fun v i wx => ∃ k : Nat, ∃ acc : List (List Int), Hid (OwnX w1.heap.size (fun _ => True) wx v acc) ∧ i = .int .i64 (k : Int) ∧ Hid (k ≤ l.length) ∧ Hid (acc.length = k) ∧ Hid (shF (l.drop k) acc = r) ∧ Hid (Kp w1 wx)) (fun _ i _ => l.length - (intOf i).toNat)
    case atStart => exact ⟨0, [], OwnX.nil_ _ _ _, rfl, Nat.zero_le _, rfl, HT0.out, Kp.refl _⟩
    case round =>
      obtain ⟨k, acc, hO, rfl, hk, hal, hT, hK⟩ := hrel
      obtain ⟨wo, hwo⟩ : ∃ wo, wo = wr := ⟨_, rfl⟩
      subst hwo
      obtain ⟨A6, c6, rfl, hR6, hc61, hc62⟩ := hO.out.form
      have HR6 := Lib.hid hR6
      have HC6 := Lib.hid (And.intro hc61 hc62)
      obtain ⟨na, hna⟩ : ∃ na, na = acc.length := ⟨_, rfl⟩
      have HNA : Hid (na = acc.length) := hna
      rw [← hna] at hO HR6 ⊢
      have hnk : Hid (na = k) := by show _ = _; rw [hna]; exact hal.out
      clear hR6 hc61 hc62 hna
      by_cases hj : k < l.length
      · have hj' : (k : Int) < (l.length : Int) := by omega
        have KW := Lib.hid (K1.out.tr hK.out)
        obtain ⟨ad, t, P, e, Q, g, rfl, hlt, ht, hc0, hc1, hc2, hN, hcP, hcQ⟩ := HRD.out.at_ hj
        obtain ⟨hl2, hrg⟩ := HNB.out k t ht
        have HRG := Lib.hid hrg
        have HTT : Hid (l[k]? = some t) := ht
        have HC3 : Hid (∀ V, Kp wo V → V.cell? (ad.add (k * 3)) = some (.int .i64 t.1) ∧ V.cell? ⟨(ad.add (k * 3)).block, (ad.add (k * 3)).off + 1, none⟩ = some (.slice P t.2.1.length e) ∧ V.cell? ⟨(ad.add (k * 3)).block, (ad.add (k * 3)).off + 2, none⟩ = some (.slice Q t.2.2.length g)) := fun V kV =>
          ⟨((KW.out.tr kV).cell (by rw [block_of_add]; exact hlt)).trans hc0, ((KW.out.tr kV).cell (by rw [block_of_add]; exact hlt)).trans hc1, ((KW.out.tr kV).cell (by rw [block_of_add]; exact hlt)).trans hc2⟩
        have HN := Lib.hid hN
        have HCQ := Lib.hid hcQ
        have hdrop : l.drop k = t :: l.drop (k + 1) := drop_of ht
        rw [hdrop] at hT
        have ht64 : Hid (∀ x ∈ t.2.2, -9223372036854775808 ≤ x ∧ x ≤ 9223372036854775807) := (H64.out t (List.mem_of_getElem? ht)).2.2
        have HXQ : Hid (∀ ad', Q = some ad' → 0 < t.2.2.length → (Value.slice A6 na c6).ownBlock ≠ some ad'.block) := fun ad' e1 e2 e3 => by
          have h1 := hO.out.from_ e3
          obtain ⟨ad2, e4, hb, _⟩ := hN.rn.2 e2
          rw [e1] at e4; injection e4 with e4; subst e4
          have := K1.out.size
          omega
        obtain ⟨n0, hn0⟩ : ∃ n0, n0 = t.2.1.length := ⟨_, rfl⟩
        have HN0 : Hid (n0 = t.2.1.length) := hn0
        rw [← hn0] at hl2 hc1
        have hc1o := (HC3.out wo (Kp.refl _)).2.1
        rw [← hn0] at hc1o
        clear hdrop ht hrg hN hcP hcQ hc0 hc1 hc2 hn0
        go_wp2
        go_loopw [8, 9] (fun v i wx => ∃ j : Nat, ∃ gs : List (List Int), Hid (OwnX wo.heap.size (fun b => (Value.slice A6 na c6).ownBlock ≠ some b) wx v gs) ∧ i = .int .i64 (j : Int) ∧ Hid (j ≤ n0) ∧ Hid (gs = argsOf acc (t.2.1.take j)) ∧ Hid (Kp wo wx)) (fun _ i _ => n0 - (intOf i).toNat)
        case atStart => exact ⟨0, [], OwnX.nil_ _ _ _, rfl, Nat.zero_le _, rfl, Kp.refl _⟩
        case round =>
          obtain ⟨j, gs, hG, rfl, hjn, hgs, hK2⟩ := hrel
          obtain ⟨A8, c8, rfl, hR8, hc81, hc82⟩ := hG.out.form
          have hgl : Hid (gs.length ≤ 2) := by show _ ≤ _; rw [hgs.out]; unfold argsOf; rw [List.length_map, List.length_take, ← HN0.out]; omega
          have q1 := (HC3.out _ hK2.out).2.1
          rw [← HN0.out] at q1
          by_cases hq : j < n0
          · have hq' : (j : Int) < (n0 : Int) := by omega
            obtain ⟨ap, a, rfl, hlp, ha, hca⟩ := (HN.out.ra.kp (KW.out.tr hK2.out)).at_ (k := j) (by rw [← HN0.out]; exact hq)
            obtain ⟨ha0, ha1⟩ := HRG.out a (List.mem_of_getElem? ha)
            obtain ⟨a', rfl⟩ : ∃ a' : Nat, a = (a' : Int) := ⟨a.toNat, by omega⟩
            have hnk' := hnk.out
            obtain ⟨ad6, s, P6, e6, rfl, hl6, hs, hc6', rs, l1, l2, xs⟩ := HR6.out.at_ (k := a') (by rw [← HNA.out]; omega)
            have q6 := (hK2.out.cell (p := ad6.add a') (by rw [block_of_add]; exact hl6)).trans hc6'
            have hna1 : (a' : Int) < (na : Int) := by omega
            have hz1 : Hid (argsOf acc (t.2.1.take (j + 1)) = gs ++ [s]) := by show _ = _; rw [args_take ha hs, hgs.out]
            have HX1 : Hid (∀ ad', P6 = some ad' → 0 < s.length → (Value.slice (some ad6) na c6).ownBlock ≠ some ad'.block ∧ (Value.slice A8 gs.length c8).ownBlock ≠ some ad'.block) := fun ad' e1 e2 => by
              refine ⟨(xs ad' e1 e2).2, fun e3 => ?_⟩
              have h1 := hG.out.from_ e3
              obtain ⟨ad2, e4, hb, _⟩ := rs.2 e2
              rw [e1] at e4; injection e4 with e4; subst e4
              omega
            have HRS := Lib.hid (rs.kp hK2.out)
            clear ha hs hc6' rs xs hnk' hR8
            go_wp2_with (at_builtin; refine wpList_appX (B := wo.heap.size) (X := fun b => (Value.slice (some ad6) na c6).ownBlock ≠ some b) rfl (.tmp 32) (.tmp 44) rfl _ gs rfl (hG.out.kp (Kp.alloc_ _ _)) _ _ [s] 1 rfl rfl (RdLX.one HRS.out l1 l2 HX1.out _) (by have := hgl.out; simp; omega) (by have := hK2.out.size; simp; omega) ?_; intro z1 A1 c1 w6 HZ1 o1 b1 _; have O1 := Lib.hid o1; have K6 : Hid (Kp wo w6) := (gal hK2.out _).trans b1; clear o1 b1)
            go_roundw
            case rel => exact ⟨j + 1, z1, O1.out, by go_num, (by show j + 1 ≤ n0; omega), (by show z1 = _; rw [HZ1.out, hz1.out]), K6.out⟩
            case measure => simp [intOf]; omega
          · have hq' : ¬ (j : Int) < (n0 : Int) := by omega
            have hgs2 : Hid (gs = argsOf acc t.2.1) := by show _ = _; rw [hgs.out, List.take_of_length_le (by rw [← HN0.out]; omega)]
            have q0 := (HC3.out _ hK2.out).1
            have q2 := (HC3.out _ hK2.out).2.2
            have KV := Lib.hid (KW.out.tr hK2.out)
            have HND : Hid (Calls Try.prog 12 #[.agg #[.int .i64 t.1, .slice P n0 e, .slice Q t.2.2.length g], .slice A8 gs.length c8] wr (RetM (fun b => (Value.slice A6 na c6).ownBlock ≠ some b) (nodeV t.1 t.2.2 gs) wr)) := by
              rw [HN0.out]
              exact rnode11 _ t P Q e g A8 c8 gs wr (HN.out.rn.kp KV.out) HCQ.out HXQ.out ht64.out (hR8.mono (Kp.refl _) (fun _ _ x => x.1))
            rcases node_cases t.1 t.2.2 gs with ⟨s, hn, _⟩ | hn
            · rw [hn] at HND
              have hT2 : Hid (shF (l.drop (k + 1)) (acc ++ [s]) = r) := by
                show _ = _
                rw [← hT.out, sh_cons_ok (s := s) (by rw [← hgs2.out]; exact hn)]
              clear hn hR8
              go_wp2_with fail
              refine (Hid.out HND).mono ?_; rintro e3 w3 ⟨A3, c3, rfl, r3, l3, x3, k3⟩
              have K3 := Lib.hid (hK2.out.tr k3)
              have HX3 : Hid (∀ ad', A3 = some ad' → 0 < s.length → True ∧ (Value.slice A6 na c6).ownBlock ≠ some ad'.block) := fun ad' e1 e2 => ⟨trivial, by
                rcases x3.out ad' e1 e2 with h1 | h1
                · exact h1
                · intro e3
                  have h2 := hO.out.row_lt e3
                  have := hK2.out.size
                  omega⟩
              have HL3 := Lib.hid (And.intro hnk.out (And.intro HL24.out HNA.out))
              clear k3 x3
              go_wp2_with (at_builtin; refine wpList_appX (B := w1.heap.size) (X := fun _ => True) rfl (.tmp 59) (.tmp 61) rfl _ acc rfl (hO.out.kp (gal K3.out _)) _ _ [s] 1 rfl rfl (RdLX.one r3.out l3.out.1 l3.out.2 HX3.out _) (by have := HL3.out; simp; omega) (by have := (hK.out.tr K3.out).size; simp; omega) ?_; intro z1 A1 c1 w6 HZ1 o1 b1 _; have O1 := Lib.hid o1; have K6 : Hid (Kp w1 w6) := (gal (hK.out.tr K3.out) _).trans b1; clear o1 b1)
              go_roundw
              case rel => exact ⟨k + 1, z1, O1.out, by go_num, (by show k + 1 ≤ l.length; omega), (by show z1.length = _; rw [HZ1.out, List.length_append, hal.out]; rfl), (by show shF _ z1 = r; rw [HZ1.out]; exact hT2.out), K6.out⟩
              case measure => simp [intOf]; omega
            · rw [hn] at HND
              have hv : r = ([], (k : Int), 20) := by rw [← hT.out, sh_cons_no (by rw [← hgs2.out]; exact hn), hal.out]
              subst hv
              clear hn hR8 hT
              go_wp2_with fail
              refine (Hid.out HND).mono ?_; rintro e3 w3 ⟨A3, c3, rfl, r3, l3, x3, k3⟩
              have K3 := Lib.hid (KV.out.tr k3)
              clear k3 x3
              go_wp2
              go_ret3
              exact RetSS.none_ K3.out _ 20
      · have hj' : ¬ (k : Int) < (l.length : Int) := by omega
        have hv : r = (acc, -1, 0) := by rw [← hT.out, List.drop_eq_nil_of_le (by omega)]; rfl
        subst hv
        go_wp2
        go_ret3
        exact ⟨A6, c6, by rw [← HNA.out]; rfl, HR6.out.all, HC6.out, K1.out.tr hK.out⟩
end Go.Proofs.Ytnkkkpanlnencaa
