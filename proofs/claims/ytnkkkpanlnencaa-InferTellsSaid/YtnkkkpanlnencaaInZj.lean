/- The landed infer: Shapes. -/
import Derived.Test.YtnkkkpanlnencaaInZi
import Derived.Test.YtnkkkpanlnencaaR11S
namespace Go.Proofs.Ytnkkkpanlnencaa.Iz
open Go.RowKit Go.Proofs.ShM Go.Proofs.GrM Go.Proofs.InM Go.Proofs.Ytnkkkpanlnencaa.Gz
set_option linter.unusedVariables false
set_option linter.unusedSimpArgs false
set_option maxHeartbeats 8000000

/-- A made row of lists, none in it yet. -/
theorem mkL_ (n : Nat) (hn : n ≤ 1000000) : ∃ cs : Array Value, (∀ W : World, (Instr.makeSlice 26 (.int .i64 0) (.int .i64 (n : Int))).run Try.prog W = .ok (.slice (some ⟨W.heap.size, 0, none⟩) 0 n) (W.alloc (.cells cs 23))) ∧
    ∀ (W : World) (B : Nat) (X : Nat → Prop), B ≤ W.heap.size → OwnX B X (W.alloc (.cells cs 23)) (.slice (some ⟨W.heap.size, 0, none⟩) 0 n) [] :=
  ⟨(List.replicate n (Value.slice none 0 0)).toArray, fun W => by
    obtain ⟨i, hi, hz, h1, h2⟩ := info_parts li_info
    have hr := run_make (P := Try.prog) W 26 23 i _ Try.underlying26 hi hz .i64 .i64 0 n (by omega) (by omega) (by rw [h2]; omega) (by omega)
    simp only [Int.toNat_natCast, Int.toNat_zero, h1, Nat.mul_one] at hr
    rw [hr]
    congr 3
    exact Array.toList_inj.1 (by rw [show (Value.slice none 0 0).cells = #[Value.slice none 0 0] from rfl, toList_madeCells_one]), fun W B X hB => by
    have := World.ownsRow_made (base := B) (e := 23) (size := 1) W (List.replicate n (Value.slice none 0 0)).toArray n hB (by unfold maxLen; omega) (by simp)
    exact ⟨[], by simpa using this, AllL.nil_ _ _⟩⟩

set_option maxRecDepth 100000 in
theorem shapes_i (A : Option Addr) (c m : Nat) (l : List Nd) (w : World) (h : RdG w A l) (hc1 : l.length ≤ c) (hc2 : c ≤ 9223372036854775807) (hS : SmallG l) (hm : m = l.length) :
    Calls Try.prog 13 #[.slice A m c] w (RetSS (shapesV l) w) := by
  subst hm
  have hl := h.len
  have HRD := Lib.hid h
  have HC := Lib.hid (check_z A c l.length l (checkB l) w h hc1 hc2 rfl rfl)
  have HSM := Lib.hid hS
  cases hck : checkB l with
  | false =>
    rw [hck] at HC
    rw [show shapesV l = ([], -1, 100) by unfold shapesV; rw [if_neg (by simp [hck])]]
    clear hck h hS
    go_enter Try.func13, Try.ntmps13
    go_wp2_with fail
    refine (Hid.out HC).mono ?_; rintro e w1 ⟨rfl, k1⟩
    have K1 := Lib.hid k1
    clear k1
    go_wp2
    go_ret3
    exact RetSS.none_ K1.out (-1) 100
  | true =>
    rw [hck] at HC
    obtain ⟨r, hr⟩ : ∃ r, r = shapesV l := ⟨_, rfl⟩
    have HT0 : Hid (shF (l.drop 0) [] = r) := by show _ = _; rw [hr]; unfold shapesV; rw [if_pos hck]; rfl
    have hl24 := (check_iff.1 hck).2.1
    have HL24 := Lib.hid hl24
    have HNB : Hid (∀ (k : Nat) (t : Nd), l[k]? = some t → t.2.1.length ≤ 2 ∧ ∀ a ∈ t.2.1, 0 ≤ a ∧ a < (k : Int)) := fun k t ht => by
      obtain ⟨_, g2, _, g4, _⟩ := node_iff.1 ((check_iff.1 hck).2.2 k t ht)
      have := arity_le t.1
      exact ⟨by omega, g4⟩
    obtain ⟨cs, hmk, hown⟩ := mkL_ l.length (by omega)
    have HOW := Lib.hid hown
    rw [← hr]
    clear hck h hS hr hl24 hown
    go_enter Try.func13, Try.ntmps13
    go_wp2_with fail
    refine (Hid.out HC).mono ?_; rintro e w1 ⟨rfl, k1⟩
    have K1 := Lib.hid k1
    have H0 := Lib.hid (HOW.out w1 w1.heap.size (fun _ => True) (Nat.le_refl _))
    clear k1 HOW
    go_wp2
    clear hmk
    go_loopw [5, 21] (fun v i wx => ∃ k : Nat, ∃ acc : List (List Int), Hid (OwnX w1.heap.size (fun _ => True) wx v acc) ∧ i = .int .i64 (k : Int) ∧ Hid (k ≤ l.length) ∧ Hid (acc.length = k) ∧ Hid (shF (l.drop k) acc = r) ∧ Hid (Kp w1 wx)) (fun _ i _ => l.length - (intOf i).toNat)
    case atStart => exact ⟨0, [], H0.out, rfl, Nat.zero_le _, rfl, HT0.out, Kp.alloc_ _ _⟩
    case round =>
      obtain ⟨k, acc, hO, rfl, hk, hal, hT, hK⟩ := hrel
      obtain ⟨wo, hwo⟩ : ∃ wo, wo = wr := ⟨_, rfl⟩
      subst hwo
      obtain ⟨A6, c6, rfl, hR6, hc61, hc62⟩ := hO.out.form
      have HR6 := Lib.hid hR6
      have HC6 := Lib.hid (And.intro hc61 hc62)
      obtain ⟨na, hna⟩ : ∃ na, na = acc.length := ⟨_, rfl⟩
      have HNA : Hid (na = acc.length) := hna
      rw [← hna] at hO HR6 ⊢
      have hnk : Hid (na = k) := by show _ = _; rw [hna]; exact hal.out
      clear hR6 hc61 hc62 hna
      by_cases hj : k < l.length
      · have hj' : (k : Int) < (l.length : Int) := by omega
        have KW := Lib.hid (K1.out.tr hK.out)
        obtain ⟨ad, t, P, e, Q, g, rfl, hlt, ht, hc0, hc1', hc2', hN, hcP, hcQ⟩ := (HRD.out.kp KW.out).at_ hj
        obtain ⟨hl2, hrg⟩ := HNB.out k t ht
        have HRG := Lib.hid hrg
        have HTT : Hid (l[k]? = some t) := ht
        have HN := Lib.hid hN
        have HCQ := Lib.hid hcQ
        have hdrop : l.drop k = t :: l.drop (k + 1) := drop_of ht
        rw [hdrop] at hT
        obtain ⟨hs1, hs2, hs3⟩ := HSM.out.2 t (List.mem_of_getElem? ht)
        have HS64 : Hid (t.2.2.length ≤ 100 ∧ W64 t.2.2) := ⟨hs2, hs3.2.2⟩
        obtain ⟨n0, hn0⟩ : ∃ n0, n0 = t.2.1.length := ⟨_, rfl⟩
        have HN0 : Hid (n0 = t.2.1.length) := hn0
        obtain ⟨m0, hm0⟩ : ∃ m0, m0 = t.2.2.length := ⟨_, rfl⟩
        have HM0 : Hid (m0 = t.2.2.length) := hm0
        rw [← hn0] at hl2 hc1'
        rw [← hm0] at hc2'
        have FB : Hid (Nb (wo.alloc (.cells #[.int .i64 t.1, .slice P n0 e, .slice Q m0 g] 25)) wo.heap.size t.1 P n0 e Q m0 g) := Nb.new rfl
        have z1 := FB.out.c1
        obtain ⟨wb, hwb⟩ : ∃ wb, wb = wo.alloc (.cells #[.int .i64 t.1, .slice P n0 e, .slice Q m0 g] 25) := ⟨_, rfl⟩
        have KB : Hid (Kp wo wb) := by show Kp _ _; rw [hwb]; exact Kp.alloc_ _ _
        have FW : Hid (Nb wb wo.heap.size t.1 P n0 e Q m0 g) := by rw [hwb]; exact FB.out
        clear hdrop ht hrg hN hcP hcQ hn0 hm0 hs1 hs2 hs3
        go_wp2
        rw [← hwb]
        clear hwb FB z1 hc0 hc1' hc2'
        go_loopw [8, 29] (fun v i wx => ∃ j : Nat, ∃ gs : List (List Int), Hid (OwnX wb.heap.size (fun b => (Value.slice A6 na c6).ownBlock ≠ some b) wx v gs) ∧ i = .int .i64 (j : Int) ∧ Hid (j ≤ n0) ∧ Hid (gs = argsOf acc (t.2.1.take j)) ∧ Hid (Kp wb wx)) (fun _ i _ => n0 - (intOf i).toNat)
        case atStart => exact ⟨0, [], OwnX.nil_ _ _ _, rfl, Nat.zero_le _, rfl, Kp.refl _⟩
        case round =>
          obtain ⟨j, gs, hG, rfl, hjn, hgs, hK2⟩ := hrel
          have KR := Lib.hid (KB.out.tr hK2.out)
          obtain ⟨A8, c8, rfl, hR8, hc81, hc82⟩ := hG.out.form
          have hgl : Hid (gs.length ≤ 2) := by show _ ≤ _; rw [hgs.out]; unfold argsOf; rw [List.length_map, List.length_take, ← HN0.out]; omega
          have q0 := (FW.out.kp hK2.out).c0
          have q1 := (FW.out.kp hK2.out).c1
          have q2 := (FW.out.kp hK2.out).c2
          by_cases hq : j < n0
          · have hq' : (j : Int) < (n0 : Int) := by omega
            obtain ⟨ap, a, rfl, hlp, ha, hca⟩ := (HN.out.ra.kp KR.out).at_ (k := j) (by rw [← HN0.out]; exact hq)
            obtain ⟨ha0, ha1⟩ := HRG.out a (List.mem_of_getElem? ha)
            obtain ⟨a', rfl⟩ : ∃ a' : Nat, a = (a' : Int) := ⟨a.toNat, by omega⟩
            have hnk' := hnk.out
            obtain ⟨ad6, s, P6, e6, rfl, hl6, hs, hc6', rs, l1, l2, xs⟩ := HR6.out.at_ (k := a') (by rw [← HNA.out]; omega)
            have q6 := (KR.out.cell (p := ad6.add a') (by rw [block_of_add]; exact hl6)).trans hc6'
            have hna1 : (a' : Int) < (na : Int) := by omega
            have hz1 : Hid (argsOf acc (t.2.1.take (j + 1)) = gs ++ [s]) := by show _ = _; rw [args_take ha hs, hgs.out]
            have HX1 : Hid (∀ ad', P6 = some ad' → 0 < s.length → (Value.slice (some ad6) na c6).ownBlock ≠ some ad'.block ∧ (Value.slice A8 gs.length c8).ownBlock ≠ some ad'.block) := fun ad' e1 e2 => by
              refine ⟨(xs ad' e1 e2).2, fun e3 => ?_⟩
              have h1 := hG.out.from_ e3
              obtain ⟨ad2, e4, hb, _⟩ := rs.2 e2
              rw [e1] at e4; injection e4 with e4; subst e4
              have := KB.out.size
              omega
            have HRS := Lib.hid (rs.kp KR.out)
            clear ha hs hc6' rs xs hnk' hR8
            go_wp2_with (at_builtin; refine wpList_appX (B := wb.heap.size) (X := fun b => (Value.slice (some ad6) na c6).ownBlock ≠ some b) rfl (.tmp 33) (.tmp 38) rfl _ gs rfl (hG.out.kp (Kp.alloc_ _ _)) _ _ [s] 1 rfl rfl (RdLX.one HRS.out l1 l2 HX1.out _) (by have := hgl.out; simp; omega) (by have := hK2.out.size; simp; omega) ?_; intro z1 A1 c1 w6 HZ1 o1 b1 _; have O1 := Lib.hid o1; have K6 : Hid (Kp wb w6) := (gal hK2.out _).trans b1; clear o1 b1)
            go_roundw
            case rel => exact ⟨j + 1, z1, O1.out, by go_num, (by show j + 1 ≤ n0; omega), (by show z1 = _; rw [HZ1.out, hz1.out]), K6.out⟩
            case measure => simp [intOf]; omega
          · have hq' : ¬ (j : Int) < (n0 : Int) := by omega
            have hgs2 : Hid (gs = argsOf acc t.2.1) := by show _ = _; rw [hgs.out, List.take_of_length_le (by rw [← HN0.out]; omega)]
            have KV := Lib.hid (KW.out.tr KR.out)
            obtain ⟨ng, hng⟩ : ∃ ng, ng = gs.length := ⟨_, rfl⟩
            have HND : Hid (Calls Try.prog 11 #[.agg #[.int .i64 t.1, .slice P n0 e, .slice Q m0 g], .slice A8 ng c8] wr (RetI (nodeV t.1 t.2.2 gs) wr)) :=
              node_i t.1 t.2.2 P Q A8 n0 e m0 g ng c8 gs wr (HN.out.rn.kp KR.out) hR8.all HM0.out (by rw [HM0.out]; exact HCQ.out) hng ⟨by rw [hng]; exact hc81, hc82⟩ HS64.out.2 HS64.out.1
            rw [← hng]
            rcases node_cases t.1 t.2.2 gs with ⟨s, hn, _⟩ | hn
            · rw [hn] at HND
              have hT2 : Hid (shF (l.drop (k + 1)) (acc ++ [s]) = r) := by
                show _ = _
                rw [← hT.out, sh_cons_ok (s := s) (by rw [← hgs2.out]; exact hn)]
              clear hn hR8 hng
              go_wp2_with fail
              refine (Hid.out HND).mono ?_; rintro e3 w3 ⟨A3, c3, rfl, s3, x3, k3⟩
              have K3 := Lib.hid (KR.out.tr k3)
              have HX3 : Hid (∀ ad', A3 = some ad' → 0 < s.length → True ∧ (Value.slice A6 na c6).ownBlock ≠ some ad'.block) := fun ad' e1 e2 => ⟨trivial, fun e3 => by
                have h1 := x3 ad' e1 e2
                have h2 := hO.out.row_lt e3
                have := KR.out.size
                omega⟩
              have S3 := Lib.hid s3
              have HL3 := Lib.hid (And.intro hnk.out (And.intro HL24.out HNA.out))
              clear k3 x3 s3
              go_wp2_with (at_builtin; refine wpList_appX (B := w1.heap.size) (X := fun _ => True) rfl (.tmp 51) (.tmp 53) rfl _ acc rfl (hO.out.kp (gal K3.out _)) _ _ [s] 1 rfl rfl (RdLX.one S3.out.rd S3.out.le S3.out.cap HX3.out _) (by have := HL3.out; simp; omega) (by have := (hK.out.tr K3.out).size; simp; omega) ?_; intro z1 A1 c1 w6 HZ1 o1 b1 _; have O1 := Lib.hid o1; have K6 : Hid (Kp w1 w6) := (gal (hK.out.tr K3.out) _).trans b1; clear o1 b1)
              go_roundw
              case rel => exact ⟨k + 1, z1, O1.out, by go_num, (by show k + 1 ≤ l.length; omega), (by show z1.length = _; rw [HZ1.out, List.length_append, hal.out]; rfl), (by show shF _ z1 = r; rw [HZ1.out]; exact hT2.out), K6.out⟩
              case measure => simp [intOf]; omega
            · rw [hn] at HND
              have hv : r = ([], (k : Int), 20) := by rw [← hT.out, sh_cons_no (by rw [← hgs2.out]; exact hn), hal.out]
              subst hv
              clear hn hR8 hT hng
              go_wp2_with fail
              refine (Hid.out HND).mono ?_; rintro e3 w3 ⟨A3, c3, rfl, s3, x3, k3⟩
              have K3 := Lib.hid (KV.out.tr k3)
              clear k3 x3 s3
              go_wp2
              go_ret3
              exact RetSS.none_ K3.out _ 20
      · have hj' : ¬ (k : Int) < (l.length : Int) := by omega
        have hv : r = (acc, -1, 0) := by rw [← hT.out, List.drop_eq_nil_of_le (by omega)]; rfl
        subst hv
        go_wp2
        go_ret3
        exact ⟨A6, c6, by rw [← HNA.out]; rfl, HR6.out.all, HC6.out, K1.out.tr hK.out⟩
end Go.Proofs.Ytnkkkpanlnencaa.Iz
