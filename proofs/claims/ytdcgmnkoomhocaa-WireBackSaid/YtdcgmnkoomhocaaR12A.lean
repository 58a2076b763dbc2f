/- The document's layer 12: Write. -/
import Derived.Test.YtdcgmnkoomhocaaWiM
import Derived.Test.YtdcgmnkoomhocaaR8B
import Derived.Deep.RegionLaw
namespace Go.Proofs.Ytdcgmnkoomhocaa
open Go.RowKit Go.Proofs.ShM Go.Proofs.GrM Go.Proofs.PkM Go.Proofs.WiM
set_option linter.unusedVariables false
set_option maxHeartbeats 8000000

/-- append of bytes, as one step of a region that draws its order. -/
theorem step_app12 {w : World} {B : Nat} {ops : Array Oper} {o : Oper} {a : Act} {K : Act → World → Prop} {Q : Exit → Act → World → Prop} {E : Prop} (hgd : o.guard = none) (s x : Operand)
    (hop : o.op = .call { callee := .builtin .append, args := #[s, x], argTypes := #[23, 23] })
    (v : Value) (xs : List Int) (hs : a.eval s = v) (ho : B8.Own B w v xs) (A : Option Addr) (c : Nat) (ys : List Int) (n : Nat) (hx : a.eval x = .slice A n c) (hn : n = ys.length) (hr : B8.Rd w A ys)
    (hl : xs.length + ys.length ≤ 1000000) (hB : B ≤ w.heap.size)
    (h : ∀ zs A' c' w', Hid (zs = xs ++ ys) → B8.Own B w' (.slice A' zs.length c') zs → Below B w w' → K (a.put o.dst (.slice A' zs.length c')) w') :
    if Region.wanted o (yielded ops a.tmps) = true then Oper.wp Try.prog o a w K Q else E := by
  have hw : Region.wanted o (yielded ops a.tmps) = true := by simp [Region.wanted, hgd]
  rw [if_pos hw]
  subst hn
  obtain ⟨zs, A', c', w', e, hrun, h1, h2⟩ := B8.run_app ho c hr hl hB o.type
  unfold Oper.wp execOp
  simp only [hop, resolve, invoke, builtin, Sem.run_bind, Sem.run_pure, Result.andThen_ok, List.map_toArray, List.map_cons, List.map_nil, hs, hx, hrun]
  exact h zs A' c' w' e h1 h2
theorem enc_take {l : List Nd} {k : Nat} {t : Nd} (h : l[k]? = some t) : encN (l.take (k + 1)) = encN (l.take k) ++ nodeW t := by
  rw [take_of h]; unfold encN; rw [List.flatMap_append]; simp
theorem small_nd {l : List Nd} (h : checkB l = true) {k : Nat} {t : Nd} (ht : l[k]? = some t) : 0 ≤ t.1 ∧ t.1 ≤ 255 ∧ t.2.1.length ≤ 2 ∧ t.2.2.length ≤ 4 ∧ ∀ n ∈ t.2.1, 0 ≤ n ∧ n ≤ 255 := by
  obtain ⟨g1, g2, g3, g4, _⟩ := node_iff.1 ((check_iff.1 h).2.2 k t ht)
  have hk := (List.getElem?_eq_some_iff.1 ht).1
  have h24 := (check_iff.1 h).2.1
  have w := check_wf (l := [(3, [], [0])]) (by decide) (fun t ht => by rw [List.mem_singleton.1 ht]; intro n hn; rw [List.mem_singleton.1 hn]; omega)
  have ho : 0 ≤ t.1 ∧ t.1 ≤ 255 ∧ arityV t.1 ≤ 2 := by
    unfold arityV at g1 ⊢
    split at g1
    · rename_i q; rw [if_pos q]; omega
    · rename_i q
      rw [if_neg q]
      split at g1
      · rename_i q2; rw [if_pos q2]; omega
      · rename_i q2
        rw [if_neg q2]
        split at g1
        · rename_i q3; rw [if_pos q3]; omega
        · omega
  have hn : t.2.2.length ≤ 4 := by
    unfold numsB at g3
    have hs : ∀ s : List Int, okS s = true → s.length ≤ 3 := fun s hs => (ok_iff.1 hs).1
    split at g3
    · have := hs _ g3; omega
    · split at g3
      · cases e : t.2.2 with
        | nil => simp
        | cons p s =>
          rw [e] at g3
          have g3 : (decide (0 ≤ p ∧ p ≤ 7) && okS s) = true := g3
          rw [Bool.and_eq_true] at g3
          have := hs s g3.2
          simp; omega
      · split at g3
        · have := of_decide_eq_true g3; omega
        · split at g3
          · have := of_decide_eq_true g3; omega
          · have := of_decide_eq_true g3; omega
  exact ⟨ho.1, ho.2.1, by omega, hn, fun n hn => by have := g4 n hn; omega⟩
theorem enc_small {l : List Nd} (h : checkB l = true) : ∀ k : Nat, k ≤ l.length → (encN (l.take k)).length ≤ 40 * k
  | 0, _ => by simp [encN]
  | k + 1, hk => by
    have ht : l[k]? = some l[k] := List.getElem?_eq_getElem (by omega)
    obtain ⟨_, _, g1, g2, _⟩ := small_nd h ht
    rw [enc_take ht, List.length_append]
    have i := enc_small h k (by omega)
    have : (nodeW l[k]).length = 3 + l[k].2.1.length + 8 * l[k].2.2.length := by
      unfold nodeW
      rw [List.length_cons, List.length_append, List.length_cons, List.length_cons, all_len, all_len]; omega
    omega
set_option maxRecDepth 100000 in
theorem rwrite12 (A : Option Addr) (c : Nat) (l : List Nd) (w : World) (h : RdG w A l) :
    Calls Try.prog 10 #[.slice A l.length c] w (RetBE (writeV l).1 (writeV l).2 w) := by
  have hl := h.len
  have HRD := Lib.hid h
  have HC := Lib.hid (rcheck10 A c l w h)
  cases hck : checkB l with
  | false =>
    rw [hck] at HC
    rw [show writeV l = ([], 100) by unfold writeV; rw [if_neg (by simp [hck])]]
    clear hck h
    go_enter Try.func10, Try.ntmps10
    go_wp2_with fail
    refine (Hid.out HC).mono ?_; rintro e w1 ⟨rfl, k1⟩
    have K1 := Lib.hid k1
    clear k1
    go_wp2
    go_ret2
    exact ⟨none, 0, rfl, B8.Own.nil_ _ _, K1.out⟩
  | true =>
    rw [hck] at HC
    obtain ⟨r, hr⟩ : ∃ r, r = (l.length : Int) :: encN l := ⟨_, rfl⟩
    rw [show writeV l = (r, 0) by unfold writeV; rw [if_pos hck, hr]]
    have HR := Lib.hid hr
    have h24 := (check_iff.1 hck).2.1
    have HSM : Hid (∀ (k : Nat) (t : Nd), l[k]? = some t → 0 ≤ t.1 ∧ t.1 ≤ 255 ∧ t.2.1.length ≤ 2 ∧ t.2.2.length ≤ 4 ∧ ∀ n ∈ t.2.1, 0 ≤ n ∧ n ≤ 255) := fun k t ht => small_nd hck ht
    have HES : Hid (∀ k : Nat, k ≤ l.length → (encN (l.take k)).length ≤ 40 * k) := enc_small hck
    have hlb : (l.length : Int) % 256 = (l.length : Int) := by omega
    clear hck h hr
    go_enter Try.func10, Try.ntmps10
    go_wp2_with fail
    refine (Hid.out HC).mono ?_; rintro e w1 ⟨rfl, k1⟩
    have K1 := Lib.hid k1
    clear k1
    have HLA : Hid (∀ (E P : Option Addr) (f e n0 : Nat) (cu la x : List Int) (V : World), B8.Rd V E cu → cu.length ≤ 200000 → Rd V P la → n0 = la.length → la.length ≤ 255 → (∀ n ∈ la, 0 ≤ n ∧ n ≤ 255) → cu ++ [(la.length : Int)] ++ allB la 1 = x → Calls Try.prog 19 #[.slice E cu.length f, .slice P n0 e, .int .i64 1] V (RetBE x 0 V)) := fun E P f e n0 cu la x V h1 h2 h3 h4 h5 h6 h7 => by
      subst h4 h7
      have h := rlist8_any E P f e cu la 1 V h1 h3 h2
      rw [list_one h5 h6] at h
      exact h
    have HLB : Hid (∀ (E P : Option Addr) (f e n0 : Nat) (cu la x : List Int) (V : World), B8.Rd V E cu → cu.length ≤ 200000 → Rd V P la → n0 = la.length → la.length ≤ 255 → cu ++ [(la.length : Int)] ++ allB la 8 = x → Calls Try.prog 19 #[.slice E cu.length f, .slice P n0 e, .int .i64 8] V (RetBE x 0 V)) := fun E P f e n0 cu la x V h1 h2 h3 h4 h5 h7 => by
      subst h4 h7
      have h := rlist8_any E P f e cu la 8 V h1 h3 h2
      rw [list_eight h5] at h
      exact h
    go_wp2
    go_loopw [5, 6] (fun v i wx => ∃ (k : Nat) (E : Option Addr) (f : Nat) (cur : List Int), v = .slice E cur.length f ∧ i = .int .i64 (k : Int) ∧ Hid (k ≤ l.length) ∧ Hid (cur = (l.length : Int) :: encN (l.take k)) ∧ Hid (B8.Own w1.heap.size wx (.slice E cur.length f) cur) ∧ Hid (Kp w1 wx)) (fun _ i _ => l.length - (intOf i).toNat)
    case atStart => exact ⟨0, _, _, [(l.length : Int)], rfl, rfl, Nat.zero_le _, (by show _ = _; simp [encN]), B8.Own.one w1 _ (Nat.le_refl _), Kp.alloc_ _ _⟩
    case round =>
      obtain ⟨k, E, f, cur, rfl, rfl, hk, hcur, hO, hK⟩ := hrel
      by_cases hj : k < l.length
      · have hj' : (k : Int) < (l.length : Int) := by omega
        have KW := Lib.hid (K1.out.tr hK.out)
        obtain ⟨ad, t, P, e, Q, g, rfl, hlt, ht, hc0, hc1, hc2, hN, _, _⟩ := HRD.out.at_ hj
        obtain ⟨o0, o1, s1, s2, s3⟩ := HSM.out k t ht
        have HET := Lib.hid (enc_take ht)
        have hes := HES.out k (by omega)
        obtain ⟨op, la, nums⟩ := t
        have ra : Hid (Rd w P la) := hN.ra
        have rn : Hid (Rd w Q nums) := hN.rn
        replace o0 : 0 ≤ op := o0
        replace o1 : op ≤ 255 := o1
        replace s1 : la.length ≤ 2 := s1
        replace s2 : nums.length ≤ 4 := s2
        have S3 : Hid (∀ n ∈ la, 0 ≤ n ∧ n ≤ 255) := s3
        have HC3 : Hid (∀ V, Kp w1 V → V.cell? (ad.add (k * 3)) = some (.int .i64 op) ∧ V.cell? ⟨(ad.add (k * 3)).block, (ad.add (k * 3)).off + 1, none⟩ = some (.slice P la.length e) ∧ V.cell? ⟨(ad.add (k * 3)).block, (ad.add (k * 3)).off + 2, none⟩ = some (.slice Q nums.length g)) := fun V kV =>
          ⟨((K1.out.tr kV).cell (by rw [block_of_add]; exact hlt)).trans hc0, ((K1.out.tr kV).cell (by rw [block_of_add]; exact hlt)).trans hc1, ((K1.out.tr kV).cell (by rw [block_of_add]; exact hlt)).trans hc2⟩
        have hcl : Hid (cur.length ≤ 1000) := by
          show cur.length ≤ 1000
          rw [hcur.out, List.length_cons]; omega
        have hob : IntKind.u8.wrap op = op := by
          have h : IntKind.u8.wrap op = op % 256 := by simp [IntKind.wrap, IntKind.signed, IntKind.bits]
          rw [h]; omega
        obtain ⟨x7, hx7⟩ : ∃ x7, x7 = (cur ++ [op]) ++ [(la.length : Int)] ++ allB la 1 := ⟨_, rfl⟩
        have hx7l : Hid (x7.length ≤ 2000) := by
          show x7.length ≤ 2000
          have := hcl.out
          rw [hx7, List.length_append, List.length_append, List.length_append, all_len]; simp; omega
        obtain ⟨x9, hx9⟩ : ∃ x9, x9 = x7 ++ [(nums.length : Int)] ++ allB nums 8 := ⟨_, rfl⟩
        have hx9e : Hid (x9 = (l.length : Int) :: encN (l.take (k + 1))) := by
          show x9 = _
          rw [HET.out, hx9, hx7, hcur.out]
          unfold nodeW
          simp
        have HX7 := Lib.hid hx7
        have HX9 := Lib.hid hx9
        have S12 : Hid (la.length ≤ 255 ∧ nums.length ≤ 255) := ⟨by omega, by omega⟩
        have ca := HC3.out wr.drew (hK.out.tr (Kp.drewN_ _ 1))
        obtain ⟨ca0, ca1, _⟩ := ca
        have cb := HC3.out (wr.alloc (.cells #[.int .u8 op] 5)) (hK.out.tr (Kp.alloc_ _ _))
        obtain ⟨cb0, cb1, _⟩ := cb
        clear hN ht hc0 hc1 hc2 s3 hx7 hx9 hes
        go_wp2_with fail
        go_cut [7, 8] (fun v7 v8 wx => ∃ E7 f7, v7 = .slice E7 x7.length f7 ∧ v8 = .int .i64 0 ∧ Hid (B8.Own w1.heap.size wx (.slice E7 x7.length f7) x7) ∧ Hid (Kp w1 wx))
        case first =>
          go_region_law (first
            | (refine step_app12 (B := w1.heap.size) rfl (.tmp 26) (.tmp 33) rfl _ cur rfl (hO.out.kp (Below.drew (Kp.alloc_ _ _))) _ _ [op] 1 rfl rfl (B8.Rd.one _ _ _).drew (by have := hcl.out; simp; omega) (by have := hK.out.size; simp; omega) ?_; intro z1 A1 c1 w4 HZ1 q1 b1; have O1 := Lib.hid q1; have B1 : Hid (Kp w1 w4) := (Below.drew (gal hK.out _)).trans b1; have cc1 := (HC3.out _ B1.out).2.1; clear q1 b1)
            | (go_simp; refine (HLA.out A1 P c1 e la.length z1 la x7 w4 (B8.own_room O1.out).1 (by have := hcl.out; rw [HZ1.out]; simp; omega) (ra.out.kp (K1.out.tr B1.out)) rfl S12.out.1 S3.out (by rw [HX7.out, HZ1.out])).mono ?_; rintro e0 w5 ⟨A5, c5, rfl, o5, k5⟩; have O5 := Lib.hid o5; have K5 := Lib.hid k5; clear o5 k5))
          all_goals
            have O6 := O5.out.weak (B := w1.heap.size) B1.out.size
            have K6 := B1.out.tr K5.out
            have O7 := Lib.hid O6
            have K7 := Lib.hid K6
            clear O6 K6
            go_wp2
            go_meet
            exact ⟨A5, c5, rfl, rfl, O7.out, K7.out⟩
        case rest =>
          obtain ⟨E7, f7, rfl, rfl, O7, K7⟩ := hcut
          obtain ⟨_, d1, d2⟩ := HC3.out _ K7.out
          go_wp2_with fail
          refine (HLB.out E7 Q f7 g nums.length x7 nums x9 wc (B8.own_room O7.out).1 (by have := hx7l.out; omega) (rn.out.kp (K1.out.tr K7.out)) rfl S12.out.2 HX9.out.symm).mono ?_; rintro e0 w9 ⟨A9, c9, rfl, o9, k9⟩
          have O9 := o9.weak (B := w1.heap.size) K7.out.size
          have OO := Lib.hid O9
          have K9 := Lib.hid (K7.out.tr k9)
          clear o9 k9 O9
          go_wp2
          go_roundw
          case rel => exact ⟨k + 1, A9, c9, x9, rfl, by go_num, (by show k + 1 ≤ l.length; omega), hx9e.out, OO.out, K9.out⟩
          case measure => simp [intOf]; omega
      · have hj' : ¬ (k : Int) < (l.length : Int) := by omega
        have hcr : cur = r := by rw [hcur.out, HR.out, List.take_of_length_le (by omega)]
        subst hcr
        go_wp2
        go_ret2
        exact ⟨E, f, rfl, hO.out.weak K1.out.size, K1.out.tr hK.out⟩
end Go.Proofs.Ytdcgmnkoomhocaa
