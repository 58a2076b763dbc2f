/- The landed infer: whether a node may be, of such numbers, of so many shapes. -/
import Derived.Test.YtnkkkpanlnencaaInZg
import Derived.Deep.RegionHeld3
import Derived.Deep.DeepCutAuto
namespace Go.Proofs.Ytnkkkpanlnencaa.Iz
open Go.RowKit Go.Proofs.ShM Go.Proofs.GrM Go.Proofs.InM Go.Proofs.Ytnkkkpanlnencaa.Gz
set_option linter.unusedVariables false
set_option linter.unusedSimpArgs false
set_option maxHeartbeats 8000000

theorem all_step {gs : List (List Int)} {k : Nat} {s : List Int} (h : (gs.take k).all okS = true) (hs : gs[k]? = some s) (ho : okS s = true) : (gs.take (k + 1)).all okS = true := by
  rw [List.take_add_one, hs, List.all_append, h]; simp [ho]
theorem all_off {gs : List (List Int)} {k : Nat} {s : List Int} (hs : gs[k]? = some s) (ho : okS s = false) : gs.all okS = false := by
  cases e : gs.all okS with
  | false => rfl
  | true =>
    rw [List.all_eq_true] at e
    rw [e s (List.mem_of_getElem? hs)] at ho; cases ho

/-- Where the loop stands: nodes of a number, a node whose Args are counted. -/
structure Lp (w1 : World) (G : Nat) (op : Int) (Q : Option Addr) (m d : Nat) (k : Nat) (L : Option Addr) (cl : Nat) (D : Option Addr) (cd : Nat) (W : World) : Prop where
  ol : OwnY (G + 1) (fun b => (Value.slice D k cd).ownBlock ≠ some b ∧ G + 1 ≤ b) W (.slice L k cl) (List.replicate k cst)
  od : Own (G + 1) W (.slice D k cd) (idxL k)
  ob : Nb W G op D k cd Q m d
  on : ∀ g, (Value.slice L k cl).ownBlock = some g → (Value.slice D k cd).ownBlock ≠ some g
  ok : Kp w1 W
theorem Nb.put1i {W : World} {b n c m d n' c' : Nat} {op : Int} {P Q P' : Option Addr} (h : Nb W b op P n c Q m d) : Nb (W.setCell ⟨b, 1, none⟩ (.slice P' n' c')) b op P' n' c' Q m d := by
  obtain ⟨hlt, hk⟩ := Array.getElem?_eq_some_iff.1 h
  show (W.heap.modify b _)[b]? = _
  rw [Array.getElem?_eq_getElem (by rw [Array.size_modify]; exact hlt), Array.getElem_modify_self, hk]
  rfl
theorem Nb.tbi {W W' : World} {b n c m d : Nat} {op : Int} {P Q : Option Addr} {B : Nat} (h : Nb W b op P n c Q m d) (k : Below B W W') (hb : b < B) : Nb W' b op P n c Q m d := (k.block b hb).trans h

set_option maxRecDepth 100000 in
theorem maybe_i (op : Int) (nums : List Int) (P Q A : Option Addr) (n c m d na e : Nat) (gs : List (List Int)) (r : Bool) (w : World) (hQ : Rd w Q nums) (hA : RdL w A gs) (hm : m = nums.length) (hd : m ≤ d ∧ d ≤ 9223372036854775807) (hna : na = gs.length) (he : na ≤ e ∧ e ≤ 9223372036854775807)
    (hr : (decide ((na : Int) = arityV op) && (numsB (op, [], nums) && gs.all okS)) = r) :
    Calls Try.prog 20 #[.agg #[.int .i64 op, .slice P n c, .slice Q m d], .slice A na e] w fun e w' => e = .returned (.bool r) ∧ Kp w w' := by
  obtain ⟨v, hv⟩ : ∃ v, v = arityV op := ⟨_, rfl⟩
  have HAR := Lib.hid (fun W => arity_any op v W hv.symm)
  have HV := Lib.hid hv
  have F0 : Hid (Nb (w.alloc (.cells #[.int .i64 op, .slice P n c, .slice Q m d] 25)) w.heap.size op P n c Q m d) := Nb.new rfl
  have K0 : Hid (Kp w (w.alloc (.cells #[.int .i64 op, .slice P n c, .slice Q m d] 25))) := Kp.alloc_ _ _
  have x0 := F0.out.c0
  by_cases h1 : (na : Int) = v
  · have e1 : ((na : Int) != v) = false := by rw [bne_eq_false_iff_eq]; exact h1
    have HRR : Hid ((numsB (op, [], nums) && gs.all okS) = r) := by show _ = r; rw [← hr, ← hv, h1]; simp
    have hle : na ≤ 2 := by have := arity_le op; omega
    have HAL := Lib.hid (alone_check (nums := nums) (h1.trans hv))
    have HRA := Lib.hid hA
    have HRQ := Lib.hid hQ
    have HNA := Lib.hid hna
    have HD := Lib.hid hd
    have HM := Lib.hid hm
    clear hr h1 hv hQ hA hna hd hm
    go_enter Try.func20, Try.ntmps20
    go_wp2_with fail
    refine (HAR.out _).mono ?_; rintro e0 w1 ⟨rfl, k1⟩
    have K1 := Lib.hid (K0.out.tr k1)
    have F1 := Lib.hid (F0.out.kp k1)
    have y0 := F1.out.c0
    have y2 := F1.out.c2
    clear k1 x0 HAR
    go_wp2
    go_loopw [5, 22] (fun v i wx => ∃ (k : Nat) (L : Option Addr) (cl : Nat) (D : Option Addr) (cd : Nat), v = .slice L k cl ∧ i = .int .i64 (k : Int) ∧ Hid (k ≤ na) ∧ Hid (Lp w1 w1.heap.size op Q m d k L cl D cd wx) ∧ Hid ((gs.take k).all okS = true)) (fun _ i _ => na - (intOf i).toNat)
    case atStart =>
      refine ⟨0, none, 0, none, 0, rfl, rfl, Nat.zero_le _, ?_, (by show (gs.take 0).all okS = true; simp)⟩
      exact ⟨OwnY.nil_ _ _ _, Own.nil_ _ _, Nb.new rfl, fun g e => (by cases e), Kp.alloc_ _ _⟩
    case round =>
      obtain ⟨k, L, cl, D, cd, rfl, rfl, hk, hLp, hall⟩ := hrel
      by_cases hj : k < na
      · have hj' : (k : Int) < (na : Int) := by omega
        have KW := Lib.hid (K1.out.tr hLp.out.ok)
        obtain ⟨ad, s, As, cs, rfl, hlt, hs, hc, rs, l1, l2, _⟩ := (HRA.out.kp KW.out).at_ (k := k) (by rw [← HNA.out]; exact hj)
        have HCK := Lib.hid (check_any As cs s wr rs)
        have HS := Lib.hid hs
        clear hs rs
        cases ho : okS s with
        | false =>
          rw [ho] at HCK
          have hv2 : r = false := by rw [← HRR.out, all_off HS.out ho, Bool.and_false]
          subst hv2
          clear ho
          go_wp2_with fail
          refine HCK.out.mono ?_; rintro e0 w2 ⟨rfl, rfl⟩
          go_wp2
          go_ret
          exact ⟨rfl, KW.out⟩
        | true =>
          rw [ho] at HCK
          have HALL := Lib.hid (all_step hall.out HS.out ho)
          have p1 := hLp.out.ob.c1
          have q1 := hLp.out.ob.f0 1
          have hGs : Hid (w1.heap.size + 1 ≤ wr.heap.size) := hLp.out.ob.lt
          have hle2 : Hid (k ≤ 2) := by show k ≤ 2; omega
          clear ho
          go_wp2_with fail
          refine HCK.out.mono ?_; rintro e0 w2 ⟨rfl, rfl⟩
          have HX1 : Hid (RdN ((wr.alloc (.cells #[.int .i64 0] 3)).alloc (.cells #[.int .i64 3, .slice none 0 0, .slice (some ⟨wr.heap.size, 0, none⟩) 1 1] 25)) (fun b => ((Value.slice D k cd).ownBlock ≠ some b ∧ w1.heap.size + 1 ≤ b) ∧ (Value.slice L k cl).ownBlock ≠ some b) (some ⟨wr.heap.size + 1, 0, none⟩) [cst]) := by
            have h := RdN.one (w := wr.alloc (.cells #[.int .i64 0] 3)) (X := fun b => ((Value.slice D k cd).ownBlock ≠ some b ∧ w1.heap.size + 1 ≤ b) ∧ (Value.slice L k cl).ownBlock ≠ some b) (P := none) (Q := some ⟨wr.heap.size, 0, none⟩) (t := cst) (c := 0) (d := 1)
              ⟨Rd.nil _ _, Rd.one wr 0 _, fun ad e1 e2 => (by cases e1), fun ad e1 e2 => by
                injection e1 with e1
                subst e1
                exact ⟨⟨fun e3 => (by have := (own_lt hLp.out.od e3).2; exact Nat.lt_irrefl _ this), hGs.out⟩, fun e3 => Nat.lt_irrefl _ (hLp.out.ol.own.row_lt e3)⟩⟩ ⟨Nat.le_refl _, by omega⟩ ⟨Nat.le_refl _, by omega⟩ 25
            rw [World.size_alloc] at h
            exact h
          have KA : Hid (Kp wr ((wr.alloc (.cells #[.int .i64 0] 3)).alloc (.cells #[.int .i64 3, .slice none 0 0, .slice (some ⟨wr.heap.size, 0, none⟩) 1 1] 25))) := (Kp.alloc_ _ _).tr (Kp.alloc_ _ _)
          go_wp2_with (first
            | (at_builtin; refine wpList_appY (B := w1.heap.size + 1) (X := fun b => (Value.slice D k cd).ownBlock ≠ some b ∧ w1.heap.size + 1 ≤ b) rfl (.tmp 30) (.tmp 33) rfl (.slice L k cl) (List.replicate k cst) rfl (hLp.out.ol.kp KA.out) _ _ [cst] 1 rfl rfl HX1.out (by decide) (by have := hle2.out; simp; omega) (by have := hGs.out; simp; omega) ?_; intro z1 A1 c1 w5 HZ1 o1 b1 g1 r1; have O1 := Lib.hid o1; have B1 := Lib.hid b1; have G1 := Lib.hid g1; have R1 := Lib.hid r1; have N5 : Hid (Nb w5 w1.heap.size op D k cd Q m d) := Nb.tbi (hLp.out.ob.kp KA.out) b1 (Nat.lt_succ_self _); have p5 := N5.out.c1; have D5 : Hid (Own (w1.heap.size + 1) w5 (.slice D k cd) (idxL k)) := (hLp.out.od.kp KA.out).of_block (fun g e => g1.block g (by have := (own_lt hLp.out.od e).2; have := KA.out.size; omega) (fun e2 => hLp.out.on g e2.symm e)); have S5 : Hid (w1.heap.size + 1 ≤ w5.heap.size) := N5.out.lt; clear o1 b1 g1 r1)
            | (at_builtin; refine wpList_appG (B := w1.heap.size + 1) (ys := [(k : Int)]) rfl (.tmp 36) (.tmp 38) rfl (.slice D k cd) rfl (D5.out.kp (Kp.alloc_ _ _)) _ _ 1 rfl rfl (Rd.one _ _ _) (by simp) (by rw [idx_len]; have := hle2.out; simp; omega) (by have := S5.out; simp; omega) ?_; intro z2 A2 c2 w7 HZ2 o2 b2 g2 r2; have O2 := Lib.hid o2; have B2 := Lib.hid b2; have G2 := Lib.hid g2; have R2 := Lib.hid r2; have N7 : Hid (Nb w7 w1.heap.size op D k cd Q m d) := Nb.tbi (N5.out.kp (Kp.alloc_ _ _)) b2 (Nat.lt_succ_self _); have p7 := N7.out.c1; have q7 := N7.out.f0 1; clear o2 b2 g2 r2))
          have hz1 : z1 = List.replicate (k + 1) cst := by rw [HZ1.out, cst_succ]
          have hz2 : z2 = idxL (k + 1) := by rw [HZ2.out, idx_succ]
          have l1 : z1.length = k + 1 := by rw [hz1, List.length_replicate]
          have l2 : z2.length = k + 1 := by rw [hz2, idx_len]
          subst hz1
          subst hz2
          rw [l1] at O1 R1 ⊢
          rw [l2] at O2 R2 ⊢
          refine ⟨⟨k + 1, A1, c1, A2, c2, rfl, by go_num, (by show k + 1 ≤ na; omega), ?_, HALL.out⟩, by simp [intOf]; omega⟩
          have hw56 : (w5.alloc (.cells #[.int .i64 (k : Int)] 3)).heap.size = w5.heap.size + 1 := World.size_alloc _ _
          have hKA := KA.out.size
          have hwr5 : wr.heap.size ≤ w5.heap.size := by have := B1.out.size; omega
          have hD5 : ∀ g, (Value.slice D k cd).ownBlock = some g → w1.heap.size + 1 ≤ g ∧ g < wr.heap.size := fun g e => own_lt hLp.out.od e
          have hne5 : ∀ g, (Value.slice A1 (k + 1) c1).ownBlock = some g → (Value.slice D k cd).ownBlock ≠ some g := fun g e e2 => by
            rcases R1.out with h | h
            · exact hLp.out.on g (h.symm.trans e) e2
            · rw [e] at h; injection h with h
              have := (hD5 g e2).2
              omega
          have KB : Below (w1.heap.size + 1) wr w7 := ((Below.mono KA.out hGs.out).trans B1.out).trans ((Below.mono (Kp.alloc_ _ _) S5.out).trans B2.out)
          have O6 := (O1.out.kp (Kp.alloc_ w5 (.cells #[.int .i64 (k : Int)] 3)))
          refine ⟨?_, own_put O2.out (Nat.lt_succ_self _) _, Nb.put1i N7.out, fun g e e2 => ?_, ?_⟩
          · refine OwnY.put ?_ (Nat.lt_succ_self _) (fun b x => x.2) _
            refine O6.grown G2.out (fun g e => hne5 g e) (fun b _ x => x.1) (fun b hb x => ⟨fun e => ?_, x.2⟩)
            rcases R2.out with h | h
            · exact x.1 (h.symm.trans e)
            · rw [e] at h; injection h with h; omega
          · rcases R2.out with h | h
            · exact hne5 g e (h.symm.trans e2)
            · rw [e2] at h; injection h with h
              have := O1.out.own.row_lt e
              omega
          · exact (hLp.out.ok.trans (Below.mono KB (Nat.le_succ _))).setCell (p := ⟨w1.heap.size, 1, none⟩) (Nat.le_refl _) _
      · have hkn : k = na := by have := hk.out; omega
        subst hkn
        have hj' : ¬ (k : Int) < (k : Int) := by omega
        have HALL : Hid (gs.all okS = true) := by
          have h := hall.out
          rw [HNA.out, List.take_length] at h
          exact h
        have KW := Lib.hid (K1.out.tr hLp.out.ok)
        have x0 := hLp.out.ob.c0
        have x1 := hLp.out.ob.c1
        have x2 := hLp.out.ob.c2
        have hGs : Hid (w1.heap.size + 1 ≤ wr.heap.size) := hLp.out.ob.lt
        have HX1 : Hid (RdN (wr.alloc (.cells #[.int .i64 op, .slice D k cd, .slice Q m d] 25)) (fun b => (Value.slice L k cl).ownBlock ≠ some b) (some ⟨wr.heap.size, 0, none⟩) [(op, idxL k, nums)]) := by
          have hsl := hLp.out.od.sl
          have h := RdN.one (w := wr) (X := fun b => (Value.slice L k cl).ownBlock ≠ some b) (P := D) (Q := Q) (t := (op, idxL k, nums)) (c := cd) (d := d)
            ⟨hsl.rd, HRQ.out.kp KW.out, fun ad e1 e2 e3 => hLp.out.on _ e3 (by rw [e1]; rfl), fun ad e1 e2 e3 => by
              have g1 := hLp.out.ol.own.from_ e3
              obtain ⟨ad2, e4, hb, _⟩ := HRQ.out.2 e2
              rw [e1] at e4; injection e4 with e4; subst e4
              have := K1.out.size
              omega⟩ ⟨hsl.le, hsl.cap⟩ ⟨by rw [← HM.out]; exact HD.out.1, HD.out.2⟩ 25
          dsimp only at h
          rw [idx_len, ← HM.out] at h
          exact h
        have hle2 : Hid (k ≤ 2) := hle
        go_wp2_with (at_builtin; refine wpList_appN (B := w1.heap.size + 1) rfl (.tmp 42) (.tmp 44) rfl (.slice L k cl) (List.replicate k cst) rfl (hLp.out.ol.own.kp (Kp.alloc_ _ _)) _ _ [(op, idxL k, nums)] 1 rfl rfl HX1.out (by have := hle2.out; simp; omega) (by have := hGs.out; simp; omega) ?_; intro z1 A1 c1 w5 HZ1 o1 b1 _; have O1 := Lib.hid o1; have K5 : Hid (Kp w w5) := KW.out.trans ((Below.mono (Kp.alloc_ _ _) KW.out.size).trans (Below.mono b1 (Nat.le_succ_of_le K1.out.size))); clear o1 b1)
        have hz1 : z1 = List.replicate k cst ++ [(op, idxL k, nums)] := HZ1.out
        obtain ⟨A2, c2, e2, R2, hc1, hc2⟩ := O1.out.form
        have HCH : Hid (Calls Try.prog 17 #[.slice A1 z1.length c1] w5 fun e w' => e = .returned (.bool r) ∧ Kp w5 w') := by
          injection e2 with f1 f2 f3
          subst f1 f3
          refine check_z A1 c1 z1.length z1 r w5 R2 hc1 hc2 rfl ?_
          rw [hz1, HAL.out, ← HRR.out, HALL.out, Bool.and_true]
        clear hz1 e2 R2 hc1 hc2
        go_wp2_with fail
        refine HCH.out.mono ?_; rintro e0 w6 ⟨rfl, k6⟩
        have K6 := Lib.hid (K5.out.tr k6)
        clear k6
        go_wp2
        go_ret
        exact ⟨rfl, K6.out⟩
  · have e1 : ((na : Int) != v) = true := by rw [bne_iff_ne]; exact h1
    have hv2 : r = false := by rw [← hr, ← hv, show decide ((na : Int) = v) = false by simpa using h1]; rfl
    subst hv2
    clear hr h1 hv hm hna hd hQ hA
    go_enter Try.func20, Try.ntmps20
    go_wp2_with fail
    refine (HAR.out _).mono ?_; rintro e0 w1 ⟨rfl, k1⟩
    have K1 := Lib.hid (K0.out.tr k1)
    clear k1
    go_wp2
    go_ret
    exact ⟨rfl, K1.out⟩
end Go.Proofs.Ytnkkkpanlnencaa.Iz
