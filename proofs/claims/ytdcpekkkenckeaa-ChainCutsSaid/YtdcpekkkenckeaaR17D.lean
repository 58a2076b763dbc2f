/- The document's layer 17: Put. -/
import Derived.Test.YtdcpekkkenckeaaR17C
import Derived.Deep.RegionHeld3
namespace Go.Proofs.Ytdcpekkkenckeaa
open Go.RowKit Go.Proofs.ShM Go.Proofs.GrM Go.Proofs.ImM Go.Proofs.ChM
set_option linter.unusedVariables false
set_option linter.unusedSimpArgs false
set_option maxRecDepth 100000
set_option maxHeartbeats 8000000

theorem heap_new17 (w : World) (o : Obj) : (w.alloc o).heap[w.heap.size]? = some o := by
  show (w.heap.push _)[w.heap.size]? = some _
  simp
theorem heap_lt17 {w : World} {k : Nat} {o : Obj} (h : w.heap[k]? = some o) : k < w.heap.size := (Array.getElem?_eq_some_iff.1 h).1
/-- append of versions, as one operation of a region that draws its order. -/
theorem oper_appV {w : World} {B : Nat} {o : Oper} {a : Act} {K : Act → World → Prop} {Q : Exit → Act → World → Prop} (s x : Operand)
    (hop : o.op = .call { callee := .builtin .append, args := #[s, x], argTypes := #[22, 22] })
    (v : Value) (ts : List Nd) (hs : a.eval s = v) (ho : OwnV B w v ts) (A : Option Addr) (c : Nat) (us : List Nd) (n : Nat) (hx : a.eval x = .slice A n c) (hn : n = us.length) (hr : RdN w (fun k => v.ownBlock ≠ some k) A us)
    (hl : ts.length + us.length ≤ 1000000) (hB : B ≤ w.heap.size)
    (h : ∀ zs A' c' w', Hid (zs = ts ++ us) → OwnV B w' (.slice A' zs.length c') zs → Below B w w' → (∀ k, k < w.heap.size → some k ≠ v.ownBlock → w'.heap[k]? = w.heap[k]?) → K (a.put o.dst (.slice A' zs.length c')) w') : Oper.wp Try.prog o a w K Q := by
  subst hn
  obtain ⟨zs, A', c', w', e, hrun, h1, h2, h3⟩ := run_appV ho c hr hl hB o.type
  unfold Oper.wp execOp
  simp only [hop, resolve, invoke, builtin, Sem.run_bind, Sem.run_pure, Result.andThen_ok, List.map_toArray, List.map_cons, List.map_nil, hs, hx, hrun]
  exact h zs A' c' w' e h1 h2 h3
/-- A version, as a row. -/
theorem row17 {w w3 : World} {B b6 a b e f : Nat} {v : Value} {ts : List Nd} {s : Int} {t : T} {P Q : Option Addr} (o : OwnV B w v ts) (h6 : w.heap[b6]? = some (.cells #[.int .i64 s, .slice P a e, .slice Q b f] 41 (0, 0)))
    (h : TRm w3 P e Q f t ∧ a = t.1.length ∧ b = t.2.length ∧ w3.heap.size ≤ B) (k : Kp w3 w) : RdN w (fun k => v.ownBlock ≠ some k) (some ⟨b6, 0, none⟩) [(s, t.1, t.2)] := by
  obtain ⟨h, rfl, rfl, hB⟩ := h
  have ob := fun k => o.from_ (k := k)
  have nr : NR w3 (fun k => k < w3.heap.size) P t.1 Q t.2 := by
    refine ⟨h.r.s, h.r.d, fun ad e1 e2 => ?_, fun ad e1 e2 => ?_⟩
    · obtain ⟨ad', e', hb, _⟩ := h.r.s.2 e2; rw [e1] at e'; injection e' with e'; subst e'; exact hb
    · obtain ⟨ad', e', hb, _⟩ := h.r.d.2 e2; rw [e1] at e'; injection e' with e'; subst e'; exact hb
  have nr' := nr.mono (Y := fun k => v.ownBlock ≠ some k) k (fun q hq _ e => by have := ob q e; omega)
  refine ⟨by simp, [(.int .i64 s, .slice P t.1.length e, .slice Q t.2.length f)], ⟨rfl, fun j p u g1 g2 => ?_⟩, fun _ => ⟨_, rfl, heap_lt17 h6, fun j u hu => ?_⟩⟩
  · cases j with
    | zero =>
      have e1 : (Value.int .i64 s, Value.slice P t.1.length e, Value.slice Q t.2.length f) = p := by simpa using g1
      have e2 : (s, t.1, t.2) = u := by simpa using g2
      subst e1 e2
      exact ⟨P, e, Q, f, rfl, h.c1.1, h.c1.2, h.c2.1, h.c2.2, nr'⟩
    | succ j => simp at g1
  · rw [Go.WideShapes.add_plain, Nat.zero_add]
    simp only [World.cell?, h6]
    have : (flatN [(Value.int .i64 s, Value.slice P t.1.length e, Value.slice Q t.2.length f)])[j]? = #[Value.int .i64 s, Value.slice P t.1.length e, Value.slice Q t.2.length f][j]? := by simp [flatN]
    rw [← this]; exact hu
theorem nb17 {B b k : Nat} (h : B ≤ b) (hk : k < B) (e : (Value.slice (some ⟨b, 0, none⟩) 0 0).ownBlock = some k) : False := by
  have : b = k := by simpa [Value.ownBlock] using e
  omega
theorem v_of_own {B : Nat} {w : World} {A : Option Addr} {n c : Nat} {ts : List Nd} (h : OwnV B w (.slice A n c) ts) : RdG w A ts ∧ ts.length ≤ c ∧ c ≤ 9223372036854775807 := by
  obtain ⟨A', c', e, h1, h2, h3⟩ := h.form
  injection e with e1 e2 e3
  subst e1 e3
  exact ⟨h1, h2, h3⟩
/-- Put to no versions. -/
theorem rput17_none (A P Q : Option Addr) (n c a e b f : Nat) (l m : List Nd) (s err : Int) (t : T) (j : Nat) (w : World) (h : RdG w A l) (hn : n = l.length) (hc : l.length ≤ c ∧ c ≤ 9223372036854775807) (hT : TRm w P e Q f t) (ha : a = t.1.length) (hb : b = t.2.length) (hq : putC l s t = (m, err)) (hj : m.length = j) (h0 : l = []) :
    Calls Try.prog 14 #[.slice A n c, .int .i64 s, .agg #[.slice P a e, .slice Q b f]] w (RetVe m err j w) := by
  have hl := h.len
  have F0 : Hid (Bk (w.alloc (.cells #[.slice P a e, .slice Q b f] 25)) w.heap.size P a e Q b f) := Bk.new rfl
  have K0 : Hid (Kp w (w.alloc (.cells #[.slice P a e, .slice Q b f] 25))) := Kp.alloc_ _ _
  obtain ⟨u, hu⟩ : ∃ u, u = chkV l := ⟨_, rfl⟩
  obtain ⟨v, hv⟩ : ∃ v, v = tokT t := ⟨_, rfl⟩
  have HC : Hid (∀ W, Kp w W → Calls Try.prog 18 #[.slice A n c] W fun e w' => e = .returned (.bool u) ∧ Kp W w') := fun W kW => rcheck17_any A n c l W (h.kp kW) hn hu.symm
  have HT : Hid (∀ W, Kp w W → Calls Try.prog 29 #[.agg #[.slice P a e, .slice Q b f]] W fun e w' => e = .returned (.bool v) ∧ Kp W w') := fun W kW => by
    rw [ha, hb, hv]; exact rtcheck_any P Q e f t.1 t.2 W (hT.r.s.kp kW) (hT.r.d.kp kW)
  have HR := Lib.hid h
  have HCL := Lib.hid hc
  have HNL := Lib.hid hn
  have HTR : Hid (∀ W, Kp w W → TRm W P e Q f t ∧ a = t.1.length ∧ b = t.2.length ∧ W.heap.size ≤ W.heap.size) := fun W kW => ⟨hT.kp kW, ha, hb, Nat.le_refl _⟩
  have hn' : n ≤ 9223372036854775807 := by omega
  have hu1 : u = true := by rw [hu, h0]; exact chk_nil
  subst hu1
  obtain rfl : n = 0 := by rw [hn, h0]; rfl
  unfold putC at hq
  rw [← hu, ← hv, h0] at hq
  have same : ∀ q, (([] : List Nd), q) = (m, err) → m = l ∧ err = q ∧ j = 0 := fun q e => by injection e with e1 e2; subst e1 e2; exact ⟨h0.symm, rfl, hj.symm⟩
  have HLL : Hid (l.length ≤ 16) := by show _ ≤ _; rw [h0]; decide
  by_cases hs : s < 0
  · rw [if_pos (.inr (.inl hs))] at hq
    obtain ⟨rfl, rfl, rfl⟩ := same _ hq
    have hs' : decide (s < 0) = true := decide_eq_true hs
    clear hq same hu hv hT ha hb hj hn h0 h hc hl
    go_enter Try.func14, Try.ntmps14
    go_wp2_with fail
    refine (HC.out _ K0.out).mono ?_; rintro e0 w1 ⟨rfl, k1⟩
    have K1 := Lib.hid (K0.out.tr k1)
    have F1 := Lib.hid (F0.out.kp k1)
    clear k1
    go_wp2
    go_ret2
    exact ⟨_, c, rfl, HR.out.kp K1.out, HCL.out, K1.out⟩
  · rw [if_neg (by intro g; rcases g with g | g | g; cases g; exact hs g; exact absurd g.1 (by simp))] at hq
    have hs' : decide (s < 0) = false := decide_eq_false hs
    cases v with
    | false =>
      rw [if_pos rfl] at hq
      obtain ⟨rfl, rfl, rfl⟩ := same _ hq
      clear hq same hu hv hT ha hb hj hn h0 h hc hl
      go_enter Try.func14, Try.ntmps14
      go_wp2_with fail
      refine (HC.out _ K0.out).mono ?_; rintro e0 w1 ⟨rfl, k1⟩
      have K1 := Lib.hid (K0.out.tr k1)
      have F1 := Lib.hid (F0.out.kp k1)
      clear k1
      have p0 := F1.out.c0
      have p1 := F1.out.c1
      go_wp2_with fail
      refine (HT.out _ K1.out).mono ?_; rintro e0 w2 ⟨rfl, k2⟩
      have K2 := Lib.hid (K1.out.tr k2)
      have F2 := Lib.hid (F1.out.kp k2)
      clear p0 p1 k2
      go_wp2
      go_ret2
      exact ⟨_, c, rfl, HR.out.kp K2.out, HCL.out, K2.out⟩
    | true =>
      rw [if_neg (by simp), if_neg (by intro g; exact absurd g.1 (by simp)), if_neg (by simp)] at hq
      injection hq with e1 e2
      subst e2
      obtain ⟨z, hz⟩ : ∃ z, z = m := ⟨_, rfl⟩
      have HZL : Hid (z = l ++ [(s, t.1, t.2)]) := by show _ = _; rw [hz, ← e1, h0]
      rw [← hz] at hj ⊢
      have HJ : Hid (z.length = j) := hj
      clear e1 hz same hu hv hT ha hb hj hn h0 h hc hl
      go_enter Try.func14, Try.ntmps14
      go_wp2_with fail
      refine (HC.out _ K0.out).mono ?_; rintro e0 w1 ⟨rfl, k1⟩
      have K1 := Lib.hid (K0.out.tr k1)
      have F1 := Lib.hid (F0.out.kp k1)
      clear k1
      have p0 := F1.out.c0
      have p1 := F1.out.c1
      go_wp2_with fail
      refine (HT.out _ K1.out).mono ?_; rintro e0 w2 ⟨rfl, k2⟩
      have K2 := Lib.hid (K1.out.tr k2)
      have F2 := Lib.hid (F1.out.kp k2)
      clear p0 p1 k2
      have p0 := F2.out.c0
      have p1 := F2.out.c1
      go_wp2_with fail
      go_quiet (fail)
      generalize hw3 : (w2.drewN _) = w3
      have K3 : Hid (Kp w w3) := by show Kp _ _; rw [← hw3]; exact K2.out.tr (Kp.drewN_ _ _)
      have F3 : Hid (Bk w3 w.heap.size P a e Q b f) := by show Bk _ _ _ _ _ _ _ _; rw [← hw3]; exact F2.out.kp (Kp.drewN_ _ _)
      clear hw3 p0 p1 
      have p0 := F3.out.c0
      have p1 := F3.out.c1
      have HTR3 := Lib.hid (HTR.out _ K3.out)
      have HSS : Hid (∀ V, Kp w3 V → V.cell? ⟨w.heap.size, 0, none⟩ = some (.slice P a e) ∧ V.cell? ⟨w.heap.size, 1, none⟩ = some (.slice Q b f)) := fun V kV => ⟨(F3.out.kp kV).c0, (F3.out.kp kV).c1⟩
      go_wp2_with fail
      go_cut [6, 7] (fun v6 v7 wx => ∃ (G : Option Addr) (ng cg : Nat), v6 = .slice G ng cg ∧ v7 = .int .i64 0 ∧ Hid (ng = z.length) ∧ Hid (RdG wx G z) ∧ Hid (z.length ≤ cg ∧ cg ≤ 9223372036854775807) ∧ Hid (Kp w wx))
      case first =>
        refine wp_region_held_drew (S := fun V => V.cell? ⟨w.heap.size, 0, none⟩ = some (.slice P a e) ∧ V.cell? ⟨w.heap.size, 1, none⟩ = some (.slice Q b f)) (by kernel_rfl) (HSS.out _ (Below.drew (Kp.refl _))) (fun hHeld => ?_)
        have XW0 : Hid (Kp w3 w3.drew) := Below.drew (Kp.refl _)
        obtain ⟨W0, hW0⟩ : ∃ W0, W0 = w3.drew := ⟨_, rfl⟩
        rw [← hW0] at XW0 hHeld ⊢
        clear hW0
        try simp only [Act.put, List.setIfInBounds_toArray, List.set_cons_zero, List.set_cons_succ]
        refine wpAnyH_take (i := 1) (v := .slice A 0 c) rfl (by kernel_rfl) (by kernel_rfl) (by kernel_rfl) (fun _ _ _ h => h) (Or.inl ⟨by kernel_rfl, fun V hSV => ?_⟩) hHeld ?_
        · (try dsimp only at hSV); go_simp
        try simp only [Act.put, List.setIfInBounds_toArray, List.set_cons_zero, List.set_cons_succ]
        refine wpAnyH_take (i := 3) (v := .int .i64 s) rfl (by kernel_rfl) (by kernel_rfl) (by kernel_rfl) (fun _ _ _ h => h) (Or.inl ⟨by kernel_rfl, fun V hSV => ?_⟩) hHeld ?_
        · (try dsimp only at hSV); go_simp
        try simp only [Act.put, List.setIfInBounds_toArray, List.set_cons_zero, List.set_cons_succ]
        refine wpAnyH_take (i := 4) (v := .agg #[.slice P a e, .slice Q b f]) rfl (by kernel_rfl) (by kernel_rfl) (by kernel_rfl) (fun _ _ _ h => h) (Or.inl ⟨by kernel_rfl, fun V hSV => ?_⟩) hHeld ?_
        · (try dsimp only at hSV); go_simp
        try simp only [Act.put, List.setIfInBounds_toArray, List.set_cons_zero, List.set_cons_succ]
        refine wpAnyH_take (i := 5) (v := .agg #[.int .i64 s, .slice P a e, .slice Q b f]) rfl (by kernel_rfl) (by kernel_rfl) (by kernel_rfl) (fun _ _ _ h => h) (Or.inl ⟨by kernel_rfl, fun V hSV => ?_⟩) hHeld ?_
        · (try dsimp only at hSV); go_simp
        try simp only [Act.put, List.setIfInBounds_toArray, List.set_cons_zero, List.set_cons_succ]
        refine wpAnyH_ready (rs := [0, 6]) (by kernel_rfl) (by simp) ?_
        refine AllReadyH.cons rfl (fun K9_ hK => ?_) (AllReadyH.cons rfl (fun K9_ hK => ?_) AllReadyH.nil)
        · go_simp
          obtain ⟨b0, hb0⟩ : ∃ b0, b0 = W0.heap.size := ⟨_, rfl⟩
          obtain ⟨W1, hW1⟩ : ∃ W1, W1 = W0.alloc (.cells #[] 41) := ⟨_, rfl⟩
          rw [← hb0, ← hW1]
          have jW1 : Kp W0 W1 := by rw [hW1]; exact Kp.alloc_ _ _
          have XW1 : Hid (Kp w3 W1) := XW0.out.tr jW1
          have O0W1 : Hid (OwnV w3.heap.size W1 (.slice (some ⟨b0, 0, none⟩) 0 0) []) := by show OwnV _ _ _ _; rw [hW1, hb0]; exact OwnV.zero _ XW0.out.size
          have L0 : Hid (w3.heap.size ≤ b0) := by show _ ≤ _; rw [hb0]; exact XW0.out.size
          clear hb0 hW1 jW1
          refine hK.out _ _ ?_ (fun hHeld => ?_)
          · exact HSS.out _ XW1.out
          clear hK
          try simp only [Act.put, List.setIfInBounds_toArray, List.set_cons_zero, List.set_cons_succ]
          refine wpAnyH_ready (rs := [2, 6]) (by kernel_rfl) (by simp) ?_
          refine AllReadyH.cons rfl (fun K9_ hK => ?_) (AllReadyH.cons rfl (fun K9_ hK => ?_) AllReadyH.nil)
          · refine oper_appV (B := w3.heap.size) (.tmp 59) (.tmp 60) rfl (.slice (some ⟨b0, 0, none⟩) 0 0) [] rfl O0W1.out A c l 0 rfl HNL.out ((HR.out.kp K3.out).old.mono XW1.out (fun k hk _ e => nb17 L0.out hk e)) (by have := HLL.out; have := HNL.out; simp; omega) XW1.out.size ?_
            intro zz A2 c2 W2 HZ o2 bl2 eq2
            have XW2 : Hid (Kp w3 W2) := XW1.out.trans bl2
            have O2W2 := Lib.hid o2
            clear o2 bl2 eq2
            refine hK.out _ _ ?_ (fun hHeld => ?_)
            · exact HSS.out _ XW2.out
            clear hK
            try simp only [Act.put, List.setIfInBounds_toArray, List.set_cons_zero, List.set_cons_succ]
            refine wpAnyH_ready (rs := [6]) (by kernel_rfl) (by simp) ?_
            refine AllReadyH.cons rfl (fun K9_ hK => ?_) AllReadyH.nil
            · go_simp
              obtain ⟨b6, hb6⟩ : ∃ b6, b6 = W2.heap.size := ⟨_, rfl⟩
              obtain ⟨W3, hW3⟩ : ∃ W3, W3 = W2.alloc (.cells #[.int .i64 s, .slice P a e, .slice Q b f] 41) := ⟨_, rfl⟩
              rw [← hb6, ← hW3]
              have jW3 : Kp W2 W3 := by rw [hW3]; exact Kp.alloc_ _ _
              have XW3 : Hid (Kp w3 W3) := XW2.out.tr jW3
              have H6W3 : Hid (W3.heap[b6]? = some (.cells #[.int .i64 s, .slice P a e, .slice Q b f] 41 (0, 0))) := by show _ = _; rw [hW3, hb6]; exact heap_new17 _ _
              have O2W3 : Hid (OwnV w3.heap.size W3 (.slice A2 zz.length c2) zz) := O2W2.out.kp jW3
              clear hb6 hW3 jW3
              refine hK.out _ _ ?_ (fun hHeld => ?_)
              · exact HSS.out _ XW3.out
              clear hK
              try simp only [Act.put, List.setIfInBounds_toArray, List.set_cons_zero, List.set_cons_succ]
              refine wpAnyH_ready (rs := [7]) (by kernel_rfl) (by simp) ?_
              refine AllReadyH.cons rfl (fun K9_ hK => ?_) AllReadyH.nil
              have hrow := Lib.hid (row17 (B := w3.heap.size) O2W3.out H6W3.out (HTR3.out) XW3.out)
              refine oper_appV (B := w3.heap.size) (.tmp 61) (.tmp 65) rfl (.slice A2 zz.length c2) zz rfl O2W3.out _ 1 [(s, t.1, t.2)] 1 rfl rfl hrow.out (by rw [HZ.out]; have := HLL.out; simp; omega) XW3.out.size ?_
              intro z7 A7 c7 W7 HZ7 o7 bl7 _
              have X7 : Hid (Kp w3 W7) := XW3.out.trans bl7
              have O7 := Lib.hid (v_of_own o7)
              have hz7 : Hid (z7 = l ++ [(s, t.1, t.2)]) := by show _ = _; rw [HZ7.out, HZ.out]; rfl
              clear o7 bl7
              refine hK.out _ _ ?_ (fun hHeld => ?_)
              · exact HSS.out _ X7.out
              clear hK
              try simp only [Act.put, List.setIfInBounds_toArray, List.set_cons_zero, List.set_cons_succ]
              refine wpAnyH_ready (rs := [8]) (by kernel_rfl) (by simp) ?_
              refine AllReadyH.cons rfl (fun K9_ hK => ?_) AllReadyH.nil
              go_simp
              refine hK.out _ _ ?_ (fun hHeld => ?_)
              · exact HSS.out _ X7.out
              clear hK
              try simp only [Act.put, List.setIfInBounds_toArray, List.set_cons_zero, List.set_cons_succ]
              refine wpAnyH_ready (rs := [9]) (by kernel_rfl) (by simp) ?_
              refine AllReadyH.cons rfl (fun K9_ hK => ?_) AllReadyH.nil
              go_simp
              refine hK.out _ _ ?_ (fun hHeld => ?_)
              · exact HSS.out _ X7.out
              clear hK
              try simp only [Act.put, List.setIfInBounds_toArray, List.set_cons_zero, List.set_cons_succ]
              refine wpAnyH_done (by kernel_rfl) ?_ _
              clear hHeld
              go_wp2
              go_meet
              exact ⟨A7, z7.length, c7, rfl, rfl, (by show _ = _; rw [hz7.out, HZL.out]), (by rw [HZL.out, ← hz7.out]; exact O7.out.1), (by rw [HZL.out, ← hz7.out]; exact O7.out.2), K3.out.tr X7.out⟩
          · go_simp
            obtain ⟨b6, hb6⟩ : ∃ b6, b6 = W1.heap.size := ⟨_, rfl⟩
            obtain ⟨W4, hW4⟩ : ∃ W4, W4 = W1.alloc (.cells #[.int .i64 s, .slice P a e, .slice Q b f] 41) := ⟨_, rfl⟩
            rw [← hb6, ← hW4]
            have jW4 : Kp W1 W4 := by rw [hW4]; exact Kp.alloc_ _ _
            have XW4 : Hid (Kp w3 W4) := XW1.out.tr jW4
            have H6W4 : Hid (W4.heap[b6]? = some (.cells #[.int .i64 s, .slice P a e, .slice Q b f] 41 (0, 0))) := by show _ = _; rw [hW4, hb6]; exact heap_new17 _ _
            have E6 : Hid (b6 ≠ b0) := by show _ ≠ _; have := O0W1.out.row_lt (k := b0) rfl; omega
            have O0W4 : Hid (OwnV w3.heap.size W4 (.slice (some ⟨b0, 0, none⟩) 0 0) []) := O0W1.out.kp jW4
            clear hb6 hW4 jW4
            refine hK.out _ _ ?_ (fun hHeld => ?_)
            · exact HSS.out _ XW4.out
            clear hK
            try simp only [Act.put, List.setIfInBounds_toArray, List.set_cons_zero, List.set_cons_succ]
            refine wpAnyH_ready (rs := [2]) (by kernel_rfl) (by simp) ?_
            refine AllReadyH.cons rfl (fun K9_ hK => ?_) AllReadyH.nil
            · refine oper_appV (B := w3.heap.size) (.tmp 59) (.tmp 60) rfl (.slice (some ⟨b0, 0, none⟩) 0 0) [] rfl O0W4.out A c l 0 rfl HNL.out ((HR.out.kp K3.out).old.mono XW4.out (fun k hk _ e => nb17 L0.out hk e)) (by have := HLL.out; have := HNL.out; simp; omega) XW4.out.size ?_
              intro zz A2 c2 W5 HZ o2 bl2 eq2
              have XW5 : Hid (Kp w3 W5) := XW4.out.trans bl2
              have O2W5 := Lib.hid o2
              have H6W5 : Hid (W5.heap[b6]? = _) := (eq2 b6 (heap_lt17 H6W4.out) (fun e => E6.out (by simpa [Value.ownBlock] using e))).trans H6W4.out
              clear o2 bl2 eq2
              refine hK.out _ _ ?_ (fun hHeld => ?_)
              · exact HSS.out _ XW5.out
              clear hK
              try simp only [Act.put, List.setIfInBounds_toArray, List.set_cons_zero, List.set_cons_succ]
              refine wpAnyH_ready (rs := [7]) (by kernel_rfl) (by simp) ?_
              refine AllReadyH.cons rfl (fun K9_ hK => ?_) AllReadyH.nil
              have hrow := Lib.hid (row17 (B := w3.heap.size) O2W5.out H6W5.out (HTR3.out) XW5.out)
              refine oper_appV (B := w3.heap.size) (.tmp 61) (.tmp 65) rfl (.slice A2 zz.length c2) zz rfl O2W5.out _ 1 [(s, t.1, t.2)] 1 rfl rfl hrow.out (by rw [HZ.out]; have := HLL.out; simp; omega) XW5.out.size ?_
              intro z7 A7 c7 W7 HZ7 o7 bl7 _
              have X7 : Hid (Kp w3 W7) := XW5.out.trans bl7
              have O7 := Lib.hid (v_of_own o7)
              have hz7 : Hid (z7 = l ++ [(s, t.1, t.2)]) := by show _ = _; rw [HZ7.out, HZ.out]; rfl
              clear o7 bl7
              refine hK.out _ _ ?_ (fun hHeld => ?_)
              · exact HSS.out _ X7.out
              clear hK
              try simp only [Act.put, List.setIfInBounds_toArray, List.set_cons_zero, List.set_cons_succ]
              refine wpAnyH_ready (rs := [8]) (by kernel_rfl) (by simp) ?_
              refine AllReadyH.cons rfl (fun K9_ hK => ?_) AllReadyH.nil
              go_simp
              refine hK.out _ _ ?_ (fun hHeld => ?_)
              · exact HSS.out _ X7.out
              clear hK
              try simp only [Act.put, List.setIfInBounds_toArray, List.set_cons_zero, List.set_cons_succ]
              refine wpAnyH_ready (rs := [9]) (by kernel_rfl) (by simp) ?_
              refine AllReadyH.cons rfl (fun K9_ hK => ?_) AllReadyH.nil
              go_simp
              refine hK.out _ _ ?_ (fun hHeld => ?_)
              · exact HSS.out _ X7.out
              clear hK
              try simp only [Act.put, List.setIfInBounds_toArray, List.set_cons_zero, List.set_cons_succ]
              refine wpAnyH_done (by kernel_rfl) ?_ _
              clear hHeld
              go_wp2
              go_meet
              exact ⟨A7, z7.length, c7, rfl, rfl, (by show _ = _; rw [hz7.out, HZL.out]), (by rw [HZL.out, ← hz7.out]; exact O7.out.1), (by rw [HZL.out, ← hz7.out]; exact O7.out.2), K3.out.tr X7.out⟩
        · go_simp
          obtain ⟨b6, hb6⟩ : ∃ b6, b6 = W0.heap.size := ⟨_, rfl⟩
          obtain ⟨W6, hW6⟩ : ∃ W6, W6 = W0.alloc (.cells #[.int .i64 s, .slice P a e, .slice Q b f] 41) := ⟨_, rfl⟩
          rw [← hb6, ← hW6]
          have jW6 : Kp W0 W6 := by rw [hW6]; exact Kp.alloc_ _ _
          have XW6 : Hid (Kp w3 W6) := XW0.out.tr jW6
          have H6W6 : Hid (W6.heap[b6]? = some (.cells #[.int .i64 s, .slice P a e, .slice Q b f] 41 (0, 0))) := by show _ = _; rw [hW6, hb6]; exact heap_new17 _ _
          clear hb6 hW6 jW6
          refine hK.out _ _ ?_ (fun hHeld => ?_)
          · exact HSS.out _ XW6.out
          clear hK
          try simp only [Act.put, List.setIfInBounds_toArray, List.set_cons_zero, List.set_cons_succ]
          refine wpAnyH_ready (rs := [0]) (by kernel_rfl) (by simp) ?_
          refine AllReadyH.cons rfl (fun K9_ hK => ?_) AllReadyH.nil
          · go_simp
            obtain ⟨b0, hb0⟩ : ∃ b0, b0 = W6.heap.size := ⟨_, rfl⟩
            obtain ⟨W7, hW7⟩ : ∃ W7, W7 = W6.alloc (.cells #[] 41) := ⟨_, rfl⟩
            rw [← hb0, ← hW7]
            have jW7 : Kp W6 W7 := by rw [hW7]; exact Kp.alloc_ _ _
            have XW7 : Hid (Kp w3 W7) := XW6.out.tr jW7
            have O0W7 : Hid (OwnV w3.heap.size W7 (.slice (some ⟨b0, 0, none⟩) 0 0) []) := by show OwnV _ _ _ _; rw [hW7, hb0]; exact OwnV.zero _ XW6.out.size
            have L0 : Hid (w3.heap.size ≤ b0) := by show _ ≤ _; rw [hb0]; exact XW6.out.size
            have E6 : Hid (b6 ≠ b0) := by show _ ≠ _; have := heap_lt17 H6W6.out; omega
            have H6W7 : Hid (W7.heap[b6]? = _) := (jW7.block b6 (heap_lt17 H6W6.out)).trans H6W6.out
            clear hb0 hW7 jW7
            refine hK.out _ _ ?_ (fun hHeld => ?_)
            · exact HSS.out _ XW7.out
            clear hK
            try simp only [Act.put, List.setIfInBounds_toArray, List.set_cons_zero, List.set_cons_succ]
            refine wpAnyH_ready (rs := [2]) (by kernel_rfl) (by simp) ?_
            refine AllReadyH.cons rfl (fun K9_ hK => ?_) AllReadyH.nil
            · refine oper_appV (B := w3.heap.size) (.tmp 59) (.tmp 60) rfl (.slice (some ⟨b0, 0, none⟩) 0 0) [] rfl O0W7.out A c l 0 rfl HNL.out ((HR.out.kp K3.out).old.mono XW7.out (fun k hk _ e => nb17 L0.out hk e)) (by have := HLL.out; have := HNL.out; simp; omega) XW7.out.size ?_
              intro zz A2 c2 W8 HZ o2 bl2 eq2
              have XW8 : Hid (Kp w3 W8) := XW7.out.trans bl2
              have O2W8 := Lib.hid o2
              have H6W8 : Hid (W8.heap[b6]? = _) := (eq2 b6 (heap_lt17 H6W7.out) (fun e => E6.out (by simpa [Value.ownBlock] using e))).trans H6W7.out
              clear o2 bl2 eq2
              refine hK.out _ _ ?_ (fun hHeld => ?_)
              · exact HSS.out _ XW8.out
              clear hK
              try simp only [Act.put, List.setIfInBounds_toArray, List.set_cons_zero, List.set_cons_succ]
              refine wpAnyH_ready (rs := [7]) (by kernel_rfl) (by simp) ?_
              refine AllReadyH.cons rfl (fun K9_ hK => ?_) AllReadyH.nil
              have hrow := Lib.hid (row17 (B := w3.heap.size) O2W8.out H6W8.out (HTR3.out) XW8.out)
              refine oper_appV (B := w3.heap.size) (.tmp 61) (.tmp 65) rfl (.slice A2 zz.length c2) zz rfl O2W8.out _ 1 [(s, t.1, t.2)] 1 rfl rfl hrow.out (by rw [HZ.out]; have := HLL.out; simp; omega) XW8.out.size ?_
              intro z7 A7 c7 W7 HZ7 o7 bl7 _
              have X7 : Hid (Kp w3 W7) := XW8.out.trans bl7
              have O7 := Lib.hid (v_of_own o7)
              have hz7 : Hid (z7 = l ++ [(s, t.1, t.2)]) := by show _ = _; rw [HZ7.out, HZ.out]; rfl
              clear o7 bl7
              refine hK.out _ _ ?_ (fun hHeld => ?_)
              · exact HSS.out _ X7.out
              clear hK
              try simp only [Act.put, List.setIfInBounds_toArray, List.set_cons_zero, List.set_cons_succ]
              refine wpAnyH_ready (rs := [8]) (by kernel_rfl) (by simp) ?_
              refine AllReadyH.cons rfl (fun K9_ hK => ?_) AllReadyH.nil
              go_simp
              refine hK.out _ _ ?_ (fun hHeld => ?_)
              · exact HSS.out _ X7.out
              clear hK
              try simp only [Act.put, List.setIfInBounds_toArray, List.set_cons_zero, List.set_cons_succ]
              refine wpAnyH_ready (rs := [9]) (by kernel_rfl) (by simp) ?_
              refine AllReadyH.cons rfl (fun K9_ hK => ?_) AllReadyH.nil
              go_simp
              refine hK.out _ _ ?_ (fun hHeld => ?_)
              · exact HSS.out _ X7.out
              clear hK
              try simp only [Act.put, List.setIfInBounds_toArray, List.set_cons_zero, List.set_cons_succ]
              refine wpAnyH_done (by kernel_rfl) ?_ _
              clear hHeld
              go_wp2
              go_meet
              exact ⟨A7, z7.length, c7, rfl, rfl, (by show _ = _; rw [hz7.out, HZL.out]), (by rw [HZL.out, ← hz7.out]; exact O7.out.1), (by rw [HZL.out, ← hz7.out]; exact O7.out.2), K3.out.tr X7.out⟩
      case rest =>
        obtain ⟨G, ng, cg, rfl, rfl, hng, rG, lG, kG⟩ := hcut
        go_wp2
        go_ret2
        exact ⟨G, cg, by rw [hng.out, HJ.out]; rfl, rG.out, lG.out, kG.out⟩
/-- Put to versions. -/
theorem rput17_some (A P Q : Option Addr) (n c a e b f : Nat) (l m : List Nd) (s err : Int) (t : T) (j : Nat) (w : World) (h : RdG w A l) (hn : n = l.length) (hc : l.length ≤ c ∧ c ≤ 9223372036854775807) (hT : TRm w P e Q f t) (ha : a = t.1.length) (hb : b = t.2.length) (hq : putC l s t = (m, err)) (hj : m.length = j) (h0 : 0 < l.length) :
    Calls Try.prog 14 #[.slice A n c, .int .i64 s, .agg #[.slice P a e, .slice Q b f]] w (RetVe m err j w) := by
  have hl := h.len
  have F0 : Hid (Bk (w.alloc (.cells #[.slice P a e, .slice Q b f] 25)) w.heap.size P a e Q b f) := Bk.new rfl
  have K0 : Hid (Kp w (w.alloc (.cells #[.slice P a e, .slice Q b f] 25))) := Kp.alloc_ _ _
  obtain ⟨u, hu⟩ : ∃ u, u = chkV l := ⟨_, rfl⟩
  obtain ⟨v, hv⟩ : ∃ v, v = tokT t := ⟨_, rfl⟩
  have HC : Hid (∀ W, Kp w W → Calls Try.prog 18 #[.slice A n c] W fun e w' => e = .returned (.bool u) ∧ Kp W w') := fun W kW => rcheck17_any A n c l W (h.kp kW) hn hu.symm
  have HT : Hid (∀ W, Kp w W → Calls Try.prog 29 #[.agg #[.slice P a e, .slice Q b f]] W fun e w' => e = .returned (.bool v) ∧ Kp W w') := fun W kW => by
    rw [ha, hb, hv]; exact rtcheck_any P Q e f t.1 t.2 W (hT.r.s.kp kW) (hT.r.d.kp kW)
  have HR := Lib.hid h
  have HCL := Lib.hid hc
  have HNL := Lib.hid hn
  have HTR : Hid (∀ W, Kp w W → TRm W P e Q f t ∧ a = t.1.length ∧ b = t.2.length ∧ W.heap.size ≤ W.heap.size) := fun W kW => ⟨hT.kp kW, ha, hb, Nat.le_refl _⟩
  have hn' : n ≤ 9223372036854775807 := by omega
  obtain ⟨i, rfl⟩ : ∃ i, n = i + 1 := ⟨n - 1, by omega⟩
  obtain ⟨ad, P1, c1, Q1, d1, rfl, hlt, y0, _, _, _⟩ := h.atv (show i < l.length by omega)
  obtain ⟨ad', R, g, Q2, d2, ea, _, _, y1, _, hTZ⟩ := h.atv h0
  injection ea with ea
  subst ea
  have e0 : ad.add (0 * 3) = ad := by unfold Addr.add; simp
  rw [e0] at y1
  obtain ⟨x, hx⟩ : ∃ x, x = (l.getD i nd0).1 := ⟨_, rfl⟩
  obtain ⟨sz, hsz⟩ : ∃ sz, sz = (l.getD 0 nd0).2.1 := ⟨_, rfl⟩
  rw [← hx] at y0
  rw [← hsz] at y1
  obtain ⟨nz, hnz⟩ : ∃ nz, nz = sz.length := ⟨_, rfl⟩
  rw [← hnz] at y1
  obtain ⟨y, hy⟩ : ∃ y, y = (sz == t.1) := ⟨_, rfl⟩
  have HS : Hid (∀ V n, Kp w V → Calls Try.prog 23 #[.slice R nz g, .slice P a e] (V.drewN n) fun e w'' => e = .returned (.bool y) ∧ ∃ m, w'' = V.drewN m) := fun V n kV =>
    (same_n (c := g) (d := e) sz t.1 (by rw [hsz]; exact (hTZ.r.s.kp kV).drewN n) ((hT.r.s.kp kV).drewN n) hnz ha hy.symm).mono fun _ _ ⟨he, m, hm⟩ => ⟨he, n + m, by rw [hm]; exact World.drewN_drewN _ _ _⟩
  have HQ : Hid (∀ V, Kp w V → V.cell? (ad.add (i * 3)) = some (.int .i64 x) ∧ V.cell? ⟨ad.block, ad.off + 1, none⟩ = some (.slice R nz g)) := fun V kV =>
    ⟨(kV.cell (by rw [block_of_add]; exact hlt)).trans y0, (kV.cell (show (⟨ad.block, ad.off + 1, none⟩ : Addr).block < _ from hlt)).trans y1⟩
  have hd0 : decide ((0 : Int) < ((i + 1 : Nat) : Int)) = true := decide_eq_true (by omega)
  have same : ∀ q, (l, q) = (m, err) → m = l ∧ err = q ∧ j = i + 1 := fun q e => by injection e with e1 e2; subst e1 e2; exact ⟨rfl, rfl, by omega⟩
  unfold putC at hq
  rw [← hu, ← hv, show l.length - 1 = i by omega, ← hx, ← hsz] at hq
  have heq : (sz ≠ t.1) ↔ y = false := by rw [hy, beq_eq_false_iff_ne]
  clear hTZ hx hsz hnz hy y0 y1 e0
  cases u with
  | false =>
    rw [if_pos (.inl rfl)] at hq
    obtain ⟨rfl, rfl, rfl⟩ := same _ hq
    clear hq same hu hv hT ha hb hj hn h0 h hc hl heq
    go_enter Try.func14, Try.ntmps14
    go_wp2_with fail
    refine (HC.out _ K0.out).mono ?_; rintro e0 w1 ⟨rfl, k1⟩
    have K1 := Lib.hid (K0.out.tr k1)
    have F1 := Lib.hid (F0.out.kp k1)
    clear k1
    have a1 := (HQ.out _ K1.out).1
    have b1 := (HQ.out _ K1.out).2
    go_wp2
    go_ret2
    exact ⟨_, c, rfl, HR.out.kp K1.out, HCL.out, K1.out⟩
  | true =>
    have HLL : Hid (l.length ≤ 16) := (chk_iff.1 hu.symm).1
    by_cases hs : s < 0
    · rw [if_pos (.inr (.inl hs))] at hq
      obtain ⟨rfl, rfl, rfl⟩ := same _ hq
      have hs' : decide (s < 0) = true := decide_eq_true hs
      clear hq same hu hv hT ha hb hj hn h0 h hc hl heq
      go_enter Try.func14, Try.ntmps14
      go_wp2_with fail
      refine (HC.out _ K0.out).mono ?_; rintro e0 w1 ⟨rfl, k1⟩
      have K1 := Lib.hid (K0.out.tr k1)
      have F1 := Lib.hid (F0.out.kp k1)
      clear k1
      have a1 := (HQ.out _ K1.out).1
      have b1 := (HQ.out _ K1.out).2
      go_wp2
      go_ret2
      exact ⟨_, c, rfl, HR.out.kp K1.out, HCL.out, K1.out⟩
    · have hs' : decide (s < 0) = false := decide_eq_false hs
      by_cases hsx : s ≤ x
      · rw [if_pos (.inr (.inr ⟨h0, hsx⟩))] at hq
        obtain ⟨rfl, rfl, rfl⟩ := same _ hq
        have hsx' : decide (s ≤ x) = true := decide_eq_true hsx
        clear hq same hu hv hT ha hb hj hn h0 h hc hl heq
        go_enter Try.func14, Try.ntmps14
        go_wp2_with fail
        refine (HC.out _ K0.out).mono ?_; rintro e0 w1 ⟨rfl, k1⟩
        have K1 := Lib.hid (K0.out.tr k1)
        have F1 := Lib.hid (F0.out.kp k1)
        clear k1
        have a1 := (HQ.out _ K1.out).1
        have b1 := (HQ.out _ K1.out).2
        go_wp2
        go_ret2
        exact ⟨_, c, rfl, HR.out.kp K1.out, HCL.out, K1.out⟩
      · rw [if_neg (by intro g; rcases g with g | g | g; cases g; exact hs g; exact hsx g.2)] at hq
        have hsx' : decide (s ≤ x) = false := decide_eq_false hsx
        cases v with
        | false =>
          rw [if_pos rfl] at hq
          obtain ⟨rfl, rfl, rfl⟩ := same _ hq
          clear hq same hu hv hT ha hb hj hn h0 h hc hl heq
          go_enter Try.func14, Try.ntmps14
          go_wp2_with fail
          refine (HC.out _ K0.out).mono ?_; rintro e0 w1 ⟨rfl, k1⟩
          have K1 := Lib.hid (K0.out.tr k1)
          have F1 := Lib.hid (F0.out.kp k1)
          clear k1
          have a1 := (HQ.out _ K1.out).1
          have b1 := (HQ.out _ K1.out).2
          have p0 := F1.out.c0
          have p1 := F1.out.c1
          go_wp2_with fail
          refine (HT.out _ K1.out).mono ?_; rintro e0 w2 ⟨rfl, k2⟩
          have K2 := Lib.hid (K1.out.tr k2)
          have F2 := Lib.hid (F1.out.kp k2)
          clear p0 p1 k2 a1 b1
          go_wp2
          go_ret2
          exact ⟨_, c, rfl, HR.out.kp K2.out, HCL.out, K2.out⟩
        | true =>
          rw [if_neg (by simp)] at hq
          cases y with
          | false =>
            rw [if_pos ⟨h0, heq.2 rfl⟩] at hq
            obtain ⟨rfl, rfl, rfl⟩ := same _ hq
            clear hq same hu hv hT ha hb hj hn h0 h hc hl heq
            have HS2 := Lib.hid (fun n V k => HS.out V n k)
            go_enter Try.func14, Try.ntmps14
            go_wp2_with fail
            refine (HC.out _ K0.out).mono ?_; rintro e0 w1 ⟨rfl, k1⟩
            have K1 := Lib.hid (K0.out.tr k1)
            have F1 := Lib.hid (F0.out.kp k1)
            clear k1
            have a1 := (HQ.out _ K1.out).1
            have b1 := (HQ.out _ K1.out).2
            have p0 := F1.out.c0
            have p1 := F1.out.c1
            go_wp2_with fail
            refine (HT.out _ K1.out).mono ?_; rintro e0 w2 ⟨rfl, k2⟩
            have K2 := Lib.hid (K1.out.tr k2)
            have F2 := Lib.hid (F1.out.kp k2)
            clear p0 p1 k2 a1 b1
            have a2 := (HQ.out _ K2.out).1
            have b2 := (HQ.out _ K2.out).2
            have p0 := F2.out.c0
            have p1 := F2.out.c1
            go_wp2_with fail
            go_quiet ((go_at_call 23; exact HS.out _ _ K2.out))
            generalize hw3 : (w2.drewN _) = w3
            have K3 : Hid (Kp w w3) := by show Kp _ _; rw [← hw3]; exact K2.out.tr (Kp.drewN_ _ _)
            have F3 : Hid (Bk w3 w.heap.size P a e Q b f) := by show Bk _ _ _ _ _ _ _ _; rw [← hw3]; exact F2.out.kp (Kp.drewN_ _ _)
            clear hw3 p0 p1 a2 b2
            go_wp2
            go_ret2
            exact ⟨_, c, rfl, HR.out.kp K3.out, HCL.out, K3.out⟩
          | true =>
            rw [if_neg (fun g => by have := heq.1 g.2; cases this)] at hq
            by_cases h16 : l.length = 16
            · rw [if_pos h16] at hq
              obtain ⟨rfl, rfl, rfl⟩ := same _ hq
              have h16' : (((i + 1 : Nat) : Int) == 16) = true := by rw [beq_iff_eq]; omega
              clear hq same hu hv hT ha hb hj hn h0 h hc hl heq
              go_enter Try.func14, Try.ntmps14
              go_wp2_with fail
              refine (HC.out _ K0.out).mono ?_; rintro e0 w1 ⟨rfl, k1⟩
              have K1 := Lib.hid (K0.out.tr k1)
              have F1 := Lib.hid (F0.out.kp k1)
              clear k1
              have a1 := (HQ.out _ K1.out).1
              have b1 := (HQ.out _ K1.out).2
              have p0 := F1.out.c0
              have p1 := F1.out.c1
              go_wp2_with fail
              refine (HT.out _ K1.out).mono ?_; rintro e0 w2 ⟨rfl, k2⟩
              have K2 := Lib.hid (K1.out.tr k2)
              have F2 := Lib.hid (F1.out.kp k2)
              clear p0 p1 k2 a1 b1
              have a2 := (HQ.out _ K2.out).1
              have b2 := (HQ.out _ K2.out).2
              have p0 := F2.out.c0
              have p1 := F2.out.c1
              go_wp2_with fail
              go_quiet ((go_at_call 23; exact HS.out _ _ K2.out))
              generalize hw3 : (w2.drewN _) = w3
              have K3 : Hid (Kp w w3) := by show Kp _ _; rw [← hw3]; exact K2.out.tr (Kp.drewN_ _ _)
              have F3 : Hid (Bk w3 w.heap.size P a e Q b f) := by show Bk _ _ _ _ _ _ _ _; rw [← hw3]; exact F2.out.kp (Kp.drewN_ _ _)
              clear hw3 p0 p1 a2 b2
              go_wp2
              go_ret2
              exact ⟨_, c, rfl, HR.out.kp K3.out, HCL.out, K3.out⟩
            · rw [if_neg h16] at hq
              injection hq with e1 e2
              subst e2
              have h16' : (((i + 1 : Nat) : Int) == 16) = false := by rw [beq_eq_false_iff_ne]; omega
              obtain ⟨z, hz⟩ : ∃ z, z = m := ⟨_, rfl⟩
              have HZL : Hid (z = l ++ [(s, t.1, t.2)]) := by show _ = _; rw [hz, ← e1]
              rw [← hz] at hj ⊢
              have HJ : Hid (z.length = j) := hj
              clear e1 hz same hu hv hT ha hb hj hn h0 h hc hl heq h16
              go_enter Try.func14, Try.ntmps14
              go_wp2_with fail
              refine (HC.out _ K0.out).mono ?_; rintro e0 w1 ⟨rfl, k1⟩
              have K1 := Lib.hid (K0.out.tr k1)
              have F1 := Lib.hid (F0.out.kp k1)
              clear k1
              have a1 := (HQ.out _ K1.out).1
              have b1 := (HQ.out _ K1.out).2
              have p0 := F1.out.c0
              have p1 := F1.out.c1
              go_wp2_with fail
              refine (HT.out _ K1.out).mono ?_; rintro e0 w2 ⟨rfl, k2⟩
              have K2 := Lib.hid (K1.out.tr k2)
              have F2 := Lib.hid (F1.out.kp k2)
              clear p0 p1 k2 a1 b1
              have a2 := (HQ.out _ K2.out).1
              have b2 := (HQ.out _ K2.out).2
              have p0 := F2.out.c0
              have p1 := F2.out.c1
              go_wp2_with fail
              go_quiet ((go_at_call 23; exact HS.out _ _ K2.out))
              generalize hw3 : (w2.drewN _) = w3
              have K3 : Hid (Kp w w3) := by show Kp _ _; rw [← hw3]; exact K2.out.tr (Kp.drewN_ _ _)
              have F3 : Hid (Bk w3 w.heap.size P a e Q b f) := by show Bk _ _ _ _ _ _ _ _; rw [← hw3]; exact F2.out.kp (Kp.drewN_ _ _)
              clear hw3 p0 p1 a2 b2
              have p0 := F3.out.c0
              have p1 := F3.out.c1
              have HTR3 := Lib.hid (HTR.out _ K3.out)
              have HSS : Hid (∀ V, Kp w3 V → V.cell? ⟨w.heap.size, 0, none⟩ = some (.slice P a e) ∧ V.cell? ⟨w.heap.size, 1, none⟩ = some (.slice Q b f)) := fun V kV => ⟨(F3.out.kp kV).c0, (F3.out.kp kV).c1⟩
              go_wp2_with fail
              go_cut [6, 7] (fun v6 v7 wx => ∃ (G : Option Addr) (ng cg : Nat), v6 = .slice G ng cg ∧ v7 = .int .i64 0 ∧ Hid (ng = z.length) ∧ Hid (RdG wx G z) ∧ Hid (z.length ≤ cg ∧ cg ≤ 9223372036854775807) ∧ Hid (Kp w wx))
              case first =>
                refine wp_region_held_drew (S := fun V => V.cell? ⟨w.heap.size, 0, none⟩ = some (.slice P a e) ∧ V.cell? ⟨w.heap.size, 1, none⟩ = some (.slice Q b f)) (by kernel_rfl) (HSS.out _ (Below.drew (Kp.refl _))) (fun hHeld => ?_)
                have XW0 : Hid (Kp w3 w3.drew) := Below.drew (Kp.refl _)
                obtain ⟨W0, hW0⟩ : ∃ W0, W0 = w3.drew := ⟨_, rfl⟩
                rw [← hW0] at XW0 hHeld ⊢
                clear hW0
                try simp only [Act.put, List.setIfInBounds_toArray, List.set_cons_zero, List.set_cons_succ]
                refine wpAnyH_take (i := 1) (v := .slice (some ad) (i + 1) c) rfl (by kernel_rfl) (by kernel_rfl) (by kernel_rfl) (fun _ _ _ h => h) (Or.inl ⟨by kernel_rfl, fun V hSV => ?_⟩) hHeld ?_
                · (try dsimp only at hSV); go_simp
                try simp only [Act.put, List.setIfInBounds_toArray, List.set_cons_zero, List.set_cons_succ]
                refine wpAnyH_take (i := 3) (v := .int .i64 s) rfl (by kernel_rfl) (by kernel_rfl) (by kernel_rfl) (fun _ _ _ h => h) (Or.inl ⟨by kernel_rfl, fun V hSV => ?_⟩) hHeld ?_
                · (try dsimp only at hSV); go_simp
                try simp only [Act.put, List.setIfInBounds_toArray, List.set_cons_zero, List.set_cons_succ]
                refine wpAnyH_take (i := 4) (v := .agg #[.slice P a e, .slice Q b f]) rfl (by kernel_rfl) (by kernel_rfl) (by kernel_rfl) (fun _ _ _ h => h) (Or.inl ⟨by kernel_rfl, fun V hSV => ?_⟩) hHeld ?_
                · (try dsimp only at hSV); go_simp
                try simp only [Act.put, List.setIfInBounds_toArray, List.set_cons_zero, List.set_cons_succ]
                refine wpAnyH_take (i := 5) (v := .agg #[.int .i64 s, .slice P a e, .slice Q b f]) rfl (by kernel_rfl) (by kernel_rfl) (by kernel_rfl) (fun _ _ _ h => h) (Or.inl ⟨by kernel_rfl, fun V hSV => ?_⟩) hHeld ?_
                · (try dsimp only at hSV); go_simp
                try simp only [Act.put, List.setIfInBounds_toArray, List.set_cons_zero, List.set_cons_succ]
                refine wpAnyH_ready (rs := [0, 6]) (by kernel_rfl) (by simp) ?_
                refine AllReadyH.cons rfl (fun K9_ hK => ?_) (AllReadyH.cons rfl (fun K9_ hK => ?_) AllReadyH.nil)
                · go_simp
                  obtain ⟨b0, hb0⟩ : ∃ b0, b0 = W0.heap.size := ⟨_, rfl⟩
                  obtain ⟨W1, hW1⟩ : ∃ W1, W1 = W0.alloc (.cells #[] 41) := ⟨_, rfl⟩
                  rw [← hb0, ← hW1]
                  have jW1 : Kp W0 W1 := by rw [hW1]; exact Kp.alloc_ _ _
                  have XW1 : Hid (Kp w3 W1) := XW0.out.tr jW1
                  have O0W1 : Hid (OwnV w3.heap.size W1 (.slice (some ⟨b0, 0, none⟩) 0 0) []) := by show OwnV _ _ _ _; rw [hW1, hb0]; exact OwnV.zero _ XW0.out.size
                  have L0 : Hid (w3.heap.size ≤ b0) := by show _ ≤ _; rw [hb0]; exact XW0.out.size
                  clear hb0 hW1 jW1
                  refine hK.out _ _ ?_ (fun hHeld => ?_)
                  · exact HSS.out _ XW1.out
                  clear hK
                  try simp only [Act.put, List.setIfInBounds_toArray, List.set_cons_zero, List.set_cons_succ]
                  refine wpAnyH_ready (rs := [2, 6]) (by kernel_rfl) (by simp) ?_
                  refine AllReadyH.cons rfl (fun K9_ hK => ?_) (AllReadyH.cons rfl (fun K9_ hK => ?_) AllReadyH.nil)
                  · refine oper_appV (B := w3.heap.size) (.tmp 59) (.tmp 60) rfl (.slice (some ⟨b0, 0, none⟩) 0 0) [] rfl O0W1.out (some ad) c l (i + 1) rfl HNL.out ((HR.out.kp K3.out).old.mono XW1.out (fun k hk _ e => nb17 L0.out hk e)) (by have := HLL.out; have := HNL.out; simp; omega) XW1.out.size ?_
                    intro zz A2 c2 W2 HZ o2 bl2 eq2
                    have XW2 : Hid (Kp w3 W2) := XW1.out.trans bl2
                    have O2W2 := Lib.hid o2
                    clear o2 bl2 eq2
                    refine hK.out _ _ ?_ (fun hHeld => ?_)
                    · exact HSS.out _ XW2.out
                    clear hK
                    try simp only [Act.put, List.setIfInBounds_toArray, List.set_cons_zero, List.set_cons_succ]
                    refine wpAnyH_ready (rs := [6]) (by kernel_rfl) (by simp) ?_
                    refine AllReadyH.cons rfl (fun K9_ hK => ?_) AllReadyH.nil
                    · go_simp
                      obtain ⟨b6, hb6⟩ : ∃ b6, b6 = W2.heap.size := ⟨_, rfl⟩
                      obtain ⟨W3, hW3⟩ : ∃ W3, W3 = W2.alloc (.cells #[.int .i64 s, .slice P a e, .slice Q b f] 41) := ⟨_, rfl⟩
                      rw [← hb6, ← hW3]
                      have jW3 : Kp W2 W3 := by rw [hW3]; exact Kp.alloc_ _ _
                      have XW3 : Hid (Kp w3 W3) := XW2.out.tr jW3
                      have H6W3 : Hid (W3.heap[b6]? = some (.cells #[.int .i64 s, .slice P a e, .slice Q b f] 41 (0, 0))) := by show _ = _; rw [hW3, hb6]; exact heap_new17 _ _
                      have O2W3 : Hid (OwnV w3.heap.size W3 (.slice A2 zz.length c2) zz) := O2W2.out.kp jW3
                      clear hb6 hW3 jW3
                      refine hK.out _ _ ?_ (fun hHeld => ?_)
                      · exact HSS.out _ XW3.out
                      clear hK
                      try simp only [Act.put, List.setIfInBounds_toArray, List.set_cons_zero, List.set_cons_succ]
                      refine wpAnyH_ready (rs := [7]) (by kernel_rfl) (by simp) ?_
                      refine AllReadyH.cons rfl (fun K9_ hK => ?_) AllReadyH.nil
                      have hrow := Lib.hid (row17 (B := w3.heap.size) O2W3.out H6W3.out (HTR3.out) XW3.out)
                      refine oper_appV (B := w3.heap.size) (.tmp 61) (.tmp 65) rfl (.slice A2 zz.length c2) zz rfl O2W3.out _ 1 [(s, t.1, t.2)] 1 rfl rfl hrow.out (by rw [HZ.out]; have := HLL.out; simp; omega) XW3.out.size ?_
                      intro z7 A7 c7 W7 HZ7 o7 bl7 _
                      have X7 : Hid (Kp w3 W7) := XW3.out.trans bl7
                      have O7 := Lib.hid (v_of_own o7)
                      have hz7 : Hid (z7 = l ++ [(s, t.1, t.2)]) := by show _ = _; rw [HZ7.out, HZ.out]; rfl
                      clear o7 bl7
                      refine hK.out _ _ ?_ (fun hHeld => ?_)
                      · exact HSS.out _ X7.out
                      clear hK
                      try simp only [Act.put, List.setIfInBounds_toArray, List.set_cons_zero, List.set_cons_succ]
                      refine wpAnyH_ready (rs := [8]) (by kernel_rfl) (by simp) ?_
                      refine AllReadyH.cons rfl (fun K9_ hK => ?_) AllReadyH.nil
                      go_simp
                      refine hK.out _ _ ?_ (fun hHeld => ?_)
                      · exact HSS.out _ X7.out
                      clear hK
                      try simp only [Act.put, List.setIfInBounds_toArray, List.set_cons_zero, List.set_cons_succ]
                      refine wpAnyH_ready (rs := [9]) (by kernel_rfl) (by simp) ?_
                      refine AllReadyH.cons rfl (fun K9_ hK => ?_) AllReadyH.nil
                      go_simp
                      refine hK.out _ _ ?_ (fun hHeld => ?_)
                      · exact HSS.out _ X7.out
                      clear hK
                      try simp only [Act.put, List.setIfInBounds_toArray, List.set_cons_zero, List.set_cons_succ]
                      refine wpAnyH_done (by kernel_rfl) ?_ _
                      clear hHeld
                      go_wp2
                      go_meet
                      exact ⟨A7, z7.length, c7, rfl, rfl, (by show _ = _; rw [hz7.out, HZL.out]), (by rw [HZL.out, ← hz7.out]; exact O7.out.1), (by rw [HZL.out, ← hz7.out]; exact O7.out.2), K3.out.tr X7.out⟩
                  · go_simp
                    obtain ⟨b6, hb6⟩ : ∃ b6, b6 = W1.heap.size := ⟨_, rfl⟩
                    obtain ⟨W4, hW4⟩ : ∃ W4, W4 = W1.alloc (.cells #[.int .i64 s, .slice P a e, .slice Q b f] 41) := ⟨_, rfl⟩
                    rw [← hb6, ← hW4]
                    have jW4 : Kp W1 W4 := by rw [hW4]; exact Kp.alloc_ _ _
                    have XW4 : Hid (Kp w3 W4) := XW1.out.tr jW4
                    have H6W4 : Hid (W4.heap[b6]? = some (.cells #[.int .i64 s, .slice P a e, .slice Q b f] 41 (0, 0))) := by show _ = _; rw [hW4, hb6]; exact heap_new17 _ _
                    have E6 : Hid (b6 ≠ b0) := by show _ ≠ _; have := O0W1.out.row_lt (k := b0) rfl; omega
                    have O0W4 : Hid (OwnV w3.heap.size W4 (.slice (some ⟨b0, 0, none⟩) 0 0) []) := O0W1.out.kp jW4
                    clear hb6 hW4 jW4
                    refine hK.out _ _ ?_ (fun hHeld => ?_)
                    · exact HSS.out _ XW4.out
                    clear hK
                    try simp only [Act.put, List.setIfInBounds_toArray, List.set_cons_zero, List.set_cons_succ]
                    refine wpAnyH_ready (rs := [2]) (by kernel_rfl) (by simp) ?_
                    refine AllReadyH.cons rfl (fun K9_ hK => ?_) AllReadyH.nil
                    · refine oper_appV (B := w3.heap.size) (.tmp 59) (.tmp 60) rfl (.slice (some ⟨b0, 0, none⟩) 0 0) [] rfl O0W4.out (some ad) c l (i + 1) rfl HNL.out ((HR.out.kp K3.out).old.mono XW4.out (fun k hk _ e => nb17 L0.out hk e)) (by have := HLL.out; have := HNL.out; simp; omega) XW4.out.size ?_
                      intro zz A2 c2 W5 HZ o2 bl2 eq2
                      have XW5 : Hid (Kp w3 W5) := XW4.out.trans bl2
                      have O2W5 := Lib.hid o2
                      have H6W5 : Hid (W5.heap[b6]? = _) := (eq2 b6 (heap_lt17 H6W4.out) (fun e => E6.out (by simpa [Value.ownBlock] using e))).trans H6W4.out
                      clear o2 bl2 eq2
                      refine hK.out _ _ ?_ (fun hHeld => ?_)
                      · exact HSS.out _ XW5.out
                      clear hK
                      try simp only [Act.put, List.setIfInBounds_toArray, List.set_cons_zero, List.set_cons_succ]
                      refine wpAnyH_ready (rs := [7]) (by kernel_rfl) (by simp) ?_
                      refine AllReadyH.cons rfl (fun K9_ hK => ?_) AllReadyH.nil
                      have hrow := Lib.hid (row17 (B := w3.heap.size) O2W5.out H6W5.out (HTR3.out) XW5.out)
                      refine oper_appV (B := w3.heap.size) (.tmp 61) (.tmp 65) rfl (.slice A2 zz.length c2) zz rfl O2W5.out _ 1 [(s, t.1, t.2)] 1 rfl rfl hrow.out (by rw [HZ.out]; have := HLL.out; simp; omega) XW5.out.size ?_
                      intro z7 A7 c7 W7 HZ7 o7 bl7 _
                      have X7 : Hid (Kp w3 W7) := XW5.out.trans bl7
                      have O7 := Lib.hid (v_of_own o7)
                      have hz7 : Hid (z7 = l ++ [(s, t.1, t.2)]) := by show _ = _; rw [HZ7.out, HZ.out]; rfl
                      clear o7 bl7
                      refine hK.out _ _ ?_ (fun hHeld => ?_)
                      · exact HSS.out _ X7.out
                      clear hK
                      try simp only [Act.put, List.setIfInBounds_toArray, List.set_cons_zero, List.set_cons_succ]
                      refine wpAnyH_ready (rs := [8]) (by kernel_rfl) (by simp) ?_
                      refine AllReadyH.cons rfl (fun K9_ hK => ?_) AllReadyH.nil
                      go_simp
                      refine hK.out _ _ ?_ (fun hHeld => ?_)
                      · exact HSS.out _ X7.out
                      clear hK
                      try simp only [Act.put, List.setIfInBounds_toArray, List.set_cons_zero, List.set_cons_succ]
                      refine wpAnyH_ready (rs := [9]) (by kernel_rfl) (by simp) ?_
                      refine AllReadyH.cons rfl (fun K9_ hK => ?_) AllReadyH.nil
                      go_simp
                      refine hK.out _ _ ?_ (fun hHeld => ?_)
                      · exact HSS.out _ X7.out
                      clear hK
                      try simp only [Act.put, List.setIfInBounds_toArray, List.set_cons_zero, List.set_cons_succ]
                      refine wpAnyH_done (by kernel_rfl) ?_ _
                      clear hHeld
                      go_wp2
                      go_meet
                      exact ⟨A7, z7.length, c7, rfl, rfl, (by show _ = _; rw [hz7.out, HZL.out]), (by rw [HZL.out, ← hz7.out]; exact O7.out.1), (by rw [HZL.out, ← hz7.out]; exact O7.out.2), K3.out.tr X7.out⟩
                · go_simp
                  obtain ⟨b6, hb6⟩ : ∃ b6, b6 = W0.heap.size := ⟨_, rfl⟩
                  obtain ⟨W6, hW6⟩ : ∃ W6, W6 = W0.alloc (.cells #[.int .i64 s, .slice P a e, .slice Q b f] 41) := ⟨_, rfl⟩
                  rw [← hb6, ← hW6]
                  have jW6 : Kp W0 W6 := by rw [hW6]; exact Kp.alloc_ _ _
                  have XW6 : Hid (Kp w3 W6) := XW0.out.tr jW6
                  have H6W6 : Hid (W6.heap[b6]? = some (.cells #[.int .i64 s, .slice P a e, .slice Q b f] 41 (0, 0))) := by show _ = _; rw [hW6, hb6]; exact heap_new17 _ _
                  clear hb6 hW6 jW6
                  refine hK.out _ _ ?_ (fun hHeld => ?_)
                  · exact HSS.out _ XW6.out
                  clear hK
                  try simp only [Act.put, List.setIfInBounds_toArray, List.set_cons_zero, List.set_cons_succ]
                  refine wpAnyH_ready (rs := [0]) (by kernel_rfl) (by simp) ?_
                  refine AllReadyH.cons rfl (fun K9_ hK => ?_) AllReadyH.nil
                  · go_simp
                    obtain ⟨b0, hb0⟩ : ∃ b0, b0 = W6.heap.size := ⟨_, rfl⟩
                    obtain ⟨W7, hW7⟩ : ∃ W7, W7 = W6.alloc (.cells #[] 41) := ⟨_, rfl⟩
                    rw [← hb0, ← hW7]
                    have jW7 : Kp W6 W7 := by rw [hW7]; exact Kp.alloc_ _ _
                    have XW7 : Hid (Kp w3 W7) := XW6.out.tr jW7
                    have O0W7 : Hid (OwnV w3.heap.size W7 (.slice (some ⟨b0, 0, none⟩) 0 0) []) := by show OwnV _ _ _ _; rw [hW7, hb0]; exact OwnV.zero _ XW6.out.size
                    have L0 : Hid (w3.heap.size ≤ b0) := by show _ ≤ _; rw [hb0]; exact XW6.out.size
                    have E6 : Hid (b6 ≠ b0) := by show _ ≠ _; have := heap_lt17 H6W6.out; omega
                    have H6W7 : Hid (W7.heap[b6]? = _) := (jW7.block b6 (heap_lt17 H6W6.out)).trans H6W6.out
                    clear hb0 hW7 jW7
                    refine hK.out _ _ ?_ (fun hHeld => ?_)
                    · exact HSS.out _ XW7.out
                    clear hK
                    try simp only [Act.put, List.setIfInBounds_toArray, List.set_cons_zero, List.set_cons_succ]
                    refine wpAnyH_ready (rs := [2]) (by kernel_rfl) (by simp) ?_
                    refine AllReadyH.cons rfl (fun K9_ hK => ?_) AllReadyH.nil
                    · refine oper_appV (B := w3.heap.size) (.tmp 59) (.tmp 60) rfl (.slice (some ⟨b0, 0, none⟩) 0 0) [] rfl O0W7.out (some ad) c l (i + 1) rfl HNL.out ((HR.out.kp K3.out).old.mono XW7.out (fun k hk _ e => nb17 L0.out hk e)) (by have := HLL.out; have := HNL.out; simp; omega) XW7.out.size ?_
                      intro zz A2 c2 W8 HZ o2 bl2 eq2
                      have XW8 : Hid (Kp w3 W8) := XW7.out.trans bl2
                      have O2W8 := Lib.hid o2
                      have H6W8 : Hid (W8.heap[b6]? = _) := (eq2 b6 (heap_lt17 H6W7.out) (fun e => E6.out (by simpa [Value.ownBlock] using e))).trans H6W7.out
                      clear o2 bl2 eq2
                      refine hK.out _ _ ?_ (fun hHeld => ?_)
                      · exact HSS.out _ XW8.out
                      clear hK
                      try simp only [Act.put, List.setIfInBounds_toArray, List.set_cons_zero, List.set_cons_succ]
                      refine wpAnyH_ready (rs := [7]) (by kernel_rfl) (by simp) ?_
                      refine AllReadyH.cons rfl (fun K9_ hK => ?_) AllReadyH.nil
                      have hrow := Lib.hid (row17 (B := w3.heap.size) O2W8.out H6W8.out (HTR3.out) XW8.out)
                      refine oper_appV (B := w3.heap.size) (.tmp 61) (.tmp 65) rfl (.slice A2 zz.length c2) zz rfl O2W8.out _ 1 [(s, t.1, t.2)] 1 rfl rfl hrow.out (by rw [HZ.out]; have := HLL.out; simp; omega) XW8.out.size ?_
                      intro z7 A7 c7 W7 HZ7 o7 bl7 _
                      have X7 : Hid (Kp w3 W7) := XW8.out.trans bl7
                      have O7 := Lib.hid (v_of_own o7)
                      have hz7 : Hid (z7 = l ++ [(s, t.1, t.2)]) := by show _ = _; rw [HZ7.out, HZ.out]; rfl
                      clear o7 bl7
                      refine hK.out _ _ ?_ (fun hHeld => ?_)
                      · exact HSS.out _ X7.out
                      clear hK
                      try simp only [Act.put, List.setIfInBounds_toArray, List.set_cons_zero, List.set_cons_succ]
                      refine wpAnyH_ready (rs := [8]) (by kernel_rfl) (by simp) ?_
                      refine AllReadyH.cons rfl (fun K9_ hK => ?_) AllReadyH.nil
                      go_simp
                      refine hK.out _ _ ?_ (fun hHeld => ?_)
                      · exact HSS.out _ X7.out
                      clear hK
                      try simp only [Act.put, List.setIfInBounds_toArray, List.set_cons_zero, List.set_cons_succ]
                      refine wpAnyH_ready (rs := [9]) (by kernel_rfl) (by simp) ?_
                      refine AllReadyH.cons rfl (fun K9_ hK => ?_) AllReadyH.nil
                      go_simp
                      refine hK.out _ _ ?_ (fun hHeld => ?_)
                      · exact HSS.out _ X7.out
                      clear hK
                      try simp only [Act.put, List.setIfInBounds_toArray, List.set_cons_zero, List.set_cons_succ]
                      refine wpAnyH_done (by kernel_rfl) ?_ _
                      clear hHeld
                      go_wp2
                      go_meet
                      exact ⟨A7, z7.length, c7, rfl, rfl, (by show _ = _; rw [hz7.out, HZL.out]), (by rw [HZL.out, ← hz7.out]; exact O7.out.1), (by rw [HZL.out, ← hz7.out]; exact O7.out.2), K3.out.tr X7.out⟩
              case rest =>
                obtain ⟨G, ng, cg, rfl, rfl, hng, rG, lG, kG⟩ := hcut
                go_wp2
                go_ret2
                exact ⟨G, cg, by rw [hng.out, HJ.out]; rfl, rG.out, lG.out, kG.out⟩
theorem rput17_any (A P Q : Option Addr) (n c a e b f : Nat) (l m : List Nd) (s err : Int) (t : T) (j : Nat) (w : World) (h : RdG w A l) (hn : n = l.length) (hc : l.length ≤ c ∧ c ≤ 9223372036854775807) (hT : TRm w P e Q f t) (ha : a = t.1.length) (hb : b = t.2.length) (hq : putC l s t = (m, err)) (hj : m.length = j) :
    Calls Try.prog 14 #[.slice A n c, .int .i64 s, .agg #[.slice P a e, .slice Q b f]] w (RetVe m err j w) := by
  rcases Nat.eq_zero_or_pos l.length with h0 | h0
  · exact rput17_none A P Q n c a e b f l m s err t j w h hn hc hT ha hb hq hj (List.eq_nil_of_length_eq_zero h0)
  · exact rput17_some A P Q n c a e b f l m s err t j w h hn hc hT ha hb hq hj h0
end Go.Proofs.Ytdcpekkkenckeaa
