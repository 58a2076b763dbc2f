/- each of layer 5 (move): the tensor of the number told for each index. -/
import Derived.Test.YtdjfjhanffliiaaPvB
import Derived.Test.YtdjfjhanffliiaaMvC
namespace Go.Proofs.Ytdjfjhanffliiaa
open Go.RowKit Go.Shelf Go.Proofs.ShM
set_option linter.unusedVariables false
set_option linter.unusedSimpArgs false
attribute [local go_sem] Oper.semAt_some

/-- One number more, and which block is turned. -/
theorem run_app1 {w : World} {B : Nat} {v : Value} {xs : List Int} (ho : Own B w v xs) (ad : Addr) (y : Int) (hr : Rd w (some ad) [y]) (hs : xs.length + 1 ≤ 1000000) (hB : B ≤ w.heap.size) :
    ∃ zs A' c' w', zs = xs ++ [y] ∧ (∀ ty, (Builtin.append_ #[22, 22] ty #[v, .slice (some ad) 1 1]).run Try.prog w = .ok (.slice A' zs.length c') w') ∧ Own B w' (.slice A' zs.length c') zs ∧ w.grownBy w' v.ownBlock := by
  obtain ⟨ad', e0, hlt, hc⟩ := hr.2 (by simp)
  obtain rfl : ad = ad' := Option.some.inj e0
  obtain ⟨i, hi, hz, h1, h2⟩ := info_parts int_info
  have key := fun ty => run_append_own_at (P := Try.prog) w B 22 ty 3 i _ 1 8 Try.underlying22 hi hz h1 h2 rfl (by omega) _ _ _ ho ad 1 1 ([y].map (Value.int .i64)) (by simp)
    (fun j u hu => by
      rw [List.getElem?_map, Option.map_eq_some_iff] at hu
      obtain ⟨x, hx, rfl⟩ := hu
      exact hc j x hx) (ints_oneCell _ _) (by unfold maxLen; omega) (by omega) hB
  obtain ⟨v', w', hrun, hown, hg, _, _⟩ := key 22
  have hown' : Own B w' v' (xs ++ [y]) := by simpa [Own] using hown
  obtain ⟨A2, c2, rfl, _⟩ := hown'.form
  refine ⟨xs ++ [y], A2, c2, w', rfl, fun ty => ?_, hown', hg⟩
  rw [← hrun]
  rfl
theorem own_others {B : Nat} {w w' : World} {v : Value} {xs : List Int} (ho : Own B w v xs) (hg : w.grownBy w' v.ownBlock) : KeepsOthers w w' :=
  KeepsOthers.of_grownBy hg fun j o e h => by
    rcases ho.2 with ⟨rfl, _⟩ | ⟨g, cap, cur, rfl, _, hh, _⟩
    · cases e
    · injection e with e
      subst e
      rw [hh] at h
      injection h with h
      subst h; rfl
theorem own_below {B : Nat} {w w' : World} {v : Value} {xs : List Int} (ho : Own B w v xs) (hg : w.grownBy w' v.ownBlock) (hB : B ≤ w.heap.size) : Below B w w' :=
  (Below.refl _ _).grown hg hB fun k hk => ho.from_ hk

/-- append, whose run is known, as one step of a region that draws its order. -/
theorem step_run {w w' : World} {ops : Array Oper} {o : Oper} {a : Act} {K : Act → World → Prop} {Q : Exit → Act → World → Prop} {E : Prop} (hgd : o.guard = none) (s x : Operand)
    (hop : o.op = .call { callee := .builtin .append, args := #[s, x], argTypes := #[22, 22] }) (v u r : Value) (hs : a.eval s = v) (hx : a.eval x = u)
    (hrun : (Builtin.append_ #[22, 22] o.type #[v, u]).run Try.prog w = .ok r w') (h : K (a.put o.dst r) w') : if Region.wanted o (yielded ops a.tmps) = true then Oper.wp Try.prog o a w K Q else E := by
  have hw : Region.wanted o (yielded ops a.tmps) = true := by simp [Region.wanted, hgd]
  rw [if_pos hw]
  unfold Oper.wp execOp
  simp only [hop, resolve, invoke, builtin, Sem.run_bind, Sem.run_pure, Result.andThen_ok, List.map_toArray, List.map_cons, List.map_nil, hs, hx, hrun]
  exact h

/-- The function's box, the answer's, the indices'; what each has made so far. -/
structure Ef (w : World) (fv : Value) (C : Option Addr) (g : List Int) (e : Nat) (f : Nat → Int) (N k : Nat) (zs : List Int) (Az : Option Addr) (cz : Nat) (W : World) : Prop where
  kp : Kp w W
  fb : Boxed W w.heap.size 43 fv
  rt : Bk W (w.heap.size + 1) none 0 0 none 0 0
  db : Boxed W (w.heap.size + 1 + 1 + 1) 22 (.slice Az zs.length cz)
  ib : Zi (w.heap.size + 1 + 1 + 1 + 1) C g e W
  o : Own (w.heap.size + 1 + 1) W (.slice Az zs.length cz) zs
  t : Ta f N k zs
section
variable {w W W' : World} {fv : Value} {C Az : Option Addr} {g zs : List Int} {e N k cz : Nat} {f : Nat → Int}
theorem Ef.tr (h : Ef w fv C g e f N k zs Az cz W) (q : Kp W W') : Ef w fv C g e f N k zs Az cz W' :=
  ⟨h.kp.tr q, kp_heap q h.fb, h.rt.kp q, kp_heap q h.db, h.ib.kp q, h.o.kp q, h.t⟩
theorem not_cells {l j : Nat} {o : Obj} {cs : Array Value} {t : TypeId} {p : Nat × Nat} (h : W.heap[l]? = some o) (ho : o.isCells = false) (hj : W.heap[j]? = some (.cells cs t p)) : j ≠ l := by
  intro e; subst e; rw [h] at hj; injection hj with hj; subst hj; cases ho
theorem Zi.put {Bs l : Nat} {o : Obj} (h : Zi Bs C g e W) (o' : Obj) (hl : W.heap[l]? = some o) (ho : o.isCells = false) : Zi Bs C g e (W.putObj l o') where
  b := (World.putObj_heap_other (not_cells hl ho h.b)).trans h.b
  r := by
    refine ⟨h.r.1, fun hn => ?_⟩
    obtain ⟨ad, e1, hb, hc⟩ := h.r.2 hn
    refine ⟨ad, e1, by simpa using hb, fun j u hu => ?_⟩
    exact cell_kept (hc j u hu) (grownBy_putObj' W l o') (fun r er => by cases er; exact ⟨o, hl, ho⟩)
theorem Ef.put {l : Nat} {o : Obj} (h : Ef w fv C g e f N k zs Az cz W) (o' : Obj) (hw : w.heap.size ≤ l) (hl : W.heap[l]? = some o) (ho : o.isCells = false) : Ef w fv C g e f N k zs Az cz (W.putObj l o') where
  kp := h.kp.trans ((Below.refl _ _).grown (grownBy_putObj' W l o') h.kp.size (fun r er => by cases er; exact hw))
  fb := (World.putObj_heap_other (not_cells hl ho h.fb)).trans h.fb
  rt := (World.putObj_heap_other (not_cells hl ho h.rt)).trans h.rt
  db := (World.putObj_heap_other (not_cells hl ho h.db)).trans h.db
  ib := h.ib.put o' hl ho
  o := ownsRow_putObj h.o o' hl ho
  t := h.t
/-- Appended to, and put back. -/
theorem Ef.app {y : Int} {A2 : Option Addr} {c2 : Nat} {zs2 : List Int} {W1 : World} (h : Ef w fv C g e f N k zs Az cz W) (hk : k < N) (hy : f k = y) (hz : zs2 = zs ++ [y]) (hC : Rd w C g) (o2 : Own (w.heap.size + 1 + 1) W1 (.slice A2 zs2.length c2) zs2)
    (hg : W.grownBy W1 (Value.slice Az zs.length cz).ownBlock) : Ef w fv C g e f N (k + 1) zs2 A2 c2 (W1.setCell ⟨w.heap.size + 1 + 1 + 1, 0, none⟩ (.slice A2 zs2.length c2)) := by
  have hB : w.heap.size + 1 + 1 ≤ W.heap.size := by have := h.db.lt; omega
  have b1 : Below (w.heap.size + 1 + 1) W W1 := own_below h.o hg hB
  have n1 := Boxed.not_row h.db (by decide : (22 : TypeId) ≠ 3) h.o
  have n2 := Boxed.not_row h.ib.b (by decide : (22 : TypeId) ≠ 3) h.o
  have kw : Kp w (W1.setCell ⟨w.heap.size + 1 + 1 + 1, 0, none⟩ (.slice A2 zs2.length c2)) := (h.kp.trans (b1.mono (by omega))).setCell (p := ⟨w.heap.size + 1 + 1 + 1, 0, none⟩) (by show w.heap.size ≤ w.heap.size + 1 + 1 + 1; omega) _
  have d1 := h.db.kept hg n1
  have i1 := h.ib.b.kept hg n2
  refine ⟨kw, ?_, ?_, d1.set _, ⟨i1.other (by omega) _, hC.kp kw⟩, ?_, ta_step h.t hk hy hz⟩
  · refine Boxed.other (t := 43) ?_ (by omega) _
    exact (b1.block w.heap.size (by omega)).trans h.fb
  · refine (Below.heap_setCell _ _ _ (w.heap.size + 1) (by show w.heap.size + 1 ≠ w.heap.size + 1 + 1 + 1; omega)).trans ?_
    exact (b1.block (w.heap.size + 1) (by omega)).trans h.rt
  · refine o2.of_block fun j hj => Below.heap_setCell _ _ _ j ?_
    have := Boxed.not_row d1 (by decide : (22 : TypeId) ≠ 3) o2
    intro e
    subst e
    exact this hj.symm
end

set_option maxRecDepth 100000 in
set_option maxHeartbeats 4000000 in
theorem each_any (C : Option Addr) (e : Nat) (g : List Int) (F : Nat) (L : List Value) (f : Nat → Int) (w : World) (hC : Rd w C g) (ho : okS g = true)
    (HT : ∀ (k : Nat) (A : Option Addr) (c : Nat) (W0 W1 : World), Kp w W0 → Kp W0 W1 → (k : Int) < sizeV g → Own W0.heap.size W1 (.slice A g.length c) (digs g k) →
      Calls Try.prog F (Value.slice A g.length c :: L).toArray W1 fun e W2 => e = .returned (.int .i64 (f k)) ∧ Below W0.heap.size W1 W2)
    (HF : ∀ args W, (callFunc F args).run Try.prog W = .ok (.enter F args) W) :
    Calls Try.prog 31 #[.slice C g.length e, .func (.func F) #[] L.toArray] w (RetM g ((List.range (sizeV g).toNat).map f) w) := by
  have hl := hC.len
  have hsz := size_le g
  have hp := ok_prod ho
  have hpz := size_ok ho
  obtain ⟨N, hN⟩ : ∃ N : Nat, sizeV g = (N : Int) := ⟨(sizeV g).toNat, by omega⟩
  have HS : Hid (∀ W, Kp w W → Calls Try.prog 27 #[.slice C g.length e] W fun e w' => e = .returned (.int .i64 (N : Int)) ∧ W = w') := fun W k => by
    have hh := size_any C e g W (hC.kp k)
    rw [hN] at hh
    exact hh
  have HTT := Lib.hid HT
  have HNN := Lib.hid hN
  have n1 : 0 < N := by omega
  have n2 : N ≤ 64 := by omega
  obtain ⟨cs, hmk, hown0⟩ := mk0_ N (by omega)
  have HOW := Lib.hid hown0
  have HCC := Lib.hid hC
  have hres : Hid ((List.range (sizeV g).toNat).map f = (List.range N).map f) := by show _ = _; rw [hN, Int.toNat_natCast]
  rw [hres.out]
  clear hC ho HT hN hsz hown0 hp hpz hres
  have K0 : Hid (Kp w ((w.alloc (.cells #[.func (.func F) #[] L.toArray] 43)).alloc (.cells #[.slice none 0 0, .slice none 0 0] 24))) := (Kp.alloc_ _ _).al _
  refine (callsIn_wide (n := 4)).1 ?_
  refine callsIn_of_wp_marks Try.func31 rfl trivial ?_ rfl
  simp only [Try.ntmps31, List.size_toArray, List.length_cons, List.length_nil, Nat.reduceAdd, Nat.reduceSub, Array.replicate_succ, Array.replicate_zero, List.push_toArray, List.append_toArray, List.nil_append, List.cons_append]
  gi_wp2_with fail
  refine ⟨trivial, (callsIn_wide.2 (HS.out _ K0.out)).mono ?_⟩; rintro en w1 ⟨rfl, rfl⟩
  gi_wp2_with fail
  refine ⟨trivial, (callsIn_wide.2 (indices_any _ _ _ _)).mono ?_⟩; rintro en w2 ⟨rfl, rfl⟩
  gi_wp2_with fail
  have hmx : Try.prog.follows .mixedOrders = true := by kernel_rfl
  obtain ⟨W1, hW1⟩ : ∃ W1, (((((w.alloc (.cells #[.func (.func F) #[] L.toArray] 43)).alloc (.cells #[.slice none 0 0, .slice none 0 0] 24)).alloc (.cells cs 3)).alloc
    (.cells #[.slice (some ⟨w.heap.size + 1 + 1, 0, none⟩) 0 N] 22)).alloc (.cells #[.slice C g.length e] 22)) = W1 := ⟨_, rfl⟩
  have SW : Hid (W1.heap.size = w.heap.size + 1 + 1 + 1 + 1 + 1) := by show _ = _; rw [← hW1]; simp
  have EW : Hid (Ef w (.func (.func F) #[] L.toArray) C g e f N 0 [] (some ⟨w.heap.size + 1 + 1, 0, none⟩) N W1) := by
    show Ef w _ C g e f N 0 [] _ N W1
    rw [← hW1]
    refine ⟨(((K0.out.al _).al _).al _), ?_, ?_, ?_, ⟨?_, HCC.out.kp (((K0.out.al _).al _).al _)⟩, ?_, ta_start _ _⟩
    · exact ((((Boxed.new w _ _).alloc _).alloc _).alloc _).alloc _
    · exact ((((Bk.new (by simp))).alloc_ _).alloc_ _).alloc_ _
    · have h := ((Boxed.new (((w.alloc (.cells #[.func (.func F) #[] L.toArray] 43)).alloc (.cells #[.slice none 0 0, .slice none 0 0] 24)).alloc (.cells cs 3)) 22 (.slice (some ⟨w.heap.size + 1 + 1, 0, none⟩) 0 N)).alloc (.cells #[.slice C g.length e] 22))
      simp only [World.size_alloc] at h
      exact h
    · have h := Boxed.new ((((w.alloc (.cells #[.func (.func F) #[] L.toArray] 43)).alloc (.cells #[.slice none 0 0, .slice none 0 0] 24)).alloc (.cells cs 3)).alloc (.cells #[.slice (some ⟨w.heap.size + 1 + 1, 0, none⟩) 0 N] 22)) 22 (.slice C g.length e)
      simpa only [World.size_alloc] using h
    · have h := HOW.out ((w.alloc (.cells #[.func (.func F) #[] L.toArray] 43)).alloc (.cells #[.slice none 0 0, .slice none 0 0] 24)) (w.heap.size + 1 + 1) (by simp)
      simp only [World.size_alloc] at h
      exact (h.kp (Kp.alloc_ _ _)).kp (Kp.alloc_ _ _)
  rw [hW1]
  clear hW1 hmk HOW K0 HS
  have hE5 := indices_told C e g N (w.heap.size + 1 + 1 + 1 + 1) 3 W1 EW.out.ib HNN.out (by omega)
  refine wpIn_told (n := 4) (by omega) (gf := 54) (lb := #[.pointer (some ⟨w.heap.size + 1 + 1 + 1 + 1, 0, none⟩)]) rfl (enters_of Try.func54 (by kernel_rfl) rfl)
    hE5 (fun _ => rfl) (fun W l o o' _ hl ho h => h.put o' hl ho) (fun k x b W l o o' hl ho h => ownsRow_putObj h o' hl ho)
    (fun k W => w.heap.size + 1 + 1 + 1 + 1 + 1 ≤ W.heap.size ∧ ∃ zs Az cz, Ef w (.func (.func F) #[] L.toArray) C g e f N k zs Az cz W)
    (fun k A B h q => ⟨Nat.le_trans h.1 q.size, by obtain ⟨_, zs, Az, cz, hh⟩ := h; exact ⟨zs, Az, cz, hh.tr q⟩⟩)
    (fun k W l o o' hw hl ho h => ⟨by simpa using h.1, by obtain ⟨_, zs, Az, cz, hh⟩ := h; exact ⟨zs, Az, cz, hh.put o' (by have := SW.out; omega) hl ho⟩⟩)
    ⟨Nat.le_of_eq SW.out.symm, _, _, _, EW.out⟩
    (fun x => { tmps := #[.slice C g.length e, .func (.func F) #[] L.toArray, undef, .pointer (some ⟨w.heap.size, 0, none⟩), .pointer (some ⟨w.heap.size + 1, 0, none⟩), .pointer (some ⟨w.heap.size + 1 + 1 + 1, 0, none⟩),
      .slice x.1 g.length x.2, .slice C g.length e, .int .i64 N, .slice (some ⟨w.heap.size + 1 + 1, 0, none⟩) 0 N, .slice C g.length e,
      .func (.func 54) #[] #[.pointer (some ⟨w.heap.size + 1 + 1 + 1 + 1, 0, none⟩)], .slice x.1 g.length x.2, undef, undef, undef, undef, undef, undef, undef, undef, undef], defers := [] }) ?assign ?body ?done
  case assign =>
    intro l x W K hK
    gi_wp2
    exact hK
  case body =>
    rintro l k ⟨A0, c0⟩ W0 W2 hk ⟨hsz, zs, Az, cz, hef⟩ kW hown
    dsimp only at hown ⊢
    have HE2 := Lib.hid (hef.tr kW)
    have HE0 := Lib.hid hef
    have HCK : Hid (∀ W3, Kp W2 W3 → Own W0.heap.size W3 (.slice A0 g.length c0) (digs g k) → Calls Try.prog F (Value.slice A0 g.length c0 :: L).toArray W3 fun e W' => e = .returned (.int .i64 (f k)) ∧ Below W0.heap.size W3 W') :=
      fun W3 q o => HTT.out k A0 c0 W0 W3 hef.kp (kW.tr q) (by rw [HNN.out]; omega) o
    have HON := Lib.hid hown
    have HKW := Lib.hid kW
    have HSZ := Lib.hid hsz
    have d1 := HE2.out.db.cell
    have d2 := HE2.out.fb.cell
    have d3 := HE2.out.db.lt
    have HLN := Lib.hid (ta_len hef.t)
    have HY : Hid (f k = f k) := rfl
    obtain ⟨y, hy⟩ : ∃ y, f k = y := ⟨_, rfl⟩
    have HFY := Lib.hid hy
    rw [hy] at HCK
    clear hef kW hown hsz hy HY
    gi_wp2
    -- BODY
    refine wpIn_region_any hmx (wpAnyIn_of_wpAny (by kernel_rfl) (fun ⟨_, _, h⟩ => h) _ _ _ _ (wpAny_of_held (S := fun V => V.cell? ⟨w.heap.size, 0, none⟩ = some (.func (.func F) #[] L.toArray)) _ _ _ _ ?_))
    change wpAnyH _ _ _ _ _ _ _ _ W2.drew
    have hS0 : W2.drew.cell? ⟨w.heap.size, 0, none⟩ = some (.func (.func F) #[] L.toArray) := d2
    refine wpAnyH_take (i := 1) (v := .func (.func F) #[] L.toArray) rfl (by kernel_rfl) (by kernel_rfl) (by kernel_rfl) (fun _ _ _ h => h) (Or.inl ⟨by rfl, fun V hSV => ?_⟩) hS0 ?_
    · dsimp only at hSV; go_simp
    try simp only [Act.put, List.setIfInBounds_toArray, List.set_cons_zero, List.set_cons_succ]
    refine wpAnyH_take (i := 2) (v := .slice A0 g.length c0) rfl (by kernel_rfl) (by kernel_rfl) (by kernel_rfl) (fun _ _ _ h => h) (Or.inl ⟨by rfl, fun V hSV => ?_⟩) hS0 ?_
    · dsimp only at hSV; go_simp
    try simp only [Act.put, List.setIfInBounds_toArray, List.set_cons_zero, List.set_cons_succ]
    refine wpAnyH_ready (rs := [0, 3]) (by kernel_rfl) (by simp) ?_
    refine AllReadyH.cons rfl (fun K hK => ?_) ?_
    · skip
      go_simp
      refine hK.out _ _ ?_ (fun hHeld => ?_)
      · exact hS0
      clear hK K hHeld
      try simp only [Act.put, List.setIfInBounds_toArray, List.set_cons_zero, List.set_cons_succ]
      refine wpAnyH_ready (rs := [3]) (by kernel_rfl) (by simp) ?_
      refine AllReadyH.cons rfl (fun K hK => ?_) AllReadyH.nil
      go_simp
      refine (HCK.out _ (Below.drew (Kp.refl _)) HON.out.drew).mono ?_
      rintro en w4 ⟨rfl, b4⟩
      dsimp only
      have HQ4 : Hid (Kp W0 w4) := (Below.drew HKW.out).trans b4
      have HE4 := Lib.hid (HE0.out.tr HQ4.out)
      have g1 := HE4.out.db.cell
      have g2 := HE4.out.db.lt
      have hS4 := HE4.out.fb.cell
      have hS5 := (HE4.out.tr (Kp.alloc_ _ (.cells #[.int .i64 y] 3))).fb.cell
      obtain ⟨ys, A2, c2, w6, hz6, hrun, o6, hg6⟩ := run_app1 (HE4.out.tr (Kp.alloc_ _ (.cells #[.int .i64 y] 3))).o ⟨w4.heap.size, 0, none⟩ y (Rd.one _ _ _) (by have := HLN.out; omega) (by have := HE4.out.db.lt; simp; omega)
      have HD6 := Lib.hid ((HE4.out.tr (Kp.alloc_ _ (.cells #[.int .i64 y] 3))).db.kept hg6 (Boxed.not_row (HE4.out.tr (Kp.alloc_ _ (.cells #[.int .i64 y] 3))).db (by decide : (22 : TypeId) ≠ 3) (HE4.out.tr (Kp.alloc_ _ (.cells #[.int .i64 y] 3))).o))
      have g3 := HD6.out.cell
      have g4 := HD6.out.frozen
      have HAP := Lib.hid ((HE4.out.tr (Kp.alloc_ _ (.cells #[.int .i64 y] 3))).app hk HFY.out hz6 HCC.out o6 hg6)
      have hS7 := HAP.out.fb.cell
      have hS6 : w6.cell? ⟨w.heap.size, 0, none⟩ = some (.func (.func F) #[] L.toArray) := ((own_below (HE4.out.tr (Kp.alloc_ _ (.cells #[.int .i64 y] 3))).o hg6 (by have := HE4.out.db.lt; simp; omega)).cell (p := ⟨w.heap.size, 0, none⟩) (by show w.heap.size < w.heap.size + 1 + 1; omega)).trans hS5
      have HKO := Lib.hid (own_others (HE4.out.tr (Kp.alloc_ _ (.cells #[.int .i64 y] 3))).o hg6)
      have HRUN := Lib.hid hrun
      clear hrun b4 hz6 o6 hg6
      refine hK.out _ _ ?_ (fun hHeld => ?_)
      · exact hS4
      clear hK K hHeld
      try simp only [Act.put, List.setIfInBounds_toArray, List.set_cons_zero, List.set_cons_succ]
      refine wpAnyH_ready (rs := [4]) (by kernel_rfl) (by simp) ?_
      refine AllReadyH.cons rfl (fun K hK => ?_) AllReadyH.nil
      go_simp
      refine hK.out _ _ ?_ (fun hHeld => ?_)
      · exact hS5
      clear hK K hHeld
      try simp only [Act.put, List.setIfInBounds_toArray, List.set_cons_zero, List.set_cons_succ]
      refine wpAnyH_ready (rs := [5]) (by kernel_rfl) (by simp) ?_
      refine AllReadyH.cons rfl (fun K hK => ?_) AllReadyH.nil
      refine step_run rfl (.tmp 13) (.tmp 17) rfl _ _ _ rfl rfl (HRUN.out _) ?_
      refine hK.out _ _ ?_ (fun hHeld => ?_)
      · exact hS6
      clear hK K hHeld
      try simp only [Act.put, List.setIfInBounds_toArray, List.set_cons_zero, List.set_cons_succ]
      refine wpAnyH_ready (rs := [6]) (by kernel_rfl) (by simp) ?_
      refine AllReadyH.cons rfl (fun K hK => ?_) AllReadyH.nil
      go_simp
      refine hK.out _ _ ?_ (fun hHeld => ?_)
      · exact hS7
      clear hK K hHeld
      try simp only [Act.put, List.setIfInBounds_toArray, List.set_cons_zero, List.set_cons_succ]
      refine wpAnyH_done (by kernel_rfl) ?_ _
      refine ⟨fun j ob hj hob hoc => ?_, fun _ => HAP.out.ib, ?_⟩
      · exact (KeepsOthers.setCell _ _ _).same j ob (HKO.out.same j ob (kp_heap (Kp.alloc_ _ _) (kp_heap HQ4.out hob)) hoc) hoc
      · refine ⟨?_, ys, A2, c2, HAP.out⟩
        have z1 := HSZ.out; have z2 := HQ4.out.size; have z3 := HKO.out.size; rw [World.size_setCell]; rw [World.size_alloc] at z3; omega
    refine AllReadyH.cons rfl (fun K hK => ?_) AllReadyH.nil
    go_simp
    refine (HCK.out _ (Below.drew (Kp.refl _)) HON.out.drew).mono ?_
    rintro en w4 ⟨rfl, b4⟩
    dsimp only
    have HQ4 : Hid (Kp W0 w4) := (Below.drew HKW.out).trans b4
    have HE4 := Lib.hid (HE0.out.tr HQ4.out)
    have g1 := HE4.out.db.cell
    have g2 := HE4.out.db.lt
    have hS4 := HE4.out.fb.cell
    have hS5 := (HE4.out.tr (Kp.alloc_ _ (.cells #[.int .i64 y] 3))).fb.cell
    obtain ⟨ys, A2, c2, w6, hz6, hrun, o6, hg6⟩ := run_app1 (HE4.out.tr (Kp.alloc_ _ (.cells #[.int .i64 y] 3))).o ⟨w4.heap.size, 0, none⟩ y (Rd.one _ _ _) (by have := HLN.out; omega) (by have := HE4.out.db.lt; simp; omega)
    have HD6 := Lib.hid ((HE4.out.tr (Kp.alloc_ _ (.cells #[.int .i64 y] 3))).db.kept hg6 (Boxed.not_row (HE4.out.tr (Kp.alloc_ _ (.cells #[.int .i64 y] 3))).db (by decide : (22 : TypeId) ≠ 3) (HE4.out.tr (Kp.alloc_ _ (.cells #[.int .i64 y] 3))).o))
    have g3 := HD6.out.cell
    have g4 := HD6.out.frozen
    have HAP := Lib.hid ((HE4.out.tr (Kp.alloc_ _ (.cells #[.int .i64 y] 3))).app hk HFY.out hz6 HCC.out o6 hg6)
    have hS7 := HAP.out.fb.cell
    have hS6 : w6.cell? ⟨w.heap.size, 0, none⟩ = some (.func (.func F) #[] L.toArray) := ((own_below (HE4.out.tr (Kp.alloc_ _ (.cells #[.int .i64 y] 3))).o hg6 (by have := HE4.out.db.lt; simp; omega)).cell (p := ⟨w.heap.size, 0, none⟩) (by show w.heap.size < w.heap.size + 1 + 1; omega)).trans hS5
    have HKO := Lib.hid (own_others (HE4.out.tr (Kp.alloc_ _ (.cells #[.int .i64 y] 3))).o hg6)
    have HRUN := Lib.hid hrun
    clear hrun b4 hz6 o6 hg6
    refine hK.out _ _ ?_ (fun hHeld => ?_)
    · exact hS4
    clear hK K hHeld
    try simp only [Act.put, List.setIfInBounds_toArray, List.set_cons_zero, List.set_cons_succ]
    refine wpAnyH_ready (rs := [0, 4]) (by kernel_rfl) (by simp) ?_
    refine AllReadyH.cons rfl (fun K hK => ?_) ?_
    · skip
      go_simp
      refine hK.out _ _ ?_ (fun hHeld => ?_)
      · exact hS4
      clear hK K hHeld
      try simp only [Act.put, List.setIfInBounds_toArray, List.set_cons_zero, List.set_cons_succ]
      refine wpAnyH_ready (rs := [4]) (by kernel_rfl) (by simp) ?_
      refine AllReadyH.cons rfl (fun K hK => ?_) AllReadyH.nil
      go_simp
      refine hK.out _ _ ?_ (fun hHeld => ?_)
      · exact hS5
      clear hK K hHeld
      try simp only [Act.put, List.setIfInBounds_toArray, List.set_cons_zero, List.set_cons_succ]
      refine wpAnyH_ready (rs := [5]) (by kernel_rfl) (by simp) ?_
      refine AllReadyH.cons rfl (fun K hK => ?_) AllReadyH.nil
      refine step_run rfl (.tmp 13) (.tmp 17) rfl _ _ _ rfl rfl (HRUN.out _) ?_
      refine hK.out _ _ ?_ (fun hHeld => ?_)
      · exact hS6
      clear hK K hHeld
      try simp only [Act.put, List.setIfInBounds_toArray, List.set_cons_zero, List.set_cons_succ]
      refine wpAnyH_ready (rs := [6]) (by kernel_rfl) (by simp) ?_
      refine AllReadyH.cons rfl (fun K hK => ?_) AllReadyH.nil
      go_simp
      refine hK.out _ _ ?_ (fun hHeld => ?_)
      · exact hS7
      clear hK K hHeld
      try simp only [Act.put, List.setIfInBounds_toArray, List.set_cons_zero, List.set_cons_succ]
      refine wpAnyH_done (by kernel_rfl) ?_ _
      refine ⟨fun j ob hj hob hoc => ?_, fun _ => HAP.out.ib, ?_⟩
      · exact (KeepsOthers.setCell _ _ _).same j ob (HKO.out.same j ob (kp_heap (Kp.alloc_ _ _) (kp_heap HQ4.out hob)) hoc) hoc
      · refine ⟨?_, ys, A2, c2, HAP.out⟩
        have z1 := HSZ.out; have z2 := HQ4.out.size; have z3 := HKO.out.size; rw [World.size_setCell]; rw [World.size_alloc] at z3; omega
    refine AllReadyH.cons rfl (fun K hK => ?_) AllReadyH.nil
    go_simp
    refine hK.out _ _ ?_ (fun hHeld => ?_)
    · exact hS5
    clear hK K hHeld
    try simp only [Act.put, List.setIfInBounds_toArray, List.set_cons_zero, List.set_cons_succ]
    refine wpAnyH_ready (rs := [0]) (by kernel_rfl) (by simp) ?_
    refine AllReadyH.cons rfl (fun K hK => ?_) AllReadyH.nil
    go_simp
    refine hK.out _ _ ?_ (fun hHeld => ?_)
    · exact hS5
    clear hK K hHeld
    try simp only [Act.put, List.setIfInBounds_toArray, List.set_cons_zero, List.set_cons_succ]
    refine wpAnyH_ready (rs := [5]) (by kernel_rfl) (by simp) ?_
    refine AllReadyH.cons rfl (fun K hK => ?_) AllReadyH.nil
    refine step_run rfl (.tmp 13) (.tmp 17) rfl _ _ _ rfl rfl (HRUN.out _) ?_
    refine hK.out _ _ ?_ (fun hHeld => ?_)
    · exact hS6
    clear hK K hHeld
    try simp only [Act.put, List.setIfInBounds_toArray, List.set_cons_zero, List.set_cons_succ]
    refine wpAnyH_ready (rs := [6]) (by kernel_rfl) (by simp) ?_
    refine AllReadyH.cons rfl (fun K hK => ?_) AllReadyH.nil
    go_simp
    refine hK.out _ _ ?_ (fun hHeld => ?_)
    · exact hS7
    clear hK K hHeld
    try simp only [Act.put, List.setIfInBounds_toArray, List.set_cons_zero, List.set_cons_succ]
    refine wpAnyH_done (by kernel_rfl) ?_ _
    refine ⟨fun j ob hj hob hoc => ?_, fun _ => HAP.out.ib, ?_⟩
    · exact (KeepsOthers.setCell _ _ _).same j ob (HKO.out.same j ob (kp_heap (Kp.alloc_ _ _) (kp_heap HQ4.out hob)) hoc) hoc
    · refine ⟨?_, ys, A2, c2, HAP.out⟩
      have z1 := HSZ.out; have z2 := HQ4.out.size; have z3 := HKO.out.size; rw [World.size_setCell]; rw [World.size_alloc] at z3; omega
  case done =>
    rintro D W hD ⟨hsz, zs, Az, cz, hef⟩ hK
    have HEF := Lib.hid hef
    have HKD := Lib.hid hK
    have d1 := HEF.out.db.cell
    have r0 := HEF.out.rt.c0
    have r1 := HEF.out.rt.c1
    have u0 := HEF.out.rt.f0 0
    have u1 := HEF.out.rt.f0 1
    have hne : w.heap.size + 1 < D := by have := SW.out; omega
    have hz := ta_end hef.t (Nat.lt_irrefl N)
    have HZ := Lib.hid hz
    clear hef hK hz
    gi_wp2
    have hb : Bk ((finW w W (.slice C g.length e) (.slice Az zs.length cz)).putObj D (.deferred none)) (w.heap.size + 1) C g.length e Az zs.length cz := (World.putObj_heap_other (by omega)).trans HEF.out.rt.put
    refine ret_marks (v := .agg #[.slice C g.length e, .slice Az zs.length cz]) (fin_K HKD.out hne _ _) (by
      have q0 := hb.c0
      have q1 := hb.c1
      unfold finW at q0 q1
      simp [results, Try.results31, go_sem, q0, q1]) ?_
    have kf : Kp w ((finW w W (.slice C g.length e) (.slice Az zs.length cz)).putObj D (.deferred none)) :=
      ((HEF.out.kp.setCell (p := ⟨w.heap.size + 1, 0, none⟩) (Nat.le_succ _) _).setCell (p := ⟨w.heap.size + 1, 1, none⟩) (Nat.le_succ _) _).trans ((fin_B HKD.out hne _ _).mono (by omega))
    rw [← HZ.out]
    exact ⟨C, e, Az, cz, rfl, HCC.out.kp kf, (HEF.out.o.fin (Nat.lt_succ_self _) HKD.out hne _ _).sl.rd, kf⟩
end Go.Proofs.Ytdjfjhanffliiaa
