/- EvalAgain, over the contracts of the calls. -/
import Derived.Test.YtdbncanedokinaaGreatEvOther
import Derived.Deep.RegionLaw
namespace Go.Proofs.YtdbncanedokinaaGreat
open Go.RowKit Go.Proofs.ShM Go.Proofs.GrM Go.Proofs.InM Go.Proofs.ImM Go.Proofs.EvM
set_option linter.unusedVariables false
set_option maxRecDepth 100000
set_option linter.unusedSimpArgs false
set_option maxHeartbeats 16000000

theorem heap_set10 {W : World} {b : Nat} {cs : Array Value} {t : TypeId} (h : W.heap[b]? = some (.cells cs t (0, 0))) (i : Nat) (x : Value) : (W.setCell ⟨b, i, none⟩ x).heap[b]? = some (.cells (cs.setIfInBounds i x) t (0, 0)) := by
  obtain ⟨hlt, hk⟩ := Array.getElem?_eq_some_iff.1 h
  show (W.heap.modify b _)[b]? = _
  rw [Array.getElem?_eq_getElem (by rw [Array.size_modify]; exact hlt), Array.getElem_modify_self, hk]
  rfl
section
variable {W W' : World} {b n c m d n' c' m' d' : Nat} {op op' : Int} {P Q P' Q' : Option Addr}
theorem Nb.put (h : Nb W b op P n c Q m d) : Nb (((W.setCell ⟨b, 0, none⟩ (.int .i64 op')).setCell ⟨b, 1, none⟩ (.slice P' n' c')).setCell ⟨b, 2, none⟩ (.slice Q' m' d')) b op' P' n' c' Q' m' d' :=
  heap_set10 (heap_set10 (heap_set10 h 0 _) 1 _) 2 _
theorem Nb.put1 (h : Nb W b op P n c Q m d) : Nb (W.setCell ⟨b, 1, none⟩ (.slice P' n' c')) b op P' n' c' Q m d := heap_set10 h 1 _
theorem Nb.tb {B : Nat} (h : Nb W b op P n c Q m d) (k : Below B W W') (hb : b < B) : Nb W' b op P n c Q m d := (k.block b hb).trans h
theorem Nb.drew (h : Nb W b op P n c Q m d) : Nb W.drew b op P n c Q m d := h
end
theorem cell_ne10 {w : World} {p q : Addr} {u v : Value} (h : p ≠ q) (hc : w.cell? q = some v) : (w.setCell p u).cell? q = some v := by
  rw [← hc]; simp [go_sem, h]
theorem step_app10 {w : World} {B : Nat} {ops : Array Oper} {o : Oper} {a : Act} {K : Act → World → Prop} {Q : Exit → Act → World → Prop} {E : Prop} (hgd : o.guard = none) (s x : Operand)
    (hop : o.op = .call { callee := .builtin .append, args := #[s, x], argTypes := #[23, 23] })
    (v : Value) (xs : List Int) (hs : a.eval s = v) (ho : Own B w v xs) (A : Option Addr) (c : Nat) (ys : List Int) (n : Nat) (hx : a.eval x = .slice A n c) (hn : n = ys.length) (hr : Rd w A ys)
    (hl : xs.length + ys.length ≤ 1000000) (hB : B ≤ w.heap.size)
    (h : ∀ zs A' c' w', Hid (zs = xs ++ ys) → Own B w' (.slice A' zs.length c') zs → Below B w w' → K (a.put o.dst (.slice A' zs.length c')) w') :
    if Region.wanted o (yielded ops a.tmps) = true then Oper.wp Tryz.prog o a w K Q else E := by
  have hw : Region.wanted o (yielded ops a.tmps) = true := by simp [Region.wanted, hgd]
  rw [if_pos hw]
  subst hn
  obtain ⟨zs, A', c', w', e, hrun, h1, h2⟩ := run_app ho c hr hl hB o.type
  unfold Oper.wp execOp
  simp only [hop, resolve, invoke, builtin, Sem.run_bind, Sem.run_pure, Result.andThen_ok, List.map_toArray, List.map_cons, List.map_nil, hs, hx, hrun]
  exact h zs A' c' w' e h1 h2
theorem args_step {la : List Int} {k : Nat} {x d : Int} (h : la[k]? = some x) : (la.take (k + 1)).map (· + d) = (la.take k).map (· + d) ++ [x + d] := by
  rw [List.take_add_one, h, List.map_append]; rfl
theorem twice_step {l : List Nd} {i : Nat} {t : Nd} (h : l[i]? = some t) : l ++ (l.take (i + 1)).map (shiftN l.length) = (l ++ (l.take i).map (shiftN l.length)) ++ [(t.1, t.2.1.map (· + (l.length : Int)), t.2.2)] := by
  rw [List.take_add_one, h, List.map_append, List.append_assoc]; rfl
theorem small_shift {l : List Nd} (hc : checkB l = true) (h : SmallG l) : SmallG (twice l) := by
  have h24 := (check_iff.1 hc).2.1
  refine ⟨by rw [twice_len]; omega, fun t ht => ?_⟩
  unfold twice at ht
  rcases List.mem_append.1 ht with ht | ht
  · exact h.2 t ht
  · obtain ⟨u, hu, rfl⟩ := List.mem_map.1 ht
    obtain ⟨i, hi⟩ := List.mem_iff_getElem?.1 hu
    have hn := (node_iff.1 ((check_iff.1 hc).2.2 i u hi)).2.2.2.1
    have hil := (List.getElem?_eq_some_iff.1 hi).1
    obtain ⟨g1, g2, g3⟩ := h.2 u hu
    refine ⟨by show (u.2.1.map _).length ≤ 100; rw [List.length_map]; exact g1, g2, g3.1, ?_, g3.2.2⟩
    intro x hx
    obtain ⟨y, hy, rfl⟩ := List.mem_map.1 hx
    have := hn y hy
    omega


theorem RdX.take_ {w : World} {X : Nat → Prop} {A : Option Addr} {ts : List T} (h : RdX w X A ts) (k : Nat) : RdX w X A (ts.take k) := by
  obtain ⟨h1, vs, h2, h3⟩ := h
  refine ⟨by rw [List.length_take]; omega, vs.take k, ⟨by rw [List.length_take, List.length_take, h2.len], fun j p t e1 e2 => ?_⟩, fun hp => ?_⟩
  · rw [List.getElem?_take] at e1 e2
    split at e1
    · rename_i hj
      rw [if_pos hj] at e2
      exact h2.at_ j p t e1 e2
    · cases e1
  · rw [List.length_take] at hp
    obtain ⟨ad, e, hb, hc⟩ := h3 (by omega)
    refine ⟨ad, e, hb, fun j u hu => hc j u ?_⟩
    have : flat vs = flat (vs.take k) ++ flat (vs.drop k) := by rw [← flat_append, List.take_append_drop]
    rw [this, List.getElem?_append_left (List.getElem?_eq_some_iff.1 hu).1]
    exact hu
theorem RdX.drop_ {w : World} {X : Nat → Prop} {ad : Addr} {ts : List T} (h : RdX w X (some ad) ts) {k : Nat} (hk : k ≤ ts.length) : RdX w X (some (ad.add (k * 2))) (ts.drop k) := by
  obtain ⟨h1, vs, h2, h3⟩ := h
  have hl := h2.len
  refine ⟨by rw [List.length_drop]; omega, vs.drop k, ⟨by rw [List.length_drop, List.length_drop, h2.len], fun j p t e1 e2 => ?_⟩, fun hp => ?_⟩
  · rw [List.getElem?_drop] at e1 e2
    exact h2.at_ _ p t e1 e2
  · rw [List.length_drop] at hp
    obtain ⟨ad', e, hb, hc⟩ := h3 (by omega)
    injection e with e
    subst e
    refine ⟨_, rfl, by rw [block_of_add]; exact hb, fun j u hu => ?_⟩
    rw [Addr.add_add]
    refine hc _ u ?_
    have e1 : flat vs = flat (vs.take k) ++ flat (vs.drop k) := by rw [← flat_append, List.take_append_drop]
    have e2 : (flat (vs.take k)).length = k * 2 := by rw [flat_len, List.length_take, Nat.min_eq_left (by omega)]
    rw [e1, List.getElem?_append_right (by omega), e2, show k * 2 + j - k * 2 = j by omega]
    exact hu
/-- The tensors behind, as a slice. -/
theorem run_behind (W : World) (ad : Addr) (m c i : Nat) (hi : i ≤ m) (hc : i < c) : (Instr.sliceAt 26 (.slice (some ad) m c) (some (.int .i64 (i : Int))) none none).run Tryz.prog W = .ok (.slice (some (ad.add (i * 2))) (m - i) (c - i)) W := by
  have hu : Tryz.prog.underlying 26 = some (.slice (Tryz.prog.elem 26)) := by kernel_rfl
  have hsz : ((sizeOf (Tryz.prog.elem 26)).run Tryz.prog W) = .ok 2 W := by
    obtain ⟨i, hi, _, h1, _⟩ := info_parts tn_info
    simp [sizeOf, typeInfo, show Tryz.prog.elem 26 = 25 by kernel_rfl, hi, h1]
  have := run_slice_l W 26 (some ad) m c hu .i64 (i : Int) (by omega) (by omega)
  rw [run_sliceAt_slice W _ _ _ _ _ hu, this, hsz]
  simp [Result.andThen, sliced, show ¬ c = i by omega]
theorem run_front (W : World) (A : Option Addr) (m c i : Nat) (hi : i ≤ c) : (Instr.sliceAt 26 (.slice A m c) none (some (.int .i64 (i : Int))) none).run Tryz.prog W = .ok (.slice A i c) W := by
  have hu : Tryz.prog.underlying 26 = some (.slice (Tryz.prog.elem 26)) := by kernel_rfl
  have hsz : ((sizeOf (Tryz.prog.elem 26)).run Tryz.prog W) = .ok 2 W := by
    obtain ⟨i, hi, _, h1, _⟩ := info_parts tn_info
    simp [sizeOf, typeInfo, show Tryz.prog.elem 26 = 25 by kernel_rfl, hi, h1]
  have := run_slice_h W 26 A m c hu .i64 (i : Int) (by omega) (by omega)
  have e0 : ∀ a : Addr, a.add 0 = a := fun a => by unfold Addr.add; simp
  rw [run_sliceAt_slice W _ _ _ _ _ hu, this, hsz]
  simp [Result.andThen, sliced, e0]
theorem eagain_far (HW : ∀ w : World, Calls Tryz.prog 7 #[] w fun e w' => e = .returned (.bool true) ∧ Kp w w') (A P Q R : Option Addr) (c n a b e f k d : Nat) (w : World) (hn : n ≤ 9223372036854775807)
    (h : FewL A c n w false ∨ FewL A c n w true ∧ (FewE P Q R a b e f k d w false ∨ FewE P Q R a b e f k d w true ∧ (12 < n ∨ n ≤ 12 ∧ CkL A c n w false))) :
    Calls Tryz.prog 5 #[.slice A n c, .agg #[.slice P a e, .slice Q b f], .slice R k d] w fun e w' => e = .returned (.bool true) ∧ Kp w w' := by
  have HAW := Lib.hid HW
  clear HW
  have F5 : Hid (Bk (w.alloc (.cells #[.slice P a e, .slice Q b f] 25)) w.heap.size P a e Q b f) := Bk.new rfl
  have K0 : Hid (Kp w (w.alloc (.cells #[.slice P a e, .slice Q b f] 25))) := Kp.alloc_ _ _
  rcases h with h | ⟨h, h2 | ⟨h2, h3 | ⟨h3, h4⟩⟩⟩
  · have H := Lib.hid h
    clear h
    go_enter Tryz.func5, Tryz.ntmps5
    go_wp2_with fail
    refine (HAW.out _).mono ?_; rintro e0 w1 ⟨rfl, k1⟩
    have K1 := Lib.hid (K0.out.tr k1)
    have F5 := Lib.hid (F5.out.kp k1)
    have p0 := F5.out.c0
    have p1 := F5.out.c1
    clear k1
    go_wp2_with fail
    refine (H.out _ K1.out).mono ?_; rintro e0 w2 ⟨rfl, rfl⟩
    go_wp2
    go_ret
    exact ⟨rfl, K1.out⟩
  · have H := Lib.hid h
    have H2 := Lib.hid h2
    clear h h2
    go_enter Tryz.func5, Tryz.ntmps5
    go_wp2_with fail
    refine (HAW.out _).mono ?_; rintro e0 w1 ⟨rfl, k1⟩
    have K1 := Lib.hid (K0.out.tr k1)
    have F5 := Lib.hid (F5.out.kp k1)
    have p0 := F5.out.c0
    have p1 := F5.out.c1
    clear k1
    go_wp2_with fail
    refine (H.out _ K1.out).mono ?_; rintro e0 w2 ⟨rfl, rfl⟩
    go_wp2_with fail
    refine (H2.out _ K1.out).mono ?_; rintro e0 w2 ⟨rfl, k2⟩
    have K2 := Lib.hid (K1.out.tr k2)
    clear k2 p0 p1
    go_wp2
    go_ret
    exact ⟨rfl, K2.out⟩
  · have H := Lib.hid h
    have H2 := Lib.hid h2
    have g1 : (12 : Int) < (n : Int) := by omega
    clear h h2 h3
    go_enter Tryz.func5, Tryz.ntmps5
    go_wp2_with fail
    refine (HAW.out _).mono ?_; rintro e0 w1 ⟨rfl, k1⟩
    have K1 := Lib.hid (K0.out.tr k1)
    have F5 := Lib.hid (F5.out.kp k1)
    have p0 := F5.out.c0
    have p1 := F5.out.c1
    clear k1
    go_wp2_with fail
    refine (H.out _ K1.out).mono ?_; rintro e0 w2 ⟨rfl, rfl⟩
    go_wp2_with fail
    refine (H2.out _ K1.out).mono ?_; rintro e0 w2 ⟨rfl, k2⟩
    have K2 := Lib.hid (K1.out.tr k2)
    clear k2 p0 p1
    go_wp2
    go_ret
    exact ⟨rfl, K2.out⟩
  · have H := Lib.hid h
    have H2 := Lib.hid h2
    have H4 := Lib.hid h4
    have g1 : ¬ (12 : Int) < (n : Int) := by omega
    clear h h2 h3 h4
    go_enter Tryz.func5, Tryz.ntmps5
    go_wp2_with fail
    refine (HAW.out _).mono ?_; rintro e0 w1 ⟨rfl, k1⟩
    have K1 := Lib.hid (K0.out.tr k1)
    have F5 := Lib.hid (F5.out.kp k1)
    have p0 := F5.out.c0
    have p1 := F5.out.c1
    clear k1
    go_wp2_with fail
    refine (H.out _ K1.out).mono ?_; rintro e0 w2 ⟨rfl, rfl⟩
    go_wp2_with fail
    refine (H2.out _ K1.out).mono ?_; rintro e0 w2 ⟨rfl, k2⟩
    have K2 := Lib.hid (K1.out.tr k2)
    clear k2 p0 p1
    go_wp2_with fail
    refine (H4.out _ K2.out).mono ?_; rintro e0 w3 ⟨rfl, k3⟩
    have K3 := Lib.hid (K2.out.tr k3)
    clear k3
    go_wp2
    go_ret
    exact ⟨rfl, K3.out⟩

theorem eagain_main (C : EvC) (A P Q R : Option Addr) (c e f d : Nat) (l : List Nd) (t : T) (ps : List T) (W : World) (RL : RdG W A l) (L : l.length ≤ c) (M : c ≤ 9223372036854775807) (hS : SmallG l) (hf : fewN l = true) (hc : checkB l = true) (hl12 : l.length ≤ 12)
    (RT : TRc W P e Q f t) (ST : SmT t) (RP : RdT W R ps) (SP : SmTs ps) (LP : ps.length ≤ d ∧ d ≤ 9223372036854775807) (h1 : fewE t ps = true) :
    Calls Tryz.prog 5 #[.slice A l.length c, .agg #[.slice P t.1.length e, .slice Q t.2.length f], .slice R ps.length d] W fun e w' => e = .returned (.bool true) ∧ Kp W w' := by
  have HAW := Lib.hid (evawake_any C)
  have HFL := Lib.hid (few_l (c := c) RL hf)
  have HF1 := Lib.hid (few_e RT RP (d := d) h1)
  have HCK : Hid (CkL A c l.length W true) := fun W' k => C.check A c l.length l true W' (RL.kp k) L M hS rfl hc
  obtain ⟨v, at_, err, hv⟩ : ∃ v at_ err, allE l t ps = (v, at_, err) := ⟨_, _, _, rfl⟩
  obtain ⟨v2, at2, err2, hv2⟩ : ∃ v at_ err, allE (twice l) t ps = (v, at_, err) := ⟨_, _, _, rfl⟩
  have HM := all_twice t ps hc (by omega)
  rw [hv, hv2] at HM
  have hsm := small_shift hc hS
  have HA1 : Hid (∀ W', Kp W W' → Calls Tryz.prog 10 #[.slice A l.length c, .agg #[.slice P t.1.length e, .slice Q t.2.length f], .slice R ps.length d] W' (RetVs v at_ err v.length W')) := fun W' k =>
    C.all A P Q R c l.length t.1.length t.2.length e f ps.length d l t ps v at_ err v.length W' (RL.kp k) L M hS rfl (RT.kp k) ST rfl rfl (RP.kp k) LP.1 LP.2 SP rfl hv rfl
  have HA2 : Hid (∀ W' E g z m, Kp W W' → z = twice l → m = z.length → RdG W' E z → z.length ≤ g ∧ g ≤ 9223372036854775807 → Calls Tryz.prog 10 #[.slice E m g, .agg #[.slice P t.1.length e, .slice Q t.2.length f], .slice R ps.length d] W' (RetVs v2 at2 err2 v2.length W')) := fun W' E g z m k hz hm hE hg => by
    subst hz
    exact C.all E P Q R g m t.1.length t.2.length e f ps.length d (twice l) t ps v2 at2 err2 v2.length W' hE hg.1 hg.2 hsm hm (RT.kp k) ST rfl rfl (RP.kp k) LP.1 LP.2 SP rfl hv2 rfl
  have hl1 := (check_iff.1 hc).1
  have H1 : Hid (∀ (i : Nat) (t : Nd), l[i]? = some t → t.2.1.length ≤ 100 ∧ t.2.2.length ≤ 100 ∧ ∀ x ∈ t.2.1, 0 ≤ x ∧ x ≤ 24) := fun i t ht => by
    have hm := hS.2 t (List.mem_of_getElem? ht)
    have hn := (node_iff.1 ((check_iff.1 hc).2.2 i t ht)).2.2.2.1
    have hil := (List.getElem?_eq_some_iff.1 ht).1
    exact ⟨hm.1, hm.2.1, fun x hx => by have := hn x hx; omega⟩
  have HRD := Lib.hid RL
  have HMM := Lib.hid HM
  obtain ⟨a, ha⟩ : ∃ a, a = t.1.length := ⟨_, rfl⟩
  obtain ⟨b, hb⟩ : ∃ b, b = t.2.length := ⟨_, rfl⟩
  obtain ⟨kp, hk⟩ : ∃ k, k = ps.length := ⟨_, rfl⟩
  rw [← ha, ← hb, ← hk] at HF1 HA1 HA2 ⊢
  have F5 : Hid (Bk (W.alloc (.cells #[.slice P a e, .slice Q b f] 25)) W.heap.size P a e Q b f) := Bk.new rfl
  have K0 : Hid (Kp W (W.alloc (.cells #[.slice P a e, .slice Q b f] 25))) := Kp.alloc_ _ _
  obtain ⟨P0, hP0⟩ : ∃ x, x = P := ⟨_, rfl⟩
  obtain ⟨Q0, hQ0⟩ : ∃ x, x = Q := ⟨_, rfl⟩
  obtain ⟨e0, he0⟩ : ∃ x, x = e := ⟨_, rfl⟩
  obtain ⟨f0, hf0⟩ : ∃ x, x = f := ⟨_, rfl⟩
  subst hP0 hQ0 he0 hf0
  have i1 : ¬ (12 : Int) < (l.length : Int) := by omega
  clear C RL M hS hf hc RT ST RP SP LP h1 hv hv2 HM hsm ha hb hk
  go_enter Tryz.func5, Tryz.ntmps5
  go_wp2_with fail
  refine (HAW.out _).mono ?_; rintro en w1 ⟨rfl, k_⟩
  have K := Lib.hid (K0.out.tr k_)
  have F5 := Lib.hid (F5.out.kp k_)
  have p0 := F5.out.c0
  have p1 := F5.out.c1
  clear k_
  go_wp2_with fail
  refine (HFL.out _ K.out).mono ?_; rintro en w2 ⟨rfl, rfl⟩
  go_wp2_with fail
  refine (HF1.out _ K.out).mono ?_; rintro en w2 ⟨rfl, k_⟩
  have K := Lib.hid (K.out.tr k_)
  have F5 := Lib.hid (F5.out.kp k_)
  clear k_ p0 p1
  go_wp2_with fail
  refine (HCK.out _ K.out).mono ?_; rintro en w3 ⟨rfl, k_⟩
  have K := Lib.hid (K.out.tr k_)
  have F5 := Lib.hid (F5.out.kp k_)
  have hl24 : l.length ≤ 24 := by omega
  clear k_ HAW HFL HF1 HCK
  have hO0 := Lib.hid (OwnN.zero w3 (Nat.le_refl _))
  have hR0 : Hid (RdN (w3.alloc (.cells #[] 39)) (fun k => (Value.slice (some ⟨w3.heap.size, 0, none⟩) 0 0).ownBlock ≠ some k) A l) := (HRD.out.kp K.out).old.mono (Kp.alloc_ _ _) (fun k hk _ e => not_new13 hk e)
  have hs0 : Hid (w3.heap.size ≤ (w3.alloc (.cells #[] 39)).heap.size) := by show _ ≤ _; simp
  go_wp2_with (at_builtin; (refine wpList_appN (B := w3.heap.size) rfl (.tmp 39) (.tmp 40) rfl _ [] rfl hO0.out A c l _ rfl rfl hR0.out (by simp; omega) hs0.out ?_; intro zz A1 c1 w4 HZ o4 b4 _; have O4 := Lib.hid o4; have K4 : Hid (Kp w3 w4) := (Kp.alloc_ _ _).trans b4; clear o4 b4))
  go_loopw [8, 9] (fun v i wx => ∃ (j : Nat) (E : Option Addr) (f : Nat) (cur : List Nd), v = .slice E cur.length f ∧ i = .int .i64 (j : Int) ∧ Hid (j ≤ l.length) ∧ Hid (cur = l ++ (l.take j).map (shiftN l.length)) ∧ Hid (OwnN w3.heap.size wx (.slice E cur.length f) cur) ∧ Hid (Kp w3 wx)) (fun _ i _ => l.length - (intOf i).toNat)
  case atStart => exact ⟨0, A1, c1, zz, rfl, rfl, Nat.zero_le _, (by show zz = _; rw [HZ.out]; simp), O4.out, K4.out⟩
  case round =>
    obtain ⟨j, E, g, cur, rfl, rfl, hj, hcur, hO, hK⟩ := hrel
    have K5 := Lib.hid (K.out.tr hK.out)
    by_cases hjl : j < l.length
    · have hj' : (j : Int) < (l.length : Int) := by omega
      obtain ⟨ad, t, P, e, Q, f, rfl, hlt, ht, hc0, hc1, hc2, hNR, hcp, hcq⟩ := (HRD.out.old.kp K5.out).at_ hjl
      obtain ⟨f1, f2, f3⟩ := H1.out j t ht
      have HST := Lib.hid (twice_step ht)
      clear ht
      obtain ⟨op, la, lb⟩ := t
      dsimp only at hc0 hc1 hc2 hNR f1 f2 f3 HST hcp hcq
      have hla := hNR.ra
      obtain ⟨bx, hbx⟩ : ∃ bx, bx = Obj.cells #[.int .i64 0, .slice none 0 0, .slice none 0 0] 39 := ⟨_, rfl⟩
      have x0 : (wr.alloc bx).cell? (ad.add (j * 3)) = some (.int .i64 op) := ((Kp.alloc_ wr bx).cell (by rw [block_of_add]; exact hlt)).trans hc0
      have x2 : (wr.alloc bx).cell? ⟨(ad.add (j * 3)).block, (ad.add (j * 3)).off + 2, none⟩ = some (.slice Q lb.length f) := ((Kp.alloc_ wr bx).cell (p := ⟨(ad.add (j * 3)).block, (ad.add (j * 3)).off + 2, none⟩) (by show (ad.add (j * 3)).block < _; rw [block_of_add]; exact hlt)).trans hc2
      have B0 : Hid (Nb (wr.alloc bx) wr.heap.size 0 none 0 0 none 0 0) := by rw [hbx]; exact Nb.new rfl
      have y0 := B0.out.c0
      have y1 := B0.out.c1
      have y2 := B0.out.c2
      have z0 := B0.out.f0 0
      have z1 := B0.out.f0 1
      have z2 := B0.out.f0 2
      have HBX := Lib.hid hbx
      rw [hbx] at x0 x2 y0 y1 y2 z0 z1 z2
      clear hbx
      go_wp2
      go_region
      obtain ⟨W8, hW8⟩ : ∃ W8, W8 = (wr.alloc (.cells #[.int .i64 op, .slice none 0 0, .slice Q lb.length f] 39)).drew := ⟨_, rfl⟩
      have B8 : Hid (Nb W8 wr.heap.size op none 0 0 Q lb.length f) := by rw [hW8]; exact Nb.drew (Nb.new rfl)
      have K8 : Hid (Kp wr W8) := by show Kp _ _; rw [hW8]; exact (Kp.alloc_ _ _).tr (Kp.drewN_ _ 1)
      rw [← hW8]
      obtain ⟨G, hG⟩ : ∃ G, G = wr.heap.size := ⟨_, rfl⟩
      have HG := Lib.hid hG
      have hG8 : Hid (G + 1 ≤ W8.heap.size) := by have := B8.out.lt; show G + 1 ≤ _; omega
      rw [← hG] at B8 ⊢
      clear x0 x2 y0 y1 y2 z0 z1 z2 HBX B0 hW8 hG
      obtain ⟨wo, hwo⟩ : ∃ wo, wo = wr := ⟨_, rfl⟩
      subst hwo
      go_wp2
      go_loopw [11] (fun i wx => ∃ (k : Nat) (D : Option Addr) (d : Nat) (done : List Int), i = .int .i64 (k : Int) ∧ Hid (k ≤ la.length) ∧ Hid (done = (la.take k).map (· + (l.length : Int))) ∧ Hid (Nb wx G op D done.length d Q lb.length f) ∧ Hid (Own (G + 1) wx (.slice D done.length d) done) ∧ Hid (Kp wo wx) ∧ Hid (G + 1 ≤ wx.heap.size)) (fun i _ => la.length - (intOf i).toNat)
      case atStart => exact ⟨0, none, 0, [], rfl, Nat.zero_le _, rfl, B8.out, Own.nil_ _ _, K8.out, hG8.out⟩
      case round =>
        obtain ⟨k, D, d, done, rfl, hk, hdn, hNb, hOw, hKi, hGs⟩ := hrel
        have hc1' := (hKi.out.cell (p := ⟨(ad.add (j * 3)).block, (ad.add (j * 3)).off + 1, none⟩) (by show (ad.add (j * 3)).block < _; rw [block_of_add]; exact hlt)).trans hc1
        have p1 := hNb.out.c1
        have q1 := hNb.out.f0 1
        by_cases hkl : k < la.length
        · have hk' : (k : Int) < (la.length : Int) := by omega
          obtain ⟨ap, x, rfl, hap, hx, hcx0⟩ := hla.at_ hkl
          have hcx := (hKi.out.cell (p := ap.add k) (by rw [block_of_add]; exact hap)).trans hcx0
          have hapG : ap.block < G + 1 := by rw [HG.out]; omega
          have hadG : ad.block < G + 1 := by rw [HG.out]; omega
          have hnb : G ≠ (ad.add (j * 3)).block := by rw [block_of_add, HG.out]; omega
          have hna : G ≠ (ap.add k).block := by rw [block_of_add, HG.out]; omega
          have hszv : G < wr.heap.size := by have := hGs.out; omega
          have hxr := f3 x (List.mem_of_getElem? hx)
          have HDN := Lib.hid (args_step (d := (l.length : Int)) hx)
          obtain ⟨y, hy⟩ : ∃ y, y = x + (l.length : Int) := ⟨_, rfl⟩
          have hyw : IntKind.i64.wrap (x + (l.length : Int)) = y := by rw [IntKind.wrap_i64]; omega
          rw [← hy] at HDN
          have hdl : done.length ≤ 100 := by rw [hdn.out, List.length_map, List.length_take]; omega
          clear hx hy
          go_wp2
          --BEGIN12
          have HSS : Hid (∀ V, Below (G + 1) wr V → V.cell? ⟨(ad.add (j * 3)).block, (ad.add (j * 3)).off + 1, none⟩ = some (.slice (some ap) la.length e) ∧ V.cell? (ap.add k) = some (.int .i64 x)) := fun V kV => ⟨(kV.cell (p := ⟨(ad.add (j * 3)).block, (ad.add (j * 3)).off + 1, none⟩) (by show (ad.add (j * 3)).block < _; rw [block_of_add]; exact hadG)).trans hc1', (kV.cell (p := ap.add k) (by rw [block_of_add]; exact hapG)).trans hcx⟩
          have hdr12 : Below (G + 1) wr wr.drew := Below.drew (Below.refl _ _)
          refine wp_region_held_drew (S := fun V => V.cell? ⟨(ad.add (j * 3)).block, (ad.add (j * 3)).off + 1, none⟩ = some (.slice (some ap) la.length e) ∧ V.cell? (ap.add k) = some (.int .i64 x)) (by kernel_rfl) (HSS.out _ hdr12) (fun hHeld => ?_)
          refine wpAnyH_take (i := 0) (v := .pointer (some ⟨G, 1, none⟩)) rfl (by kernel_rfl) (by kernel_rfl) (by kernel_rfl) (fun _ _ _ h => h) (Or.inl ⟨by kernel_rfl, fun V hSV => ?_⟩) hHeld ?_
          · (try dsimp only at hSV); go_simp
          try simp only [Act.put, List.setIfInBounds_toArray, List.set_cons_zero, List.set_cons_succ]
          refine wpAnyH_take (i := 2) (v := .slice (some ad) l.length c) rfl (by kernel_rfl) (by kernel_rfl) (by kernel_rfl) (fun _ _ _ h => h) (Or.inl ⟨by kernel_rfl, fun V hSV => ?_⟩) hHeld ?_
          · (try dsimp only at hSV); go_simp
          try simp only [Act.put, List.setIfInBounds_toArray, List.set_cons_zero, List.set_cons_succ]
          refine wpAnyH_take (i := 3) (v := .int .i64 (j : Int)) rfl (by kernel_rfl) (by kernel_rfl) (by kernel_rfl) (fun _ _ _ h => h) (Or.inl ⟨by kernel_rfl, fun V hSV => ?_⟩) hHeld ?_
          · (try dsimp only at hSV); go_simp
          try simp only [Act.put, List.setIfInBounds_toArray, List.set_cons_zero, List.set_cons_succ]
          refine wpAnyH_take (i := 4) (v := .pointer (some (ad.add (j * 3)))) rfl (by kernel_rfl) (by kernel_rfl) (by kernel_rfl) (fun _ _ _ h => h) (Or.inl ⟨by kernel_rfl, fun V hSV => ?_⟩) hHeld ?_
          · (try dsimp only at hSV); go_simp
          try simp only [Act.put, List.setIfInBounds_toArray, List.set_cons_zero, List.set_cons_succ]
          refine wpAnyH_take (i := 5) (v := .pointer (some ⟨(ad.add (j * 3)).block, (ad.add (j * 3)).off + 1, none⟩)) rfl (by kernel_rfl) (by kernel_rfl) (by kernel_rfl) (fun _ _ _ h => h) (Or.inl ⟨by kernel_rfl, fun V hSV => ?_⟩) hHeld ?_
          · (try dsimp only at hSV); go_simp
          try simp only [Act.put, List.setIfInBounds_toArray, List.set_cons_zero, List.set_cons_succ]
          refine wpAnyH_take (i := 6) (v := .slice (some ap) la.length e) rfl (by kernel_rfl) (by kernel_rfl) (by kernel_rfl) (fun _ _ _ h => h) (Or.inl ⟨by kernel_rfl, fun V hSV => ?_⟩) hHeld ?_
          · (try dsimp only at hSV); go_simp
          try simp only [Act.put, List.setIfInBounds_toArray, List.set_cons_zero, List.set_cons_succ]
          refine wpAnyH_take (i := 7) (v := .int .i64 (k : Int)) rfl (by kernel_rfl) (by kernel_rfl) (by kernel_rfl) (fun _ _ _ h => h) (Or.inl ⟨by kernel_rfl, fun V hSV => ?_⟩) hHeld ?_
          · (try dsimp only at hSV); go_simp
          try simp only [Act.put, List.setIfInBounds_toArray, List.set_cons_zero, List.set_cons_succ]
          refine wpAnyH_take (i := 8) (v := .pointer (some (ap.add k))) rfl (by kernel_rfl) (by kernel_rfl) (by kernel_rfl) (fun _ _ _ h => h) (Or.inl ⟨by kernel_rfl, fun V hSV => ?_⟩) hHeld ?_
          · (try dsimp only at hSV); go_simp
          try simp only [Act.put, List.setIfInBounds_toArray, List.set_cons_zero, List.set_cons_succ]
          refine wpAnyH_take (i := 9) (v := .int .i64 x) rfl (by kernel_rfl) (by kernel_rfl) (by kernel_rfl) (fun _ _ _ h => h) (Or.inl ⟨by kernel_rfl, fun V hSV => ?_⟩) hHeld ?_
          · (try dsimp only at hSV); go_simp
          try simp only [Act.put, List.setIfInBounds_toArray, List.set_cons_zero, List.set_cons_succ]
          refine wpAnyH_take (i := 10) (v := .slice (some ad) l.length c) rfl (by kernel_rfl) (by kernel_rfl) (by kernel_rfl) (fun _ _ _ h => h) (Or.inl ⟨by kernel_rfl, fun V hSV => ?_⟩) hHeld ?_
          · (try dsimp only at hSV); go_simp
          try simp only [Act.put, List.setIfInBounds_toArray, List.set_cons_zero, List.set_cons_succ]
          refine wpAnyH_take (i := 11) (v := .int .i64 (l.length : Int)) rfl (by kernel_rfl) (by kernel_rfl) (by kernel_rfl) (fun _ _ _ h => h) (Or.inl ⟨by kernel_rfl, fun V hSV => ?_⟩) hHeld ?_
          · (try dsimp only at hSV); go_simp
          try simp only [Act.put, List.setIfInBounds_toArray, List.set_cons_zero, List.set_cons_succ]
          refine wpAnyH_take (i := 12) (v := .int .i64 y) rfl (by kernel_rfl) (by kernel_rfl) (by kernel_rfl) (fun _ _ _ h => h) (Or.inl ⟨by kernel_rfl, fun V hSV => ?_⟩) hHeld ?_
          · (try dsimp only at hSV); go_simp
          try simp only [Act.put, List.setIfInBounds_toArray, List.set_cons_zero, List.set_cons_succ]
          refine wpAnyH_ready (rs := [1, 13]) (by kernel_rfl) (by simp) ?_
          refine AllReadyH.cons rfl (fun K9_ hK => ?_) ?_
          · skip
            go_simp
            refine hK.out _ _ ?_ (fun hHeld => ?_)
            · exact HSS.out _ hdr12
            clear hK
            try simp only [Act.put, List.setIfInBounds_toArray, List.set_cons_zero, List.set_cons_succ]
            refine wpAnyH_ready (rs := [13]) (by kernel_rfl) (by simp) ?_
            refine AllReadyH.cons rfl (fun K9_ hK => ?_) AllReadyH.nil
            go_simp
            refine hK.out _ _ ?_ (fun hHeld => ?_)
            · exact HSS.out _ (hdr12.alloc hGs.out _)
            clear hK
            try simp only [Act.put, List.setIfInBounds_toArray, List.set_cons_zero, List.set_cons_succ]
            refine wpAnyH_ready (rs := [14]) (by kernel_rfl) (by simp) ?_
            refine AllReadyH.cons rfl (fun K9_ hK => ?_) AllReadyH.nil
            refine step_app10 rfl (.tmp 70) (.tmp 82) rfl _ done rfl (hOw.out.drew.kp (Kp.alloc_ _ _)) _ _ [y] _ rfl rfl (Rd.one _ _ _) (by simp; omega) (by have := hGs.out; simp; omega) ?_
            intro ys A2 c2 w13 HZ o2 b2
            have HO := Lib.hid o2
            have HB : Hid (Below (G + 1) wr w13) := ((Below.drew (Below.refl _ wr)).alloc hGs.out _).trans b2
            have g4 := (HB.out.frozen (p := ⟨G, 1, none⟩) (Nat.lt_succ_self _)).trans q1
            have g3 := (HB.out.cell (p := ⟨G, 1, none⟩) (Nat.lt_succ_self _)).trans p1
            clear o2 b2
            refine hK.out _ _ ?_ (fun hHeld => ?_)
            · exact HSS.out _ HB.out
            clear hK
            try simp only [Act.put, List.setIfInBounds_toArray, List.set_cons_zero, List.set_cons_succ]
            refine wpAnyH_take (i := 15) (v := .pointer (some ⟨G, 1, none⟩)) rfl (by kernel_rfl) (by kernel_rfl) (by kernel_rfl) (fun _ _ _ h => h) (Or.inl ⟨by kernel_rfl, fun V hSV => ?_⟩) hHeld ?_
            · (try dsimp only at hSV); go_simp
            try simp only [Act.put, List.setIfInBounds_toArray, List.set_cons_zero, List.set_cons_succ]
            refine wpAnyH_ready (rs := [16]) (by kernel_rfl) (by simp) ?_
            refine AllReadyH.cons rfl (fun K9_ hK => ?_) AllReadyH.nil
            go_simp
            refine hK.out _ _ ?_ (fun hHeld => ?_)
            · exact ⟨cell_ne10 (fun e => hnb (congrArg Addr.block e)) (HSS.out _ HB.out).1, cell_ne10 (fun e => hna (congrArg Addr.block e)) (HSS.out _ HB.out).2⟩
            clear hK
            try simp only [Act.put, List.setIfInBounds_toArray, List.set_cons_zero, List.set_cons_succ]
            refine wpAnyH_done (by kernel_rfl) ?_ _
            have N9 : Hid (Nb (w13.setCell ⟨G, 1, none⟩ (.slice A2 ys.length c2)) G op A2 ys.length c2 Q lb.length f) := (hNb.out.tb HB.out (Nat.lt_succ_self _)).put1
            have O9 : Hid (Own (G + 1) (w13.setCell ⟨G, 1, none⟩ (.slice A2 ys.length c2)) (.slice A2 ys.length c2) ys) := HO.out.of_block fun g hg => by have := HO.out.from_ hg; rw [Below.heap_setCell _ _ _ _ (by simp; omega)]
            have K9 : Hid (Kp wo (w13.setCell ⟨G, 1, none⟩ (.slice A2 ys.length c2))) := Below.setCell (hKi.out.trans (HB.out.mono (by rw [← HG.out]; exact Nat.le_succ _))) (by rw [← HG.out]; exact Nat.le_refl _) _
            have S9 : Hid (G + 1 ≤ (w13.setCell ⟨G, 1, none⟩ (.slice A2 ys.length c2)).heap.size) := by show _ ≤ _; have := HB.out.size; have := hGs.out; simp; omega
            go_wp2
            go_roundw
            case rel => exact ⟨k + 1, A2, c2, ys, by go_num, (by show k + 1 ≤ la.length; omega), (by show ys = _; rw [HZ.out, hdn.out]; exact HDN.out.symm), N9.out, O9.out, K9.out, S9.out⟩
            case measure => simp [intOf]; omega
          refine AllReadyH.cons rfl (fun K9_ hK => ?_) AllReadyH.nil
          go_simp
          refine hK.out _ _ ?_ (fun hHeld => ?_)
          · exact HSS.out _ (hdr12.alloc hGs.out _)
          clear hK
          try simp only [Act.put, List.setIfInBounds_toArray, List.set_cons_zero, List.set_cons_succ]
          refine wpAnyH_ready (rs := [1]) (by kernel_rfl) (by simp) ?_
          refine AllReadyH.cons rfl (fun K9_ hK => ?_) AllReadyH.nil
          go_simp
          refine hK.out _ _ ?_ (fun hHeld => ?_)
          · exact HSS.out _ (hdr12.alloc hGs.out _)
          clear hK
          try simp only [Act.put, List.setIfInBounds_toArray, List.set_cons_zero, List.set_cons_succ]
          refine wpAnyH_ready (rs := [14]) (by kernel_rfl) (by simp) ?_
          refine AllReadyH.cons rfl (fun K9_ hK => ?_) AllReadyH.nil
          refine step_app10 rfl (.tmp 70) (.tmp 82) rfl _ done rfl (hOw.out.drew.kp (Kp.alloc_ _ _)) _ _ [y] _ rfl rfl (Rd.one _ _ _) (by simp; omega) (by have := hGs.out; simp; omega) ?_
          intro ys A2 c2 w13 HZ o2 b2
          have HO := Lib.hid o2
          have HB : Hid (Below (G + 1) wr w13) := ((Below.drew (Below.refl _ wr)).alloc hGs.out _).trans b2
          have g4 := (HB.out.frozen (p := ⟨G, 1, none⟩) (Nat.lt_succ_self _)).trans q1
          have g3 := (HB.out.cell (p := ⟨G, 1, none⟩) (Nat.lt_succ_self _)).trans p1
          clear o2 b2
          refine hK.out _ _ ?_ (fun hHeld => ?_)
          · exact HSS.out _ HB.out
          clear hK
          try simp only [Act.put, List.setIfInBounds_toArray, List.set_cons_zero, List.set_cons_succ]
          refine wpAnyH_take (i := 15) (v := .pointer (some ⟨G, 1, none⟩)) rfl (by kernel_rfl) (by kernel_rfl) (by kernel_rfl) (fun _ _ _ h => h) (Or.inl ⟨by kernel_rfl, fun V hSV => ?_⟩) hHeld ?_
          · (try dsimp only at hSV); go_simp
          try simp only [Act.put, List.setIfInBounds_toArray, List.set_cons_zero, List.set_cons_succ]
          refine wpAnyH_ready (rs := [16]) (by kernel_rfl) (by simp) ?_
          refine AllReadyH.cons rfl (fun K9_ hK => ?_) AllReadyH.nil
          go_simp
          refine hK.out _ _ ?_ (fun hHeld => ?_)
          · exact ⟨cell_ne10 (fun e => hnb (congrArg Addr.block e)) (HSS.out _ HB.out).1, cell_ne10 (fun e => hna (congrArg Addr.block e)) (HSS.out _ HB.out).2⟩
          clear hK
          try simp only [Act.put, List.setIfInBounds_toArray, List.set_cons_zero, List.set_cons_succ]
          refine wpAnyH_done (by kernel_rfl) ?_ _
          have N9 : Hid (Nb (w13.setCell ⟨G, 1, none⟩ (.slice A2 ys.length c2)) G op A2 ys.length c2 Q lb.length f) := (hNb.out.tb HB.out (Nat.lt_succ_self _)).put1
          have O9 : Hid (Own (G + 1) (w13.setCell ⟨G, 1, none⟩ (.slice A2 ys.length c2)) (.slice A2 ys.length c2) ys) := HO.out.of_block fun g hg => by have := HO.out.from_ hg; rw [Below.heap_setCell _ _ _ _ (by simp; omega)]
          have K9 : Hid (Kp wo (w13.setCell ⟨G, 1, none⟩ (.slice A2 ys.length c2))) := Below.setCell (hKi.out.trans (HB.out.mono (by rw [← HG.out]; exact Nat.le_succ _))) (by rw [← HG.out]; exact Nat.le_refl _) _
          have S9 : Hid (G + 1 ≤ (w13.setCell ⟨G, 1, none⟩ (.slice A2 ys.length c2)).heap.size) := by show _ ≤ _; have := HB.out.size; have := hGs.out; simp; omega
          go_wp2
          go_roundw
          case rel => exact ⟨k + 1, A2, c2, ys, by go_num, (by show k + 1 ≤ la.length; omega), (by show ys = _; rw [HZ.out, hdn.out]; exact HDN.out.symm), N9.out, O9.out, K9.out, S9.out⟩
          case measure => simp [intOf]; omega
          --END12
        · have hk' : ¬ (k : Int) < (la.length : Int) := by omega
          have hdn2 : done = la.map (· + (l.length : Int)) := by rw [hdn.out, List.take_of_length_le (by omega)]
          have HD2 := Lib.hid hdn2
          have hsl := hOw.out.sl
          have hE := Lib.hid (hO.out.kp hKi.out)
          have hKW := Lib.hid (hK.out.tr hKi.out)
          have hxa : ∀ az, D = some az → 0 < done.length → (Value.slice E cur.length g).ownBlock ≠ some az.block := by
            rintro az rfl _ ee
            have h1 := hO.out.row_lt ee
            have h2 := hOw.out.from_ (k := az.block) rfl
            rw [HG.out] at h2; omega
          have hxn : ∀ az, Q = some az → 0 < lb.length → (Value.slice E cur.length g).ownBlock ≠ some az.block := by
            rintro az rfl hp ee
            have h1 := hO.out.from_ ee
            have h2 := hNR.xn az rfl hp
            have h3 := K.out.size
            omega
          have hNN : Hid (NR wr (fun k => (Value.slice E cur.length g).ownBlock ≠ some k) D done Q lb) := ⟨i_of_own hOw.out, hNR.rn.kp hKi.out, hxa, hxn⟩
          have n0 := hNb.out.c0
          have n2 := hNb.out.c2
          have O7 : Hid (OwnN w3.heap.size (wr.alloc (.cells #[.int .i64 op, .slice D done.length d, .slice Q lb.length f] 39)) (.slice E cur.length g) cur) := hE.out.kp (Kp.alloc_ _ _)
          have R7 : Hid (RdN (wr.alloc (.cells #[.int .i64 op, .slice D done.length d, .slice Q lb.length f] 39)) (fun k => (Value.slice E cur.length g).ownBlock ≠ some k) (some ⟨wr.heap.size, 0, none⟩) [(op, done, lb)]) := RdN.one (t := (op, done, lb)) hNN.out ⟨hsl.le, hsl.cap⟩ hcq _
          have s7 : Hid (w3.heap.size ≤ (wr.alloc (.cells #[.int .i64 op, .slice D done.length d, .slice Q lb.length f] 39)).heap.size) := (gal hKW.out _).size
          have hcl : cur.length ≤ 100 := by rw [hcur.out, List.length_append, List.length_map, List.length_take]; omega
          clear hxa hxn hsl hdn2 hla
          go_wp2_with (at_builtin; (refine wpList_appN (B := w3.heap.size) rfl (.tmp 85) (.tmp 87) rfl _ cur rfl O7.out _ 1 [(op, done, lb)] 1 rfl rfl R7.out (by simp; omega) s7.out ?_; intro z2 A2 c2 w9 HZ2 o9 b9 _; have O9 := Lib.hid o9; have K9 : Hid (Kp w3 w9) := (gal hKW.out _).trans b9; clear o9 b9))
          go_roundw
          case rel => exact ⟨j + 1, A2, c2, z2, rfl, by go_num, (by show j + 1 ≤ l.length; omega), (by show z2 = _; rw [HZ2.out, HD2.out, HST.out, hcur.out]), O9.out, K9.out⟩
          case measure => simp [intOf]; omega
    · have hj' : ¬ (j : Int) < (l.length : Int) := by omega
      have hct : cur = twice l := by
        have hjl2 : j = l.length := by have := hj.out; omega
        rw [hcur.out, hjl2, List.take_length]; rfl
      have HCT := Lib.hid hct
      have F6 := Lib.hid (F5.out.kp hK.out)
      have p0 := F6.out.c0
      have p1 := F6.out.c1
      clear hct hcur hj hjl
      go_wp2_with fail
      refine (HA1.out _ K5.out).mono ?_; rintro en w6 ⟨E6, c6, rfl, r6, l6, k_⟩
      have K6 := Lib.hid (K5.out.tr k_)
      have F6 := Lib.hid (F6.out.kp k_)
      have p0 := F6.out.c0
      have p1 := F6.out.c1
      have N6 := Lib.hid (n_of_own (hO.out.kp k_))
      clear k_
      go_wp2_with fail
      refine (HA2.out _ _ _ cur _ K6.out HCT.out rfl N6.out.1 N6.out.2).mono ?_; rintro en w7 ⟨E7, c7, rfl, r7, l7, k_⟩
      have K7 := Lib.hid (K6.out.tr k_)
      have r6 := Lib.hid (r6.out.kp k_)
      clear k_ p0 p1
      have qq : ∀ x : Int, (x == x) = true := fun x => by simp
      rcases HMM.out with ⟨tt, e1, e2, e3⟩ | ⟨i, er, e1, e2, e3⟩
      · injection e1 with e1 e4
        injection e4 with e4 e5
        injection e3 with e3 e6
        injection e6 with e6 e7
        subst e1 e4 e5 e6 e7
        have hl2 : v2.length = l.length + l.length := by rw [e3, List.length_append, e2]
        have HF : Hid (v2.take l.length = v) := by show _ = _; rw [e3, ← e2, List.take_left']; rfl
        have HB : Hid (v2.drop l.length = v) := by show _ = _; rw [e3, ← e2, List.drop_left']; rfl
        obtain ⟨ad, hE7⟩ : ∃ ad, E7 = some ad := by
          obtain ⟨ad, _, _, _, _, _, h, _⟩ := r7.out.at_ (k := 0) (by omega)
          exact ⟨ad, h⟩
        subst hE7
        have R1 : Hid (RdT w7 (some ad) v) := by have h := r7.out.take_ l.length; rw [HF.out] at h; exact h
        have R2 : Hid (RdT w7 (some (ad.add (l.length * 2))) v) := by have h := r7.out.drop_ (k := l.length) (by omega); rw [HB.out] at h; exact h
        have S1 : ∀ V, (Instr.sliceAt 26 (.slice (some ad) v2.length c7) none (some (.int .i64 (l.length : Int))) none).run Tryz.prog V = .ok (.slice (some ad) l.length c7) V := fun V => run_front V (some ad) v2.length c7 l.length (by have := l7.out.1; omega)
        have S2 : ∀ V, (Instr.sliceAt 26 (.slice (some ad) v2.length c7) (some (.int .i64 (l.length : Int))) none none).run Tryz.prog V = .ok (.slice (some (ad.add (l.length * 2))) l.length (c7 - l.length)) V := fun V => by
          have h := run_behind V ad v2.length c7 l.length (by omega) (by have := l7.out.1; omega)
          rw [show v2.length - l.length = l.length by omega] at h
          exact h
        have g1 : IntKind.i64.wrap (2 * (l.length : Int)) = ((l.length + l.length : Nat) : Int) := by rw [IntKind.wrap_i64]; omega
        have HVL : Hid (v.length = l.length) := e2
        obtain ⟨nv, hnv⟩ : ∃ n, n = v.length := ⟨_, rfl⟩
        obtain ⟨nw, hnw⟩ : ∃ n, n = v2.length := ⟨_, rfl⟩
        rw [← hnw] at S1 S2 hl2
        have hnl : nv = l.length := by rw [hnv]; exact e2
        rw [← hl2] at g1
        have g2 := qq (nw : Int)
        have g3 := qq (l.length : Int)
        obtain ⟨B2, hB2⟩ : ∃ B2, B2 = some (ad.add (l.length * 2)) := ⟨_, rfl⟩
        obtain ⟨c8, hc8⟩ : ∃ c8, c8 = c7 - l.length := ⟨_, rfl⟩
        rw [← hB2, ← hc8] at S2
        rw [← hB2] at R2
        rw [← hnw, ← hnv, hnl]
        have hnwb : nw ≤ 9223372036854775807 := by omega
        clear e3 e2 hnv hnw hl2 hnl hB2 hc8 qq HF HB
        go_wp2_with fail
        refine (same_ts v HVL.out _ (some ad) E6 _ c6 R1.out r6.out).mono ?_; rintro en w8 ⟨rfl, k_⟩
        have K8 := Lib.hid (K7.out.tr k_)
        have R2 := Lib.hid (R2.out.kp k_)
        have r6 := Lib.hid (r6.out.kp k_)
        clear k_
        go_wp2_with fail
        refine (same_ts v HVL.out _ B2 E6 _ c6 R2.out r6.out).mono ?_; rintro en w9 ⟨rfl, k_⟩
        have K9 := Lib.hid (K8.out.tr k_)
        clear k_
        go_wp2
        go_ret
        exact ⟨rfl, K9.out⟩
      · injection e1 with e1 e4
        injection e4 with e4 e5
        injection e3 with e3 e6
        injection e6 with e6 e7
        subst e1 e4 e5 e3 e6 e7
        have g1 : (err2 != 0) = true := by simpa using e2
        have g3 := qq err2
        have g4 := qq at2
        clear e2 qq
        go_wp2
        go_ret
        exact ⟨rfl, K7.out⟩
theorem eagain_walk (C : EvC) (A P Q R : Option Addr) (c e f d : Nat) (l : List Nd) (t : T) (ps : List T) (w : World) (RL : RdG w A l) (N : ∀ t ∈ l, Nd64 t) (L : l.length ≤ c) (M : c ≤ 9223372036854775807)
    (RT : TRc w P e Q f t) (n1 : N64 t.1 ∧ N64 t.2) (RP : RdT w R ps) (NP : ∀ t ∈ ps, N64 t.1 ∧ N64 t.2) (LP : ps.length ≤ d ∧ d ≤ 9223372036854775807) :
    Calls Tryz.prog 5 #[.slice A l.length c, .agg #[.slice P t.1.length e, .slice Q t.2.length f], .slice R ps.length d] w fun e w' => e = .returned (.bool true) ∧ Kp w w' := by
  have hl := RL.len
  cases hf : fewN l with
  | false => exact eagain_far (evawake_any C) A P Q R c _ _ _ e f _ d w hl (.inl (few_l RL hf))
  | true =>
  cases h1 : fewE t ps with
  | false => exact eagain_far (evawake_any C) A P Q R c _ _ _ e f _ d w hl (.inr ⟨few_l RL hf, .inl (few_e RT RP h1)⟩)
  | true =>
  have hS := small_few hf N
  by_cases hb : 12 < l.length
  · exact eagain_far (evawake_any C) A P Q R c _ _ _ e f _ d w hl (.inr ⟨few_l RL hf, .inr ⟨few_e RT RP h1, .inl hb⟩⟩)
  cases hc : checkB l with
  | false => exact eagain_far (evawake_any C) A P Q R c _ _ _ e f _ d w hl (.inr ⟨few_l RL hf, .inr ⟨few_e RT RP h1, .inr ⟨by omega, fun W k => C.check A c l.length l false W (RL.kp k) L M hS rfl hc⟩⟩⟩)
  | true => exact eagain_main C A P Q R c e f d l t ps w RL L M hS hf hc (by omega) RT (sm_t h1 n1.1 n1.2) RP (sm_ts h1 NP) LP h1
end Go.Proofs.YtdbncanedokinaaGreat
