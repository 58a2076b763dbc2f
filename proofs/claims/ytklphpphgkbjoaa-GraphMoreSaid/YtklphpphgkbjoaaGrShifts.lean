/- GraphShifts, over the contracts of the calls. -/
import Derived.Test.YtklphpphgkbjoaaGrNames
import Derived.StillTailTactics
namespace Go.Proofs.Ytklphpphgkbjoaa
open Go.RowKit Go.Proofs.ShM Go.Proofs.GrM
set_option linter.unusedVariables false
set_option linter.unusedSimpArgs false
set_option maxHeartbeats 8000000

theorem heap_set10 {W : World} {b : Nat} {cs : Array Value} {t : TypeId} (h : W.heap[b]? = some (.cells cs t (0, 0))) (i : Nat) (x : Value) : (W.setCell ⟨b, i, none⟩ x).heap[b]? = some (.cells (cs.setIfInBounds i x) t (0, 0)) := by
  obtain ⟨hlt, hk⟩ := Array.getElem?_eq_some_iff.1 h
  show (W.heap.modify b _)[b]? = _
  rw [Array.getElem?_eq_getElem (by rw [Array.size_modify]; exact hlt), Array.getElem_modify_self, hk]
  rfl
section
variable {W W' : World} {b n c m d n' c' m' d' : Nat} {op op' : Int} {P Q P' Q' : Option Addr}
theorem Nb.put (h : Nb W b op P n c Q m d) : Nb (((W.setCell ⟨b, 0, none⟩ (.int .i64 op')).setCell ⟨b, 1, none⟩ (.slice P' n' c')).setCell ⟨b, 2, none⟩ (.slice Q' m' d')) b op' P' n' c' Q' m' d' :=
  heap_set10 (heap_set10 (heap_set10 h 0 _) 1 _) 2 _
theorem Nb.put1 (h : Nb W b op P n c Q m d) : Nb (W.setCell ⟨b, 1, none⟩ (.slice P' n' c')) b op P' n' c' Q m d := heap_set10 h 1 _
theorem Nb.tb {B : Nat} (h : Nb W b op P n c Q m d) (k : Below B W W') (hb : b < B) : Nb W' b op P n c Q m d := (k.block b hb).trans h
theorem Nb.drew (h : Nb W b op P n c Q m d) : Nb W.drew b op P n c Q m d := h
end
theorem cell_ne10 {w : World} {p q : Addr} {u v : Value} (h : p ≠ q) (hc : w.cell? q = some v) : (w.setCell p u).cell? q = some v := by
  rw [← hc]; simp [go_sem, h]
theorem step_app10 {w : World} {B : Nat} {ops : Array Oper} {o : Oper} {a : Act} {K : Act → World → Prop} {Q : Exit → Act → World → Prop} {E : Prop} (hgd : o.guard = none) (s x : Operand)
    (hop : o.op = .call { callee := .builtin .append, args := #[s, x], argTypes := #[25, 25] })
    (v : Value) (xs : List Int) (hs : a.eval s = v) (ho : Own B w v xs) (A : Option Addr) (c : Nat) (ys : List Int) (n : Nat) (hx : a.eval x = .slice A n c) (hn : n = ys.length) (hr : Rd w A ys)
    (hl : xs.length + ys.length ≤ 1000000) (hB : B ≤ w.heap.size)
    (h : ∀ zs A' c' w', Hid (zs = xs ++ ys) → Own B w' (.slice A' zs.length c') zs → Below B w w' → K (a.put o.dst (.slice A' zs.length c')) w') :
    if Region.wanted o (yielded ops a.tmps) = true then Oper.wp Try.prog o a w K Q else E := by
  have hw : Region.wanted o (yielded ops a.tmps) = true := by simp [Region.wanted, hgd]
  rw [if_pos hw]
  subst hn
  obtain ⟨zs, A', c', w', e, hrun, h1, h2⟩ := run_app ho c hr hl hB o.type
  unfold Oper.wp execOp
  simp only [hop, resolve, invoke, builtin, Sem.run_bind, Sem.run_pure, Result.andThen_ok, List.map_toArray, List.map_cons, List.map_nil, hs, hx, hrun]
  exact h zs A' c' w' e h1 h2
theorem args_step {la : List Int} {k : Nat} {x d : Int} (h : la[k]? = some x) : (la.take (k + 1)).map (· + d) = (la.take k).map (· + d) ++ [x + d] := by
  rw [List.take_add_one, h, List.map_append]; rfl
theorem twice_step {l : List Nd} {i : Nat} {t : Nd} (h : l[i]? = some t) : l ++ (l.take (i + 1)).map (shiftN l.length) = (l ++ (l.take i).map (shiftN l.length)) ++ [(t.1, t.2.1.map (· + (l.length : Int)), t.2.2)] := by
  rw [List.take_add_one, h, List.map_append, List.append_assoc]; rfl
theorem small_shift {l : List Nd} (hc : checkB l = true) (h : SmallG l) : SmallG (twice l) := by
  have h24 := (check_iff.1 hc).2.1
  refine ⟨by rw [twice_len]; omega, fun t ht => ?_⟩
  unfold twice at ht
  rcases List.mem_append.1 ht with ht | ht
  · exact h.2 t ht
  · obtain ⟨u, hu, rfl⟩ := List.mem_map.1 ht
    obtain ⟨i, hi⟩ := List.mem_iff_getElem?.1 hu
    have hn := (node_iff.1 ((check_iff.1 hc).2.2 i u hi)).2.2.2.1
    have hil := (List.getElem?_eq_some_iff.1 hi).1
    obtain ⟨g1, g2, g3⟩ := h.2 u hu
    refine ⟨by show (u.2.1.map _).length ≤ 100; rw [List.length_map]; exact g1, g2, g3.1, ?_, g3.2.2⟩
    intro x hx
    obtain ⟨y, hy, rfl⟩ := List.mem_map.1 hx
    have := hn y hy
    omega

set_option maxRecDepth 100000 in
theorem gshifts_main (C : GrC) (A : Option Addr) (c : Nat) (l : List Nd) (node : Int) (W : World) (R : RdG W A l) (L : l.length ≤ c) (M : c ≤ 9223372036854775807) (hS : SmallG l) (hf : fewN l = true) (hc : checkB l = true) (hi : I64 node) :
    Calls Try.prog 7 #[.slice A l.length c, .int .i64 node] W fun e w' => e = .returned (.bool true) ∧ Below W.heap.size W w' := by
  have HC := Lib.hid C
  have HRD := Lib.hid R
  have HAW : Hid (Calls Try.prog 9 #[] W fun e w' => e = .returned (.bool true) ∧ Kp W w') := grawake_any C W
  have HF : Hid (∀ V, Kp W V → Calls Try.prog 10 #[.slice A l.length c] V fun e w' => e = .returned (.bool true) ∧ w' = V) := fun V k => by
    have := rfew10_any A c l V (R.kp k)
    rw [hf] at this; exact this
  have HCK := guard_none C A c l W R L M hS
  rw [hc] at HCK
  have hl1 := (check_iff.1 hc).1
  have hl24 := (check_iff.1 hc).2.1
  have H1 : Hid (∀ (i : Nat) (t : Nd), l[i]? = some t → t.2.1.length ≤ 100 ∧ t.2.2.length ≤ 100 ∧ ∀ x ∈ t.2.1, 0 ≤ x ∧ x ≤ 24) := fun i t ht => by
    have hm := hS.2 t (List.mem_of_getElem? ht)
    have hn := (node_iff.1 ((check_iff.1 hc).2.2 i t ht)).2.2.2.1
    have hil := (List.getElem?_eq_some_iff.1 ht).1
    exact ⟨hm.1, hm.2.1, fun x hx => by have := hn x hx; omega⟩
  have H2 := Lib.hid (And.intro hc (And.intro hS hi))
  have H3 : Hid (∀ V, Kp W V → Calls Try.prog 20 #[.slice A l.length c, .int .i64 node] V (RetG (usesV l node) (usesV l node).length V)) := fun V k => C.uses A c l.length _ l node _ V (R.kp k) L M hS hi rfl rfl rfl
  have H4 : Hid (∀ V, Kp W V → Calls Try.prog 22 #[.slice A l.length c] V (RetG (liveV l) (liveV l).length V)) := fun V k => C.live A c l.length _ l _ V (R.kp k) L M hS rfl rfl rfl
  have H5 : Hid (∀ V, Kp W V → Calls Try.prog 18 #[.slice A l.length c] V (RetG (paramsV l) (paramsV l).length V)) := fun V k => C.params A c l.length _ l _ V (R.kp k) L M hS rfl rfl rfl
  clear C R hS hf hc hi
  go_enter Try.func7, Try.ntmps7
  go_wp2_with fail
  refine (Hid.out HAW).mono ?_; rintro e w1 ⟨rfl, k1⟩
  have K := Lib.hid k1
  clear k1
  go_wp2_with fail
  refine (HF.out _ K.out).mono ?_; rintro e w2 ⟨rfl, rfl⟩
  go_wp2_with fail
  refine (HCK.out _ K.out).mono ?_; rintro e w3 ⟨rfl, k3⟩
  have K3 := Lib.hid (K.out.tr k3)
  have hO0 := Lib.hid (OwnN.zero w3 (Nat.le_refl _))
  have hR0 : Hid (RdN (w3.alloc (.cells #[] 35)) (fun k => (Value.slice (some ⟨w3.heap.size, 0, none⟩) 0 0).ownBlock ≠ some k) A l) := (HRD.out.kp K3.out).old.mono (Kp.alloc_ _ _) (fun k hk _ e => not_new hk e)
  have hs0 : Hid (w3.heap.size ≤ (w3.alloc (.cells #[] 35)).heap.size) := by show _ ≤ _; simp
  clear k3 HAW HF HCK
  go_wp2_with (at_builtin; (refine wpList_appN (B := w3.heap.size) rfl (.tmp 24) (.tmp 25) rfl _ [] rfl hO0.out A c l _ rfl rfl hR0.out (by simp; omega) hs0.out ?_; intro zz A1 c1 w4 HZ o4 b4 _; have O4 := Lib.hid o4; have K4 : Hid (Kp w3 w4) := (Kp.alloc_ _ _).trans b4; clear o4 b4))
  go_loopw [6, 7] (fun v i wx => ∃ (j : Nat) (E : Option Addr) (f : Nat) (cur : List Nd), v = .slice E cur.length f ∧ i = .int .i64 (j : Int) ∧ Hid (j ≤ l.length) ∧ Hid (cur = l ++ (l.take j).map (shiftN l.length)) ∧ Hid (OwnN w3.heap.size wx (.slice E cur.length f) cur) ∧ Hid (Kp w3 wx)) (fun _ i _ => l.length - (intOf i).toNat)
  case atStart => exact ⟨0, A1, c1, zz, rfl, rfl, Nat.zero_le _, (by show zz = _; rw [HZ.out]; simp), O4.out, K4.out⟩
  case round =>
    obtain ⟨j, E, g, cur, rfl, rfl, hj, hcur, hO, hK⟩ := hrel
    have K5 := Lib.hid (K3.out.tr hK.out)
    by_cases hjl : j < l.length
    · have hj' : (j : Int) < (l.length : Int) := by omega
      obtain ⟨ad, t, P, e, Q, f, rfl, hlt, ht, hc0, hc1, hc2, hNR, hcp, hcq⟩ := (HRD.out.old.kp K5.out).at_ hjl
      obtain ⟨f1, f2, f3⟩ := H1.out j t ht
      have HST := Lib.hid (twice_step ht)
      clear ht
      obtain ⟨op, la, lb⟩ := t
      dsimp only at hc0 hc1 hc2 hNR f1 f2 f3 HST hcp hcq
      have hla := hNR.ra
      obtain ⟨bx, hbx⟩ : ∃ bx, bx = Obj.cells #[.int .i64 0, .slice none 0 0, .slice none 0 0] 35 := ⟨_, rfl⟩
      have x0 : (wr.alloc bx).cell? (ad.add (j * 3)) = some (.int .i64 op) := ((Kp.alloc_ wr bx).cell (by rw [block_of_add]; exact hlt)).trans hc0
      have x2 : (wr.alloc bx).cell? ⟨(ad.add (j * 3)).block, (ad.add (j * 3)).off + 2, none⟩ = some (.slice Q lb.length f) := ((Kp.alloc_ wr bx).cell (p := ⟨(ad.add (j * 3)).block, (ad.add (j * 3)).off + 2, none⟩) (by show (ad.add (j * 3)).block < _; rw [block_of_add]; exact hlt)).trans hc2
      have B0 : Hid (Nb (wr.alloc bx) wr.heap.size 0 none 0 0 none 0 0) := by rw [hbx]; exact Nb.new rfl
      have y0 := B0.out.c0
      have y1 := B0.out.c1
      have y2 := B0.out.c2
      have z0 := B0.out.f0 0
      have z1 := B0.out.f0 1
      have z2 := B0.out.f0 2
      have HBX := Lib.hid hbx
      rw [hbx] at x0 x2 y0 y1 y2 z0 z1 z2
      clear hbx
      go_wp2
      go_region
      obtain ⟨W8, hW8⟩ : ∃ W8, W8 = (wr.alloc (.cells #[.int .i64 op, .slice none 0 0, .slice Q lb.length f] 35)).drew := ⟨_, rfl⟩
      have B8 : Hid (Nb W8 wr.heap.size op none 0 0 Q lb.length f) := by rw [hW8]; exact Nb.drew (Nb.new rfl)
      have K8 : Hid (Kp wr W8) := by show Kp _ _; rw [hW8]; exact (Kp.alloc_ _ _).tr (Kp.drewN_ _ 1)
      rw [← hW8]
      obtain ⟨G, hG⟩ : ∃ G, G = wr.heap.size := ⟨_, rfl⟩
      have HG := Lib.hid hG
      have hG8 : Hid (G + 1 ≤ W8.heap.size) := by have := B8.out.lt; show G + 1 ≤ _; omega
      rw [← hG] at B8 ⊢
      clear x0 x2 y0 y1 y2 z0 z1 z2 HBX B0 hW8 hG
      obtain ⟨wo, hwo⟩ : ∃ wo, wo = wr := ⟨_, rfl⟩
      subst hwo
      go_wp2
      go_loopw [9] (fun i wx => ∃ (k : Nat) (D : Option Addr) (d : Nat) (done : List Int), i = .int .i64 (k : Int) ∧ Hid (k ≤ la.length) ∧ Hid (done = (la.take k).map (· + (l.length : Int))) ∧ Hid (Nb wx G op D done.length d Q lb.length f) ∧ Hid (Own (G + 1) wx (.slice D done.length d) done) ∧ Hid (Kp wo wx) ∧ Hid (G + 1 ≤ wx.heap.size)) (fun i _ => la.length - (intOf i).toNat)
      case atStart => exact ⟨0, none, 0, [], rfl, Nat.zero_le _, rfl, B8.out, Own.nil_ _ _, K8.out, hG8.out⟩
      case round =>
        obtain ⟨k, D, d, done, rfl, hk, hdn, hNb, hOw, hKi, hGs⟩ := hrel
        have hc1' := (hKi.out.cell (p := ⟨(ad.add (j * 3)).block, (ad.add (j * 3)).off + 1, none⟩) (by show (ad.add (j * 3)).block < _; rw [block_of_add]; exact hlt)).trans hc1
        have p1 := hNb.out.c1
        have q1 := hNb.out.f0 1
        by_cases hkl : k < la.length
        · have hk' : (k : Int) < (la.length : Int) := by omega
          obtain ⟨ap, x, rfl, hap, hx, hcx0⟩ := hla.at_ hkl
          have hcx := (hKi.out.cell (p := ap.add k) (by rw [block_of_add]; exact hap)).trans hcx0
          have hapG : ap.block < G + 1 := by rw [HG.out]; omega
          have hadG : ad.block < G + 1 := by rw [HG.out]; omega
          have hnb : G ≠ (ad.add (j * 3)).block := by rw [block_of_add, HG.out]; omega
          have hna : G ≠ (ap.add k).block := by rw [block_of_add, HG.out]; omega
          have hszv : G < wr.heap.size := by have := hGs.out; omega
          have hxr := f3 x (List.mem_of_getElem? hx)
          have HDN := Lib.hid (args_step (d := (l.length : Int)) hx)
          obtain ⟨y, hy⟩ : ∃ y, y = x + (l.length : Int) := ⟨_, rfl⟩
          have hyw : IntKind.i64.wrap (x + (l.length : Int)) = y := by rw [IntKind.wrap_i64]; omega
          rw [← hy] at HDN
          have hdl : done.length ≤ 100 := by rw [hdn.out, List.length_map, List.length_take]; omega
          clear hx hy
          go_wp2
          --BEGIN12
          have HSS : Hid (∀ V, Below (G + 1) wr V → V.cell? ⟨(ad.add (j * 3)).block, (ad.add (j * 3)).off + 1, none⟩ = some (.slice (some ap) la.length e) ∧ V.cell? (ap.add k) = some (.int .i64 x)) := fun V kV => ⟨(kV.cell (p := ⟨(ad.add (j * 3)).block, (ad.add (j * 3)).off + 1, none⟩) (by show (ad.add (j * 3)).block < _; rw [block_of_add]; exact hadG)).trans hc1', (kV.cell (p := ap.add k) (by rw [block_of_add]; exact hapG)).trans hcx⟩
          have hdr12 : Below (G + 1) wr wr.drew := Below.drew (Below.refl _ _)
          refine wp_region_held_drew (S := fun V => V.cell? ⟨(ad.add (j * 3)).block, (ad.add (j * 3)).off + 1, none⟩ = some (.slice (some ap) la.length e) ∧ V.cell? (ap.add k) = some (.int .i64 x)) (by kernel_rfl) (HSS.out _ hdr12) (fun hHeld => ?_)
          refine wpAnyH_take (i := 0) (v := .pointer (some ⟨G, 1, none⟩)) rfl (by kernel_rfl) (by kernel_rfl) (by kernel_rfl) (fun _ _ _ h => h) (Or.inl ⟨by kernel_rfl, fun V hSV => ?_⟩) hHeld ?_
          · (try dsimp only at hSV); go_simp
          try simp only [Act.put, List.setIfInBounds_toArray, List.set_cons_zero, List.set_cons_succ]
          refine wpAnyH_take (i := 2) (v := .slice (some ad) l.length c) rfl (by kernel_rfl) (by kernel_rfl) (by kernel_rfl) (fun _ _ _ h => h) (Or.inl ⟨by kernel_rfl, fun V hSV => ?_⟩) hHeld ?_
          · (try dsimp only at hSV); go_simp
          try simp only [Act.put, List.setIfInBounds_toArray, List.set_cons_zero, List.set_cons_succ]
          refine wpAnyH_take (i := 3) (v := .int .i64 (j : Int)) rfl (by kernel_rfl) (by kernel_rfl) (by kernel_rfl) (fun _ _ _ h => h) (Or.inl ⟨by kernel_rfl, fun V hSV => ?_⟩) hHeld ?_
          · (try dsimp only at hSV); go_simp
          try simp only [Act.put, List.setIfInBounds_toArray, List.set_cons_zero, List.set_cons_succ]
          refine wpAnyH_take (i := 4) (v := .pointer (some (ad.add (j * 3)))) rfl (by kernel_rfl) (by kernel_rfl) (by kernel_rfl) (fun _ _ _ h => h) (Or.inl ⟨by kernel_rfl, fun V hSV => ?_⟩) hHeld ?_
          · (try dsimp only at hSV); go_simp
          try simp only [Act.put, List.setIfInBounds_toArray, List.set_cons_zero, List.set_cons_succ]
          refine wpAnyH_take (i := 5) (v := .pointer (some ⟨(ad.add (j * 3)).block, (ad.add (j * 3)).off + 1, none⟩)) rfl (by kernel_rfl) (by kernel_rfl) (by kernel_rfl) (fun _ _ _ h => h) (Or.inl ⟨by kernel_rfl, fun V hSV => ?_⟩) hHeld ?_
          · (try dsimp only at hSV); go_simp
          try simp only [Act.put, List.setIfInBounds_toArray, List.set_cons_zero, List.set_cons_succ]
          refine wpAnyH_take (i := 6) (v := .slice (some ap) la.length e) rfl (by kernel_rfl) (by kernel_rfl) (by kernel_rfl) (fun _ _ _ h => h) (Or.inl ⟨by kernel_rfl, fun V hSV => ?_⟩) hHeld ?_
          · (try dsimp only at hSV); go_simp
          try simp only [Act.put, List.setIfInBounds_toArray, List.set_cons_zero, List.set_cons_succ]
          refine wpAnyH_take (i := 7) (v := .int .i64 (k : Int)) rfl (by kernel_rfl) (by kernel_rfl) (by kernel_rfl) (fun _ _ _ h => h) (Or.inl ⟨by kernel_rfl, fun V hSV => ?_⟩) hHeld ?_
          · (try dsimp only at hSV); go_simp
          try simp only [Act.put, List.setIfInBounds_toArray, List.set_cons_zero, List.set_cons_succ]
          refine wpAnyH_take (i := 8) (v := .pointer (some (ap.add k))) rfl (by kernel_rfl) (by kernel_rfl) (by kernel_rfl) (fun _ _ _ h => h) (Or.inl ⟨by kernel_rfl, fun V hSV => ?_⟩) hHeld ?_
          · (try dsimp only at hSV); go_simp
          try simp only [Act.put, List.setIfInBounds_toArray, List.set_cons_zero, List.set_cons_succ]
          refine wpAnyH_take (i := 9) (v := .int .i64 x) rfl (by kernel_rfl) (by kernel_rfl) (by kernel_rfl) (fun _ _ _ h => h) (Or.inl ⟨by kernel_rfl, fun V hSV => ?_⟩) hHeld ?_
          · (try dsimp only at hSV); go_simp
          try simp only [Act.put, List.setIfInBounds_toArray, List.set_cons_zero, List.set_cons_succ]
          refine wpAnyH_take (i := 10) (v := .slice (some ad) l.length c) rfl (by kernel_rfl) (by kernel_rfl) (by kernel_rfl) (fun _ _ _ h => h) (Or.inl ⟨by kernel_rfl, fun V hSV => ?_⟩) hHeld ?_
          · (try dsimp only at hSV); go_simp
          try simp only [Act.put, List.setIfInBounds_toArray, List.set_cons_zero, List.set_cons_succ]
          refine wpAnyH_take (i := 11) (v := .int .i64 (l.length : Int)) rfl (by kernel_rfl) (by kernel_rfl) (by kernel_rfl) (fun _ _ _ h => h) (Or.inl ⟨by kernel_rfl, fun V hSV => ?_⟩) hHeld ?_
          · (try dsimp only at hSV); go_simp
          try simp only [Act.put, List.setIfInBounds_toArray, List.set_cons_zero, List.set_cons_succ]
          refine wpAnyH_take (i := 12) (v := .int .i64 y) rfl (by kernel_rfl) (by kernel_rfl) (by kernel_rfl) (fun _ _ _ h => h) (Or.inl ⟨by kernel_rfl, fun V hSV => ?_⟩) hHeld ?_
          · (try dsimp only at hSV); go_simp
          try simp only [Act.put, List.setIfInBounds_toArray, List.set_cons_zero, List.set_cons_succ]
          refine wpAnyH_ready (rs := [1, 13]) (by kernel_rfl) (by simp) ?_
          refine AllReadyH.cons rfl (fun K9_ hK => ?_) ?_
          · skip
            go_simp
            refine hK.out _ _ ?_ (fun hHeld => ?_)
            · exact HSS.out _ hdr12
            clear hK
            try simp only [Act.put, List.setIfInBounds_toArray, List.set_cons_zero, List.set_cons_succ]
            refine wpAnyH_ready (rs := [13]) (by kernel_rfl) (by simp) ?_
            refine AllReadyH.cons rfl (fun K9_ hK => ?_) AllReadyH.nil
            go_simp
            refine hK.out _ _ ?_ (fun hHeld => ?_)
            · exact HSS.out _ (hdr12.alloc hGs.out _)
            clear hK
            try simp only [Act.put, List.setIfInBounds_toArray, List.set_cons_zero, List.set_cons_succ]
            refine wpAnyH_ready (rs := [14]) (by kernel_rfl) (by simp) ?_
            refine AllReadyH.cons rfl (fun K9_ hK => ?_) AllReadyH.nil
            refine step_app10 rfl (.tmp 55) (.tmp 67) rfl _ done rfl (hOw.out.drew.kp (Kp.alloc_ _ _)) _ _ [y] _ rfl rfl (Rd.one _ _ _) (by simp; omega) (by have := hGs.out; simp; omega) ?_
            intro ys A2 c2 w13 HZ o2 b2
            have HO := Lib.hid o2
            have HB : Hid (Below (G + 1) wr w13) := ((Below.drew (Below.refl _ wr)).alloc hGs.out _).trans b2
            have g4 := (HB.out.frozen (p := ⟨G, 1, none⟩) (Nat.lt_succ_self _)).trans q1
            have g3 := (HB.out.cell (p := ⟨G, 1, none⟩) (Nat.lt_succ_self _)).trans p1
            clear o2 b2
            refine hK.out _ _ ?_ (fun hHeld => ?_)
            · exact HSS.out _ HB.out
            clear hK
            try simp only [Act.put, List.setIfInBounds_toArray, List.set_cons_zero, List.set_cons_succ]
            refine wpAnyH_take (i := 15) (v := .pointer (some ⟨G, 1, none⟩)) rfl (by kernel_rfl) (by kernel_rfl) (by kernel_rfl) (fun _ _ _ h => h) (Or.inl ⟨by kernel_rfl, fun V hSV => ?_⟩) hHeld ?_
            · (try dsimp only at hSV); go_simp
            try simp only [Act.put, List.setIfInBounds_toArray, List.set_cons_zero, List.set_cons_succ]
            refine wpAnyH_ready (rs := [16]) (by kernel_rfl) (by simp) ?_
            refine AllReadyH.cons rfl (fun K9_ hK => ?_) AllReadyH.nil
            go_simp
            refine hK.out _ _ ?_ (fun hHeld => ?_)
            · exact ⟨cell_ne10 (fun e => hnb (congrArg Addr.block e)) (HSS.out _ HB.out).1, cell_ne10 (fun e => hna (congrArg Addr.block e)) (HSS.out _ HB.out).2⟩
            clear hK
            try simp only [Act.put, List.setIfInBounds_toArray, List.set_cons_zero, List.set_cons_succ]
            refine wpAnyH_done (by kernel_rfl) ?_ _
            have N9 : Hid (Nb (w13.setCell ⟨G, 1, none⟩ (.slice A2 ys.length c2)) G op A2 ys.length c2 Q lb.length f) := (hNb.out.tb HB.out (Nat.lt_succ_self _)).put1
            have O9 : Hid (Own (G + 1) (w13.setCell ⟨G, 1, none⟩ (.slice A2 ys.length c2)) (.slice A2 ys.length c2) ys) := HO.out.of_block fun g hg => by have := HO.out.from_ hg; rw [Below.heap_setCell _ _ _ _ (by simp; omega)]
            have K9 : Hid (Kp wo (w13.setCell ⟨G, 1, none⟩ (.slice A2 ys.length c2))) := Below.setCell (hKi.out.trans (HB.out.mono (by rw [← HG.out]; exact Nat.le_succ _))) (by rw [← HG.out]; exact Nat.le_refl _) _
            have S9 : Hid (G + 1 ≤ (w13.setCell ⟨G, 1, none⟩ (.slice A2 ys.length c2)).heap.size) := by show _ ≤ _; have := HB.out.size; have := hGs.out; simp; omega
            go_wp2
            go_roundw
            case rel => exact ⟨k + 1, A2, c2, ys, by go_num, (by show k + 1 ≤ la.length; omega), (by show ys = _; rw [HZ.out, hdn.out]; exact HDN.out.symm), N9.out, O9.out, K9.out, S9.out⟩
            case measure => simp [intOf]; omega
          refine AllReadyH.cons rfl (fun K9_ hK => ?_) AllReadyH.nil
          go_simp
          refine hK.out _ _ ?_ (fun hHeld => ?_)
          · exact HSS.out _ (hdr12.alloc hGs.out _)
          clear hK
          try simp only [Act.put, List.setIfInBounds_toArray, List.set_cons_zero, List.set_cons_succ]
          refine wpAnyH_ready (rs := [1]) (by kernel_rfl) (by simp) ?_
          refine AllReadyH.cons rfl (fun K9_ hK => ?_) AllReadyH.nil
          go_simp
          refine hK.out _ _ ?_ (fun hHeld => ?_)
          · exact HSS.out _ (hdr12.alloc hGs.out _)
          clear hK
          try simp only [Act.put, List.setIfInBounds_toArray, List.set_cons_zero, List.set_cons_succ]
          refine wpAnyH_ready (rs := [14]) (by kernel_rfl) (by simp) ?_
          refine AllReadyH.cons rfl (fun K9_ hK => ?_) AllReadyH.nil
          refine step_app10 rfl (.tmp 55) (.tmp 67) rfl _ done rfl (hOw.out.drew.kp (Kp.alloc_ _ _)) _ _ [y] _ rfl rfl (Rd.one _ _ _) (by simp; omega) (by have := hGs.out; simp; omega) ?_
          intro ys A2 c2 w13 HZ o2 b2
          have HO := Lib.hid o2
          have HB : Hid (Below (G + 1) wr w13) := ((Below.drew (Below.refl _ wr)).alloc hGs.out _).trans b2
          have g4 := (HB.out.frozen (p := ⟨G, 1, none⟩) (Nat.lt_succ_self _)).trans q1
          have g3 := (HB.out.cell (p := ⟨G, 1, none⟩) (Nat.lt_succ_self _)).trans p1
          clear o2 b2
          refine hK.out _ _ ?_ (fun hHeld => ?_)
          · exact HSS.out _ HB.out
          clear hK
          try simp only [Act.put, List.setIfInBounds_toArray, List.set_cons_zero, List.set_cons_succ]
          refine wpAnyH_take (i := 15) (v := .pointer (some ⟨G, 1, none⟩)) rfl (by kernel_rfl) (by kernel_rfl) (by kernel_rfl) (fun _ _ _ h => h) (Or.inl ⟨by kernel_rfl, fun V hSV => ?_⟩) hHeld ?_
          · (try dsimp only at hSV); go_simp
          try simp only [Act.put, List.setIfInBounds_toArray, List.set_cons_zero, List.set_cons_succ]
          refine wpAnyH_ready (rs := [16]) (by kernel_rfl) (by simp) ?_
          refine AllReadyH.cons rfl (fun K9_ hK => ?_) AllReadyH.nil
          go_simp
          refine hK.out _ _ ?_ (fun hHeld => ?_)
          · exact ⟨cell_ne10 (fun e => hnb (congrArg Addr.block e)) (HSS.out _ HB.out).1, cell_ne10 (fun e => hna (congrArg Addr.block e)) (HSS.out _ HB.out).2⟩
          clear hK
          try simp only [Act.put, List.setIfInBounds_toArray, List.set_cons_zero, List.set_cons_succ]
          refine wpAnyH_done (by kernel_rfl) ?_ _
          have N9 : Hid (Nb (w13.setCell ⟨G, 1, none⟩ (.slice A2 ys.length c2)) G op A2 ys.length c2 Q lb.length f) := (hNb.out.tb HB.out (Nat.lt_succ_self _)).put1
          have O9 : Hid (Own (G + 1) (w13.setCell ⟨G, 1, none⟩ (.slice A2 ys.length c2)) (.slice A2 ys.length c2) ys) := HO.out.of_block fun g hg => by have := HO.out.from_ hg; rw [Below.heap_setCell _ _ _ _ (by simp; omega)]
          have K9 : Hid (Kp wo (w13.setCell ⟨G, 1, none⟩ (.slice A2 ys.length c2))) := Below.setCell (hKi.out.trans (HB.out.mono (by rw [← HG.out]; exact Nat.le_succ _))) (by rw [← HG.out]; exact Nat.le_refl _) _
          have S9 : Hid (G + 1 ≤ (w13.setCell ⟨G, 1, none⟩ (.slice A2 ys.length c2)).heap.size) := by show _ ≤ _; have := HB.out.size; have := hGs.out; simp; omega
          go_wp2
          go_roundw
          case rel => exact ⟨k + 1, A2, c2, ys, by go_num, (by show k + 1 ≤ la.length; omega), (by show ys = _; rw [HZ.out, hdn.out]; exact HDN.out.symm), N9.out, O9.out, K9.out, S9.out⟩
          case measure => simp [intOf]; omega
          --END12
        · have hk' : ¬ (k : Int) < (la.length : Int) := by omega
          have hdn2 : done = la.map (· + (l.length : Int)) := by rw [hdn.out, List.take_of_length_le (by omega)]
          have HD2 := Lib.hid hdn2
          have hsl := hOw.out.sl
          have hE := Lib.hid (hO.out.kp hKi.out)
          have hKW := Lib.hid (hK.out.tr hKi.out)
          have hxa : ∀ az, D = some az → 0 < done.length → (Value.slice E cur.length g).ownBlock ≠ some az.block := by
            rintro az rfl _ ee
            have h1 := hO.out.row_lt ee
            have h2 := hOw.out.from_ (k := az.block) rfl
            rw [HG.out] at h2; omega
          have hxn : ∀ az, Q = some az → 0 < lb.length → (Value.slice E cur.length g).ownBlock ≠ some az.block := by
            rintro az rfl hp ee
            have h1 := hO.out.from_ ee
            have h2 := hNR.xn az rfl hp
            have h3 := K3.out.size
            omega
          have hNN : Hid (NR wr (fun k => (Value.slice E cur.length g).ownBlock ≠ some k) D done Q lb) := ⟨i_of_own hOw.out, hNR.rn.kp hKi.out, hxa, hxn⟩
          have n0 := hNb.out.c0
          have n2 := hNb.out.c2
          have O7 : Hid (OwnN w3.heap.size (wr.alloc (.cells #[.int .i64 op, .slice D done.length d, .slice Q lb.length f] 35)) (.slice E cur.length g) cur) := hE.out.kp (Kp.alloc_ _ _)
          have R7 : Hid (RdN (wr.alloc (.cells #[.int .i64 op, .slice D done.length d, .slice Q lb.length f] 35)) (fun k => (Value.slice E cur.length g).ownBlock ≠ some k) (some ⟨wr.heap.size, 0, none⟩) [(op, done, lb)]) := RdN.one (t := (op, done, lb)) hNN.out ⟨hsl.le, hsl.cap⟩ hcq _
          have s7 : Hid (w3.heap.size ≤ (wr.alloc (.cells #[.int .i64 op, .slice D done.length d, .slice Q lb.length f] 35)).heap.size) := (gal hKW.out _).size
          have hcl : cur.length ≤ 100 := by rw [hcur.out, List.length_append, List.length_map, List.length_take]; omega
          clear hxa hxn hsl hdn2 hla
          go_wp2_with (at_builtin; (refine wpList_appN (B := w3.heap.size) rfl (.tmp 70) (.tmp 72) rfl _ cur rfl O7.out _ 1 [(op, done, lb)] 1 rfl rfl R7.out (by simp; omega) s7.out ?_; intro z2 A2 c2 w9 HZ2 o9 b9 _; have O9 := Lib.hid o9; have K9 : Hid (Kp w3 w9) := (gal hKW.out _).trans b9; clear o9 b9))
          go_roundw
          case rel => exact ⟨j + 1, A2, c2, z2, rfl, by go_num, (by show j + 1 ≤ l.length; omega), (by show z2 = _; rw [HZ2.out, HD2.out, HST.out, hcur.out]), O9.out, K9.out⟩
          case measure => simp [intOf]; omega
    · have hj' : ¬ (j : Int) < (l.length : Int) := by omega
      obtain ⟨hc, hS, hi⟩ := H2.out
      have hct : cur = twice l := by
        have hjl2 : j = l.length := by have := hj.out; omega
        rw [hcur.out, hjl2, List.take_length]; rfl
      have hcl : cur.length = l.length + l.length := by rw [hct, twice_len]
      have hSC : SmallG cur := by rw [hct]; exact small_shift hc hS
      obtain ⟨b, hb⟩ : ∃ b, b = decide (l.length + l.length ≤ 24) := ⟨_, rfl⟩
      have hcv : checkB cur = b := by rw [hct, check_twice hc, hb]
      have hle : decide ((cur.length : Int) ≤ 24) = b := by
        rw [hb, Bool.eq_iff_iff, decide_eq_true_iff, decide_eq_true_iff]; omega
      have M5 := Lib.hid (n_of_own hO.out)
      have HCV : Hid (∀ V, Kp wr V → Calls Try.prog 13 #[.slice E cur.length g] V fun e w' => e = .returned (.bool b) ∧ Kp V w') := fun V k => HC.out.check E g cur.length cur b V (M5.out.1.kp k) M5.out.2.1 M5.out.2.2 hSC rfl hcv
      have HSC := Lib.hid hSC
      by_cases h24 : 24 < cur.length
      · have e24 : (24 : Int) < (cur.length : Int) := by omega
        clear hcv hSC hct hcl hb hc hS hi
        go_wp2_with fail
        refine (HCV.out _ (Kp.refl _)).mono ?_; rintro e w6 ⟨rfl, k6⟩
        have K6 := Lib.hid (K5.out.tr k6)
        clear k6
        go_wp2
        go_ret
        exact ⟨by first | rfl | simp, K6.out⟩
      · have e24 : ¬ (24 : Int) < (cur.length : Int) := by omega
        have hl2 : l.length + l.length ≤ 24 := by omega
        obtain rfl : b = true := by rw [hb, decide_eq_true_iff]; exact hl2
        by_cases hn0 : node < 0
        · clear hcv hSC hct hcl hb hc hS hi
          go_wp2_with fail
          refine (HCV.out _ (Kp.refl _)).mono ?_; rintro e w6 ⟨rfl, k6⟩
          have K6 := Lib.hid (K5.out.tr k6)
          clear k6
          go_wp2
          go_ret
          exact ⟨by first | rfl | simp, K6.out⟩
        · by_cases hn1 : node < (l.length : Int)
          · have hus := uses_twice hc hl2 (show 0 ≤ node by omega) hn1
            have hlv := live_twice hc hl2
            have hpv := params_twice hc hl2
            rw [← hct] at hus hlv hpv
            obtain ⟨ua, hua⟩ : ∃ ua, ua = usesV l node := ⟨_, rfl⟩
            obtain ⟨ub, hub⟩ : ∃ ub, ub = ua.map (· + (l.length : Int)) := ⟨_, rfl⟩
            rw [← hua] at hus
            rw [← hub] at hus
            have hubl : ub.length = ua.length := by rw [hub, List.length_map]
            obtain ⟨nl, hnl⟩ : ∃ nl, nl = node + (l.length : Int) := ⟨_, rfl⟩
            rw [← hnl] at hus
            have hnw : IntKind.i64.wrap (node + (l.length : Int)) = nl := by rw [IntKind.wrap_i64]; omega
            have hin : I64 nl := by unfold I64; omega
            have HUA : Hid (∀ V, Kp W V → Calls Try.prog 20 #[.slice A l.length c, .int .i64 node] V (RetG ua ua.length V)) := fun V k => by rw [hua]; exact H3.out V k
            have HUB : Hid (∀ V, Kp wr V → Calls Try.prog 20 #[.slice E cur.length g, .int .i64 node] V (RetG ua ua.length V)) := fun V k => HC.out.uses E g cur.length ua.length cur node ua V (M5.out.1.kp k) M5.out.2.1 M5.out.2.2 hSC hi rfl hus.1 rfl
            have HUC : Hid (∀ V, Kp wr V → Calls Try.prog 20 #[.slice E cur.length g, .int .i64 nl] V (RetG ub ua.length V)) := fun V k => HC.out.uses E g cur.length ua.length cur nl ub V (M5.out.1.kp k) M5.out.2.1 M5.out.2.2 hSC hin rfl hus.2 hubl
            obtain ⟨ql, hql⟩ : ∃ ql, ql = (liveV l).length := ⟨_, rfl⟩
            have HLA : Hid (∀ V, Kp W V → Calls Try.prog 22 #[.slice A l.length c] V (RetG (liveV l) ql V)) := fun V k => by rw [hql]; exact H4.out V k
            have HLB : Hid (∀ V, Kp wr V → Calls Try.prog 22 #[.slice E cur.length g] V (RetG (liveV cur) ql V)) := fun V k => HC.out.live E g cur.length ql cur _ V (M5.out.1.kp k) M5.out.2.1 M5.out.2.2 hSC rfl rfl (by rw [hlv, List.length_map, hql])
            obtain ⟨pa, hpa⟩ : ∃ pa, pa = paramsV l := ⟨_, rfl⟩
            have HPA : Hid (∀ V, Kp W V → Calls Try.prog 18 #[.slice A l.length c] V (RetG pa pa.length V)) := fun V k => by rw [hpa]; exact H5.out V k
            have HPB : Hid (∀ V, Kp wr V → Calls Try.prog 18 #[.slice E cur.length g] V (RetG pa pa.length V)) := fun V k => HC.out.params E g cur.length pa.length cur pa V (M5.out.1.kp k) M5.out.2.1 M5.out.2.2 hSC rfl (by rw [hpv, hpa]) rfl
            have HUBM : Hid (ub = ua.map (· + (l.length : Int)) ∧ ∀ x ∈ ua, 0 ≤ x ∧ x ≤ 24) := ⟨hub, fun x hx => by
              have := uses_behind hc (show x ∈ usesV l node by rw [← hua]; exact hx)
              omega⟩
            clear hcv hSC hct hcl hb hc hS hi hus hlv hpv hua hub hubl hnl hin hql hpa
            go_wp2_with fail
            refine (HUA.out _ K5.out).mono ?_; rintro e w6 ⟨A6, c6, rfl, r6, _, k6⟩
            have k6' := Lib.hid k6
            clear k6
            go_wp2_with fail
            refine (HUB.out _ k6'.out).mono ?_; rintro e w7 ⟨A7, c7, rfl, r7, _, k7⟩
            have k7' := Lib.hid (k6'.out.tr k7)
            have r6 := Lib.hid (r6.out.kp k7)
            clear k7
            go_wp2_with fail
            refine (HUC.out _ k7'.out).mono ?_; rintro e w8 ⟨A8, c8, rfl, r8, _, k8⟩
            have k8' := Lib.hid (k7'.out.tr k8)
            have r6 := Lib.hid (r6.out.kp k8)
            have r7 := Lib.hid (r7.out.kp k8)
            clear k8 HUA HUB HUC
            go_wp2
            go_loopw [13] (fun i wx => ∃ m : Nat, i = .int .i64 (m : Int) ∧ Hid (m ≤ ua.length) ∧ Hid (Kp w8 wx)) (fun i _ => ua.length - (intOf i).toNat)
            case atStart => exact ⟨0, rfl, Nat.zero_le _, Kp.refl _⟩
            case round =>
              obtain ⟨m, rfl, hm, hKm⟩ := hrel
              have hul := r6.out.len
              by_cases hml : m < ua.length
              · have hm' : (m : Int) < (ua.length : Int) := by omega
                obtain ⟨a8, x8, had8, _, hx8, hcx8⟩ := (r8.out.kp hKm.out).at_ (k := m) (by rw [HUBM.out.1, List.length_map]; exact hml)
                obtain ⟨a6, x6, had6, _, hx6, hcx6⟩ := (r6.out.kp hKm.out).at_ hml
                subst had8 had6
                have hxr := HUBM.out.2 x6 (List.mem_of_getElem? hx6)
                have hxe : x8 = x6 + (l.length : Int) := by
                  rw [HUBM.out.1, List.getElem?_map, hx6] at hx8
                  have : x6 + (l.length : Int) = x8 := by simpa using hx8
                  exact this.symm
                have hxw : IntKind.i64.wrap (x6 + (l.length : Int)) = x8 := by rw [IntKind.wrap_i64]; omega
                have hxn : (x8 != x8) = false := by simp
                clear hx8 hx6 hxe
                go_wp2
                go_quiet (fail)
                go_wp2
                go_roundw
                case rel => exact ⟨m + 1, by go_num, (by show m + 1 ≤ ua.length; omega), hKm.out.tr (Kp.drewN_ _ _)⟩
                case measure => simp [intOf]; omega
              · have hm' : ¬ (m : Int) < (ua.length : Int) := by omega
                have k9' := Lib.hid (k8'.out.tr hKm.out)
                have r6 := Lib.hid (r6.out.kp hKm.out)
                have r7 := Lib.hid (r7.out.kp hKm.out)
                go_wp2_with fail
                refine (HCV.out _ k9'.out).mono ?_; rintro e w10 ⟨rfl, k10⟩
                have k10' := Lib.hid (k9'.out.tr k10)
                have r6 := Lib.hid (r6.out.kp k10)
                have r7 := Lib.hid (r7.out.kp k10)
                clear k10
                go_wp2_with fail
                refine (same_g ua ua r6.out r7.out rfl rfl (r := true) (by simp)).mono ?_; rintro e w11 ⟨rfl, k11⟩
                have k11' := Lib.hid (k10'.out.tr k11)
                clear k11 r6 r7
                go_wp2_with fail
                refine (HLB.out _ k11'.out).mono ?_; rintro e w12 ⟨A12, c12, rfl, _, _, k12⟩
                have k12' := Lib.hid (k11'.out.tr k12)
                clear k12
                go_wp2_with fail
                refine (HLA.out _ (K5.out.tr k12'.out)).mono ?_; rintro e w13 ⟨A13, c13, rfl, _, _, k13⟩
                have k13' := Lib.hid (k12'.out.tr k13)
                clear k13
                go_wp2_with fail
                refine (HPB.out _ k13'.out).mono ?_; rintro e w14 ⟨A14, c14, rfl, r14, _, k14⟩
                have k14' := Lib.hid (k13'.out.tr k14)
                clear k14
                go_wp2_with fail
                refine (HPA.out _ (K5.out.tr k14'.out)).mono ?_; rintro e w15 ⟨A15, c15, rfl, r15, _, k15⟩
                have k15' := Lib.hid (k14'.out.tr k15)
                have r14 := Lib.hid (r14.out.kp k15)
                clear k15
                go_wp2_with fail
                refine (same_g pa pa r14.out r15.out rfl rfl (r := true) (by simp)).mono ?_; rintro e w16 ⟨rfl, k16⟩
                have K16 := Lib.hid (K5.out.tr (k15'.out.tr k16))
                clear k16 r14 r15
                go_wp2
                go_ret
                exact ⟨by first | rfl | simp, K16.out⟩
          · clear hcv hSC hct hcl hb hc hS hi
            go_wp2_with fail
            refine (HCV.out _ (Kp.refl _)).mono ?_; rintro e w6 ⟨rfl, k6⟩
            have K6 := Lib.hid (K5.out.tr k6)
            clear k6
            go_wp2
            go_ret
            exact ⟨by first | rfl | simp, K6.out⟩
set_option maxRecDepth 100000 in
theorem gshifts_walk (C : GrC) (A : Option Addr) (c : Nat) (l : List Nd) (node : Int) (W : World) (R : RdG W A l) (N : ∀ t ∈ l, Nd64 t) (L : l.length ≤ c) (M : c ≤ 9223372036854775807) (hi : I64 node) :
    Calls Try.prog 7 #[.slice A l.length c, .int .i64 node] W fun e w' => e = .returned (.bool true) ∧ Below W.heap.size W w' := by
  have HAW : Hid (Calls Try.prog 9 #[] W fun e w' => e = .returned (.bool true) ∧ Kp W w') := grawake_any C W
  have HF : Hid (∀ V, Kp W V → Calls Try.prog 10 #[.slice A l.length c] V fun e w' => e = .returned (.bool (fewN l)) ∧ w' = V) := fun V k => rfew10_any A c l V (R.kp k)
  cases hf : fewN l with
  | false =>
    rw [hf] at HF
    clear hf C R N hi
    go_enter Try.func7, Try.ntmps7
    go_wp2_with fail
    refine (Hid.out HAW).mono ?_; rintro e w1 ⟨rfl, k1⟩
    have K := Lib.hid k1
    clear k1
    go_wp2_with fail
    refine (HF.out _ K.out).mono ?_; rintro e w2 ⟨rfl, rfl⟩
    go_wp2
    go_ret
    exact ⟨rfl, K.out⟩
  | true =>
    rw [hf] at HF
    have HCK := guard_none C A c l W R L M (small_few hf N)
    cases hc : checkB l with
    | false =>
      rw [hc] at HCK
      clear hf hc C R N hi
      go_enter Try.func7, Try.ntmps7
      go_wp2_with fail
      refine (Hid.out HAW).mono ?_; rintro e w1 ⟨rfl, k1⟩
      have K := Lib.hid k1
      clear k1
      go_wp2_with fail
      refine (HF.out _ K.out).mono ?_; rintro e w2 ⟨rfl, rfl⟩
      go_wp2_with fail
      refine (HCK.out _ K.out).mono ?_; rintro e w3 ⟨rfl, k3⟩
      have K := Lib.hid (K.out.tr k3)
      clear k3
      go_wp2
      go_ret
      exact ⟨rfl, K.out⟩
    | true => exact gshifts_main C A c l node W R L M (small_few hf N) hf hc hi
end Go.Proofs.Ytklphpphgkbjoaa
