/- The landed eval: boxes of cells, copy of tensors, a row of tensors with room, what is told. -/
import Derived.Test.YtdbncanedokinaaGreatInZk
import Derived.Test.YtdbncanedokinaaGreatImMem
set_option maxRecDepth 100000
namespace Go.Proofs.YtdbncanedokinaaGreat.Ez
open Go.RowKit Go.Proofs.ShM Go.Proofs.GrM Go.Proofs.InM Go.Proofs.ImM
set_option linter.unusedVariables false
set_option linter.unusedSimpArgs false
set_option maxHeartbeats 4000000

/-- A box of so many cells. -/
def Bx (W : World) (b : Nat) (cs : List Value) (t : TypeId) : Prop := W.heap[b]? = some (.cells cs.toArray t (0, 0))
section
variable {W W' : World} {b : Nat} {cs : List Value} {t : TypeId}
theorem Bx.lt (h : Bx W b cs t) : b < W.heap.size := (Array.getElem?_eq_some_iff.1 h).1
theorem Bx.cell (h : Bx W b cs t) {j : Nat} {v : Value} (hv : cs[j]? = some v) : W.cell? ⟨b, j, none⟩ = some v := by
  simp only [World.cell?, show W.heap[b]? = _ from h]
  simpa using hv
theorem Bx.frz (h : Bx W b cs t) (i : Nat) : W.frozen? ⟨b, i, none⟩ = false := by simp [World.frozen?, show W.heap[b]? = _ from h]
theorem Bx.kp (h : Bx W b cs t) (k : Kp W W') : Bx W' b cs t := (k.block b h.lt).trans h
theorem Bx.new (h : b = W.heap.size) : Bx (W.alloc (.cells cs.toArray t)) b cs t := by
  subst h
  show (W.heap.push _)[W.heap.size]? = some _
  simp
theorem Bx.set (h : Bx W b cs t) (j : Nat) (x : Value) : Bx (W.setCell ⟨b, j, none⟩ x) b (cs.set j x) t := by
  have := heap_set h j x
  rw [List.setIfInBounds_toArray] at this
  exact this
theorem Bx.other (h : Bx W b cs t) {p : Addr} (hne : b ≠ p.block) (x : Value) : Bx (W.setCell p x) b cs t := by
  unfold Bx
  rw [Below.heap_setCell _ _ _ b hne]; exact h
/-- Numbers stay where three cells of a told box are written, the last one as it was. -/
theorem Rd.pastB {A0 : Option Addr} {xs : List Int} {p q : Value} (hp : ∀ u : Int, p ≠ .int .i64 u) (hq : ∀ u : Int, q ≠ .int .i64 u) (r : Rd W A0 xs) (h : Bx W b [p, q, .int .i64 0] t) (x y : Value) :
    Rd (((W.setCell ⟨b, 0, none⟩ x).setCell ⟨b, 1, none⟩ y).setCell ⟨b, 2, none⟩ (.int .i64 0)) A0 xs := by
  by_cases hne : ∀ ad, A0 = some ad → 0 < xs.length → ad.block ≠ b
  · cases xs with
    | nil => exact Rd.nil _ _
    | cons z zs =>
      have hne' := fun ad e => hne ad e (by simp)
      exact ((r.put_ hne' x).put_ hne' y).put_ hne' _
  · have hex : ∃ ad, A0 = some ad ∧ 0 < xs.length ∧ ad.block = b := by
      apply Classical.byContradiction
      intro hn
      exact hne fun ad e hp hb => hn ⟨ad, e, hp, hb⟩
    obtain ⟨ad, rfl, hpos, hb⟩ := hex
    obtain ⟨ad', e', hlt, hc⟩ := r.2 hpos
    injection e' with e'
    subst e'
    have hW := ((h.set 0 x).set 1 y).set 2 (.int .i64 0)
    refine ⟨r.1, fun _ => ⟨ad, rfl, by rw [hb]; exact hW.lt, fun j u hu => ?_⟩⟩
    have h0 := hc j u hu
    have hbb : (ad.add j).block = b := by rw [block_of_add]; exact hb
    generalize ad.add j = z at h0 hbb
    obtain ⟨zb, off, spot⟩ := z
    have hbb : zb = b := hbb
    subst hbb
    simp only [World.cell?, show W.heap[zb]? = _ from h] at h0
    simp only [World.cell?, show (((W.setCell ⟨zb, 0, none⟩ x).setCell ⟨zb, 1, none⟩ y).setCell ⟨zb, 2, none⟩ (.int .i64 0)).heap[zb]? = _ from hW]
    cases spot with
    | some s => simp at h0
    | none =>
      match off, h0 with
      | 0, h0 => exact absurd (by simpa using h0) (hp u)
      | 1, h0 => exact absurd (by simpa using h0) (hq u)
      | 2, h0 => simpa using h0
      | k + 3, h0 => simp at h0
end
theorem slice_ne (A : Option Addr) (n c : Nat) (u : Int) : Value.slice A n c ≠ .int .i64 u := by intro h; cases h

/-- A tensor, and an error, told in one. -/
def RetTo (r : T × Int) (w : World) (e : Ending) (w' : World) : Prop :=
  ∃ A c B d, e = .returned (.agg #[.slice A r.1.1.length c, .slice B r.1.2.length d, .int .i64 r.2]) ∧ Sl w' A c r.1.1 ∧ Sl w' B d r.1.2 ∧ Kp w w'
theorem RetTo.back {r : T × Int} {w w1 : World} {e : Ending} {w' : World} (h : RetTo r w1 e w') (hk : Kp w w1) : RetTo r w e w' := by
  obtain ⟨A, c, B, d, e1, s1, s2, k⟩ := h
  exact ⟨A, c, B, d, e1, s1, s2, hk.tr k⟩
/-- The told box, written at the end. -/
theorem RetTo.box {r : T × Int} {s xs : List Int} {err : Int} {w w3 : World} {b n m : Nat} {A B : Option Addr} {c d : Nat} {p q : Value} {t : TypeId} (hp : ∀ u : Int, p ≠ .int .i64 u) (hq : ∀ u : Int, q ≠ .int .i64 u) (hr : r = ((s, xs), err)) (hn : n = s.length) (hm : m = xs.length) (he : err ≠ 0 → s = [] ∧ xs = []) (hb : w.heap.size ≤ b) (F : Bx w3 b [p, q, .int .i64 0] t)
    (hA : Sl w3 A c s) (hB : Sl w3 B d xs) (k : Kp w w3) :
    RetTo r w (.returned (.agg #[.slice A n c, .slice B m d, .int .i64 err])) (((w3.setCell ⟨b, 0, none⟩ (.slice A n c)).setCell ⟨b, 1, none⟩ (.slice B m d)).setCell ⟨b, 2, none⟩ (.int .i64 err)) := by
  subst hr hn hm
  have kk := ((k.setCell (p := ⟨b, 0, none⟩) hb (.slice A s.length c)).setCell (p := ⟨b, 1, none⟩) hb (.slice B xs.length d)).setCell (p := ⟨b, 2, none⟩) hb (.int .i64 err)
  by_cases h0 : err = 0
  · subst h0
    exact ⟨A, c, B, d, rfl, ⟨Rd.pastB hp hq hA.rd F _ _, hA.le, hA.cap⟩, ⟨Rd.pastB hp hq hB.rd F _ _, hB.le, hB.cap⟩, kk⟩
  · obtain ⟨rfl, rfl⟩ := he h0
    exact ⟨A, c, B, d, rfl, ⟨Rd.nil _ _, hA.le, hA.cap⟩, ⟨Rd.nil _ _, hB.le, hB.cap⟩, kk⟩

theorem tell_t (A B : Option Addr) (n c m d : Nat) (err : Int) (w : World) :
    Calls Tryz.prog 35 #[.agg #[.slice A n c, .slice B m d], .int .i64 err] w fun e w' => e = .returned (.agg #[.slice A n c, .slice B m d, .int .i64 err]) ∧ Kp w w' := by
  go_enter Tryz.func35, Tryz.ntmps35
  go_wp2
  refine bodyPost_ret (v := .agg #[.slice A n c, .slice B m d, .int .i64 err]) (by simp [results, Tryz.results35, go_sem]; try rfl) rfl ?_
  exact ⟨rfl, (Kp.alloc_ _ _).tr (Kp.alloc_ _ _)⟩
theorem tell_l (A : Option Addr) (n c : Nat) (err : Int) (w : World) :
    Calls Tryz.prog 33 #[.slice A n c, .int .i64 err] w fun e w' => e = .returned (.agg #[.slice A n c, .int .i64 err]) ∧ Kp w w' := by
  go_enter Tryz.func33, Tryz.ntmps33
  go_wp2
  refine bodyPost_ret (v := .agg #[.slice A n c, .int .i64 err]) (by simp [results, Tryz.results33, go_sem]; try rfl) rfl ?_
  exact ⟨rfl, Kp.alloc_ _ _⟩
/-! ### copy of elements of two cells -/
theorem run_copy_none2 {P : Program} (w : World) (dT sT ty elem : TypeId) (d a : Option Addr) (dLen dCap sLen sCap : Nat) (hu : P.underlying dT = some (.slice elem)) (hs : (P.info? elem).map (·.size) = some 2) (hn : Nat.min sLen dLen = 0) :
    (Builtin.copy_ #[dT, sT] ty #[.slice d dLen dCap, .slice a sLen sCap]).run P w = .ok (goInt 0) w := by
  cases hq : P.info? elem with
  | none => simp [hq] at hs
  | some i =>
    have hl : ∀ (x : Addr), (loadCells x 0).run P w = .ok #[] w := fun x => by simpa using run_loadCells_list (P := P) w x [] (by simp)
    cases d <;> cases a <;> simp [Builtin.copy_, run_underlying hu, Builtin.lenOf, Builtin.firstCells, sizeOf, typeInfo, hq, hn, storeCells, hl]
theorem run_copy_row2 {P : Program} (w : World) (dT sT ty elem : TypeId) (g o dLen dCap : Nat) (a : Addr) (sLen sCap : Nat) (cur : Array Value) (t : TypeId) (cs : List Value) (n : Nat)
    (hu : P.underlying dT = some (.slice elem)) (hs : (P.info? elem).map (·.size) = some 2)
    (hg : w.heap[g]? = some (.cells cur t (0, 0))) (hn : n = Nat.min sLen dLen) (hc : cs.length = n * 2)
    (hsrc : ∀ j v, cs[j]? = some v → w.cell? (a.add j) = some v) (hfit : o + cs.length ≤ cur.size) (h1 : ∀ v ∈ cs, v.oneCell' = true) :
    (Builtin.copy_ #[dT, sT] ty #[.slice (some ⟨g, o, none⟩) dLen dCap, .slice (some a) sLen sCap]).run P w =
      .ok (goInt n) (w.setRow g (cur.toList.take o ++ cs ++ cur.toList.drop (o + cs.length)).toArray) := by
  have hl := run_loadCells_list (P := P) w a cs hsrc
  rw [hc] at hl
  have hst := run_storeCells_at P g o t cs 0 cur w hg (by simpa using hfit) h1
  cases hq : P.info? elem with
  | none => simp [hq] at hs
  | some i =>
    have hi : i.size = 2 := by simpa [hq] using hs
    simp [Builtin.copy_, run_underlying hu, Builtin.lenOf, Builtin.firstCells, sizeOf, typeInfo, hq, hi, ← hn, hl, hst]
theorem wpList_copy2 {P : Program} {w : World} {ops : Array Oper} {rest : List Oper} {o : Oper} {a : Act} {Q : Exit → Act → World → Prop} (hgd : o.guard = none) (d s : Operand) (dT sT : TypeId)
    (ho : o.op = .call { callee := .builtin .copy, args := #[d, s], argTypes := #[dT, sT] }) (elem : TypeId) (hu : P.underlying dT = some (.slice elem)) (hsz : (P.info? elem).map (·.size) = some 2)
    (dp sp : Option Addr) (dLen dCap sLen sCap : Nat) (hd : a.eval d = .slice dp dLen dCap) (hs : a.eval s = .slice sp sLen sCap)
    (g off : Nat) (cur : List Value) (t : TypeId) (hg : w.heap[g]? = some (.cells cur.toArray t (0, 0))) (cs : List Value) (n : Nat) (hn : n = Nat.min sLen dLen) (hc : cs.length = n * 2)
    (hpos : 0 < cs.length → dp = some ⟨g, off, none⟩ ∧ ∃ ad, sp = some ad ∧ ∀ j v, cs[j]? = some v → w.cell? (ad.add j) = some v)
    (hfit : off + cs.length ≤ cur.length) (h1 : ∀ v ∈ cs, v.oneCell' = true) (B : Nat) (w0 : World) (hb : Below B w0 w) (hBg : B ≤ g)
    (h : ∀ w', Hid (w'.heap[g]? = some (.cells (splice cur off cs).toArray t (0, 0))) → Below B w0 w' → wpList P ops Q rest (a.put o.dst (goInt n)) w') :
    wpList P ops Q (o :: rest) a w := by
  refine wpList_plain hgd fun K hK => ?_
  by_cases h0 : cs.length = 0
  · obtain rfl : cs = [] := List.eq_nil_of_length_eq_zero h0
    have hrun := run_copy_none2 (P := P) w dT sT o.type elem dp sp dLen dCap sLen sCap hu hsz (by simp at hc; omega)
    unfold Oper.wp
    simp [execOp, ho, resolve, invoke, builtin, hd, hs, hrun, Result.andThen]
    have hn0 : n = 0 := by simp at hc; omega
    subst hn0
    exact hK _ _ (h w (show _ = _ by simpa [splice] using hg) hb)
  · obtain ⟨rfl, ad, rfl, hsrc⟩ := hpos (by omega)
    have hrun := run_copy_row2 (P := P) w dT sT o.type elem g off dLen dCap ad sLen sCap cur.toArray t cs n hu hsz hg hn hc hsrc (by simpa using hfit) h1
    unfold Oper.wp
    simp [execOp, ho, resolve, invoke, builtin, hd, hs, hrun, Result.andThen]
    exact hK _ _ (h _ (show _ = _ by simpa [splice] using setRow_heap w g _ _ t _ hg) (below_setRow hb hBg _))

/-! ### A row of tensors with room -/
def RowT (B : Nat) (w : World) (g cap : Nat) (ts : List T) : Prop :=
  B ≤ g ∧ ts.length ≤ cap ∧ cap ≤ 1000000 ∧ ∃ vs, Bx w g (flat vs ++ List.replicate (2 * (cap - ts.length)) (.slice none 0 0)) 25 ∧ AllV w (fun k => k ≠ g) vs ts
section
variable {w w' : World} {B g cap : Nat} {ts : List T}
theorem flat_slice {X : Nat → Prop} {vs : List V2} (h : AllV w X vs ts) : ∀ u ∈ flat vs, ∃ A n c, u = Value.slice A n c := fun u hu => by
  unfold flat at hu
  rw [List.mem_flatMap] at hu
  obtain ⟨p, hp, hu⟩ := hu
  obtain ⟨j, hj⟩ := List.mem_iff_getElem?.1 hp
  have hjl : j < ts.length := by have := (List.getElem?_eq_some_iff.1 hj).1; rw [h.len] at this; exact this
  obtain ⟨P, c1, Q, d1, ep, _⟩ := h.at_ j p _ hj (List.getElem?_eq_getElem hjl)
  rw [ep] at hu
  simp at hu
  rcases hu with rfl | rfl
  · exact ⟨_, _, _, rfl⟩
  · exact ⟨_, _, _, rfl⟩
theorem RowT.lt (h : RowT B w g cap ts) : g < w.heap.size := by
  obtain ⟨_, _, _, vs, hb, _⟩ := h
  exact hb.lt
theorem RowT.kp (h : RowT B w g cap ts) (k : Kp w w') : RowT B w' g cap ts := by
  obtain ⟨h1, h2, h3, vs, hb, hv⟩ := h
  exact ⟨h1, h2, h3, vs, hb.kp k, hv.mono k fun _ _ x => x⟩
theorem RowT.rd (h : RowT B w g cap ts) : RdX w (fun k => k ≠ g) (some ⟨g, 0, none⟩) ts := by
  obtain ⟨h1, h2, h3, vs, hb, hv⟩ := h
  refine ⟨by omega, vs, hv, fun hp => ⟨_, rfl, hb.lt, fun j u hu => ?_⟩⟩
  rw [Go.WideShapes.add_plain, Nat.zero_add]
  refine hb.cell ?_
  rw [List.getElem?_append_left (List.getElem?_eq_some_iff.1 hu).1]
  exact hu
/-- No numbers lie in it. -/
theorem RowT.apart (h : RowT B w g cap ts) {A : Option Addr} {xs : List Int} (r : Rd w A xs) : ∀ ad, A = some ad → 0 < xs.length → ad.block ≠ g := by
  rintro ad rfl hpos e
  obtain ⟨h1, h2, h3, vs, hb, hv⟩ := h
  obtain ⟨ad', e', _, hc⟩ := r.2 hpos
  injection e' with e'
  subst e'
  have h0 := hc 0 _ (List.getElem?_eq_getElem hpos)
  have e1 : ad.add 0 = ad := by unfold Addr.add; simp
  rw [e1] at h0
  simp only [World.cell?] at h0
  rw [e, show w.heap[g]? = _ from hb] at h0
  have h0 : ad.spot = none ∧ (flat vs ++ List.replicate (2 * (cap - ts.length)) (Value.slice none 0 0))[ad.off]? = some (Value.int IntKind.i64 xs[0]) := by simpa using h0
  · have hm := List.mem_of_getElem? h0.2
    rcases List.mem_append.1 hm with hm | hm
    · obtain ⟨A, n, c, e⟩ := flat_slice hv _ hm
      cases e
    · have := List.eq_of_mem_replicate hm
      cases this
theorem made_two (n : Nat) : (madeCells #[Value.slice none 0 0, Value.slice none 0 0] (n * 2)).toList = (List.replicate (2 * n) (Value.slice none 0 0)).toArray.toList := by
  refine List.eq_replicate_iff.2 ⟨by simp [madeCells]; omega, fun b hb => ?_⟩
  simp only [madeCells, Array.toList_map, List.mem_map] at hb
  obtain ⟨i, _, rfl⟩ := hb
  have h2 : i % 2 = 0 ∨ i % 2 = 1 := by omega
  rcases h2 with e | e <;> simp [e]
theorem mkT_ (n : Nat) (hn : n ≤ 1000000) : ∃ cs : Array Value, (∀ W : World, (Instr.makeSlice 26 (.int .i64 0) (.int .i64 (n : Int))).run Tryz.prog W = .ok (.slice (some ⟨W.heap.size, 0, none⟩) 0 n) (W.alloc (.cells cs 25))) ∧
    ∀ (W : World) (B : Nat), B ≤ W.heap.size → RowT B (W.alloc (.cells cs 25)) W.heap.size n [] :=
  ⟨(List.replicate (2 * n) (Value.slice none 0 0)).toArray, fun W => by
    obtain ⟨i, hi, hz, h1, h2⟩ := info_parts tn_info
    have hr := run_make (P := Tryz.prog) W 26 25 i _ Tryz.underlying26 hi hz .i64 .i64 0 n (by omega) (by omega) (by rw [h2]; omega) (by omega)
    simp only [Int.toNat_natCast, Int.toNat_zero, h1] at hr
    rw [hr]
    congr 3
    exact Array.toList_inj.1 (by rw [show (Value.agg #[.slice none 0 0, .slice none 0 0]).cells = #[Value.slice none 0 0, Value.slice none 0 0] from rfl]; exact made_two n), fun W B hB =>
    ⟨hB, Nat.zero_le _, hn, [], Bx.new rfl, AllV.nil_ _ _⟩⟩
/-- What append leaves. -/
theorem RowT.app (h : RowT B w g cap ts) (a : Addr) (t : T) (c : Nat) (hr : RdT w (some a) [t]) (hroom : ts.length + 1 ≤ cap) (ty : TypeId) :
    ∃ w', (Builtin.append_ #[26, 26] ty #[.slice (some ⟨g, 0, none⟩) ts.length cap, .slice (some a) 1 c]).run Tryz.prog w = .ok (.slice (some ⟨g, 0, none⟩) (ts.length + 1) cap) w' ∧ RowT B w' g cap (ts ++ [t]) ∧ Below B w w' ∧ ∀ k, k < w.heap.size → k ≠ g → w'.heap[k]? = w.heap[k]? := by
  obtain ⟨i, hi, hz, h1, h2⟩ := info_parts tn_info
  have hap := fun {A : Option Addr} {xs : List Int} (r : Rd w A xs) => h.apart r
  obtain ⟨hB, hl, hc6, vs, hb, hv⟩ := h
  obtain ⟨_, qs, hq, hh⟩ := hr
  obtain ⟨ad, e, _, hcell⟩ := hh (by simp)
  injection e with e
  subst e
  have hq1 : qs.length = 1 := hq.len
  obtain ⟨p, rfl⟩ : ∃ p, qs = [p] := by
    match qs, hq1 with
    | [p], _ => exact ⟨p, rfl⟩
  obtain ⟨P, c1, Q, d1, ep, rt, _, _, hcc⟩ := hq.at_ 0 p t rfl rfl
  subst ep
  have hfl : (flat vs).length = ts.length * 2 := by rw [flat_len, hv.len]
  have hrun := run_append_room (P := Tryz.prog) w 26 ty 25 i Tryz.underlying26 hi g ts.length cap _ hb a 1 c (flat [(.slice P t.1.length c1, .slice Q t.2.length d1)]) (by rw [h1]; rfl) hcell
    (fun u hu => by simp [flat] at hu; rcases hu with rfl | rfl <;> rfl) hroom (by rw [h1]; simp [flat_len, hv.len]; omega)
  rw [h1] at hrun
  have hcs : (((flat vs ++ List.replicate (2 * (cap - ts.length)) (Value.slice none 0 0)).toArray.toList.take (ts.length * 2) ++ flat [(Value.slice P t.1.length c1, Value.slice Q t.2.length d1)] ++ (flat vs ++ List.replicate (2 * (cap - ts.length)) (Value.slice none 0 0)).toArray.toList.drop (ts.length * 2 + (flat [(Value.slice P t.1.length c1, Value.slice Q t.2.length d1)]).length))) = flat (vs ++ [(Value.slice P t.1.length c1, Value.slice Q t.2.length d1)]) ++ List.replicate (2 * (cap - (ts ++ [t]).length)) (Value.slice none 0 0) := by
    have e1 : (flat [(Value.slice P t.1.length c1, Value.slice Q t.2.length d1)]).length = 2 := rfl
    rw [e1]
    simp only [List.toList_toArray]
    rw [← hfl, List.take_left, List.drop_append, List.drop_eq_nil_of_le (by omega), List.nil_append, flat_append, show (flat vs).length + 2 - (flat vs).length = 2 by omega, List.drop_replicate, List.append_assoc, List.append_assoc]
    congr 3
    simp
    omega
  rw [hcs] at hrun
  have hgb : w.grownBy (w.setRow g (flat (vs ++ [(Value.slice P t.1.length c1, Value.slice Q t.2.length d1)]) ++ List.replicate (2 * (cap - (ts ++ [t]).length)) (Value.slice none 0 0)).toArray) (some g) :=
    ⟨rfl, rfl, rfl, by simp, fun k _ hk => setRow_other w g k _ (fun e => hk (by simp [e]))⟩
  refine ⟨_, hrun, ⟨hB, by rw [List.length_append]; simpa using hroom, hc6, vs ++ [(Value.slice P t.1.length c1, Value.slice Q t.2.length d1)], setRow_heap w g _ _ _ _ hb, ?_⟩, below_setRow (Below.refl _ _) hB _, fun k hk hne => setRow_other w g k _ hne⟩
  have a1 : AllV (w.setRow g (flat (vs ++ [(Value.slice P t.1.length c1, Value.slice Q t.2.length d1)]) ++ List.replicate (2 * (cap - (ts ++ [t]).length)) (Value.slice none 0 0)).toArray) (fun k => k ≠ g) vs ts := ⟨hv.len, fun j p t g1 g2 => by
    obtain ⟨A, c, B, d, e, r, x1, x2, b12⟩ := hv.at_ j p t g1 g2
    exact grown_v hgb ⟨A, c, B, d, e, r, fun ad q1 q2 e => x1 ad q1 q2 (by simpa using e.symm), fun ad q1 q2 e => x2 ad q1 q2 (by simpa using e.symm), b12⟩ (fun k _ hk e => hk (by rw [e]))⟩
  refine a1.app ⟨rfl, fun j p t' g1 g2 => ?_⟩
  match j, g1, g2 with
  | 0, g1, g2 =>
    simp only [List.getElem?_cons_zero, Option.some.injEq] at g1 g2
    subst g1 g2
    exact grown_v hgb ⟨P, c1, Q, d1, rfl, rt, fun ad q1 q2 e => hap rt.s ad q1 q2 (by simpa using e.symm), fun ad q1 q2 e => hap rt.d ad q1 q2 (by simpa using e.symm), hcc⟩ (fun k _ hk e => hk (by rw [e]))
  | j + 1, g1, g2 => simp at g1
theorem wpList_appR {ops : Array Oper} {rest : List Oper} {o : Oper} {a : Act} {Q : Exit → Act → World → Prop} (hgd : Region.wanted o (yielded ops a.tmps) = true) (s x : Operand)
    (hop : o.op = .call { callee := .builtin .append, args := #[s, x], argTypes := #[26, 26] })
    (a0 : Addr) (ha0 : a0 = ⟨g, 0, none⟩) (n : Nat) (hn : n = ts.length) (hs : a.eval s = .slice (some a0) n cap) (ho : RowT B w g cap ts) (ad : Addr) (c : Nat) (t : T) (hx : a.eval x = .slice (some ad) 1 c) (hr : RdT w (some ad) [t]) (hroom : ts.length + 1 ≤ cap)
    (h : ∀ w', RowT B w' g cap (ts ++ [t]) → Below B w w' → (∀ k, k < w.heap.size → k ≠ g → w'.heap[k]? = w.heap[k]?) → wpList Tryz.prog ops Q rest (a.put o.dst (.slice (some a0) (n + 1) cap)) w') : wpList Tryz.prog ops Q (o :: rest) a w := by
  refine BigFrame.wpList_want hgd fun K hK => ?_
  subst hn ha0
  obtain ⟨w', hrun, h1, h2, h3⟩ := ho.app ad t c hr hroom o.type
  unfold Oper.wp execOp
  simp only [hop, resolve, invoke, builtin, Sem.run_bind, Sem.run_pure, Result.andThen_ok, List.map_toArray, List.map_cons, List.map_nil, hs, hx, hrun]
  exact hK _ _ (h w' h1 h2 h3)
end
end Go.Proofs.YtdbncanedokinaaGreat.Ez
