import Derived.Test.YtjkdcegmdfmjpaaGreatEvZa
import Derived.Test.YtjkdcegmdfmjpaaGreatTk
import Derived.Test.YtjkdcegmdfmjpaaGreatVkP
import Derived.Test.YtjkdcegmdfmjpaaGreatEvZh
import Derived.Test.YtjkdcegmdfmjpaaGreatVjC
import Derived.ProofKit
import Derived.OpenShut
import Derived.Carry
set_option maxHeartbeats 16000000
set_option maxRecDepth 100000
set_option linter.unusedVariables false
set_option linter.unusedSimpArgs false
/- A row of tensors that the call itself appends to, whatever its room: its cells are slices, so no numbers lie in it. -/
set_option maxRecDepth 100000
namespace Go.Proofs.YtjkdcegmdfmjpaaGreat.Ez
open Go.RowKit Go.Proofs.ShM Go.Proofs.GrM Go.Proofs.InM Go.Proofs.ImM
set_option linter.unusedVariables false
set_option linter.unusedSimpArgs false
set_option maxHeartbeats 4000000
/-- All cells of the block are slices. -/
def Slc (w : World) (g : Nat) : Prop := ∃ cur t, w.heap[g]? = some (.cells cur t (0, 0)) ∧ ∀ u ∈ cur.toList, ∃ A n c, u = Value.slice A n c
def RowG (B : Nat) (w : World) (v : Value) (ts : List T) : Prop := OwnT B w v ts ∧ ∀ g, v.ownBlock = some g → Slc w g
section
variable {w w' : World} {B : Nat} {v : Value} {ts : List T}
theorem Slc.kp {g : Nat} (h : Slc w g) (k : Kp w w') : Slc w' g := by
  obtain ⟨cur, t, h1, h2⟩ := h
  exact ⟨cur, t, (k.block g (Array.getElem?_eq_some_iff.1 h1).1).trans h1, h2⟩
theorem Slc.apart {g : Nat} (h : Slc w g) {A : Option Addr} {xs : List Int} (r : Rd w A xs) : ∀ ad, A = some ad → 0 < xs.length → ad.block ≠ g := by
  rintro ad rfl hpos e
  obtain ⟨cur, t, hb, hs⟩ := h
  obtain ⟨ad', e', _, hc⟩ := r.2 hpos
  injection e' with e'
  subst e'
  have h0 := hc 0 _ (List.getElem?_eq_getElem hpos)
  have e1 : ad.add 0 = ad := by unfold Addr.add; simp
  rw [e1] at h0
  simp only [World.cell?] at h0
  rw [e, hb] at h0
  have h0 : ad.spot = none ∧ cur[ad.off]? = some (Value.int IntKind.i64 xs[0]) := by simpa using h0
  have hm : Value.int IntKind.i64 xs[0] ∈ cur.toList := by
    have := Array.mem_of_getElem? h0.2
    simpa using this
  obtain ⟨A, n, c, e⟩ := hs _ hm
  cases e
theorem RowG.nil_ (w : World) (B : Nat) : RowG B w (.slice none 0 0) [] := ⟨OwnT.nil_ w B, fun g h => by cases h⟩
theorem RowG.kp (h : RowG B w v ts) (k : Kp w w') : RowG B w' v ts := ⟨h.1.kp k, fun g e => (h.2 g e).kp k⟩
theorem zero_sl (n : Nat) : ∀ u ∈ (Builtin.zeroCells #[Value.slice none 0 0, Value.slice none 0 0] n).toList, ∃ A m c, u = Value.slice A m c := fun u hu => by
  simp only [Builtin.zeroCells, Array.toList_map, List.mem_map] at hu
  obtain ⟨i, _, rfl⟩ := hu
  have h2 : i % 2 = 0 ∨ i % 2 = 1 := by omega
  rcases h2 with e | e
  · exact ⟨none, 0, 0, by simp [e]⟩
  · exact ⟨none, 0, 0, by simp [e]⟩
theorem run_appT {A : Option Addr} {us : List T} (ho : OwnT B w v ts) (c : Nat) (hr : RdX w (fun k => v.ownBlock ≠ some k) A us) (hs : ts.length + us.length ≤ 1000000) (hB : B ≤ w.heap.size) (ty : TypeId) :
    ∃ zs A' c' w', zs = ts ++ us ∧ (Builtin.append_ #[25, 25] ty #[v, .slice A us.length c]).run Tryz.prog w = .ok (.slice A' zs.length c') w' ∧ OwnT B w' (.slice A' zs.length c') zs ∧ Below B w w' ∧ (∀ k, k < w.heap.size → some k ≠ v.ownBlock → w'.heap[k]? = w.heap[k]?) := by
  obtain ⟨i, hi, hz, h1, h2⟩ := info_parts tn_info
  have hfrom := fun k => ho.from_ (k := k)
  obtain ⟨vs, hown, hv⟩ := ho
  obtain ⟨_, qs, hq, hh⟩ := hr
  have fin : ∀ (ad : Addr) (news : List Value) (m : Nat), news = flat qs → m = us.length → (∀ j u, news[j]? = some u → w.cell? (ad.add j) = some u) →
      ∃ zs A' c' w', zs = ts ++ us ∧ (Builtin.append_ #[25, 25] ty #[v, .slice (some ad) m c]).run Tryz.prog w = .ok (.slice A' zs.length c') w' ∧ OwnT B w' (.slice A' zs.length c') zs ∧ Below B w w' ∧ (∀ k, k < w.heap.size → some k ≠ v.ownBlock → w'.heap[k]? = w.heap[k]?) := by
    intro ad news m hnews hm hc
    subst hnews hm
    obtain ⟨v', w', hrun, hown2, hg, _, hrow⟩ := run_append_own_at (P := Tryz.prog) w B 25 ty 27 i _ 2 48 Tryz.underlying25 hi hz h1 h2 rfl (by omega) _ _ _ hown ad us.length c (flat qs) (by rw [flat_len, hq.len]) hc
      (fun u hu => by
        unfold flat at hu
        rw [List.mem_flatMap] at hu
        obtain ⟨p, hp, hu⟩ := hu
        obtain ⟨j, hj⟩ := List.mem_iff_getElem?.1 hp
        have hjl : j < us.length := by have := (List.getElem?_eq_some_iff.1 hj).1; rw [hq.len] at this; exact this
        obtain ⟨P, c1, Q, d1, ep, _⟩ := hq.at_ j p _ hj (List.getElem?_eq_getElem hjl)
        rw [ep] at hu
        simp at hu
        rcases hu with rfl | rfl <;> rfl) (by unfold maxLen; omega) (by omega) hB
    have hv2 : AllV w' (fun k => v'.ownBlock ≠ some k) (vs ++ qs) (ts ++ us) := by
      have hY : ∀ k, k < w.heap.size → v.ownBlock ≠ some k → v'.ownBlock ≠ some k := by
        intro k hk hne
        rcases hrow with hrow | hrow
        · rw [hrow]; exact hne
        · rw [hrow]; intro e; injection e with e; omega
      have a1 : AllV w' (fun k => v'.ownBlock ≠ some k) vs ts := ⟨hv.len, fun j p t g1 g2 => grown_v hg (hv.at_ j p t g1 g2) hY⟩
      have a2 : AllV w' (fun k => v'.ownBlock ≠ some k) qs us := ⟨hq.len, fun j p t g1 g2 => grown_v hg (hq.at_ j p t g1 g2) hY⟩
      exact a1.app a2
    have ho2 : OwnT B w' v' (ts ++ us) := ⟨vs ++ qs, by rw [List.length_append, flat_append]; exact hown2, hv2⟩
    obtain ⟨A2, c2, rfl, _⟩ := ho2.form
    exact ⟨ts ++ us, A2, c2, w', rfl, hrun, ho2, (Below.refl _ _).grown hg hB (fun k hk => hfrom k hk), fun k hk hne => hg.block k hk hne⟩
  by_cases hy : us = []
  · subst hy
    have hqn : qs = [] := List.eq_nil_of_length_eq_zero (by rw [hq.len]; rfl)
    subst hqn
    cases A with
    | none =>
      have ho2 : OwnT B w v ts := ⟨vs, hown, hv⟩
      obtain ⟨A', c', rfl, _⟩ := ho2.form
      refine ⟨ts, A', c', w, by simp, ?_, ho2, Below.refl _ _, fun _ _ _ => rfl⟩
      have ht := run_underlying (P := Tryz.prog) (w := w) Tryz.underlying25
      rcases hown.2 with ⟨e, h0⟩ | ⟨g, cap, cur, e, _, _, hn, _⟩
      · injection e with e1 e2 e3
        subst e1 e3
        rw [e2]
        simp [Builtin.append_, ht, sizeOf, typeInfo, hi, Builtin.lenOf, Builtin.firstCells]
      · injection e with e1 e2 e3
        subst e1 e3
        simp [Builtin.append_, ht, sizeOf, typeInfo, hi, Builtin.lenOf, Builtin.firstCells, hn, storeCells]
    | some ad => exact fin ad [] 0 rfl rfl (by simp)
  · obtain ⟨ad, rfl, _, hc⟩ := hh (List.length_pos_iff.2 hy)
    exact fin ad (flat qs) us.length rfl rfl hc
/-- What append leaves. -/
theorem RowG.app (h : RowG B w v ts) (a : Addr) (t : T) (c : Nat) (hr : RdT w (some a) [t]) (hs : ts.length + 1 ≤ 1000000) (hB : B ≤ w.heap.size) (ty : TypeId) :
    ∃ A' c' w', (Builtin.append_ #[25, 25] ty #[v, .slice (some a) 1 c]).run Tryz.prog w = .ok (.slice A' (ts.length + 1) c') w' ∧ RowG B w' (.slice A' (ts.length + 1) c') (ts ++ [t]) ∧ Below B w w' ∧ ∀ k, k < w.heap.size → some k ≠ v.ownBlock → w'.heap[k]? = w.heap[k]? := by
  obtain ⟨i, hi, hz, h1, h2⟩ := info_parts tn_info
  obtain ⟨hO, hS⟩ := h
  obtain ⟨q1, qs, hq, hh⟩ := hr
  have hX : RdX w (fun k => v.ownBlock ≠ some k) (some a) [t] := by
    refine ⟨q1, qs, ⟨hq.len, fun j p t' g1 g2 => ?_⟩, hh⟩
    obtain ⟨P, c1, Q, d1, e, r, _, _, b⟩ := hq.at_ j p t' g1 g2
    exact ⟨P, c1, Q, d1, e, r, fun ad e1 e2 e3 => (hS _ e3).apart r.s ad e1 e2 rfl, fun ad e1 e2 e3 => (hS _ e3).apart r.d ad e1 e2 rfl, b⟩
  obtain ⟨zs, A', c', w', hz', hrun, hO', hB', hk⟩ := run_appT hO c hX (by simpa using hs) hB ty
  subst hz'
  rw [List.length_append] at hrun hO'
  refine ⟨A', c', w', hrun, ⟨hO', ?_⟩, hB', hk⟩
  obtain ⟨ad, ea, _, hcell⟩ := hh (by simp)
  injection ea with ea
  subst ea
  have hql : (flat qs).length = 1 * 2 := by rw [flat_len, hq.len]; rfl
  have hqs := flat_slice hq
  obtain ⟨vs, hown, hv⟩ := hO
  have hvs := flat_slice hv
  have hvl : (flat vs).length = ts.length * 2 := hown.1
  have hone : ∀ u ∈ flat qs, u.oneCell' = true := fun u hu => by obtain ⟨A, x, y, rfl⟩ := hqs u hu; rfl
  have hzc : (Value.agg #[.slice none 0 0, .slice none 0 0]).cells = #[Value.slice none 0 0, Value.slice none 0 0] := rfl
  intro g hg
  rcases hown.2 with ⟨rfl, h0⟩ | ⟨b, cap, cur, rfl, hbg, hb, hnc, hcm, hcs, htake⟩
  · have hr' := run_append_nil (P := Tryz.prog) w 25 ty 27 i _ Tryz.underlying25 hi hz a 1 c (flat qs) (by rw [h1]; exact hql) hcell (by omega) (by omega) (by rw [h2]; omega)
    rw [List.length_singleton] at hrun
    rw [hr'] at hrun
    injection hrun with e1 e2
    injection e1 with e3 e4 e5
    subst e2 e3
    have hgw : w.heap.size = g := by simpa [Value.ownBlock] using hg
    subst hgw
    refine ⟨_, _, heap_alloc_new w.drew _, fun u hu => ?_⟩
    rw [hzc] at hu
    simp only [Array.toList_append, List.mem_append] at hu
    rcases hu with hu | hu
    · exact hqs u hu
    · exact zero_sl _ u hu
  · by_cases hroom : ts.length + 1 ≤ cap
    · have hr' := run_append_room (P := Tryz.prog) w 25 ty 27 i Tryz.underlying25 hi b ts.length cap cur hb a 1 c (flat qs) (by rw [h1]; exact hql) hcell hone hroom (by rw [h1, hql, hcs]; omega)
      rw [List.length_singleton] at hrun
      rw [hr'] at hrun
      injection hrun with e1 e2
      injection e1 with e3 e4 e5
      subst e2 e3
      have hgw : b = g := by simpa [Value.ownBlock] using hg
      subst hgw
      obtain ⟨cur2, t2, hb2, hsl⟩ := hS b rfl
      rw [hb] at hb2
      injection hb2 with hb2
      injection hb2 with e6 e7 e8
      subst e6
      refine ⟨_, _, setRow_heap w b cur _ _ _ hb, fun u hu => ?_⟩
      simp only [List.append_assoc, List.mem_append] at hu
      rcases hu with hu | hu | hu
      · exact hsl u (List.mem_of_mem_take hu)
      · exact hqs u hu
      · exact hsl u (List.mem_of_mem_drop hu)
    · have holds : ∀ j u, (flat vs)[j]? = some u → w.cell? ((⟨b, 0, none⟩ : Addr).add j) = some u := hown.cells (g := b) rfl
      have hr' := run_append_grow (P := Tryz.prog) w 25 ty 27 i _ Tryz.underlying25 hi hz ⟨b, 0, none⟩ ts.length cap (flat vs) (by rw [h1]; exact hvl) holds a 1 c (flat qs) (by rw [h1]; exact hql) hcell (by omega) (by omega) (growslice_fits (by omega) (by rw [h2]; omega))
      rw [List.length_singleton] at hrun
      rw [hr'] at hrun
      injection hrun with e1 e2
      injection e1 with e3 e4 e5
      subst e2 e3
      have hgw : w.heap.size = g := by simpa [Value.ownBlock] using hg
      subst hgw
      refine ⟨_, _, heap_alloc_new w.drew _, fun u hu => ?_⟩
      rw [hzc] at hu
      simp only [Array.toList_append, List.mem_append] at hu
      rcases hu with (hu | hu) | hu
      · exact hvs u hu
      · exact hqs u hu
      · exact zero_sl _ u hu
/-- append, for the walk: of a tensor whose numbers lie wherever. -/
theorem wpList_appG2 {ops : Array Oper} {rest : List Oper} {o : Oper} {a : Act} {Q : Exit → Act → World → Prop} (hgd : Region.wanted o (yielded ops a.tmps) = true) (s x : Operand)
    (hop : o.op = .call { callee := .builtin .append, args := #[s, x], argTypes := #[25, 25] })
    (v : Value) (hs : a.eval s = v) (ho : RowG B w v ts) (n : Nat) (hn : n = ts.length) (ad : Addr) (c : Nat) (t : T) (hx : a.eval x = .slice (some ad) 1 c) (hr : RdT w (some ad) [t]) (hl : ts.length + 1 ≤ 1000000) (hB : B ≤ w.heap.size)
    (h : ∀ A' c' w', RowG B w' (.slice A' (n + 1) c') (ts ++ [t]) → Below B w w' → (∀ k, k < w.heap.size → some k ≠ v.ownBlock → w'.heap[k]? = w.heap[k]?) → wpList Tryz.prog ops Q rest (a.put o.dst (.slice A' (n + 1) c')) w') : wpList Tryz.prog ops Q (o :: rest) a w := by
  refine BigFrame.wpList_want hgd fun K hK => ?_
  subst hn
  obtain ⟨A', c', w', hrun, h1, h2, h3⟩ := ho.app ad t c hr hl hB o.type
  unfold Oper.wp execOp
  simp only [hop, resolve, invoke, builtin, Sem.run_bind, Sem.run_pure, Result.andThen_ok, List.map_toArray, List.map_cons, List.map_nil, hs, hx, hrun]
  exact hK _ _ (h A' c' w' h1 h2 h3)
end
end Go.Proofs.YtjkdcegmdfmjpaaGreat.Ez
/- The landed vjp: Back. -/
namespace Go.Proofs.YtjkdcegmdfmjpaaGreat.Ez
open Go.RowKit Go.Proofs.ShM Go.Proofs.GrM Go.Proofs.InM Go.Proofs.ImM Go.Proofs.FixM Go.Proofs.EvM Go.Proofs.YtjkdcegmdfmjpaaGreat.Gz
theorem atM_some : ∀ {L : List (Int × Value)} {k : Int}, k ∈ L.map Prod.fst → ∃ v, atM L k = some v ∧ (k, v) ∈ L
 | [], k, h => by cases h
 | (j, v) :: L, k, h => by
  by_cases e : k = j
  · subst e
    exact ⟨v, by simp [atM], by simp⟩
  · have h : k ∈ L.map Prod.fst := by simpa [e] using h
    obtain ⟨u, h1, h2⟩ := atM_some h
    exact ⟨u, by simp [atM, e, h1], by simp [h2]⟩
theorem Md_getN {P : Program} {W : World} {g : Nat} {L : List (Int × Value)} {t kt et : TypeId} (h : Md W g L) (ht : P.underlying t = some (.map kt et)) (hk : P.underlying kt = some (.int .i64)) {z : Value} (hz : (zeroValue et).run P W = .ok z W) {k : Int} (hv : atM L k = none) :
  (Instr.lookup t (.map (some g)) (.int .i64 k) false).run P W = .ok z W := by
 obtain ⟨es, c, hb, e⟩ := h
 obtain ⟨r, q1, q2⟩ := run_findM (P := P) (W := W) hk e k
 rw [hv] at q2
 cases r with
 | none => simp [Instr.lookup, run_underlying ht, MapKept.run_getObj_map hb, MapKept.run_checkKey (n := 9999) hk (show MapKept.IsKey (.int .i64) (.int .i64 k) from rfl), q1, hz, Result.andThen]
 | some x => simp at q2
theorem Md_get {P : Program} {W : World} {g : Nat} {L : List (Int × Value)} {t kt et : TypeId} (h : Md W g L) (ht : P.underlying t = some (.map kt et)) (hk : P.underlying kt = some (.int .i64)) {k : Int} {v : Value} (hv : atM L k = some v) :
  (Instr.lookup t (.map (some g)) (.int .i64 k) false).run P W = .ok v W := by
 obtain ⟨es, c, hb, e⟩ := h
 obtain ⟨r, q1, q2⟩ := run_findM (P := P) (W := W) hk e k
 rw [hv] at q2
 cases r with
 | none => simp at q2
 | some x =>
  have hx : x.2 = v := by simpa using q2
  simp [Instr.lookup, run_underlying ht, MapKept.run_getObj_map hb, MapKept.run_checkKey (n := 9999) hk (show MapKept.IsKey (.int .i64) (.int .i64 k) from rfl), q1, hx, Result.andThen]
theorem rules_zero (W : World) : (zeroValue 55).run Tryz.prog W = .ok (.slice none 0 0) W := by go_simp
theorem look {RU : List Tn} {op : Int} {W0 V : World} {gm : Nat} (h : Fin RU op W0 gm V) (hno : op ∉ KSL → RU = []) :
  ∃ AR, (Instr.lookup 56 (.map (some gm)) (.int .i64 op) false).run Tryz.prog V = .ok (.slice AR RU.length RU.length) V ∧ ∀ (i : Nat) (r : Tn), RU[i]? = some r → ∃ b v, AR = some ⟨b, 0, none⟩ ∧ V.cell? ⟨b, i, none⟩ = some v ∧ Ru W0 V v True r := by
 obtain ⟨L, h1, h2, h3⟩ := h
 by_cases hk : op ∈ KSL
 · obtain ⟨v, e1, e2⟩ := atM_some ((h3 op).2 hk)
   obtain ⟨b, vs, e3, hb, hr⟩ := h2 _ e2
   obtain ⟨e4, hr⟩ := hr rfl
   have e3 : v = .slice (some ⟨b, 0, none⟩) vs.length vs.length := e3
   refine ⟨some ⟨b, 0, none⟩, ?_, fun i r hi => ?_⟩
   · rw [Md_get h1 Tryz.underlying56 Tryz.underlying3 e1, e3, e4]
   · have hi2 : i < vs.length := by rw [e4]; exact (List.getElem?_eq_some_iff.1 hi).1
     exact ⟨b, vs[i], rfl, hb.cell (List.getElem?_eq_getElem hi2), hr i _ r (List.getElem?_eq_getElem hi2) hi⟩
 · rw [hno hk]
   refine ⟨none, ?_, fun i r hi => by simp at hi⟩
   exact Md_getN h1 Tryz.underlying56 Tryz.underlying3 (rules_zero V) (atM_none fun e => hk ((h3 op).1 e))
theorem take_next {RU : List Tn} {k : Nat} {r : Tn} (h : RU[k]? = some r) : (RU.take (k + 1)).map (fun r : Tn => ((r.1, r.2.1) : T)) = (RU.take k).map (fun r => (r.1, r.2.1)) ++ [(r.1, r.2.1)] := by rw [take_of h, List.map_append]; rfl
theorem back_v (op : Int) (nums : List Int) (P Q SS O1 O2 G1 G2 : Option Addr) (n c d ng h o1 o2 g1 g2 : Nat) (ts xs : List T) (o g : T) (err : Int) (x : Nat) (w : World) (hQ : Rd w Q nums) (hS : RdT w SS ts) (hO : TRc w O1 o1 O2 o2 o) (hG : TRc w G1 g1 G2 g2 g) (hd : nums.length ≤ d ∧ d ≤ 9223372036854775807) (hng : ng = ts.length) (hts : SmTs ts) (hso : SmT o) (hsg : SmT g) (hw : W64 nums) (hl : nums.length ≤ 100) (hr : backV op nums ts o g = (xs, err)) (hx : xs.length = x) :
  Calls Tryz.prog 10 #[.agg #[.int .i64 op, .slice P n c, .slice Q nums.length d], .slice SS ng h, .agg #[.slice O1 o.1.length o1, .slice O2 o.2.length o2], .agg #[.slice G1 g.1.length g1, .slice G2 g.2.length g2]] w (RetVp xs err x w) := by
 obtain ⟨w1, hw1⟩ := eX (((w.alloc (.cells #[.int .i64 op, .slice P n c, .slice Q nums.length d] 24)).alloc (.cells #[.slice O1 o.1.length o1, .slice O2 o.2.length o2] 27)).alloc (.cells #[.slice G1 g.1.length g1, .slice G2 g.2.length g2] 27))
 have BN : Hid (Bx w1 w.heap.size [.int .i64 op, .slice P n c, .slice Q nums.length d] 24) := by rw [hw1]; exact ((Bx.new rfl).kp (Kp.alloc_ _ _)).kp (Kp.alloc_ _ _)
 have BO : Hid (Bk w1 (w.heap.size + 1) O1 o.1.length o1 O2 o.2.length o2) := by rw [hw1]; exact (Bk.new (by rw [World.size_alloc])).alloc_ _
 have BG : Hid (Bk w1 (w.heap.size + 1 + 1) G1 g.1.length g1 G2 g.2.length g2) := by rw [hw1]; exact Bk.new (by rw [World.size_alloc, World.size_alloc])
 have K1 : Hid (Kp w w1) := by rw [hw1]; exact ((Kp.alloc_ _ _).tr (Kp.alloc_ _ _)).tr (Kp.alloc_ _ _)
 have HW1 := lH hw1
 have HMI : Hid (∀ V, Kp w V → Calls Tryz.prog 18 #[.agg #[.int .i64 op, .slice P n c, .slice Q nums.length d], .slice SS ng h, .agg #[.slice O1 o.1.length o1, .slice O2 o.2.length o2], .agg #[.slice G1 g.1.length g1, .slice G2 g.2.length g2]] V fun e w' => e = .returned (.int .i64 (misV op nums ts o g)) ∧ Kp V w') := fun V kV =>
  misfit_v op nums P Q SS O1 O2 G1 G2 n c nums.length d ng h o1 o2 g1 g2 ts o g _ V (hQ.kp kV) (hS.kp kV) (hO.kp kV) (hG.kp kV) rfl hd hng hts.1 hw hl rfl
 by_cases hmi : misV op nums ts o g = 0
 ·obtain ⟨FQ, hl2, hno⟩ := fq_of hmi hts hsg
  have hv := back_run (op := op) (nums := nums) (ts := ts) (o := o) (g := g) (.inl hl2)
  rw [hmi, if_neg (by decide), hr] at hv
  rw [hmi] at HMI
  have hru0 : op ∉ KSL → rulV op nums ts o g = [] := fun hn => by unfold rulV; rw [if_pos (by rw [hno hn]; rfl)]
  obtain ⟨RU, hRU⟩ := eX (rulV op nums ts o g)
  rw [← hRU] at FQ hv hru0
  obtain ⟨_, vs, hvs, hcells⟩ := hS
  obtain ⟨A1, a1, A2, a2, B1, b1, B2, b2, hsp, ra, rb⟩ := pairT hvs hl2
  obtain ⟨a, ha⟩ := eX (ts.getD 0 eT)
  obtain ⟨b, hb⟩ := eX (ts.getD 1 eT)
  have HNA : Hid (I64s a.2) := by show I64s a.2; rw [ha]; exact n64_at (fun t ht => (hts.2 t ht).2.2.2) 0
  have HNB : Hid (I64s b.2) := by show I64s b.2; rw [hb]; exact n64_at (fun t ht => (hts.2 t ht).2.2.2) 1
  rw [← ha, ← hb] at hsp FQ
  rw [← ha] at ra
  rw [← hb] at rb
  have HSP := lH hsp
  have HFQ := lH FQ
  have HNO := lH hru0
  have HV := lH hv
  have HJ : Hid (∀ V, Kp w V → Jb V Q A1 A2 B1 B2 O1 O2 G1 G2 d a1 a2 b1 b2 o1 o2 g1 g2 nums a b o g) := fun V kV => ⟨hQ.kp kV, ra.kp kV, rb.kp kV, hO.kp kV, hG.kp kV, HNA.out, HNB.out, hso.2.2.2, hsg.2.2.2⟩
  have HVL : Hid ((flat vs).length = ng * 2) := by show _ = _; rw [flat_len, hvs.len, hng]
  have HMN : Hid (ng = Nat.min ng 2) := by show ng = min ng 2; omega
  have HON : Hid (∀ v ∈ flat vs, v.oneCell' = true) := fun v hv => by
   obtain ⟨A, x, y, rfl⟩ := flat_slice hvs v hv
   rfl
  have HCL : Hid (∀ V, Kp w V → 0 < (flat vs).length → ∃ ad, SS = some ad ∧ ∀ j u, (flat vs)[j]? = some u → V.cell? (ad.add j) = some u) := fun V kV hpos => by
   obtain ⟨ad, e, hlt, hc⟩ := hcells (by rw [flat_len, hvs.len] at hpos; omega)
   exact ⟨ad, e, fun j u hu => (kV.cell (by rw [block_of_add]; exact hlt)).trans (hc j u hu)⟩
  have hs1 : (Tryz.prog.info? 27).map (·.size) = some 2 := by kernel_rfl
  have hRL : Hid (RU.length ≤ 2) := by
   show _ ≤ _
   rw [hRU]; unfold rulV
   split
   · simp
   · split <;> simp
  have HX := lH hx
  clear hw1 hv hQ hO hG hd hng hts hso hsg hw hl hr hmi hl2 hno hru0 FQ hRU hvs hcells hsp ra rb ha hb hx
  go_enter Tryz.func10, Tryz.ntmps10
  go_wp2_with fail
  rw [← HW1.out]
  refine (HMI.out _ K1.out).mono ?_; rintro e0 w2 ⟨rfl, k2⟩
  have K2 := lH (K1.out.tr k2)
  have k12 := lH k2
  have hrow : (w2.alloc (.cells #[.slice none 0 0, .slice none 0 0, .slice none 0 0, .slice none 0 0] 45)).heap[w2.heap.size]? = some (.cells ([.slice none 0 0, .slice none 0 0, .slice none 0 0, .slice none 0 0] : List Value).toArray 45 (0, 0)) := World.alloc_heap_new w2 _
  have hbl : Hid (Below w2.heap.size w2 (w2.alloc (.cells #[.slice none 0 0, .slice none 0 0, .slice none 0 0, .slice none 0 0] 45))) := Kp.alloc_ _ _
  have hpos : Hid (0 < (flat vs).length → ∃ ad, SS = some ad ∧ ∀ j u, (flat vs)[j]? = some u → (w2.alloc (.cells #[.slice none 0 0, .slice none 0 0, .slice none 0 0, .slice none 0 0] 45)).cell? (ad.add j) = some u) := HCL.out _ (K2.out.tr hbl.out)
  have hfit : Hid (0 + (flat vs).length ≤ [Value.slice none 0 0, Value.slice none 0 0, Value.slice none 0 0, Value.slice none 0 0].length) := by show _ ≤ 4; rw [HVL.out]; have h9 : ng = min ng 2 := HMN.out; omega
  clear k2
  dsimp only
  go_wp2_with (refine wpList_copy2 rfl (.tmp 25) (.tmp 26) 25 25 rfl 27 Tryz.underlying25 hs1 _ _ _ _ _ _ rfl rfl w2.heap.size 0 [.slice none 0 0, .slice none 0 0, .slice none 0 0, .slice none 0 0] 45 hrow (flat vs) ng HMN.out HVL.out (fun hp => ⟨rfl, hpos.out hp⟩) hfit.out HON.out w2.heap.size w2 hbl.out (Nat.le_refl _) ?_; intro w4 hg4 hb4; have G4 := lH hg4; have B4 := lH hb4; clear hg4 hb4)
  have K4 : Hid (Kp w2 w4) := B4.out
  have BA : Hid (Bx w4 w2.heap.size [.slice A1 a.1.length a1, .slice A2 a.2.length a2, .slice B1 b.1.length b1, .slice B2 b.2.length b2] 45) := by
   have h9 := G4.out.out
   rw [HSP.out] at h9
   exact h9
  have K14 : Hid (Kp w1 w4) := k12.out.tr K4.out
  have HSS : Hid (∀ V, Kp w4 V → V.cell? ⟨w.heap.size, 0, none⟩ = some (.int .i64 op) ∧ V.cell? ⟨w.heap.size, 1, none⟩ = some (.slice P n c) ∧ V.cell? ⟨w.heap.size, 2, none⟩ = some (.slice Q nums.length d) ∧ V.cell? ⟨w.heap.size + 1, 0, none⟩ = some (.slice O1 o.1.length o1) ∧ V.cell? ⟨w.heap.size + 1, 1, none⟩ = some (.slice O2 o.2.length o2) ∧ V.cell? ⟨w.heap.size + 1 + 1, 0, none⟩ = some (.slice G1 g.1.length g1) ∧ V.cell? ⟨w.heap.size + 1 + 1, 1, none⟩ = some (.slice G2 g.2.length g2) ∧ V.cell? ⟨w2.heap.size, 0, none⟩ = some (.slice A1 a.1.length a1) ∧ V.cell? ⟨w2.heap.size, 1, none⟩ = some (.slice A2 a.2.length a2) ∧ V.cell? ⟨w2.heap.size, 2, none⟩ = some (.slice B1 b.1.length b1) ∧ V.cell? ⟨w2.heap.size, 3, none⟩ = some (.slice B2 b.2.length b2)) := fun V kV => ⟨(BN.out.kp (K14.out.tr kV)).cell (j := 0) rfl, (BN.out.kp (K14.out.tr kV)).cell (j := 1) rfl, (BN.out.kp (K14.out.tr kV)).cell (j := 2) rfl, (BO.out.kp (K14.out.tr kV)).c0, (BO.out.kp (K14.out.tr kV)).c1, (BG.out.kp (K14.out.tr kV)).c0, (BG.out.kp (K14.out.tr kV)).c1, (BA.out.kp kV).cell (j := 0) rfl, (BA.out.kp kV).cell (j := 1) rfl, (BA.out.kp kV).cell (j := 2) rfl, (BA.out.kp kV).cell (j := 3) rfl⟩
  have HJ4 : Hid (∀ V, Kp w4 V → Jb V Q A1 A2 B1 B2 O1 O2 G1 G2 d a1 a2 b1 b2 o1 o2 g1 g2 nums a b o g) := fun V kV => HJ.out V ((K1.out.tr K14.out).tr kV)
  clear hrow hs1 G4
  go_wp2_with fail
  refine wp_region_held_drew (S := fun V => V.cell? ⟨w.heap.size, 0, none⟩ = some (.int .i64 op) ∧ V.cell? ⟨w.heap.size, 1, none⟩ = some (.slice P n c) ∧ V.cell? ⟨w.heap.size, 2, none⟩ = some (.slice Q nums.length d) ∧ V.cell? ⟨w.heap.size + 1, 0, none⟩ = some (.slice O1 o.1.length o1) ∧ V.cell? ⟨w.heap.size + 1, 1, none⟩ = some (.slice O2 o.2.length o2) ∧ V.cell? ⟨w.heap.size + 1 + 1, 0, none⟩ = some (.slice G1 g.1.length g1) ∧ V.cell? ⟨w.heap.size + 1 + 1, 1, none⟩ = some (.slice G2 g.2.length g2) ∧ V.cell? ⟨w2.heap.size, 0, none⟩ = some (.slice A1 a.1.length a1) ∧ V.cell? ⟨w2.heap.size, 1, none⟩ = some (.slice A2 a.2.length a2) ∧ V.cell? ⟨w2.heap.size, 2, none⟩ = some (.slice B1 b.1.length b1) ∧ V.cell? ⟨w2.heap.size, 3, none⟩ = some (.slice B2 b.2.length b2)) (by kernel_rfl) (HSS.out _ (Below.drew (Kp.refl _))) (fun hHeld => ?_)
  have X4 : Hid (Kp w4 w4.drew) := Below.drew (Kp.refl _)
  generalize w4.drew = V0 at X4 hHeld ⊢
  refine tK 0 (.agg #[.int .i64 op, .slice P n c, .slice Q nums.length d]) rfl hHeld <| tK 1 (.pointer (some ⟨w2.heap.size, 0, none⟩)) rfl hHeld <| tK 2 (.agg #[.slice A1 a.1.length a1, .slice A2 a.2.length a2]) rfl hHeld <| tK 3 (.pointer (some ⟨w2.heap.size, 2, none⟩)) rfl hHeld <| tK 4 (.agg #[.slice B1 b.1.length b1, .slice B2 b.2.length b2]) rfl hHeld <| tK 5 (.agg #[.slice O1 o.1.length o1, .slice O2 o.2.length o2]) rfl hHeld <| tK 6 (.agg #[.slice G1 g.1.length g1, .slice G2 g.2.length g2]) rfl hHeld <| tK 7 (.agg #[.int .i64 op, .slice P n c, .slice Q nums.length d, .slice A1 a.1.length a1, .slice A2 a.2.length a2, .slice B1 b.1.length b1, .slice B2 b.2.length b2, .slice O1 o.1.length o1, .slice O2 o.2.length o2, .slice G1 g.1.length g1, .slice G2 g.2.length g2]) rfl hHeld <| tK 9 (.pointer (some ⟨w.heap.size, 0, none⟩)) rfl hHeld <| tK 10 (.int .i64 op) rfl hHeld <| tK 13 (.int .i64 0) rfl hHeld ?_
  refine rD 8 rfl fun K9_ hK => ?_
  go_simp
  refine (rules_v (HJ4.out _ X4.out) HFQ.out).mono ?_; rintro e5 w5 ⟨gm, W0, rfl, hfi, kW0, k05⟩
  dsimp only
  have X5 : Hid (Kp w4 w5) := X4.out.tr (kW0.out.tr k05.out)
  obtain ⟨AR, hlk, hel⟩ := look hfi.out HNO.out
  have HEL := lH hel
  have K05 := lH k05.out
  have hS5 := HSS.out _ X5.out
  clear hfi hel kW0 k05
  refine hK.out _ _ (hS5) fun hHeld => ?_
  clear hK
  refine rD 11 rfl fun K9_ hK => ?_
  go_simp
  refine hK.out _ _ (hS5) fun hHeld => ?_
  clear hK
  refine rD 12 rfl fun K9_ hK => ?_
  go_simp
  refine hK.out _ _ (hS5) fun hHeld => ?_
  clear hK
  refine wpAnyH_done (by kernel_rfl) ?_ _
  clear hHeld hS5 hlk
  go_wp2_with fail
  obtain ⟨nR, hnR⟩ := eX RU.length
  rw [← hnR] at hRL ⊢
  have HNR := lH hnR
  have hR2 : nR ≤ 2 := hRL.out
  clear hnR
  go_loopw [12, 41] (fun v i wx => ∃ k : Nat, ∃ gs : List T, Hid (RowG w5.heap.size wx v gs) ∧ i = .int .i64 (k : Int) ∧ Hid (k ≤ nR) ∧ Hid (gs = (RU.take k).map (fun r => (r.1, r.2.1))) ∧ Hid (∀ j q, j < k → RU[j]? = some q → q.2.2 = 0) ∧ Hid (Kp w5 wx)) (fun _ i _ => nR - (intOf i).toNat)
  case atStart => exact ⟨0, [], RowG.nil_ _ _, rfl, Nat.zero_le _, rfl, fun j q hj => absurd hj (Nat.not_lt_zero j), Kp.refl _⟩
  case round =>
   obtain ⟨k, gs, hG, rfl, hk, hgs, hok, hKx⟩ := hrel
   obtain ⟨wo, hwo⟩ := eX (wr)
   subst hwo
   have hgl : Hid (gs.length = k) := by show _ = _; rw [hgs.out, List.length_map, List.length_take]; have := hk.out; have := HNR.out; omega
   obtain ⟨A8, c8, rfl, hR8, hc81, hc82⟩ := hG.out.1.form
   have HR8 := lH hR8
   have HC8 := lH (And.intro hc81 hc82)
   clear hR8 hc81 hc82
   by_cases hj : k < nR
   ·have hj' : (k : Int) < (nR : Int) := by omega
    have hk0 : (0 : Int) ≤ (k : Int) := by omega
    obtain ⟨r, hr⟩ : ∃ r, RU[k]? = some r := ⟨_, List.getElem?_eq_getElem (by have := HNR.out; omega)⟩
    obtain ⟨bb, u, hAR, hcell, f, L, hu, hcf, hcl⟩ := HEL.out k r hr
    have HRR := lH hr
    subst hAR hu
    have z0 := Iz.kp_cell hcell hKx.out
    have HCL9 := lH (hcl wo trivial (K05.out.tr hKx.out) (Kc.kp hKx.out))
    clear hr hcell hcl
    by_cases he : r.2.2 = 0
    · have HE := lH he
      have HOK : Hid (∀ j q, j < k + 1 → RU[j]? = some q → q.2.2 = 0) := fun j q hj' hq => by
       by_cases e : j = k
       · subst e; rw [HRR.out] at hq; injection hq with hq; subst hq; exact HE.out
       · exact hok.out j q (by omega) hq
      clear he
      go_wp2_with fail
      refine HCL9.out.mono ?_; rintro e7 w7 ⟨A6, c6, B6, d6, rfl, s6, t6, k6⟩
      have K7 := lH (hKx.out.tr k6)
      have HX3 : Hid (∀ o ty, RdT ((w7.alloc o).alloc (.cells #[.slice A6 r.1.length c6, .slice B6 r.2.1.length d6] ty)) (some ⟨w7.heap.size + 1, 0, none⟩) [((r.1, r.2.1) : T)]) := fun o ty => by
       have hx := RdX.one (X := fun _ => True) (t := ((r.1, r.2.1) : T)) (TR.kp ⟨s6.rd, t6.rd⟩ (Kp.alloc_ w7 o)) (fun _ _ _ => trivial) (fun _ _ _ => trivial) ⟨s6.le, s6.cap⟩ ⟨t6.le, t6.cap⟩ ty
       rw [World.size_alloc] at hx
       exact hx
      have G7 := lH (hG.out.kp k6)
      have HSZ : Hid (w5.heap.size ≤ w7.heap.size) := K7.out.size
      clear k6 s6 t6 z0
      rw [HE.out]
      dsimp only
      go_wp2_with (at_builtin; refine wpList_appG2 (B := w5.heap.size) rfl (.tmp 53) (.tmp 55) rfl _ rfl ((G7.out.kp (Kp.alloc_ _ _)).kp (Kp.alloc_ _ _)) gs.length rfl _ 1 (r.1, r.2.1) rfl (HX3.out _ _) (by have := hgl.out; omega) (by have := HSZ.out; simp; omega) ?_; intro A9 c9 w9 o9 b9 _; have O9 := lH o9; have K9 : Hid (Kp w5 w9) := (gal (gal K7.out _) _).trans b9; clear o9 b9)
      go_roundw
      case rel => exact ⟨k + 1, _, O9.out, by go_num, (by show k + 1 ≤ nR; omega), (by show _ = _; rw [take_next HRR.out, hgs.out]), HOK.out, K9.out⟩
      case measure => simp [intOf]; omega
    · have he' : (r.2.2 != 0) = true := by simpa using he
      have hb : Hid ((xs, err) = ([], r.2.2)) := HV.out.trans (run_bad hok.out HRR.out he)
      clear he
      go_wp2_with fail
      refine HCL9.out.mono ?_; rintro e7 w7 ⟨A6, c6, B6, d6, rfl, s6, t6, k6⟩
      have K7 := lH (hKx.out.tr k6)
      clear k6 s6 t6 z0
      dsimp only
      go_wp2
      refine bodyPost_ret (v := .tuple #[.slice none 0 0, .int .i64 r.2.2]) (by simp [results, Tryz.results10, go_sem]; try rfl) rfl ?_
      obtain ⟨e1, e2⟩ := Prod.mk.inj hb.out
      have e3 : x = 0 := by rw [← HX.out, e1]; rfl
      rw [e1, e2, e3]
      exact ⟨none, 0, rfl, RdX.nil_ _ _ _, ⟨Nat.le_refl _, by omega⟩, ((K1.out.tr K14.out).tr X5.out).tr (K7.out.tr ((Kp.alloc_ _ _)))⟩
   ·have hj' : ¬ (k : Int) < (nR : Int) := by omega
    have hb : Hid ((xs, err) = (gs, 0)) := by
     show _ = _
     have hkn : k = RU.length := by have := hk.out; have := HNR.out; omega
     rw [HV.out, run_ok fun j q hq => hok.out j q (by rw [hkn]; exact (List.getElem?_eq_some_iff.1 hq).1) hq, hgs.out, hkn, List.take_length]
    go_wp2
    refine bodyPost_ret (v := .tuple #[.slice A8 gs.length c8, .int .i64 0]) (by simp [results, Tryz.results10, go_sem]; try rfl) rfl ?_
    obtain ⟨e1, e2⟩ := Prod.mk.inj hb.out
    have e3 : x = gs.length := by rw [← HX.out, e1]
    rw [e1, e2, e3]
    exact ⟨A8, c8, rfl, HR8.out, HC8.out, ((K1.out.tr K14.out).tr X5.out).tr hKx.out⟩
 ·have hv := back_run (op := op) (nums := nums) (ts := ts) (o := o) (g := g) (.inr hmi)
  rw [if_pos hmi, hr] at hv
  obtain ⟨m, hm⟩ := eX (misV op nums ts o g)
  rw [← hm] at hv hmi HMI
  have h9 : (m != 0) = true := by simpa using hmi
  have HV := lH hv
  have HX := lH hx
  clear hw1 hv hQ hS hO hG hd hng hts hso hsg hw hl hr hmi hm hx
  go_enter Tryz.func10, Tryz.ntmps10
  go_wp2_with fail
  rw [← HW1.out]
  refine (HMI.out _ K1.out).mono ?_; rintro e0 w2 ⟨rfl, k2⟩
  have K2 := lH (K1.out.tr k2)
  clear k2
  go_wp2
  refine bodyPost_ret (v := .tuple #[.slice none 0 0, .int .i64 m]) (by simp [results, Tryz.results10, go_sem]; try rfl) rfl ?_
  obtain ⟨e1, e2⟩ := Prod.mk.inj HV.out
  have e3 : x = 0 := by rw [← HX.out, e1]; rfl
  rw [e1, e2, e3]
  exact ⟨none, 0, rfl, RdX.nil_ _ _ _, ⟨Nat.le_refl _, by omega⟩, K2.out⟩
end Go.Proofs.YtjkdcegmdfmjpaaGreat.Ez
/- Layer 14: the program's calls, as the laws ask for them. -/
namespace Go.Proofs.YtjkdcegmdfmjpaaGreat
open Go.RowKit Go.Proofs.ShM Go.Proofs.GrM Go.Proofs.InM Go.Proofs.ImM Go.Proofs.EvM
theorem vjc : VjC where
 node := fun A B P Q R S n m c d a b e f g h k d2 nd t u ts ps err x y W hA hB hn hm hc hd hn1 hm1 hN hS hl1 hl2 hts hg hT hs ha hb hR _ _ hps hk hr hx hy => by
  have h9 := Ez.node_e nd.1 nd.2.2 A B S P Q R n c m d g h a e b f k d2 ts ps t (u, err) W hB hS ⟨hT.r, hT.c1, hT.c2⟩ hR hm hd hg hts.1 hN.2.2 (by omega) (fun t ht => (hts.2 t ht).2.2.2) ha hb hk hr
  refine h9.mono fun e0 w' g9 => ?_
  obtain ⟨A1, c1, B1, d1, e1, s1, s2, kp⟩ := g9
  subst hx hy
  exact ⟨A1, c1, B1, d1, e1, ⟨⟨s1.out.rd, s2.out.rd⟩, ⟨s1.out.le, s1.out.cap⟩, ⟨s2.out.le, s2.out.cap⟩⟩, kp.out⟩
 back := fun A B P Q P2 Q2 S n m c d a b e f a2 b2 e2 f2 g h nd out u ts xs err x W hA hB hn hm hc hd hn1 hm1 hN hS hl1 hl2 hts hg hT hs ha hb hT2 hs2 ha2 hb2 hr hx => by
  subst hm ha hb ha2 hb2
  exact Ez.back_v nd.1 nd.2.2 A B S P Q P2 Q2 n c d g h e f e2 f2 ts xs out u err x W hB hS hT hT2 hd hg hts hs hs2 hN.2.2 hm1 hr hx
 full := fun A c m s n u x y W hA hm hr hx hy => by
  subst hm hx hy
  have h9 := full_any A c s n W hA
  rw [hr] at h9
  refine h9.mono fun e0 w' g9 => ?_
  obtain ⟨A1, c1, B1, d1, e1, s1, s2, kp⟩ := g9
  exact ⟨A1, c1, B1, d1, e1, ⟨⟨s1.rd, s2.rd⟩, ⟨s1.le, s1.cap⟩, ⟨s2.le, s2.cap⟩⟩, kp⟩
open Go.ChangeShapes Go.WideShapes Go.ChangeAt Go.RowKit Go.Proofs.ShM
theorem laid_out : laidOutB Tryz.prog = true := by kernel_rfl
section
variable {H : Type} {enc : TypeId × Value → H}
/-- All arguments read as they did, through the same places. -/
theorem all_stays {W W' : World} (hb : Below W.heap.size W W') : ∀ (ts : List TypeId) (vs : List Value) (ds : List (DataW H)) (ps : List MemPlace), (ts.all fun t => Tryz.prog.readableRec t && decide (t < Tryz.prog.types.size)) = true →
    DataW.TrodAll enc Tryz.prog W 0 (fun _ => true) true ts vs ds ps → (∀ x ∈ ps, x.block < W.heap.size) → DataW.TrodAll enc Tryz.prog W' 0 (fun b => decide (b < W.heap.size)) true ts vs ds ps := by
  intro ts
  induction ts with
  | nil =>
    intro vs ds ps _ h _
    obtain ⟨rfl, rfl, rfl⟩ := trodAll_nil h
    exact trodAll_mk0
  | cons t ts ih =>
    intro vs ds ps hr h hlt
    obtain ⟨v, vs', d, ds', p, q, rfl, rfl, rfl, h1, h2⟩ := trodAll_cons h
    simp only [List.all_cons, Bool.and_eq_true, decide_eq_true_eq] at hr
    exact trodAll_cons_mk (Below.trod laid_out hr.1.1 hr.1.2 h1 hb fun x hx => hlt x (by simp [hx])) (ih _ _ _ hr.2 h2 fun x hx => hlt x (by simp [hx]))
end
end Go.Proofs.YtjkdcegmdfmjpaaGreat
