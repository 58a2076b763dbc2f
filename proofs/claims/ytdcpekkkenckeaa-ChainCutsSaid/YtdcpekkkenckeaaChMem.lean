/- A []api.Version: three cells each, as a node's; one of the call's own: appended to. -/
import Derived.Test.YtdcpekkkenckeaaChM
namespace Go.Proofs.Ytdcpekkkenckeaa
open Go.RowKit Go.Proofs.ShM Go.Proofs.GrM Go.Proofs.ImM Go.Proofs.ChM
set_option linter.unusedVariables false
set_option maxRecDepth 100000

theorem ver_info : (Try.prog.info? 41).map (fun i => (i.zero, i.size, i.bytes)) = some (some (.agg #[.int .i64 0, .slice none 0 0, .slice none 0 0]), 3, 56) := by kernel_rfl
/-- A tensor that lies in memory, with room. -/
structure TRm (w : World) (P : Option Addr) (c : Nat) (Q : Option Addr) (d : Nat) (t : T) : Prop where
  r : TR w P t.1 Q t.2
  c1 : t.1.length ≤ c ∧ c ≤ 9223372036854775807
  c2 : t.2.length ≤ d ∧ d ≤ 9223372036854775807
theorem TRm.kp {w w' : World} {P Q : Option Addr} {c d : Nat} {t : T} (h : TRm w P c Q d t) (k : Kp w w') : TRm w' P c Q d t := ⟨h.r.kp k, h.c1, h.c2⟩
/-- What is read at a place: the version's three cells, and its tensor. -/
theorem RdN.atv {w : World} {X : Nat → Prop} {A : Option Addr} {l : List Nd} (h : RdN w X A l) {k : Nat} (hk : k < l.length) : ∃ ad P c Q d, A = some ad ∧ ad.block < w.heap.size ∧ w.cell? (ad.add (k * 3)) = some (.int .i64 (l.getD k nd0).1) ∧ w.cell? ⟨(ad.add (k * 3)).block, (ad.add (k * 3)).off + 1, none⟩ = some (.slice P (l.getD k nd0).2.1.length c) ∧ w.cell? ⟨(ad.add (k * 3)).block, (ad.add (k * 3)).off + 2, none⟩ = some (.slice Q (l.getD k nd0).2.2.length d) ∧ TRm w P c Q d (l.getD k nd0).2 := by
  obtain ⟨ad, t, P, c, Q, d, e, hb, ht, h1, h2, h3, r, c1, c2⟩ := h.at_ hk
  rw [getN ht]
  exact ⟨ad, P, c, Q, d, e, hb, h1, h2, h3, ⟨⟨r.ra, r.rn⟩, c1, c2⟩⟩

/-- The value is a []api.Version of the call's own (its row lies from block B on), whose lists lie elsewhere: the nodes ts. -/
def OwnV (B : Nat) (w : World) (v : Value) (ts : List Nd) : Prop := ∃ vs, w.ownsRow B 41 3 v ts.length (flatN vs) ∧ AllN w (fun k => v.ownBlock ≠ some k) vs ts
section
variable {w w' : World} {B : Nat} {v : Value} {ts us : List Nd} {A : Option Addr}
theorem OwnV.nil_ (w : World) (B : Nat) : OwnV B w (.slice none 0 0) [] := ⟨[], World.ownsRow_nil w B _ 3, AllN.nil_ _ _⟩
theorem OwnV.from_ (h : OwnV B w v ts) {k : Nat} (hk : v.ownBlock = some k) : B ≤ k := by
  obtain ⟨vs, h, _⟩ := h
  rcases h.2 with ⟨rfl, _⟩ | ⟨g, cap, cur, rfl, hb, _⟩
  · cases hk
  · have : g = k := by simpa [Value.ownBlock] using hk
    omega
theorem OwnV.row_lt (h : OwnV B w v ts) {k : Nat} (hk : v.ownBlock = some k) : k < w.heap.size := by
  obtain ⟨vs, h, _⟩ := h
  rcases h.2 with ⟨rfl, _⟩ | ⟨g, cap, cur, rfl, _, hh, _⟩
  · cases hk
  · have : g = k := by simpa [Value.ownBlock] using hk
    subst this
    exact (Array.getElem?_eq_some_iff.1 hh).1
theorem OwnV.kp (h : OwnV B w v ts) (k : Kp w w') : OwnV B w' v ts := by
  have hr := fun k => h.row_lt (k := k)
  obtain ⟨vs, ⟨h1, h2⟩, hv⟩ := h
  refine ⟨vs, ⟨h1, ?_⟩, hv.mono k fun _ _ x => x⟩
  rcases h2 with h0 | ⟨g, cap, cur, rfl, hb, hg, r⟩
  · exact .inl h0
  · exact .inr ⟨g, cap, cur, rfl, hb, (k.block g (hr g rfl)).trans hg, r⟩
theorem OwnV.form (h : OwnV B w v ts) : ∃ A c, v = .slice A ts.length c ∧ RdG w A ts ∧ ts.length ≤ c ∧ c ≤ 9223372036854775807 := by
  obtain ⟨vs, ho, hv⟩ := h
  have ho' := ho
  rcases ho.2 with ⟨rfl, h0⟩ | ⟨g, cap, cur, rfl, _, hh, hn, hc, hcs, ht⟩
  · have : ts = [] := List.eq_nil_of_length_eq_zero h0
    subst this
    exact ⟨none, 0, rfl, RdN.nil_ _ _ _, by simp, by simp⟩
  · have hc' : cap ≤ 9223372036854775807 := by unfold maxLen at hc; omega
    refine ⟨_, cap, rfl, ⟨by omega, vs, hv.mono (Kp.refl _) (fun _ _ _ => trivial), fun hp => ⟨_, rfl, (Array.getElem?_eq_some_iff.1 hh).1, fun j u hu => ?_⟩⟩, hn, hc'⟩
    have hj : j < ts.length * 3 := by have := (List.getElem?_eq_some_iff.1 hu).1; rw [flatN_len, hv.len] at this; exact this
    rw [Go.WideShapes.add_plain, Nat.zero_add, World.ownsRow.cellAt ho' j hj]
    exact hu
theorem OwnV.zero (w : World) (hB : B ≤ w.heap.size) : OwnV B (w.alloc (.cells #[] 41)) (.slice (some ⟨w.heap.size, 0, none⟩) 0 0) [] :=
  ⟨[], World.ownsRow_lit (base := B) (e := 41) (size := 3) w #[] 0 hB (by simp) (by simp), AllN.nil_ _ _⟩
/-- What append leaves. -/
theorem run_appV (ho : OwnV B w v ts) (c : Nat) (hr : RdN w (fun k => v.ownBlock ≠ some k) A us) (hs : ts.length + us.length ≤ 1000000) (hB : B ≤ w.heap.size) (ty : TypeId) :
    ∃ zs A' c' w', zs = ts ++ us ∧ (Builtin.append_ #[22, 22] ty #[v, .slice A us.length c]).run Try.prog w = .ok (.slice A' zs.length c') w' ∧ OwnV B w' (.slice A' zs.length c') zs ∧ Below B w w' ∧ (∀ k, k < w.heap.size → some k ≠ v.ownBlock → w'.heap[k]? = w.heap[k]?) := by
  obtain ⟨i, hi, hz, h1, h2⟩ := info_parts ver_info
  have hfrom := fun k => ho.from_ (k := k)
  obtain ⟨vs, hown, hv⟩ := ho
  obtain ⟨_, qs, hq, hh⟩ := hr
  have fin : ∀ (ad : Addr) (news : List Value) (m : Nat), news = flatN qs → m = us.length → (∀ j u, news[j]? = some u → w.cell? (ad.add j) = some u) →
      ∃ zs A' c' w', zs = ts ++ us ∧ (Builtin.append_ #[22, 22] ty #[v, .slice (some ad) m c]).run Try.prog w = .ok (.slice A' zs.length c') w' ∧ OwnV B w' (.slice A' zs.length c') zs ∧ Below B w w' ∧ (∀ k, k < w.heap.size → some k ≠ v.ownBlock → w'.heap[k]? = w.heap[k]?) := by
    intro ad news m hnews hm hc
    subst hnews hm
    obtain ⟨v', w', hrun, hown2, hg, _, hrow⟩ := run_append_own_at (P := Try.prog) w B 22 ty 41 i _ 3 56 Try.underlying22 hi hz h1 h2 rfl (by omega) _ _ _ hown ad us.length c (flatN qs) (by rw [flatN_len, hq.len]) hc
      (fun u hu => by
        unfold flatN at hu
        rw [List.mem_flatMap] at hu
        obtain ⟨p, hp, hu⟩ := hu
        obtain ⟨j, hj⟩ := List.mem_iff_getElem?.1 hp
        have hjl : j < us.length := by have := (List.getElem?_eq_some_iff.1 hj).1; rw [hq.len] at this; exact this
        obtain ⟨P, c1, Q, d1, ep, _⟩ := hq.at_ j p _ hj (List.getElem?_eq_getElem hjl)
        rw [ep] at hu
        simp at hu
        rcases hu with rfl | rfl | rfl <;> rfl) (by unfold maxLen; omega) (by omega) hB
    have hv2 : AllN w' (fun k => v'.ownBlock ≠ some k) (vs ++ qs) (ts ++ us) := by
      have hY : ∀ k, k < w.heap.size → v.ownBlock ≠ some k → v'.ownBlock ≠ some k := by
        intro k hk hne
        rcases hrow with hrow | hrow
        · rw [hrow]; exact hne
        · rw [hrow]; intro e; injection e with e; omega
      have a1 : AllN w' (fun k => v'.ownBlock ≠ some k) vs ts := ⟨hv.len, fun j p t g1 g2 => grown_n hg (hv.at_ j p t g1 g2) hY⟩
      have a2 : AllN w' (fun k => v'.ownBlock ≠ some k) qs us := ⟨hq.len, fun j p t g1 g2 => grown_n hg (hq.at_ j p t g1 g2) hY⟩
      exact a1.app a2
    have ho2 : OwnV B w' v' (ts ++ us) := ⟨vs ++ qs, by rw [List.length_append, flatN_append]; exact hown2, hv2⟩
    obtain ⟨A2, c2, rfl, _⟩ := ho2.form
    exact ⟨ts ++ us, A2, c2, w', rfl, hrun, ho2, (Below.refl _ _).grown hg hB (fun k hk => hfrom k hk), fun k hk hne => hg.block k hk hne⟩
  by_cases hy : us = []
  · subst hy
    have hqn : qs = [] := List.eq_nil_of_length_eq_zero (by rw [hq.len]; rfl)
    subst hqn
    cases A with
    | none =>
      have ho2 : OwnV B w v ts := ⟨vs, hown, hv⟩
      obtain ⟨A', c', rfl, _⟩ := ho2.form
      refine ⟨ts, A', c', w, by simp, ?_, ho2, Below.refl _ _, fun _ _ _ => rfl⟩
      have ht := run_underlying (P := Try.prog) (w := w) Try.underlying22
      rcases hown.2 with ⟨e, h0⟩ | ⟨g, cap, cur, e, _, _, hn, _⟩
      · injection e with e1 e2 e3
        subst e1 e3
        rw [e2]
        simp [Builtin.append_, ht, sizeOf, typeInfo, hi, Builtin.lenOf, Builtin.firstCells]
      · injection e with e1 e2 e3
        subst e1 e3
        simp [Builtin.append_, ht, sizeOf, typeInfo, hi, Builtin.lenOf, Builtin.firstCells, hn, storeCells]
    | some ad => exact fin ad [] 0 rfl rfl (by simp)
  · obtain ⟨ad, rfl, _, hc⟩ := hh (List.length_pos_iff.2 hy)
    exact fin ad (flatN qs) us.length rfl rfl hc
/-- append, for the walk. -/
theorem wpList_appV {ops : Array Oper} {rest : List Oper} {o : Oper} {a : Act} {Q : Exit → Act → World → Prop} (hgd : Region.wanted o (yielded ops a.tmps) = true) (s x : Operand)
    (hop : o.op = .call { callee := .builtin .append, args := #[s, x], argTypes := #[22, 22] })
    (v : Value) (ts : List Nd) (hs : a.eval s = v) (ho : OwnV B w v ts) (A : Option Addr) (c : Nat) (us : List Nd) (n : Nat) (hx : a.eval x = .slice A n c) (hn : n = us.length) (hr : RdN w (fun k => v.ownBlock ≠ some k) A us)
    (hl : ts.length + us.length ≤ 1000000) (hB : B ≤ w.heap.size)
    (h : ∀ zs A' c' w', Hid (zs = ts ++ us) → OwnV B w' (.slice A' zs.length c') zs → Below B w w' → (∀ k, k < w.heap.size → some k ≠ v.ownBlock → w'.heap[k]? = w.heap[k]?) → wpList Try.prog ops Q rest (a.put o.dst (.slice A' zs.length c')) w') : wpList Try.prog ops Q (o :: rest) a w := by
  refine BigFrame.wpList_want hgd fun K hK => ?_
  subst hn
  obtain ⟨zs, A', c', w', e, hrun, h1, h2, h3⟩ := run_appV ho c hr hl hB o.type
  unfold Oper.wp execOp
  simp only [hop, resolve, invoke, builtin, Sem.run_bind, Sem.run_pure, Result.andThen_ok, List.map_toArray, List.map_cons, List.map_nil, hs, hx, hrun]
  exact hK _ _ (h zs A' c' w' e h1 h2 h3)
end
end Go.Proofs.Ytdcpekkkenckeaa
