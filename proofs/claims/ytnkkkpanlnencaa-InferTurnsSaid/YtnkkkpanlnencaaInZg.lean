/- A []api.Node of the call's own beside a []int that grows, too: appended to, by turns. -/
import Derived.Test.YtnkkkpanlnencaaInZf
import Derived.Test.YtnkkkpanlnencaaGrZf
namespace Go.Proofs.Ytnkkkpanlnencaa.Iz
open Go.RowKit Go.Proofs.ShM Go.Proofs.GrM Go.Proofs.InM Go.Proofs.Ytnkkkpanlnencaa.Gz
set_option linter.unusedVariables false
set_option maxRecDepth 100000

/-- The value is a []api.Node of the call's own, whose lists lie elsewhere, in blocks of X: the nodes ts. -/
def OwnY (B : Nat) (X : Nat → Prop) (w : World) (v : Value) (ts : List Nd) : Prop := ∃ vs, w.ownsRow B 25 3 v ts.length (flatN vs) ∧ AllN w (fun k => X k ∧ v.ownBlock ≠ some k) vs ts
section
variable {w w' : World} {B : Nat} {X Y : Nat → Prop} {v : Value} {ts us : List Nd} {A : Option Addr}
theorem OwnY.own (h : OwnY B X w v ts) : OwnN B w v ts := by
  obtain ⟨vs, h, hv⟩ := h
  exact ⟨vs, h, hv.mono (Kp.refl _) fun _ _ x => x.2⟩
theorem OwnY.nil_ (w : World) (B : Nat) (X : Nat → Prop) : OwnY B X w (.slice none 0 0) [] := ⟨[], World.ownsRow_nil w B _ 3, AllN.nil_ _ _⟩
theorem OwnY.kp (h : OwnY B X w v ts) (k : Kp w w') : OwnY B X w' v ts := by
  have hr := fun k => h.own.row_lt (k := k)
  obtain ⟨vs, ⟨h1, h2⟩, hv⟩ := h
  refine ⟨vs, ⟨h1, ?_⟩, hv.mono k fun _ _ x => x⟩
  rcases h2 with h0 | ⟨g, cap, cur, rfl, hb, hg, r⟩
  · exact .inl h0
  · exact .inr ⟨g, cap, cur, rfl, hb, (k.block g (hr g rfl)).trans hg, r⟩
theorem grown_y {row : Option Nat} {p : V3} {t : Nd} (hg : w.grownBy w' row) (h : Vn w (fun k => X k ∧ row ≠ some k) p t) (hY : ∀ k, k < w.heap.size → X k → row ≠ some k → Y k) : Vn w' Y p t := by
  obtain ⟨A, c, B, d, e, c1, c2, d1, d2, r⟩ := h
  refine ⟨A, c, B, d, e, c1, c2, d1, d2, ⟨grown_rd hg r.ra (fun ad h1 h2 => (r.xa ad h1 h2).2), grown_rd hg r.rn (fun ad h1 h2 => (r.xn ad h1 h2).2), fun ad h1 h2 => hY _ ?_ (r.xa ad h1 h2).1 (r.xa ad h1 h2).2, fun ad h1 h2 => hY _ ?_ (r.xn ad h1 h2).1 (r.xn ad h1 h2).2⟩⟩
  · obtain ⟨ad', e', hb, _⟩ := r.ra.2 h2; rw [h1] at e'; injection e' with e'; subst e'; exact hb
  · obtain ⟨ad', e', hb, _⟩ := r.rn.2 h2; rw [h1] at e'; injection e' with e'; subst e'; exact hb
/-- Another row has grown. -/
theorem OwnY.grown {row : Option Nat} (h : OwnY B X w v ts) (hg : w.grownBy w' row) (hne : ∀ g, v.ownBlock = some g → row ≠ some g) (hX : ∀ k, k < w.heap.size → X k → row ≠ some k) (hY : ∀ k, k < w.heap.size → X k → Y k) : OwnY B Y w' v ts := by
  have hr := fun k => h.own.row_lt (k := k)
  obtain ⟨vs, ⟨h1, h2⟩, hv⟩ := h
  refine ⟨vs, ⟨h1, ?_⟩, hv.len, fun j p t e1 e2 => ?_⟩
  · rcases h2 with h0 | ⟨g, cap, cur, rfl, hb, hgk, r⟩
    · exact .inl h0
    · exact .inr ⟨g, cap, cur, rfl, hb, (hg.block g (hr g rfl) (fun e => hne g rfl e.symm)).trans hgk, r⟩
  · have hm := (hv.at_ j p t e1 e2).mono (Kp.refl w) (Y := fun k => (X k ∧ v.ownBlock ≠ some k) ∧ row ≠ some k) (fun k hk x => ⟨x, hX k hk x.1⟩)
    exact grown_y hg hm (fun k hk x _ => ⟨hY k hk x.1, x.2⟩)
/-- What append leaves. -/
theorem run_appY (ho : OwnY B X w v ts) (c : Nat) (hr : RdN w (fun k => X k ∧ v.ownBlock ≠ some k) A us) (hus : 0 < us.length) (hs : ts.length + us.length ≤ 1000000) (hB : B ≤ w.heap.size) (ty : TypeId) :
    ∃ zs A' c' w', zs = ts ++ us ∧ (Builtin.append_ #[22, 22] ty #[v, .slice A us.length c]).run Try.prog w = .ok (.slice A' zs.length c') w' ∧ OwnY B X w' (.slice A' zs.length c') zs ∧ Below B w w' ∧ w.grownBy w' v.ownBlock ∧ ((Value.slice A' zs.length c').ownBlock = v.ownBlock ∨ (Value.slice A' zs.length c').ownBlock = some w.heap.size) := by
  obtain ⟨i, hi, hz, h1, h2⟩ := info_parts nd_info
  have hfrom := fun k => ho.own.from_ (k := k)
  obtain ⟨vs, hown, hv⟩ := ho
  obtain ⟨_, qs, hq, hh⟩ := hr
  obtain ⟨ad, rfl, _, hc⟩ := hh hus
  obtain ⟨v', w', hrun, hown2, hg, _, hrow⟩ := run_append_own_at (P := Try.prog) w B 22 ty 25 i _ 3 56 Try.underlying22 hi hz h1 h2 rfl (by omega) _ _ _ hown ad us.length c (flatN qs) (by rw [flatN_len, hq.len]) hc
    (fun u hu => by
      unfold flatN at hu
      rw [List.mem_flatMap] at hu
      obtain ⟨p, hp, hu⟩ := hu
      obtain ⟨j, hj⟩ := List.mem_iff_getElem?.1 hp
      have hjl : j < us.length := by have := (List.getElem?_eq_some_iff.1 hj).1; rw [hq.len] at this; exact this
      obtain ⟨P, c1, Q, d1, ep, _⟩ := hq.at_ j p _ hj (List.getElem?_eq_getElem hjl)
      rw [ep] at hu
      simp at hu
      rcases hu with rfl | rfl | rfl <;> rfl) (by unfold maxLen; omega) (by omega) hB
  have hv2 : AllN w' (fun k => X k ∧ v'.ownBlock ≠ some k) (vs ++ qs) (ts ++ us) := by
    have hY : ∀ k, k < w.heap.size → X k → v.ownBlock ≠ some k → X k ∧ v'.ownBlock ≠ some k := by
      intro k hk hX hne
      refine ⟨hX, ?_⟩
      rcases hrow with hrow | hrow
      · rw [hrow]; exact hne
      · rw [hrow]; intro e; injection e with e; omega
    have a1 : AllN w' (fun k => X k ∧ v'.ownBlock ≠ some k) vs ts := ⟨hv.len, fun j p t g1 g2 => grown_y hg (hv.at_ j p t g1 g2) hY⟩
    have a2 : AllN w' (fun k => X k ∧ v'.ownBlock ≠ some k) qs us := ⟨hq.len, fun j p t g1 g2 => grown_y hg (hq.at_ j p t g1 g2) hY⟩
    exact a1.app a2
  have ho2 : OwnY B X w' v' (ts ++ us) := ⟨vs ++ qs, by rw [List.length_append, flatN_append]; exact hown2, hv2⟩
  obtain ⟨A2, c2, rfl, _⟩ := ho2.own.form
  exact ⟨ts ++ us, A2, c2, w', rfl, hrun, ho2, (Below.refl _ _).grown hg hB (fun k hk => hfrom k hk), hg, hrow⟩
/-- append, for the walk. -/
theorem wpList_appY {ops : Array Oper} {rest : List Oper} {o : Oper} {a : Act} {Q : Exit → Act → World → Prop} (hgd : Region.wanted o (yielded ops a.tmps) = true) (s x : Operand)
    (hop : o.op = .call { callee := .builtin .append, args := #[s, x], argTypes := #[22, 22] })
    (v : Value) (ts : List Nd) (hs : a.eval s = v) (ho : OwnY B X w v ts) (A : Option Addr) (c : Nat) (us : List Nd) (n : Nat) (hx : a.eval x = .slice A n c) (hn : n = us.length) (hr : RdN w (fun k => X k ∧ v.ownBlock ≠ some k) A us) (hus : 0 < us.length)
    (hl : ts.length + us.length ≤ 1000000) (hB : B ≤ w.heap.size)
    (h : ∀ zs A' c' w', Hid (zs = ts ++ us) → OwnY B X w' (.slice A' zs.length c') zs → Below B w w' → w.grownBy w' v.ownBlock → ((Value.slice A' zs.length c').ownBlock = v.ownBlock ∨ (Value.slice A' zs.length c').ownBlock = some w.heap.size) → wpList Try.prog ops Q rest (a.put o.dst (.slice A' zs.length c')) w') : wpList Try.prog ops Q (o :: rest) a w := by
  refine BigFrame.wpList_want hgd fun K hK => ?_
  subst hn
  obtain ⟨zs, A', c', w', e, hrun, h1, h2, h3, h4⟩ := run_appY ho c hr hus hl hB o.type
  unfold Oper.wp execOp
  simp only [hop, resolve, invoke, builtin, Sem.run_bind, Sem.run_pure, Result.andThen_ok, List.map_toArray, List.map_cons, List.map_nil, hs, hx, hrun]
  exact hK _ _ (h zs A' c' w' e h1 h2 h3 h4)
/-- Numbers appended: which block has grown. -/
theorem run_appG {xs ys : List Int} (ho : Own B w v xs) (c : Nat) (hr : Rd w A ys) (hy : 0 < ys.length) (hs : xs.length + ys.length ≤ 1000000) (hB : B ≤ w.heap.size) (ty : TypeId) :
    ∃ zs A' c' w', zs = xs ++ ys ∧ (Builtin.append_ #[23, 23] ty #[v, .slice A ys.length c]).run Try.prog w = .ok (.slice A' zs.length c') w' ∧ Own B w' (.slice A' zs.length c') zs ∧ Below B w w' ∧ w.grownBy w' v.ownBlock ∧ ((Value.slice A' zs.length c').ownBlock = v.ownBlock ∨ (Value.slice A' zs.length c').ownBlock = some w.heap.size) := by
  obtain ⟨ad, rfl, hlt, hc⟩ := hr.2 hy
  obtain ⟨i, hi, hz, h1, h2⟩ := info_parts int_info
  obtain ⟨v', w', hrun, hown, hg, _, hrow⟩ := run_append_own_at (P := Try.prog) w B 23 ty 3 i _ 1 8 Try.underlying23 hi hz h1 h2 rfl (by omega) _ _ _ ho ad ys.length c (ys.map (Value.int .i64)) (by simp)
    (fun j u hu => by
      rw [List.getElem?_map, Option.map_eq_some_iff] at hu
      obtain ⟨x, hx, rfl⟩ := hu
      exact hc j x hx) (fun v hv => by obtain ⟨x, _, rfl⟩ := List.mem_map.1 hv; rfl) (by unfold maxLen; omega) (by omega) hB
  have hown' : Own B w' v' (xs ++ ys) := by simpa [Own] using hown
  obtain ⟨A2, c2, rfl, _⟩ := hown'.form
  refine ⟨xs ++ ys, A2, c2, w', rfl, hrun, hown', (Below.refl _ _).grown hg hB (fun k hk => ho.from_ hk), hg, hrow⟩
theorem wpList_appG {xs ys : List Int} {ops : Array Oper} {rest : List Oper} {o : Oper} {a : Act} {Q : Exit → Act → World → Prop} (hgd : Region.wanted o (yielded ops a.tmps) = true) (s x : Operand)
    (hop : o.op = .call { callee := .builtin .append, args := #[s, x], argTypes := #[23, 23] })
    (v : Value) (hs : a.eval s = v) (ho : Own B w v xs) (A : Option Addr) (c : Nat) (n : Nat) (hx : a.eval x = .slice A n c) (hn : n = ys.length) (hr : Rd w A ys) (hy : 0 < ys.length)
    (hl : xs.length + ys.length ≤ 1000000) (hB : B ≤ w.heap.size)
    (h : ∀ zs A' c' w', Hid (zs = xs ++ ys) → Own B w' (.slice A' zs.length c') zs → Below B w w' → w.grownBy w' v.ownBlock → ((Value.slice A' zs.length c').ownBlock = v.ownBlock ∨ (Value.slice A' zs.length c').ownBlock = some w.heap.size) → wpList Try.prog ops Q rest (a.put o.dst (.slice A' zs.length c')) w') : wpList Try.prog ops Q (o :: rest) a w := by
  refine BigFrame.wpList_want hgd fun K hK => ?_
  subst hn
  obtain ⟨zs, A', c', w', e, hrun, h1, h2, h3, h4⟩ := run_appG ho c hr hy hl hB o.type
  unfold Oper.wp execOp
  simp only [hop, resolve, invoke, builtin, Sem.run_bind, Sem.run_pure, Result.andThen_ok, List.map_toArray, List.map_cons, List.map_nil, hs, hx, hrun]
  exact hK _ _ (h zs A' c' w' e h1 h2 h3 h4)
end

/-! ### A store into an older block -/
theorem rd_put {w : World} {A : Option Addr} {xs : List Int} {p : Addr} (h : Rd w A xs) (hx : ∀ ad, A = some ad → 0 < xs.length → ad.block ≠ p.block) (u : Value) : Rd (w.setCell p u) A xs :=
  ⟨h.1, fun hn => by
    obtain ⟨ad, e, hb, hc⟩ := h.2 hn
    refine ⟨ad, e, by rw [World.size_setCell]; exact hb, fun j x hj => ?_⟩
    rw [World.cell?_setCell_other]
    · exact hc j x hj
    · intro e'
      exact hx ad e hn (by rw [e', block_of_add])⟩
theorem own_put {w : World} {B : Nat} {v : Value} {xs : List Int} {p : Addr} (h : Own B w v xs) (hp : p.block < B) (u : Value) : Own B (w.setCell p u) v xs :=
  h.of_block fun g hg => by
    have := h.from_ hg
    exact Below.heap_setCell _ _ _ g (by omega)
theorem own_lt {w : World} {B : Nat} {v : Value} {xs : List Int} (h : Own B w v xs) {g : Nat} (hg : v.ownBlock = some g) : B ≤ g ∧ g < w.heap.size := by
  rcases h.2 with ⟨rfl, _⟩ | ⟨g', cap, cur, rfl, hb, hh, _⟩
  · cases hg
  · injection hg with hg
    subst hg
    exact ⟨hb, (Array.getElem?_eq_some_iff.1 hh).1⟩
theorem OwnY.put {B : Nat} {X : Nat → Prop} {w : World} {v : Value} {ts : List Nd} {p : Addr} (h : OwnY B X w v ts) (hp : p.block < B) (hX : ∀ k, X k → B ≤ k) (u : Value) : OwnY B X (w.setCell p u) v ts := by
  have hr := fun k => h.own.from_ (k := k)
  obtain ⟨vs, ⟨h1, h2⟩, hv⟩ := h
  refine ⟨vs, ⟨h1, ?_⟩, hv.len, fun j q t e1 e2 => ?_⟩
  · rcases h2 with h0 | ⟨g, cap, cur, rfl, hb, hgk, r⟩
    · exact .inl h0
    · exact .inr ⟨g, cap, cur, rfl, hb, (Below.heap_setCell _ _ _ g (by omega)).trans hgk, r⟩
  · obtain ⟨A, c, C, d, e, c1, c2, d1, d2, r⟩ := hv.at_ j q t e1 e2
    exact ⟨A, c, C, d, e, c1, c2, d1, d2, rd_put r.ra (fun ad g1 g2 => by have := hX _ (r.xa ad g1 g2).1; omega) u, rd_put r.rn (fun ad g1 g2 => by have := hX _ (r.xn ad g1 g2).1; omega) u, r.xa, r.xn⟩

/-! ### A node alone, behind numbers -/
def cst : Nd := (3, [], [0])
def idxL (n : Nat) : List Int := (List.range n).map fun k : Nat => (k : Int)
theorem idx_succ (n : Nat) : idxL (n + 1) = idxL n ++ [(n : Int)] := by unfold idxL; rw [List.range_succ, List.map_append]; rfl
theorem idx_len (n : Nat) : (idxL n).length = n := by unfold idxL; simp
theorem cst_succ (n : Nat) : List.replicate (n + 1) cst = List.replicate n cst ++ [cst] := by rw [List.replicate_succ']
theorem alone_check {op : Int} {nums : List Int} {na : Nat} (h : (na : Int) = arityV op) : checkB (List.replicate na cst ++ [(op, idxL na, nums)]) = numsB (op, [], nums) := by
  have hle : na ≤ 2 := by have := arity_le op; omega
  have hlen : (List.replicate na cst ++ [(op, idxL na, nums)]).length = na + 1 := by simp
  have hm : ∀ i, i ≤ na → ∀ m ∈ (List.replicate na cst ++ [(op, idxL na, nums)]).take i, m = cst := fun i hi m hm => by
    rw [List.take_append_of_le_length (by simpa using hi)] at hm
    exact List.eq_of_mem_replicate (List.mem_of_mem_take hm)
  rw [Bool.eq_iff_iff, check_iff]
  constructor
  · rintro ⟨_, _, h3⟩
    have h4 := h3 na (op, idxL na, nums) (by rw [List.getElem?_append_right (by simp)]; simp)
    exact (node_iff.1 h4).2.2.1
  · intro hn
    refine ⟨by omega, by omega, fun i t ht => ?_⟩
    have hi : i < na + 1 := by rw [← hlen]; exact (List.getElem?_eq_some_iff.1 ht).1
    have hlk : ∀ m ∈ (List.replicate na cst ++ [(op, idxL na, nums)]).take i, likeB m t = true := fun m hmm => by
      rw [hm i (by omega) m hmm]
      unfold likeB
      rw [if_pos]
      by_cases e : cst.1 = t.1
      · exact .inr (.inl (by show (2 : Int) < 3; decide))
      · exact .inl e
    by_cases hin : i < na
    · rw [List.getElem?_append_left (by simpa using hin), List.getElem?_replicate, if_pos hin] at ht
      injection ht with ht
      subst ht
      exact node_iff.2 ⟨by decide, by decide, by decide, fun a ha => (by cases ha), hlk⟩
    · obtain rfl : i = na := by omega
      rw [List.getElem?_append_right (by simp)] at ht
      simp at ht
      subst ht
      refine node_iff.2 ⟨by show 0 ≤ arityV op; omega, by show ((idxL i).length : Int) = _; rw [idx_len]; exact h, hn, fun a ha => ?_, hlk⟩
      unfold idxL at ha
      obtain ⟨k, hk, rfl⟩ := List.mem_map.1 ha
      have := List.mem_range.1 hk
      omega
end Go.Proofs.Ytnkkkpanlnencaa.Iz
