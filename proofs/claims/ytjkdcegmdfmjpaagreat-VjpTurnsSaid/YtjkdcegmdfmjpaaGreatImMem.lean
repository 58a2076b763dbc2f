import Derived.Test.YtjkdcegmdfmjpaaGreatTk
import Derived.Test.YtjkdcegmdfmjpaaGreatImM
set_option maxHeartbeats 16000000
set_option maxRecDepth 100000
set_option linter.unusedVariables false
set_option linter.unusedSimpArgs false
namespace Go.Proofs.YtjkdcegmdfmjpaaGreat
open Go.RowKit Go.Proofs.ShM Go.Proofs.PkM Go.Proofs.ImM
theorem tn_info : (Tryz.prog.info? 27).map (fun i => (i.zero, i.size, i.bytes)) = some (some (.agg #[.slice none 0 0, .slice none 0 0]), 2, 48) := by kernel_rfl
abbrev V2 := Value × Value
def flat (vs : List V2) : List Value := vs.flatMap fun p => [p.1, p.2]
theorem flat_cons (p : V2) (vs : List V2) : flat (p :: vs) = p.1 :: p.2 :: flat vs := rfl
theorem flat_append (a b : List V2) : flat (a ++ b) = flat a ++ flat b := by unfold flat; rw [List.flatMap_append]
theorem flat_len : ∀ vs : List V2, (flat vs).length = vs.length * 2
 | [] => rfl
 | p :: vs => by rw [flat_cons, List.length_cons, List.length_cons, flat_len vs, List.length_cons]; omega
theorem flat_at : ∀ {vs : List V2} {j : Nat} {p : V2}, vs[j]? = some p → (flat vs)[j * 2]? = some p.1 ∧ (flat vs)[j * 2 + 1]? = some p.2
 | [], j, p, h => by simp at h
 | q :: vs, 0, p, h => by
  have : q = p := by simpa using h
  subst this
  exact ⟨rfl, rfl⟩
 | q :: vs, j + 1, p, h => by
  have := flat_at (vs := vs) (j := j) (p := p) (by simpa using h)
  rw [flat_cons, show (j + 1) * 2 = j * 2 + 1 + 1 by omega]
  exact this
def Vt (w : World) (X : Nat → Prop) (p : V2) (t : T) : Prop :=
 ∃ A c B d, p = (.slice A t.1.length c, .slice B t.2.length d) ∧ TR w A t.1 B t.2 ∧ (∀ ad, A = some ad → 0 < t.1.length → X ad.block) ∧ (∀ ad, B = some ad → 0 < t.2.length → X ad.block) ∧ (t.1.length ≤ c ∧ c ≤ 9223372036854775807) ∧ t.2.length ≤ d ∧ d ≤ 9223372036854775807
structure AllV (w : World) (X : Nat → Prop) (vs : List V2) (ts : List T) : Prop where
 len : vs.length = ts.length
 at_ : ∀ (j : Nat) (p : V2) (t : T), vs[j]? = some p → ts[j]? = some t → Vt w X p t
def RdX (w : World) (X : Nat → Prop) (A : Option Addr) (ts : List T) : Prop :=
 ts.length ≤ 9223372036854775807 ∧ ∃ vs, AllV w X vs ts ∧ (0 < ts.length → ∃ ad, A = some ad ∧ ad.block < w.heap.size ∧ ∀ j u, (flat vs)[j]? = some u → w.cell? (ad.add j) = some u)
abbrev RdT (w : World) (A : Option Addr) (ts : List T) : Prop := RdX w (fun _ => True) A ts
section
variable {w w' : World} {X Y : Nat → Prop} {A : Option Addr} {ts us : List T} {vs zs : List V2}
theorem Vt.mono {p : V2} {t : T} (h : Vt w X p t) (hk : Kp w w') (hx : ∀ k, k < w.heap.size → X k → Y k) : Vt w' Y p t := by
 obtain ⟨A, c, B, d, e, r, x1, x2, b12⟩ := h
 refine ⟨A, c, B, d, e, r.kp hk, fun ad h1 h2 => hx _ ?_ (x1 ad h1 h2), fun ad h1 h2 => hx _ ?_ (x2 ad h1 h2), b12⟩
 ·obtain ⟨ad', e', hb, _⟩ := r.s.2 h2; rw [h1] at e'; injection e' with e'; subst e'; exact hb
 ·obtain ⟨ad', e', hb, _⟩ := r.d.2 h2; rw [h1] at e'; injection e' with e'; subst e'; exact hb
theorem AllV.mono (h : AllV w X vs ts) (hk : Kp w w') (hx : ∀ k, k < w.heap.size → X k → Y k) : AllV w' Y vs ts := ⟨h.len, fun j p t h1 h2 => (h.at_ j p t h1 h2).mono hk hx⟩
theorem AllV.nil_ (w : World) (X : Nat → Prop) : AllV w X [] [] := ⟨rfl, fun j p t h => by simp at h⟩
theorem AllV.app (h : AllV w X vs ts) (g : AllV w X zs us) : AllV w X (vs ++ zs) (ts ++ us) := by
 refine ⟨by rw [List.length_append, List.length_append, h.len, g.len], fun j p t h1 h2 => ?_⟩
 rw [List.getElem?_append] at h1 h2
 rw [h.len] at h1
 split at h1
 ·rename_i hj
  rw [if_pos hj] at h2
  exact h.at_ j p t h1 h2
 ·rename_i hj
  rw [if_neg hj] at h2
  exact g.at_ _ p t h1 h2
theorem RdX.mono (h : RdX w X A ts) (hk : Kp w w') (hx : ∀ k, k < w.heap.size → X k → Y k) : RdX w' Y A ts := by
 obtain ⟨h1, vs, h2, h3⟩ := h
 exact ⟨h1, vs, h2.mono hk hx, fun hp => by
  obtain ⟨ad, e, hb, hc⟩ := h3 hp
  exact ⟨ad, e, Nat.lt_of_lt_of_le hb hk.size, fun j u hu => (hk.cell (by rw [block_of_add]; exact hb)).trans (hc j u hu)⟩⟩
theorem RdX.kp (h : RdX w X A ts) (hk : Kp w w') : RdX w' X A ts := h.mono hk fun _ _ x => x
theorem RdX.len (h : RdX w X A ts) : ts.length ≤ 9223372036854775807 := h.1
theorem RdX.nil_ (w : World) (X : Nat → Prop) (A : Option Addr) : RdX w X A [] := ⟨by simp, [], AllV.nil_ _ _, fun h => absurd h (by simp)⟩
theorem RdX.at_ (h : RdX w X A ts) {k : Nat} (hk : k < ts.length) : ∃ ad t P c Q d, A = some ad ∧ ad.block < w.heap.size ∧ ts[k]? = some t ∧ w.cell? (ad.add (k * 2)) = some (.slice P t.1.length c) ∧ w.cell? ⟨(ad.add (k * 2)).block, (ad.add (k * 2)).off + 1, none⟩ = some (.slice Q t.2.length d) ∧ TR w P t.1 Q t.2 := by
 obtain ⟨_, vs, hv, hh⟩ := h
 obtain ⟨ad, e, hb, hc⟩ := hh (by omega)
 have hl := hv.len
 have e1 : vs[k]? = some vs[k] := List.getElem?_eq_getElem (by omega)
 have e2 : ts[k]? = some ts[k] := List.getElem?_eq_getElem hk
 obtain ⟨P, c, Q, d, ep, r, _⟩ := hv.at_ k _ _ e1 e2
 obtain ⟨f1, f2⟩ := flat_at e1
 refine ⟨ad, ts[k], P, c, Q, d, e, hb, e2, ?_, ?_, r⟩
 ·rw [hc _ _ f1, ep]
 ·have e3 : (⟨(ad.add (k * 2)).block, (ad.add (k * 2)).off + 1, none⟩ : Addr) = ad.add (k * 2 + 1) := by rw [← Addr.add_add]; rfl
  rw [e3, hc _ _ f2, ep]
theorem RdX.at_c (h : RdX w X A ts) {k : Nat} (hk : k < ts.length) : ∃ ad t P c Q d, A = some ad ∧ ad.block < w.heap.size ∧ ts[k]? = some t ∧ w.cell? (ad.add (k * 2)) = some (.slice P t.1.length c) ∧ w.cell? ⟨(ad.add (k * 2)).block, (ad.add (k * 2)).off + 1, none⟩ = some (.slice Q t.2.length d) ∧ TR w P t.1 Q t.2 ∧ (∀ ad, P = some ad → 0 < t.1.length → X ad.block) ∧ (∀ ad, Q = some ad → 0 < t.2.length → X ad.block) ∧ (t.1.length ≤ c ∧ c ≤ 9223372036854775807) ∧ t.2.length ≤ d ∧ d ≤ 9223372036854775807 := by
 obtain ⟨_, vs, hv, hh⟩ := h
 obtain ⟨ad, e, hb, hc⟩ := hh (by omega)
 have hl := hv.len
 have e1 : vs[k]? = some vs[k] := List.getElem?_eq_getElem (by omega)
 have e2 : ts[k]? = some ts[k] := List.getElem?_eq_getElem hk
 obtain ⟨P, c, Q, d, ep, r, x1, x2, b1, b2⟩ := hv.at_ k _ _ e1 e2
 obtain ⟨f1, f2⟩ := flat_at e1
 refine ⟨ad, ts[k], P, c, Q, d, e, hb, e2, ?_, ?_, r, x1, x2, b1, b2⟩
 ·rw [hc _ _ f1, ep]
 ·have e3 : (⟨(ad.add (k * 2)).block, (ad.add (k * 2)).off + 1, none⟩ : Addr) = ad.add (k * 2 + 1) := by rw [← Addr.add_add]; rfl
  rw [e3, hc _ _ f2, ep]
theorem RdX.one {P Q : Option Addr} {t : T} {c d : Nat} (h : TR w P t.1 Q t.2) (hx1 : ∀ ad, P = some ad → 0 < t.1.length → X ad.block) (hx2 : ∀ ad, Q = some ad → 0 < t.2.length → X ad.block) (hc : t.1.length ≤ c ∧ c ≤ 9223372036854775807) (hd : t.2.length ≤ d ∧ d ≤ 9223372036854775807) (ty : TypeId) :
  RdX (w.alloc (.cells #[.slice P t.1.length c, .slice Q t.2.length d] ty)) X (some ⟨w.heap.size, 0, none⟩) [t] := by
 refine ⟨by simp, [(.slice P t.1.length c, .slice Q t.2.length d)], ⟨rfl, fun j p t' h1 h2 => ?_⟩, fun _ => ⟨_, rfl, by simp, fun j u hu => ?_⟩⟩
 ·cases j with
  | zero =>
   have e1 : (Value.slice P t.1.length c, Value.slice Q t.2.length d) = p := by simpa using h1
   have e2 : t = t' := by simpa using h2
   subst e1 e2
   exact ⟨P, c, Q, d, rfl, h.alloc_ _, hx1, hx2, hc, hd⟩
  | succ j => simp at h1
 ·rw [Go.WideShapes.add_plain, Nat.zero_add, World.cell?_alloc_at _ ty _ j rfl]
  have : (flat [(Value.slice P t.1.length c, Value.slice Q t.2.length d)])[j]? = #[Value.slice P t.1.length c, Value.slice Q t.2.length d][j]? := by simp [flat]
  rw [← this]; exact hu
end
def OwnT (B : Nat) (w : World) (v : Value) (ts : List T) : Prop := ∃ vs, w.ownsRow B 27 2 v ts.length (flat vs) ∧ AllV w (fun k => v.ownBlock ≠ some k) vs ts
section
variable {w w' : World} {B : Nat} {v : Value} {ts us : List T} {A : Option Addr}
theorem OwnT.nil_ (w : World) (B : Nat) : OwnT B w (.slice none 0 0) [] := ⟨[], World.ownsRow_nil w B _ 2, AllV.nil_ _ _⟩
theorem OwnT.from_ (h : OwnT B w v ts) {k : Nat} (hk : v.ownBlock = some k) : B ≤ k := by
 obtain ⟨vs, h, _⟩ := h
 rcases h.2 with ⟨rfl, _⟩ | ⟨g, cap, cur, rfl, hb, _⟩
 ·cases hk
 ·have : g = k := by simpa [Value.ownBlock] using hk
  omega
theorem OwnT.row_lt (h : OwnT B w v ts) {k : Nat} (hk : v.ownBlock = some k) : k < w.heap.size := by
 obtain ⟨vs, h, _⟩ := h
 rcases h.2 with ⟨rfl, _⟩ | ⟨g, cap, cur, rfl, _, hh, _⟩
 ·cases hk
 ·have : g = k := by simpa [Value.ownBlock] using hk
  subst this
  exact (Array.getElem?_eq_some_iff.1 hh).1
theorem OwnT.kp (h : OwnT B w v ts) (k : Kp w w') : OwnT B w' v ts := by
 have hr := fun k => h.row_lt (k := k)
 obtain ⟨vs, ⟨h1, h2⟩, hv⟩ := h
 refine ⟨vs, ⟨h1, ?_⟩, hv.mono k fun _ _ x => x⟩
 rcases h2 with h0 | ⟨g, cap, cur, rfl, hb, hg, r⟩
 ·exact .inl h0
 ·exact .inr ⟨g, cap, cur, rfl, hb, (k.block g (hr g rfl)).trans hg, r⟩
theorem OwnT.form (h : OwnT B w v ts) : ∃ A c, v = .slice A ts.length c ∧ RdT w A ts ∧ ts.length ≤ c ∧ c ≤ 9223372036854775807 := by
 obtain ⟨vs, ho, hv⟩ := h
 have ho' := ho
 rcases ho.2 with ⟨rfl, h0⟩ | ⟨g, cap, cur, rfl, _, hh, hn, hc, hcs, ht⟩
 ·have : ts = [] := List.eq_nil_of_length_eq_zero h0
  subst this
  exact ⟨none, 0, rfl, RdX.nil_ _ _ _, by simp, by simp⟩
 ·have hc' : cap ≤ 9223372036854775807 := by unfold maxLen at hc; omega
  refine ⟨_, cap, rfl, ⟨by omega, vs, hv.mono (Kp.refl _) (fun _ _ _ => trivial), fun hp => ⟨_, rfl, (Array.getElem?_eq_some_iff.1 hh).1, fun j u hu => ?_⟩⟩, hn, hc'⟩
  have hj : j < ts.length * 2 := by have := (List.getElem?_eq_some_iff.1 hu).1; rw [flat_len, hv.len] at this; exact this
  rw [Go.WideShapes.add_plain, Nat.zero_add, World.ownsRow.cellAt ho' j hj]
  exact hu
theorem grown_kp {row : Option Nat} (hg : w.grownBy w' row) {A : Option Addr} {xs : List Int} (h : Rd w A xs) (hx : ∀ ad, A = some ad → 0 < xs.length → row ≠ some ad.block) : Rd w' A xs :=
 ⟨h.1, fun hn => by
  obtain ⟨ad, e, hb, hc⟩ := h.2 hn
  refine ⟨ad, e, Nat.lt_of_lt_of_le hb hg.size, fun j u hu => ?_⟩
  have hne : some ad.block ≠ row := fun e' => hx ad e hn e'.symm
  rw [World.cell?_of_block (w := w) (a := ad.add j) (by rw [block_of_add]; exact hg.block _ hb hne)]
  exact hc j u hu⟩
theorem grown_v {row : Option Nat} {p : V2} {t : T} {Y : Nat → Prop} (hg : w.grownBy w' row) (h : Vt w (fun k => row ≠ some k) p t) (hY : ∀ k, k < w.heap.size → row ≠ some k → Y k) : Vt w' Y p t := by
 obtain ⟨A, c, B, d, e, r, x1, x2, b12⟩ := h
 refine ⟨A, c, B, d, e, ⟨grown_kp hg r.s x1, grown_kp hg r.d x2⟩, fun ad h1 h2 => hY _ ?_ (x1 ad h1 h2), fun ad h1 h2 => hY _ ?_ (x2 ad h1 h2), b12⟩
 ·obtain ⟨ad', e', hb, _⟩ := r.s.2 h2; rw [h1] at e'; injection e' with e'; subst e'; exact hb
 ·obtain ⟨ad', e', hb, _⟩ := r.d.2 h2; rw [h1] at e'; injection e' with e'; subst e'; exact hb
end
end Go.Proofs.YtjkdcegmdfmjpaaGreat
