import Derived.Test.YtjkdcegmdfmjpaaGreatTk
import Derived.Test.YtjkdcegmdfmjpaaGreatInM
set_option maxHeartbeats 16000000
set_option maxRecDepth 100000
set_option linter.unusedVariables false
set_option linter.unusedSimpArgs false
namespace Go.Proofs.YtjkdcegmdfmjpaaGreat
open Go.RowKit Go.Proofs.ShM
def Vl (w : World) (X : Nat → Prop) (v : Value) (s : List Int) : Prop :=
 ∃ P c, v = .slice P s.length c ∧ s.length ≤ c ∧ c ≤ 9223372036854775807 ∧ Rd w P s ∧ ∀ ad, P = some ad → 0 < s.length → X ad.block
structure AllL (w : World) (X : Nat → Prop) (vs : List Value) (ss : List (List Int)) : Prop where
 len : vs.length = ss.length
 at_ : ∀ (j : Nat) (p : Value) (t : List Int), vs[j]? = some p → ss[j]? = some t → Vl w X p t
def RdLX (w : World) (X : Nat → Prop) (A : Option Addr) (ss : List (List Int)) : Prop :=
 ss.length ≤ 9223372036854775807 ∧ ∃ vs, AllL w X vs ss ∧ (0 < ss.length → ∃ ad, A = some ad ∧ ad.block < w.heap.size ∧ ∀ j u, vs[j]? = some u → w.cell? (ad.add j) = some u)
abbrev RdL (w : World) (A : Option Addr) (ss : List (List Int)) : Prop := RdLX w (fun _ => True) A ss
section
variable {w w' : World} {X Y : Nat → Prop} {A : Option Addr} {ts us : List (List Int)} {vs zs : List Value}
theorem Vl.mono {p : Value} {t : List Int} (h : Vl w X p t) (hk : Kp w w') (hx : ∀ k, k < w.heap.size → X k → Y k) : Vl w' Y p t := by
 obtain ⟨P, c, e, c1, c2, r, x⟩ := h
 refine ⟨P, c, e, c1, c2, r.kp hk, fun ad h1 h2 => hx _ ?_ (x ad h1 h2)⟩
 obtain ⟨ad', e', hb, _⟩ := r.2 h2
 rw [h1] at e'; injection e' with e'; subst e'; exact hb
theorem AllL.mono (h : AllL w X vs ts) (hk : Kp w w') (hx : ∀ k, k < w.heap.size → X k → Y k) : AllL w' Y vs ts := ⟨h.len, fun j p t h1 h2 => (h.at_ j p t h1 h2).mono hk hx⟩
theorem AllL.nil_ (w : World) (X : Nat → Prop) : AllL w X [] [] := ⟨rfl, fun j p t h => by simp at h⟩
theorem AllL.cons {p : Value} {t : List Int} (h : Vl w X p t) (g : AllL w X vs ts) : AllL w X (p :: vs) (t :: ts) := by
 refine ⟨by rw [List.length_cons, List.length_cons, g.len], fun j q u h1 h2 => ?_⟩
 cases j with
 | zero =>
  have e1 : p = q := by simpa using h1
  have e2 : t = u := by simpa using h2
  subst e1 e2; exact h
 | succ j => exact g.at_ j q u (by simpa using h1) (by simpa using h2)
theorem AllL.app (h : AllL w X vs ts) (g : AllL w X zs us) : AllL w X (vs ++ zs) (ts ++ us) := by
 refine ⟨by rw [List.length_append, List.length_append, h.len, g.len], fun j p t h1 h2 => ?_⟩
 rw [List.getElem?_append] at h1 h2
 rw [h.len] at h1
 split at h1
 ·rename_i hj
  rw [if_pos hj] at h2
  exact h.at_ j p t h1 h2
 ·rename_i hj
  rw [if_neg hj] at h2
  exact g.at_ _ p t h1 h2
theorem RdLX.mono (h : RdLX w X A ts) (hk : Kp w w') (hx : ∀ k, k < w.heap.size → X k → Y k) : RdLX w' Y A ts := by
 obtain ⟨h1, vs, h2, h3⟩ := h
 exact ⟨h1, vs, h2.mono hk hx, fun hp => by
  obtain ⟨ad, e, hb, hc⟩ := h3 hp
  exact ⟨ad, e, Nat.lt_of_lt_of_le hb hk.size, fun j u hu => (hk.cell (by rw [block_of_add]; exact hb)).trans (hc j u hu)⟩⟩
theorem RdLX.kp (h : RdLX w X A ts) (hk : Kp w w') : RdLX w' X A ts := h.mono hk fun _ _ x => x
theorem RdLX.all (h : RdLX w X A ts) : RdL w A ts := h.mono (Kp.refl _) fun _ _ _ => trivial
theorem RdLX.nil_ (w : World) (X : Nat → Prop) (A : Option Addr) : RdLX w X A [] := ⟨by simp, [], AllL.nil_ _ _, fun h => absurd h (by simp)⟩
theorem RdLX.at_ (h : RdLX w X A ts) {k : Nat} (hk : k < ts.length) : ∃ ad t P c, A = some ad ∧ ad.block < w.heap.size ∧ ts[k]? = some t ∧ w.cell? (ad.add k) = some (.slice P t.length c) ∧ Rd w P t ∧ t.length ≤ c ∧ c ≤ 9223372036854775807 ∧ ∀ ad, P = some ad → 0 < t.length → X ad.block := by
 obtain ⟨_, vs, hv, hh⟩ := h
 obtain ⟨ad, e, hb, hc⟩ := hh (by omega)
 have hl := hv.len
 have e1 : vs[k]? = some vs[k] := List.getElem?_eq_getElem (by omega)
 have e2 : ts[k]? = some ts[k] := List.getElem?_eq_getElem hk
 obtain ⟨P, c, ep, c1, c2, r, x⟩ := hv.at_ k _ _ e1 e2
 exact ⟨ad, ts[k], P, c, e, hb, e2, by rw [hc _ _ e1, ep], r, c1, c2, x⟩
theorem RdLX.lit (h : AllL w X vs ts) (hl : ts.length ≤ 1000) (ty : TypeId) : RdLX (w.alloc (.cells vs.toArray ty)) X (some ⟨w.heap.size, 0, none⟩) ts :=
 ⟨by omega, vs, h.mono (Kp.alloc_ _ _) (fun _ _ x => x), fun hp => ⟨_, rfl, by simp, fun j u hu => by
  rw [Go.WideShapes.add_plain, Nat.zero_add, World.cell?_alloc_at _ ty _ j rfl]; simpa using hu⟩⟩
theorem RdLX.one {P : Option Addr} {s : List Int} {c : Nat} (h : Rd w P s) (h1 : s.length ≤ c) (h2 : c ≤ 9223372036854775807) (x : ∀ ad, P = some ad → 0 < s.length → X ad.block) (ty : TypeId) : RdLX (w.alloc (.cells #[.slice P s.length c] ty)) X (some ⟨w.heap.size, 0, none⟩) [s] :=
 RdLX.lit (AllL.cons ⟨P, c, rfl, h1, h2, h, x⟩ (AllL.nil_ _ _)) (by simp) ty
end
end Go.Proofs.YtjkdcegmdfmjpaaGreat
