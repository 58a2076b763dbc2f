import Derived.Test.YtjkdcegmdfmjpaaGreatTk
import Derived.Test.YtjkdcegmdfmjpaaGreatShAll
import Derived.Deep.RegionHeld3
import Derived.BigQuiet
import Derived.Carry
import Derived.Deep.DeepCutAuto
import Derived.Deep.QuietTactic
import Derived.Deep.RegionLaw
import Derived.Deep.RegionWith
import Derived.Laws.CopyOwn
import Derived.Lib.BitFns
import Derived.Lib.Mul64
import Derived.Lib.SmallJoins
import Derived.LoopIn
import Derived.LoopNIn
import Derived.OpenShut
import Derived.OwnWalkIn
import Derived.ProofKit
import Derived.RangeFuncBound
import Derived.RangeFuncBox
import Derived.RangeFuncCalls
import Derived.RangeFuncLeaves
import Derived.RangeFuncNested
import Derived.Shelf.Abstract
import Derived.Shelf.RegionOpen
import Derived.StillTailTactics
import Derived.TacticsInMore
set_option maxHeartbeats 16000000
set_option maxRecDepth 100000
set_option linter.unusedVariables false
set_option linter.unusedSimpArgs false
namespace Go.Proofs.GrM
open Go.Proofs.ShM
abbrev Nd := Int × List Int × List Int
def nd0 : Nd := (0, [], [])
def arityV (op : Int) : Int :=
 if 1 ≤ op ∧ op ≤ 3 then 0 else if (10 ≤ op ∧ op ≤ 13) ∨ op = 30 ∨ op = 43 then 2 else if (20 ≤ op ∧ op ≤ 23) ∨ (40 ≤ op ∧ op ≤ 42) ∨ (50 ≤ op ∧ op ≤ 52) then 1 else -1
def parB (l : List Int) : Bool := match l with
 | [] => false
 | p :: s => decide (0 ≤ p ∧ p ≤ 7) && okS s
def numsB (n : Nd) : Bool :=
 if n.1 = 1 ∨ n.1 = 40 then okS n.2.2 else if n.1 = 2 then parB n.2.2 else if n.1 = 42 then decide (n.2.2.length = 3) else if n.1 = 3 ∨ n.1 = 43 ∨ 50 ≤ n.1 then decide (n.2.2.length = 1) else decide (n.2.2.length = 0)
def likeB (a b : Nd) : Bool := if a.1 ≠ b.1 ∨ 2 < a.1 ∨ (a.1 = 2 ∧ a.2.2.getD 0 0 ≠ b.2.2.getD 0 0) then true else a.2.2 == b.2.2
def argsB (i : Nat) (l : List Int) : Bool := l.all fun a => decide (0 ≤ a ∧ a < (i : Int))
def nodeB (l : List Nd) (i : Nat) (n : Nd) : Bool :=
 decide (0 ≤ arityV n.1 ∧ (n.2.1.length : Int) = arityV n.1) && numsB n && argsB i n.2.1 && (l.take i).all (fun m => likeB m n)
def checkB (l : List Nd) : Bool := decide (1 ≤ l.length ∧ l.length ≤ 24 ∧ ∀ i, i < l.length → nodeB l i (l.getD i nd0) = true)
theorem check_iff {l : List Nd} : checkB l = true ↔ 1 ≤ l.length ∧ l.length ≤ 24 ∧ ∀ (i : Nat) (n : Nd), l[i]? = some n → nodeB l i n = true := by
 unfold checkB
 rw [decide_eq_true_iff]
 constructor
 ·rintro ⟨h1, h2, h3⟩
  refine ⟨h1, h2, fun i n hn => ?_⟩
  obtain ⟨hi, e⟩ := List.getElem?_eq_some_iff.1 hn
  have := h3 i hi
  rwa [List.getD_eq_getElem?_getD, hn] at this
 ·rintro ⟨h1, h2, h3⟩
  refine ⟨h1, h2, fun i hi => ?_⟩
  have hn : l[i]? = some l[i] := List.getElem?_eq_getElem hi
  have := h3 i _ hn
  rwa [List.getD_eq_getElem?_getD, hn]
theorem node_iff {l : List Nd} {i : Nat} {n : Nd} : nodeB l i n = true ↔ 0 ≤ arityV n.1 ∧ (n.2.1.length : Int) = arityV n.1 ∧ numsB n = true ∧ (∀ a ∈ n.2.1, 0 ≤ a ∧ a < (i : Int)) ∧ ∀ m ∈ l.take i, likeB m n = true := by
 unfold nodeB argsB
 simp only [Bool.and_eq_true, decide_eq_true_eq, List.all_eq_true]
 constructor
 ·rintro ⟨⟨⟨⟨h1, h2⟩, h3⟩, h4⟩, h5⟩
  exact ⟨h1, h2, h3, h4, h5⟩
 ·rintro ⟨h1, h2, h3, h4, h5⟩
  exact ⟨⟨⟨⟨h1, h2⟩, h3⟩, h4⟩, h5⟩
theorem like_other {a b : Nd} (h : 2 < b.1) : likeB a b = true := by
 unfold likeB
 by_cases e : a.1 = b.1
 ·rw [if_pos (.inr (.inl (by omega)))]
 ·rw [if_pos (.inl e)]
theorem like_symm {a b : Nd} (h : likeB a b = true) : likeB b a = true := by
 unfold likeB at h ⊢
 by_cases g : b.1 ≠ a.1 ∨ 2 < b.1 ∨ (b.1 = 2 ∧ b.2.2.getD 0 0 ≠ a.2.2.getD 0 0)
 ·rw [if_pos g]
 ·rw [if_neg g]
  have g' : ¬ (a.1 ≠ b.1 ∨ 2 < a.1 ∨ (a.1 = 2 ∧ a.2.2.getD 0 0 ≠ b.2.2.getD 0 0)) := by
   intro c
   apply g
   rcases c with c | c | ⟨c1, c2⟩
   ·exact .inl fun e => c e.symm
   ·by_cases e : b.1 = a.1
    ·exact .inr (.inl (by omega))
    ·exact .inl e
   ·by_cases e : b.1 = a.1
    ·exact .inr (.inr ⟨by omega, fun e => c2 e.symm⟩)
    ·exact .inl e
  rw [if_neg g'] at h
  rw [beq_iff_eq] at h ⊢
  exact h.symm
end Go.Proofs.GrM
namespace Go.Proofs.YtjkdcegmdfmjpaaGreat
open Go.RowKit Go.Proofs.ShM Go.Proofs.GrM
theorem nd_info : (Tryz.prog.info? 24).map (fun i => (i.zero, i.size, i.bytes)) = some (some (.agg #[.int .i64 0, .slice none 0 0, .slice none 0 0]), 3, 56) := by kernel_rfl
structure NR (w : World) (X : Nat → Prop) (P : Option Addr) (a : List Int) (Q : Option Addr) (b : List Int) : Prop where
 ra : Rd w P a
 rn : Rd w Q b
 xa : ∀ ad, P = some ad → 0 < a.length → X ad.block
 xn : ∀ ad, Q = some ad → 0 < b.length → X ad.block
abbrev V3 := Value × Value × Value
def flatN (vs : List V3) : List Value := vs.flatMap fun p => [p.1, p.2.1, p.2.2]
theorem flatN_cons (p : V3) (vs : List V3) : flatN (p :: vs) = p.1 :: p.2.1 :: p.2.2 :: flatN vs := rfl
theorem flatN_append (a b : List V3) : flatN (a ++ b) = flatN a ++ flatN b := by unfold flatN; rw [List.flatMap_append]
theorem flatN_len : ∀ vs : List V3, (flatN vs).length = vs.length * 3
 | [] => rfl
 | p :: vs => by rw [flatN_cons, List.length_cons, List.length_cons, List.length_cons, flatN_len vs, List.length_cons]; omega
theorem flatN_at : ∀ {vs : List V3} {j : Nat} {p : V3}, vs[j]? = some p → (flatN vs)[j * 3]? = some p.1 ∧ (flatN vs)[j * 3 + 1]? = some p.2.1 ∧ (flatN vs)[j * 3 + 2]? = some p.2.2
 | [], j, p, h => by simp at h
 | q :: vs, 0, p, h => by
  have : q = p := by simpa using h
  subst this
  exact ⟨rfl, rfl, rfl⟩
 | q :: vs, j + 1, p, h => by
  have := flatN_at (vs := vs) (j := j) (p := p) (by simpa using h)
  rw [flatN_cons, show (j + 1) * 3 = j * 3 + 1 + 1 + 1 by omega]
  exact this
def Vn (w : World) (X : Nat → Prop) (p : V3) (t : Nd) : Prop :=
 ∃ A c B d, p = (.int .i64 t.1, .slice A t.2.1.length c, .slice B t.2.2.length d) ∧ t.2.1.length ≤ c ∧ c ≤ 9223372036854775807 ∧ t.2.2.length ≤ d ∧ d ≤ 9223372036854775807 ∧ NR w X A t.2.1 B t.2.2
structure AllN (w : World) (X : Nat → Prop) (vs : List V3) (ts : List Nd) : Prop where
 len : vs.length = ts.length
 at_ : ∀ (j : Nat) (p : V3) (t : Nd), vs[j]? = some p → ts[j]? = some t → Vn w X p t
def RdN (w : World) (X : Nat → Prop) (A : Option Addr) (ts : List Nd) : Prop :=
 ts.length ≤ 9223372036854775807 ∧ ∃ vs, AllN w X vs ts ∧ (0 < ts.length → ∃ ad, A = some ad ∧ ad.block < w.heap.size ∧ ∀ j u, (flatN vs)[j]? = some u → w.cell? (ad.add j) = some u)
abbrev RdG (w : World) (A : Option Addr) (ts : List Nd) : Prop := RdN w (fun _ => True) A ts
section
variable {w w' : World} {X Y : Nat → Prop} {A : Option Addr} {ts us : List Nd} {vs zs : List V3}
theorem NR.mono {P Q : Option Addr} {a b : List Int} (h : NR w X P a Q b) (hk : Kp w w') (hx : ∀ k, k < w.heap.size → X k → Y k) : NR w' Y P a Q b := by
 refine ⟨h.ra.kp hk, h.rn.kp hk, fun ad h1 h2 => hx _ ?_ (h.xa ad h1 h2), fun ad h1 h2 => hx _ ?_ (h.xn ad h1 h2)⟩
 ·obtain ⟨ad', e', hb, _⟩ := h.ra.2 h2; rw [h1] at e'; injection e' with e'; subst e'; exact hb
 ·obtain ⟨ad', e', hb, _⟩ := h.rn.2 h2; rw [h1] at e'; injection e' with e'; subst e'; exact hb
theorem NR.kp {P Q : Option Addr} {a b : List Int} (h : NR w X P a Q b) (hk : Kp w w') : NR w' X P a Q b := h.mono hk fun _ _ x => x
theorem Vn.mono {p : V3} {t : Nd} (h : Vn w X p t) (hk : Kp w w') (hx : ∀ k, k < w.heap.size → X k → Y k) : Vn w' Y p t := by
 obtain ⟨A, c, B, d, e, c1, c2, d1, d2, r⟩ := h
 exact ⟨A, c, B, d, e, c1, c2, d1, d2, r.mono hk hx⟩
theorem AllN.mono (h : AllN w X vs ts) (hk : Kp w w') (hx : ∀ k, k < w.heap.size → X k → Y k) : AllN w' Y vs ts := ⟨h.len, fun j p t h1 h2 => (h.at_ j p t h1 h2).mono hk hx⟩
theorem AllN.nil_ (w : World) (X : Nat → Prop) : AllN w X [] [] := ⟨rfl, fun j p t h => by simp at h⟩
theorem AllN.app (h : AllN w X vs ts) (g : AllN w X zs us) : AllN w X (vs ++ zs) (ts ++ us) := by
 refine ⟨by rw [List.length_append, List.length_append, h.len, g.len], fun j p t h1 h2 => ?_⟩
 rw [List.getElem?_append] at h1 h2
 rw [h.len] at h1
 split at h1
 ·rename_i hj
  rw [if_pos hj] at h2
  exact h.at_ j p t h1 h2
 ·rename_i hj
  rw [if_neg hj] at h2
  exact g.at_ _ p t h1 h2
theorem RdN.mono (h : RdN w X A ts) (hk : Kp w w') (hx : ∀ k, k < w.heap.size → X k → Y k) : RdN w' Y A ts := by
 obtain ⟨h1, vs, h2, h3⟩ := h
 exact ⟨h1, vs, h2.mono hk hx, fun hp => by
  obtain ⟨ad, e, hb, hc⟩ := h3 hp
  exact ⟨ad, e, Nat.lt_of_lt_of_le hb hk.size, fun j u hu => (hk.cell (by rw [block_of_add]; exact hb)).trans (hc j u hu)⟩⟩
theorem RdN.kp (h : RdN w X A ts) (hk : Kp w w') : RdN w' X A ts := h.mono hk fun _ _ x => x
theorem RdN.len (h : RdN w X A ts) : ts.length ≤ 9223372036854775807 := h.1
theorem RdN.nil_ (w : World) (X : Nat → Prop) (A : Option Addr) : RdN w X A [] := ⟨by simp, [], AllN.nil_ _ _, fun h => absurd h (by simp)⟩
theorem RdN.take_ (h : RdN w X A ts) (k : Nat) : RdN w X A (ts.take k) := by
 obtain ⟨h1, vs, h2, h3⟩ := h
 refine ⟨by rw [List.length_take]; omega, vs.take k, ⟨by rw [List.length_take, List.length_take, h2.len], fun j p t e1 e2 => ?_⟩, fun hp => ?_⟩
 ·rw [List.getElem?_take] at e1 e2
  split at e1
  ·rename_i hj
   rw [if_pos hj] at e2
   exact h2.at_ j p t e1 e2
  ·cases e1
 ·rw [List.length_take] at hp
  obtain ⟨ad, e, hb, hc⟩ := h3 (by omega)
  refine ⟨ad, e, hb, fun j u hu => hc j u ?_⟩
  have : flatN vs = flatN (vs.take k) ++ flatN (vs.drop k) := by rw [← flatN_append, List.take_append_drop]
  rw [this, List.getElem?_append_left (List.getElem?_eq_some_iff.1 hu).1]
  exact hu
theorem RdN.at_ (h : RdN w X A ts) {k : Nat} (hk : k < ts.length) : ∃ ad t P c Q d, A = some ad ∧ ad.block < w.heap.size ∧ ts[k]? = some t ∧ w.cell? (ad.add (k * 3)) = some (.int .i64 t.1) ∧ w.cell? ⟨(ad.add (k * 3)).block, (ad.add (k * 3)).off + 1, none⟩ = some (.slice P t.2.1.length c) ∧ w.cell? ⟨(ad.add (k * 3)).block, (ad.add (k * 3)).off + 2, none⟩ = some (.slice Q t.2.2.length d) ∧ NR w X P t.2.1 Q t.2.2 ∧ (t.2.1.length ≤ c ∧ c ≤ 9223372036854775807) ∧ t.2.2.length ≤ d ∧ d ≤ 9223372036854775807 := by
 obtain ⟨_, vs, hv, hh⟩ := h
 obtain ⟨ad, e, hb, hc⟩ := hh (by omega)
 have hl := hv.len
 have e1 : vs[k]? = some vs[k] := List.getElem?_eq_getElem (by omega)
 have e2 : ts[k]? = some ts[k] := List.getElem?_eq_getElem hk
 obtain ⟨P, c, Q, d, ep, c1, c2, d1, d2, r⟩ := hv.at_ k _ _ e1 e2
 obtain ⟨f1, f2, f3⟩ := flatN_at e1
 refine ⟨ad, ts[k], P, c, Q, d, e, hb, e2, ?_, ?_, ?_, r, ⟨c1, c2⟩, d1, d2⟩
 ·rw [hc _ _ f1, ep]
 ·have e3 : (⟨(ad.add (k * 3)).block, (ad.add (k * 3)).off + 1, none⟩ : Addr) = ad.add (k * 3 + 1) := by rw [← Addr.add_add]; rfl
  rw [e3, hc _ _ f2, ep]
 ·have e3 : (⟨(ad.add (k * 3)).block, (ad.add (k * 3)).off + 2, none⟩ : Addr) = ad.add (k * 3 + 2) := by rw [← Addr.add_add]; rfl
  rw [e3, hc _ _ f3, ep]
theorem RdN.one {P Q : Option Addr} {t : Nd} {c d : Nat} (h : NR w X P t.2.1 Q t.2.2) (hc : t.2.1.length ≤ c ∧ c ≤ 9223372036854775807) (hd : t.2.2.length ≤ d ∧ d ≤ 9223372036854775807) (ty : TypeId) :
  RdN (w.alloc (.cells #[.int .i64 t.1, .slice P t.2.1.length c, .slice Q t.2.2.length d] ty)) X (some ⟨w.heap.size, 0, none⟩) [t] := by
 refine ⟨by simp, [(.int .i64 t.1, .slice P t.2.1.length c, .slice Q t.2.2.length d)], ⟨rfl, fun j p t' h1 h2 => ?_⟩, fun _ => ⟨_, rfl, by simp, fun j u hu => ?_⟩⟩
 ·cases j with
  | zero =>
   have e1 : (Value.int .i64 t.1, Value.slice P t.2.1.length c, Value.slice Q t.2.2.length d) = p := by simpa using h1
   have e2 : t = t' := by simpa using h2
   subst e1 e2
   exact ⟨P, c, Q, d, rfl, hc.1, hc.2, hd.1, hd.2, h.kp (Kp.alloc_ _ _)⟩
  | succ j => simp at h1
 ·rw [Go.WideShapes.add_plain, Nat.zero_add, World.cell?_alloc_at _ ty _ j rfl]
  have : (flatN [(Value.int .i64 t.1, Value.slice P t.2.1.length c, Value.slice Q t.2.2.length d)])[j]? = #[Value.int .i64 t.1, Value.slice P t.2.1.length c, Value.slice Q t.2.2.length d][j]? := by simp [flatN]
  rw [← this]; exact hu
end
def OwnN (B : Nat) (w : World) (v : Value) (ts : List Nd) : Prop := ∃ vs, w.ownsRow B 24 3 v ts.length (flatN vs) ∧ AllN w (fun k => v.ownBlock ≠ some k) vs ts
section
variable {w w' : World} {B : Nat} {v : Value} {ts us : List Nd} {A : Option Addr}
theorem OwnN.from_ (h : OwnN B w v ts) {k : Nat} (hk : v.ownBlock = some k) : B ≤ k := by
 obtain ⟨vs, h, _⟩ := h
 rcases h.2 with ⟨rfl, _⟩ | ⟨g, cap, cur, rfl, hb, _⟩
 ·cases hk
 ·have : g = k := by simpa [Value.ownBlock] using hk
  omega
theorem OwnN.row_lt (h : OwnN B w v ts) {k : Nat} (hk : v.ownBlock = some k) : k < w.heap.size := by
 obtain ⟨vs, h, _⟩ := h
 rcases h.2 with ⟨rfl, _⟩ | ⟨g, cap, cur, rfl, _, hh, _⟩
 ·cases hk
 ·have : g = k := by simpa [Value.ownBlock] using hk
  subst this
  exact (Array.getElem?_eq_some_iff.1 hh).1
theorem OwnN.kp (h : OwnN B w v ts) (k : Kp w w') : OwnN B w' v ts := by
 have hr := fun k => h.row_lt (k := k)
 obtain ⟨vs, ⟨h1, h2⟩, hv⟩ := h
 refine ⟨vs, ⟨h1, ?_⟩, hv.mono k fun _ _ x => x⟩
 rcases h2 with h0 | ⟨g, cap, cur, rfl, hb, hg, r⟩
 ·exact .inl h0
 ·exact .inr ⟨g, cap, cur, rfl, hb, (k.block g (hr g rfl)).trans hg, r⟩
theorem OwnN.form (h : OwnN B w v ts) : ∃ A c, v = .slice A ts.length c ∧ RdG w A ts ∧ ts.length ≤ c ∧ c ≤ 9223372036854775807 := by
 obtain ⟨vs, ho, hv⟩ := h
 have ho' := ho
 rcases ho.2 with ⟨rfl, h0⟩ | ⟨g, cap, cur, rfl, _, hh, hn, hc, hcs, ht⟩
 ·have : ts = [] := List.eq_nil_of_length_eq_zero h0
  subst this
  exact ⟨none, 0, rfl, RdN.nil_ _ _ _, by simp, by simp⟩
 ·have hc' : cap ≤ 9223372036854775807 := by unfold maxLen at hc; omega
  refine ⟨_, cap, rfl, ⟨by omega, vs, hv.mono (Kp.refl _) (fun _ _ _ => trivial), fun hp => ⟨_, rfl, (Array.getElem?_eq_some_iff.1 hh).1, fun j u hu => ?_⟩⟩, hn, hc'⟩
  have hj : j < ts.length * 3 := by have := (List.getElem?_eq_some_iff.1 hu).1; rw [flatN_len, hv.len] at this; exact this
  rw [Go.WideShapes.add_plain, Nat.zero_add, World.ownsRow.cellAt ho' j hj]
  exact hu
theorem grown_rd {row : Option Nat} (hg : w.grownBy w' row) {A : Option Addr} {xs : List Int} (h : Rd w A xs) (hx : ∀ ad, A = some ad → 0 < xs.length → row ≠ some ad.block) : Rd w' A xs :=
 ⟨h.1, fun hn => by
  obtain ⟨ad, e, hb, hc⟩ := h.2 hn
  refine ⟨ad, e, Nat.lt_of_lt_of_le hb hg.size, fun j u hu => ?_⟩
  have hne : some ad.block ≠ row := fun e' => hx ad e hn e'.symm
  rw [World.cell?_of_block (w := w) (a := ad.add j) (by rw [block_of_add]; exact hg.block _ hb hne)]
  exact hc j u hu⟩
theorem grown_n {row : Option Nat} {p : V3} {t : Nd} {Y : Nat → Prop} (hg : w.grownBy w' row) (h : Vn w (fun k => row ≠ some k) p t) (hY : ∀ k, k < w.heap.size → row ≠ some k → Y k) : Vn w' Y p t := by
 obtain ⟨A, c, B, d, e, c1, c2, d1, d2, r⟩ := h
 refine ⟨A, c, B, d, e, c1, c2, d1, d2, ⟨grown_rd hg r.ra r.xa, grown_rd hg r.rn r.xn, fun ad h1 h2 => hY _ ?_ (r.xa ad h1 h2), fun ad h1 h2 => hY _ ?_ (r.xn ad h1 h2)⟩⟩
 ·obtain ⟨ad', e', hb, _⟩ := r.ra.2 h2; rw [h1] at e'; injection e' with e'; subst e'; exact hb
 ·obtain ⟨ad', e', hb, _⟩ := r.rn.2 h2; rw [h1] at e'; injection e' with e'; subst e'; exact hb
theorem run_appN (ho : OwnN B w v ts) (c : Nat) (hr : RdN w (fun k => v.ownBlock ≠ some k) A us) (hs : ts.length + us.length ≤ 1000000) (hB : B ≤ w.heap.size) (ty : TypeId) :
  ∃ zs A' c' w', zs = ts ++ us ∧ (Builtin.append_ #[127, 127] ty #[v, .slice A us.length c]).run Tryz.prog w = .ok (.slice A' zs.length c') w' ∧ OwnN B w' (.slice A' zs.length c') zs ∧ Below B w w' ∧ (∀ k, k < w.heap.size → some k ≠ v.ownBlock → w'.heap[k]? = w.heap[k]?) := by
 obtain ⟨i, hi, hz, h1, h2⟩ := info_parts nd_info
 have hfrom := fun k => ho.from_ (k := k)
 obtain ⟨vs, hown, hv⟩ := ho
 obtain ⟨_, qs, hq, hh⟩ := hr
 have fin : ∀ (ad : Addr) (news : List Value) (m : Nat), news = flatN qs → m = us.length → (∀ j u, news[j]? = some u → w.cell? (ad.add j) = some u) →
   ∃ zs A' c' w', zs = ts ++ us ∧ (Builtin.append_ #[127, 127] ty #[v, .slice (some ad) m c]).run Tryz.prog w = .ok (.slice A' zs.length c') w' ∧ OwnN B w' (.slice A' zs.length c') zs ∧ Below B w w' ∧ (∀ k, k < w.heap.size → some k ≠ v.ownBlock → w'.heap[k]? = w.heap[k]?) := by
  intro ad news m hnews hm hc
  subst hnews hm
  obtain ⟨v', w', hrun, hown2, hg, _, hrow⟩ := run_append_own_at (P := Tryz.prog) w B 127 ty 24 i _ 3 56 Tryz.underlying127 hi hz h1 h2 rfl (by omega) _ _ _ hown ad us.length c (flatN qs) (by rw [flatN_len, hq.len]) hc
   (fun u hu => by
    unfold flatN at hu
    rw [List.mem_flatMap] at hu
    obtain ⟨p, hp, hu⟩ := hu
    obtain ⟨j, hj⟩ := List.mem_iff_getElem?.1 hp
    have hjl : j < us.length := by have := (List.getElem?_eq_some_iff.1 hj).1; rw [hq.len] at this; exact this
    obtain ⟨P, c1, Q, d1, ep, _⟩ := hq.at_ j p _ hj (List.getElem?_eq_getElem hjl)
    rw [ep] at hu
    simp at hu
    rcases hu with rfl | rfl | rfl <;> rfl) (by unfold maxLen; omega) (by omega) hB
  have hv2 : AllN w' (fun k => v'.ownBlock ≠ some k) (vs ++ qs) (ts ++ us) := by
   have hY : ∀ k, k < w.heap.size → v.ownBlock ≠ some k → v'.ownBlock ≠ some k := by
    intro k hk hne
    rcases hrow with hrow | hrow
    ·rw [hrow]; exact hne
    ·rw [hrow]; intro e; injection e with e; omega
   have a1 : AllN w' (fun k => v'.ownBlock ≠ some k) vs ts := ⟨hv.len, fun j p t g1 g2 => grown_n hg (hv.at_ j p t g1 g2) hY⟩
   have a2 : AllN w' (fun k => v'.ownBlock ≠ some k) qs us := ⟨hq.len, fun j p t g1 g2 => grown_n hg (hq.at_ j p t g1 g2) hY⟩
   exact a1.app a2
  have ho2 : OwnN B w' v' (ts ++ us) := ⟨vs ++ qs, by rw [List.length_append, flatN_append]; exact hown2, hv2⟩
  obtain ⟨A2, c2, rfl, _⟩ := ho2.form
  exact ⟨ts ++ us, A2, c2, w', rfl, hrun, ho2, (Below.refl _ _).grown hg hB (fun k hk => hfrom k hk), fun k hk hne => hg.block k hk hne⟩
 by_cases hy : us = []
 ·subst hy
  have hqn : qs = [] := List.eq_nil_of_length_eq_zero (by rw [hq.len]; rfl)
  subst hqn
  cases A with
  | none =>
   have ho2 : OwnN B w v ts := ⟨vs, hown, hv⟩
   obtain ⟨A', c', rfl, _⟩ := ho2.form
   refine ⟨ts, A', c', w, by simp, ?_, ho2, Below.refl _ _, fun _ _ _ => rfl⟩
   have ht := run_underlying (P := Tryz.prog) (w := w) Tryz.underlying127
   rcases hown.2 with ⟨e, h0⟩ | ⟨g, cap, cur, e, _, _, hn, _⟩
   ·injection e with e1 e2 e3
    subst e1 e3
    rw [e2]
    simp [Builtin.append_, ht, sizeOf, typeInfo, hi, Builtin.lenOf, Builtin.firstCells]
   ·injection e with e1 e2 e3
    subst e1 e3
    simp [Builtin.append_, ht, sizeOf, typeInfo, hi, Builtin.lenOf, Builtin.firstCells, hn, storeCells]
  | some ad => exact fin ad [] 0 rfl rfl (by simp)
 ·obtain ⟨ad, rfl, _, hc⟩ := hh (List.length_pos_iff.2 hy)
  exact fin ad (flatN qs) us.length rfl rfl hc
theorem wpList_appN {ops : Array Oper} {rest : List Oper} {o : Oper} {a : Act} {Q : Exit → Act → World → Prop} (hgd : Region.wanted o (yielded ops a.tmps) = true) (s x : Operand)
  (hop : o.op = .call { callee := .builtin .append, args := #[s, x], argTypes := #[127, 127] })
  (v : Value) (ts : List Nd) (hs : a.eval s = v) (ho : OwnN B w v ts) (A : Option Addr) (c : Nat) (us : List Nd) (n : Nat) (hx : a.eval x = .slice A n c) (hn : n = us.length) (hr : RdN w (fun k => v.ownBlock ≠ some k) A us)
  (hl : ts.length + us.length ≤ 1000000) (hB : B ≤ w.heap.size)
  (h : ∀ zs A' c' w', Hid (zs = ts ++ us) → OwnN B w' (.slice A' zs.length c') zs → Below B w w' → (∀ k, k < w.heap.size → some k ≠ v.ownBlock → w'.heap[k]? = w.heap[k]?) → wpList Tryz.prog ops Q rest (a.put o.dst (.slice A' zs.length c')) w') : wpList Tryz.prog ops Q (o :: rest) a w := by
 refine BigFrame.wpList_want hgd fun K hK => ?_
 subst hn
 obtain ⟨zs, A', c', w', e, hrun, h1, h2, h3⟩ := run_appN ho c hr hl hB o.type
 unfold Oper.wp execOp
 simp only [hop, resolve, invoke, builtin, Sem.run_bind, Sem.run_pure, Result.andThen_ok, List.map_toArray, List.map_cons, List.map_nil, hs, hx, hrun]
 exact hK _ _ (h zs A' c' w' e h1 h2 h3)
end
abbrev ndV (t : Nd) (P : Option Addr) (c : Nat) (Q : Option Addr) (d : Nat) : Value := .agg #[.int .i64 t.1, .slice P t.2.1.length c, .slice Q t.2.2.length d]
def Nb (W : World) (b : Nat) (op : Int) (P : Option Addr) (n c : Nat) (Q : Option Addr) (m d : Nat) : Prop := W.heap[b]? = some (.cells #[.int .i64 op, .slice P n c, .slice Q m d] 24 (0, 0))
section
variable {W W' : World} {b n c m d : Nat} {op : Int} {P Q : Option Addr}
theorem Nb.lt (h : Nb W b op P n c Q m d) : b < W.heap.size := (Array.getElem?_eq_some_iff.1 h).1
theorem Nb.c0 (h : Nb W b op P n c Q m d) : W.cell? ⟨b, 0, none⟩ = some (.int .i64 op) := by simp [World.cell?, show W.heap[b]? = _ from h]
theorem Nb.c1 (h : Nb W b op P n c Q m d) : W.cell? ⟨b, 1, none⟩ = some (.slice P n c) := by simp [World.cell?, show W.heap[b]? = _ from h]
theorem Nb.c2 (h : Nb W b op P n c Q m d) : W.cell? ⟨b, 2, none⟩ = some (.slice Q m d) := by simp [World.cell?, show W.heap[b]? = _ from h]
theorem Nb.f0 (h : Nb W b op P n c Q m d) (i : Nat) : W.frozen? ⟨b, i, none⟩ = false := by simp [World.frozen?, show W.heap[b]? = _ from h]
theorem Nb.kp (h : Nb W b op P n c Q m d) (k : Kp W W') : Nb W' b op P n c Q m d := (k.block b h.lt).trans h
theorem Nb.alloc_ (h : Nb W b op P n c Q m d) (o : Obj) : Nb (W.alloc o) b op P n c Q m d := h.kp (Kp.alloc_ W o)
theorem Nb.new (h : b = W.heap.size) : Nb (W.alloc (.cells #[.int .i64 op, .slice P n c, .slice Q m d] 24)) b op P n c Q m d := by
 subst h
 show (W.heap.push _)[W.heap.size]? = some _
 simp
end
def tailA (Q : Option Addr) (d : Nat) : Option Addr := if d = 1 then Q else Q.map (·.add 1)
theorem run_tail (W : World) (ad : Addr) (n c : Nat) (hj : 1 ≤ n) : (Instr.sliceAt 22 (.slice (some ad) n c) (some (.int .i64 1)) none none).run Tryz.prog W = .ok (.slice (tailA (some ad) c) (n - 1) (c - 1)) W := by
 have hu : Tryz.prog.underlying 22 = some (.slice (Tryz.prog.elem 22)) := by kernel_rfl
 have hsz : ((sizeOf (Tryz.prog.elem 22)).run Tryz.prog W) = .ok 1 W := by
  obtain ⟨i, hi, _, h1, _⟩ := info_parts int_info
  simp [sizeOf, typeInfo, show Tryz.prog.elem 22 = 3 by kernel_rfl, hi, h1]
 have := run_slice_l W 22 (some ad) n c hu .i64 1 (by omega) (by omega)
 rw [run_sliceAt_slice W _ _ _ _ _ hu, this, hsz]
 simp [Result.andThen, sliced, tailA]
theorem Rd.tail_ {w : World} {ad : Addr} {x : Int} {s : List Int} {d : Nat} (h : Rd w (some ad) (x :: s)) (hd : s.length + 1 ≤ d) : Rd w (tailA (some ad) d) s := by
 show Rd w (if d = 1 then some ad else some (ad.add 1)) s
 by_cases e : d = 1
 ·have : s = [] := List.eq_nil_of_length_eq_zero (by omega)
  rw [this]; exact Rd.nil _ _
 ·rw [if_neg e]
  refine ⟨by have := h.1; simp at this; omega, fun hp => ⟨_, rfl, ?_, fun j u hj => ?_⟩⟩
  ·obtain ⟨_, e, hb, _⟩ := h.2 (by simp)
   injection e with e
   subst e
   rw [block_of_add]; exact hb
  ·obtain ⟨_, e, _, hc⟩ := h.2 (by simp)
   injection e with e
   subst e
   rw [Addr.add_add, Nat.add_comm]
   exact hc (j + 1) u (by simpa using hj)
theorem first_cell {w : World} {Q : Option Addr} {l : List Int} (h : Rd w Q l) (hl : l ≠ []) : ∃ ad, Q = some ad ∧ ad.block < w.heap.size ∧ w.cell? ad = some (.int .i64 (l.getD 0 0)) ∧ 0 < l.length := by
 cases l with
 | nil => exact absurd rfl hl
 | cons x s =>
  obtain ⟨ad, y, e, hb, hx, hc⟩ := h.at_ (k := 0) (by simp)
  have e1 : ad.add 0 = ad := by unfold Addr.add; simp
  rw [e1] at hc
  have : x = y := by simpa using hx
  subst this
  exact ⟨ad, e, hb, hc, by simp⟩
theorem par_ne {n : Nd} (h : numsB n = true) (h2 : n.1 = 2) : n.2.2 ≠ [] := by
 unfold numsB at h
 rw [if_neg (by omega), if_pos h2] at h
 intro e
 rw [e] at h
 cases h
def Ck (r : Bool) (l : List Nd) (i : Nat) : Prop := (∀ (j : Nat) (n : Nd), j < i → l[j]? = some n → nodeB l j n = true) ∧ (r = true ↔ ∀ (j : Nat) (n : Nd), i ≤ j → l[j]? = some n → nodeB l j n = true)
theorem ck_start {l : List Nd} (h1 : 1 ≤ l.length) (h2 : l.length ≤ 24) : Ck (checkB l) l 0 := by
 refine ⟨fun j n h => by omega, ?_⟩
 rw [check_iff]
 exact ⟨fun h j n _ hn => h.2.2 j n hn, fun h => ⟨h1, h2, fun j n hn => h j n (Nat.zero_le _) hn⟩⟩
theorem ck_step {r : Bool} {l : List Nd} {i : Nat} {n : Nd} (h : Ck r l i) (hn : l[i]? = some n) (hb : nodeB l i n = true) : Ck r l (i + 1) := by
 refine ⟨fun j m hj hm => ?_, h.2.trans ⟨fun g j m hj hm => g j m (by omega) hm, fun g j m hj hm => ?_⟩⟩
 ·by_cases e : j = i
  ·subst e; rw [hn] at hm; injection hm with hm; subst hm; exact hb
  ·exact h.1 j m (by omega) hm
 ·by_cases e : j = i
  ·subst e; rw [hn] at hm; injection hm with hm; subst hm; exact hb
  ·exact g j m (by omega) hm
theorem ck_bad {r : Bool} {l : List Nd} {i : Nat} {n : Nd} (h : Ck r l i) (hn : l[i]? = some n) (hb : nodeB l i n = false) : r = false := by
 cases e : r with
 | false => rfl
 | true =>
  rw [h.2] at e
  rw [e i n (Nat.le_refl _) hn] at hb
  cases hb
theorem ck_end {r : Bool} {l : List Nd} {i : Nat} (h : Ck r l i) (hi : l.length ≤ i) : r = true := by
 rw [h.2]
 intro j n hj hn
 have := (List.getElem?_eq_some_iff.1 hn).1
 omega
theorem all_hd {p : Int → Bool} {s : List Int} {k : Nat} {x : Int} (h : s[k]? = some x) : (s.drop k).all p = (p x && (s.drop (k + 1)).all p) := by
 obtain ⟨hb, e⟩ := List.getElem?_eq_some_iff.1 h
 rw [List.drop_eq_getElem_cons hb, e]; rfl
theorem all_hdN {p : Nd → Bool} {s : List Nd} {k : Nat} {x : Nd} (h : s[k]? = some x) : (s.drop k).all p = (p x && (s.drop (k + 1)).all p) := by
 obtain ⟨hb, e⟩ := List.getElem?_eq_some_iff.1 h
 rw [List.drop_eq_getElem_cons hb, e]; rfl
theorem arity_le (op : Int) : arityV op ≤ 2 := by unfold arityV; repeat' split <;> omega
def W64 (l : List Int) : Prop := ∀ n ∈ l, -9223372036854775808 ≤ n ∧ n ≤ 9223372036854775807
def Nd64 (t : Nd) : Prop := W64 [t.1] ∧ W64 t.2.1 ∧ W64 t.2.2
theorem gal {w w' : World} (h : Kp w w') (o : Obj) : Kp w (w'.alloc o) := h.tr (Kp.alloc_ _ _)
theorem same_g {A B : Option Addr} {c d n m : Nat} (a b : List Int) {w : World} (h : Rd w A a) (g : Rd w B b) (hn : n = a.length) (hm : m = b.length) {r : Bool} (hr : (a == b) = r) :
  Calls Tryz.prog 12 #[.slice A n c, .slice B m d] w fun e w' => e = .returned (.bool r) ∧ Kp w w' :=
 (same_n a b h g hn hm hr).mono fun _ _ ⟨h1, k, h2⟩ => ⟨h1, by rw [h2]; exact Kp.drewN_ _ _⟩
end Go.Proofs.YtjkdcegmdfmjpaaGreat
