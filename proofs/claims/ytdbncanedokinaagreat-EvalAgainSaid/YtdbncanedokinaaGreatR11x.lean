import Derived.Test.YtdbncanedokinaaGreatInMem
import Derived.BigQuiet
import Derived.Deep.RegionLaw
import Derived.Deep.RegionHeld3
import Derived.Deep.DeepCutAuto
import Derived.Test.YtdbncanedokinaaGreatInMex
set_option maxRecDepth 100000
/- The document's layer 11: a list without a place, with another number there, whether there is such a side, a shape that may be. -/
namespace Go.Proofs.YtdbncanedokinaaGreat
open Go.RowKit Go.Proofs.ShM Go.Proofs.GrM Go.Proofs.InM
set_option linter.unusedVariables false
set_option maxHeartbeats 4000000

/-- Numbers of the call's own. -/
def RetW (xs : List Int) (w : World) (e : Ending) (w' : World) : Prop := ∃ A c, e = .returned (.slice A xs.length c) ∧ Own w.heap.size w' (.slice A xs.length c) xs ∧ Kp w w'
theorem RetW.on {xs : List Int} {n c : Nat} {A : Option Addr} {w w' : World} (hn : n = xs.length) (h : Own w.heap.size w' (.slice A n c) xs) (k : Kp w w') : RetW xs w (.returned (.slice A n c)) w' := by
  subst hn; exact ⟨A, c, rfl, h, k⟩
section
variable {w : World} {A : Option Addr} {x : List Int}
/-- What is left of a list behind its first j numbers. -/
def cutI (A : Option Addr) (c j : Nat) : Option Addr := if c = j then A else A.map (·.add j)
theorem Rd.cutI (h : Rd w A x) {c j : Nat} (hc : x.length ≤ c) : Rd w (cutI A c j) (x.drop j) := by
  unfold Go.Proofs.YtdbncanedokinaaGreat.cutI
  split
  · rename_i e
    rw [List.drop_eq_nil_of_le (by omega)]; exact Rd.nil _ _
  · refine ⟨by have := h.1; simp; omega, fun hp => ?_⟩
    obtain ⟨ad, rfl, hb, hcs⟩ := h.2 (by simp at hp; omega)
    refine ⟨ad.add j, rfl, by rw [block_of_add]; exact hb, fun i u hu => ?_⟩
    rw [List.getElem?_drop] at hu
    rw [add_of_add]
    exact hcs _ _ hu
/-- A slice of all from the j-th on. -/
theorem run_cutI (W : World) (A : Option Addr) (n c j : Nat) (hj : j ≤ n) : (Instr.sliceAt 23 (.slice A n c) (some (.int .i64 (j : Int))) none none).run Tryz.prog W = .ok (.slice (cutI A c j) (n - j) (c - j)) W := by
  have hu : Tryz.prog.underlying 23 = some (.slice (Tryz.prog.elem 23)) := by kernel_rfl
  have hsz : ((sizeOf (Tryz.prog.elem 23)).run Tryz.prog W) = .ok 1 W := by
    obtain ⟨i, hi, _, h1, _⟩ := info_parts int_info
    simp [sizeOf, typeInfo, show Tryz.prog.elem 23 = 3 by kernel_rfl, hi, h1]
  rw [run_sliceAt_slice W _ _ _ _ _ hu, run_slice_l W _ A n c hu .i64 j (by omega) (by omega), hsz]
  simp [Result.andThen, sliced, cutI]
end
theorem Own.addrI {w : World} {A : Option Addr} {xs : List Int} {b n c : Nat} (h : Own b w (.slice A n c) xs) (hx : 0 < xs.length) : ∃ g, A = some ⟨g, 0, none⟩ ∧ b ≤ g ∧ g < w.heap.size := by
  rcases h.2 with ⟨e, h0⟩ | ⟨g, cap, cur, e, hb, hh, _⟩
  · omega
  · injection e with e1 _ _
    exact ⟨g, e1, hb, (Array.getElem?_eq_some_iff.1 hh).1⟩
end Go.Proofs.YtdbncanedokinaaGreat

/- The document's layer 11: whether a node, alone, may be. -/
namespace Go.Proofs.YtdbncanedokinaaGreat
open Go.RowKit Go.Proofs.ShM Go.Proofs.GrM Go.Proofs.InM
set_option linter.unusedVariables false
set_option maxHeartbeats 4000000

end Go.Proofs.YtdbncanedokinaaGreat

/- The document's Join once more: what it answers is the call's own. -/
namespace Go.Proofs.YtdbncanedokinaaGreat
open Go.RowKit Go.Proofs.ShM
set_option linter.unusedVariables false
set_option linter.unusedSimpArgs false

/-- A list of the call's own, and an error. -/
def RetJ (r : List Int × Int) (w : World) (e : Ending) (w' : World) : Prop := ∃ A c B, e = .returned (.tuple #[.slice A r.1.length c, .int .i64 r.2]) ∧ Own B w' (.slice A r.1.length c) r.1 ∧ w.heap.size ≤ B ∧ Kp w w'
theorem RetJ.mk_ {r : List Int × Int} {zs : List Int} {err : Int} {w w' : World} {A : Option Addr} {n c B : Nat} (hr : r = (zs, err)) (hn : n = zs.length) (hs : Own B w' (.slice A n c) zs) (hB : w.heap.size ≤ B) (hk : Kp w w') :
    RetJ r w (.returned (.tuple #[.slice A n c, .int .i64 err])) w' := by
  subst hr hn
  exact ⟨A, c, B, rfl, hs, hB, hk⟩
theorem RetJ.err_ {r : List Int × Int} {err : Int} {w w' : World} (hr : r = ([], err)) (hk : Kp w w') : RetJ r w (.returned (.tuple #[.slice none 0 0, .int .i64 err])) w' :=
  RetJ.mk_ hr rfl (Own.nil_ _ _) (Nat.le_refl _) hk

end Go.Proofs.YtdbncanedokinaaGreat

/- The document's layer 11: products, parts, what is taken together. -/
namespace Go.Proofs.YtdbncanedokinaaGreat
open Go.RowKit Go.Proofs.ShM Go.Proofs.GrM Go.Proofs.InM
set_option linter.unusedVariables false
set_option linter.unusedSimpArgs false
set_option maxHeartbeats 8000000

/-- A shape and an error: the numbers lie in blocks of X, or are new. -/
def RetM (X : Nat → Prop) (r : Sh) (W : World) (e : Ending) (W' : World) : Prop :=
  ∃ A c, e = .returned (.tuple #[.slice A r.1.length c, .int .i64 r.2]) ∧ Hid (Rd W' A r.1) ∧ Hid (r.1.length ≤ c ∧ c ≤ 9223372036854775807) ∧ Hid (∀ ad, A = some ad → 0 < r.1.length → X ad.block ∨ W.heap.size ≤ ad.block) ∧ Kp W W'
theorem RetM.none_ {X : Nat → Prop} {W W' : World} (k : Kp W W') (e : Int) : RetM X ([], e) W (.returned (.tuple #[.slice none 0 0, .int .i64 e])) W' :=
  ⟨none, 0, rfl, Rd.nil _ _, ⟨by simp, by omega⟩, (fun ad h => by cases h), k⟩
theorem RetM.own {X : Nat → Prop} {W W' : World} {A : Option Addr} {s : List Int} {n c B : Nat} (hn : n = s.length) (h : Own B W' (.slice A n c) s) (hB : W.heap.size ≤ B) (k : Kp W W') (e : Int) :
    RetM X (s, e) W (.returned (.tuple #[.slice A n c, .int .i64 e])) W' := by
  subst hn
  refine ⟨A, c, rfl, h.sl.rd, ⟨h.sl.le, h.sl.cap⟩, (fun ad hA hp => .inr ?_), k⟩
  obtain ⟨g, e', hb, _⟩ := h.addrI hp
  rw [hA] at e'; injection e' with e'; rw [e']; show _ ≤ g; omega
section
variable {w : World} {A : Option Addr} {x y z : Int}
end

end Go.Proofs.YtdbncanedokinaaGreat

/- The document's layer 11: Node. -/
namespace Go.Proofs.YtdbncanedokinaaGreat
open Go.RowKit Go.Proofs.ShM Go.Proofs.GrM Go.Proofs.InM
set_option linter.unusedVariables false
set_option linter.unusedSimpArgs false
set_option maxHeartbeats 8000000

theorem RetM.up {X : Nat → Prop} {r : Sh} {W V W' : World} {e : Ending} (k : Kp W V) (h : RetM X r V e W') : RetM X r W e W' := by
  obtain ⟨A, c, h1, h2, h3, h4, h5⟩ := h
  exact ⟨A, c, h1, h2, h3, (fun ad h h' => (h4.out ad h h').imp id (fun g => Nat.le_trans k.size g)), k.tr h5⟩
section
variable {w : World} {X : Nat → Prop} {A : Option Addr} {a b : List Int} {gs : List (List Int)}
end
end Go.Proofs.YtdbncanedokinaaGreat

/- The document's layer 11: Node: another shape, turned, products and parts. -/
namespace Go.Proofs.YtdbncanedokinaaGreat
open Go.RowKit Go.Proofs.ShM Go.Proofs.GrM Go.Proofs.InM
set_option linter.unusedVariables false
set_option linter.unusedSimpArgs false
set_option maxHeartbeats 8000000

end Go.Proofs.YtdbncanedokinaaGreat

/- The document's layer 11: Node: turned, products and parts. -/
namespace Go.Proofs.YtdbncanedokinaaGreat
open Go.RowKit Go.Proofs.ShM Go.Proofs.GrM Go.Proofs.InM
set_option linter.unusedVariables false
set_option linter.unusedSimpArgs false
set_option maxHeartbeats 8000000

end Go.Proofs.YtdbncanedokinaaGreat

/- The document's layer 11: Node whole. -/
namespace Go.Proofs.YtdbncanedokinaaGreat
open Go.RowKit Go.Proofs.ShM Go.Proofs.GrM Go.Proofs.InM
set_option linter.unusedVariables false
set_option maxHeartbeats 4000000

theorem arity_ops {op : Int} (h : 0 ≤ arityV op) : op = 1 ∨ op = 2 ∨ op = 3 ∨ op = 10 ∨ op = 11 ∨ op = 12 ∨ op = 13 ∨ op = 30 ∨ op = 43 ∨ op = 20 ∨ op = 21 ∨ op = 22 ∨ op = 23 ∨ op = 40 ∨ op = 41 ∨ op = 42 ∨ op = 50 ∨ op = 51 ∨ op = 52 := by
  unfold arityV at h
  split at h
  · omega
  · split at h
    · omega
    · split at h <;> omega
end Go.Proofs.YtdbncanedokinaaGreat

/- The document's layer 11: Few, Same, Shapes. -/
namespace Go.Proofs.YtdbncanedokinaaGreat
open Go.RowKit Go.Proofs.ShM Go.Proofs.GrM Go.Proofs.InM
set_option linter.unusedVariables false
set_option maxHeartbeats 8000000

end Go.Proofs.YtdbncanedokinaaGreat

/- The document's layer 11: Shapes. -/
namespace Go.Proofs.YtdbncanedokinaaGreat
open Go.RowKit Go.Proofs.ShM Go.Proofs.GrM Go.Proofs.InM
set_option linter.unusedVariables false
set_option maxHeartbeats 8000000

/-- Lists, a number and an error. -/
def RetSS (r : List (List Int) × Int × Int) (W : World) (e : Ending) (W' : World) : Prop :=
  ∃ A c, e = .returned (.tuple #[.slice A r.1.length c, .int .i64 r.2.1, .int .i64 r.2.2]) ∧ Hid (RdL W' A r.1) ∧ Hid (r.1.length ≤ c ∧ c ≤ 9223372036854775807) ∧ Kp W W'
theorem RetSS.none_ {W W' : World} (k : Kp W W') (i e : Int) : RetSS ([], i, e) W (.returned (.tuple #[.slice none 0 0, .int .i64 i, .int .i64 e])) W' :=
  ⟨none, 0, rfl, RdLX.nil_ _ _ _, ⟨by simp, by omega⟩, k⟩
theorem args_take {acc : List (List Int)} {l : List Int} {j a : Nat} {s : List Int} (h : l[j]? = some (a : Int)) (hs : acc[a]? = some s) : argsOf acc (l.take (j + 1)) = argsOf acc (l.take j) ++ [s] := by
  unfold argsOf
  rw [take_of h, List.map_append]
  congr 1
  show [acc.getD ((a : Int)).toNat []] = [s]
  rw [Int.toNat_natCast, List.getD, hs]; rfl
end Go.Proofs.YtdbncanedokinaaGreat

/- Layer 11's calls: what each answers, as one statement each. -/
namespace Go.Proofs.YtdbncanedokinaaGreat
open Go.RowKit Go.Proofs.ShM Go.Proofs.GrM Go.Proofs.InM

/-- A shape, with room, and an error. -/
def RetE (r : Sh) (k : Nat) (W : World) (e : Ending) (W' : World) : Prop :=
  ∃ A c, e = .returned (.tuple #[.slice A k c, .int .i64 r.2]) ∧ Hid (Rd W' A r.1) ∧ Hid (r.1.length ≤ c ∧ c ≤ 9223372036854775807) ∧ Kp W W'
/-- Shapes, a node's number and an error. -/
def RetE3 (r : List (List Int) × Int × Int) (k : Nat) (W : World) (e : Ending) (W' : World) : Prop :=
  ∃ A c, e = .returned (.tuple #[.slice A k c, .int .i64 r.2.1, .int .i64 r.2.2]) ∧ Hid (RdL W' A r.1) ∧ Hid (r.1.length ≤ c ∧ c ≤ 9223372036854775807) ∧ Kp W W'
/-- Few lists, of few numbers, all within the range of int. -/
def SmallL (gs : List (List Int)) : Prop := gs.length ≤ 100 ∧ ∀ s ∈ gs, s.length ≤ 100 ∧ W64 s
def SmallN (t : Nd) : Prop := t.2.1.length ≤ 100 ∧ t.2.2.length ≤ 100 ∧ Nd64 t
/-- What the calls answer. -/
structure InC : Prop where
  node : ∀ (t : Nd) (P Q A : Option Addr) (n m na c d e k : Nat) (gs : List (List Int)) (r : Sh) (W : World), Rd W P t.2.1 → Rd W Q t.2.2 → t.2.1.length ≤ c ∧ c ≤ 9223372036854775807 → t.2.2.length ≤ d ∧ d ≤ 9223372036854775807 → SmallN t → RdL W A gs → gs.length ≤ e ∧ e ≤ 9223372036854775807 → SmallL gs → n = t.2.1.length → m = t.2.2.length → na = gs.length → nodeV t.1 t.2.2 gs = r → r.1.length = k →
    Calls Tryz.prog 22 #[.agg #[.int .i64 t.1, .slice P n c, .slice Q m d], .slice A na e] W (RetE r k W)
  shapes : ∀ (A : Option Addr) (c m k : Nat) (l : List Nd) (r : List (List Int) × Int × Int) (W : World), RdG W A l → l.length ≤ c → c ≤ 9223372036854775807 → SmallG l → m = l.length → shapesV l = r → r.1.length = k →
    Calls Tryz.prog 11 #[.slice A m c] W (RetE3 r k W)
  check : ∀ (A : Option Addr) (c m : Nat) (l : List Nd) (b : Bool) (W : World), RdG W A l → l.length ≤ c → c ≤ 9223372036854775807 → SmallG l → m = l.length → checkB l = b →
    Calls Tryz.prog 16 #[.slice A m c] W fun e W' => e = .returned (.bool b) ∧ Kp W W'
end Go.Proofs.YtdbncanedokinaaGreat
