/- Layer 11's calls: what each answers, as one statement each. -/
import Derived.Test.YtnkkkpanlnencaaR11S
import Derived.Test.YtnkkkpanlnencaaR11G
namespace Go.Proofs.Ytnkkkpanlnencaa
open Go.RowKit Go.Proofs.ShM Go.Proofs.GrM Go.Proofs.InM

/-- A shape, with room, and an error. -/
def RetE (r : Sh) (k : Nat) (W : World) (e : Ending) (W' : World) : Prop :=
  ∃ A c, e = .returned (.tuple #[.slice A k c, .int .i64 r.2]) ∧ Hid (Rd W' A r.1) ∧ Hid (r.1.length ≤ c ∧ c ≤ 9223372036854775807) ∧ Kp W W'
/-- Shapes, a node's number and an error. -/
def RetE3 (r : List (List Int) × Int × Int) (k : Nat) (W : World) (e : Ending) (W' : World) : Prop :=
  ∃ A c, e = .returned (.tuple #[.slice A k c, .int .i64 r.2.1, .int .i64 r.2.2]) ∧ Hid (RdL W' A r.1) ∧ Hid (r.1.length ≤ c ∧ c ≤ 9223372036854775807) ∧ Kp W W'
/-- Few lists, of few numbers, all within the range of int. -/
def SmallL (gs : List (List Int)) : Prop := gs.length ≤ 100 ∧ ∀ s ∈ gs, s.length ≤ 100 ∧ W64 s
def SmallN (t : Nd) : Prop := t.2.1.length ≤ 100 ∧ t.2.2.length ≤ 100 ∧ Nd64 t
/-- What the calls answer. -/
structure InC : Prop where
  node : ∀ (t : Nd) (P Q A : Option Addr) (n m na c d e k : Nat) (gs : List (List Int)) (r : Sh) (W : World), Rd W P t.2.1 → Rd W Q t.2.2 → t.2.1.length ≤ c ∧ c ≤ 9223372036854775807 → t.2.2.length ≤ d ∧ d ≤ 9223372036854775807 → SmallN t → RdL W A gs → gs.length ≤ e ∧ e ≤ 9223372036854775807 → SmallL gs → n = t.2.1.length → m = t.2.2.length → na = gs.length → nodeV t.1 t.2.2 gs = r → r.1.length = k →
    Calls Try.prog 11 #[.agg #[.int .i64 t.1, .slice P n c, .slice Q m d], .slice A na e] W (RetE r k W)
  shapes : ∀ (A : Option Addr) (c m k : Nat) (l : List Nd) (r : List (List Int) × Int × Int) (W : World), RdG W A l → l.length ≤ c → c ≤ 9223372036854775807 → SmallG l → m = l.length → shapesV l = r → r.1.length = k →
    Calls Try.prog 13 #[.slice A m c] W (RetE3 r k W)
  check : ∀ (A : Option Addr) (c m : Nat) (l : List Nd) (b : Bool) (W : World), RdG W A l → l.length ≤ c → c ≤ 9223372036854775807 → SmallG l → m = l.length → checkB l = b →
    Calls Try.prog 17 #[.slice A m c] W fun e W' => e = .returned (.bool b) ∧ Kp W W'
end Go.Proofs.Ytnkkkpanlnencaa
