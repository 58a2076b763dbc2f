import Derived.Handy
import Derived.Lib.Bytes
import GoSem.Op.String
import Derived.Test.YtdbncanedokinaaGreatShAll
set_option maxRecDepth 100000
/- Plain facts of layer 8: numbers as bytes, lists of numbers as bytes. No program stands here. -/
namespace Go.Proofs.PkM

/-! ### A number's bytes -/
/-! ### What the calls answer -/
/-! ### What follows -/
end Go.Proofs.PkM

/- Plain facts of layer 8's laws: bytes as strings, how they stand, what is cut, many numbers, numbers in more bytes. -/
namespace Go.Proofs.PkM
open Go

/-! ### Bytes as strings -/
/-! ### How they stand -/
/-! ### What is cut -/
/-! ### Many numbers -/
/-! ### In more bytes -/
end Go.Proofs.PkM

/- Layer 8, plain facts: a number's bytes one by one, the number of bytes one by one, lists that end early. No program stands here. -/
namespace Go.Proofs.PkM

/-! ### A number of bytes -/
/-! ### Lists -/
end Go.Proofs.PkM

/- A []byte: what it reads as, one of the call's own: appended to, made, stored into (as the texts of []int, in a namespace of its own). -/
namespace Go.Proofs.YtdbncanedokinaaGreat.B8
open Go.RowKit Go.Proofs.YtdbncanedokinaaGreat


/-- The cells from A on are the numbers xs. -/
def Rd (w : World) (A : Option Addr) (xs : List Int) : Prop :=
  xs.length ≤ 9223372036854775807 ∧ (0 < xs.length → ∃ ad, A = some ad ∧ ad.block < w.heap.size ∧ ∀ j u, xs[j]? = some u → w.cell? (ad.add j) = some (.int .u8 u))
/-- The value is a []int of the numbers xs. -/
def Ints (w : World) (v : Value) (xs : List Int) : Prop := ∃ A c, v = .slice A xs.length c ∧ xs.length ≤ c ∧ c ≤ maxLen ∧ Rd w A xs

section
variable {w w' : World} {A : Option Addr} {xs : List Int} {v : Value}
theorem Rd.nil (w : World) (A : Option Addr) : Rd w A [] := ⟨by simp, fun h => absurd h (by simp)⟩
theorem Rd.len (h : Rd w A xs) : xs.length ≤ 9223372036854775807 := h.1
theorem Rd.at_ (h : Rd w A xs) {k : Nat} (hk : k < xs.length) : ∃ ad x, A = some ad ∧ ad.block < w.heap.size ∧ xs[k]? = some x ∧ w.cell? (ad.add k) = some (.int .u8 x) := by
  obtain ⟨ad, e, hb, hc⟩ := h.2 (by omega)
  exact ⟨ad, xs[k], e, hb, List.getElem?_eq_getElem hk, hc k _ (List.getElem?_eq_getElem hk)⟩
theorem Rd.keep (h : Rd w A xs) (hs : w.heap.size ≤ w'.heap.size) (hk : ∀ p : Addr, p.block < w.heap.size → w'.cell? p = w.cell? p) : Rd w' A xs :=
  ⟨h.1, fun hn => by
    obtain ⟨ad, e, hb, hc⟩ := h.2 hn
    exact ⟨ad, e, Nat.lt_of_lt_of_le hb hs, fun j u hu => (hk _ (by rw [block_of_add]; exact hb)).trans (hc j u hu)⟩⟩
theorem Rd.kp (h : Rd w A xs) (k : Kp w w') : Rd w' A xs := h.keep k.size fun _ hp => k.cell hp
theorem Ints.kp (h : Ints w v xs) (k : Kp w w') : Ints w' v xs := by
  obtain ⟨A, c, e, h1, h2, h3⟩ := h
  exact ⟨A, c, e, h1, h2, h3.kp k⟩
theorem Rd.drew (h : Rd w A xs) : Rd w.drew A xs := h
theorem Rd.drewN (h : Rd w A xs) (k : Nat) : Rd (w.drewN k) A xs := h
theorem Rd.below {B : Nat} (h : Rd w A xs) (hB : w.heap.size ≤ B) (k : Below B w w') : Rd w' A xs := h.kp (k.mono hB)
theorem Ints.nil (w : World) : Ints w (.slice none 0 0) [] := ⟨none, 0, rfl, by simp, by simp, Rd.nil _ _⟩
theorem Ints.of_own {base : Nat} {e : TypeId} (h : w.ownsRow base e 1 v xs.length (xs.map (Value.int .u8))) : Ints w v xs := by
  have hl := h
  rcases h.2 with ⟨rfl, h0⟩ | ⟨g, cap, cur, rfl, _, hh, hn, hc, hcs, ht⟩
  · have : xs = [] := List.eq_nil_of_length_eq_zero h0
    subst this
    exact Ints.nil w
  · refine ⟨_, cap, rfl, hn, hc, by unfold maxLen at hc; omega, fun hp => ⟨_, rfl, ?_, fun j u hu => ?_⟩⟩
    · obtain ⟨g', cap', e', _, hlt⟩ := hl.form hp
      injection e' with e1
      injection e1 with e1
      injection e1 with e1
      subst e1; exact hlt
    · exact hl.cells (g := g) rfl j (.int .u8 u) (by simp [hu])
end

/-- The value is a []int of the call's own (its row lies from block B on): the numbers xs. -/
def Own (B : Nat) (w : World) (v : Value) (xs : List Int) : Prop := w.ownsRow B 5 1 v xs.length (xs.map (Value.int .u8))

section
variable {w w' : World} {B : Nat} {v : Value} {xs ys : List Int} {A : Option Addr}
theorem Own.ints (h : Own B w v xs) : Ints w v xs := Ints.of_own h
theorem Own.form (h : Own B w v xs) : ∃ A c, v = .slice A xs.length c ∧ Rd w A xs := by
  obtain ⟨A, c, e, _, _, hr⟩ := h.ints
  exact ⟨A, c, e, hr⟩
theorem Own.nil_ (w : World) (B : Nat) : Own B w (.slice none 0 0) [] := World.ownsRow_nil w B 5 1
theorem Own.from_ (h : Own B w v xs) {k : Nat} (hk : v.ownBlock = some k) : B ≤ k := by
  rcases h.2 with ⟨rfl, _⟩ | ⟨g, cap, cur, rfl, hb, _⟩
  · cases hk
  · have : g = k := by simpa [Value.ownBlock] using hk
    omega
theorem Own.drew (h : Own B w v xs) : Own B w.drew v xs := h
theorem Own.drewN (h : Own B w v xs) (n : Nat) : Own B (w.drewN n) v xs := h
theorem Own.of_block (h : Own B w v xs) (hk : ∀ g, v.ownBlock = some g → w'.heap[g]? = w.heap[g]?) : Own B w' v xs := by
  refine ⟨h.1, ?_⟩
  rcases h.2 with h0 | ⟨g, cap, cur, rfl, hb, hg, r⟩
  · exact .inl h0
  · exact .inr ⟨g, cap, cur, rfl, hb, (hk g rfl).trans hg, r⟩
theorem Own.kp (h : Own B w v xs) (k : Kp w w') : Own B w' v xs := h.of_block fun g hg => k.block g (by
  rcases h.2 with ⟨rfl, _⟩ | ⟨g', cap, cur, rfl, _, hh, _⟩
  · cases hg
  · injection hg with hg
    subst hg
    rcases Nat.lt_or_ge g' w.heap.size with hlt | hge
    · exact hlt
    · rw [Array.getElem?_eq_none hge] at hh; cases hh)
theorem Rd.lit (w : World) (xs : List Int) (h : xs.length ≤ 1000000) (t : TypeId) : Rd (w.alloc (.cells (xs.map (Value.int .u8)).toArray t)) (some ⟨w.heap.size, 0, none⟩) xs :=
  ⟨by omega, fun _ => ⟨_, rfl, by simp, fun j u hu => by
    rw [Go.WideShapes.add_plain, Nat.zero_add, World.cell?_alloc_at _ t _ j rfl]
    simp [hu]⟩⟩
theorem Own.lit (w : World) (xs : List Int) (h : xs.length ≤ 1000000) (hB : B ≤ w.heap.size) :
    Own B (w.alloc (.cells (xs.map (Value.int .u8)).toArray 5)) (.slice (some ⟨w.heap.size, 0, none⟩) xs.length xs.length) xs := by
  have := World.ownsRow_lit (base := B) (e := 5) (size := 1) w (xs.map (Value.int .u8)).toArray xs.length hB (by unfold maxLen; omega) (by simp)
  simpa [Own] using this

theorem Own.zero (w : World) (hB : B ≤ w.heap.size) : Own B (w.alloc (.cells #[] 5)) (.slice (some ⟨w.heap.size, 0, none⟩) 0 0) [] := Own.lit w [] (by simp) hB
theorem Own.one (w : World) (x : Int) (hB : B ≤ w.heap.size) : Own B (w.alloc (.cells #[.int .u8 x] 5)) (.slice (some ⟨w.heap.size, 0, none⟩) 1 1) [x] := Own.lit w [x] (by simp) hB
theorem Own.two (w : World) (x y : Int) (hB : B ≤ w.heap.size) : Own B (w.alloc (.cells #[.int .u8 x, .int .u8 y] 5)) (.slice (some ⟨w.heap.size, 0, none⟩) 2 2) [x, y] := Own.lit w [x, y] (by simp) hB
theorem Rd.one (w : World) (x : Int) (t : TypeId) : Rd (w.alloc (.cells #[.int .u8 x] t)) (some ⟨w.heap.size, 0, none⟩) [x] := Rd.lit w [x] (by simp) t
theorem Rd.two (w : World) (x y : Int) (t : TypeId) : Rd (w.alloc (.cells #[.int .u8 x, .int .u8 y] t)) (some ⟨w.heap.size, 0, none⟩) [x, y] := Rd.lit w [x, y] (by simp) t
theorem Rd.alloc_ (h : Rd w A xs) (o : Obj) : Rd (w.alloc o) A xs := h.kp (Kp.alloc_ w o)
/-- The number in a slice's slot: how long it is. -/
def lenOf : Value → Nat | .slice _ n _ => n | _ => 0

/-- Stored into. -/
theorem Own.set_ {g cap n : Nat} {xs : List Int} (h : Own B w (.slice (some ⟨g, 0, none⟩) n cap) xs) (j : Nat) (u : Int) : Own B (w.setCell ⟨g, j, none⟩ (.int .u8 u)) (.slice (some ⟨g, 0, none⟩) n cap) (xs.set j u) := by
  have hn : n = xs.length := by
    obtain ⟨A, c, e, _⟩ := h.form
    injection e
  subst hn
  have := (World.ownsRow.stored h j (.int .u8 u)).1
  simpa [Own, List.map_set] using this
theorem Own.cell_ {g cap n : Nat} {xs : List Int} (h : Own B w (.slice (some ⟨g, 0, none⟩) n cap) xs) {j : Nat} {u : Int} (hu : xs[j]? = some u) : w.cell? ⟨g, j, none⟩ = some (.int .u8 u) := by
  have hn : n = xs.length := by
    obtain ⟨A, c, e, _⟩ := h.form
    injection e
  subst hn
  rw [World.ownsRow.cellAt h j (by have := (List.getElem?_eq_some_iff.1 hu).1; omega)]
  simp [hu]
theorem Own.froz_ {g cap n : Nat} {xs : List Int} (h : Own B w (.slice (some ⟨g, 0, none⟩) n cap) xs) (j : Nat) : w.frozen? ⟨g, j, none⟩ = false := by
  have hn : n = xs.length := by
    obtain ⟨A, c, e, _⟩ := h.form
    injection e
  subst hn
  exact World.ownsRow.frozenAt h j
end
end Go.Proofs.YtdbncanedokinaaGreat.B8

/- Layer 8's calls: what each answers, as one statement each; bytes as strings, for the walk. -/
namespace Go.Proofs.YtdbncanedokinaaGreat
open Go.RowKit Go.Proofs.ShM Go.Proofs.PkM
set_option linter.unusedVariables false

end Go.Proofs.YtdbncanedokinaaGreat
