import Derived.Test.YtdcpekkkenckeaaRows
import Derived.WalkKit
import Derived.WalkSpells
import Derived.WalkLawsBesides
import Derived.Handy
import Derived.Below
import Derived.Lib.Hide
import Derived.Laws.OwnMore
import Derived.Laws.MakeOwn
import Derived.Laws.NewBlocks
import Derived.Deep.AppendLies
import Derived.Deep.Draws
import Derived.Maps.AppendAt
import Derived.OwnWalk
import Derived.BigQuiet
import Derived.Deep.QuietTactic
import Derived.ChangeSlices
import Derived.Outline
import Derived.WalkMore
import Derived.Deep.LoopGhost
import Derived.RegionTactic
set_option maxRecDepth 100000
/- Plain arithmetic under layer 2 (shape): what the document says each call answers, and the steps of the ways by which the code reckons it. No program stands here. -/
namespace Go.Proofs.ShM

/-! ### What is answered -/
def prodS : List Int → Int
  | [] => 1
  | x :: s => x * prodS s
def sideB (x : Int) : Bool := decide (1 ≤ x ∧ x ≤ 16)
/-- Whether it may be. -/
def okS (s : List Int) : Bool := decide (s.length ≤ 3) && (s.all sideB && decide (prodS s ≤ 64))
def sizeV (s : List Int) : Int := if okS s = true then prodS s else 0
/-- The index that so many stand ahead of. -/
def digs : List Int → Int → List Int
  | [], _ => []
  | _ :: s, p => (p / prodS s) :: digs s (p % prodS s)
def indexV (s : List Int) (p : Int) : List Int × Int := if 0 ≤ p ∧ p < sizeV s then (digs s p, 0) else ([], 20)
def inIdx : List Int → List Int → Bool
  | [], [] => true
  | x :: s, i :: t => decide (0 ≤ i ∧ i < x) && inIdx s t
  | _, _ => false
def plc : List Int → List Int → Int
  | _ :: s, i :: t => i * prodS s + plc s t
  | _, _ => 0
def placeV (s t : List Int) : Int × Int := if (okS s && inIdx s t) = true then (plc s t, 0) else (0, 20)
/-- Two sides at one place. -/
def jn (x y : Int) : Option Int := if x = y ∨ y = 1 then some x else if x = 1 then some y else none
/-- Two shapes of as many sides. -/
def joinL : List Int → List Int → Option (List Int)
  | x :: s, y :: t => (jn x y).bind fun h => (joinL s t).map (h :: ·)
  | _, _ => some []
def pad (n : Nat) (s : List Int) : List Int := List.replicate (n - s.length) 1 ++ s
def joinO (a b : List Int) : Option (List Int) := joinL (pad (max a.length b.length) a) (pad (max a.length b.length) b)
def joinV (a b : List Int) : List Int × Int :=
  if (okS a && okS b) = true then match joinO a b with
    | some l => if okS l = true then (l, 0) else ([], 20)
    | none => ([], 20)
  else ([], 20)
def fitsV (a b : List Int) : Bool := decide (joinV a b = (b, 0))

/-! ### Sides -/
theorem sideB_iff {x : Int} : sideB x = true ↔ 1 ≤ x ∧ x ≤ 16 := by unfold sideB; simp
theorem ok_iff {s : List Int} : okS s = true ↔ s.length ≤ 3 ∧ s.all sideB = true ∧ prodS s ≤ 64 := by unfold okS; simp
theorem prod_pos {s : List Int} (h : s.all sideB = true) : 1 ≤ prodS s := by
  induction s with
  | nil => simp [prodS]
  | cons x s ih =>
    simp only [List.all_cons, Bool.and_eq_true] at h
    have h1 := (sideB_iff.1 h.1).1
    have h2 := ih h.2
    have := Int.mul_le_mul h1 h2 (by omega) (by omega)
    simpa [prodS] using this
theorem prod_append (s t : List Int) : prodS (s ++ t) = prodS s * prodS t := by
  induction s with
  | nil => simp [prodS]
  | cons x s ih => simp [prodS, ih, Int.mul_assoc]
theorem prod_snoc (s : List Int) (x : Int) : prodS (s ++ [x]) = prodS s * x := by simp [prod_append, prodS]
theorem prod_le {s : List Int} (h : s.all sideB = true) : prodS s ≤ ((16 ^ s.length : Nat) : Int) := by
  induction s with
  | nil => simp [prodS]
  | cons x s ih =>
    simp only [List.all_cons, Bool.and_eq_true] at h
    have h1 := sideB_iff.1 h.1
    have h2 := ih h.2
    have h3 := prod_pos h.2
    have h4 := Int.mul_le_mul h1.2 h2 (by omega) (by omega)
    simp only [prodS, List.length_cons]
    rw [Nat.pow_succ, Nat.mul_comm]
    push_cast at *
    omega
theorem prod_le2 {s : List Int} (h : s.all sideB = true) (hk : s.length ≤ 2) : prodS s ≤ 256 := by
  have := prod_le h
  have hp : (16 ^ s.length : Nat) ≤ 16 ^ 2 := Nat.pow_le_pow_right (by omega) hk
  omega
theorem prod_le3 {s : List Int} (h : s.all sideB = true) (hk : s.length ≤ 3) : prodS s ≤ 4096 := by
  have := prod_le h
  have hp : (16 ^ s.length : Nat) ≤ 16 ^ 3 := Nat.pow_le_pow_right (by omega) hk
  omega
theorem drop_of {α : Type} {s : List α} {k : Nat} {x : α} (h : s[k]? = some x) : s.drop k = x :: s.drop (k + 1) := by
  obtain ⟨hk, rfl⟩ := List.getElem?_eq_some_iff.1 h
  exact List.drop_eq_getElem_cons hk
theorem take_of {α : Type} {s : List α} {k : Nat} {x : α} (h : s[k]? = some x) : s.take (k + 1) = s.take k ++ [x] := by
  obtain ⟨hk, rfl⟩ := List.getElem?_eq_some_iff.1 h
  rw [List.take_succ_eq_append_getElem hk]
theorem all_take_of {s : List Int} {k : Nat} {x : Int} (h : s[k]? = some x) : (s.take (k + 1)).all sideB = ((s.take k).all sideB && sideB x) := by
  rw [take_of h]; simp
theorem all_false_of {s : List Int} {k : Nat} {x : Int} (h : s[k]? = some x) (hx : sideB x = false) : s.all sideB = false := by
  rw [List.all_eq_false]
  exact ⟨x, List.mem_of_getElem? h, by simp [hx]⟩
theorem all_drop {s : List Int} (h : s.all sideB = true) (k : Nat) : (s.drop k).all sideB = true := by
  rw [List.all_eq_true] at *
  exact fun x hx => h x (List.mem_of_mem_drop hx)
theorem all_take {s : List Int} (h : s.all sideB = true) (k : Nat) : (s.take k).all sideB = true := by
  rw [List.all_eq_true] at *
  exact fun x hx => h x (List.mem_of_mem_take hx)
theorem side_of {s : List Int} (h : s.all sideB = true) {k : Nat} {x : Int} (hx : s[k]? = some x) : 1 ≤ x ∧ x ≤ 16 :=
  sideB_iff.1 (List.all_eq_true.1 h x (List.mem_of_getElem? hx))

/-! ### Size -/
theorem size_long {s : List Int} (h : 3 < s.length) : sizeV s = 0 := by
  unfold sizeV; rw [if_neg]; intro c; have := (ok_iff.1 c).1; omega
theorem size_side {s : List Int} (h : s.all sideB = false) : sizeV s = 0 := by
  unfold sizeV; rw [if_neg]; intro c; have := (ok_iff.1 c).2.1; rw [h] at this; cases this
theorem size_big {s : List Int} (h : 64 < prodS s) : sizeV s = 0 := by
  unfold sizeV; rw [if_neg]; intro c; have := (ok_iff.1 c).2.2; omega
theorem size_fit {s : List Int} (h1 : s.length ≤ 3) (h2 : s.all sideB = true) (h3 : prodS s ≤ 64) : sizeV s = prodS s := by
  unfold sizeV; rw [if_pos (ok_iff.2 ⟨h1, h2, h3⟩)]
theorem size_ok {s : List Int} (h : okS s = true) : sizeV s = prodS s := by unfold sizeV; rw [if_pos h]
theorem size_no {s : List Int} (h : okS s = false) : sizeV s = 0 := by unfold sizeV; rw [if_neg (by simp [h])]
theorem ok_prod {s : List Int} (h : okS s = true) : 1 ≤ prodS s ∧ prodS s ≤ 64 := ⟨prod_pos (ok_iff.1 h).2.1, (ok_iff.1 h).2.2⟩
theorem size_pos {s : List Int} : decide (0 < sizeV s) = okS s := by
  cases h : okS s with
  | true => have := ok_prod h; rw [size_ok h]; simp; omega
  | false => rw [size_no h]; rfl
theorem size_le (s : List Int) : 0 ≤ sizeV s ∧ sizeV s ≤ 64 := by
  cases h : okS s with
  | true => have := ok_prod h; rw [size_ok h]; omega
  | false => rw [size_no h]; omega

/-! ### Places and indices -/
theorem digs_len (s : List Int) : ∀ p, (digs s p).length = s.length := by
  induction s with
  | nil => intro p; rfl
  | cons x s ih => intro p; simp [digs, ih]
theorem digs_in {s : List Int} (h : s.all sideB = true) : ∀ {p : Int}, 0 ≤ p → p < prodS s → inIdx s (digs s p) = true ∧ plc s (digs s p) = p := by
  induction s with
  | nil => intro p h0 h1; simp [prodS] at h1; exact ⟨rfl, by show (0 : Int) = p; omega⟩
  | cons x s ih =>
    intro p h0 h1
    simp only [List.all_cons, Bool.and_eq_true] at h
    have hp := prod_pos h.2
    have hm := Int.emod_nonneg p (show prodS s ≠ 0 by omega)
    have hl := Int.emod_lt_of_pos p (show 0 < prodS s by omega)
    obtain ⟨a, b⟩ := ih h.2 hm hl
    have hd : 0 ≤ p / prodS s := Int.ediv_nonneg h0 (by omega)
    have hx : p / prodS s < x := Int.ediv_lt_of_lt_mul (by omega) (by simpa [prodS] using h1)
    refine ⟨by simp [digs, inIdx, hd, hx, a], ?_⟩
    simp only [digs, plc, b]
    have := Int.mul_ediv_add_emod p (prodS s)
    rw [Int.mul_comm] at this
    exact this
theorem plc_in {s : List Int} (h : s.all sideB = true) : ∀ {t : List Int}, inIdx s t = true → 0 ≤ plc s t ∧ plc s t < prodS s ∧ digs s (plc s t) = t := by
  induction s with
  | nil => intro t ht; cases t with
    | nil => exact ⟨by simp [plc], by simp [plc, prodS], rfl⟩
    | cons i t => simp [inIdx] at ht
  | cons x s ih =>
    intro t ht
    cases t with
    | nil => simp [inIdx] at ht
    | cons i t =>
      simp only [List.all_cons, Bool.and_eq_true] at h
      simp only [inIdx, Bool.and_eq_true, decide_eq_true_eq] at ht
      have hp := prod_pos h.2
      obtain ⟨a, b, c⟩ := ih h.2 ht.2
      have h1 : 0 ≤ i * prodS s := Int.mul_nonneg ht.1.1 (by omega)
      have h2 : (i + 1) * prodS s ≤ x * prodS s := Int.mul_le_mul_of_nonneg_right (by omega) (by omega)
      have h3 : (i + 1) * prodS s = i * prodS s + prodS s := by rw [Int.add_mul, Int.one_mul]
      have e1 : (i * prodS s + plc s t) / prodS s = i := by
        rw [Int.add_comm, Int.add_mul_ediv_right _ _ (by omega), Int.ediv_eq_zero_of_lt a b]; omega
      have e2 : (i * prodS s + plc s t) % prodS s = plc s t := by
        rw [Int.add_comm, Int.add_mul_emod_self_right, Int.emod_eq_of_lt a b]
      refine ⟨by simp only [plc]; omega, by simp only [plc, prodS]; omega, ?_⟩
      simp only [plc, digs, e1, e2, c]
theorem in_len {s : List Int} : ∀ {t : List Int}, inIdx s t = true → t.length = s.length := by
  induction s with
  | nil => intro t h; cases t with
    | nil => rfl
    | cons _ _ => simp [inIdx] at h
  | cons x s ih => intro t h; cases t with
    | nil => simp [inIdx] at h
    | cons i t => simp only [inIdx, Bool.and_eq_true] at h; simp [ih h.2]
theorem index_yes {s : List Int} {p : Int} (h0 : 0 ≤ p) (h1 : p < sizeV s) : indexV s p = (digs s p, 0) := by unfold indexV; rw [if_pos ⟨h0, h1⟩]
theorem index_no {s : List Int} {p : Int} (h : p < 0 ∨ sizeV s ≤ p) : indexV s p = ([], 20) := by unfold indexV; rw [if_neg (by omega)]
theorem ok_of_lt {s : List Int} {p : Int} (h0 : 0 ≤ p) (h1 : p < sizeV s) : okS s = true := by
  cases h : okS s with
  | true => rfl
  | false => rw [size_no h] at h1; omega

/-- One round of the code: the first of what is left. -/
theorem digs_drop {s : List Int} (h : s.all sideB = true) {k : Nat} {x : Int} (hx : s[k]? = some x) (p : Int) (h0 : 0 ≤ p) (h1 : p < prodS (s.drop k)) :
    digs (s.drop k) p = p / prodS (s.drop (k + 1)) :: digs (s.drop (k + 1)) (p % prodS (s.drop (k + 1))) ∧ prodS (s.drop k) / x = prodS (s.drop (k + 1)) ∧ 1 ≤ prodS (s.drop (k + 1)) ∧
    0 ≤ p % prodS (s.drop (k + 1)) ∧ p % prodS (s.drop (k + 1)) < prodS (s.drop (k + 1)) ∧ 0 ≤ p / prodS (s.drop (k + 1)) ∧ p / prodS (s.drop (k + 1)) < x := by
  have hs := side_of h hx
  have hp := prod_pos (all_drop h (k + 1))
  rw [drop_of hx] at h1 ⊢
  refine ⟨rfl, ?_, hp, Int.emod_nonneg _ (by omega), Int.emod_lt_of_pos _ (by omega), Int.ediv_nonneg h0 (by omega), Int.ediv_lt_of_lt_mul (by omega) (by simpa [prodS] using h1)⟩
  simp only [prodS]
  exact Int.mul_ediv_cancel_left _ (by omega)
theorem emod_ediv (p x P : Int) (hx : 1 ≤ x) (hP : 1 ≤ P) : p % (x * P) / P = p / P % x := by
  have hm : 1 ≤ x * P := by have := Int.mul_le_mul hx hP (by omega) (by omega); omega
  have h0 := Int.emod_nonneg p (show x * P ≠ 0 by omega)
  have h1 := Int.emod_lt_of_pos p (show 0 < x * P by omega)
  have e := Int.mul_ediv_add_emod p (x * P)
  generalize p / (x * P) = q at e
  generalize p % (x * P) = r at *
  have e2 : p = r + (x * q) * P := by rw [← e, Int.add_comm, Int.mul_assoc, Int.mul_assoc, Int.mul_comm P q]
  rw [e2, Int.add_mul_ediv_right _ _ (by omega), Int.add_mul_emod_self_left]
  rw [Int.emod_eq_of_lt (Int.ediv_nonneg h0 (by omega)) (Int.ediv_lt_of_lt_mul (by omega) h1)]
/-- One round of the document: the last of what is ahead. -/
theorem digs_back {s : List Int} (h : s.all sideB = true) {k : Nat} {x : Int} (hx : s[k]? = some x) (p : Int) :
    digs (s.drop k) (p % prodS (s.drop k)) = (p / prodS (s.drop (k + 1))) % x :: digs (s.drop (k + 1)) (p % prodS (s.drop (k + 1))) ∧ p / prodS (s.drop k) = p / prodS (s.drop (k + 1)) / x := by
  have hs := side_of h hx
  have hp := prod_pos (all_drop h (k + 1))
  rw [drop_of hx]
  generalize s.drop (k + 1) = r at *
  simp only [prodS, digs]
  refine ⟨?_, ?_⟩
  · rw [emod_ediv p x (prodS r) hs.1 hp, Int.emod_emod_of_dvd p (Int.dvd_mul_left x (prodS r))]
  · rw [Int.ediv_ediv_of_nonneg (by omega), Int.mul_comm]

/-- One round of Place. -/
theorem plc_round {s t : List Int} (h : s.all sideB = true) {k : Nat} {x y acc : Int} (hx : s[k]? = some x) (hy : t[k]? = some y) (hin : inIdx (s.drop k) (t.drop k) = inIdx s t)
    (hacc : plc s t = acc * prodS (s.drop k) + plc (s.drop k) (t.drop k)) (h0 : 0 ≤ acc) (h1 : acc < prodS (s.take k)) (hy0 : 0 ≤ y) (hy1 : y < x) :
    inIdx (s.drop (k + 1)) (t.drop (k + 1)) = inIdx s t ∧ plc s t = (acc * x + y) * prodS (s.drop (k + 1)) + plc (s.drop (k + 1)) (t.drop (k + 1)) ∧ 0 ≤ acc * x ∧ acc * x + y < prodS (s.take (k + 1)) := by
  have hs := side_of h hx
  rw [drop_of hx, drop_of hy] at hin hacc
  simp only [inIdx, plc, prodS] at hin hacc
  refine ⟨?_, ?_, Int.mul_nonneg h0 (by omega), ?_⟩
  · rw [← hin]; simp [hy0, hy1]
  · rw [hacc, Int.add_mul, Int.mul_assoc, Int.add_assoc]
  · rw [take_of hx, prod_snoc]
    have := Int.mul_le_mul_of_nonneg_right (show acc + 1 ≤ prodS (s.take k) by omega) (show 0 ≤ x by omega)
    rw [Int.add_mul, Int.one_mul] at this
    omega
theorem in_out {s t : List Int} {k : Nat} {x y : Int} (hx : s[k]? = some x) (hy : t[k]? = some y) (hin : inIdx (s.drop k) (t.drop k) = inIdx s t) (h : y < 0 ∨ x ≤ y) : inIdx s t = false := by
  rw [← hin, drop_of hx, drop_of hy]
  simp only [inIdx]
  rw [decide_eq_false (by omega)]; rfl
theorem place_no {s t : List Int} (h : okS s = false ∨ inIdx s t = false) : placeV s t = (0, 20) := by
  unfold placeV; rw [if_neg]; rcases h with h | h <;> simp [h]
theorem place_yes {s t : List Int} (h : okS s = true) (h' : inIdx s t = true) : placeV s t = (plc s t, 0) := by unfold placeV; rw [if_pos (by simp [h, h'])]
theorem in_len_no {s t : List Int} (h : t.length ≠ s.length) : inIdx s t = false := by
  cases e : inIdx s t with
  | true => exact absurd (in_len e) h
  | false => rfl
/-- The document tries all. -/
theorem place_found {s t : List Int} {i : Int} (h0 : 0 ≤ i) (h1 : i < sizeV s) (h : digs s i = t) : placeV s t = (i, 0) := by
  have ho := ok_of_lt h0 h1
  obtain ⟨a, b⟩ := digs_in (ok_iff.1 ho).2.1 h0 (by rw [← size_ok ho]; exact h1)
  rw [h] at a b
  rw [place_yes ho a, b]
theorem place_tried {s t : List Int} {i : Int} (h : ∀ j, 0 ≤ j → j < i → digs s j ≠ t) (hi : sizeV s ≤ i) : placeV s t = (0, 20) := by
  cases ho : okS s with
  | false => exact place_no (.inl ho)
  | true =>
    cases e : inIdx s t with
    | false => exact place_no (.inr e)
    | true =>
      obtain ⟨a, b, c⟩ := plc_in (ok_iff.1 ho).2.1 e
      exact absurd c (h _ a (by rw [size_ok ho] at hi; omega))

/-! ### Indices stand as lists do -/
def lexF : Bool → Bool → List Int → List Int → Bool × Bool
  | l, d, x :: s, y :: t => lexF (l || (!d && decide (x < y))) (d || (x != y)) s t
  | l, d, _, _ => (l, d)
theorem lex_done (s : List Int) : ∀ (t : List Int) (l : Bool), lexF l true s t = (l, true) := by
  induction s with
  | nil => intro t l; simp [lexF]
  | cons x s ih => intro t l; cases t with
    | nil => simp [lexF]
    | cons y t => simp [lexF, ih]
theorem lex_digs {s : List Int} (h : s.all sideB = true) : ∀ {a b : Int}, 0 ≤ a → a < prodS s → 0 ≤ b → b < prodS s → lexF false false (digs s a) (digs s b) = (decide (a < b), decide (a ≠ b)) := by
  induction s with
  | nil => intro a b a0 a1 b0 b1; simp [prodS] at a1 b1; simp [digs, lexF]; omega
  | cons x s ih =>
    intro a b a0 a1 b0 b1
    simp only [List.all_cons, Bool.and_eq_true] at h
    have hp := prod_pos h.2
    have ea := Int.mul_ediv_add_emod a (prodS s)
    have eb := Int.mul_ediv_add_emod b (prodS s)
    have ma0 := Int.emod_nonneg a (show prodS s ≠ 0 by omega)
    have mb0 := Int.emod_nonneg b (show prodS s ≠ 0 by omega)
    have ma1 := Int.emod_lt_of_pos a (show 0 < prodS s by omega)
    have mb1 := Int.emod_lt_of_pos b (show 0 < prodS s by omega)
    have hi := ih h.2 ma0 ma1 mb0 mb1
    simp only [digs, lexF, Bool.not_false, Bool.true_and, Bool.false_or]
    generalize a % prodS s = m at *
    generalize b % prodS s = n at *
    generalize a / prodS s = q at *
    generalize b / prodS s = r at *
    generalize prodS s = P at *
    by_cases e : q = r
    · subst e
      simp only [Int.lt_irrefl, decide_false, bne_self_eq_false, hi]
      congr 1 <;> (rw [decide_eq_decide]; omega)
    · rw [show (q != r) = true by simpa using e, lex_done]
      rcases Int.lt_or_gt_of_ne e with g | g
      · have := Int.mul_le_mul_of_nonneg_left (show q + 1 ≤ r by omega) (show 0 ≤ P by omega)
        rw [Int.mul_add, Int.mul_one] at this
        rw [decide_eq_true g, decide_eq_true (by omega), decide_eq_true (by omega)]
      · have := Int.mul_le_mul_of_nonneg_left (show r + 1 ≤ q by omega) (show 0 ≤ P by omega)
        rw [Int.mul_add, Int.mul_one] at this
        rw [decide_eq_false (by omega), decide_eq_false (by omega), decide_eq_true (by omega)]
theorem lex_round {s t : List Int} {k : Nat} {x y : Int} {l d : Bool} (hx : s[k]? = some x) (hy : t[k]? = some y) : lexF l d (s.drop k) (t.drop k) = lexF (l || (!d && decide (x < y))) (d || (x != y)) (s.drop (k + 1)) (t.drop (k + 1)) := by
  rw [drop_of hx, drop_of hy]; rfl

end Go.Proofs.ShM

/- Words for memory: a []int that reads as a list of numbers; what is kept where nothing that was there changes. -/
namespace Go.Proofs.Ytdcpekkkenckeaa
open Go.RowKit Go.Proofs.ShM

theorem int_info : (Try.prog.info? 3).map (fun i => (i.zero, i.size, i.bytes)) = some (some (.int .i64 0), 1, 8) := by kernel_rfl

/-- What an int may be. -/
def I64 (a : Int) : Prop := -9223372036854775808 ≤ a ∧ a ≤ 9223372036854775807
theorem ret_int {k : IntKind} {a c : Int} (h : a = c) : Ending.returned (.int k a) = .returned (.int k c) := by rw [h]
theorem ret_bool {a c : Bool} (h : a = c) : Ending.returned (.bool a) = .returned (.bool c) := by rw [h]
theorem ret_2 {v : Value} {l : IntKind} {b c : Int} (h : b = c) : Ending.returned (.tuple #[v, .int l b]) = .returned (.tuple #[v, .int l c]) := by rw [h]
theorem ret_ints {k l : IntKind} {a b : Int} {p : Int × Int} (h : p = (a, b)) : Ending.returned (.tuple #[.int k a, .int l b]) = .returned (.tuple #[.int k p.1, .int l p.2]) := by rw [h]

theorem block_of_add (a : Addr) (n : Nat) : (a.add n).block = a.block := by unfold Addr.add; split <;> rfl
theorem add_of_add (a : Addr) (i j : Nat) : (a.add i).add j = a.add (i + j) := by
  unfold Addr.add
  by_cases hi : i = 0 <;> by_cases hj : j = 0 <;> simp [hi, hj, Nat.add_assoc]

/-- The cells from A on are the numbers xs. -/
def Rd (w : World) (A : Option Addr) (xs : List Int) : Prop :=
  xs.length ≤ 9223372036854775807 ∧ (0 < xs.length → ∃ ad, A = some ad ∧ ad.block < w.heap.size ∧ ∀ j u, xs[j]? = some u → w.cell? (ad.add j) = some (.int .i64 u))
/-- The value is a []int of the numbers xs. -/
def Ints (w : World) (v : Value) (xs : List Int) : Prop := ∃ A c, v = .slice A xs.length c ∧ xs.length ≤ c ∧ c ≤ maxLen ∧ Rd w A xs

section
variable {w w' : World} {A : Option Addr} {xs : List Int} {v : Value}
theorem Rd.nil (w : World) (A : Option Addr) : Rd w A [] := ⟨by simp, fun h => absurd h (by simp)⟩
theorem Rd.len (h : Rd w A xs) : xs.length ≤ 9223372036854775807 := h.1
theorem Rd.at_ (h : Rd w A xs) {k : Nat} (hk : k < xs.length) : ∃ ad x, A = some ad ∧ ad.block < w.heap.size ∧ xs[k]? = some x ∧ w.cell? (ad.add k) = some (.int .i64 x) := by
  obtain ⟨ad, e, hb, hc⟩ := h.2 (by omega)
  exact ⟨ad, xs[k], e, hb, List.getElem?_eq_getElem hk, hc k _ (List.getElem?_eq_getElem hk)⟩
theorem Rd.keep (h : Rd w A xs) (hs : w.heap.size ≤ w'.heap.size) (hk : ∀ p : Addr, p.block < w.heap.size → w'.cell? p = w.cell? p) : Rd w' A xs :=
  ⟨h.1, fun hn => by
    obtain ⟨ad, e, hb, hc⟩ := h.2 hn
    exact ⟨ad, e, Nat.lt_of_lt_of_le hb hs, fun j u hu => (hk _ (by rw [block_of_add]; exact hb)).trans (hc j u hu)⟩⟩
/-- Nothing that was there has changed. -/
abbrev Kp (w w' : World) : Prop := Below w.heap.size w w'
theorem Kp.refl (w : World) : Kp w w := Below.refl _ _
theorem Kp.tr {a b c : World} (h : Kp a b) (k : Kp b c) : Kp a c := h.trans (Below.mono k h.size)
theorem Rd.kp (h : Rd w A xs) (k : Kp w w') : Rd w' A xs := h.keep k.size fun _ hp => k.cell hp
theorem Ints.kp (h : Ints w v xs) (k : Kp w w') : Ints w' v xs := by
  obtain ⟨A, c, e, h1, h2, h3⟩ := h
  exact ⟨A, c, e, h1, h2, h3.kp k⟩
theorem Rd.drew (h : Rd w A xs) : Rd w.drew A xs := h
theorem Rd.drewN (h : Rd w A xs) (k : Nat) : Rd (w.drewN k) A xs := h
theorem Rd.below {B : Nat} (h : Rd w A xs) (hB : w.heap.size ≤ B) (k : Below B w w') : Rd w' A xs := h.kp (k.mono hB)
theorem Ints.nil (w : World) : Ints w (.slice none 0 0) [] := ⟨none, 0, rfl, by simp, by simp, Rd.nil _ _⟩
theorem Ints.of_own {base : Nat} {e : TypeId} (h : w.ownsRow base e 1 v xs.length (xs.map (Value.int .i64))) : Ints w v xs := by
  have hl := h
  rcases h.2 with ⟨rfl, h0⟩ | ⟨g, cap, cur, rfl, _, hh, hn, hc, hcs, ht⟩
  · have : xs = [] := List.eq_nil_of_length_eq_zero h0
    subst this
    exact Ints.nil w
  · refine ⟨_, cap, rfl, hn, hc, by unfold maxLen at hc; omega, fun hp => ⟨_, rfl, ?_, fun j u hu => ?_⟩⟩
    · obtain ⟨g', cap', e', _, hlt⟩ := hl.form hp
      injection e' with e1
      injection e1 with e1
      injection e1 with e1
      subst e1; exact hlt
    · exact hl.cells (g := g) rfl j (.int .i64 u) (by simp [hu])
end
end Go.Proofs.Ytdcpekkkenckeaa

/- Check and Size of layer 2, and the document's: what each answers. -/
namespace Go.Proofs.Ytdcpekkkenckeaa
open Go.RowKit Go.Proofs.ShM

namespace ShA
/-- What holds at each round's head: the first k sides may be, and their product. -/
def Rel (xs : List Int) (p : Int) (k : Nat) : Prop := k ≤ xs.length ∧ (xs.take k).all sideB = true ∧ p = prodS (xs.take k)
theorem start (xs : List Int) : Rel xs 1 0 := ⟨Nat.zero_le _, rfl, rfl⟩
theorem bnd {xs : List Int} {p : Int} {k : Nat} (h : Rel xs p k) (h3 : xs.length ≤ 3) : 1 ≤ p ∧ p ≤ 4096 := by
  obtain ⟨_, h2, rfl⟩ := h
  exact ⟨prod_pos h2, prod_le3 h2 (by have := List.length_take_le k xs; omega)⟩
theorem bnd2 {xs : List Int} {p : Int} {k : Nat} (h : Rel xs p k) (h3 : xs.length ≤ 3) (hk : k < xs.length) : 1 ≤ p ∧ p ≤ 256 := by
  obtain ⟨_, h2, rfl⟩ := h
  exact ⟨prod_pos h2, prod_le2 h2 (by rw [List.length_take]; omega)⟩
theorem mulb {p x : Int} (h : 1 ≤ p ∧ p ≤ 256) (h1 : 1 ≤ x) (h2 : x ≤ 16) : 1 ≤ p * x ∧ p * x ≤ 4096 := by
  have a := Int.mul_le_mul h.1 h1 (by omega) (by omega)
  have b := Int.mul_le_mul h.2 h2 (by omega) (by omega)
  omega
theorem step {xs : List Int} {p x : Int} {k : Nat} (h : Rel xs p k) (hx : xs[k]? = some x) (h1 : 1 ≤ x) (h2 : x ≤ 16) : Rel xs (p * x) (k + 1) := by
  obtain ⟨_, hb, rfl⟩ := h
  have hk := (List.getElem?_eq_some_iff.1 hx).1
  exact ⟨hk, by rw [all_take_of hx, hb, sideB_iff.2 ⟨h1, h2⟩]; rfl, by rw [take_of hx, prod_snoc]⟩
theorem bad {xs : List Int} {x : Int} {k : Nat} (hx : xs[k]? = some x) (h : x < 1 ∨ 16 < x) : sizeV xs = 0 :=
  size_side (all_false_of hx (by unfold sideB; rw [decide_eq_false]; omega))
theorem all_ {xs : List Int} {p : Int} {k : Nat} (h : Rel xs p k) (hk : k = xs.length) : xs.all sideB = true ∧ p = prodS xs := by
  obtain ⟨_, hb, rfl⟩ := h
  subst hk
  rw [List.take_length] at *
  exact ⟨hb, rfl⟩
end ShA

set_option maxHeartbeats 400000 in
theorem size_any (A : Option Addr) (c : Nat) (xs : List Int) (w : World) (h : Rd w A xs) :
    Calls Try.prog 41 #[.slice A xs.length c] w fun e w' => e = .returned (.int .i64 (sizeV xs)) ∧ w = w' := by
  have hl := h.len
  by_cases h3 : 3 < xs.length
  · have HF := Lib.hid (size_long h3)
    go_enter Try.func41, Try.ntmps41
    go_wp2
    go_ret
    exact ⟨ret_int HF.out.symm, rfl⟩
  · go_enter Try.func41, Try.ntmps41
    go_wp2
    go_loop [3, 5, 11] (fun p _ i => ∃ (k : Nat) (q : Int), i = .int .i64 k ∧ p = .int .i64 q ∧ Hid (ShA.Rel xs q k)) (fun _ _ i => xs.length - (intOf i).toNat)
    case atStart => exact ⟨0, 1, rfl, rfl, ShA.start xs⟩
    case round =>
      obtain ⟨k, q, rfl, rfl, hr⟩ := hrel
      have hb := ShA.bnd hr.out (by omega)
      by_cases hk : k < xs.length
      · have hb2 := ShA.bnd2 hr.out (by omega) hk
        obtain ⟨ad, x, rfl, _, hx, hc⟩ := h.at_ hk
        have HX := Lib.hid hx
        clear hx
        by_cases hx1 : x < 1
        · have HF := Lib.hid (ShA.bad HX.out (.inl hx1))
          clear hb2
          go_wp2
          go_ret
          exact ⟨ret_int HF.out.symm, rfl⟩
        · by_cases hx2 : 16 < x
          · have HF := Lib.hid (ShA.bad HX.out (.inr hx2))
            clear hb2
            go_wp2
            go_ret
            exact ⟨ret_int HF.out.symm, rfl⟩
          · have hb3 := ShA.mulb hb2 (show 1 ≤ x by omega) (show x ≤ 16 by omega)
            clear hb2
            go_wp2
            go_round
            case rel => exact ⟨k + 1, q * x, by go_num, rfl, ShA.step hr.out HX.out (by omega) (by omega)⟩
            case measure => simp [intOf]; omega
      · have hk' : k = xs.length := by have := hr.out.1; omega
        obtain ⟨ha, hp⟩ := ShA.all_ hr.out hk'
        have HA := Lib.hid (And.intro ha hp); clear ha hp
        have HK := Lib.hid hk'; clear hk'
        by_cases hq : 64 < q
        all_goals
          go_wp2
          go_ret
          refine ⟨ret_int ?_, rfl⟩
        · rw [size_big (by rw [← HA.out.2]; exact hq)]
        · rw [size_fit (by omega) HA.out.1 (by rw [← HA.out.2]; omega), ← HA.out.2]

theorem check_any (A : Option Addr) (c : Nat) (xs : List Int) (w : World) (h : Rd w A xs) :
    Calls Try.prog 40 #[.slice A xs.length c] w fun e w' => e = .returned (.bool (okS xs)) ∧ w = w' := by
  have H := Lib.hid h; clear h
  go_enter Try.func40, Try.ntmps40
  go_wp2_with fail
  refine (size_any _ _ _ _ H.out).mono ?_; rintro e w' ⟨rfl, rfl⟩
  go_wp2
  go_ret
  exact ⟨ret_bool size_pos, rfl⟩
end Go.Proofs.Ytdcpekkkenckeaa

/- The document's Check and Size of layer 2, and whether two lists are the same: what each answers. -/
namespace Go.Proofs.Ytdcpekkkenckeaa
open Go.RowKit Go.Proofs.ShM

set_option maxHeartbeats 400000 in
theorem rproduct_any (A : Option Addr) (c : Nat) (xs : List Int) (w : World) (h : Rd w A xs) (h3 : xs.length ≤ 3) (ha : Hid (xs.all sideB = true)) :
    Calls Try.prog 42 #[.slice A xs.length c] w fun e w' => e = .returned (.int .i64 (prodS xs)) ∧ w = w' := by
  go_enter Try.func42, Try.ntmps42
  go_wp2
  go_loop [3, 4] (fun p i => ∃ (k : Nat) (q : Int), i = .int .i64 k ∧ p = .int .i64 q ∧ Hid (ShA.Rel xs q k)) (fun _ i => xs.length - (intOf i).toNat)
  case atStart => exact ⟨0, 1, rfl, rfl, ShA.start xs⟩
  case round =>
    obtain ⟨k, q, rfl, rfl, hr⟩ := hrel
    by_cases hk : k < xs.length
    · have hb2 := ShA.bnd2 hr.out (by omega) hk
      obtain ⟨ad, x, rfl, _, hx, hc⟩ := h.at_ hk
      have hs := side_of ha.out hx
      have HX := Lib.hid hx
      clear hx
      have hb3 := ShA.mulb hb2 hs.1 hs.2
      clear hb2
      go_wp2
      go_round
      case rel => exact ⟨k + 1, q * x, by go_num, rfl, ShA.step hr.out HX.out hs.1 hs.2⟩
      case measure => simp [intOf]; omega
    · have hk' : k = xs.length := by have := hr.out.1; omega
      have HP := Lib.hid (ShA.all_ hr.out hk').2
      clear hk'
      go_wp2
      go_ret
      exact ⟨ret_int HP.out, rfl⟩

namespace ShB
theorem ok_long {s : List Int} (h : 3 < s.length) : okS s = false := by
  cases e : okS s with
  | false => rfl
  | true => have := (ok_iff.1 e).1; omega
theorem ok_side {s : List Int} {x : Int} {k : Nat} (hx : s[k]? = some x) (h : x < 1 ∨ 16 < x) : okS s = false := by
  cases e : okS s with
  | false => rfl
  | true => have := side_of (ok_iff.1 e).2.1 hx; omega
theorem ok_end {s : List Int} (h3 : s.length ≤ 3) (h : s.all sideB = true) : decide (prodS s ≤ 64) = okS s := by
  unfold okS; rw [h, decide_eq_true h3]; rfl
end ShB

set_option maxHeartbeats 400000 in
theorem rcheck_any (A : Option Addr) (c : Nat) (xs : List Int) (w : World) (h : Rd w A xs) :
    Calls Try.prog 38 #[.slice A xs.length c] w fun e w' => e = .returned (.bool (okS xs)) ∧ w = w' := by
  have hl := h.len
  by_cases h3 : 3 < xs.length
  · have HF := Lib.hid (ShB.ok_long h3)
    go_enter Try.func38, Try.ntmps38
    go_wp2
    go_ret
    exact ⟨ret_bool HF.out.symm, rfl⟩
  · go_enter Try.func38, Try.ntmps38
    go_wp2
    go_loop [3] (fun i => ∃ (k : Nat) (q : Int), i = .int .i64 k ∧ Hid (ShA.Rel xs q k)) (fun i => xs.length - (intOf i).toNat)
    case atStart => exact ⟨0, 1, rfl, ShA.start xs⟩
    case round =>
      obtain ⟨k, q, rfl, hr⟩ := hrel
      by_cases hk : k < xs.length
      · obtain ⟨ad, x, rfl, _, hx, hc⟩ := h.at_ hk
        have HX := Lib.hid hx
        clear hx
        by_cases hx1 : x < 1
        · have HF := Lib.hid (ShB.ok_side HX.out (.inl hx1))
          go_wp2
          go_ret
          exact ⟨ret_bool HF.out.symm, rfl⟩
        · by_cases hx2 : 16 < x
          · have HF := Lib.hid (ShB.ok_side HX.out (.inr hx2))
            go_wp2
            go_ret
            exact ⟨ret_bool HF.out.symm, rfl⟩
          · go_wp2
            go_round
            case rel => exact ⟨k + 1, q * x, by go_num, ShA.step hr.out HX.out (by omega) (by omega)⟩
            case measure => simp [intOf]; omega
      · have hk' : k = xs.length := by have := hr.out.1; omega
        have HA := Lib.hid (ShA.all_ hr.out hk').1
        have HK := Lib.hid hk'; clear hk'
        have H := Lib.hid h; clear h
        go_wp2_with fail
        refine (rproduct_any _ _ _ _ H.out (by omega) HA.out).mono ?_; rintro e w' ⟨rfl, rfl⟩
        go_wp2
        go_ret
        exact ⟨ret_bool (ShB.ok_end (by omega) HA.out), rfl⟩

set_option maxHeartbeats 400000 in
theorem rsize_any (A : Option Addr) (c : Nat) (xs : List Int) (w : World) (h : Rd w A xs) :
    Calls Try.prog 39 #[.slice A xs.length c] w fun e w' => e = .returned (.int .i64 (sizeV xs)) ∧ w = w' := by
  have H := Lib.hid h; clear h
  cases ho : okS xs with
  | true =>
    have HO := Lib.hid ho; clear ho
    have HC := Lib.hid (rcheck_any A c xs w H.out)
    rw [HO.out] at HC
    go_enter Try.func39, Try.ntmps39
    go_wp2_with fail
    refine (Calls.mono (Hid.out HC)) ?_; rintro e w' ⟨rfl, rfl⟩
    go_wp2_with fail
    refine (rproduct_any _ _ _ _ H.out (ok_iff.1 HO.out).1 (ok_iff.1 HO.out).2.1).mono ?_; rintro e w' ⟨rfl, rfl⟩
    go_wp2
    go_ret
    exact ⟨ret_int (size_ok HO.out).symm, rfl⟩
  | false =>
    have HO := Lib.hid ho; clear ho
    have HC := Lib.hid (rcheck_any A c xs w H.out)
    rw [HO.out] at HC
    go_enter Try.func39, Try.ntmps39
    go_wp2_with fail
    refine (Calls.mono (Hid.out HC)) ?_; rintro e w' ⟨rfl, rfl⟩
    go_wp2
    go_ret
    exact ⟨ret_int (size_no HO.out).symm, rfl⟩

namespace ShB
def Eqd (xs ys : List Int) (k : Nat) : Prop := k ≤ xs.length ∧ xs.take k = ys.take k
theorem eq_start (xs ys : List Int) : Eqd xs ys 0 := ⟨Nat.zero_le _, rfl⟩
theorem eq_step {xs ys : List Int} {k : Nat} {x : Int} (h : Eqd xs ys k) (hx : xs[k]? = some x) (hy : ys[k]? = some x) : Eqd xs ys (k + 1) :=
  ⟨(List.getElem?_eq_some_iff.1 hx).1, by rw [take_of hx, take_of hy, h.2]⟩
theorem eq_end {xs ys : List Int} (h : Eqd xs ys xs.length) (hl : xs.length = ys.length) : (xs == ys) = true := by
  have := h.2
  rw [List.take_length, hl, List.take_length] at this
  rw [this]; simp
theorem eq_bad {xs ys : List Int} {k : Nat} {x y : Int} (hx : xs[k]? = some x) (hy : ys[k]? = some y) (h : x ≠ y) : (xs == ys) = false := by
  rw [beq_eq_false_iff_ne]
  rintro rfl
  rw [hx] at hy
  exact h (Option.some.inj hy)
theorem eq_len {xs ys : List Int} (h : xs.length ≠ ys.length) : (xs == ys) = false := by
  rw [beq_eq_false_iff_ne]
  rintro rfl
  exact h rfl
end ShB

set_option maxHeartbeats 400000 in
theorem same_any (A B : Option Addr) (c d : Nat) (xs ys : List Int) (w : World) (h : Rd w A xs) (g : Rd w B ys) :
    Calls Try.prog 23 #[.slice A xs.length c, .slice B ys.length d] w fun e w' => e = .returned (.bool (xs == ys)) ∧ ∃ n, w' = w.drewN n := by
  have hl := h.len
  by_cases hn : xs.length = ys.length
  · have HN := Lib.hid hn
    have hle : ys.length ≤ 9223372036854775807 := by omega
    have e1 : ((xs.length : Int) != (ys.length : Int)) = false := by simp [hn]
    clear hn
    go_enter Try.func23, Try.ntmps23
    go_wp2
    go_loopw [5] (fun i wr => ∃ (k n : Nat), i = .int .i64 k ∧ wr = w.drewN n ∧ Hid (ShB.Eqd xs ys k)) (fun i _ => xs.length - (intOf i).toNat)
    case atStart => exact ⟨0, 0, rfl, rfl, ShB.eq_start _ _⟩
    case round =>
      obtain ⟨k, n, rfl, rfl, hr⟩ := hrel
      by_cases hk : k < xs.length
      · obtain ⟨ad, x, rfl, _, hx, hc⟩ := h.at_ hk
        obtain ⟨bd, y, rfl, _, hy, hcy⟩ := g.at_ (k := k) (by have := HN.out; omega)
        have HX := Lib.hid hx
        have HY := Lib.hid hy
        have hky : k < ys.length := by have := HN.out; omega
        have i1 : (0 : Int) ≤ (k : Int) := by omega
        have i2 : (k : Int) < (xs.length : Int) := by omega
        have i3 : (k : Int) < (ys.length : Int) := by omega
        clear hx hy e1
        by_cases hxy : x = y
        · subst hxy
          go_wp2
          go_quiet (fail)
          go_wp2
          go_roundw
          case rel => exact ⟨k + 1, _, by go_num, by first | rfl | exact World.drewN_drewN _ _ _, ShB.eq_step hr.out HX.out HY.out⟩
          case measure => simp [intOf]; omega
        · have e2 : (x != y) = true := by simpa using hxy
          have HF := Lib.hid (ShB.eq_bad HX.out HY.out hxy)
          clear hxy
          go_wp2
          go_quiet (fail)
          go_wp2
          go_ret
          exact ⟨ret_bool HF.out.symm, _, by first | rfl | exact World.drewN_drewN _ _ _⟩
      · have hk' : k = xs.length := by have := hr.out.1; omega
        have HF := Lib.hid (ShB.eq_end (hk' ▸ hr.out) HN.out)
        clear hk' e1
        go_wp2
        go_ret
        exact ⟨ret_bool HF.out.symm, _, rfl⟩
  · have HF := Lib.hid (ShB.eq_len hn)
    have e1 : ((xs.length : Int) != (ys.length : Int)) = true := by simp; omega
    clear hn
    go_enter Try.func23, Try.ntmps23
    go_wp2
    go_ret
    exact ⟨ret_bool HF.out.symm, 0, rfl⟩
end Go.Proofs.Ytdcpekkkenckeaa

/- slices.Equal at []int, a side of a shape as if sides of 1 stood ahead, and Place: what each answers. -/
namespace Go.Proofs.Ytdcpekkkenckeaa
open Go.RowKit Go.Proofs.ShM

set_option maxHeartbeats 400000 in
theorem equal_any (A B : Option Addr) (c d : Nat) (xs ys : List Int) (w : World) (h : Rd w A xs) (g : Rd w B ys) :
    Calls Try.prog 36 #[.slice A xs.length c, .slice B ys.length d] w fun e w' => e = .returned (.bool (xs == ys)) ∧ ∃ n, w' = w.drewN n := by
  have hl := h.len
  by_cases hn : xs.length = ys.length
  · have HN := Lib.hid hn
    have hle : ys.length ≤ 9223372036854775807 := by omega
    have e1 : ((xs.length : Int) != (ys.length : Int)) = false := by simp [hn]
    clear hn
    go_enter Try.func36, Try.ntmps36
    go_wp2
    go_loopw [5, 13] (fun _ i wr => ∃ (k n : Nat), i = .int .i64 k ∧ wr = w.drewN n ∧ Hid (ShB.Eqd xs ys k)) (fun _ i _ => xs.length - (intOf i).toNat)
    case atStart => exact ⟨0, 0, rfl, rfl, ShB.eq_start _ _⟩
    case round =>
      obtain ⟨k, n, rfl, rfl, hr⟩ := hrel
      by_cases hk : k < xs.length
      · obtain ⟨ad, x, rfl, _, hx, hc⟩ := h.at_ hk
        obtain ⟨bd, y, rfl, _, hy, hcy⟩ := g.at_ (k := k) (by have := HN.out; omega)
        have HX := Lib.hid hx
        have HY := Lib.hid hy
        have hky : k < ys.length := by have := HN.out; omega
        have i1 : (0 : Int) ≤ (k : Int) := by omega
        have i2 : (k : Int) < (xs.length : Int) := by omega
        have i3 : (k : Int) < (ys.length : Int) := by omega
        clear hx hy e1
        by_cases hxy : x = y
        · subst hxy
          go_wp2
          go_quiet (fail)
          go_wp2
          go_roundw
          case rel => exact ⟨k + 1, _, by go_num, by first | rfl | exact World.drewN_drewN _ _ _, ShB.eq_step hr.out HX.out HY.out⟩
          case measure => simp [intOf]; omega
        · have e2 : (x != y) = true := by simpa using hxy
          have HF := Lib.hid (ShB.eq_bad HX.out HY.out hxy)
          clear hxy
          go_wp2
          go_quiet (fail)
          go_wp2
          go_ret
          exact ⟨ret_bool HF.out.symm, _, by first | rfl | exact World.drewN_drewN _ _ _⟩
      · have hk' : k = xs.length := by have := hr.out.1; omega
        have HF := Lib.hid (ShB.eq_end (hk' ▸ hr.out) HN.out)
        clear hk' e1
        go_wp2
        go_ret
        exact ⟨ret_bool HF.out.symm, _, rfl⟩
  · have HF := Lib.hid (ShB.eq_len hn)
    have e1 : ((xs.length : Int) != (ys.length : Int)) = true := by simp; omega
    clear hn
    go_enter Try.func36, Try.ntmps36
    go_wp2
    go_ret
    exact ⟨ret_bool HF.out.symm, 0, rfl⟩

/-- The side is the padded shape's. -/
theorem pad_len {n : Nat} {s : List Int} (h : s.length ≤ n) : (pad n s).length = n := by unfold pad; simp; omega
theorem pad_one {n k : Nat} {s : List Int} (h : k < n - s.length) : (pad n s)[k]? = some 1 := by
  unfold pad; rw [List.getElem?_append_left (by simpa using h)]; simp [h]
theorem pad_at {n k : Nat} {s : List Int} (h : n - s.length ≤ k) : (pad n s)[k]? = s[k - (n - s.length)]? := by
  unfold pad; rw [List.getElem?_append_right (by simpa using h)]; simp

end Go.Proofs.Ytdcpekkkenckeaa

/- A []int of the call's own: appended to, made, stored into; what it reads as. -/
namespace Go.Proofs.Ytdcpekkkenckeaa
open Go.RowKit Go.Proofs.ShM

/-- The value is a []int of the call's own (its row lies from block B on): the numbers xs. -/
def Own (B : Nat) (w : World) (v : Value) (xs : List Int) : Prop := w.ownsRow B 3 1 v xs.length (xs.map (Value.int .i64))

section
variable {w w' : World} {B : Nat} {v : Value} {xs ys : List Int} {A : Option Addr}
theorem Own.ints (h : Own B w v xs) : Ints w v xs := Ints.of_own h
theorem Own.form (h : Own B w v xs) : ∃ A c, v = .slice A xs.length c ∧ Rd w A xs := by
  obtain ⟨A, c, e, _, _, hr⟩ := h.ints
  exact ⟨A, c, e, hr⟩
theorem Own.nil_ (w : World) (B : Nat) : Own B w (.slice none 0 0) [] := World.ownsRow_nil w B 3 1
theorem Own.from_ (h : Own B w v xs) {k : Nat} (hk : v.ownBlock = some k) : B ≤ k := by
  rcases h.2 with ⟨rfl, _⟩ | ⟨g, cap, cur, rfl, hb, _⟩
  · cases hk
  · have : g = k := by simpa [Value.ownBlock] using hk
    omega
theorem Own.drew (h : Own B w v xs) : Own B w.drew v xs := h
theorem Own.drewN (h : Own B w v xs) (n : Nat) : Own B (w.drewN n) v xs := h
theorem Own.of_block (h : Own B w v xs) (hk : ∀ g, v.ownBlock = some g → w'.heap[g]? = w.heap[g]?) : Own B w' v xs := by
  refine ⟨h.1, ?_⟩
  rcases h.2 with h0 | ⟨g, cap, cur, rfl, hb, hg, r⟩
  · exact .inl h0
  · exact .inr ⟨g, cap, cur, rfl, hb, (hk g rfl).trans hg, r⟩
theorem Own.kp (h : Own B w v xs) (k : Kp w w') : Own B w' v xs := h.of_block fun g hg => k.block g (by
  rcases h.2 with ⟨rfl, _⟩ | ⟨g', cap, cur, rfl, _, hh, _⟩
  · cases hg
  · injection hg with hg
    subst hg
    rcases Nat.lt_or_ge g' w.heap.size with hlt | hge
    · exact hlt
    · rw [Array.getElem?_eq_none hge] at hh; cases hh)
theorem Rd.lit (w : World) (xs : List Int) (h : xs.length ≤ 1000000) (t : TypeId) : Rd (w.alloc (.cells (xs.map (Value.int .i64)).toArray t)) (some ⟨w.heap.size, 0, none⟩) xs :=
  ⟨by omega, fun _ => ⟨_, rfl, by simp, fun j u hu => by
    rw [Go.WideShapes.add_plain, Nat.zero_add, World.cell?_alloc_at _ t _ j rfl]
    simp [hu]⟩⟩
theorem Own.lit (w : World) (xs : List Int) (h : xs.length ≤ 1000000) (hB : B ≤ w.heap.size) :
    Own B (w.alloc (.cells (xs.map (Value.int .i64)).toArray 3)) (.slice (some ⟨w.heap.size, 0, none⟩) xs.length xs.length) xs := by
  have := World.ownsRow_lit (base := B) (e := 3) (size := 1) w (xs.map (Value.int .i64)).toArray xs.length hB (by unfold maxLen; omega) (by simp)
  simpa [Own] using this

theorem Own.zero (w : World) (hB : B ≤ w.heap.size) : Own B (w.alloc (.cells #[] 3)) (.slice (some ⟨w.heap.size, 0, none⟩) 0 0) [] := Own.lit w [] (by simp) hB
theorem Own.one (w : World) (x : Int) (hB : B ≤ w.heap.size) : Own B (w.alloc (.cells #[.int .i64 x] 3)) (.slice (some ⟨w.heap.size, 0, none⟩) 1 1) [x] := Own.lit w [x] (by simp) hB
theorem Own.two (w : World) (x y : Int) (hB : B ≤ w.heap.size) : Own B (w.alloc (.cells #[.int .i64 x, .int .i64 y] 3)) (.slice (some ⟨w.heap.size, 0, none⟩) 2 2) [x, y] := Own.lit w [x, y] (by simp) hB
theorem Rd.one (w : World) (x : Int) (t : TypeId) : Rd (w.alloc (.cells #[.int .i64 x] t)) (some ⟨w.heap.size, 0, none⟩) [x] := Rd.lit w [x] (by simp) t
theorem Rd.two (w : World) (x y : Int) (t : TypeId) : Rd (w.alloc (.cells #[.int .i64 x, .int .i64 y] t)) (some ⟨w.heap.size, 0, none⟩) [x, y] := Rd.lit w [x, y] (by simp) t
theorem Kp.alloc_ (w : World) (o : Obj) : Kp w (w.alloc o) := (Below.refl _ _).alloc (Nat.le_refl _) o
theorem Rd.alloc_ (h : Rd w A xs) (o : Obj) : Rd (w.alloc o) A xs := h.kp (Kp.alloc_ w o)
/-- The number in a slice's slot: how long it is. -/
def lenOf : Value → Nat | .slice _ n _ => n | _ => 0

theorem app_nil (h : Own B w v xs) (c : Nat) (ty : TypeId) : (Builtin.append_ #[23, 23] ty #[v, .slice none 0 c]).run Try.prog w = .ok v w := by
  obtain ⟨i, hi, _, _, _⟩ := info_parts int_info
  have ht := run_underlying (P := Try.prog) (w := w) Try.underlying23
  rcases h.2 with ⟨rfl, _⟩ | ⟨g, cap, cur, rfl, _, _, hn, _⟩
  · simp [Builtin.append_, ht, sizeOf, typeInfo, hi, Builtin.lenOf, Builtin.firstCells]
  · simp [Builtin.append_, ht, sizeOf, typeInfo, hi, Builtin.lenOf, Builtin.firstCells, hn, storeCells]

/-- What append leaves. -/
theorem run_app (ho : Own B w v xs) (c : Nat) (hr : Rd w A ys) (hs : xs.length + ys.length ≤ 1000000) (hB : B ≤ w.heap.size) (ty : TypeId) :
    ∃ zs A' c' w', zs = xs ++ ys ∧ (Builtin.append_ #[23, 23] ty #[v, .slice A ys.length c]).run Try.prog w = .ok (.slice A' zs.length c') w' ∧ Own B w' (.slice A' zs.length c') zs ∧ Below B w w' := by
  by_cases hy : ys = []
  · subst hy
    obtain ⟨A', c', rfl, _⟩ := ho.form
    cases A with
    | none => exact ⟨xs, A', c', w, by simp, app_nil ho c ty, ho, Below.refl _ _⟩
    | some ad =>
      obtain ⟨i, hi, hz, h1, h2⟩ := info_parts int_info
      obtain ⟨v', w', hrun, hown, hg, _, _⟩ := run_append_own_at (P := Try.prog) w B 23 ty 3 i _ 1 8 Try.underlying23 hi hz h1 h2 rfl (by omega) _ _ _ ho ad 0 c [] rfl (by simp) (by simp) (by unfold maxLen; omega) (by omega) hB
      have hown' : Own B w' v' xs := by simpa [Own] using hown
      obtain ⟨A2, c2, rfl, _⟩ := hown'.form
      refine ⟨xs, A2, c2, w', by simp, hrun, hown', (Below.refl _ _).grown hg hB fun k hk => ho.from_ hk⟩
  · obtain ⟨ad, rfl, hlt, hc⟩ := hr.2 (List.length_pos_iff.2 hy)
    obtain ⟨i, hi, hz, h1, h2⟩ := info_parts int_info
    obtain ⟨v', w', hrun, hown, hg, _, _⟩ := run_append_own_at (P := Try.prog) w B 23 ty 3 i _ 1 8 Try.underlying23 hi hz h1 h2 rfl (by omega) _ _ _ ho ad ys.length c (ys.map (Value.int .i64)) (by simp)
      (fun j u hu => by
        rw [List.getElem?_map, Option.map_eq_some_iff] at hu
        obtain ⟨x, hx, rfl⟩ := hu
        exact hc j x hx) (ints_oneCell _ _) (by unfold maxLen; omega) (by omega) hB
    have hown' : Own B w' v' (xs ++ ys) := by simpa [Own] using hown
    obtain ⟨A2, c2, rfl, _⟩ := hown'.form
    refine ⟨xs ++ ys, A2, c2, w', rfl, hrun, hown', (Below.refl _ _).grown hg hB fun k hk => ho.from_ hk⟩

/-- append, for the walk. -/
theorem wpList_app {ops : Array Oper} {rest : List Oper} {o : Oper} {a : Act} {Q : Exit → Act → World → Prop} (hgd : Region.wanted o (yielded ops a.tmps) = true) (s x : Operand)
    (hop : o.op = .call { callee := .builtin .append, args := #[s, x], argTypes := #[23, 23] })
    (v : Value) (xs : List Int) (hs : a.eval s = v) (ho : Own B w v xs) (A : Option Addr) (c : Nat) (ys : List Int) (n : Nat) (hx : a.eval x = .slice A n c) (hn : n = ys.length) (hr : Rd w A ys)
    (hl : xs.length + ys.length ≤ 1000000) (hB : B ≤ w.heap.size)
    (h : ∀ zs A' c' w', Hid (zs = xs ++ ys) → Own B w' (.slice A' zs.length c') zs → Below B w w' → wpList Try.prog ops Q rest (a.put o.dst (.slice A' zs.length c')) w') : wpList Try.prog ops Q (o :: rest) a w := by
  refine BigFrame.wpList_want hgd fun K hK => ?_
  subst hn
  obtain ⟨zs, A', c', w', e, hrun, h1, h2⟩ := run_app ho c hr hl hB o.type
  unfold Oper.wp execOp
  simp only [hop, resolve, invoke, builtin, Sem.run_bind, Sem.run_pure, Result.andThen_ok, List.map_toArray, List.map_cons, List.map_nil, hs, hx, hrun]
  exact hK _ _ (h zs A' c' w' e h1 h2)

/-- A made row of noughts, written out. -/
theorem run_mk (w : World) (n : Nat) (hn : n ≤ 1000000) :
    (Instr.makeSlice 23 (.int .i64 (n : Int)) (.int .i64 (n : Int))).run Try.prog w = .ok (.slice (some ⟨w.heap.size, 0, none⟩) n n) (w.alloc (.cells (List.replicate n (Value.int .i64 0)).toArray 3)) := by
  obtain ⟨i, hi, hz, h1, h2⟩ := info_parts int_info
  have hr := run_make (P := Try.prog) w 23 3 i _ Try.underlying23 hi hz .i64 .i64 n n (by omega) (Int.le_refl _) (by rw [h2]; omega) (by omega)
  simp only [Int.toNat_natCast, h1, Nat.mul_one] at hr
  rw [hr]
  congr 3
  exact Array.toList_inj.1 (by rw [show (Value.int IntKind.i64 0).cells = #[Value.int .i64 0] from rfl, toList_madeCells_one])
theorem run_mk0 (w : World) (n : Nat) (hn : n ≤ 1000000) :
    (Instr.makeSlice 23 (.int .i64 0) (.int .i64 (n : Int))).run Try.prog w = .ok (.slice (some ⟨w.heap.size, 0, none⟩) 0 n) (w.alloc (.cells (List.replicate n (Value.int .i64 0)).toArray 3)) := by
  obtain ⟨i, hi, hz, h1, h2⟩ := info_parts int_info
  have hr := run_make (P := Try.prog) w 23 3 i _ Try.underlying23 hi hz .i64 .i64 0 n (by omega) (by omega) (by rw [h2]; omega) (by omega)
  simp only [Int.toNat_natCast, Int.toNat_zero, h1, Nat.mul_one] at hr
  rw [hr]
  congr 3
  exact Array.toList_inj.1 (by rw [show (Value.int IntKind.i64 0).cells = #[Value.int .i64 0] from rfl, toList_madeCells_one])

/-- The same, the cells a letter. -/
theorem mk_ (n : Nat) (hn : n ≤ 1000000) : ∃ cs : Array Value, (∀ W : World, (Instr.makeSlice 23 (.int .i64 (n : Int)) (.int .i64 (n : Int))).run Try.prog W = .ok (.slice (some ⟨W.heap.size, 0, none⟩) n n) (W.alloc (.cells cs 3))) ∧
    ∀ (W : World) (B : Nat), B ≤ W.heap.size → Own B (W.alloc (.cells cs 3)) (.slice (some ⟨W.heap.size, 0, none⟩) n n) (List.replicate n 0) :=
  ⟨_, fun W => run_mk W n hn, fun W B hB => by
    have := Own.lit (B := B) W (List.replicate n 0) (by simpa using hn) hB
    simpa using this⟩
theorem mk0_ (n : Nat) (hn : n ≤ 1000000) : ∃ cs : Array Value, (∀ W : World, (Instr.makeSlice 23 (.int .i64 0) (.int .i64 (n : Int))).run Try.prog W = .ok (.slice (some ⟨W.heap.size, 0, none⟩) 0 n) (W.alloc (.cells cs 3))) ∧
    ∀ (W : World) (B : Nat), B ≤ W.heap.size → Own B (W.alloc (.cells cs 3)) (.slice (some ⟨W.heap.size, 0, none⟩) 0 n) [] :=
  ⟨_, fun W => run_mk0 W n hn, fun W B hB => by
    have := World.ownsRow_made (base := B) (e := 3) (size := 1) W (List.replicate n (Value.int .i64 0)).toArray n hB (by unfold maxLen; omega) (by simp)
    simpa [Own] using this⟩

/-- Stored into. -/
theorem Own.set_ {g cap n : Nat} {xs : List Int} (h : Own B w (.slice (some ⟨g, 0, none⟩) n cap) xs) (j : Nat) (u : Int) : Own B (w.setCell ⟨g, j, none⟩ (.int .i64 u)) (.slice (some ⟨g, 0, none⟩) n cap) (xs.set j u) := by
  have hn : n = xs.length := by
    obtain ⟨A, c, e, _⟩ := h.form
    injection e
  subst hn
  have := (World.ownsRow.stored h j (.int .i64 u)).1
  simpa [Own, List.map_set] using this
theorem Own.cell_ {g cap n : Nat} {xs : List Int} (h : Own B w (.slice (some ⟨g, 0, none⟩) n cap) xs) {j : Nat} {u : Int} (hu : xs[j]? = some u) : w.cell? ⟨g, j, none⟩ = some (.int .i64 u) := by
  have hn : n = xs.length := by
    obtain ⟨A, c, e, _⟩ := h.form
    injection e
  subst hn
  rw [World.ownsRow.cellAt h j (by have := (List.getElem?_eq_some_iff.1 hu).1; omega)]
  simp [hu]
theorem Own.froz_ {g cap n : Nat} {xs : List Int} (h : Own B w (.slice (some ⟨g, 0, none⟩) n cap) xs) (j : Nat) : w.frozen? ⟨g, j, none⟩ = false := by
  have hn : n = xs.length := by
    obtain ⟨A, c, e, _⟩ := h.form
    injection e
  subst hn
  exact World.ownsRow.frozenAt h j
end
end Go.Proofs.Ytdcpekkkenckeaa

/- Place and Index of layer 2: what each answers. -/
namespace Go.Proofs.Ytdcpekkkenckeaa
open Go.RowKit Go.Proofs.ShM

/-- A []int that is there, with its capacity. -/
structure Sl (w : World) (A : Option Addr) (c : Nat) (xs : List Int) : Prop where
  rd : Rd w A xs
  le : xs.length ≤ c
  cap : c ≤ 9223372036854775807
theorem Sl.kp {w w' : World} {A : Option Addr} {c : Nat} {xs : List Int} (h : Sl w A c xs) (k : Kp w w') : Sl w' A c xs := ⟨h.rd.kp k, h.le, h.cap⟩
theorem Sl.nil_ (w : World) : Sl w none 0 [] := ⟨Rd.nil _ _, by simp, by omega⟩
theorem Own.sl {B : Nat} {w : World} {A : Option Addr} {n c : Nat} {xs : List Int} (h : Own B w (.slice A n c) xs) : Sl w A c xs := by
  obtain ⟨A', c', e, h1, h2, h3⟩ := h.ints
  injection e with e1 e2 e3
  subst e1 e3
  exact ⟨h3, h1, by unfold maxLen at h2; omega⟩
/-- The answer is the list and the error; nothing that was there has changed. -/
def RetL (xs : List Int) (err : Int) (w : World) (e : Ending) (w' : World) : Prop := ∃ A c, e = .returned (.tuple #[.slice A xs.length c, .int .i64 err]) ∧ Sl w' A c xs ∧ Kp w w'
abbrev Ret (r : List Int × Int) (w : World) (e : Ending) (w' : World) : Prop := RetL r.1 r.2 w e w'
/-- The answer is the number and the error; nothing that was there has changed. -/
def RetK (n err : Int) (w : World) (e : Ending) (w' : World) : Prop := e = .returned (.tuple #[.int .i64 n, .int .i64 err]) ∧ Kp w w'
theorem Kp.drewN_ (w : World) (n : Nat) : Kp w (w.drewN n) := ⟨rfl, rfl, rfl, Nat.le_refl _, fun _ _ => rfl⟩
/-- The answer is the number and the error; the world is as it was, but for draws. -/
def RetN (r : Int × Int) (w : World) (e : Ending) (w' : World) : Prop := e = .returned (.tuple #[.int .i64 r.1, .int .i64 r.2]) ∧ ∃ n, w' = w.drewN n

namespace ShD
/-- What holds at the head of each round of Place. -/
def Rel (s t : List Int) (k : Nat) (a : Int) : Prop := k ≤ s.length ∧ inIdx (s.drop k) (t.drop k) = inIdx s t ∧ plc s t = a * prodS (s.drop k) + plc (s.drop k) (t.drop k) ∧ 0 ≤ a ∧ a < prodS (s.take k)
theorem start (s t : List Int) : Rel s t 0 0 := ⟨Nat.zero_le _, rfl, by simp, Int.le_refl _, by simp [prodS]⟩
theorem bnd {s t : List Int} {k : Nat} {a : Int} (h : Rel s t k a) (hs : okS s = true) : 0 ≤ a ∧ a ≤ 4096 := by
  obtain ⟨_, _, _, h0, h1⟩ := h
  have := prod_le3 (all_take (ok_iff.1 hs).2.1 k) (by have := List.length_take_le k s; have := (ok_iff.1 hs).1; omega)
  omega
theorem step {s t : List Int} {k : Nat} {a x y : Int} (h : Rel s t k a) (hs : okS s = true) (hx : s[k]? = some x) (hy : t[k]? = some y) (hy0 : 0 ≤ y) (hy1 : y < x) :
    Rel s t (k + 1) (a * x + y) ∧ 0 ≤ a * x ∧ a * x ≤ 4096 ∧ 0 ≤ a * x + y ∧ a * x + y ≤ 4096 := by
  obtain ⟨_, h2, h3, h0, h1⟩ := h
  obtain ⟨r1, r2, r3, r4⟩ := plc_round (ok_iff.1 hs).2.1 hx hy h2 h3 h0 h1 hy0 hy1
  have hk := (List.getElem?_eq_some_iff.1 hx).1
  have := prod_le3 (all_take (ok_iff.1 hs).2.1 (k + 1)) (by have := List.length_take_le (k + 1) s; have := (ok_iff.1 hs).1; omega)
  exact ⟨⟨hk, r1, r2, by omega, r4⟩, r3, by omega, by omega, by omega⟩
theorem bad {s t : List Int} {k : Nat} {a x y : Int} (h : Rel s t k a) (hx : s[k]? = some x) (hy : t[k]? = some y) (hb : y < 0 ∨ x ≤ y) : placeV s t = (0, 20) :=
  place_no (.inr (in_out hx hy h.2.1 hb))
theorem end_ {s t : List Int} {a : Int} {k : Nat} (h : Rel s t k a) (hk : k = s.length) (hs : okS s = true) (hl : t.length = s.length) : placeV s t = (a, 0) := by
  obtain ⟨_, h2, h3, _, _⟩ := h
  subst hk
  rw [List.drop_length, ← hl, List.drop_length] at h2
  rw [List.drop_length, ← hl, List.drop_length] at h3
  rw [place_yes hs h2.symm, h3]
  simp [prodS, plc]
end ShD

end Go.Proofs.Ytdcpekkkenckeaa

/- Index of layer 2: what it answers. -/
namespace Go.Proofs.Ytdcpekkkenckeaa
open Go.RowKit Go.Proofs.ShM

theorem Ret.mk_ {r : List Int × Int} {zs : List Int} {err : Int} {w w' : World} {A : Option Addr} {n c : Nat} (hr : r = (zs, err)) (hn : n = zs.length) (hs : Sl w' A c zs) (hk : Kp w w') :
    Ret r w (.returned (.tuple #[.slice A n c, .int .i64 err])) w' := by
  subst hr hn
  exact ⟨A, c, rfl, hs, hk⟩
theorem Ret.err_ {r : List Int × Int} {err : Int} {w w' : World} (hr : r = ([], err)) (hk : Kp w w') : Ret r w (.returned (.tuple #[.slice none 0 0, .int .i64 err])) w' :=
  Ret.mk_ hr rfl (Sl.nil_ _) hk

namespace ShE
def Rel (s : List Int) (p0 : Int) (k : Nat) (p q : Int) (zs : List Int) : Prop :=
  k ≤ s.length ∧ zs.length = s.length ∧ zs.take k ++ digs (s.drop k) p = digs s p0 ∧ 0 ≤ p ∧ p < q ∧ q = prodS (s.drop k)
theorem start {s : List Int} {p : Int} (h0 : 0 ≤ p) (h1 : p < sizeV s) : Rel s p 0 p (sizeV s) (List.replicate s.length 0) :=
  ⟨Nat.zero_le _, by simp, by simp, h0, h1, size_ok (ok_of_lt h0 h1)⟩
theorem bnd {s : List Int} {p0 p q : Int} {k : Nat} {zs : List Int} (h : Rel s p0 k p q zs) (hs : okS s = true) : 0 ≤ p ∧ p < q ∧ 1 ≤ q ∧ q ≤ 4096 := by
  obtain ⟨_, _, _, h0, h1, rfl⟩ := h
  have := prod_le3 (all_drop (ok_iff.1 hs).2.1 k) (by have := (ok_iff.1 hs).1; simp; omega)
  exact ⟨h0, h1, by omega, this⟩
theorem step {s : List Int} {p0 p q x : Int} {k : Nat} {zs : List Int} (h : Rel s p0 k p q zs) (hs : okS s = true) (hx : s[k]? = some x) :
    Rel s p0 (k + 1) (p % (q / x)) (q / x) (zs.set k (p / (q / x))) ∧ 1 ≤ x ∧ 1 ≤ q / x ∧ q / x ≤ 4096 := by
  obtain ⟨_, h2, h3, h0, h1, rfl⟩ := h
  obtain ⟨d1, d2, d3, d4, d5, _, _⟩ := digs_drop (ok_iff.1 hs).2.1 hx p h0 h1
  have hk := (List.getElem?_eq_some_iff.1 hx).1
  have := prod_le3 (all_drop (ok_iff.1 hs).2.1 (k + 1)) (by have := (ok_iff.1 hs).1; simp; omega)
  rw [d2]
  refine ⟨⟨hk, by simpa using h2, ?_, d4, d5, rfl⟩, (side_of (ok_iff.1 hs).2.1 hx).1, d3, this⟩
  rw [← h3, d1, take_of (x := p / prodS (s.drop (k + 1))) (by rw [List.getElem?_set_self (by omega)]), List.take_set_of_le (by omega)]
  simp
theorem end_ {s : List Int} {p0 p q : Int} {k : Nat} {zs : List Int} (h : Rel s p0 k p q zs) (hk : k = s.length) (h0 : 0 ≤ p0) (h1 : p0 < sizeV s) : indexV s p0 = (zs, 0) ∧ s.length = zs.length := by
  obtain ⟨_, h2, h3, _⟩ := h
  subst hk
  rw [List.drop_length, ← h2, List.take_length] at h3
  simp only [digs, List.append_nil] at h3
  rw [index_yes h0 h1, ← h3]
  exact ⟨rfl, h2.symm⟩
end ShE

/-- The answer is a list of the call's own and the error. -/
def RetP (r : List Int × Int) (w : World) (e : Ending) (w' : World) : Prop := ∃ A c, e = .returned (.tuple #[.slice A r.1.length c, .int .i64 r.2]) ∧ Own w.heap.size w' (.slice A r.1.length c) r.1 ∧ Kp w w'
theorem RetP.err_ {r : List Int × Int} {err : Int} {w w' : World} (h : r = ([], err)) (k : Kp w w') : RetP r w (.returned (.tuple #[.slice none 0 0, .int .i64 err])) w' := by
  subst h; exact ⟨none, 0, rfl, Own.nil_ _ _, k⟩
theorem RetP.mk_ {r : List Int × Int} {n c : Nat} {err : Int} {xs : List Int} {A : Option Addr} {w w' : World} (h : r = (xs, err)) (hn : n = xs.length) (o : Own w.heap.size w' (.slice A n c) xs) (k : Kp w w') : RetP r w (.returned (.tuple #[.slice A n c, .int .i64 err])) w' := by
  subst h hn; exact ⟨A, c, rfl, o, k⟩
theorem RetP.ret {r : List Int × Int} {w w' : World} {e : Ending} (h : RetP r w e w') : Ret r w e w' := by
  obtain ⟨A, c, e1, o, k⟩ := h
  exact ⟨A, c, e1, o.sl, k⟩

end Go.Proofs.Ytdcpekkkenckeaa

/- The document's Index, Place and Wide of layer 2: what each answers. -/
namespace Go.Proofs.Ytdcpekkkenckeaa
open Go.RowKit Go.Proofs.ShM

namespace ShF
def Rel (s : List Int) (p0 : Int) (iv : Int) (p : Int) (zs : List Int) : Prop :=
  ∃ j : Nat, iv + 1 = j ∧ j ≤ s.length ∧ p = p0 / prodS (s.drop j) ∧ zs = digs (s.drop j) (p0 % prodS (s.drop j))
theorem start (s : List Int) (p : Int) : Rel s p ((s.length : Int) - 1) p [] := ⟨s.length, by omega, Nat.le_refl _, by simp [prodS], by simp [digs]⟩
theorem bnd {s : List Int} {p0 p iv : Int} {zs : List Int} (h : Rel s p0 iv p zs) (hs : okS s = true) (h0 : 0 ≤ p0) (h1 : p0 < sizeV s) : 0 ≤ p ∧ p ≤ 64 ∧ -1 ≤ iv ∧ iv < (s.length : Int) ∧ zs.length ≤ s.length := by
  obtain ⟨j, hj, hl, rfl, rfl⟩ := h
  have hp := prod_pos (all_drop (ok_iff.1 hs).2.1 j)
  have hsz := size_le s
  have a := Int.ediv_nonneg h0 (show 0 ≤ prodS (s.drop j) by omega)
  have b := Int.ediv_le_self (prodS (s.drop j)) h0
  exact ⟨a, by omega, by omega, by omega, by rw [digs_len]; simp⟩
theorem step {s : List Int} {p0 p x : Int} {m : Nat} {zs ys : List Int} (h : Rel s p0 m p zs) (hs : okS s = true) (hx : s[m]? = some x) (hy : ys = [p % x] ++ zs) :
    Rel s p0 ((m : Int) - 1) (p / x) ys := by
  obtain ⟨j, hj, hl, rfl, rfl⟩ := h
  obtain rfl : j = m + 1 := by omega
  obtain ⟨b1, b2⟩ := digs_back (ok_iff.1 hs).2.1 hx p0
  exact ⟨m, by omega, by omega, b2.symm, by rw [b1, hy]; rfl⟩
theorem end_ {s : List Int} {p0 p iv : Int} {zs : List Int} (h : Rel s p0 iv p zs) (hi : iv < 0) (h0 : 0 ≤ p0) (h1 : p0 < sizeV s) : indexV s p0 = (zs, 0) := by
  obtain ⟨j, hj, hl, rfl, rfl⟩ := h
  obtain rfl : j = 0 := by omega
  have := size_ok (ok_of_lt h0 h1)
  rw [index_yes h0 h1, List.drop_zero, Int.emod_eq_of_lt h0 (by omega)]
end ShF

namespace ShF
def Tried (s t : List Int) (k : Nat) : Prop := (k : Int) ≤ sizeV s ∧ ∀ j : Int, 0 ≤ j → j < k → digs s j ≠ t
theorem tstart (s t : List Int) : Tried s t 0 := ⟨by have := size_le s; omega, fun j h0 h1 => by omega⟩
theorem tstep {s t : List Int} {k : Nat} (h : Tried s t k) (hk : (k : Int) < sizeV s) (hne : digs s k ≠ t) : Tried s t (k + 1) :=
  ⟨by omega, fun j h0 h1 => by
    by_cases e : j = k
    · subst e; exact hne
    · exact h.2 j h0 (by omega)⟩
end ShF

namespace ShF
def Wd (s : List Int) (n : Nat) (zs : List Int) : Prop := ∃ j, zs = List.replicate j 1 ++ s ∧ (s.length + j ≤ n ∨ j = 0)
theorem wstep {s : List Int} {n : Nat} {zs ys : List Int} (h : Wd s n zs) (hn : zs.length < n) (hy : ys = [1] ++ zs) : Wd s n ys := by
  obtain ⟨j, rfl, _⟩ := h
  refine ⟨j + 1, by rw [hy, List.replicate_succ]; rfl, .inl ?_⟩
  simp at hn; omega
theorem wend {s : List Int} {n : Nat} {zs : List Int} (h : Wd s n zs) (hn : n ≤ zs.length) : zs = pad n s := by
  obtain ⟨j, rfl, hj⟩ := h
  unfold pad
  simp at hn
  rw [show n - s.length = j by omega]
theorem wlen {s : List Int} {n : Nat} {zs : List Int} (h : Wd s n zs) : zs.length ≤ n + s.length := by
  obtain ⟨j, rfl, hj⟩ := h
  simp; omega
end ShF

end Go.Proofs.Ytdcpekkkenckeaa

/- Plain arithmetic under layer 2 (shape): shapes that are joined. No program stands here. -/
namespace Go.Proofs.ShM

/-- What holds at the head of a round: what is joined so far. -/
def JRel (P Q : List Int) (k : Nat) (zs : List Int) : Prop := k ≤ P.length ∧ P.length = Q.length ∧ zs.length = k ∧ joinL P Q = (joinL (P.drop k) (Q.drop k)).map (zs ++ ·)
theorem j_start {P Q : List Int} (h : P.length = Q.length) : JRel P Q 0 [] := ⟨Nat.zero_le _, h, rfl, by simp⟩
theorem j_step {P Q : List Int} {k : Nat} {zs ys : List Int} {x y z : Int} (h : JRel P Q k zs) (hx : P[k]? = some x) (hy : Q[k]? = some y) (hz : jn x y = some z) (he : ys = zs ++ [z]) : JRel P Q (k + 1) ys := by
  obtain ⟨_, h2, h3, h4⟩ := h
  subst he
  refine ⟨(List.getElem?_eq_some_iff.1 hx).1, h2, by simp [h3], ?_⟩
  rw [h4, drop_of hx, drop_of hy]
  simp only [joinL, hz, Option.bind_some, Option.map_map]
  congr 1
  funext l
  simp
theorem j_stop {P Q : List Int} {k : Nat} {zs : List Int} {x y : Int} (h : JRel P Q k zs) (hx : P[k]? = some x) (hy : Q[k]? = some y) (hz : jn x y = none) : joinL P Q = none := by
  obtain ⟨_, h2, h3, h4⟩ := h
  rw [h4, drop_of hx, drop_of hy]
  simp [joinL, hz]
theorem j_end {P Q : List Int} {k : Nat} {zs : List Int} (h : JRel P Q k zs) (hk : k = P.length) : joinL P Q = some zs := by
  obtain ⟨_, h2, h3, h4⟩ := h
  subst hk
  rw [h4, List.drop_length, h2, List.drop_length]
  simp [joinL]
theorem jn_same {x y : Int} (h : x = y) : jn x y = some x := by unfold jn; rw [if_pos (.inl h)]
theorem jn_right {x y : Int} (h : y = 1) : jn x y = some x := by unfold jn; rw [if_pos (.inr h)]
theorem jn_left {x y : Int} (h : x = 1) : jn x y = some y := by
  unfold jn
  by_cases c : x = y ∨ y = 1
  · rw [if_pos c]; rcases c with c | c <;> simp [c] at h ⊢ <;> omega
  · rw [if_neg c, if_pos h]
theorem jn_none {x y : Int} (h : x ≠ y) (h1 : y ≠ 1) (h2 : x ≠ 1) : jn x y = none := by unfold jn; rw [if_neg (by simp [h, h1]), if_neg h2]
theorem join_yes {a b l : List Int} (ha : okS a = true) (hb : okS b = true) (hj : joinO a b = some l) (hl : okS l = true) : joinV a b = (l, 0) := by
  unfold joinV; rw [if_pos (by simp [ha, hb]), hj]; simp [hl]
theorem join_big {a b l : List Int} (ha : okS a = true) (hb : okS b = true) (hj : joinO a b = some l) (hl : okS l = false) : joinV a b = ([], 20) := by
  unfold joinV; rw [if_pos (by simp [ha, hb]), hj]; simp [hl]
theorem join_none {a b : List Int} (ha : okS a = true) (hb : okS b = true) (hj : joinO a b = none) : joinV a b = ([], 20) := by
  unfold joinV; rw [if_pos (by simp [ha, hb]), hj]
theorem join_no {a b : List Int} (h : okS a = false ∨ okS b = false) : joinV a b = ([], 20) := by
  unfold joinV; rw [if_neg]; rcases h with h | h <;> simp [h]
theorem padl {n : Nat} {s : List Int} (h : s.length ≤ n) : (pad n s).length = n := by unfold pad; simp; omega
theorem pad_side {n : Nat} {s : List Int} (h : s.all sideB = true) : (pad n s).all sideB = true := by
  unfold pad
  rw [List.all_append, h, Bool.and_true, List.all_eq_true]
  intro x hx
  rw [(List.mem_replicate.1 hx).2]; rfl

/-! ### From the last side on -/
/-- Two shapes, the last side first. -/
def joinR : List Int → List Int → Option (List Int)
  | [], t => some t
  | x :: s, [] => some (x :: s)
  | x :: s, y :: t => (jn x y).bind fun h => (joinR s t).map (h :: ·)
theorem joinR_nil (s : List Int) : joinR s [] = some s := by cases s <;> rfl
theorem jn_comm (x y : Int) : jn x y = jn y x := by
  by_cases h1 : x = y
  · subst h1; rfl
  · by_cases h2 : y = 1
    · rw [jn_right h2, jn_left h2]
    · by_cases h3 : x = 1
      · rw [jn_left h3, jn_right h3]
      · rw [jn_none h1 h2 h3, jn_none (Ne.symm h1) h3 h2]
theorem joinR_comm (s : List Int) : ∀ t, joinR s t = joinR t s := by
  induction s with
  | nil => intro t; rw [joinR_nil]; rfl
  | cons x s ih => intro t; cases t with
    | nil => rfl
    | cons y t => simp only [joinR, jn_comm x y, ih t]
theorem jn_assoc (x y z : Int) : (jn x y).bind (jn · z) = (jn y z).bind (jn x ·) := by
  by_cases hx : x = 1
  · rw [jn_left hx]
    simp only [Option.bind_some]
    cases h : jn y z with
    | none => rfl
    | some v => simp [jn_left hx]
  · by_cases hy : y = 1
    · rw [jn_right hy, jn_left hy]; rfl
    · by_cases hz : z = 1
      · rw [jn_right hz]
        cases h : jn x y with
        | none => simp [h]
        | some v => simp [h, jn_right hz]
      · by_cases h1 : x = y
        · rw [jn_same h1]
          by_cases h2 : y = z
          · rw [jn_same h2]; simp [jn_same h1, jn_same (h1.trans h2)]
          · rw [jn_none h2 hz hy]; simp only [Option.bind_some, Option.bind_none]; exact jn_none (by omega) hz hx
        · rw [jn_none h1 hy hx]
          by_cases h2 : y = z
          · rw [jn_same h2]; simp only [Option.bind_some, Option.bind_none]; rw [jn_none h1 hy hx]
          · rw [jn_none h2 hz hy]; rfl
theorem joinR_assoc (s : List Int) : ∀ t u, (joinR s t).bind (joinR · u) = (joinR t u).bind (joinR s ·) := by
  induction s with
  | nil => intro t u; simp [joinR]
  | cons x s ih =>
    intro t u
    cases t with
    | nil => simp [joinR]
    | cons y t =>
      cases u with
      | nil => simp [joinR_nil]
      | cons z u =>
        have ha := jn_assoc x y z
        have hi := ih t u
        simp only [joinR]
        cases e1 : jn x y with
        | none =>
          rw [e1] at ha
          simp only [Option.bind_none] at ha ⊢
          cases e2 : jn y z with
          | none => rfl
          | some v =>
            rw [e2] at ha
            simp only [Option.bind_some] at ha ⊢
            cases joinR t u with
            | none => rfl
            | some l => simp [joinR, ← ha]
        | some v =>
          rw [e1] at ha
          simp only [Option.bind_some] at ha ⊢
          cases e3 : joinR s t with
          | none =>
            rw [e3] at hi
            simp only [Option.bind_none, Option.map_none] at hi ⊢
            cases e2 : jn y z with
            | none => rfl
            | some v2 =>
              simp only [Option.bind_some]
              cases e4 : joinR t u with
              | none => rfl
              | some l =>
                rw [e4] at hi
                simp only [Option.bind_some, Option.map_some] at hi ⊢
                simp [joinR, ← hi]
          | some l =>
            rw [e3] at hi
            simp only [Option.map_some, Option.bind_some] at hi ⊢
            simp only [joinR]
            cases e2 : jn y z with
            | none =>
              rw [e2] at ha
              simp only [Option.bind_none] at ha ⊢
              rw [ha]; rfl
            | some v2 =>
              rw [e2] at ha
              simp only [Option.bind_some] at ha ⊢
              rw [ha, hi]
              cases e4 : joinR t u with
              | none => cases jn x v2 <;> rfl
              | some l2 => simp [joinR]
theorem joinR_self (s : List Int) : joinR s s = some s := by
  induction s with
  | nil => rfl
  | cons x s ih => simp [joinR, jn_same, ih]
theorem joinR_len (s : List Int) : ∀ {t l}, joinR s t = some l → l.length = max s.length t.length := by
  induction s with
  | nil => intro t l h; simp [joinR] at h; subst h; simp
  | cons x s ih =>
    intro t l h
    cases t with
    | nil => simp [joinR] at h; subst h; simp
    | cons y t =>
      simp only [joinR] at h
      obtain ⟨v, _, h⟩ := Option.bind_eq_some_iff.1 h
      obtain ⟨m, hm, rfl⟩ := Option.map_eq_some_iff.1 h
      have := ih hm
      simp; omega
theorem jn_mem {x y z : Int} (h : jn x y = some z) : z = x ∨ z = y := by
  unfold jn at h
  split at h
  · exact .inl (Option.some.inj h).symm
  · split at h
    · exact .inr (Option.some.inj h).symm
    · cases h
theorem jn_le {x y z : Int} (h : jn x y = some z) (hx : 1 ≤ x) (hy : 1 ≤ y) : x ≤ z ∧ y ≤ z := by
  unfold jn at h
  split at h
  · have := Option.some.inj h; omega
  · split at h
    · have := Option.some.inj h; omega
    · cases h
theorem joinR_side (s : List Int) : ∀ {t l}, joinR s t = some l → s.all sideB = true → t.all sideB = true → l.all sideB = true ∧ prodS s ≤ prodS l ∧ prodS t ≤ prodS l := by
  induction s with
  | nil =>
    intro t l h hs ht
    simp [joinR] at h; subst h
    have := prod_pos ht
    exact ⟨ht, by simpa [prodS] using this, Int.le_refl _⟩
  | cons x s ih =>
    intro t l h hs ht
    cases t with
    | nil =>
      simp [joinR] at h; subst h
      have := prod_pos hs
      exact ⟨hs, Int.le_refl _, by simpa [prodS] using this⟩
    | cons y t =>
      simp only [joinR] at h
      obtain ⟨v, hv, h⟩ := Option.bind_eq_some_iff.1 h
      obtain ⟨m, hm, rfl⟩ := Option.map_eq_some_iff.1 h
      simp only [List.all_cons, Bool.and_eq_true] at hs ht ⊢
      obtain ⟨i1, i2, i3⟩ := ih hm hs.2 ht.2
      have hx := sideB_iff.1 hs.1
      have hy := sideB_iff.1 ht.1
      have hl := jn_le hv hx.1 hy.1
      have p1 := prod_pos hs.2
      have p2 := prod_pos ht.2
      refine ⟨⟨?_, i1⟩, ?_, ?_⟩
      · rcases jn_mem hv with e | e <;> rw [e]
        · exact hs.1
        · exact ht.1
      · exact Int.mul_le_mul hl.1 i2 (by omega) (by omega)
      · exact Int.mul_le_mul hl.2 i3 (by omega) (by omega)

/-! ### The two ways to join are one -/
theorem joinR_snoc (s : List Int) : ∀ {t : List Int} (x y : Int), s.length = t.length → joinR (s ++ [x]) (t ++ [y]) = (joinR s t).bind fun l => (jn x y).map fun z => l ++ [z] := by
  induction s with
  | nil =>
    intro t x y h
    obtain rfl : t = [] := List.eq_nil_of_length_eq_zero h.symm
    simp [joinR]
    cases jn x y <;> rfl
  | cons u s ih =>
    intro t x y h
    cases t with
    | nil => simp at h
    | cons v t =>
      simp only [List.cons_append, joinR]
      rw [ih x y (by simpa using h)]
      cases jn u v with
      | none => rfl
      | some q =>
        cases joinR s t with
        | none => rfl
        | some l => simp only [Option.bind_some, Option.map_some]; cases jn x y <;> rfl
theorem joinL_R (P : List Int) : ∀ {Q : List Int}, P.length = Q.length → joinL P Q = (joinR P.reverse Q.reverse).map List.reverse := by
  induction P with
  | nil => intro Q h; obtain rfl : Q = [] := List.eq_nil_of_length_eq_zero h.symm; rfl
  | cons x P ih =>
    intro Q h
    cases Q with
    | nil => simp at h
    | cons y Q =>
      have hl : P.length = Q.length := by simpa using h
      simp only [List.reverse_cons, joinL]
      rw [joinR_snoc _ x y (by simpa using hl), ih hl]
      cases jn x y with
      | none => cases joinR P.reverse Q.reverse <;> rfl
      | some z => cases joinR P.reverse Q.reverse <;> simp
theorem joinR_ones (s : List Int) : ∀ {t : List Int} (k : Nat), s.length + k ≤ t.length → t.all sideB = true → joinR (s ++ List.replicate k 1) t = joinR s t := by
  induction s with
  | nil =>
    intro t k
    induction k generalizing t with
    | zero => intro _ _; rfl
    | succ k ih =>
      intro h ht
      cases t with
      | nil => simp at h
      | cons y t =>
        simp only [List.all_cons, Bool.and_eq_true] at ht
        have := ih (t := t) (by simp at h ⊢; omega) ht.2
        simp only [List.nil_append, List.replicate_succ, joinR] at this ⊢
        rw [this, jn_left rfl]; rfl
  | cons x s ih =>
    intro t k h ht
    cases t with
    | nil => simp at h
    | cons y t =>
      simp only [List.all_cons, Bool.and_eq_true] at ht
      simp only [List.cons_append, joinR]
      rw [ih k (by simp at h ⊢; omega) ht.2]
theorem joinO_R {a b : List Int} (ha : a.all sideB = true) (hb : b.all sideB = true) : joinO a b = (joinR a.reverse b.reverse).map List.reverse := by
  unfold joinO
  rw [joinL_R _ (by rw [padl (by omega), padl (by omega)])]
  congr 1
  unfold pad
  simp only [List.reverse_append, List.reverse_replicate]
  rcases Nat.le_total a.length b.length with h | h
  · rw [Nat.max_eq_right h, Nat.sub_self, List.replicate_zero, List.append_nil, joinR_ones _ _ (by simp; omega) (by simpa using hb)]
  · rw [Nat.max_eq_left h, Nat.sub_self, List.replicate_zero, List.append_nil, joinR_comm, joinR_ones _ _ (by simp; omega) (by simpa using ha), joinR_comm]

/-! ### What follows -/
theorem ok_rev {s : List Int} : (s.reverse).all sideB = s.all sideB := by simp
theorem prod_rev (s : List Int) : prodS s.reverse = prodS s := by
  induction s with
  | nil => rfl
  | cons x s ih => rw [List.reverse_cons, prod_snoc, ih, prodS, Int.mul_comm]
/-- Of two that may be: they are joined to c. -/
def Jn (a b c : List Int) : Prop := okS a = true ∧ okS b = true ∧ okS c = true ∧ joinR a.reverse b.reverse = some c.reverse
theorem join_iff {a b c : List Int} : joinV a b = (c, 0) ↔ Jn a b c := by
  unfold Jn
  constructor
  · intro h
    unfold joinV at h
    by_cases h1 : (okS a && okS b) = true
    · rw [if_pos h1] at h
      simp only [Bool.and_eq_true] at h1
      have hr := joinO_R (ok_iff.1 h1.1).2.1 (ok_iff.1 h1.2).2.1
      cases hj : joinO a b with
      | none => rw [hj] at h; simp at h
      | some l =>
        rw [hj] at h hr
        simp only at h
        by_cases h2 : okS l = true
        · rw [if_pos h2] at h
          obtain rfl : l = c := (Prod.mk.inj h).1
          refine ⟨h1.1, h1.2, h2, ?_⟩
          obtain ⟨m, hm, hl⟩ := Option.map_eq_some_iff.1 hr.symm
          rw [hm, ← hl]; simp
        · rw [if_neg h2] at h; simp at h
    · rw [if_neg h1] at h; simp at h
  · rintro ⟨ha, hb, hc, h⟩
    have hr := joinO_R (ok_iff.1 ha).2.1 (ok_iff.1 hb).2.1
    rw [h] at hr
    exact join_yes ha hb (by rw [hr]; simp) hc
theorem join_cases (a b : List Int) : (∃ c, joinV a b = (c, 0) ∧ okS c = true) ∨ joinV a b = ([], 20) := by
  cases ha : okS a with
  | false => exact .inr (join_no (.inl ha))
  | true =>
    cases hb : okS b with
    | false => exact .inr (join_no (.inr hb))
    | true =>
      cases hj : joinO a b with
      | none => exact .inr (join_none ha hb hj)
      | some l =>
        cases hl : okS l with
        | false => exact .inr (join_big ha hb hj hl)
        | true => exact .inl ⟨l, join_yes ha hb hj hl, hl⟩
theorem Jn.comm {a b c : List Int} (h : Jn a b c) : Jn b a c := ⟨h.2.1, h.1, h.2.2.1, by rw [joinR_comm]; exact h.2.2.2⟩
theorem join_comm (a b : List Int) : joinV a b = joinV b a := by
  rcases join_cases a b with ⟨c, h, _⟩ | h
  · rw [h]; exact (join_iff.2 (join_iff.1 h).comm).symm
  · rcases join_cases b a with ⟨d, g, _⟩ | g
    · have := join_iff.2 (join_iff.1 g).comm
      rw [h] at this; simp at this
    · rw [h, g]
theorem Jn.det {a b c d : List Int} (h : Jn a b c) (g : Jn a b d) : c = d := by
  have := h.2.2.2.symm.trans g.2.2.2
  simpa using this
theorem Jn.assoc {a b c ab bc r : List Int} (h : Jn a b ab) (g : Jn b c bc) (k : Jn ab c r) : Jn a bc r := by
  have := joinR_assoc a.reverse b.reverse c.reverse
  rw [h.2.2.2, g.2.2.2] at this
  exact ⟨h.1, g.2.2.1, k.2.2.1, this.symm.trans k.2.2.2⟩
theorem Jn.assoc' {a b c ab bc r : List Int} (h : Jn a b ab) (g : Jn b c bc) (k : Jn a bc r) : Jn ab c r := by
  have := joinR_assoc a.reverse b.reverse c.reverse
  rw [h.2.2.2, g.2.2.2] at this
  exact ⟨h.2.2.1, g.2.1, k.2.2.1, this.trans k.2.2.2⟩
theorem Jn.self {a : List Int} (h : okS a = true) : Jn a a a := ⟨h, h, h, joinR_self _⟩
theorem Jn.nil_ {a : List Int} (h : okS a = true) : Jn [] a a := ⟨by decide, h, h, rfl⟩
theorem fits_iff {a b : List Int} : fitsV a b = true ↔ Jn a b b := by unfold fitsV; rw [decide_eq_true_eq]; exact join_iff
theorem Jn.left {a b c : List Int} (h : Jn a b c) : Jn a c c := (Jn.self h.1).assoc h h
theorem Jn.right {a b c : List Int} (h : Jn a b c) : Jn b c c := h.comm.left
theorem Jn.trans {a b c : List Int} (h : Jn a b b) (g : Jn b c c) : Jn a c c := h.assoc g g
theorem Jn.anti {a b : List Int} (h : Jn a b b) (g : Jn b a a) : a = b := g.comm.det h
theorem Jn.sizes {a b : List Int} (h : Jn a b b) : prodS a ≤ prodS b ∧ a.length ≤ b.length := by
  have h1 := joinR_side _ h.2.2.2 (by rw [ok_rev]; exact (ok_iff.1 h.1).2.1) (by rw [ok_rev]; exact (ok_iff.1 h.2.1).2.1)
  have h2 := joinR_len _ h.2.2.2
  rw [prod_rev, prod_rev] at h1
  simp only [List.length_reverse] at h2
  exact ⟨h1.2.1, by omega⟩
end Go.Proofs.ShM

/- Join of layer 2: what it answers. -/
namespace Go.Proofs.Ytdcpekkkenckeaa
open Go.RowKit Go.Proofs.ShM

namespace ShG
theorem out_len {P Q : List Int} {k : Nat} {zs : List Int} (h : JRel P Q k zs) : zs.length = k := h.2.2.1
end ShG

end Go.Proofs.Ytdcpekkkenckeaa

/- The document's Join of layer 2, and whether one fits another: what each answers. -/
namespace Go.Proofs.Ytdcpekkkenckeaa
open Go.RowKit Go.Proofs.ShM

namespace ShH
theorem pad_max (a b : List Int) : pad (max a.length b.length) a = pad b.length a := by
  unfold pad
  rcases Nat.le_total a.length b.length with h | h
  · rw [Nat.max_eq_right h]
  · rw [Nat.max_eq_left h, Nat.sub_self, Nat.sub_eq_zero_of_le h]
theorem pad_max' (a b : List Int) : pad (max a.length b.length) b = pad a.length b := by rw [Nat.max_comm]; exact pad_max b a
theorem mx (x y z : Int) (hz : z = max x y) (W : World) (ts : Array TypeId) (t : TypeId) : (Builtin.max_ ts t #[.int .i64 x, .int .i64 y]).run Try.prog W = .ok (.int .i64 z) W := by
  rw [run_max_int2]
  by_cases hc : y > x
  · rw [if_pos hc, hz, Int.max_eq_right (by omega)]
  · rw [if_neg hc, hz, Int.max_eq_left (by omega)]
/-- The ways through one round. -/
theorem ways {x y : Int} (hx : 1 ≤ x) (hy : 1 ≤ y) :
    (x = 1 ∧ y = 1 ∧ jn x y = some 1) ∨ (x = 1 ∧ (y != 1) = true ∧ jn x y = some y) ∨ (y = 1 ∧ (x != 1) = true ∧ jn x y = some x) ∨ (x = y ∧ (x != 1) = true ∧ jn x y = some x) ∨
    ((x != 1) = true ∧ (y != 1) = true ∧ jn x y = none ∧ max x y = y ∧ (x != y) = true) ∨ ((x != 1) = true ∧ (y != 1) = true ∧ jn x y = none ∧ max x y = x ∧ (y != x) = true) := by
  by_cases h1 : x = 1 <;> by_cases h2 : y = 1
  · left; subst h1 h2; exact ⟨rfl, rfl, rfl⟩
  · right; left; exact ⟨h1, by simpa using h2, jn_left h1⟩
  · right; right; left; exact ⟨h2, by simpa using h1, jn_right h2⟩
  · by_cases h3 : x = y
    · right; right; right; left; exact ⟨h3, by simpa using h1, jn_same h3⟩
    · rcases Int.le_total x y with h | h
      · right; right; right; right; left; exact ⟨by simpa using h1, by simpa using h2, jn_none h3 h2 h1, Int.max_eq_right h, by simpa using h3⟩
      · right; right; right; right; right; exact ⟨by simpa using h1, by simpa using h2, jn_none h3 h2 h1, Int.max_eq_left h, by simpa using Ne.symm h3⟩
end ShH

end Go.Proofs.Ytdcpekkkenckeaa

/- Whether one shape fits another, in layer 2 and in the document; the calls whose answers the document fixes. -/
namespace Go.Proofs.Ytdcpekkkenckeaa
open Go.RowKit Go.Proofs.ShM

namespace ShI
theorem fits_of {a b c : List Int} (h : joinV a b = (c, 0)) : (c == b) = fitsV a b := by
  unfold fitsV; rw [h, Bool.eq_iff_iff]; simp
theorem fits_no {a b : List Int} (h : joinV a b = ([], 20)) : false = fitsV a b := by unfold fitsV; rw [h]; simp
end ShI

end Go.Proofs.Ytdcpekkkenckeaa

/- The calls of layer 2 at any lengths, the answers written out. -/
namespace Go.Proofs.Ytdcpekkkenckeaa
open Go.RowKit Go.Proofs.ShM

theorem Rd.litg (w : World) (xs : List Int) (h : xs.length ≤ 1000000) (t : TypeId) (g : Nat) (hg : g = w.heap.size) : Rd (w.alloc (.cells (xs.map (Value.int .i64)).toArray t)) (some ⟨g, 0, none⟩) xs := hg ▸ Rd.lit w xs h t
theorem Rd.one_ {w : World} {x : Int} {t : TypeId} {g : Nat} (hg : g = w.heap.size) : Rd (w.alloc (.cells #[.int .i64 x] t)) (some ⟨g, 0, none⟩) [x] := Rd.litg w [x] (by simp) t g hg
theorem Rd.two_ {w : World} {x y : Int} {t : TypeId} {g : Nat} (hg : g = w.heap.size) : Rd (w.alloc (.cells #[.int .i64 x, .int .i64 y] t)) (some ⟨g, 0, none⟩) [x, y] := Rd.litg w [x, y] (by simp) t g hg

section
variable {A B : Option Addr} {c d n m : Nat} (a b : List Int) {w : World}
theorem same_n (h : Rd w A a) (g : Rd w B b) (hn : n = a.length) (hm : m = b.length) {r : Bool} (hr : (a == b) = r) : Calls Try.prog 23 #[.slice A n c, .slice B m d] w fun e w' => e = .returned (.bool r) ∧ ∃ k, w' = w.drewN k := by
  subst hn hm hr
  exact same_any A B c d a b w h g
theorem check_n (h : Rd w A a) (hn : n = a.length) {r : Bool} (hr : okS a = r) : Calls Try.prog 40 #[.slice A n c] w fun e w' => e = .returned (.bool r) ∧ w = w' := by
  subst hn hr
  exact check_any A c a w h
theorem size_n (h : Rd w A a) (hn : n = a.length) {r : Int} (hr : sizeV a = r) : Calls Try.prog 41 #[.slice A n c] w fun e w' => e = .returned (.int .i64 r) ∧ w = w' := by
  subst hn hr
  exact size_any A c a w h
end

end Go.Proofs.Ytdcpekkkenckeaa

/- Plain arithmetic under the laws of layer 2. No program stands here. -/
namespace Go.Proofs.ShM

/-! ### ShapeSizes -/
theorem ok_long_no {s : List Int} {n : Int} (h : okS s = false) : okS (s ++ [n]) = false := by
  cases e : okS (s ++ [n]) with
  | false => rfl
  | true =>
    obtain ⟨h1, h2, h3⟩ := ok_iff.1 e
    rw [prod_snoc] at h3
    simp only [List.all_append, List.all_cons, List.all_nil, Bool.and_true, Bool.and_eq_true] at h2
    have hn := sideB_iff.1 h2.2
    have hp := prod_pos h2.1
    have := Int.mul_le_mul_of_nonneg_left hn.1 (show 0 ≤ prodS s by omega)
    have : okS s = true := ok_iff.2 ⟨by simp at h1; omega, h2.1, by omega⟩
    rw [h] at this; cases this
theorem ok_more {s : List Int} (h : okS s = true) : okS (1 :: s) = decide (s.length < 3) := by
  obtain ⟨h1, h2, h3⟩ := ok_iff.1 h
  rw [Bool.eq_iff_iff, ok_iff, decide_eq_true_eq]
  simp only [List.length_cons, List.all_cons, h2, Bool.and_true, prodS, Int.one_mul]
  exact ⟨fun h => by omega, fun h => ⟨by omega, rfl, h3⟩⟩
theorem size_more {s : List Int} (h : okS s = true) (hl : s.length < 3) : sizeV (1 :: s) = sizeV s := by
  rw [size_ok (by rw [ok_more h]; simpa using hl), size_ok h]; simp [prodS]
theorem ok_snoc {s : List Int} {n : Int} (h : okS s = true) : okS (s ++ [n]) = true ↔ s.length < 3 ∧ 1 ≤ n ∧ n ≤ 16 ∧ sizeV s * n ≤ 64 := by
  obtain ⟨h1, h2, h3⟩ := ok_iff.1 h
  rw [ok_iff, prod_snoc, size_ok h]
  simp only [List.length_append, List.length_cons, List.length_nil, List.all_append, h2, List.all_cons, List.all_nil, Bool.and_true, Bool.true_and, sideB_iff]
  exact ⟨fun ⟨a, b, c⟩ => ⟨by omega, b.1, b.2, c⟩, fun ⟨a, b, c, d⟩ => ⟨by omega, ⟨b, c⟩, d⟩⟩
theorem size_snoc {s : List Int} {n : Int} (h : okS s = true) (h' : okS (s ++ [n]) = true) : sizeV (s ++ [n]) = sizeV s * n := by
  rw [size_ok h', size_ok h, prod_snoc]

/-! ### ShapeWide -/
theorem size_wide {s : List Int} (h : okS s = true) (hl : s.length ≤ 2) : sizeV (1 :: s) = sizeV s := size_more h (by omega)
theorem index_wide {s : List Int} {p : Int} (h : okS s = true) (hl : s.length ≤ 2) (h0 : 0 ≤ p) (h1 : p < sizeV s) : indexV (1 :: s) p = (0 :: digs s p, 0) := by
  rw [index_yes h0 (by rw [size_wide h hl]; exact h1)]
  rw [size_ok h] at h1
  simp only [digs]
  rw [Int.ediv_eq_zero_of_lt h0 h1, Int.emod_eq_of_lt h0 h1]
theorem digs_last (s : List Int) (x : Int) (hx : 1 ≤ x) : ∀ {p : Int}, s.all sideB = true → 0 ≤ p → p < prodS (s ++ [x]) → (digs (s ++ [x]) p)[s.length]? = some (p % x) := by
  induction s with
  | nil =>
    intro p _ h0 h1
    simp only [List.nil_append, prodS, Int.mul_one] at h1
    simp only [List.nil_append, digs, prodS, List.length_nil, Int.ediv_one]
    rw [Int.emod_eq_of_lt h0 h1]; rfl
  | cons y s ih =>
    intro p hs h0 h1
    simp only [List.all_cons, Bool.and_eq_true] at hs
    have hp : 1 ≤ prodS (s ++ [x]) := by
      rw [prod_snoc]
      have := Int.mul_le_mul (prod_pos hs.2) hx (by omega) (by have := prod_pos hs.2; omega)
      omega
    simp only [List.cons_append, digs, List.length_cons, List.getElem?_cons_succ]
    rw [ih hs.2 (Int.emod_nonneg _ (by omega)) (Int.emod_lt_of_pos _ (by omega)), prod_snoc, Int.emod_emod_of_dvd]
    exact Int.dvd_mul_left _ _
theorem digs_end {s : List Int} {k : Nat} {x p : Int} (h : okS s = true) (hk : k + 1 = s.length) (hx : s[k]? = some x) (h0 : 0 ≤ p) (h1 : p < sizeV s) : (digs s p)[k]? = some (p % x) := by
  have hs := side_of (ok_iff.1 h).2.1 hx
  have e : s = s.take k ++ [x] := by rw [← take_of hx, hk, List.take_length]
  have := digs_last (s.take k) x hs.1 (p := p) (all_take (ok_iff.1 h).2.1 k) h0 (by rw [← e, ← size_ok h]; exact h1)
  rw [← e] at this
  simpa [show min k s.length = k by omega] using this

/-! ### ShapeFits -/
theorem fits_self (a : List Int) : fitsV a a = okS a := by
  cases h : okS a with
  | true => exact fits_iff.2 (Jn.self h)
  | false =>
    cases e : fitsV a a with
    | false => rfl
    | true => have := (fits_iff.1 e).1; rw [h] at this; cases this
theorem fits_trans {a b c : List Int} (h : fitsV a b = true) (g : fitsV b c = true) : fitsV a c = true := fits_iff.2 ((fits_iff.1 h).trans (fits_iff.1 g))
theorem fits_anti {a b : List Int} (h : fitsV a b = true) (g : fitsV b a = true) : (a == b) = true := by
  rw [(fits_iff.1 h).anti (fits_iff.1 g)]; simp
theorem fits_sizes {a b : List Int} (h : fitsV a b = true) : sizeV a ≤ sizeV b ∧ a.length ≤ b.length := by
  have j := fits_iff.1 h
  rw [size_ok j.1, size_ok j.2.1]
  exact j.sizes

/-! ### ShapeThree -/
/-- The four answers of ShapeThree. -/
theorem three_cases (a b c : List Int) : ∃ x y z v : List Int, ∃ e f g h : Int, joinV a b = (x, e) ∧ joinV x c = (y, f) ∧ joinV b c = (z, g) ∧ joinV a z = (v, h) ∧
    (e = 20 ∨ (e = 0 ∧ f = 0 ∧ g = 20) ∨ (e = 0 ∧ f = 20 ∧ g = 20) ∨ (e = 0 ∧ f = 20 ∧ g = 0 ∧ h = 20) ∨ (e = 0 ∧ f = 0 ∧ g = 0 ∧ h = 0 ∧ (y == v) = true)) := by
  have pr : ∀ p : List Int × Int, ∃ x e, p = (x, e) := fun p => ⟨p.1, p.2, rfl⟩
  rcases join_cases a b with ⟨x, hx, _⟩ | hx
  · rcases join_cases b c with ⟨z, hz, _⟩ | hz
    · rcases join_cases x c with ⟨y, hy, _⟩ | hy
      · have k := (join_iff.1 hx).assoc (join_iff.1 hz) (join_iff.1 hy)
        exact ⟨x, y, z, y, 0, 0, 0, 0, hx, hy, hz, join_iff.2 k, by simp⟩
      · rcases join_cases a z with ⟨v, hv, _⟩ | hv
        · have k := join_iff.2 ((join_iff.1 hx).assoc' (join_iff.1 hz) (join_iff.1 hv))
          rw [hy] at k; simp at k
        · exact ⟨x, [], z, [], 0, 20, 0, 20, hx, hy, hz, hv, by simp⟩
    · obtain ⟨v, h, hv⟩ := pr (joinV a [])
      rcases join_cases x c with ⟨y, hy, _⟩ | hy
      · exact ⟨x, y, [], v, 0, 0, 20, h, hx, hy, hz, hv, by simp⟩
      · exact ⟨x, [], [], v, 0, 20, 20, h, hx, hy, hz, hv, by simp⟩
  · obtain ⟨y, f, hy⟩ := pr (joinV [] c)
    obtain ⟨z, g, hz⟩ := pr (joinV b c)
    obtain ⟨v, h, hv⟩ := pr (joinV a z)
    exact ⟨[], y, z, v, 20, f, g, h, hx, hy, hz, hv, .inl rfl⟩

/-! ### ShapePlaces -/
theorem places_in {s : List Int} {p : Int} (h0 : 0 ≤ p) (h1 : p < sizeV s) : placeV s (digs s p) = (p, 0) := place_found h0 h1 rfl
theorem places_lex {s : List Int} {a b : Int} (a0 : 0 ≤ a) (a1 : a < sizeV s) (b0 : 0 ≤ b) (b1 : b < sizeV s) : lexF false false (digs s a) (digs s b) = (decide (a < b), a != b) := by
  have ho := ok_of_lt a0 a1
  rw [size_ok ho] at a1 b1
  rw [lex_digs (ok_iff.1 ho).2.1 a0 a1 b0 b1]
  congr 1
  rw [Bool.eq_iff_iff]; simp
end Go.Proofs.ShM
