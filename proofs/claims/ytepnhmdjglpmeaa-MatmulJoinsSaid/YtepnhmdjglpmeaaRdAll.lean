import Derived.Test.YtepnhmdjglpmeaaElAll
import Derived.Shelf.Slices.Delete
import Derived.Shelf.Spec.SlicesInsertGrow
import Derived.RangeFuncBox
import Derived.Test.YtepnhmdjglpmeaaPvAll
import Derived.Conc.MuLone
import Derived.Deep.RegionHeld3
/- Plain facts of layer 6: the places of a side, what its numbers are taken together to, where the first greatest one stands, a side put in. -/
namespace Go.Proofs.ShM
open Go.Proofs.FixM

/-! ### A list with a number put in, or without one -/
def inL (xs : List Int) (k : Nat) (x : Int) : List Int := xs.take k ++ x :: xs.drop k
theorem inL_len {xs : List Int} {k : Nat} {x : Int} (h : k ≤ xs.length) : (inL xs k x).length = xs.length + 1 := by unfold inL; simp; omega
theorem inL_lt {xs : List Int} {k : Nat} {x : Int} (h : k ≤ xs.length) {j : Nat} (hj : j < k) : (inL xs k x)[j]? = xs[j]? := by
  unfold inL; rw [List.getElem?_append_left (by simp; omega), List.getElem?_take, if_pos hj]
theorem inL_at {xs : List Int} {k : Nat} {x : Int} (h : k ≤ xs.length) : (inL xs k x)[k]? = some x := by
  unfold inL; rw [List.getElem?_append_right (by simp; omega)]; simp [Nat.min_eq_left h]
theorem inL_gt {xs : List Int} {k : Nat} {x : Int} (h : k ≤ xs.length) (i : Nat) : (inL xs k x)[k + 1 + i]? = xs[k + i]? := by
  unfold inL; rw [List.getElem?_append_right (by simp; omega)]
  simp only [List.length_take, Nat.min_eq_left h, show k + 1 + i - k = i + 1 by omega, List.getElem?_cons_succ, List.getElem?_drop]
theorem inL_zero (xs : List Int) (x : Int) : inL xs 0 x = x :: xs := rfl
theorem inL_succ (y : Int) (xs : List Int) (k : Nat) (x : Int) : inL (y :: xs) (k + 1) x = y :: inL xs k x := rfl
theorem erase_inL {xs : List Int} : ∀ {k : Nat} {x : Int}, k ≤ xs.length → (inL xs k x).eraseIdx k = xs := by
  induction xs with
  | nil => intro k x h; have : k = 0 := by simpa using h
           subst this; rfl
  | cons y xs ih =>
    intro k x h
    cases k with
    | zero => rfl
    | succ k => rw [inL_succ, List.eraseIdx_cons_succ, ih (by simpa using h)]
theorem inL_getD {xs : List Int} {k : Nat} {x : Int} (h : k ≤ xs.length) : (inL xs k x).getD k 0 = x := by rw [List.getD, inL_at h]; rfl

/-! ### Places -/
/-- So many places go by from one number of a side to the next. -/
def stepS (s : List Int) (a : Nat) : Int := prodS (s.drop (a + 1))
def putP (s : List Int) (a : Nat) (q i : Int) : Int := (q / stepS s a * s.getD a 0 + i) * stepS s a + q % stepS s a
def qOf (s : List Int) (a : Nat) (p : Int) : Int := p / (stepS s a * s.getD a 0) * stepS s a + p % stepS s a
def iOf (s : List Int) (a : Nat) (p : Int) : Int := p / stepS s a % s.getD a 0

theorem all_erase {s : List Int} (h : s.all sideB = true) (a : Nat) : (s.eraseIdx a).all sideB = true := by
  rw [List.all_eq_true] at *
  exact fun x hx => h x (List.mem_of_mem_eraseIdx hx)
theorem side_pos {s : List Int} (h : s.all sideB = true) {a : Nat} (ha : a < s.length) : 1 ≤ s.getD a 0 ∧ s.getD a 0 ≤ 16 := by
  have hx : s[a]? = some s[a] := List.getElem?_eq_getElem ha
  rw [List.getD, hx]; exact side_of h hx
theorem step_pos {s : List Int} (h : s.all sideB = true) (a : Nat) : 1 ≤ stepS s a := prod_pos (all_drop h _)
/-- The sides ahead, the side, those behind. -/
theorem prod_parts : ∀ {s : List Int} {a : Nat}, a < s.length → prodS s = prodS (s.take a) * (s.getD a 0 * stepS s a) ∧ prodS (s.eraseIdx a) = prodS (s.take a) * stepS s a
  | [], a, h => by simp at h
  | x :: r, 0, h => by simp [stepS, prodS]
  | x :: r, a + 1, h => by
    obtain ⟨h1, h2⟩ := prod_parts (s := r) (a := a) (by simpa using h)
    refine ⟨?_, ?_⟩
    · show x * prodS r = x * prodS (r.take a) * (r.getD a 0 * stepS r a)
      rw [h1, Int.mul_assoc]
    · show x * prodS (r.eraseIdx a) = x * prodS (r.take a) * stepS r a
      rw [h2, Int.mul_assoc]
theorem ok_erase {s : List Int} (h : okS s = true) {a : Nat} (ha : a < s.length) : okS (s.eraseIdx a) = true := by
  obtain ⟨h1, h2, h3⟩ := ok_iff.1 h
  refine ok_iff.2 ⟨by have := List.length_eraseIdx_le s a; omega, all_erase h2 a, ?_⟩
  obtain ⟨e1, e2⟩ := prod_parts ha
  have t := prod_pos (all_take h2 a)
  have st := step_pos h2 a
  have sd := (side_pos h2 ha).1
  have t2 := Int.mul_le_mul_of_nonneg_left sd (show 0 ≤ prodS (s.take a) * stepS s a from Int.mul_nonneg (by omega) (by omega))
  rw [Int.mul_one] at t2
  rw [e2]
  have e3 : prodS (s.take a) * stepS s a * s.getD a 0 = prodS s := by rw [e1, Int.mul_assoc, Int.mul_comm (stepS s a)]
  omega
theorem ok_drop {s : List Int} (h : okS s = true) (k : Nat) : okS (s.drop k) = true := by
  obtain ⟨h1, h2, h3⟩ := ok_iff.1 h
  have e : prodS s = prodS (s.take k) * prodS (s.drop k) := by rw [← prod_append, List.take_append_drop]
  have t := prod_pos (all_take h2 k)
  have d := prod_pos (all_drop h2 k)
  have t2 := Int.mul_le_mul_of_nonneg_right t (show 0 ≤ prodS (s.drop k) by omega)
  rw [Int.one_mul] at t2
  exact ok_iff.2 ⟨by simp; omega, all_drop h2 k, by omega⟩
theorem step_size {s : List Int} (h : okS s = true) (a : Nat) : sizeV (s.drop (a + 1)) = stepS s a := size_ok (ok_drop h _)
theorem step_le {s : List Int} (h : okS s = true) (a : Nat) : 1 ≤ stepS s a ∧ stepS s a ≤ 64 := ok_prod (ok_drop h _)

/-- A place is a place without the side, and a number of it. -/
theorem put_range {s : List Int} (h : s.all sideB = true) {a : Nat} (ha : a < s.length) {q i : Int} (q0 : 0 ≤ q) (q1 : q < prodS (s.eraseIdx a)) (i0 : 0 ≤ i) (i1 : i < s.getD a 0) :
    0 ≤ putP s a q i ∧ putP s a q i < prodS s ∧ putP s a q i / stepS s a = q / stepS s a * s.getD a 0 + i ∧ putP s a q i % stepS s a = q % stepS s a := by
  obtain ⟨e1, e2⟩ := prod_parts ha
  have st := step_pos h a
  have sd := (side_pos h ha).1
  rw [e2] at q1
  obtain ⟨a1, a2, a3, a4⟩ := pos_of st q0 q1
  obtain ⟨b1, b2, _, _⟩ := lin_lt sd a1 a2 i0 i1
  obtain ⟨c1, c2, c3, c4⟩ := lin_lt st b1 b2 a3 a4
  refine ⟨c1, ?_, c3, c4⟩
  rw [e1, ← Int.mul_assoc]; exact c2
theorem q_range {s : List Int} (h : s.all sideB = true) {a : Nat} (ha : a < s.length) {p : Int} (p0 : 0 ≤ p) (p1 : p < prodS s) :
    0 ≤ qOf s a p ∧ qOf s a p < prodS (s.eraseIdx a) ∧ 0 ≤ iOf s a p ∧ iOf s a p < s.getD a 0 ∧ putP s a (qOf s a p) (iOf s a p) = p := by
  obtain ⟨e1, e2⟩ := prod_parts ha
  have st := step_pos h a
  have sd := (side_pos h ha).1
  rw [e1, ← Int.mul_assoc] at p1
  obtain ⟨a1, a2, a3, a4⟩ := pos_of st p0 p1
  obtain ⟨b1, b2, b3, b4⟩ := pos_of sd a1 a2
  have e3 : p / (stepS s a * s.getD a 0) = p / stepS s a / s.getD a 0 := (Int.ediv_ediv_of_nonneg (by omega)).symm
  unfold qOf iOf
  rw [e3]
  obtain ⟨c1, c2, c3, c4⟩ := lin_lt st b1 b2 a3 a4
  refine ⟨c1, by rw [e2]; exact c2, b3, b4, ?_⟩
  unfold putP
  rw [c3, c4]
  have f1 := Int.mul_ediv_add_emod (p / stepS s a) (s.getD a 0)
  rw [Int.mul_comm] at f1
  rw [f1]
  have f2 := Int.mul_ediv_add_emod p (stepS s a)
  rw [Int.mul_comm] at f2
  exact f2
theorem q_put {s : List Int} (h : s.all sideB = true) {a : Nat} (ha : a < s.length) {q i : Int} (q0 : 0 ≤ q) (q1 : q < prodS (s.eraseIdx a)) (i0 : 0 ≤ i) (i1 : i < s.getD a 0) :
    qOf s a (putP s a q i) = q ∧ iOf s a (putP s a q i) = i := by
  obtain ⟨_, e2⟩ := prod_parts ha
  have st := step_pos h a
  have sd := (side_pos h ha).1
  obtain ⟨_, _, c3, c4⟩ := put_range h ha q0 q1 i0 i1
  rw [e2] at q1
  obtain ⟨a1, a2, a3, a4⟩ := pos_of st q0 q1
  obtain ⟨_, _, b3, b4⟩ := lin_lt sd a1 a2 i0 i1
  have e3 : ∀ p : Int, p / (stepS s a * s.getD a 0) = p / stepS s a / s.getD a 0 := fun p => (Int.ediv_ediv_of_nonneg (by omega)).symm
  unfold qOf iOf
  rw [e3, c3, c4, b3, b4]
  have f2 := Int.mul_ediv_add_emod q (stepS s a)
  rw [Int.mul_comm] at f2
  exact ⟨f2, rfl⟩
theorem put_inj {s : List Int} (h : s.all sideB = true) {a : Nat} (ha : a < s.length) {q i p : Int} (q0 : 0 ≤ q) (q1 : q < prodS (s.eraseIdx a)) (i0 : 0 ≤ i) (i1 : i < s.getD a 0) (p0 : 0 ≤ p) (p1 : p < prodS s) :
    p = putP s a q i ↔ qOf s a p = q ∧ iOf s a p = i := by
  constructor
  · rintro rfl; exact q_put h ha q0 q1 i0 i1
  · rintro ⟨rfl, rfl⟩; exact (q_range h ha p0 p1).2.2.2.2.symm
theorem put_succ {x : Int} {r : List Int} {a : Nat} (h : r.all sideB = true) (ha : a < r.length) (q i : Int) :
    putP (x :: r) (a + 1) q i = q / prodS (r.eraseIdx a) * prodS r + putP r a (q % prodS (r.eraseIdx a)) i := by
  obtain ⟨e1, e2⟩ := prod_parts ha
  have st := step_pos h a
  have t := prod_pos (all_take h a)
  show (q / stepS r a * r.getD a 0 + i) * stepS r a + q % stepS r a = _
  unfold putP
  rw [e1, e2]
  generalize stepS r a = S at *
  generalize prodS (r.take a) = T at *
  generalize r.getD a 0 = D
  have f := Int.mul_ediv_add_emod q (T * S)
  generalize q / (T * S) = h0 at *
  generalize q % (T * S) = q' at *
  have g1 : q / S = h0 * T + q' / S := by
    rw [← f, show T * S * h0 + q' = q' + (h0 * T) * S by rw [Int.mul_comm (T * S), Int.mul_assoc, Int.add_comm], Int.add_mul_ediv_right _ _ (by omega)]; omega
  have g2 : q % S = q' % S := by
    rw [← f, show T * S * h0 + q' = q' + (h0 * T) * S by rw [Int.mul_comm (T * S), Int.mul_assoc, Int.add_comm], Int.add_mul_emod_self_right]
  rw [g1, g2]
  have g3 : ((h0 * T + q' / S) * D + i) * S = h0 * (T * (D * S)) + (q' / S * D + i) * S := by
    rw [Int.add_mul, Int.add_mul, Int.add_mul, Int.add_mul, Int.mul_assoc h0, Int.mul_assoc h0, Int.mul_assoc T]; omega
  rw [g3]; omega
/-- The index of a place. -/
theorem digs_put : ∀ {s : List Int} {a : Nat}, s.all sideB = true → a < s.length → ∀ (q i : Int), 0 ≤ q → q < prodS (s.eraseIdx a) → 0 ≤ i → i < s.getD a 0 → digs s (putP s a q i) = inL (digs (s.eraseIdx a) q) a i
  | [], a, _, h => by simp at h
  | x :: r, 0, hs, h => by
    intro q i q0 q1 i0 i1
    simp only [List.all_cons, Bool.and_eq_true] at hs
    have hp := prod_pos hs.2
    have q1' : q < prodS r := q1
    have i1' : i < x := i1
    have e : putP (x :: r) 0 q i = i * prodS r + q := by
      show (q / prodS r * x + i) * prodS r + q % prodS r = _
      rw [Int.ediv_eq_zero_of_lt q0 q1', Int.emod_eq_of_lt q0 q1']; simp
    obtain ⟨_, _, c3, c4⟩ := lin_lt hp i0 i1' q0 q1'
    rw [e]
    show (i * prodS r + q) / prodS r :: digs r ((i * prodS r + q) % prodS r) = i :: digs r q
    rw [c3, c4]
  | x :: r, a + 1, hs, h => by
    intro q i q0 q1 i0 i1
    simp only [List.all_cons, Bool.and_eq_true] at hs
    have ha : a < r.length := by simpa using h
    have hp := prod_pos (all_erase hs.2 a)
    have q1' : q < x * prodS (r.eraseIdx a) := q1
    have i1' : i < r.getD a 0 := i1
    obtain ⟨a1, a2, a3, a4⟩ := pos_of hp q0 q1'
    obtain ⟨r1, r2, _, _⟩ := put_range hs.2 ha a3 a4 i0 i1'
    obtain ⟨_, _, c3, c4⟩ := lin_lt (prod_pos hs.2) a1 a2 r1 r2
    rw [put_succ hs.2 ha]
    show (_ / prodS r) :: digs r (_ % prodS r) = inL ((q / prodS (r.eraseIdx a)) :: digs (r.eraseIdx a) (q % prodS (r.eraseIdx a))) (a + 1) i
    rw [c3, c4, inL_succ, digs_put hs.2 ha _ _ a3 a4 i0 i1']
theorem digs_q {s : List Int} (hs : s.all sideB = true) {a : Nat} (ha : a < s.length) {p : Int} (p0 : 0 ≤ p) (p1 : p < prodS s) :
    (digs s p).eraseIdx a = digs (s.eraseIdx a) (qOf s a p) ∧ (digs s p)[a]? = some (iOf s a p) := by
  obtain ⟨r1, r2, r3, r4, r5⟩ := q_range hs ha p0 p1
  have e := digs_put hs ha _ _ r1 r2 r3 r4
  rw [r5] at e
  have hl : a ≤ (digs (s.eraseIdx a) (qOf s a p)).length := by rw [digs_len]; have := List.length_eraseIdx_of_lt ha; omega
  rw [e]
  exact ⟨erase_inL hl, inL_at hl⟩

/-! ### The numbers of a place without the side -/
def lineL (s xs : List Int) (a q : Nat) : List Int := (List.range (s.getD a 0).toNat).map fun i : Nat => xs.getD (putP s a q i).toNat 0
theorem line_len (s xs : List Int) (a q : Nat) : (lineL s xs a q).length = (s.getD a 0).toNat := by unfold lineL; simp
theorem line_get {s xs : List Int} {a q i : Nat} (hi : i < (s.getD a 0).toNat) : (lineL s xs a q)[i]? = some (xs.getD (putP s a q i).toNat 0) := by
  unfold lineL; rw [List.getElem?_map, List.getElem?_range hi]; rfl
/-- A place of a tensor that may be. -/
theorem put_nat {s xs : List Int} (h : tokV s xs = true) {a q i : Nat} (ha : a < s.length) (hq : (q : Int) < sizeV (s.eraseIdx a)) (hi : (i : Int) < s.getD a 0) :
    ∃ m : Nat, putP s a q i = (m : Int) ∧ m < xs.length ∧ (lineL s xs a q)[i]? = some (xs.getD m 0) ∧ xs[m]? = some (xs.getD m 0) := by
  obtain ⟨ho, hl⟩ := tok_iff.1 h
  have hs := ok_all ho
  rw [size_ok (ok_erase ho ha)] at hq
  obtain ⟨r1, r2, _, _⟩ := put_range hs ha (q := q) (i := i) (by omega) hq (by omega) hi
  have hm : (putP s a q i).toNat < xs.length := by omega
  refine ⟨(putP s a q i).toNat, by omega, hm, line_get (by omega), ?_⟩
  rw [List.getD, List.getElem?_eq_getElem hm]; rfl
/-- What the document finds there. -/
theorem at_put {s xs : List Int} (h : tokV s xs = true) {a q i : Nat} (ha : a < s.length) (hq : (q : Int) < sizeV (s.eraseIdx a)) (hi : (i : Int) < s.getD a 0) :
    atV s xs (inL (digs (s.eraseIdx a) q) a i) = ((lineL s xs a q).getD i 0, 0) := by
  obtain ⟨ho, hl⟩ := tok_iff.1 h
  have hs := ok_all ho
  have hq' := hq
  rw [size_ok (ok_erase ho ha)] at hq'
  obtain ⟨r1, r2, _, _⟩ := put_range hs ha (q := q) (i := i) (by omega) hq' (by omega) hi
  rw [← digs_put hs ha _ _ (by omega) hq' (by omega) hi, at_at h r1 (by rw [size_ok ho]; exact r2)]
  congr 1
  show _ = (lineL s xs a q)[i]?.getD 0
  rw [line_get (by omega)]
  rfl

/-! ### Taken together -/
def tkL (f : Int → Int → Int × Int) : Int → List Int → Int × Int
  | x, [] => (x, 0)
  | x, y :: l => if (f x y).2 = 0 then tkL f (f x y).1 l else (0, (f x y).2)
def togL (f : Int → Int → Int × Int) (x0 : Int) (s xs : List Int) (a : Nat) : List Int × Int := mapE (fun q : Nat => tkL f x0 (lineL s xs a q)) (List.range (sizeV (s.eraseIdx a)).toNat)
def togV (f : Int → Int → Int × Int) (x0 : Int) (s xs : List Int) (axis : Int) : Tn :=
  if tokV s xs = false then ([], [], 30) else if axis < 0 ∨ (s.length : Int) ≤ axis then ([], [], 20) else
    if (togL f x0 s xs axis.toNat).2 = 0 then (s.eraseIdx axis.toNat, (togL f x0 s xs axis.toNat).1, 0) else ([], [], (togL f x0 s xs axis.toNat).2)
def greatV (a b : Int) : Int × Int := (max a b, 0)
def sumV (s xs : List Int) (axis : Int) : Tn := togV addV 0 s xs axis
def maxV (s xs : List Int) (axis : Int) : Tn := togV greatV (-9223372036854775808) s xs axis
def meanV (s xs : List Int) (axis : Int) : Tn :=
  if (sumV s xs axis).2.2 = 0 then ((sumV s xs axis).1, (sumV s xs axis).2.1.map fun x => (divV x (s.getD axis.toNat 0 * 4294967296)).1, 0) else ([], [], (sumV s xs axis).2.2)

theorem tk_cons (f : Int → Int → Int × Int) (x y : Int) (l : List Int) : tkL f x (y :: l) = if (f x y).2 = 0 then tkL f (f x y).1 l else (0, (f x y).2) := rfl
/-- A loop over the numbers. -/
def Tk (f : Int → Int → Int × Int) (l : List Int) (r : Int × Int) (k : Nat) (x : Int) : Prop := k ≤ l.length ∧ tkL f x (l.drop k) = r
theorem tk_start (f : Int → Int → Int × Int) (x0 : Int) (l : List Int) : Tk f l (tkL f x0 l) 0 x0 := ⟨Nat.zero_le _, rfl⟩
theorem tk_step {f : Int → Int → Int × Int} {l : List Int} {r : Int × Int} {k : Nat} {x y : Int} (h : Tk f l r k x) (hy : l[k]? = some y) (he : (f x y).2 = 0) : Tk f l r (k + 1) (f x y).1 := by
  obtain ⟨h1, h2⟩ := h
  rw [drop_of hy, tk_cons, if_pos he] at h2
  exact ⟨(List.getElem?_eq_some_iff.1 hy).1, h2⟩
theorem tk_bad {f : Int → Int → Int × Int} {l : List Int} {r : Int × Int} {k : Nat} {x y : Int} (h : Tk f l r k x) (hy : l[k]? = some y) (he : (f x y).2 ≠ 0) : r = (0, (f x y).2) := by
  obtain ⟨h1, h2⟩ := h
  rw [drop_of hy, tk_cons, if_neg he] at h2
  exact h2.symm
theorem tk_end {f : Int → Int → Int × Int} {l : List Int} {r : Int × Int} {k : Nat} {x : Int} (h : Tk f l r k x) (hk : ¬ k < l.length) : r = (x, 0) := by
  obtain ⟨h1, h2⟩ := h
  rw [List.drop_eq_nil_of_le (by omega)] at h2
  exact h2.symm
theorem tk_inv {f : Int → Int → Int × Int} {P : Int → Prop} (hf : ∀ a b, P a → P b → (f a b).2 = 0 → P (f a b).1) : ∀ {l : List Int} {x : Int}, P x → (∀ y ∈ l, P y) → (tkL f x l).2 = 0 → P (tkL f x l).1
  | [], x, hx, _, _ => hx
  | y :: l, x, hx, hl, he => by
    rw [tk_cons] at he ⊢
    by_cases c : (f x y).2 = 0
    · rw [if_pos c] at he ⊢
      exact tk_inv hf (hf x y hx (hl y (by simp)) c) (fun z hz => hl z (by simp [hz])) he
    · rw [if_neg c] at he; exact absurd he c

/-! ### The greatest one, and where it first stands -/
def fmI : List Int → Nat
  | [] => 0
  | x :: l => if l.all (fun y => decide (y ≤ x)) = true then 0 else fmI l + 1
/-- The first greatest one stands there. -/
def IsFm (l : List Int) (k : Nat) : Prop := ∃ x, l[k]? = some x ∧ (∀ (j : Nat) (y : Int), l[j]? = some y → y ≤ x) ∧ ∀ (j : Nat) (y : Int), j < k → l[j]? = some y → y < x
theorem fm_is : ∀ {l : List Int}, l ≠ [] → IsFm l (fmI l)
  | [], h => absurd rfl h
  | x :: l, _ => by
    unfold fmI
    by_cases c : l.all (fun y => decide (y ≤ x)) = true
    · rw [if_pos c]
      rw [List.all_eq_true] at c
      refine ⟨x, rfl, fun j y hy => ?_, fun j y hj => by omega⟩
      cases j with
      | zero => injection hy with hy; omega
      | succ j => exact of_decide_eq_true (c y (List.mem_of_getElem? hy))
    · rw [if_neg c]
      have hne : l ≠ [] := by rintro rfl; exact c rfl
      obtain ⟨z, h1, h2, h3⟩ := fm_is hne
      have hx : x < z := by
        rw [Bool.not_eq_true, List.all_eq_false] at c
        obtain ⟨y, hy, hc⟩ := c
        obtain ⟨j, hj, rfl⟩ := List.mem_iff_getElem.1 hy
        have := h2 j _ (List.getElem?_eq_getElem hj)
        have hc' : ¬ l[j] ≤ x := by simpa using hc
        omega
      refine ⟨z, h1, fun j y hy => ?_, fun j y hj hy => ?_⟩
      · cases j with
        | zero => injection hy with hy; omega
        | succ j => exact h2 j y hy
      · cases j with
        | zero => injection hy with hy; omega
        | succ j => exact h3 j y (by omega) hy
theorem fm_unique {l : List Int} {j k : Nat} (h : IsFm l j) (g : IsFm l k) : j = k := by
  obtain ⟨x, x1, x2, x3⟩ := h
  obtain ⟨y, y1, y2, y3⟩ := g
  have a := x2 k y y1
  have b := y2 j x x1
  rcases Nat.lt_trichotomy j k with c | c | c
  · have := y3 j x c x1; omega
  · exact c
  · have := x3 k y c y1; omega
theorem fm_lt {l : List Int} (h : l ≠ []) : fmI l < l.length := by
  obtain ⟨x, hx, _⟩ := fm_is h
  exact (List.getElem?_eq_some_iff.1 hx).1
/-- The document's loop. -/
def Fm (l : List Int) (k at_ : Nat) : Prop := k ≤ l.length ∧ ((k = 0 ∧ at_ = 0) ∨ IsFm (l.take k) at_)
theorem fmr_start (l : List Int) : Fm l 0 0 := ⟨Nat.zero_le _, .inl ⟨rfl, rfl⟩⟩
theorem fmr_at {l : List Int} {k m : Nat} (h : Fm l k m) (hk : k < l.length) : ∃ y, l[m]? = some y ∧ m < l.length ∧ m ≤ k := by
  rcases h.2 with ⟨rfl, rfl⟩ | ⟨x, hx, _⟩
  · exact ⟨l[0], List.getElem?_eq_getElem hk, hk, Nat.le_refl _⟩
  · rw [List.getElem?_take] at hx
    split at hx
    · exact ⟨x, hx, (List.getElem?_eq_some_iff.1 hx).1, by omega⟩
    · cases hx
theorem fmr_up {l : List Int} {k m : Nat} {x y : Int} (h : Fm l k m) (hx : l[k]? = some x) (hy : l[m]? = some y) (hlt : y < x) : Fm l (k + 1) k := by
  have hk := (List.getElem?_eq_some_iff.1 hx).1
  refine ⟨hk, .inr ⟨x, by rw [List.getElem?_take, if_pos (by omega)]; exact hx, fun j z hz => ?_, fun j z hj hz => ?_⟩⟩
  all_goals
    rw [List.getElem?_take] at hz
    split at hz
    · rename_i hj2
      rcases h.2 with ⟨rfl, rfl⟩ | ⟨w, w1, w2, w3⟩
      · have : j = 0 := by omega
        subst this
        rw [hy] at hx; injection hx with hx; omega
      · rw [List.getElem?_take] at w1
        split at w1
        · rw [hy] at w1; injection w1 with w1
          by_cases c : j = k
          · subst c; rw [hx] at hz; injection hz with hz; first | omega | (exfalso; omega)
          · have := w2 j z (by rw [List.getElem?_take, if_pos (by omega)]; exact hz)
            omega
        · cases w1
    · cases hz
theorem fmr_stay {l : List Int} {k m : Nat} {x y : Int} (h : Fm l k m) (hx : l[k]? = some x) (hy : l[m]? = some y) (hge : ¬ y < x) : Fm l (k + 1) m := by
  have hk := (List.getElem?_eq_some_iff.1 hx).1
  rcases h.2 with ⟨rfl, rfl⟩ | ⟨w, w1, w2, w3⟩
  · refine ⟨hk, .inr ⟨x, by rw [List.getElem?_take, if_pos (by omega)]; exact hx, fun j z hz => ?_, fun j z hj hz => by omega⟩⟩
    rw [List.getElem?_take] at hz
    split at hz
    · have : j = 0 := by omega
      subst this
      rw [hx] at hz; injection hz with hz; omega
    · cases hz
  · rw [List.getElem?_take] at w1
    split at w1
    · rename_i hmk
      refine ⟨hk, .inr ⟨w, by rw [List.getElem?_take, if_pos (by omega)]; exact w1, fun j z hz => ?_, fun j z hj hz => ?_⟩⟩
      · rw [List.getElem?_take] at hz
        split at hz
        · by_cases c : j = k
          · subst c; rw [hx] at hz; injection hz with hz
            rw [hy] at w1; injection w1 with w1; omega
          · exact w2 j z (by rw [List.getElem?_take, if_pos (by omega)]; exact hz)
        · cases hz
      · rw [List.getElem?_take] at hz
        split at hz
        · exact w3 j z hj (by rw [List.getElem?_take, if_pos (by omega)]; exact hz)
        · cases hz
    · cases w1
theorem fmr_end {l : List Int} {k m : Nat} (h : Fm l k m) (hk : ¬ k < l.length) (hl : l ≠ []) : m = fmI l := by
  have e : k = l.length := by have := h.1; omega
  rcases h.2 with ⟨rfl, rfl⟩ | g
  · exact absurd (List.eq_nil_of_length_eq_zero e.symm) hl
  · rw [e, List.take_length] at g
    exact fm_unique g (fm_is hl)
/-- The greatest one. -/
theorem tk_great {l : List Int} : ∀ {x0 : Int}, (tkL greatV x0 l).2 = 0 ∧ x0 ≤ (tkL greatV x0 l).1 ∧ (∀ y ∈ l, y ≤ (tkL greatV x0 l).1) ∧ ((tkL greatV x0 l).1 = x0 ∨ (tkL greatV x0 l).1 ∈ l) := by
  induction l with
  | nil => intro x0; exact ⟨rfl, Int.le_refl _, by simp, .inl rfl⟩
  | cons y l ih =>
    intro x0
    rw [tk_cons, if_pos (by rfl)]
    show (tkL greatV (max x0 y) l).2 = 0 ∧ x0 ≤ (tkL greatV (max x0 y) l).1 ∧ (∀ z ∈ y :: l, z ≤ (tkL greatV (max x0 y) l).1) ∧ ((tkL greatV (max x0 y) l).1 = x0 ∨ (tkL greatV (max x0 y) l).1 ∈ y :: l)
    obtain ⟨h1, h2, h3, h4⟩ := @ih (max x0 y)
    refine ⟨h1, by omega, fun z hz => ?_, ?_⟩
    · rcases List.mem_cons.1 hz with rfl | hz
      · omega
      · exact h3 z hz
    · rcases h4 with h4 | h4
      · by_cases c : x0 ≤ y
        · right; rw [h4, show max x0 y = y by omega]; simp
        · left; rw [h4]; omega
      · right; simp [h4]
theorem tk_max {l : List Int} (hl : l ≠ []) (h : ∀ y ∈ l, -9223372036854775808 ≤ y) : tkL greatV (-9223372036854775808) l = (l.getD (fmI l) 0, 0) := by
  obtain ⟨h1, h2, h3, h4⟩ := @tk_great l (-9223372036854775808)
  obtain ⟨x, x1, x2, x3⟩ := fm_is hl
  refine Prod.ext ?_ h1
  show _ = l.getD (fmI l) 0
  rw [List.getD, x1]
  show _ = x
  have a := h3 x (List.mem_of_getElem? x1)
  rcases h4 with h4 | h4
  · have := h x (List.mem_of_getElem? x1); omega
  · obtain ⟨j, hj, e⟩ := List.mem_iff_getElem.1 h4
    have := x2 j _ (List.getElem?_eq_getElem hj)
    omega

/-! ### The place of the first greatest one -/
def firstD (s xs : List Int) (a : Nat) : List Int := (List.range xs.length).map fun p : Nat => if (fmI (lineL s xs a (qOf s a p).toNat) : Int) = iOf s a p then 4294967296 else 0
def firstV (s xs : List Int) (axis : Int) : Tn := if tokV s xs = false then ([], [], 30) else if axis < 0 ∨ (s.length : Int) ≤ axis then ([], [], 20) else (s, firstD s xs axis.toNat, 0)
/-- A loop that lays One there. -/
def Fs (s xs : List Int) (a k : Nat) (zs : List Int) : Prop :=
  k ≤ (sizeV (s.eraseIdx a)).toNat ∧ zs.length = xs.length ∧ ∀ p : Nat, p < xs.length → zs.getD p 0 = if qOf s a p < k ∧ (fmI (lineL s xs a (qOf s a p).toNat) : Int) = iOf s a p then 4294967296 else 0
theorem fs_start {s xs : List Int} (h : tokV s xs = true) {a : Nat} (ha : a < s.length) : Fs s xs a 0 (List.replicate xs.length 0) := by
  obtain ⟨ho, hl⟩ := tok_iff.1 h
  refine ⟨Nat.zero_le _, by simp, fun p hp => ?_⟩
  have := q_range (ok_all ho) ha (p := p) (by omega) (by first | omega | (rw [← size_ok ho]; omega))
  rw [if_neg (by omega), rep_getD _ _ _ hp]
theorem getD_set {zs : List Int} {m p : Nat} {x : Int} (hm : m < zs.length) : (zs.set m x).getD p 0 = if p = m then x else zs.getD p 0 := by
  simp only [List.getD]
  by_cases c : p = m
  · subst c; rw [List.getElem?_set_self hm, if_pos rfl]; rfl
  · rw [List.getElem?_set_ne (by omega), if_neg c]
theorem fs_step {s xs zs : List Int} (h : tokV s xs = true) {a k m : Nat} (ha : a < s.length) (hF : Fs s xs a k zs) (hk : k < (sizeV (s.eraseIdx a)).toNat) (hm : putP s a k (fmI (lineL s xs a k)) = (m : Int)) : Fs s xs a (k + 1) (zs.set m 4294967296) := by
  obtain ⟨ho, hl⟩ := tok_iff.1 h
  have hs := ok_all ho
  have he := ok_erase ho ha
  obtain ⟨_, h2, h3⟩ := hF
  have hsd := side_pos hs ha
  have hln : lineL s xs a k ≠ [] := by
    intro e
    have := line_len s xs a k
    rw [e, List.length_nil] at this
    omega
  have hfl := fm_lt hln
  rw [line_len] at hfl
  rw [size_ok he] at hk
  have hq1 : (k : Int) < prodS (s.eraseIdx a) := by omega
  obtain ⟨r1, r2, _, _⟩ := put_range hs ha (q := k) (i := (fmI (lineL s xs a k) : Int)) (by omega) hq1 (by omega) (by omega)
  rw [hm] at r1 r2
  have hml : m < zs.length := by rw [h2]; have := size_ok ho; omega
  refine ⟨by rw [size_ok he]; omega, by simpa using h2, fun p hp => ?_⟩
  rw [getD_set hml]
  have hp1 : (p : Int) < prodS s := by omega
  have hj := put_inj hs ha (q := k) (i := (fmI (lineL s xs a k) : Int)) (p := p) (by omega) hq1 (by omega) (by omega) (by omega) hp1
  rw [hm] at hj
  by_cases c : p = m
  · rw [if_pos c]
    obtain ⟨j1, j2⟩ := hj.1 (by omega)
    rw [if_pos ⟨by omega, by rw [j1, j2, Int.toNat_natCast]⟩]
  · rw [if_neg c, h3 p hp]
    by_cases d : qOf s a p = k
    · have hne : ¬ (fmI (lineL s xs a (qOf s a p).toNat) : Int) = iOf s a p := by
        intro e
        rw [d, Int.toNat_natCast] at e
        have := hj.2 ⟨d, e.symm⟩
        omega
      rw [if_neg (fun x => hne x.2), if_neg (fun x => hne x.2)]
    · have e : (qOf s a p < (k : Int)) ↔ (qOf s a p < ((k + 1 : Nat) : Int)) := by omega
      simp only [e]
theorem fs_end {s xs zs : List Int} (h : tokV s xs = true) {a k : Nat} (ha : a < s.length) (hF : Fs s xs a k zs) (hk : ¬ k < (sizeV (s.eraseIdx a)).toNat) : zs = firstD s xs a := by
  obtain ⟨ho, hl⟩ := tok_iff.1 h
  obtain ⟨h1, h2, h3⟩ := hF
  refine ext0 (by rw [h2]; unfold firstD; simp) fun p hp => ?_
  rw [h2] at hp
  rw [h3 p hp]
  have r := q_range (ok_all ho) ha (p := p) (by omega) (by first | omega | (rw [← size_ok ho]; omega))
  rw [← size_ok (ok_erase ho ha)] at r
  unfold firstD
  have e : qOf s a p < k := by omega
  simp [List.getD, List.getElem?_map, List.getElem?_range hp, e]

/-! ### A side put in -/
def growD (s xs : List Int) (a : Nat) (n : Int) : List Int := (List.range (sizeV (inL s a n)).toNat).map fun p : Nat => xs.getD (qOf (inL s a n) a p).toNat 0
def growV (s xs : List Int) (axis n : Int) : Tn :=
  if tokV s xs = false then ([], [], 30) else if axis < 0 ∨ (s.length : Int) < axis ∨ okS (inL s axis.toNat n) = false then ([], [], 20) else (inL s axis.toNat n, growD s xs axis.toNat n, 0)
/-- Two loops that lay each number. -/
def Gs (g xs : List Int) (a k i : Nat) (zs : List Int) : Prop :=
  k ≤ xs.length ∧ zs.length = (sizeV g).toNat ∧ ∀ p : Nat, p < zs.length → zs.getD p 0 = if qOf g a p < k ∨ (qOf g a p = k ∧ iOf g a p < i) then xs.getD (qOf g a p).toNat 0 else 0
theorem gs_start {g : List Int} (xs : List Int) (h : okS g = true) {a : Nat} (ha : a < g.length) : Gs g xs a 0 0 (List.replicate (sizeV g).toNat 0) := by
  refine ⟨Nat.zero_le _, by simp, fun p hp => ?_⟩
  rw [List.length_replicate] at hp
  have := q_range (ok_all h) ha (p := p) (by omega) (by rw [← size_ok h]; omega)
  rw [if_neg (by omega), rep_getD _ _ _ hp]
theorem gs_put {g xs zs : List Int} (h : okS g = true) {a k i m : Nat} {x : Int} (ha : a < g.length) (hG : Gs g xs a k i zs) (hx : xs[k]? = some x) (hk : (k : Int) < prodS (g.eraseIdx a)) (hi : (i : Int) < g.getD a 0) (hm : putP g a k i = (m : Int)) : m < zs.length ∧ Gs g xs a k (i + 1) (zs.set m x) := by
  have hs := ok_all h
  obtain ⟨h1, h2, h3⟩ := hG
  obtain ⟨r1, r2, _, _⟩ := put_range hs ha (q := k) (i := i) (by omega) hk (by omega) hi
  rw [hm] at r1 r2
  have hml : m < zs.length := by rw [h2]; have := size_ok h; omega
  refine ⟨hml, h1, by simpa using h2, fun p hp => ?_⟩
  rw [List.length_set] at hp
  rw [getD_set hml]
  have hp1 : (p : Int) < prodS g := by rw [← size_ok h]; omega
  have hj := put_inj hs ha (q := k) (i := i) (p := p) (by omega) hk (by omega) hi (by omega) hp1
  rw [hm] at hj
  by_cases c : p = m
  · rw [if_pos c]
    obtain ⟨j1, j2⟩ := hj.1 (by omega)
    rw [if_pos (.inr ⟨j1, by omega⟩), j1, Int.toNat_natCast, List.getD, hx]; rfl
  · rw [if_neg c, h3 p hp]
    have hne : ¬ (qOf g a p = k ∧ iOf g a p = i) := fun e => c (by have := hj.2 e; omega)
    by_cases d : qOf g a p < k ∨ (qOf g a p = k ∧ iOf g a p < i)
    · rw [if_pos d, if_pos (by omega)]
    · rw [if_neg d, if_neg (by omega)]
theorem gs_next {g xs zs : List Int} (h : okS g = true) {a k i : Nat} (ha : a < g.length) (hG : Gs g xs a k i zs) (hk : k < xs.length) (hi : ¬ (i : Int) < g.getD a 0) : Gs g xs a (k + 1) 0 zs := by
  obtain ⟨h1, h2, h3⟩ := hG
  refine ⟨hk, h2, fun p hp => ?_⟩
  have := q_range (ok_all h) ha (p := p) (by omega) (by rw [← size_ok h]; omega)
  rw [h3 p hp]
  by_cases d : qOf g a p < k ∨ (qOf g a p = k ∧ iOf g a p < i)
  · rw [if_pos d, if_pos (by omega)]
  · rw [if_neg d, if_neg (by omega)]
theorem gs_end {s xs zs : List Int} {n : Int} (h : tokV s xs = true) {a k i : Nat} (ha : a ≤ s.length) (ho : okS (inL s a n) = true) (hG : Gs (inL s a n) xs a k i zs) (hk : ¬ k < xs.length) : zs = growD s xs a n := by
  obtain ⟨h1, h2, h3⟩ := hG
  obtain ⟨hs, hl⟩ := tok_iff.1 h
  refine ext0 (by rw [h2]; unfold growD; simp) fun p hp => ?_
  have hp' := hp
  rw [h2] at hp
  have r := q_range (ok_all ho) (a := a) (by rw [inL_len ha]; omega) (p := p) (by omega) (by first | omega | (rw [← size_ok ho]; omega))
  rw [erase_inL ha] at r
  rw [h3 p hp', if_pos (by omega)]
  unfold growD
  simp [List.getD, List.getElem?_map, List.getElem?_range hp]
/-- What the document finds there. -/
theorem at_q {s xs : List Int} {n : Int} (h : tokV s xs = true) {a p : Nat} (ha : a ≤ s.length) (ho : okS (inL s a n) = true) (hp : (p : Int) < sizeV (inL s a n)) :
    atV s xs ((digs (inL s a n) p).eraseIdx a) = (xs.getD (qOf (inL s a n) a p).toNat 0, 0) := by
  obtain ⟨hs, hl⟩ := tok_iff.1 h
  have hp' := hp
  rw [size_ok ho] at hp'
  have hal : a < (inL s a n).length := by rw [inL_len ha]; omega
  obtain ⟨r1, r2, _⟩ := q_range (ok_all ho) hal (p := p) (by omega) hp'
  obtain ⟨e, _⟩ := digs_q (ok_all ho) hal (p := p) (by omega) hp'
  rw [erase_inL ha] at e r2
  rw [e, at_at h r1 (by rw [size_ok hs]; exact r2)]
end Go.Proofs.ShM

/- slices.Delete and slices.Insert at []int: what they answer (the library's shelf at this program's numbers). -/
namespace Go.Proofs.Ytepnhmdjglpmeaa
open Go.RowKit Go.Shelf Go.Proofs.ShM
set_option linter.unusedVariables false

def rofD : Nat → Nat
  | 23 => 64
  | n => n
def rot : Nat → Nat
  | 0 => 0
  | 3 => 3
  | 4 => 4
  | 22 => 22
  | n => n
def roD : Ren := ⟨rofD, rot, fun g => g⟩
theorem lays23 : Lays2.n23 Try.prog roD where
  mixed := by kernel_rfl
  f23 := Try.func64.trans (congrArg some (by kernel_rfl))
  t0 := Try.underlying0
  a0 := Try.isAgg0
  z0 := Try.sizeOf0
  v0 := Try.zeroValue0
  t3 := Try.underlying3
  a3 := Try.isAgg3
  z3 := Try.sizeOf3
  v3 := Try.zeroValue3
  t4 := Try.underlying4
  a4 := Try.isAgg4
  z4 := Try.sizeOf4
  v4 := Try.zeroValue4
  t22 := Try.underlying22
  a22 := Try.isAgg22
  z22 := Try.sizeOf22
  v22 := Try.zeroValue22
  i3 := by kernel_rfl

/-- A row of the call's own, its block laid open. -/
theorem Own.row {B n c : Nat} {A : Option Addr} {xs : List Int} {w : World} (h : Own B w (.slice A n c) xs) (hn : 0 < xs.length) :
    ∃ g cur, A = some ⟨g, 0, none⟩ ∧ n = xs.length ∧ B ≤ g ∧ w.heap[g]? = some (.cells cur 3 (0, 0)) ∧ n ≤ c ∧ c ≤ maxLen ∧ cur.size = c ∧ cur.toList.take n = xs.map (Value.int .i64) := by
  obtain ⟨A', c', e, _⟩ := h.form
  injection e with e1 e2 e3
  obtain ⟨h1, h2⟩ := h
  rcases h2 with ⟨e, h0⟩ | ⟨g, cap, cur, e, hb, hh, hnc, hc, hs, ht⟩
  · omega
  · injection e with f1 f2 f3
    subst f1 f3
    refine ⟨g, cur, rfl, e2, hb, hh, by omega, hc, by simpa using hs, by simpa [e2] using ht⟩

theorem below_setCells {B : Nat} {a : World} (b : Nat) (hb : B ≤ b) : ∀ (vs : List Value) (o : Nat) (w : World), Below B a w → Below B a (w.setCells b o vs)
  | [], _, _, h => h
  | v :: r, o, w, h => below_setCells b hb r (o + 1) _ (h.setCell (p := ⟨b, o, none⟩) hb v)

theorem below_putRow {B g q : Nat} {w : World} (d : Array Int) (hb : B ≤ g) : Below B w (Go.Sort.putRow (Value.int .i64) (Go.Sort.ahead w q) g 0 d) where
  os := rfl
  tape := rfl
  output := rfl
  size := by rw [Go.Sort.size_putRow]; exact Nat.le_refl _
  block := fun k hk => by
    show (Array.modify _ g _)[k]? = _
    rw [Array.getElem?_modify, if_neg (by omega)]
    rfl

theorem pdelete_any (A : Option Addr) (c B k : Nat) (xs : List Int) (w : World) (h : Own B w (.slice A xs.length c) xs) (hk : k < xs.length) (hl : xs.length ≤ 1000) :
    Calls Try.prog 64 #[.slice A xs.length c, .int .i64 (k : Int), .int .i64 ((k : Int) + 1)] w fun e w' => e = .returned (.slice A (xs.eraseIdx k).length c) ∧ Sl w' A c (xs.eraseIdx k) ∧ Below B w w' := by
  obtain ⟨g, cur, rfl, _, hB, hh, h1, h2, h3, h4⟩ := h.row (by omega)
  have hm : c ≤ 9223372036854775807 := by unfold maxLen at h2; omega
  have hH : Go.Sort.Holds (Value.int .i64) w g 0 xs.toArray := fun j hj => by
    have hj' : j < xs.length := by simpa using hj
    rw [Nat.zero_add]
    refine ⟨?_, h.froz_ j⟩
    rw [h.cell_ (u := xs[j]) (List.getElem?_eq_getElem hj')]
    simp [hj']
  have hd := Any.slices_Delete_int lays23 g 0 c k (k + 1) xs w hH h1 hm (by omega) (by omega)
  have hel : (xs.eraseIdx k).length = xs.length - 1 := List.length_eraseIdx_of_lt hk
  refine hd.mono ?_
  rintro e w' ⟨rfl, q, rfl⟩
  have hlen : (xs.take k ++ xs.drop (k + 1) ++ List.replicate (k + 1 - k) (0 : Int)).length = xs.length := by simp; omega
  have hP := Go.Sort.holds_putRow (Value.int .i64) (Go.Sort.ahead w q) g 0 xs.toArray (xs.take k ++ xs.drop (k + 1) ++ List.replicate (k + 1 - k) 0).toArray (Go.Sort.holds_ahead _ w q g 0 _ hH) (by simp only [List.size_toArray]; exact hlen)
  have hbl := below_putRow (w := w) (q := q) (xs.take k ++ xs.drop (k + 1) ++ List.replicate (k + 1 - k) (0 : Int)).toArray hB
  refine ⟨by rw [hel, show k + 1 - k = 1 by omega], ⟨⟨by rw [hel]; omega, fun hn => ⟨⟨g, 0, none⟩, rfl, ?_, fun j u hu => ?_⟩⟩, by rw [hel]; omega, hm⟩, hbl⟩
  · rw [Go.Sort.size_putRow]
    exact (Array.getElem?_eq_some_iff.1 hh).1
  · have hj : j < xs.length - 1 := by rw [← hel]; exact (List.getElem?_eq_some_iff.1 hu).1
    have := (hP j (by simp only [List.size_toArray]; rw [hlen]; omega)).1
    rw [Go.WideShapes.add_plain, this]
    congr 2
    have e1 : xs.eraseIdx k = xs.take k ++ xs.drop (k + 1) := List.eraseIdx_eq_take_drop_succ ..
    rw [e1] at hu
    have hj2 : j < (xs.take k ++ xs.drop (k + 1)).length := (List.getElem?_eq_some_iff.1 hu).1
    rw [getElem!_pos _ j (by simp only [List.size_toArray]; rw [hlen]; omega)]
    simp only [List.getElem_toArray]
    rw [List.getElem_append_left hj2]
    exact (List.getElem?_eq_some_iff.1 hu).2

/-- Cells written over, from k on x, from k + 1 on what stood from k on. -/
theorem rd_ins {w' : World} {g k c : Nat} {x : Int} {xs : List Int} (hk : k ≤ xs.length) (hl : xs.length ≤ 1000) (hg : g < w'.heap.size) (hc : xs.length + 1 ≤ c) (hc2 : c ≤ 9223372036854775807)
    (h1 : ∀ j, j < k → ∀ u, xs[j]? = some u → w'.cell? ⟨g, j, none⟩ = some (.int .i64 u)) (h2 : w'.cell? ⟨g, k, none⟩ = some (.int .i64 x)) (h3 : ∀ i u, xs[k + i]? = some u → w'.cell? ⟨g, k + 1 + i, none⟩ = some (.int .i64 u)) :
    Sl w' (some ⟨g, 0, none⟩) c (inL xs k x) := by
  refine ⟨⟨by rw [inL_len hk]; omega, fun _ => ⟨_, rfl, hg, fun j u hu => ?_⟩⟩, by rw [inL_len hk]; exact hc, hc2⟩
  rw [Go.WideShapes.add_plain, Nat.zero_add]
  rcases Nat.lt_trichotomy j k with hj | rfl | hj
  · rw [inL_lt hk hj] at hu; exact h1 j hj u hu
  · rw [inL_at hk] at hu; injection hu with hu; rw [← hu]; exact h2
  · obtain ⟨i, rfl⟩ : ∃ i, j = k + 1 + i := ⟨j - (k + 1), by omega⟩
    rw [inL_gt hk] at hu; exact h3 i u hu

theorem size_setCells (b : Nat) : ∀ (vs : List Value) (o : Nat) (w : World), (w.setCells b o vs).heap.size = w.heap.size
  | [], _, _ => rfl
  | v :: r, o, w => by rw [World.setCells, size_setCells b r]; simp [World.setCell]

theorem ints_cell {cs : List Int} {j : Nat} {u : Int} (h : cs[j]? = some u) : (cs.map (Value.int .i64))[j]? = some (.int .i64 u) := by rw [List.getElem?_map, h]; rfl
theorem ints_back {cs : List Int} {j : Nat} {v : Value} (h : (cs.map (Value.int .i64))[j]? = some v) : ∃ u, cs[j]? = some u ∧ v = .int .i64 u := by
  rw [List.getElem?_map, Option.map_eq_some_iff] at h
  obtain ⟨u, h1, h2⟩ := h
  exact ⟨u, h1, h2.symm⟩
theorem ints_one (cs : List Int) : ∀ v ∈ cs.map (Value.int .i64), v.oneCell' = true := by
  intro v hv
  obtain ⟨x, _, rfl⟩ := List.mem_map.1 hv
  rfl

/-- The answer is a list in memory that lies from B on. -/
def RetI (B : Nat) (ys : List Int) (w : World) (e : Ending) (w' : World) : Prop := ∃ A c, e = .returned (.slice A ys.length c) ∧ Sl w' A c ys ∧ Below B w w'

end Go.Proofs.Ytepnhmdjglpmeaa

/- The program's small calls of layer 6 (reduce): the greater one of two, the place that a place without a side becomes. -/
namespace Go.Proofs.Ytepnhmdjglpmeaa
open Go.RowKit Go.Proofs.ShM Go.Proofs.FixM
set_option linter.unusedVariables false

theorem kpH {A B : World} (k : Kp A B) {j : Nat} {o : Obj} (h : A.heap[j]? = some o) : B.heap[j]? = some o := (k.block j (Array.getElem?_eq_some_iff.1 h).1).trans h

/-- A function value that tells the places of a side. -/
structure Plc (s : List Int) (a : Nat) (b1 b2 : Nat) (W : World) : Prop where
  step : Boxed W b1 3 (.int .i64 (stepS s a))
  side : Boxed W b2 3 (.int .i64 (s.getD a 0))
theorem Plc.kp {s : List Int} {a b1 b2 : Nat} {W W' : World} (h : Plc s a b1 b2 W) (k : Kp W W') : Plc s a b1 b2 W' := ⟨kpH k h.step, kpH k h.side⟩
def plcF (b1 b2 : Nat) : Value := .func (.func 78) #[] #[.pointer (some ⟨b1, 0, none⟩), .pointer (some ⟨b2, 0, none⟩)]

set_option maxHeartbeats 1000000 in
theorem placer1_any (s : List Int) (a b1 b2 : Nat) (q i : Nat) (W : World) (ho : okS s = true) (ha : a < s.length) (hq : (q : Int) < sizeV (s.eraseIdx a)) (hi : (i : Int) < s.getD a 0) (h : Plc s a b1 b2 W) :
    Calls Try.prog 78 #[.int .i64 (q : Int), .int .i64 (i : Int), .pointer (some ⟨b1, 0, none⟩), .pointer (some ⟨b2, 0, none⟩)] W fun e W' => e = .returned (.int .i64 (putP s a q i)) ∧ ∃ n, W' = W.drewN n := by
  have c1 := h.step.cell
  have c2 := h.side.cell
  have hs := ok_all ho
  rw [size_ok (ok_erase ho ha)] at hq
  obtain ⟨r1, r2, _, _⟩ := put_range hs ha (q := q) (i := i) (by omega) hq (by omega) hi
  have st := step_le ho a
  have sd := side_pos hs ha
  have hp := ok_prod ho
  have he := ok_prod (ok_erase ho ha)
  have HF : Hid (putP s a q i = ((q : Int) / stepS s a * s.getD a 0 + i) * stepS s a + (q : Int) % stepS s a) := rfl
  rw [HF.out] at r1 r2 ⊢
  generalize stepS s a = S at *
  generalize s.getD a 0 = D at *
  have d0 : 0 ≤ (q : Int) / S := Int.ediv_nonneg (by omega) (by omega)
  have d1 : (q : Int) / S ≤ 64 := Int.le_trans (Int.ediv_le_self _ (by omega)) (by omega)
  have e0 : 0 ≤ (q : Int) / S * D := Int.mul_nonneg d0 (by omega)
  have e1 : (q : Int) / S * D ≤ 64 * 16 := Int.mul_le_mul d1 sd.2 (by omega) (by omega)
  have f0 : 0 ≤ ((q : Int) / S * D + i) * S := Int.mul_nonneg (by omega) (by omega)
  have f1 : ((q : Int) / S * D + i) * S ≤ (64 * 16 + 16) * 64 := Int.mul_le_mul (by omega) st.2 (by omega) (by omega)
  have m0 := Int.emod_nonneg (q : Int) (show S ≠ 0 by omega)
  have HW : Hid (wrap64 (wrap64 (wrap64 (wrap64 (wrap64 ((q : Int) / S) * D) + i) * S) + (q : Int) % S) = ((q : Int) / S * D + i) * S + (q : Int) % S) := by
    show wrap64 _ = _
    rw [IntWalk.wrap64_in ((q : Int) / S) (by omega), IntWalk.wrap64_in ((q : Int) / S * D) (by omega), IntWalk.wrap64_in ((q : Int) / S * D + i) (by omega), IntWalk.wrap64_in (((q : Int) / S * D + i) * S) (by omega), IntWalk.wrap64_in _ (by omega)]
  have s0 : 1 ≤ S := st.1
  have s1 : S ≤ 64 := st.2
  have q0 : (0 : Int) ≤ (q : Int) := by omega
  clear h ho ha hs hp he r1 r2 sd st HF e0 e1 f0 f1 hq hi d0 d1 m0
  go_enter Try.func78, Try.ntmps78
  go_wp2
  go_quiet (fail)
  go_wp2
  go_ret
  exact ⟨by rw [← HW.out]; rfl, _, rfl⟩

theorem box_a (w : World) (v : Value) (t : TypeId) (o : Obj) : Boxed ((w.alloc (.cells #[v] t)).alloc o).drew w.heap.size t v := (Boxed.new w t v).alloc o
theorem box_b (w : World) (v : Value) (t : TypeId) (o : Obj) : Boxed ((w.alloc o).alloc (.cells #[v] t)).drew (w.heap.size + 1) t v := by
  have h := Boxed.new (w.alloc o) t v
  rw [World.size_alloc] at h
  exact h

set_option maxHeartbeats 4000000 in
theorem placer_any (A : Option Addr) (c : Nat) (s : List Int) (a : Nat) (w : World) (h : Rd w A s) (hc : s.length ≤ c) (ho : okS s = true) (ha : a < s.length) :
    Calls Try.prog 65 #[.slice A s.length c, .int .i64 (a : Int)] w fun e w' => ∃ b1 b2, e = .returned (plcF b1 b2) ∧ Plc s a b1 b2 w' ∧ Kp w w' := by
  have hs3 := (ok_iff.1 ho).1
  obtain ⟨ad, x, rfl, hlt, hx, hcl⟩ := h.at_ ha
  have hgd : s.getD a 0 = x := by rw [List.getD, hx]; rfl
  obtain ⟨k, hk⟩ : ∃ k : Nat, k = a + 1 := ⟨_, rfl⟩
  have w1 : IntKind.i64.wrap ((a : Int) + 1) = (k : Int) := by rw [IntWalk.i64_in _ (by omega)]; omega
  have hkl : k ≤ s.length := by omega
  have hss : sizeV (s.drop k) = stepS s a := by rw [hk]; exact step_size ho a
  obtain ⟨A3, hA3⟩ : ∃ A3, A3 = cutA (some ad) c k := ⟨_, rfl⟩
  obtain ⟨c3, hc3⟩ : ∃ c3, c3 = c - k := ⟨_, rfl⟩
  obtain ⟨n3, hn3⟩ : ∃ n3, n3 = s.length - k := ⟨_, rfl⟩
  have hcut : ∀ W, (Instr.sliceAt 22 (.slice (some ad) s.length c) (some (.int .i64 (k : Int))) none none).run Try.prog W = .ok (.slice A3 n3 c3) W := fun W => by
    rw [hA3, hc3, hn3, run_cut W (some ad) s.length c k hkl]
  have HS : Hid (∀ W, Kp w W → Calls Try.prog 28 #[.slice A3 n3 c3] W fun e w' => e = .returned (.int .i64 (stepS s a)) ∧ W = w') := fun W kw => by
    rw [hA3, hn3]
    exact size_n (s.drop k) ((h.kp kw).cut hc) (by simp) hss
  have HC : Hid (∀ W, Kp w W → W.cell? (ad.add a) = some (.int .i64 x)) := fun W q => (q.cell (p := ad.add a) (by rw [block_of_add]; exact hlt)).trans hcl
  have HP : Hid (∀ b1 b2 W, Boxed W b1 3 (.int .i64 (stepS s a)) → Boxed W b2 3 (.int .i64 x) → Plc s a b1 b2 W) := fun b1 b2 W p q => ⟨p, by rw [hgd]; exact q⟩
  have hc1 := HC.out w (Kp.refl _)
  have hb1 : (ad.add a).block < w.heap.size := by rw [block_of_add]; exact hlt
  have hb2 : ¬ (ad.add a).block = w.heap.size := by omega
  have hb3 : ¬ (ad.add a).block = w.heap.size + 1 := by omega
  have j1 : (0 : Int) ≤ (a : Int) := by omega
  have j2 : (a : Int) < (s.length : Int) := by omega
  generalize stepS s a = S at HS HP
  have HK : Hid (∀ V, Kp w V → V.cell? (ad.add a) = some (.int .i64 x)) := HC.out
  clear h hc ho hx hcl hgd hA3 hc3 hn3 hlt hk hss
  go_enter Try.func65, Try.ntmps65
  go_wp2
  go_region_with (first | (refine (HS.out _ (by first | exact Below.drew (Kp.refl _) | exact Below.drew (Kp.alloc_ _ _) | exact Below.drew ((Kp.alloc_ _ _).al _))).mono ?_; rintro e w1 ⟨rfl, rfl⟩))
  all_goals
    go_wp2
    go_ret
    exact ⟨_, _, rfl, HP.out _ _ _ (by first | exact box_a _ _ _ _ | exact box_b _ _ _ _) (by first | exact box_a _ _ _ _ | exact box_b _ _ _ _), Below.drew ((Kp.alloc_ _ _).al _)⟩
end Go.Proofs.Ytepnhmdjglpmeaa

/- The document's small calls of layer 6 (fullerref06): a list without a place, a number put in, whether there is such a side, the numbers of an index, where the greatest one is. -/
namespace Go.Proofs.Ytepnhmdjglpmeaa
open Go.RowKit Go.Proofs.ShM Go.Proofs.FixM
set_option linter.unusedVariables false

theorem Rd.take {w : World} {A : Option Addr} {x : List Int} (h : Rd w A x) (k : Nat) : Rd w A (x.take k) :=
  ⟨by have := h.1; simp; omega, fun hp => by
    simp at hp
    obtain ⟨ad, e, hb, hc⟩ := h.2 (by omega)
    refine ⟨ad, e, hb, fun j u hu => hc j u ?_⟩
    rw [List.getElem?_take] at hu
    split at hu
    · exact hu
    · cases hu⟩

/-- What append leaves, all but the row's block as it was. -/
theorem run_app2 {w : World} {B : Nat} {v : Value} {xs ys : List Int} {A : Option Addr} (ho : Own B w v xs) (c : Nat) (hr : Rd w A ys) (hs : xs.length + ys.length ≤ 1000000) (hB : B ≤ w.heap.size) (ty : TypeId) :
    ∃ zs A' c' w', zs = xs ++ ys ∧ (Builtin.append_ #[22, 22] ty #[v, .slice A ys.length c]).run Try.prog w = .ok (.slice A' zs.length c') w' ∧ Own B w' (.slice A' zs.length c') zs ∧ Below B w w' ∧ (∀ k, k < w.heap.size → some k ≠ v.ownBlock → w'.heap[k]? = w.heap[k]?) := by
  by_cases hy : ys = []
  · subst hy
    obtain ⟨A', c', rfl, _⟩ := ho.form
    cases A with
    | none => exact ⟨xs, A', c', w, by simp, app_nil ho c ty, ho, Below.refl _ _, fun _ _ _ => rfl⟩
    | some ad =>
      obtain ⟨i, hi, hz, h1, h2⟩ := info_parts int_info
      obtain ⟨v', w', hrun, hown, hg, _, _⟩ := run_append_own_at (P := Try.prog) w B 22 ty 3 i _ 1 8 Try.underlying22 hi hz h1 h2 rfl (by omega) _ _ _ ho ad 0 c [] rfl (by simp) (by simp) (by unfold maxLen; omega) (by omega) hB
      have hown' : Own B w' v' xs := by simpa [Own] using hown
      obtain ⟨A2, c2, rfl, _⟩ := hown'.form
      refine ⟨xs, A2, c2, w', by simp, hrun, hown', (Below.refl _ _).grown hg hB (fun k hk => ho.from_ hk), fun k hk hne => hg.block k hk hne⟩
  · obtain ⟨ad, rfl, hlt, hc⟩ := hr.2 (List.length_pos_iff.2 hy)
    obtain ⟨i, hi, hz, h1, h2⟩ := info_parts int_info
    obtain ⟨v', w', hrun, hown, hg, _, _⟩ := run_append_own_at (P := Try.prog) w B 22 ty 3 i _ 1 8 Try.underlying22 hi hz h1 h2 rfl (by omega) _ _ _ ho ad ys.length c (ys.map (Value.int .i64)) (by simp)
      (fun j u hu => by
        rw [List.getElem?_map, Option.map_eq_some_iff] at hu
        obtain ⟨x, hx, rfl⟩ := hu
        exact hc j x hx) (fun v hv => by obtain ⟨x, _, rfl⟩ := List.mem_map.1 hv; rfl) (by unfold maxLen; omega) (by omega) hB
    have hown' : Own B w' v' (xs ++ ys) := by simpa [Own] using hown
    obtain ⟨A2, c2, rfl, _⟩ := hown'.form
    refine ⟨xs ++ ys, A2, c2, w', rfl, hrun, hown', (Below.refl _ _).grown hg hB (fun k hk => ho.from_ hk), fun k hk hne => hg.block k hk hne⟩
theorem step_app2 {w : World} {B : Nat} {ops : Array Oper} {o : Oper} {a : Act} {K : Act → World → Prop} {Q : Exit → Act → World → Prop} {E : Prop} (hgd : o.guard = none) (s x : Operand)
    (hop : o.op = .call { callee := .builtin .append, args := #[s, x], argTypes := #[22, 22] })
    (v : Value) (xs : List Int) (hs : a.eval s = v) (ho : Own B w v xs) (A : Option Addr) (c : Nat) (ys : List Int) (n : Nat) (hx : a.eval x = .slice A n c) (hn : n = ys.length) (hr : Rd w A ys)
    (hl : xs.length + ys.length ≤ 1000000) (hB : B ≤ w.heap.size)
    (h : ∀ zs A' c' w', Hid (zs = xs ++ ys) → Own B w' (.slice A' zs.length c') zs → Below B w w' → (∀ k, k < w.heap.size → some k ≠ v.ownBlock → w'.heap[k]? = w.heap[k]?) → K (a.put o.dst (.slice A' zs.length c')) w') :
    if Region.wanted o (yielded ops a.tmps) = true then Oper.wp Try.prog o a w K Q else E := by
  have hw : Region.wanted o (yielded ops a.tmps) = true := by simp [Region.wanted, hgd]
  rw [if_pos hw]
  subst hn
  obtain ⟨zs, A', c', w', e, hrun, h1, h2, h3⟩ := run_app2 ho c hr hl hB o.type
  unfold Oper.wp execOp
  simp only [hop, resolve, invoke, builtin, Sem.run_bind, Sem.run_pure, Result.andThen_ok, List.map_toArray, List.map_cons, List.map_nil, hs, hx, hrun]
  exact h zs A' c' w' e h1 h2 h3
theorem rd_block {w : World} {b : Nat} {x : Int} (h : w.heap[b]? = some (.cells #[.int .i64 x] 3 (0, 0))) : Rd w (some ⟨b, 0, none⟩) [x] :=
  ⟨by simp, fun _ => ⟨_, rfl, (Array.getElem?_eq_some_iff.1 h).1, fun j u hu => by
    cases j with
    | zero =>
      injection hu with hu
      subst hu
      rw [Go.WideShapes.add_plain, Nat.zero_add]
      simp [World.cell?, h]
    | succ j => simp at hu⟩⟩

def sideV (s xs : List Int) (axis : Int) : Int := if tokV s xs = false then 30 else if axis < 0 ∨ (s.length : Int) ≤ axis then 20 else 0
end Go.Proofs.Ytepnhmdjglpmeaa

/- The program's together of layer 6 (reduce): a side's numbers, taken together one way; Sum and Max. -/
namespace Go.Proofs.Ytepnhmdjglpmeaa
open Go.RowKit Go.Proofs.ShM Go.Proofs.FixM
set_option linter.unusedVariables false

/-- The tensor's box, the way's, the answer's. -/
structure Tg (w : World) (A : Option Addr) (n c : Nat) (B : Option Addr) (m d : Nat) (x0 : Int) (F : Nat) (W : World) : Prop where
  kp : Kp w W
  t : Bk W w.heap.size A n c B m d
  y : W.heap[w.heap.size + 1]? = some (.cells #[.int .i64 x0, .func (.func F) #[] #[]] 59 (0, 0))
  r : Bk W (w.heap.size + 1 + 1) none 0 0 none 0 0
section
variable {w W W' : World} {A B : Option Addr} {n c m d : Nat} {x0 : Int} {F : Nat}
theorem Tg.tr (h : Tg w A n c B m d x0 F W) (k : Kp W W') : Tg w A n c B m d x0 F W' := ⟨h.kp.tr k, h.t.kp k, kpH k h.y, h.r.kp k⟩
theorem Tg.mk_ (w : World) (A : Option Addr) (n c : Nat) (B : Option Addr) (m d : Nat) (x0 : Int) (F : Nat) :
    Tg w A n c B m d x0 F (((w.alloc (.cells #[.slice A n c, .slice B m d] 24)).alloc (.cells #[.int .i64 x0, .func (.func F) #[] #[]] 59)).alloc (.cells #[.slice none 0 0, .slice none 0 0] 24)) where
  kp := ((Kp.alloc_ _ _).al _).al _
  t := ((Bk.new rfl).alloc_ _).alloc_ _
  y := by
    have h := kpH (Kp.alloc_ _ (.cells #[.slice none 0 0, .slice none 0 0] 24)) (World.alloc_heap_new (w.alloc (.cells #[.slice A n c, .slice B m d] 24)) (.cells #[.int .i64 x0, .func (.func F) #[] #[]] 59))
    rw [World.size_alloc] at h
    exact h
  r := Bk.new (by simp)
theorem Tg.y0 (h : Tg w A n c B m d x0 F W) : W.cell? ⟨w.heap.size + 1, 0, none⟩ = some (.int .i64 x0) := by simp [World.cell?, h.y]
theorem Tg.y1 (h : Tg w A n c B m d x0 F W) : W.cell? ⟨w.heap.size + 1, 1, none⟩ = some (.func (.func F) #[] #[]) := by simp [World.cell?, h.y]
theorem Tg.end_ (h : Tg w A n c B m d x0 F W) (x y : Value) : Kp w ((W.setCell ⟨w.heap.size + 1 + 1, 0, none⟩ x).setCell ⟨w.heap.size + 1 + 1, 1, none⟩ y) :=
  (h.kp.setCell (p := ⟨w.heap.size + 1 + 1, 0, none⟩) (by show w.heap.size ≤ w.heap.size + 1 + 1; omega) x).setCell (p := ⟨w.heap.size + 1 + 1, 1, none⟩) (by show w.heap.size ≤ w.heap.size + 1 + 1; omega) y
end

/-- The answer is the tensor and the error; its numbers lie in memory of the call's own, its shape ahead of them. -/
def RetS (r : Tn) (w : World) (e : Ending) (w' : World) : Prop :=
  ∃ A c B d b, e = .returned (.tuple #[.agg #[.slice A r.1.length c, .slice B r.2.1.length d], .int .i64 r.2.2]) ∧ Sl w' A c r.1 ∧ w.heap.size ≤ b ∧ Own b w' (.slice B r.2.1.length d) r.2.1 ∧ (∀ ad, A = some ad → ad.block < b) ∧ Kp w w'
theorem RetS.err {r : Tn} {err : Int} {w w' : World} (h : r = ([], [], err)) (k : Kp w w') : RetS r w (.returned (.tuple #[.agg #[.slice none 0 0, .slice none 0 0], .int .i64 err])) w' := by
  subst h
  exact ⟨none, 0, none, 0, w.heap.size, rfl, Sl.nil_ _, Nat.le_refl _, Own.nil_ _ _, fun _ h => by (cases h), k⟩

theorem quiet_of {f : FuncId} {args : Array Value} {w : World} {n : Nat} {v : Value} (h : Calls Try.prog f args (w.drewN n) fun e w' => e = .returned v ∧ ∃ m, w' = (w.drewN n).drewN m) :
    Calls Try.prog f args (w.drewN n) fun e w'' => e = .returned v ∧ ∃ m, w'' = w.drewN m := h.mono fun _ _ ⟨he, m, hm⟩ => ⟨he, n + m, by rw [hm]; exact World.drewN_drewN _ _ _⟩

set_option maxHeartbeats 4000000 in
theorem tog_tok (f : Int → Int → Int × Int) (x0 : Int) (F : Nat) (A B : Option Addr) (c d : Nat) (s xs : List Int) (axis : Int) (w : World) (hA : Sl w A c s) (hB : Rd w B xs) (ht : tokV s xs = false) :
    Calls Try.prog 45 #[.agg #[.slice A s.length c, .slice B xs.length d], .int .i64 axis, .agg #[.int .i64 x0, .func (.func F) #[] #[]]] w (RetS (togV f x0 s xs axis) w) := by
  have hlA := hA.rd.len
  have hlB := hB.len
  have F0 := Lib.hid (Tg.mk_ w A s.length c B xs.length d x0 F)
  have HT := Lib.hid (tcheck_any A B c d s xs _ (hA.rd.kp F0.out.kp) (hB.kp F0.out.kp))
  rw [ht] at HT
  have HF : Hid (togV f x0 s xs axis = ([], [], 30)) := by show togV f x0 s xs axis = _; unfold togV; rw [if_pos ht]
  clear hA hB ht
  go_enter Try.func45, Try.ntmps45
  go_wp2_with fail
  refine (Calls.mono (Hid.out HT)) ?_; rintro e0 w1 ⟨rfl, k1⟩
  have F1 := Lib.hid (F0.out.tr k1)
  clear k1
  have r0 := F1.out.r.c0
  have r1 := F1.out.r.c1
  have u0 := F1.out.r.f0 0
  have u1 := F1.out.r.f0 1
  go_wp2
  refine bodyPost_ret (v := .tuple #[.agg #[.slice none 0 0, .slice none 0 0], .int .i64 30]) (by simp [results, Try.results45, go_sem, r0, r1]; try rfl) rfl ?_
  exact RetS.err HF.out (F1.out.end_ _ _)

set_option maxHeartbeats 4000000 in
theorem tog_side (f : Int → Int → Int × Int) (x0 : Int) (F : Nat) (A B : Option Addr) (c d : Nat) (s xs : List Int) (axis : Int) (w : World) (hA : Sl w A c s) (hB : Rd w B xs) (ht : tokV s xs = true) (hx : axis < 0 ∨ (s.length : Int) ≤ axis) :
    Calls Try.prog 45 #[.agg #[.slice A s.length c, .slice B xs.length d], .int .i64 axis, .agg #[.int .i64 x0, .func (.func F) #[] #[]]] w (RetS (togV f x0 s xs axis) w) := by
  have hlA := hA.rd.len
  have hlB := hB.len
  have F0 := Lib.hid (Tg.mk_ w A s.length c B xs.length d x0 F)
  have HT := Lib.hid (tcheck_any A B c d s xs _ (hA.rd.kp F0.out.kp) (hB.kp F0.out.kp))
  rw [ht] at HT
  have HF : Hid (togV f x0 s xs axis = ([], [], 20)) := by show togV f x0 s xs axis = _; unfold togV; rw [if_neg (by simp [ht]), if_pos hx]
  clear hA hB ht
  by_cases h0 : axis < 0
  · clear hx
    go_enter Try.func45, Try.ntmps45
    go_wp2_with fail
    refine (Calls.mono (Hid.out HT)) ?_; rintro e0 w1 ⟨rfl, k1⟩
    have F1 := Lib.hid (F0.out.tr k1)
    clear k1
    have t0 := F1.out.t.c0
    have t1 := F1.out.t.c1
    have r0 := F1.out.r.c0
    have r1 := F1.out.r.c1
    have u0 := F1.out.r.f0 0
    have u1 := F1.out.r.f0 1
    go_wp2
    refine bodyPost_ret (v := .tuple #[.agg #[.slice none 0 0, .slice none 0 0], .int .i64 20]) (by simp [results, Try.results45, go_sem, r0, r1]; try rfl) rfl ?_
    exact RetS.err HF.out (F1.out.end_ _ _)
  · have h1 : (s.length : Int) ≤ axis := by omega
    clear hx
    go_enter Try.func45, Try.ntmps45
    go_wp2_with fail
    refine (Calls.mono (Hid.out HT)) ?_; rintro e0 w1 ⟨rfl, k1⟩
    have F1 := Lib.hid (F0.out.tr k1)
    clear k1
    have t0 := F1.out.t.c0
    have t1 := F1.out.t.c1
    have r0 := F1.out.r.c0
    have r1 := F1.out.r.c1
    have u0 := F1.out.r.f0 0
    have u1 := F1.out.r.f0 1
    go_wp2
    refine bodyPost_ret (v := .tuple #[.agg #[.slice none 0 0, .slice none 0 0], .int .i64 20]) (by simp [results, Try.results45, go_sem, r0, r1]; try rfl) rfl ?_
    exact RetS.err HF.out (F1.out.end_ _ _)

set_option maxHeartbeats 8000000 in
theorem tog_ok (f : Int → Int → Int × Int) (x0 : Int) (F : Nat) (A B : Option Addr) (c d : Nat) (s xs : List Int) (a : Nat) (w : World) (hA : Sl w A c s) (hB : Rd w B xs) (hi : I64s xs) (h0 : I64 x0) (hf : ∀ x y, I64 x → I64 y → (f x y).2 = 0 → I64 (f x y).1)
    (HF : ∀ args W, (callFunc F args).run Try.prog W = .ok (.enter F args) W)
    (hN : ∀ x y, I64 x → I64 y → ∀ W, Calls Try.prog F #[.int .i64 x, .int .i64 y] W fun e W' => e = .returned (.tuple #[.int .i64 (f x y).1, .int .i64 (f x y).2]) ∧ W = W')
    (ht : tokV s xs = true) (ha : a < s.length) :
    Calls Try.prog 45 #[.agg #[.slice A s.length c, .slice B xs.length d], .int .i64 (a : Int), .agg #[.int .i64 x0, .func (.func F) #[] #[]]] w (RetS (togV f x0 s xs a) w) := by
  have hlA := hA.rd.len
  have hlB := hB.len
  obtain ⟨ho, hxl⟩ := tok_iff.1 ht
  have hs3 := (ok_iff.1 ho).1
  have hsd := side_pos (ok_all ho) ha
  have hel := List.length_eraseIdx_of_lt ha
  have hoe := ok_erase ho ha
  have hpe := ok_prod hoe
  have hsz := size_ok hoe
  have F0 := Lib.hid (Tg.mk_ w A s.length c B xs.length d x0 F)
  have HT := Lib.hid (tcheck_any A B c d s xs _ (hA.rd.kp F0.out.kp) (hB.kp F0.out.kp))
  rw [ht] at HT
  have HCL : Hid (∀ W, Kp w W → Calls Try.prog 44 #[.slice A s.length c] W (RetO s W)) := fun W k => clone_any A c s W (hA.rd.kp k) (by omega)
  have HDE : Hid (∀ W A1 c1 b, Own b W (.slice A1 s.length c1) s → Calls Try.prog 64 #[.slice A1 s.length c1, .int .i64 (a : Int), .int .i64 ((a : Int) + 1)] W fun e w' => e = .returned (.slice A1 (s.eraseIdx a).length c1) ∧ Sl w' A1 c1 (s.eraseIdx a) ∧ Below b W w') := fun W A1 c1 b h => pdelete_any A1 c1 b a s W h ha (by omega)
  have HPL : Hid (∀ W, Kp w W → Calls Try.prog 65 #[.slice A s.length c, .int .i64 (a : Int)] W fun e w' => ∃ b1 b2, e = .returned (.func (.func 78) #[] #[.pointer (some ⟨b1, 0, none⟩), .pointer (some ⟨b2, 0, none⟩)]) ∧ Plc s a b1 b2 w' ∧ Kp W w') := fun W k => placer_any A c s a W (hA.rd.kp k) hA.le ho ha
  obtain ⟨N, hNN⟩ : ∃ N : Nat, sizeV (s.eraseIdx a) = (N : Int) := ⟨(sizeV (s.eraseIdx a)).toNat, by omega⟩
  have HSZ : Hid (∀ W A1 c1, Rd W A1 (s.eraseIdx a) → Calls Try.prog 28 #[.slice A1 (s.eraseIdx a).length c1] W fun e w' => e = .returned (.int .i64 (N : Int)) ∧ W = w') := fun W A1 c1 r => by
    have hh := size_any A1 c1 (s.eraseIdx a) W r
    rw [hNN] at hh
    exact hh
  have HP1 : Hid (∀ (q i : Nat) W b1 b2, q < N → (i : Int) < s.getD a 0 → Plc s a b1 b2 W → Calls Try.prog 78 #[.int .i64 (q : Int), .int .i64 (i : Int), .pointer (some ⟨b1, 0, none⟩), .pointer (some ⟨b2, 0, none⟩)] W fun e W' => e = .returned (.int .i64 (putP s a q i)) ∧ ∃ n, W' = W.drewN n) :=
    fun q i W b1 b2 hq hi h => placer1_any s a b1 b2 q i W ho ha (by omega) hi h
  have HPN : Hid (∀ (q i : Nat), q < N → (i : Int) < s.getD a 0 → ∃ m : Nat, putP s a q i = (m : Int) ∧ m < xs.length ∧ (lineL s xs a q)[i]? = some (xs.getD m 0) ∧ xs[m]? = some (xs.getD m 0)) := fun q i hq hi => put_nat ht ha (by omega) hi
  have HLL : Hid (∀ q, (lineL s xs a q).length = (s.getD a 0).toNat) := fun q => line_len s xs a q
  obtain ⟨D, hD⟩ : ∃ D : Nat, s.getD a 0 = (D : Int) := ⟨(s.getD a 0).toNat, by omega⟩
  rw [hD] at HP1 HPN HLL
  obtain ⟨ad, x, hAe, hbx, hx, hc⟩ := hA.rd.at_ ha
  have hxD : x = (D : Int) := by rw [← hD, List.getD, hx]; rfl
  subst hxD
  have HAX : Hid (∀ W, Kp w W → W.cell? (ad.add a) = some (.int .i64 (D : Int))) := fun W k => (k.cell (p := ad.add a) (by rw [block_of_add]; exact hbx)).trans hc
  have HRB : Hid (Rd w B xs) := hB
  have HII : Hid (I64s xs) := hi
  have HX0 : Hid (I64 x0) := h0
  have HFF := Lib.hid hf
  have HNF := Lib.hid hN
  have HN64 : Hid (N ≤ 64) := by show N ≤ 64; omega
  have HD16 : Hid (D ≤ 16) := by show D ≤ 16; omega
  have HRES : Hid (togV f x0 s xs a = if (mapE (fun q : Nat => tkL f x0 (lineL s xs a q)) (List.range N)).2 = 0 then (s.eraseIdx a, (mapE (fun q : Nat => tkL f x0 (lineL s xs a q)) (List.range N)).1, 0) else ([], [], (mapE (fun q : Nat => tkL f x0 (lineL s xs a q)) (List.range N)).2)) := by
    show togV f x0 s xs a = _
    unfold togV togL
    rw [if_neg (by simp [ht]), if_neg (by omega), Int.toNat_natCast, hNN, Int.toNat_natCast]
  obtain ⟨cs, hmk, hown⟩ := mk_ N (by omega)
  have HO := Lib.hid hown
  have HS := Lib.hid (ee_start (f := fun q : Nat => tkL f x0 (lineL s xs a q)) (l := List.range N))
  obtain ⟨S, hS⟩ : ∃ S, S = s.eraseIdx a := ⟨_, rfl⟩
  rw [← hS] at HDE HSZ HRES
  have w1a : IntKind.i64.wrap ((a : Int) + 1) = (a : Int) + 1 := by rw [IntWalk.i64_in _ (by omega)]
  have j0 : ¬ (a : Int) < 0 := by omega
  have j1 : (0 : Int) ≤ (a : Int) := by omega
  have j2 : (a : Int) < (s.length : Int) := by omega
  have j3 : ¬ (s.length : Int) ≤ (a : Int) := by omega
  subst hAe
  generalize togV f x0 s xs a = R at HRES ⊢
  clear hA hB ht ho hsd hx hc hbx hel hi h0 hf hN hxl hoe hpe hsz hNN hD hown hS
  go_enter Try.func45, Try.ntmps45
  go_wp2_with fail
  refine (Calls.mono (Hid.out HT)) ?_; rintro e0 w1 ⟨rfl, k1⟩
  have F1 := Lib.hid (F0.out.tr k1)
  clear k1
  have t0 := F1.out.t.c0
  have t1 := F1.out.t.c1
  go_wp2_with fail
  refine (HCL.out _ F1.out.kp).mono ?_; rintro e0 w2 ⟨A2, c2, rfl, o2, k2⟩
  have K2 := Lib.hid k2
  have F2 := Lib.hid (F1.out.tr k2)
  have O2 := Lib.hid o2
  have HAD : Hid (∀ ad, A2 = some ad → ad.block < w2.heap.size) := fun ad h => (o2.ad h).2
  clear k2 o2 t0 t1
  have t0 := F2.out.t.c0
  have t1 := F2.out.t.c1
  go_wp2_with fail
  refine (HDE.out _ _ _ _ O2.out).mono ?_; rintro e0 w3 ⟨rfl, s3, k3⟩
  have F3 := Lib.hid (F1.out.tr (K2.out.trans k3))
  have S3 := Lib.hid s3
  have HAD : Hid (∀ ad, A2 = some ad → ad.block < w3.heap.size) := fun ad h => Nat.lt_of_lt_of_le (HAD.out ad h) k3.size
  clear k3 s3 t0 t1
  have t0 := F3.out.t.c0
  have t1 := F3.out.t.c1
  go_wp2_with fail
  refine (HPL.out _ F3.out.kp).mono ?_; rintro e0 w4 ⟨b1, b2, rfl, p4, k4⟩
  have F4 := Lib.hid (F3.out.tr k4)
  have S4 := Lib.hid (S3.out.kp k4)
  have P4 := Lib.hid p4
  have HAD : Hid (∀ ad, A2 = some ad → ad.block < w4.heap.size) := fun ad h => Nat.lt_of_lt_of_le (HAD.out ad h) k4.size
  clear k4 p4 t0 t1
  go_wp2_with (go_at_call 28; refine (HSZ.out _ _ _ (by first | exact S4.out.rd | exact S4.out.rd.alloc_ _)).mono ?_; rintro e0 w5 ⟨rfl, rfl⟩)
  go_loopw [45] (fun i wr => ∃ (k : Nat) (zs : List Int), i = .int .i64 k ∧ Hid (Ee (fun q : Nat => tkL f x0 (lineL s xs a q)) (List.range N) k zs) ∧ Hid (Own w4.heap.size wr (.slice (some ⟨w4.heap.size, 0, none⟩) N N) zs) ∧ Hid (Kp w4 wr)) (fun i _ => N - (intOf i).toNat)
  case atStart =>
    refine ⟨0, _, rfl, HS.out, ?_, Kp.alloc_ _ _⟩
    have hh := HO.out w4 w4.heap.size (Nat.le_refl _)
    have e : (List.range N).length = N := by simp
    rw [e]
    exact hh
  case round =>
    obtain ⟨k, zs, rfl, hr, hown, hk⟩ := hrel
    obtain ⟨wo, hwo⟩ : ∃ wo : World, wo = wr := ⟨_, rfl⟩
    subst hwo
    have F5 := Lib.hid (F4.out.tr hk.out)
    have P5 := Lib.hid (P4.out.kp hk.out)
    have hN64 : N ≤ 64 := HN64.out
    have hD16 : D ≤ 16 := HD16.out
    have hkl : k ≤ N := by have := hr.out.1; rwa [List.length_range] at this
    by_cases hlt : k < N
    · have hlt' : (k : Int) < (N : Int) := by omega
      have hx := HAX.out _ F5.out.kp
      have t0 := F5.out.t.c0
      have t1 := F5.out.t.c1
      have y0 := F5.out.y0
      have y1 := F5.out.y1
      have HT0 := Lib.hid (tk_start f x0 (lineL s xs a k))
      have HLK : Hid ((lineL s xs a k).length = D) := by show _ = D; rw [HLL.out]; rfl
      have hrk : (List.range N)[k]? = some k := List.getElem?_range hlt
      have hzk : k < zs.length := by have := hr.out.2.1; rw [List.length_range] at this; omega
      have HP2 : Hid (∀ (i : Nat) W, i < D → Kp wo W → Calls Try.prog 78 #[.int .i64 (k : Int), .int .i64 (i : Int), .pointer (some ⟨b1, 0, none⟩), .pointer (some ⟨b2, 0, none⟩)] W fun e W' => e = .returned (.int .i64 (putP s a k i)) ∧ ∃ n, W' = W.drewN n) :=
        fun i W hi kw => HP1.out k i W b1 b2 hlt (by omega) (P5.out.kp kw)
      have HPK : Hid (∀ (i : Nat), i < D → ∃ m : Nat, putP s a k i = (m : Int) ∧ m < xs.length ∧ (lineL s xs a k)[i]? = some (xs.getD m 0) ∧ xs[m]? = some (xs.getD m 0)) := fun i hi => HPN.out k i hlt (by omega)
      obtain ⟨r, hrr⟩ : ∃ r, r = tkL f x0 (lineL s xs a k) := ⟨_, rfl⟩
      rw [← hrr] at HT0
      have HOKS : Hid (∀ y, r = (y, 0) → Ee (fun q : Nat => tkL f x0 (lineL s xs a q)) (List.range N) (k + 1) (zs.set k y)) := fun y e => by
        have hh := ee_step hr.out hrk (by show (tkL f x0 (lineL s xs a k)).2 = 0; rw [← hrr, e])
        have e2 : (tkL f x0 (lineL s xs a k)).1 = y := by rw [← hrr, e]
        simp only [e2] at hh
        exact hh
      have HBAD : Hid (∀ er, r = (0, er) → er ≠ 0 → R = ([], [], er)) := fun er e he => by
        have hh := ee_bad hr.out hrk (by show (tkL f x0 (lineL s xs a k)).2 ≠ 0; rw [← hrr, e]; exact he)
        have e2 : (tkL f x0 (lineL s xs a k)).2 = er := by rw [← hrr, e]
        simp only [e2] at hh
        rw [HRES.out, hh, if_neg he]
      obtain ⟨L, hL⟩ : ∃ L, L = lineL s xs a k := ⟨_, rfl⟩
      rw [← hL] at HT0 HLK HPK
      clear hrk hrr hL
      go_wp2
      go_loopw [12, 13, 55] (fun v e i wx => ∃ (j : Nat) (y : Int), v = .int .i64 y ∧ e = .int .i64 0 ∧ i = .int .i64 j ∧ Hid (Tk f L r j y) ∧ Hid (I64 y) ∧ Hid (∃ n, wx = wo.drewN n)) (fun _ _ i _ => D - (intOf i).toNat)
      case atStart => exact ⟨0, x0, rfl, rfl, rfl, HT0.out, HX0.out, ⟨0, rfl⟩⟩
      case round =>
        obtain ⟨j, y, rfl, rfl, rfl, hT, hy, hn⟩ := hrel
        have KX : Hid (Kp wo wr) := by obtain ⟨n, e⟩ := hn.out; show Kp wo wr; rw [e]; exact Kp.drewN_ _ _
        have F6 := Lib.hid (F5.out.tr KX.out)
        clear t0 t1 y0 y1 hx
        have t0 := F6.out.t.c0
        have t1 := F6.out.t.c1
        have y1 := F6.out.y1
        by_cases hj : j < D
        · have hj' : (j : Int) < (D : Int) := by omega
          obtain ⟨m, hm1, hm2, hm3, hm4⟩ := HPK.out j hj
          obtain ⟨bd, v, hBe, hbv, hv, hcv⟩ := HRB.out.at_ hm2
          have hvv : xs.getD m 0 = v := by rw [hv] at hm4; injection hm4 with e; exact e.symm
          rw [hvv] at hm3 hm4
          have hcv' : wr.cell? (bd.add m) = some (.int .i64 v) := (F6.out.kp.cell (p := bd.add m) (by rw [block_of_add]; exact hbv)).trans hcv
          have hv64 : I64 v := HII.out.get hm4
          have HQ2 : Hid (∀ m', Calls Try.prog 78 #[.int .i64 (k : Int), .int .i64 (j : Int), .pointer (some ⟨b1, 0, none⟩), .pointer (some ⟨b2, 0, none⟩)] (wr.drewN m') fun e W' => e = .returned (.int .i64 (m : Int)) ∧ ∃ n', W' = (wr.drewN m').drewN n') := fun m' => by
            have hh := HP2.out j (wr.drewN m') hj (KX.out.tr (Kp.drewN_ _ _))
            rw [hm1] at hh
            exact hh
          have HG := Lib.hid (fun W => HNF.out y v hy.out hv64 W)
          have i1 : (0 : Int) ≤ (m : Int) := by omega
          have i2 : (m : Int) < (xs.length : Int) := by omega
          subst hBe
          by_cases he : (f y v).2 = 0
          · have HST := Lib.hid (tk_step hT.out hm3 he)
            have HI2 : Hid (I64 (f y v).1) := HFF.out y v hy.out hv64 he
            rw [he] at HG
            generalize (f y v).1 = z at HST HI2 HG
            clear hm1 hm3 hm4 hv hcv hvv he
            go_wp2
            go_quiet (first | (go_at_call 78; exact quiet_of (HQ2.out _)) | (exact quiet_same (HG.out _)))
            go_wp2
            go_roundw
            case rel => exact ⟨j + 1, z, rfl, rfl, by go_num, HST.out, HI2.out, by obtain ⟨n, e⟩ := hn.out; exact ⟨_, by rw [e]; exact World.drewN_drewN _ _ _⟩⟩
            case measure => simp [intOf]; omega
          · have HBD := Lib.hid (HBAD.out _ (tk_bad hT.out hm3 he) he)
            have he' : ((f y v).2 != 0) = true := by simpa using he
            generalize (f y v).2 = er at HG HBD he'
            generalize (f y v).1 = z at HG
            have r0 := F6.out.r.c0
            have r1 := F6.out.r.c1
            have u0 := F6.out.r.f0 0
            have u1 := F6.out.r.f0 1
            clear hm1 hm3 hm4 hv hcv hvv he
            go_wp2
            go_quiet (first | (go_at_call 78; exact quiet_of (HQ2.out _)) | (exact quiet_same (HG.out _)))
            go_wp2
            refine bodyPost_ret (v := .tuple #[.agg #[.slice none 0 0, .slice none 0 0], .int .i64 er]) (by simp [results, Try.results45, go_sem, r0, r1]; try rfl) rfl ?_
            exact RetS.err HBD.out ((F6.out.tr (Kp.drewN_ _ _)).end_ _ _)
        · have hj' : ¬ (j : Int) < (D : Int) := by omega
          have HEN := Lib.hid (HOKS.out y (tk_end hT.out (by rw [HLK.out]; exact hj)))
          have HW := Lib.hid (hown.out.kp KX.out)
          have hcz := HW.out.cell_ (j := k) (List.getElem?_eq_getElem hzk)
          have hfz := HW.out.froz_ k
          have HK5 := Lib.hid (hk.out.tr KX.out)
          clear t0 t1 y1
          go_wp2
          go_roundw
          case rel => exact ⟨k + 1, _, by go_num, HEN.out, HW.out.set_ _ _, HK5.out.setCell (p := ⟨w4.heap.size, k, none⟩) (Nat.le_refl _) _⟩
          case measure => simp [intOf]; omega
    · have hlt' : ¬ (k : Int) < (N : Int) := by omega
      have HE := Lib.hid (ee_end hr.out (by rw [List.length_range]; exact hlt))
      have HFR : Hid (R = (S, zs, 0)) := by show R = _; rw [HRES.out, HE.out, if_pos rfl]
      have hzl : zs.length = N := by have := hr.out.2.1; rwa [List.length_range] at this
      have HZL := Lib.hid hzl
      have r0 := F5.out.r.c0
      have r1 := F5.out.r.c1
      have u0 := F5.out.r.f0 0
      have u1 := F5.out.r.f0 1
      clear hzl
      go_wp2
      refine bodyPost_ret (v := .tuple #[.agg #[.slice A2 S.length c2, .slice (some ⟨w4.heap.size, 0, none⟩) N N], .int .i64 0]) (by simp [results, Try.results45, go_sem, r0, r1]; try rfl) rfl ?_
      have hlt4 : w.heap.size + 1 + 1 < w4.heap.size := F4.out.r.lt
      have hS := (S4.out.kp hk.out)
      rw [HFR.out]
      refine ⟨A2, c2, some ⟨w4.heap.size, 0, none⟩, N, w4.heap.size, ?_, ⟨(hS.rd.past F5.out.r _ _), hS.le, hS.cap⟩, F4.out.kp.size, ?_, HAD.out, F5.out.end_ _ _⟩
      · rw [HZL.out]
      · rw [HZL.out]
        exact (hown.out.put_ (p := ⟨w.heap.size + 1 + 1, 0, none⟩) hlt4 _).put_ (p := ⟨w.heap.size + 1 + 1, 1, none⟩) hlt4 _

theorem together_any (f : Int → Int → Int × Int) (x0 : Int) (F : Nat) (A B : Option Addr) (c d : Nat) (s xs : List Int) (axis : Int) (w : World) (hA : Sl w A c s) (hB : Rd w B xs) (hi : I64s xs) (h0 : I64 x0) (hf : ∀ x y, I64 x → I64 y → (f x y).2 = 0 → I64 (f x y).1)
    (HF : ∀ args W, (callFunc F args).run Try.prog W = .ok (.enter F args) W)
    (hN : ∀ x y, I64 x → I64 y → ∀ W, Calls Try.prog F #[.int .i64 x, .int .i64 y] W fun e W' => e = .returned (.tuple #[.int .i64 (f x y).1, .int .i64 (f x y).2]) ∧ W = W') :
    Calls Try.prog 45 #[.agg #[.slice A s.length c, .slice B xs.length d], .int .i64 axis, .agg #[.int .i64 x0, .func (.func F) #[] #[]]] w (RetS (togV f x0 s xs axis) w) := by
  cases ht : tokV s xs with
  | false => exact tog_tok f x0 F A B c d s xs axis w hA hB ht
  | true =>
    by_cases hx : axis < 0 ∨ (s.length : Int) ≤ axis
    · exact tog_side f x0 F A B c d s xs axis w hA hB ht hx
    · obtain ⟨a, rfl⟩ : ∃ a : Nat, axis = (a : Int) := ⟨axis.toNat, by omega⟩
      exact tog_ok f x0 F A B c d s xs a w hA hB hi h0 hf HF hN ht (by omega)

end Go.Proofs.Ytepnhmdjglpmeaa

/- The document's Sum and Max of layer 6 (fullerref06). -/
namespace Go.Proofs.Ytepnhmdjglpmeaa
open Go.RowKit Go.Proofs.ShM Go.Proofs.FixM
set_option linter.unusedVariables false

theorem side_err {s xs : List Int} {axis : Int} (h : sideV s xs axis ≠ 0) (f : Int → Int → Int × Int) (x0 : Int) : togV f x0 s xs axis = ([], [], sideV s xs axis) := by
  unfold sideV togV at *
  by_cases h1 : tokV s xs = false
  · rw [if_pos h1, if_pos h1]
  · rw [if_neg h1] at h ⊢
    rw [if_neg h1]
    by_cases h2 : axis < 0 ∨ (s.length : Int) ≤ axis
    · rw [if_pos h2, if_pos h2]
    · rw [if_neg h2] at h; exact absurd rfl h
theorem side_ok {s xs : List Int} {axis : Int} (h : sideV s xs axis = 0) : tokV s xs = true ∧ ∃ a : Nat, axis = (a : Int) ∧ a < s.length := by
  unfold sideV at h
  by_cases h1 : tokV s xs = false
  · rw [if_pos h1] at h; cases h
  · rw [if_neg h1] at h
    by_cases h2 : axis < 0 ∨ (s.length : Int) ≤ axis
    · rw [if_pos h2] at h; cases h
    · exact ⟨by simpa using h1, axis.toNat, by omega, by omega⟩
theorem ea_grow {f : Nat → Int × Int} {N k : Nat} {zs ys : List Int} {y : Int} (h : Ea f (List.range N) k zs) (hk : k < N) (hy : f k = (y, 0)) (e : ys = zs ++ [y]) : Ea f (List.range N) (k + 1) ys := ea_step h (List.getElem?_range hk) hy e

/-- What stands at the loops of the document's Sum, Max: the tensor's box, the answer's, the shape's own list, the box that grows. -/
structure Rg (w : World) (A : Option Addr) (n c : Nat) (B : Option Addr) (m d : Nat) (W : World) : Prop where
  kp : Kp w W
  t : Bk W w.heap.size A n c B m d
  o : Bk W (w.heap.size + 1) none 0 0 none 0 0
theorem Rg.tr {w W W' : World} {A B : Option Addr} {n c m d : Nat} (h : Rg w A n c B m d W) (k : Kp W W') : Rg w A n c B m d W' := ⟨h.kp.tr k, h.t.kp k, h.o.kp k⟩
theorem Rg.mk_ (w : World) (A : Option Addr) (n c : Nat) (B : Option Addr) (m d : Nat) : Rg w A n c B m d ((w.alloc (.cells #[.slice A n c, .slice B m d] 24)).alloc (.cells #[.slice none 0 0, .slice none 0 0] 24)) :=
  ⟨(Kp.alloc_ _ _).al _, (Bk.new rfl).alloc_ _, Bk.new (World.size_alloc _ _).symm⟩
theorem Rg.end_ {w W : World} {A B : Option Addr} {n c m d : Nat} (h : Rg w A n c B m d W) (x y : Value) : Kp w ((W.setCell ⟨w.heap.size + 1, 0, none⟩ x).setCell ⟨w.heap.size + 1, 1, none⟩ y) :=
  (h.kp.setCell (p := ⟨w.heap.size + 1, 0, none⟩) (Nat.le_succ _) x).setCell (p := ⟨w.heap.size + 1, 1, none⟩) (Nat.le_succ _) y

end Go.Proofs.Ytepnhmdjglpmeaa

/- The program's Sum, Max and Mean of layer 6 (reduce). -/
namespace Go.Proofs.Ytepnhmdjglpmeaa
open Go.RowKit Go.Proofs.ShM Go.Proofs.FixM
set_option linter.unusedVariables false

theorem call_add : ∀ args W, (callFunc 46 args).run Try.prog W = .ok (.enter 46 args) W := fun args W => MuLone.run_callFunc_enter Try.func46 (by kernel_rfl) rfl args W
theorem i64_zero : I64 0 := by unfold I64; omega
theorem i64_least : I64 (-9223372036854775808) := by unfold I64; omega
theorem tog_add (A B : Option Addr) (c d : Nat) (s xs : List Int) (axis : Int) (w : World) (hA : Sl w A c s) (hB : Rd w B xs) (hi : I64s xs) :
    Calls Try.prog 45 #[.agg #[.slice A s.length c, .slice B xs.length d], .int .i64 axis, .agg #[.int .i64 0, .func (.func 46) #[] #[]]] w (RetS (sumV s xs axis) w) :=
  together_any addV 0 46 A B c d s xs axis w hA hB hi i64_zero (fun _ _ _ _ _ => put_i64 _) call_add (fun x y hx hy W => add_any x y hx hy W)
theorem RetS.box {r : Tn} {w W' : World} {A B A2 B2 : Option Addr} {n c m d c2 d2 b : Nat} {l k : List Int} {e : Int} (hr : r = (l, k, e)) (F : Rg w A n c B m d W') (hs : Sl W' A2 c2 l) (hb : w.heap.size + 1 < b) (o : Own b W' (.slice B2 k.length d2) k) (ha : ∀ ad, A2 = some ad → ad.block < b) :
    RetS r w (.returned (.tuple #[.agg #[.slice A2 l.length c2, .slice B2 k.length d2], .int .i64 e])) ((W'.setCell ⟨w.heap.size + 1, 0, none⟩ (.slice A2 l.length c2)).setCell ⟨w.heap.size + 1, 1, none⟩ (.slice B2 k.length d2)) := by
  subst hr
  exact ⟨A2, c2, B2, d2, b, rfl, ⟨hs.rd.past F.o _ _, hs.le, hs.cap⟩, by omega, (o.put_ (p := ⟨w.heap.size + 1, 0, none⟩) hb _).put_ (p := ⟨w.heap.size + 1, 1, none⟩) hb _, ha, F.end_ _ _⟩

set_option maxHeartbeats 2000000 in
theorem psum_any (A B : Option Addr) (c d : Nat) (s xs : List Int) (axis : Int) (w : World) (hA : Sl w A c s) (hB : Rd w B xs) (hi : I64s xs) :
    Calls Try.prog 23 #[.agg #[.slice A s.length c, .slice B xs.length d], .int .i64 axis] w (RetS (sumV s xs axis) w) := by
  have F0 := Lib.hid (Rg.mk_ w A s.length c B xs.length d)
  have HT := Lib.hid (fun W (k : Kp w W) => tog_add A B c d s xs axis W (hA.kp k) (hB.kp k) hi)
  obtain ⟨l, k, er, hr⟩ : ∃ l k er, sumV s xs axis = (l, k, er) := ⟨_, _, _, rfl⟩
  rw [hr] at HT
  have HR := Lib.hid hr
  clear hA hB hi hr
  go_enter Try.func23, Try.ntmps23
  go_wp2_with fail
  refine (HT.out _ F0.out.kp).mono ?_; rintro e0 w1 ⟨A2, c2, B2, d2, b, rfl, s2, hb, o2, ha, k1⟩
  have F1 := Lib.hid (F0.out.tr k1)
  have HB : Hid (w.heap.size + 1 < b) := by
    show _ < _
    rw [World.size_alloc, World.size_alloc] at hb; omega
  have H2 := Lib.hid (And.intro s2 (And.intro o2 ha))
  clear k1 s2 hb o2 ha
  have r0 := F1.out.o.c0
  have r1 := F1.out.o.c1
  have u0 := F1.out.o.f0 0
  have u1 := F1.out.o.f0 1
  dsimp only
  go_wp2
  refine bodyPost_ret (v := .tuple #[.agg #[.slice A2 l.length c2, .slice B2 k.length d2], .int .i64 er]) (by simp [results, Try.results23, go_sem, r0, r1]; try rfl) rfl ?_
  exact RetS.box HR.out F1.out H2.out.1 HB.out H2.out.2.1 H2.out.2.2

/-- Each number turned, one by one. -/
def Mdn (g : Int → Int) (xs : List Int) (k : Nat) (zs : List Int) : Prop := k ≤ xs.length ∧ zs = (xs.take k).map g ++ xs.drop k
theorem md_start (g : Int → Int) (xs : List Int) : Mdn g xs 0 xs := ⟨Nat.zero_le _, by simp⟩
theorem md_len {g : Int → Int} {xs zs : List Int} {k : Nat} (h : Mdn g xs k zs) : zs.length = xs.length := by obtain ⟨h1, rfl⟩ := h; simp; omega
theorem md_at {g : Int → Int} {xs zs : List Int} {k : Nat} {x : Int} (h : Mdn g xs k zs) (hx : xs[k]? = some x) : zs[k]? = some x := by
  obtain ⟨h1, rfl⟩ := h
  rw [List.getElem?_append_right (by simp; omega)]
  simp only [List.length_map, List.length_take, Nat.min_eq_left h1, Nat.sub_self, List.getElem?_drop, Nat.add_zero]
  exact hx
theorem md_step {g : Int → Int} {xs zs : List Int} {k : Nat} {x : Int} (h : Mdn g xs k zs) (hx : xs[k]? = some x) : Mdn g xs (k + 1) (zs.set k (g x)) := by
  obtain ⟨h1, rfl⟩ := h
  have hk := (List.getElem?_eq_some_iff.1 hx).1
  refine ⟨hk, ?_⟩
  rw [take_of hx, List.map_append, List.set_append_right _ _ (by simp; omega), drop_of hx]
  simp [Nat.min_eq_left h1]
theorem md_end {g : Int → Int} {xs zs : List Int} {k : Nat} (h : Mdn g xs k zs) (hk : ¬ k < xs.length) : zs = xs.map g := by
  obtain ⟨h1, rfl⟩ := h
  rw [List.take_of_length_le (by omega), List.drop_eq_nil_of_le (by omega), List.append_nil]

theorem sum_ok {s xs : List Int} {axis : Int} (h : (sumV s xs axis).2.2 = 0) : tokV s xs = true ∧ ∃ a : Nat, axis = (a : Int) ∧ a < s.length := by
  by_cases g : sideV s xs axis = 0
  · exact side_ok g
  · have e := side_err g addV 0
    unfold sumV at h
    rw [e] at h
    exact absurd h g
theorem tog_form {f : Int → Int → Int × Int} {x0 : Int} {s xs : List Int} {a : Nat} (ht : tokV s xs = true) (ha : a < s.length) : togV f x0 s xs a = if (togL f x0 s xs a).2 = 0 then (s.eraseIdx a, (togL f x0 s xs a).1, 0) else ([], [], (togL f x0 s xs a).2) := by
  unfold togV
  rw [if_neg (by simp [ht]), if_neg (by omega), Int.toNat_natCast]
theorem tog_zero {f : Int → Int → Int × Int} {x0 : Int} {s xs : List Int} {a : Nat} (ht : tokV s xs = true) (ha : a < s.length) (h : (togV f x0 s xs a).2.2 = 0) : ∃ k, togV f x0 s xs a = (s.eraseIdx a, k, 0) ∧ (k.length : Int) = sizeV (s.eraseIdx a) ∧ 0 < k.length := by
  rw [tog_form ht ha] at h ⊢
  by_cases e : (togL f x0 s xs a).2 = 0
  · rw [if_pos e]
    have ho := ok_erase (tok_iff.1 ht).1 ha
    have hl : (togL f x0 s xs a).1.length = (sizeV (s.eraseIdx a)).toNat := by
      unfold togL at e ⊢
      rw [mapE_len e]; simp
    have := ok_prod ho
    have := size_ok ho
    exact ⟨_, rfl, by omega, by omega⟩
  · rw [if_neg e] at h; exact absurd h e
theorem tog_i64 {f : Int → Int → Int × Int} {x0 : Int} {s xs : List Int} {axis : Int} (hi : I64s xs) (h0 : I64 x0) (hf : ∀ x y, I64 x → I64 y → (f x y).2 = 0 → I64 (f x y).1) : I64s (togV f x0 s xs axis).2.1 := by
  by_cases g : sideV s xs axis = 0
  · obtain ⟨ht, a, rfl, ha⟩ := side_ok g
    rw [tog_form ht ha]
    by_cases e : (togL f x0 s xs a).2 = 0
    · rw [if_pos e]
      intro y hy
      unfold togL at e hy
      obtain ⟨e1, e2⟩ := mapE_ok e
      rw [e2] at hy
      obtain ⟨q, hq, rfl⟩ := List.mem_map.1 hy
      refine tk_inv hf h0 (fun z hz => ?_) (firstE_zero.1 e1 q hq)
      unfold lineL at hz
      obtain ⟨i, _, rfl⟩ := List.mem_map.1 hz
      exact getD_i64 hi _
    · rw [if_neg e]; exact I64s.nil_
  · rw [side_err g f x0]; exact I64s.nil_
theorem sum_i64 {s xs : List Int} {axis : Int} (hi : I64s xs) : I64s (sumV s xs axis).2.1 := tog_i64 hi i64_zero fun _ _ _ _ _ => put_i64 _

theorem Rg.tb {w W W' : World} {A B : Option Addr} {n c m d b : Nat} (h : Rg w A n c B m d W) (k : Below b W W') (hb : w.heap.size + 1 < b) : Rg w A n c B m d W' := ⟨h.kp.trans (k.mono (by omega)), h.t.tb k (by omega), h.o.tb k hb⟩
theorem rd_below {b : Nat} {W W' : World} {A : Option Addr} {xs : List Int} (h : Rd W A xs) (k : Below b W W') (ha : ∀ ad, A = some ad → ad.block < b) : Rd W' A xs :=
  ⟨h.1, fun hn => by
    obtain ⟨ad, e, hb, hc⟩ := h.2 hn
    exact ⟨ad, e, Nat.lt_of_lt_of_le hb k.size, fun j u hu => (k.cell (by rw [block_of_add]; exact ha ad e)).trans (hc j u hu)⟩⟩

end Go.Proofs.Ytepnhmdjglpmeaa

/- Layer 6's calls with their answers written out; those whose answers the document fixes are as it says (awake). -/
namespace Go.Proofs.Ytepnhmdjglpmeaa
open Go.ChangeShapes Go.WideShapes Go.ChangeAt Go.RowKit Go.Proofs.ShM
set_option linter.unusedVariables false

theorem RetS.weak {r : Tn} {w w' : World} {e : Ending} (h : RetS r w e w') : RetT r w e w' := by
  obtain ⟨A, c, B, d, b, e1, h1, _, h2, _, h3⟩ := h
  exact ⟨A, c, B, d, e1, h1.rd, h2.sl.rd, h3⟩
/-- The same, with room for the shape. -/
def RetUc (l m : List Int) (a b : Nat) (err : Int) (w : World) (e : Ending) (w' : World) : Prop :=
  ∃ A c B d, e = .returned (.tuple #[.agg #[.slice A a c, .slice B b d], .int .i64 err]) ∧ TR w' A l B m ∧ Kp w w' ∧ Hid (l.length ≤ c ∧ c ≤ 9223372036854775807)
theorem RetS.uc {r : Tn} {l m : List Int} {a b : Nat} {err : Int} {w : World} {e : Ending} {w' : World} (h : RetS r w e w') (hr : r = (l, m, err)) (ha : l.length = a) (hb : m.length = b) : RetUc l m a b err w e w' := by
  subst hr ha hb
  obtain ⟨A, c, B, d, q, e1, h1, _, h2, _, h3⟩ := h
  exact ⟨A, c, B, d, e1, ⟨h1.rd, h2.sl.rd⟩, h3, ⟨h1.le, h1.cap⟩⟩
theorem RetTs.uc {r : Tn} {l m : List Int} {a b : Nat} {w : World} {e : Ending} {w' : World} (h : RetTs r w e w') (hr : r = (l, m, 0)) (ha : l.length = a) (hb : m.length = b) : RetUc l m a b 0 w e w' := by
  subst hr ha hb
  obtain ⟨A, c, B, d, e1, h1, h2, h3, h4⟩ := h
  exact ⟨A, c, B, d, e1, ⟨h1, h2⟩, h3, h4 rfl⟩

section
variable {A B : Option Addr} {c d n m a b : Nat} {l k : List Int} {err : Int} {w : World}
theorem psum_u (s xs : List Int) (x : Int) (h : TR w A s B xs) (hc : Hid (s.length ≤ c ∧ c ≤ 9223372036854775807)) (hi : I64s xs) (hn : n = s.length) (hm : m = xs.length) (hr : sumV s xs x = (l, k, err)) (ha : l.length = a) (hb : k.length = b) :
    Calls Try.prog 23 #[.agg #[.slice A n c, .slice B m d], .int .i64 x] w (RetU l k a b err w) := by
  subst hn hm
  exact (psum_any A B c d s xs x w ⟨h.s, hc.out.1, hc.out.2⟩ h.d hi).mono fun _ _ r => r.weak.u hr ha hb
theorem psum_uc (s xs : List Int) (x : Int) (h : TR w A s B xs) (hc : Hid (s.length ≤ c ∧ c ≤ 9223372036854775807)) (hi : I64s xs) (hn : n = s.length) (hm : m = xs.length) (hr : sumV s xs x = (l, k, err)) (ha : l.length = a) (hb : k.length = b) :
    Calls Try.prog 23 #[.agg #[.slice A n c, .slice B m d], .int .i64 x] w (RetUc l k a b err w) := by
  subst hn hm
  exact (psum_any A B c d s xs x w ⟨h.s, hc.out.1, hc.out.2⟩ h.d hi).mono fun _ _ r => r.uc hr ha hb
end

/-- A field []int is there, as a list of numbers, with room for it. -/
theorem rd_room {H : Type} {enc : TypeId × Value → H} {W : World} {v : Value} {n : Nat} {y : DataW H × List MemPlace} (h : DataW.trod enc Try.prog W 0 (fun _ => true) true n 22 [v] = some y) :
    ∃ A m c, v = .slice A m c ∧ (∃ xs : List Int, m = xs.length ∧ Rd W A xs ∧ I64s xs) ∧ m ≤ c ∧ c ≤ 9223372036854775807 := by
  rcases open_ints Try.underlying22 Try.underlying3 int_cells h with ⟨hcs, _⟩ | ⟨a', len, cap, zs, hcs, _, hl, hm, hz, _, hcell, hwf⟩
  · injection hcs with hcs _
    exact ⟨none, 0, 0, hcs, ⟨[], rfl, Rd.nil _ _, I64s.nil_⟩, by omega, by omega⟩
  · injection hcs with hcs _
    simp only [if_true] at hz
    have ln : (zs.take len).length = len := by simp; omega
    refine ⟨some a', len, cap, hcs, ⟨zs.take len, ln.symm, ⟨by unfold maxLen at hm; omega, fun hp => ⟨a', rfl, ?_, fun j u hj => ?_⟩⟩, fun x hx => i64_of (hwf x (List.mem_of_mem_take hx))⟩, by omega, by unfold maxLen at hm; omega⟩
    · have := lt_of_cell (hcell 0 (by omega))
      rwa [block_of_add] at this
    · have hj' : j < len := by have := (List.getElem?_eq_some_iff.1 hj).1; omega
      rw [hcell j (by omega)]
      rw [List.getElem?_take, if_pos hj'] at hj
      simp [List.getD, hj]
/-- An argument tensor is there, with room for its shape. -/
theorem tn_room {H : Type} {enc : TypeId × Value → H} {W : World} {r : Reach} {b : Nat} {v : Value} {d : DataW H} {p : List MemPlace} (hv : Value.okWide Try.prog W r b 24 v) (h : DataW.Trod enc Try.prog W 0 (fun _ => true) true 24 v d p) :
    ∃ A n c B m e, v = .agg #[.slice A n c, .slice B m e] ∧ ∃ s xs : List Int, n = s.length ∧ m = xs.length ∧ TR W A s B xs ∧ I64s xs ∧ Hid (s.length ≤ c ∧ c ≤ 9223372036854775807) := by
  obtain ⟨v0, v1, y0, y1, n, rfl, _, _, h0, h1⟩ := Go.Joins.open_agg2 Try.underlying24 (by kernel_rfl) (by kernel_rfl) hv h
  obtain ⟨A, n0, c, rfl, ⟨s, e1, r1, _⟩, l1, l2⟩ := rd_room h0
  obtain ⟨B, m0, e, rfl, ⟨xs, e2, r2, i2⟩, _, _⟩ := rd_room h1
  exact ⟨A, n0, c, B, m0, e, rfl, s, xs, e1, e2, ⟨r1, r2⟩, i2, ⟨by omega, l2⟩⟩

end Go.Proofs.Ytepnhmdjglpmeaa
