/- Plain facts of layer 6: the places of a side, what its numbers are taken together to, where the first greatest one stands, a side put in. -/
import Derived.Test.YtpglchimghnpeaaElAll
namespace Go.Proofs.ShM
open Go.Proofs.FixM

/-! ### A list with a number put in, or without one -/
def inL (xs : List Int) (k : Nat) (x : Int) : List Int := xs.take k ++ x :: xs.drop k
theorem inL_len {xs : List Int} {k : Nat} {x : Int} (h : k ≤ xs.length) : (inL xs k x).length = xs.length + 1 := by unfold inL; simp; omega
theorem inL_lt {xs : List Int} {k : Nat} {x : Int} (h : k ≤ xs.length) {j : Nat} (hj : j < k) : (inL xs k x)[j]? = xs[j]? := by
  unfold inL; rw [List.getElem?_append_left (by simp; omega), List.getElem?_take, if_pos hj]
theorem inL_at {xs : List Int} {k : Nat} {x : Int} (h : k ≤ xs.length) : (inL xs k x)[k]? = some x := by
  unfold inL; rw [List.getElem?_append_right (by simp; omega)]; simp [Nat.min_eq_left h]
theorem inL_gt {xs : List Int} {k : Nat} {x : Int} (h : k ≤ xs.length) (i : Nat) : (inL xs k x)[k + 1 + i]? = xs[k + i]? := by
  unfold inL; rw [List.getElem?_append_right (by simp; omega)]
  simp only [List.length_take, Nat.min_eq_left h, show k + 1 + i - k = i + 1 by omega, List.getElem?_cons_succ, List.getElem?_drop]
theorem inL_zero (xs : List Int) (x : Int) : inL xs 0 x = x :: xs := rfl
theorem inL_succ (y : Int) (xs : List Int) (k : Nat) (x : Int) : inL (y :: xs) (k + 1) x = y :: inL xs k x := rfl
theorem erase_inL {xs : List Int} : ∀ {k : Nat} {x : Int}, k ≤ xs.length → (inL xs k x).eraseIdx k = xs := by
  induction xs with
  | nil => intro k x h; have : k = 0 := by simpa using h
           subst this; rfl
  | cons y xs ih =>
    intro k x h
    cases k with
    | zero => rfl
    | succ k => rw [inL_succ, List.eraseIdx_cons_succ, ih (by simpa using h)]
theorem inL_getD {xs : List Int} {k : Nat} {x : Int} (h : k ≤ xs.length) : (inL xs k x).getD k 0 = x := by rw [List.getD, inL_at h]; rfl

/-! ### Places -/
/-- So many places go by from one number of a side to the next. -/
def stepS (s : List Int) (a : Nat) : Int := prodS (s.drop (a + 1))
def putP (s : List Int) (a : Nat) (q i : Int) : Int := (q / stepS s a * s.getD a 0 + i) * stepS s a + q % stepS s a
def qOf (s : List Int) (a : Nat) (p : Int) : Int := p / (stepS s a * s.getD a 0) * stepS s a + p % stepS s a
def iOf (s : List Int) (a : Nat) (p : Int) : Int := p / stepS s a % s.getD a 0

theorem all_erase {s : List Int} (h : s.all sideB = true) (a : Nat) : (s.eraseIdx a).all sideB = true := by
  rw [List.all_eq_true] at *
  exact fun x hx => h x (List.mem_of_mem_eraseIdx hx)
theorem side_pos {s : List Int} (h : s.all sideB = true) {a : Nat} (ha : a < s.length) : 1 ≤ s.getD a 0 ∧ s.getD a 0 ≤ 16 := by
  have hx : s[a]? = some s[a] := List.getElem?_eq_getElem ha
  rw [List.getD, hx]; exact side_of h hx
theorem step_pos {s : List Int} (h : s.all sideB = true) (a : Nat) : 1 ≤ stepS s a := prod_pos (all_drop h _)
/-- The sides ahead, the side, those behind. -/
theorem prod_parts : ∀ {s : List Int} {a : Nat}, a < s.length → prodS s = prodS (s.take a) * (s.getD a 0 * stepS s a) ∧ prodS (s.eraseIdx a) = prodS (s.take a) * stepS s a
  | [], a, h => by simp at h
  | x :: r, 0, h => by simp [stepS, prodS]
  | x :: r, a + 1, h => by
    obtain ⟨h1, h2⟩ := prod_parts (s := r) (a := a) (by simpa using h)
    refine ⟨?_, ?_⟩
    · show x * prodS r = x * prodS (r.take a) * (r.getD a 0 * stepS r a)
      rw [h1, Int.mul_assoc]
    · show x * prodS (r.eraseIdx a) = x * prodS (r.take a) * stepS r a
      rw [h2, Int.mul_assoc]
theorem ok_erase {s : List Int} (h : okS s = true) {a : Nat} (ha : a < s.length) : okS (s.eraseIdx a) = true := by
  obtain ⟨h1, h2, h3⟩ := ok_iff.1 h
  refine ok_iff.2 ⟨by have := List.length_eraseIdx_le s a; omega, all_erase h2 a, ?_⟩
  obtain ⟨e1, e2⟩ := prod_parts ha
  have t := prod_pos (all_take h2 a)
  have st := step_pos h2 a
  have sd := (side_pos h2 ha).1
  have t2 := Int.mul_le_mul_of_nonneg_left sd (show 0 ≤ prodS (s.take a) * stepS s a from Int.mul_nonneg (by omega) (by omega))
  rw [Int.mul_one] at t2
  rw [e2]
  have e3 : prodS (s.take a) * stepS s a * s.getD a 0 = prodS s := by rw [e1, Int.mul_assoc, Int.mul_comm (stepS s a)]
  omega
theorem ok_drop {s : List Int} (h : okS s = true) (k : Nat) : okS (s.drop k) = true := by
  obtain ⟨h1, h2, h3⟩ := ok_iff.1 h
  have e : prodS s = prodS (s.take k) * prodS (s.drop k) := by rw [← prod_append, List.take_append_drop]
  have t := prod_pos (all_take h2 k)
  have d := prod_pos (all_drop h2 k)
  have t2 := Int.mul_le_mul_of_nonneg_right t (show 0 ≤ prodS (s.drop k) by omega)
  rw [Int.one_mul] at t2
  exact ok_iff.2 ⟨by simp; omega, all_drop h2 k, by omega⟩
theorem step_size {s : List Int} (h : okS s = true) (a : Nat) : sizeV (s.drop (a + 1)) = stepS s a := size_ok (ok_drop h _)
theorem step_le {s : List Int} (h : okS s = true) (a : Nat) : 1 ≤ stepS s a ∧ stepS s a ≤ 64 := ok_prod (ok_drop h _)

/-- A place is a place without the side, and a number of it. -/
theorem put_range {s : List Int} (h : s.all sideB = true) {a : Nat} (ha : a < s.length) {q i : Int} (q0 : 0 ≤ q) (q1 : q < prodS (s.eraseIdx a)) (i0 : 0 ≤ i) (i1 : i < s.getD a 0) :
    0 ≤ putP s a q i ∧ putP s a q i < prodS s ∧ putP s a q i / stepS s a = q / stepS s a * s.getD a 0 + i ∧ putP s a q i % stepS s a = q % stepS s a := by
  obtain ⟨e1, e2⟩ := prod_parts ha
  have st := step_pos h a
  have sd := (side_pos h ha).1
  rw [e2] at q1
  obtain ⟨a1, a2, a3, a4⟩ := pos_of st q0 q1
  obtain ⟨b1, b2, _, _⟩ := lin_lt sd a1 a2 i0 i1
  obtain ⟨c1, c2, c3, c4⟩ := lin_lt st b1 b2 a3 a4
  refine ⟨c1, ?_, c3, c4⟩
  rw [e1, ← Int.mul_assoc]; exact c2
theorem q_range {s : List Int} (h : s.all sideB = true) {a : Nat} (ha : a < s.length) {p : Int} (p0 : 0 ≤ p) (p1 : p < prodS s) :
    0 ≤ qOf s a p ∧ qOf s a p < prodS (s.eraseIdx a) ∧ 0 ≤ iOf s a p ∧ iOf s a p < s.getD a 0 ∧ putP s a (qOf s a p) (iOf s a p) = p := by
  obtain ⟨e1, e2⟩ := prod_parts ha
  have st := step_pos h a
  have sd := (side_pos h ha).1
  rw [e1, ← Int.mul_assoc] at p1
  obtain ⟨a1, a2, a3, a4⟩ := pos_of st p0 p1
  obtain ⟨b1, b2, b3, b4⟩ := pos_of sd a1 a2
  have e3 : p / (stepS s a * s.getD a 0) = p / stepS s a / s.getD a 0 := (Int.ediv_ediv_of_nonneg (by omega)).symm
  unfold qOf iOf
  rw [e3]
  obtain ⟨c1, c2, c3, c4⟩ := lin_lt st b1 b2 a3 a4
  refine ⟨c1, by rw [e2]; exact c2, b3, b4, ?_⟩
  unfold putP
  rw [c3, c4]
  have f1 := Int.mul_ediv_add_emod (p / stepS s a) (s.getD a 0)
  rw [Int.mul_comm] at f1
  rw [f1]
  have f2 := Int.mul_ediv_add_emod p (stepS s a)
  rw [Int.mul_comm] at f2
  exact f2
theorem q_put {s : List Int} (h : s.all sideB = true) {a : Nat} (ha : a < s.length) {q i : Int} (q0 : 0 ≤ q) (q1 : q < prodS (s.eraseIdx a)) (i0 : 0 ≤ i) (i1 : i < s.getD a 0) :
    qOf s a (putP s a q i) = q ∧ iOf s a (putP s a q i) = i := by
  obtain ⟨_, e2⟩ := prod_parts ha
  have st := step_pos h a
  have sd := (side_pos h ha).1
  obtain ⟨_, _, c3, c4⟩ := put_range h ha q0 q1 i0 i1
  rw [e2] at q1
  obtain ⟨a1, a2, a3, a4⟩ := pos_of st q0 q1
  obtain ⟨_, _, b3, b4⟩ := lin_lt sd a1 a2 i0 i1
  have e3 : ∀ p : Int, p / (stepS s a * s.getD a 0) = p / stepS s a / s.getD a 0 := fun p => (Int.ediv_ediv_of_nonneg (by omega)).symm
  unfold qOf iOf
  rw [e3, c3, c4, b3, b4]
  have f2 := Int.mul_ediv_add_emod q (stepS s a)
  rw [Int.mul_comm] at f2
  exact ⟨f2, rfl⟩
theorem put_inj {s : List Int} (h : s.all sideB = true) {a : Nat} (ha : a < s.length) {q i p : Int} (q0 : 0 ≤ q) (q1 : q < prodS (s.eraseIdx a)) (i0 : 0 ≤ i) (i1 : i < s.getD a 0) (p0 : 0 ≤ p) (p1 : p < prodS s) :
    p = putP s a q i ↔ qOf s a p = q ∧ iOf s a p = i := by
  constructor
  · rintro rfl; exact q_put h ha q0 q1 i0 i1
  · rintro ⟨rfl, rfl⟩; exact (q_range h ha p0 p1).2.2.2.2.symm
theorem put_succ {x : Int} {r : List Int} {a : Nat} (h : r.all sideB = true) (ha : a < r.length) (q i : Int) :
    putP (x :: r) (a + 1) q i = q / prodS (r.eraseIdx a) * prodS r + putP r a (q % prodS (r.eraseIdx a)) i := by
  obtain ⟨e1, e2⟩ := prod_parts ha
  have st := step_pos h a
  have t := prod_pos (all_take h a)
  show (q / stepS r a * r.getD a 0 + i) * stepS r a + q % stepS r a = _
  unfold putP
  rw [e1, e2]
  generalize stepS r a = S at *
  generalize prodS (r.take a) = T at *
  generalize r.getD a 0 = D
  have f := Int.mul_ediv_add_emod q (T * S)
  generalize q / (T * S) = h0 at *
  generalize q % (T * S) = q' at *
  have g1 : q / S = h0 * T + q' / S := by
    rw [← f, show T * S * h0 + q' = q' + (h0 * T) * S by rw [Int.mul_comm (T * S), Int.mul_assoc, Int.add_comm], Int.add_mul_ediv_right _ _ (by omega)]; omega
  have g2 : q % S = q' % S := by
    rw [← f, show T * S * h0 + q' = q' + (h0 * T) * S by rw [Int.mul_comm (T * S), Int.mul_assoc, Int.add_comm], Int.add_mul_emod_self_right]
  rw [g1, g2]
  have g3 : ((h0 * T + q' / S) * D + i) * S = h0 * (T * (D * S)) + (q' / S * D + i) * S := by
    rw [Int.add_mul, Int.add_mul, Int.add_mul, Int.add_mul, Int.mul_assoc h0, Int.mul_assoc h0, Int.mul_assoc T]; omega
  rw [g3]; omega
/-- The index of a place. -/
theorem digs_put : ∀ {s : List Int} {a : Nat}, s.all sideB = true → a < s.length → ∀ (q i : Int), 0 ≤ q → q < prodS (s.eraseIdx a) → 0 ≤ i → i < s.getD a 0 → digs s (putP s a q i) = inL (digs (s.eraseIdx a) q) a i
  | [], a, _, h => by simp at h
  | x :: r, 0, hs, h => by
    intro q i q0 q1 i0 i1
    simp only [List.all_cons, Bool.and_eq_true] at hs
    have hp := prod_pos hs.2
    have q1' : q < prodS r := q1
    have i1' : i < x := i1
    have e : putP (x :: r) 0 q i = i * prodS r + q := by
      show (q / prodS r * x + i) * prodS r + q % prodS r = _
      rw [Int.ediv_eq_zero_of_lt q0 q1', Int.emod_eq_of_lt q0 q1']; simp
    obtain ⟨_, _, c3, c4⟩ := lin_lt hp i0 i1' q0 q1'
    rw [e]
    show (i * prodS r + q) / prodS r :: digs r ((i * prodS r + q) % prodS r) = i :: digs r q
    rw [c3, c4]
  | x :: r, a + 1, hs, h => by
    intro q i q0 q1 i0 i1
    simp only [List.all_cons, Bool.and_eq_true] at hs
    have ha : a < r.length := by simpa using h
    have hp := prod_pos (all_erase hs.2 a)
    have q1' : q < x * prodS (r.eraseIdx a) := q1
    have i1' : i < r.getD a 0 := i1
    obtain ⟨a1, a2, a3, a4⟩ := pos_of hp q0 q1'
    obtain ⟨r1, r2, _, _⟩ := put_range hs.2 ha a3 a4 i0 i1'
    obtain ⟨_, _, c3, c4⟩ := lin_lt (prod_pos hs.2) a1 a2 r1 r2
    rw [put_succ hs.2 ha]
    show (_ / prodS r) :: digs r (_ % prodS r) = inL ((q / prodS (r.eraseIdx a)) :: digs (r.eraseIdx a) (q % prodS (r.eraseIdx a))) (a + 1) i
    rw [c3, c4, inL_succ, digs_put hs.2 ha _ _ a3 a4 i0 i1']
theorem digs_q {s : List Int} (hs : s.all sideB = true) {a : Nat} (ha : a < s.length) {p : Int} (p0 : 0 ≤ p) (p1 : p < prodS s) :
    (digs s p).eraseIdx a = digs (s.eraseIdx a) (qOf s a p) ∧ (digs s p)[a]? = some (iOf s a p) := by
  obtain ⟨r1, r2, r3, r4, r5⟩ := q_range hs ha p0 p1
  have e := digs_put hs ha _ _ r1 r2 r3 r4
  rw [r5] at e
  have hl : a ≤ (digs (s.eraseIdx a) (qOf s a p)).length := by rw [digs_len]; have := List.length_eraseIdx_of_lt ha; omega
  rw [e]
  exact ⟨erase_inL hl, inL_at hl⟩

/-! ### The numbers of a place without the side -/
def lineL (s xs : List Int) (a q : Nat) : List Int := (List.range (s.getD a 0).toNat).map fun i : Nat => xs.getD (putP s a q i).toNat 0
theorem line_len (s xs : List Int) (a q : Nat) : (lineL s xs a q).length = (s.getD a 0).toNat := by unfold lineL; simp
theorem line_get {s xs : List Int} {a q i : Nat} (hi : i < (s.getD a 0).toNat) : (lineL s xs a q)[i]? = some (xs.getD (putP s a q i).toNat 0) := by
  unfold lineL; rw [List.getElem?_map, List.getElem?_range hi]; rfl
/-- A place of a tensor that may be. -/
theorem put_nat {s xs : List Int} (h : tokV s xs = true) {a q i : Nat} (ha : a < s.length) (hq : (q : Int) < sizeV (s.eraseIdx a)) (hi : (i : Int) < s.getD a 0) :
    ∃ m : Nat, putP s a q i = (m : Int) ∧ m < xs.length ∧ (lineL s xs a q)[i]? = some (xs.getD m 0) ∧ xs[m]? = some (xs.getD m 0) := by
  obtain ⟨ho, hl⟩ := tok_iff.1 h
  have hs := ok_all ho
  rw [size_ok (ok_erase ho ha)] at hq
  obtain ⟨r1, r2, _, _⟩ := put_range hs ha (q := q) (i := i) (by omega) hq (by omega) hi
  have hm : (putP s a q i).toNat < xs.length := by omega
  refine ⟨(putP s a q i).toNat, by omega, hm, line_get (by omega), ?_⟩
  rw [List.getD, List.getElem?_eq_getElem hm]; rfl
/-- What the document finds there. -/
theorem at_put {s xs : List Int} (h : tokV s xs = true) {a q i : Nat} (ha : a < s.length) (hq : (q : Int) < sizeV (s.eraseIdx a)) (hi : (i : Int) < s.getD a 0) :
    atV s xs (inL (digs (s.eraseIdx a) q) a i) = ((lineL s xs a q).getD i 0, 0) := by
  obtain ⟨ho, hl⟩ := tok_iff.1 h
  have hs := ok_all ho
  have hq' := hq
  rw [size_ok (ok_erase ho ha)] at hq'
  obtain ⟨r1, r2, _, _⟩ := put_range hs ha (q := q) (i := i) (by omega) hq' (by omega) hi
  rw [← digs_put hs ha _ _ (by omega) hq' (by omega) hi, at_at h r1 (by rw [size_ok ho]; exact r2)]
  congr 1
  show _ = (lineL s xs a q)[i]?.getD 0
  rw [line_get (by omega)]
  rfl

/-! ### Taken together -/
def tkL (f : Int → Int → Int × Int) : Int → List Int → Int × Int
  | x, [] => (x, 0)
  | x, y :: l => if (f x y).2 = 0 then tkL f (f x y).1 l else (0, (f x y).2)
def togL (f : Int → Int → Int × Int) (x0 : Int) (s xs : List Int) (a : Nat) : List Int × Int := mapE (fun q : Nat => tkL f x0 (lineL s xs a q)) (List.range (sizeV (s.eraseIdx a)).toNat)
def togV (f : Int → Int → Int × Int) (x0 : Int) (s xs : List Int) (axis : Int) : Tn :=
  if tokV s xs = false then ([], [], 30) else if axis < 0 ∨ (s.length : Int) ≤ axis then ([], [], 20) else
    if (togL f x0 s xs axis.toNat).2 = 0 then (s.eraseIdx axis.toNat, (togL f x0 s xs axis.toNat).1, 0) else ([], [], (togL f x0 s xs axis.toNat).2)
def greatV (a b : Int) : Int × Int := (max a b, 0)
def sumV (s xs : List Int) (axis : Int) : Tn := togV addV 0 s xs axis
def maxV (s xs : List Int) (axis : Int) : Tn := togV greatV (-9223372036854775808) s xs axis
def meanV (s xs : List Int) (axis : Int) : Tn :=
  if (sumV s xs axis).2.2 = 0 then ((sumV s xs axis).1, (sumV s xs axis).2.1.map fun x => (divV x (s.getD axis.toNat 0 * 4294967296)).1, 0) else ([], [], (sumV s xs axis).2.2)

theorem tk_cons (f : Int → Int → Int × Int) (x y : Int) (l : List Int) : tkL f x (y :: l) = if (f x y).2 = 0 then tkL f (f x y).1 l else (0, (f x y).2) := rfl
/-- A loop over the numbers. -/
def Tk (f : Int → Int → Int × Int) (l : List Int) (r : Int × Int) (k : Nat) (x : Int) : Prop := k ≤ l.length ∧ tkL f x (l.drop k) = r
theorem tk_start (f : Int → Int → Int × Int) (x0 : Int) (l : List Int) : Tk f l (tkL f x0 l) 0 x0 := ⟨Nat.zero_le _, rfl⟩
theorem tk_step {f : Int → Int → Int × Int} {l : List Int} {r : Int × Int} {k : Nat} {x y : Int} (h : Tk f l r k x) (hy : l[k]? = some y) (he : (f x y).2 = 0) : Tk f l r (k + 1) (f x y).1 := by
  obtain ⟨h1, h2⟩ := h
  rw [drop_of hy, tk_cons, if_pos he] at h2
  exact ⟨(List.getElem?_eq_some_iff.1 hy).1, h2⟩
theorem tk_bad {f : Int → Int → Int × Int} {l : List Int} {r : Int × Int} {k : Nat} {x y : Int} (h : Tk f l r k x) (hy : l[k]? = some y) (he : (f x y).2 ≠ 0) : r = (0, (f x y).2) := by
  obtain ⟨h1, h2⟩ := h
  rw [drop_of hy, tk_cons, if_neg he] at h2
  exact h2.symm
theorem tk_end {f : Int → Int → Int × Int} {l : List Int} {r : Int × Int} {k : Nat} {x : Int} (h : Tk f l r k x) (hk : ¬ k < l.length) : r = (x, 0) := by
  obtain ⟨h1, h2⟩ := h
  rw [List.drop_eq_nil_of_le (by omega)] at h2
  exact h2.symm
theorem tk_inv {f : Int → Int → Int × Int} {P : Int → Prop} (hf : ∀ a b, P a → P b → (f a b).2 = 0 → P (f a b).1) : ∀ {l : List Int} {x : Int}, P x → (∀ y ∈ l, P y) → (tkL f x l).2 = 0 → P (tkL f x l).1
  | [], x, hx, _, _ => hx
  | y :: l, x, hx, hl, he => by
    rw [tk_cons] at he ⊢
    by_cases c : (f x y).2 = 0
    · rw [if_pos c] at he ⊢
      exact tk_inv hf (hf x y hx (hl y (by simp)) c) (fun z hz => hl z (by simp [hz])) he
    · rw [if_neg c] at he; exact absurd he c

/-! ### The greatest one, and where it first stands -/
def fmI : List Int → Nat
  | [] => 0
  | x :: l => if l.all (fun y => decide (y ≤ x)) = true then 0 else fmI l + 1
/-- The first greatest one stands there. -/
def IsFm (l : List Int) (k : Nat) : Prop := ∃ x, l[k]? = some x ∧ (∀ (j : Nat) (y : Int), l[j]? = some y → y ≤ x) ∧ ∀ (j : Nat) (y : Int), j < k → l[j]? = some y → y < x
theorem fm_is : ∀ {l : List Int}, l ≠ [] → IsFm l (fmI l)
  | [], h => absurd rfl h
  | x :: l, _ => by
    unfold fmI
    by_cases c : l.all (fun y => decide (y ≤ x)) = true
    · rw [if_pos c]
      rw [List.all_eq_true] at c
      refine ⟨x, rfl, fun j y hy => ?_, fun j y hj => by omega⟩
      cases j with
      | zero => injection hy with hy; omega
      | succ j => exact of_decide_eq_true (c y (List.mem_of_getElem? hy))
    · rw [if_neg c]
      have hne : l ≠ [] := by rintro rfl; exact c rfl
      obtain ⟨z, h1, h2, h3⟩ := fm_is hne
      have hx : x < z := by
        rw [Bool.not_eq_true, List.all_eq_false] at c
        obtain ⟨y, hy, hc⟩ := c
        obtain ⟨j, hj, rfl⟩ := List.mem_iff_getElem.1 hy
        have := h2 j _ (List.getElem?_eq_getElem hj)
        have hc' : ¬ l[j] ≤ x := by simpa using hc
        omega
      refine ⟨z, h1, fun j y hy => ?_, fun j y hj hy => ?_⟩
      · cases j with
        | zero => injection hy with hy; omega
        | succ j => exact h2 j y hy
      · cases j with
        | zero => injection hy with hy; omega
        | succ j => exact h3 j y (by omega) hy
theorem fm_unique {l : List Int} {j k : Nat} (h : IsFm l j) (g : IsFm l k) : j = k := by
  obtain ⟨x, x1, x2, x3⟩ := h
  obtain ⟨y, y1, y2, y3⟩ := g
  have a := x2 k y y1
  have b := y2 j x x1
  rcases Nat.lt_trichotomy j k with c | c | c
  · have := y3 j x c x1; omega
  · exact c
  · have := x3 k y c y1; omega
theorem fm_lt {l : List Int} (h : l ≠ []) : fmI l < l.length := by
  obtain ⟨x, hx, _⟩ := fm_is h
  exact (List.getElem?_eq_some_iff.1 hx).1
/-- The document's loop. -/
def Fm (l : List Int) (k at_ : Nat) : Prop := k ≤ l.length ∧ ((k = 0 ∧ at_ = 0) ∨ IsFm (l.take k) at_)
theorem fmr_start (l : List Int) : Fm l 0 0 := ⟨Nat.zero_le _, .inl ⟨rfl, rfl⟩⟩
theorem fmr_at {l : List Int} {k m : Nat} (h : Fm l k m) (hk : k < l.length) : ∃ y, l[m]? = some y ∧ m < l.length ∧ m ≤ k := by
  rcases h.2 with ⟨rfl, rfl⟩ | ⟨x, hx, _⟩
  · exact ⟨l[0], List.getElem?_eq_getElem hk, hk, Nat.le_refl _⟩
  · rw [List.getElem?_take] at hx
    split at hx
    · exact ⟨x, hx, (List.getElem?_eq_some_iff.1 hx).1, by omega⟩
    · cases hx
theorem fmr_up {l : List Int} {k m : Nat} {x y : Int} (h : Fm l k m) (hx : l[k]? = some x) (hy : l[m]? = some y) (hlt : y < x) : Fm l (k + 1) k := by
  have hk := (List.getElem?_eq_some_iff.1 hx).1
  refine ⟨hk, .inr ⟨x, by rw [List.getElem?_take, if_pos (by omega)]; exact hx, fun j z hz => ?_, fun j z hj hz => ?_⟩⟩
  all_goals
    rw [List.getElem?_take] at hz
    split at hz
    · rename_i hj2
      rcases h.2 with ⟨rfl, rfl⟩ | ⟨w, w1, w2, w3⟩
      · have : j = 0 := by omega
        subst this
        rw [hy] at hx; injection hx with hx; omega
      · rw [List.getElem?_take] at w1
        split at w1
        · rw [hy] at w1; injection w1 with w1
          by_cases c : j = k
          · subst c; rw [hx] at hz; injection hz with hz; first | omega | (exfalso; omega)
          · have := w2 j z (by rw [List.getElem?_take, if_pos (by omega)]; exact hz)
            omega
        · cases w1
    · cases hz
theorem fmr_stay {l : List Int} {k m : Nat} {x y : Int} (h : Fm l k m) (hx : l[k]? = some x) (hy : l[m]? = some y) (hge : ¬ y < x) : Fm l (k + 1) m := by
  have hk := (List.getElem?_eq_some_iff.1 hx).1
  rcases h.2 with ⟨rfl, rfl⟩ | ⟨w, w1, w2, w3⟩
  · refine ⟨hk, .inr ⟨x, by rw [List.getElem?_take, if_pos (by omega)]; exact hx, fun j z hz => ?_, fun j z hj hz => by omega⟩⟩
    rw [List.getElem?_take] at hz
    split at hz
    · have : j = 0 := by omega
      subst this
      rw [hx] at hz; injection hz with hz; omega
    · cases hz
  · rw [List.getElem?_take] at w1
    split at w1
    · rename_i hmk
      refine ⟨hk, .inr ⟨w, by rw [List.getElem?_take, if_pos (by omega)]; exact w1, fun j z hz => ?_, fun j z hj hz => ?_⟩⟩
      · rw [List.getElem?_take] at hz
        split at hz
        · by_cases c : j = k
          · subst c; rw [hx] at hz; injection hz with hz
            rw [hy] at w1; injection w1 with w1; omega
          · exact w2 j z (by rw [List.getElem?_take, if_pos (by omega)]; exact hz)
        · cases hz
      · rw [List.getElem?_take] at hz
        split at hz
        · exact w3 j z hj (by rw [List.getElem?_take, if_pos (by omega)]; exact hz)
        · cases hz
    · cases w1
theorem fmr_end {l : List Int} {k m : Nat} (h : Fm l k m) (hk : ¬ k < l.length) (hl : l ≠ []) : m = fmI l := by
  have e : k = l.length := by have := h.1; omega
  rcases h.2 with ⟨rfl, rfl⟩ | g
  · exact absurd (List.eq_nil_of_length_eq_zero e.symm) hl
  · rw [e, List.take_length] at g
    exact fm_unique g (fm_is hl)
/-- The greatest one. -/
theorem tk_great {l : List Int} : ∀ {x0 : Int}, (tkL greatV x0 l).2 = 0 ∧ x0 ≤ (tkL greatV x0 l).1 ∧ (∀ y ∈ l, y ≤ (tkL greatV x0 l).1) ∧ ((tkL greatV x0 l).1 = x0 ∨ (tkL greatV x0 l).1 ∈ l) := by
  induction l with
  | nil => intro x0; exact ⟨rfl, Int.le_refl _, by simp, .inl rfl⟩
  | cons y l ih =>
    intro x0
    rw [tk_cons, if_pos (by rfl)]
    show (tkL greatV (max x0 y) l).2 = 0 ∧ x0 ≤ (tkL greatV (max x0 y) l).1 ∧ (∀ z ∈ y :: l, z ≤ (tkL greatV (max x0 y) l).1) ∧ ((tkL greatV (max x0 y) l).1 = x0 ∨ (tkL greatV (max x0 y) l).1 ∈ y :: l)
    obtain ⟨h1, h2, h3, h4⟩ := @ih (max x0 y)
    refine ⟨h1, by omega, fun z hz => ?_, ?_⟩
    · rcases List.mem_cons.1 hz with rfl | hz
      · omega
      · exact h3 z hz
    · rcases h4 with h4 | h4
      · by_cases c : x0 ≤ y
        · right; rw [h4, show max x0 y = y by omega]; simp
        · left; rw [h4]; omega
      · right; simp [h4]
theorem tk_max {l : List Int} (hl : l ≠ []) (h : ∀ y ∈ l, -9223372036854775808 ≤ y) : tkL greatV (-9223372036854775808) l = (l.getD (fmI l) 0, 0) := by
  obtain ⟨h1, h2, h3, h4⟩ := @tk_great l (-9223372036854775808)
  obtain ⟨x, x1, x2, x3⟩ := fm_is hl
  refine Prod.ext ?_ h1
  show _ = l.getD (fmI l) 0
  rw [List.getD, x1]
  show _ = x
  have a := h3 x (List.mem_of_getElem? x1)
  rcases h4 with h4 | h4
  · have := h x (List.mem_of_getElem? x1); omega
  · obtain ⟨j, hj, e⟩ := List.mem_iff_getElem.1 h4
    have := x2 j _ (List.getElem?_eq_getElem hj)
    omega

/-! ### The place of the first greatest one -/
def firstD (s xs : List Int) (a : Nat) : List Int := (List.range xs.length).map fun p : Nat => if (fmI (lineL s xs a (qOf s a p).toNat) : Int) = iOf s a p then 4294967296 else 0
def firstV (s xs : List Int) (axis : Int) : Tn := if tokV s xs = false then ([], [], 30) else if axis < 0 ∨ (s.length : Int) ≤ axis then ([], [], 20) else (s, firstD s xs axis.toNat, 0)
/-- A loop that lays One there. -/
def Fs (s xs : List Int) (a k : Nat) (zs : List Int) : Prop :=
  k ≤ (sizeV (s.eraseIdx a)).toNat ∧ zs.length = xs.length ∧ ∀ p : Nat, p < xs.length → zs.getD p 0 = if qOf s a p < k ∧ (fmI (lineL s xs a (qOf s a p).toNat) : Int) = iOf s a p then 4294967296 else 0
theorem fs_start {s xs : List Int} (h : tokV s xs = true) {a : Nat} (ha : a < s.length) : Fs s xs a 0 (List.replicate xs.length 0) := by
  obtain ⟨ho, hl⟩ := tok_iff.1 h
  refine ⟨Nat.zero_le _, by simp, fun p hp => ?_⟩
  have := q_range (ok_all ho) ha (p := p) (by omega) (by first | omega | (rw [← size_ok ho]; omega))
  rw [if_neg (by omega), rep_getD _ _ _ hp]
theorem getD_set {zs : List Int} {m p : Nat} {x : Int} (hm : m < zs.length) : (zs.set m x).getD p 0 = if p = m then x else zs.getD p 0 := by
  simp only [List.getD]
  by_cases c : p = m
  · subst c; rw [List.getElem?_set_self hm, if_pos rfl]; rfl
  · rw [List.getElem?_set_ne (by omega), if_neg c]
theorem fs_step {s xs zs : List Int} (h : tokV s xs = true) {a k m : Nat} (ha : a < s.length) (hF : Fs s xs a k zs) (hk : k < (sizeV (s.eraseIdx a)).toNat) (hm : putP s a k (fmI (lineL s xs a k)) = (m : Int)) : Fs s xs a (k + 1) (zs.set m 4294967296) := by
  obtain ⟨ho, hl⟩ := tok_iff.1 h
  have hs := ok_all ho
  have he := ok_erase ho ha
  obtain ⟨_, h2, h3⟩ := hF
  have hsd := side_pos hs ha
  have hln : lineL s xs a k ≠ [] := by
    intro e
    have := line_len s xs a k
    rw [e, List.length_nil] at this
    omega
  have hfl := fm_lt hln
  rw [line_len] at hfl
  rw [size_ok he] at hk
  have hq1 : (k : Int) < prodS (s.eraseIdx a) := by omega
  obtain ⟨r1, r2, _, _⟩ := put_range hs ha (q := k) (i := (fmI (lineL s xs a k) : Int)) (by omega) hq1 (by omega) (by omega)
  rw [hm] at r1 r2
  have hml : m < zs.length := by rw [h2]; have := size_ok ho; omega
  refine ⟨by rw [size_ok he]; omega, by simpa using h2, fun p hp => ?_⟩
  rw [getD_set hml]
  have hp1 : (p : Int) < prodS s := by omega
  have hj := put_inj hs ha (q := k) (i := (fmI (lineL s xs a k) : Int)) (p := p) (by omega) hq1 (by omega) (by omega) (by omega) hp1
  rw [hm] at hj
  by_cases c : p = m
  · rw [if_pos c]
    obtain ⟨j1, j2⟩ := hj.1 (by omega)
    rw [if_pos ⟨by omega, by rw [j1, j2, Int.toNat_natCast]⟩]
  · rw [if_neg c, h3 p hp]
    by_cases d : qOf s a p = k
    · have hne : ¬ (fmI (lineL s xs a (qOf s a p).toNat) : Int) = iOf s a p := by
        intro e
        rw [d, Int.toNat_natCast] at e
        have := hj.2 ⟨d, e.symm⟩
        omega
      rw [if_neg (fun x => hne x.2), if_neg (fun x => hne x.2)]
    · have e : (qOf s a p < (k : Int)) ↔ (qOf s a p < ((k + 1 : Nat) : Int)) := by omega
      simp only [e]
theorem fs_end {s xs zs : List Int} (h : tokV s xs = true) {a k : Nat} (ha : a < s.length) (hF : Fs s xs a k zs) (hk : ¬ k < (sizeV (s.eraseIdx a)).toNat) : zs = firstD s xs a := by
  obtain ⟨ho, hl⟩ := tok_iff.1 h
  obtain ⟨h1, h2, h3⟩ := hF
  refine ext0 (by rw [h2]; unfold firstD; simp) fun p hp => ?_
  rw [h2] at hp
  rw [h3 p hp]
  have r := q_range (ok_all ho) ha (p := p) (by omega) (by first | omega | (rw [← size_ok ho]; omega))
  rw [← size_ok (ok_erase ho ha)] at r
  unfold firstD
  have e : qOf s a p < k := by omega
  simp [List.getD, List.getElem?_map, List.getElem?_range hp, e]

/-! ### A side put in -/
def growD (s xs : List Int) (a : Nat) (n : Int) : List Int := (List.range (sizeV (inL s a n)).toNat).map fun p : Nat => xs.getD (qOf (inL s a n) a p).toNat 0
def growV (s xs : List Int) (axis n : Int) : Tn :=
  if tokV s xs = false then ([], [], 30) else if axis < 0 ∨ (s.length : Int) < axis ∨ okS (inL s axis.toNat n) = false then ([], [], 20) else (inL s axis.toNat n, growD s xs axis.toNat n, 0)
/-- Two loops that lay each number. -/
def Gs (g xs : List Int) (a k i : Nat) (zs : List Int) : Prop :=
  k ≤ xs.length ∧ zs.length = (sizeV g).toNat ∧ ∀ p : Nat, p < zs.length → zs.getD p 0 = if qOf g a p < k ∨ (qOf g a p = k ∧ iOf g a p < i) then xs.getD (qOf g a p).toNat 0 else 0
theorem gs_start {g : List Int} (xs : List Int) (h : okS g = true) {a : Nat} (ha : a < g.length) : Gs g xs a 0 0 (List.replicate (sizeV g).toNat 0) := by
  refine ⟨Nat.zero_le _, by simp, fun p hp => ?_⟩
  rw [List.length_replicate] at hp
  have := q_range (ok_all h) ha (p := p) (by omega) (by rw [← size_ok h]; omega)
  rw [if_neg (by omega), rep_getD _ _ _ hp]
theorem gs_put {g xs zs : List Int} (h : okS g = true) {a k i m : Nat} {x : Int} (ha : a < g.length) (hG : Gs g xs a k i zs) (hx : xs[k]? = some x) (hk : (k : Int) < prodS (g.eraseIdx a)) (hi : (i : Int) < g.getD a 0) (hm : putP g a k i = (m : Int)) : m < zs.length ∧ Gs g xs a k (i + 1) (zs.set m x) := by
  have hs := ok_all h
  obtain ⟨h1, h2, h3⟩ := hG
  obtain ⟨r1, r2, _, _⟩ := put_range hs ha (q := k) (i := i) (by omega) hk (by omega) hi
  rw [hm] at r1 r2
  have hml : m < zs.length := by rw [h2]; have := size_ok h; omega
  refine ⟨hml, h1, by simpa using h2, fun p hp => ?_⟩
  rw [List.length_set] at hp
  rw [getD_set hml]
  have hp1 : (p : Int) < prodS g := by rw [← size_ok h]; omega
  have hj := put_inj hs ha (q := k) (i := i) (p := p) (by omega) hk (by omega) hi (by omega) hp1
  rw [hm] at hj
  by_cases c : p = m
  · rw [if_pos c]
    obtain ⟨j1, j2⟩ := hj.1 (by omega)
    rw [if_pos (.inr ⟨j1, by omega⟩), j1, Int.toNat_natCast, List.getD, hx]; rfl
  · rw [if_neg c, h3 p hp]
    have hne : ¬ (qOf g a p = k ∧ iOf g a p = i) := fun e => c (by have := hj.2 e; omega)
    by_cases d : qOf g a p < k ∨ (qOf g a p = k ∧ iOf g a p < i)
    · rw [if_pos d, if_pos (by omega)]
    · rw [if_neg d, if_neg (by omega)]
theorem gs_next {g xs zs : List Int} (h : okS g = true) {a k i : Nat} (ha : a < g.length) (hG : Gs g xs a k i zs) (hk : k < xs.length) (hi : ¬ (i : Int) < g.getD a 0) : Gs g xs a (k + 1) 0 zs := by
  obtain ⟨h1, h2, h3⟩ := hG
  refine ⟨hk, h2, fun p hp => ?_⟩
  have := q_range (ok_all h) ha (p := p) (by omega) (by rw [← size_ok h]; omega)
  rw [h3 p hp]
  by_cases d : qOf g a p < k ∨ (qOf g a p = k ∧ iOf g a p < i)
  · rw [if_pos d, if_pos (by omega)]
  · rw [if_neg d, if_neg (by omega)]
theorem gs_end {s xs zs : List Int} {n : Int} (h : tokV s xs = true) {a k i : Nat} (ha : a ≤ s.length) (ho : okS (inL s a n) = true) (hG : Gs (inL s a n) xs a k i zs) (hk : ¬ k < xs.length) : zs = growD s xs a n := by
  obtain ⟨h1, h2, h3⟩ := hG
  obtain ⟨hs, hl⟩ := tok_iff.1 h
  refine ext0 (by rw [h2]; unfold growD; simp) fun p hp => ?_
  have hp' := hp
  rw [h2] at hp
  have r := q_range (ok_all ho) (a := a) (by rw [inL_len ha]; omega) (p := p) (by omega) (by first | omega | (rw [← size_ok ho]; omega))
  rw [erase_inL ha] at r
  rw [h3 p hp', if_pos (by omega)]
  unfold growD
  simp [List.getD, List.getElem?_map, List.getElem?_range hp]
/-- What the document finds there. -/
theorem at_q {s xs : List Int} {n : Int} (h : tokV s xs = true) {a p : Nat} (ha : a ≤ s.length) (ho : okS (inL s a n) = true) (hp : (p : Int) < sizeV (inL s a n)) :
    atV s xs ((digs (inL s a n) p).eraseIdx a) = (xs.getD (qOf (inL s a n) a p).toNat 0, 0) := by
  obtain ⟨hs, hl⟩ := tok_iff.1 h
  have hp' := hp
  rw [size_ok ho] at hp'
  have hal : a < (inL s a n).length := by rw [inL_len ha]; omega
  obtain ⟨r1, r2, _⟩ := q_range (ok_all ho) hal (p := p) (by omega) hp'
  obtain ⟨e, _⟩ := digs_q (ok_all ho) hal (p := p) (by omega) hp'
  rw [erase_inL ha] at e r2
  rw [e, at_at h r1 (by rw [size_ok hs]; exact r2)]
end Go.Proofs.ShM
