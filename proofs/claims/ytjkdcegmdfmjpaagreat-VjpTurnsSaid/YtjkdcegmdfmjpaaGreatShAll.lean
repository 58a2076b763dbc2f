import Derived.Test.YtjkdcegmdfmjpaaGreatTk
import Derived.Test.YtjkdcegmdfmjpaaGreatRows
import Derived.WalkKit
import Derived.WalkSpells
import Derived.WalkLawsBesides
import Derived.Handy
import Derived.Below
import Derived.Lib.Hide
import Derived.Laws.OwnMore
import Derived.Laws.MakeOwn
import Derived.Laws.NewBlocks
import Derived.Deep.AppendLies
import Derived.Deep.Draws
import Derived.Maps.AppendAt
import Derived.OwnWalk
import Derived.BigQuiet
import Derived.Deep.QuietTactic
import Derived.ChangeSlices
import Derived.Outline
import Derived.WalkMore
import Derived.Deep.LoopGhost
import Derived.RegionTactic
set_option maxHeartbeats 16000000
set_option maxRecDepth 100000
set_option linter.unusedVariables false
set_option linter.unusedSimpArgs false
namespace Go.Proofs.ShM
def prodS : List Int → Int
 | [] => 1
 | x :: s => x * prodS s
def sideB (x : Int) : Bool := decide (1 ≤ x ∧ x ≤ 16)
def okS (s : List Int) : Bool := decide (s.length ≤ 3) && (s.all sideB && decide (prodS s ≤ 64))
def sizeV (s : List Int) : Int := if okS s = true then prodS s else 0
def digs : List Int → Int → List Int
 | [], _ => []
 | _ :: s, p => (p / prodS s) :: digs s (p % prodS s)
def indexV (s : List Int) (p : Int) : List Int × Int := if 0 ≤ p ∧ p < sizeV s then (digs s p, 0) else ([], 20)
def inIdx : List Int → List Int → Bool
 | [], [] => true
 | x :: s, i :: t => decide (0 ≤ i ∧ i < x) && inIdx s t
 | _, _ => false
def plc : List Int → List Int → Int
 | _ :: s, i :: t => i * prodS s + plc s t
 | _, _ => 0
def placeV (s t : List Int) : Int × Int := if (okS s && inIdx s t) = true then (plc s t, 0) else (0, 20)
def jn (x y : Int) : Option Int := if x = y ∨ y = 1 then some x else if x = 1 then some y else none
def joinL : List Int → List Int → Option (List Int)
 | x :: s, y :: t => (jn x y).bind fun h => (joinL s t).map (h :: ·)
 | _, _ => some []
def pad (n : Nat) (s : List Int) : List Int := List.replicate (n - s.length) 1 ++ s
def joinO (a b : List Int) : Option (List Int) := joinL (pad (max a.length b.length) a) (pad (max a.length b.length) b)
def joinV (a b : List Int) : List Int × Int :=
 if (okS a && okS b) = true then match joinO a b with
  | some l => if okS l = true then (l, 0) else ([], 20)
  | none => ([], 20)
 else ([], 20)
def fitsV (a b : List Int) : Bool := decide (joinV a b = (b, 0))
theorem sideB_iff {x : Int} : sideB x = true ↔ 1 ≤ x ∧ x ≤ 16 := by unfold sideB; simp
theorem ok_iff {s : List Int} : okS s = true ↔ s.length ≤ 3 ∧ s.all sideB = true ∧ prodS s ≤ 64 := by unfold okS; simp
theorem prod_pos {s : List Int} (h : s.all sideB = true) : 1 ≤ prodS s := by
 induction s with
 | nil => simp [prodS]
 | cons x s ih =>
  simp only [List.all_cons, Bool.and_eq_true] at h
  have h1 := (sideB_iff.1 h.1).1
  have h2 := ih h.2
  have := Int.mul_le_mul h1 h2 (by omega) (by omega)
  simpa [prodS] using this
theorem prod_append (s t : List Int) : prodS (s ++ t) = prodS s * prodS t := by
 induction s with
 | nil => simp [prodS]
 | cons x s ih => simp [prodS, ih, Int.mul_assoc]
theorem prod_snoc (s : List Int) (x : Int) : prodS (s ++ [x]) = prodS s * x := by simp [prod_append, prodS]
theorem prod_le {s : List Int} (h : s.all sideB = true) : prodS s ≤ ((16 ^ s.length : Nat) : Int) := by
 induction s with
 | nil => simp [prodS]
 | cons x s ih =>
  simp only [List.all_cons, Bool.and_eq_true] at h
  have h1 := sideB_iff.1 h.1
  have h2 := ih h.2
  have h3 := prod_pos h.2
  have h4 := Int.mul_le_mul h1.2 h2 (by omega) (by omega)
  simp only [prodS, List.length_cons]
  rw [Nat.pow_succ, Nat.mul_comm]
  push_cast at *
  omega
theorem prod_le2 {s : List Int} (h : s.all sideB = true) (hk : s.length ≤ 2) : prodS s ≤ 256 := by
 have := prod_le h
 have hp : (16 ^ s.length : Nat) ≤ 16 ^ 2 := Nat.pow_le_pow_right (by omega) hk
 omega
theorem prod_le3 {s : List Int} (h : s.all sideB = true) (hk : s.length ≤ 3) : prodS s ≤ 4096 := by
 have := prod_le h
 have hp : (16 ^ s.length : Nat) ≤ 16 ^ 3 := Nat.pow_le_pow_right (by omega) hk
 omega
theorem drop_of {α : Type} {s : List α} {k : Nat} {x : α} (h : s[k]? = some x) : s.drop k = x :: s.drop (k + 1) := by
 obtain ⟨hk, rfl⟩ := List.getElem?_eq_some_iff.1 h
 exact List.drop_eq_getElem_cons hk
theorem take_of {α : Type} {s : List α} {k : Nat} {x : α} (h : s[k]? = some x) : s.take (k + 1) = s.take k ++ [x] := by
 obtain ⟨hk, rfl⟩ := List.getElem?_eq_some_iff.1 h
 rw [List.take_succ_eq_append_getElem hk]
theorem all_take_of {s : List Int} {k : Nat} {x : Int} (h : s[k]? = some x) : (s.take (k + 1)).all sideB = ((s.take k).all sideB && sideB x) := by
 rw [take_of h]; simp
theorem all_false_of {s : List Int} {k : Nat} {x : Int} (h : s[k]? = some x) (hx : sideB x = false) : s.all sideB = false := by
 rw [List.all_eq_false]
 exact ⟨x, List.mem_of_getElem? h, by simp [hx]⟩
theorem all_drop {s : List Int} (h : s.all sideB = true) (k : Nat) : (s.drop k).all sideB = true := by
 rw [List.all_eq_true] at *
 exact fun x hx => h x (List.mem_of_mem_drop hx)
theorem all_take {s : List Int} (h : s.all sideB = true) (k : Nat) : (s.take k).all sideB = true := by
 rw [List.all_eq_true] at *
 exact fun x hx => h x (List.mem_of_mem_take hx)
theorem side_of {s : List Int} (h : s.all sideB = true) {k : Nat} {x : Int} (hx : s[k]? = some x) : 1 ≤ x ∧ x ≤ 16 :=
 sideB_iff.1 (List.all_eq_true.1 h x (List.mem_of_getElem? hx))
theorem size_long {s : List Int} (h : 3 < s.length) : sizeV s = 0 := by
 unfold sizeV; rw [if_neg]; intro c; have := (ok_iff.1 c).1; omega
theorem size_side {s : List Int} (h : s.all sideB = false) : sizeV s = 0 := by
 unfold sizeV; rw [if_neg]; intro c; have := (ok_iff.1 c).2.1; rw [h] at this; cases this
theorem size_big {s : List Int} (h : 64 < prodS s) : sizeV s = 0 := by
 unfold sizeV; rw [if_neg]; intro c; have := (ok_iff.1 c).2.2; omega
theorem size_fit {s : List Int} (h1 : s.length ≤ 3) (h2 : s.all sideB = true) (h3 : prodS s ≤ 64) : sizeV s = prodS s := by
 unfold sizeV; rw [if_pos (ok_iff.2 ⟨h1, h2, h3⟩)]
theorem size_ok {s : List Int} (h : okS s = true) : sizeV s = prodS s := by unfold sizeV; rw [if_pos h]
theorem size_no {s : List Int} (h : okS s = false) : sizeV s = 0 := by unfold sizeV; rw [if_neg (by simp [h])]
theorem ok_prod {s : List Int} (h : okS s = true) : 1 ≤ prodS s ∧ prodS s ≤ 64 := ⟨prod_pos (ok_iff.1 h).2.1, (ok_iff.1 h).2.2⟩
theorem size_pos {s : List Int} : decide (0 < sizeV s) = okS s := by
 cases h : okS s with
 | true => have := ok_prod h; rw [size_ok h]; simp; omega
 | false => rw [size_no h]; rfl
theorem size_le (s : List Int) : 0 ≤ sizeV s ∧ sizeV s ≤ 64 := by
 cases h : okS s with
 | true => have := ok_prod h; rw [size_ok h]; omega
 | false => rw [size_no h]; omega
theorem digs_len (s : List Int) : ∀ p, (digs s p).length = s.length := by
 induction s with
 | nil => intro p; rfl
 | cons x s ih => intro p; simp [digs, ih]
theorem digs_in {s : List Int} (h : s.all sideB = true) : ∀ {p : Int}, 0 ≤ p → p < prodS s → inIdx s (digs s p) = true ∧ plc s (digs s p) = p := by
 induction s with
 | nil => intro p h0 h1; simp [prodS] at h1; exact ⟨rfl, by show (0 : Int) = p; omega⟩
 | cons x s ih =>
  intro p h0 h1
  simp only [List.all_cons, Bool.and_eq_true] at h
  have hp := prod_pos h.2
  have hm := Int.emod_nonneg p (show prodS s ≠ 0 by omega)
  have hl := Int.emod_lt_of_pos p (show 0 < prodS s by omega)
  obtain ⟨a, b⟩ := ih h.2 hm hl
  have hd : 0 ≤ p / prodS s := Int.ediv_nonneg h0 (by omega)
  have hx : p / prodS s < x := Int.ediv_lt_of_lt_mul (by omega) (by simpa [prodS] using h1)
  refine ⟨by simp [digs, inIdx, hd, hx, a], ?_⟩
  simp only [digs, plc, b]
  have := Int.mul_ediv_add_emod p (prodS s)
  rw [Int.mul_comm] at this
  exact this
theorem plc_in {s : List Int} (h : s.all sideB = true) : ∀ {t : List Int}, inIdx s t = true → 0 ≤ plc s t ∧ plc s t < prodS s ∧ digs s (plc s t) = t := by
 induction s with
 | nil => intro t ht; cases t with
  | nil => exact ⟨by simp [plc], by simp [plc, prodS], rfl⟩
  | cons i t => simp [inIdx] at ht
 | cons x s ih =>
  intro t ht
  cases t with
  | nil => simp [inIdx] at ht
  | cons i t =>
   simp only [List.all_cons, Bool.and_eq_true] at h
   simp only [inIdx, Bool.and_eq_true, decide_eq_true_eq] at ht
   have hp := prod_pos h.2
   obtain ⟨a, b, c⟩ := ih h.2 ht.2
   have h1 : 0 ≤ i * prodS s := Int.mul_nonneg ht.1.1 (by omega)
   have h2 : (i + 1) * prodS s ≤ x * prodS s := Int.mul_le_mul_of_nonneg_right (by omega) (by omega)
   have h3 : (i + 1) * prodS s = i * prodS s + prodS s := by rw [Int.add_mul, Int.one_mul]
   have e1 : (i * prodS s + plc s t) / prodS s = i := by
    rw [Int.add_comm, Int.add_mul_ediv_right _ _ (by omega), Int.ediv_eq_zero_of_lt a b]; omega
   have e2 : (i * prodS s + plc s t) % prodS s = plc s t := by
    rw [Int.add_comm, Int.add_mul_emod_self_right, Int.emod_eq_of_lt a b]
   refine ⟨by simp only [plc]; omega, by simp only [plc, prodS]; omega, ?_⟩
   simp only [plc, digs, e1, e2, c]
theorem in_len {s : List Int} : ∀ {t : List Int}, inIdx s t = true → t.length = s.length := by
 induction s with
 | nil => intro t h; cases t with
  | nil => rfl
  | cons _ _ => simp [inIdx] at h
 | cons x s ih => intro t h; cases t with
  | nil => simp [inIdx] at h
  | cons i t => simp only [inIdx, Bool.and_eq_true] at h; simp [ih h.2]
theorem index_yes {s : List Int} {p : Int} (h0 : 0 ≤ p) (h1 : p < sizeV s) : indexV s p = (digs s p, 0) := by unfold indexV; rw [if_pos ⟨h0, h1⟩]
theorem index_no {s : List Int} {p : Int} (h : p < 0 ∨ sizeV s ≤ p) : indexV s p = ([], 20) := by unfold indexV; rw [if_neg (by omega)]
theorem ok_of_lt {s : List Int} {p : Int} (h0 : 0 ≤ p) (h1 : p < sizeV s) : okS s = true := by
 cases h : okS s with
 | true => rfl
 | false => rw [size_no h] at h1; omega
theorem digs_drop {s : List Int} (h : s.all sideB = true) {k : Nat} {x : Int} (hx : s[k]? = some x) (p : Int) (h0 : 0 ≤ p) (h1 : p < prodS (s.drop k)) :
  digs (s.drop k) p = p / prodS (s.drop (k + 1)) :: digs (s.drop (k + 1)) (p % prodS (s.drop (k + 1))) ∧ prodS (s.drop k) / x = prodS (s.drop (k + 1)) ∧ 1 ≤ prodS (s.drop (k + 1)) ∧
  0 ≤ p % prodS (s.drop (k + 1)) ∧ p % prodS (s.drop (k + 1)) < prodS (s.drop (k + 1)) ∧ 0 ≤ p / prodS (s.drop (k + 1)) ∧ p / prodS (s.drop (k + 1)) < x := by
 have hs := side_of h hx
 have hp := prod_pos (all_drop h (k + 1))
 rw [drop_of hx] at h1 ⊢
 refine ⟨rfl, ?_, hp, Int.emod_nonneg _ (by omega), Int.emod_lt_of_pos _ (by omega), Int.ediv_nonneg h0 (by omega), Int.ediv_lt_of_lt_mul (by omega) (by simpa [prodS] using h1)⟩
 simp only [prodS]
 exact Int.mul_ediv_cancel_left _ (by omega)
theorem emod_ediv (p x P : Int) (hx : 1 ≤ x) (hP : 1 ≤ P) : p % (x * P) / P = p / P % x := by
 have hm : 1 ≤ x * P := by have := Int.mul_le_mul hx hP (by omega) (by omega); omega
 have h0 := Int.emod_nonneg p (show x * P ≠ 0 by omega)
 have h1 := Int.emod_lt_of_pos p (show 0 < x * P by omega)
 have e := Int.mul_ediv_add_emod p (x * P)
 generalize p / (x * P) = q at e
 generalize p % (x * P) = r at *
 have e2 : p = r + (x * q) * P := by rw [← e, Int.add_comm, Int.mul_assoc, Int.mul_assoc, Int.mul_comm P q]
 rw [e2, Int.add_mul_ediv_right _ _ (by omega), Int.add_mul_emod_self_left]
 rw [Int.emod_eq_of_lt (Int.ediv_nonneg h0 (by omega)) (Int.ediv_lt_of_lt_mul (by omega) h1)]
theorem plc_round {s t : List Int} (h : s.all sideB = true) {k : Nat} {x y acc : Int} (hx : s[k]? = some x) (hy : t[k]? = some y) (hin : inIdx (s.drop k) (t.drop k) = inIdx s t)
  (hacc : plc s t = acc * prodS (s.drop k) + plc (s.drop k) (t.drop k)) (h0 : 0 ≤ acc) (h1 : acc < prodS (s.take k)) (hy0 : 0 ≤ y) (hy1 : y < x) :
  inIdx (s.drop (k + 1)) (t.drop (k + 1)) = inIdx s t ∧ plc s t = (acc * x + y) * prodS (s.drop (k + 1)) + plc (s.drop (k + 1)) (t.drop (k + 1)) ∧ 0 ≤ acc * x ∧ acc * x + y < prodS (s.take (k + 1)) := by
 have hs := side_of h hx
 rw [drop_of hx, drop_of hy] at hin hacc
 simp only [inIdx, plc, prodS] at hin hacc
 refine ⟨?_, ?_, Int.mul_nonneg h0 (by omega), ?_⟩
 ·rw [← hin]; simp [hy0, hy1]
 ·rw [hacc, Int.add_mul, Int.mul_assoc, Int.add_assoc]
 ·rw [take_of hx, prod_snoc]
  have := Int.mul_le_mul_of_nonneg_right (show acc + 1 ≤ prodS (s.take k) by omega) (show 0 ≤ x by omega)
  rw [Int.add_mul, Int.one_mul] at this
  omega
theorem in_out {s t : List Int} {k : Nat} {x y : Int} (hx : s[k]? = some x) (hy : t[k]? = some y) (hin : inIdx (s.drop k) (t.drop k) = inIdx s t) (h : y < 0 ∨ x ≤ y) : inIdx s t = false := by
 rw [← hin, drop_of hx, drop_of hy]
 simp only [inIdx]
 rw [decide_eq_false (by omega)]; rfl
theorem place_no {s t : List Int} (h : okS s = false ∨ inIdx s t = false) : placeV s t = (0, 20) := by
 unfold placeV; rw [if_neg]; rcases h with h | h <;> simp [h]
theorem place_yes {s t : List Int} (h : okS s = true) (h' : inIdx s t = true) : placeV s t = (plc s t, 0) := by unfold placeV; rw [if_pos (by simp [h, h'])]
theorem in_len_no {s t : List Int} (h : t.length ≠ s.length) : inIdx s t = false := by
 cases e : inIdx s t with
 | true => exact absurd (in_len e) h
 | false => rfl
end Go.Proofs.ShM
namespace Go.Proofs.YtjkdcegmdfmjpaaGreat
open Go.RowKit Go.Proofs.ShM
theorem int_info : (Tryz.prog.info? 3).map (fun i => (i.zero, i.size, i.bytes)) = some (some (.int .i64 0), 1, 8) := by kernel_rfl
def I64 (a : Int) : Prop := -9223372036854775808 ≤ a ∧ a ≤ 9223372036854775807
theorem ret_int {k : IntKind} {a c : Int} (h : a = c) : Ending.returned (.int k a) = .returned (.int k c) := by rw [h]
theorem ret_bool {a c : Bool} (h : a = c) : Ending.returned (.bool a) = .returned (.bool c) := by rw [h]
theorem ret_ints {k l : IntKind} {a b : Int} {p : Int × Int} (h : p = (a, b)) : Ending.returned (.tuple #[.int k a, .int l b]) = .returned (.tuple #[.int k p.1, .int l p.2]) := by rw [h]
theorem block_of_add (a : Addr) (n : Nat) : (a.add n).block = a.block := by unfold Addr.add; split <;> rfl
theorem add_of_add (a : Addr) (i j : Nat) : (a.add i).add j = a.add (i + j) := by
 unfold Addr.add
 by_cases hi : i = 0 <;> by_cases hj : j = 0 <;> simp [hi, hj, Nat.add_assoc]
def Rd (w : World) (A : Option Addr) (xs : List Int) : Prop :=
 xs.length ≤ 9223372036854775807 ∧ (0 < xs.length → ∃ ad, A = some ad ∧ ad.block < w.heap.size ∧ ∀ j u, xs[j]? = some u → w.cell? (ad.add j) = some (.int .i64 u))
def Ints (w : World) (v : Value) (xs : List Int) : Prop := ∃ A c, v = .slice A xs.length c ∧ xs.length ≤ c ∧ c ≤ maxLen ∧ Rd w A xs
section
variable {w w' : World} {A : Option Addr} {xs : List Int} {v : Value}
theorem Rd.nil (w : World) (A : Option Addr) : Rd w A [] := ⟨by simp, fun h => absurd h (by simp)⟩
theorem Rd.len (h : Rd w A xs) : xs.length ≤ 9223372036854775807 := h.1
theorem Rd.at_ (h : Rd w A xs) {k : Nat} (hk : k < xs.length) : ∃ ad x, A = some ad ∧ ad.block < w.heap.size ∧ xs[k]? = some x ∧ w.cell? (ad.add k) = some (.int .i64 x) := by
 obtain ⟨ad, e, hb, hc⟩ := h.2 (by omega)
 exact ⟨ad, xs[k], e, hb, List.getElem?_eq_getElem hk, hc k _ (List.getElem?_eq_getElem hk)⟩
theorem Rd.keep (h : Rd w A xs) (hs : w.heap.size ≤ w'.heap.size) (hk : ∀ p : Addr, p.block < w.heap.size → w'.cell? p = w.cell? p) : Rd w' A xs :=
 ⟨h.1, fun hn => by
  obtain ⟨ad, e, hb, hc⟩ := h.2 hn
  exact ⟨ad, e, Nat.lt_of_lt_of_le hb hs, fun j u hu => (hk _ (by rw [block_of_add]; exact hb)).trans (hc j u hu)⟩⟩
abbrev Kp (w w' : World) : Prop := Below w.heap.size w w'
theorem Kp.refl (w : World) : Kp w w := Below.refl _ _
theorem Kp.tr {a b c : World} (h : Kp a b) (k : Kp b c) : Kp a c := h.trans (Below.mono k h.size)
theorem Rd.kp (h : Rd w A xs) (k : Kp w w') : Rd w' A xs := h.keep k.size fun _ hp => k.cell hp
theorem Ints.nil (w : World) : Ints w (.slice none 0 0) [] := ⟨none, 0, rfl, by simp, by simp, Rd.nil _ _⟩
theorem Ints.of_own {base : Nat} {e : TypeId} (h : w.ownsRow base e 1 v xs.length (xs.map (Value.int .i64))) : Ints w v xs := by
 have hl := h
 rcases h.2 with ⟨rfl, h0⟩ | ⟨g, cap, cur, rfl, _, hh, hn, hc, hcs, ht⟩
 ·have : xs = [] := List.eq_nil_of_length_eq_zero h0
  subst this
  exact Ints.nil w
 ·refine ⟨_, cap, rfl, hn, hc, by unfold maxLen at hc; omega, fun hp => ⟨_, rfl, ?_, fun j u hu => ?_⟩⟩
  ·obtain ⟨g', cap', e', _, hlt⟩ := hl.form hp
   injection e' with e1
   injection e1 with e1
   injection e1 with e1
   subst e1; exact hlt
  ·exact hl.cells (g := g) rfl j (.int .i64 u) (by simp [hu])
end
namespace ShA
def Rel (xs : List Int) (p : Int) (k : Nat) : Prop := k ≤ xs.length ∧ (xs.take k).all sideB = true ∧ p = prodS (xs.take k)
theorem start (xs : List Int) : Rel xs 1 0 := ⟨Nat.zero_le _, rfl, rfl⟩
theorem bnd {xs : List Int} {p : Int} {k : Nat} (h : Rel xs p k) (h3 : xs.length ≤ 3) : 1 ≤ p ∧ p ≤ 4096 := by
 obtain ⟨_, h2, rfl⟩ := h
 exact ⟨prod_pos h2, prod_le3 h2 (by have := List.length_take_le k xs; omega)⟩
theorem bnd2 {xs : List Int} {p : Int} {k : Nat} (h : Rel xs p k) (h3 : xs.length ≤ 3) (hk : k < xs.length) : 1 ≤ p ∧ p ≤ 256 := by
 obtain ⟨_, h2, rfl⟩ := h
 exact ⟨prod_pos h2, prod_le2 h2 (by rw [List.length_take]; omega)⟩
theorem mulb {p x : Int} (h : 1 ≤ p ∧ p ≤ 256) (h1 : 1 ≤ x) (h2 : x ≤ 16) : 1 ≤ p * x ∧ p * x ≤ 4096 := by
 have a := Int.mul_le_mul h.1 h1 (by omega) (by omega)
 have b := Int.mul_le_mul h.2 h2 (by omega) (by omega)
 omega
theorem step {xs : List Int} {p x : Int} {k : Nat} (h : Rel xs p k) (hx : xs[k]? = some x) (h1 : 1 ≤ x) (h2 : x ≤ 16) : Rel xs (p * x) (k + 1) := by
 obtain ⟨_, hb, rfl⟩ := h
 have hk := (List.getElem?_eq_some_iff.1 hx).1
 exact ⟨hk, by rw [all_take_of hx, hb, sideB_iff.2 ⟨h1, h2⟩]; rfl, by rw [take_of hx, prod_snoc]⟩
theorem bad {xs : List Int} {x : Int} {k : Nat} (hx : xs[k]? = some x) (h : x < 1 ∨ 16 < x) : sizeV xs = 0 :=
 size_side (all_false_of hx (by unfold sideB; rw [decide_eq_false]; omega))
theorem all_ {xs : List Int} {p : Int} {k : Nat} (h : Rel xs p k) (hk : k = xs.length) : xs.all sideB = true ∧ p = prodS xs := by
 obtain ⟨_, hb, rfl⟩ := h
 subst hk
 rw [List.take_length] at *
 exact ⟨hb, rfl⟩
end ShA
theorem size_any (A : Option Addr) (c : Nat) (xs : List Int) (w : World) (h : Rd w A xs) :
  Calls Tryz.prog 22 #[.slice A xs.length c] w fun e w' => e = .returned (.int .i64 (sizeV xs)) ∧ w = w' := by
 have hl := h.len
 by_cases h3 : 3 < xs.length
 ·have HF := lH (size_long h3)
  go_enter Tryz.func22, Tryz.ntmps22
  go_wp2
  go_ret
  exact ⟨ret_int HF.out.symm, rfl⟩
 ·go_enter Tryz.func22, Tryz.ntmps22
  go_wp2
  go_loop [3, 5, 11] (fun p _ i => ∃ (k : Nat) (q : Int), i = .int .i64 k ∧ p = .int .i64 q ∧ Hid (ShA.Rel xs q k)) (fun _ _ i => xs.length - (intOf i).toNat)
  case atStart => exact ⟨0, 1, rfl, rfl, ShA.start xs⟩
  case round =>
   obtain ⟨k, q, rfl, rfl, hr⟩ := hrel
   have hb := ShA.bnd hr.out (by omega)
   by_cases hk : k < xs.length
   ·have hb2 := ShA.bnd2 hr.out (by omega) hk
    obtain ⟨ad, x, rfl, _, hx, hc⟩ := h.at_ hk
    have HX := lH hx
    clear hx
    by_cases hx1 : x < 1
    ·have HF := lH (ShA.bad HX.out (.inl hx1))
     clear hb2
     go_wp2
     go_ret
     exact ⟨ret_int HF.out.symm, rfl⟩
    ·by_cases hx2 : 16 < x
     ·have HF := lH (ShA.bad HX.out (.inr hx2))
      clear hb2
      go_wp2
      go_ret
      exact ⟨ret_int HF.out.symm, rfl⟩
     ·have hb3 := ShA.mulb hb2 (show 1 ≤ x by omega) (show x ≤ 16 by omega)
      clear hb2
      go_wp2
      go_round
      case rel => exact ⟨k + 1, q * x, by go_num, rfl, ShA.step hr.out HX.out (by omega) (by omega)⟩
      case measure => simp [intOf]; omega
   ·have hk' : k = xs.length := by have := hr.out.1; omega
    obtain ⟨ha, hp⟩ := ShA.all_ hr.out hk'
    have HA := lH (And.intro ha hp); clear ha hp
    have HK := lH hk'; clear hk'
    by_cases hq : 64 < q
    all_goals
     go_wp2
     go_ret
     refine ⟨ret_int ?_, rfl⟩
    ·rw [size_big (by rw [← HA.out.2]; exact hq)]
    ·rw [size_fit (by omega) HA.out.1 (by rw [← HA.out.2]; omega), ← HA.out.2]
theorem check_any (A : Option Addr) (c : Nat) (xs : List Int) (w : World) (h : Rd w A xs) :
  Calls Tryz.prog 20 #[.slice A xs.length c] w fun e w' => e = .returned (.bool (okS xs)) ∧ w = w' := by
 have H := lH h; clear h
 go_enter Tryz.func20, Tryz.ntmps20
 go_wp2_with fail
 refine (size_any _ _ _ _ H.out).mono ?_; rintro e w' ⟨rfl, rfl⟩
 go_wp2
 go_ret
 exact ⟨ret_bool size_pos, rfl⟩
open Go.RowKit Go.Proofs.ShM
namespace ShB
def Eqd (xs ys : List Int) (k : Nat) : Prop := k ≤ xs.length ∧ xs.take k = ys.take k
theorem eq_start (xs ys : List Int) : Eqd xs ys 0 := ⟨Nat.zero_le _, rfl⟩
theorem eq_step {xs ys : List Int} {k : Nat} {x : Int} (h : Eqd xs ys k) (hx : xs[k]? = some x) (hy : ys[k]? = some x) : Eqd xs ys (k + 1) :=
 ⟨(List.getElem?_eq_some_iff.1 hx).1, by rw [take_of hx, take_of hy, h.2]⟩
theorem eq_end {xs ys : List Int} (h : Eqd xs ys xs.length) (hl : xs.length = ys.length) : (xs == ys) = true := by
 have := h.2
 rw [List.take_length, hl, List.take_length] at this
 rw [this]; simp
theorem eq_bad {xs ys : List Int} {k : Nat} {x y : Int} (hx : xs[k]? = some x) (hy : ys[k]? = some y) (h : x ≠ y) : (xs == ys) = false := by
 rw [beq_eq_false_iff_ne]
 rintro rfl
 rw [hx] at hy
 exact h (Option.some.inj hy)
theorem eq_len {xs ys : List Int} (h : xs.length ≠ ys.length) : (xs == ys) = false := by
 rw [beq_eq_false_iff_ne]
 rintro rfl
 exact h rfl
end ShB
theorem same_any (A B : Option Addr) (c d : Nat) (xs ys : List Int) (w : World) (h : Rd w A xs) (g : Rd w B ys) :
  Calls Tryz.prog 12 #[.slice A xs.length c, .slice B ys.length d] w fun e w' => e = .returned (.bool (xs == ys)) ∧ ∃ n, w' = w.drewN n := by
 have hl := h.len
 by_cases hn : xs.length = ys.length
 ·have HN := lH hn
  have hle : ys.length ≤ 9223372036854775807 := by omega
  have e1 : ((xs.length : Int) != (ys.length : Int)) = false := by simp [hn]
  clear hn
  go_enter Tryz.func12, Tryz.ntmps12
  go_wp2
  go_loopw [5] (fun i wr => ∃ (k n : Nat), i = .int .i64 k ∧ wr = w.drewN n ∧ Hid (ShB.Eqd xs ys k)) (fun i _ => xs.length - (intOf i).toNat)
  case atStart => exact ⟨0, 0, rfl, rfl, ShB.eq_start _ _⟩
  case round =>
   obtain ⟨k, n, rfl, rfl, hr⟩ := hrel
   by_cases hk : k < xs.length
   ·obtain ⟨ad, x, rfl, _, hx, hc⟩ := h.at_ hk
    obtain ⟨bd, y, rfl, _, hy, hcy⟩ := g.at_ (k := k) (by have := HN.out; omega)
    have HX := lH hx
    have HY := lH hy
    have hky : k < ys.length := by have := HN.out; omega
    have i1 : (0 : Int) ≤ (k : Int) := by omega
    have i2 : (k : Int) < (xs.length : Int) := by omega
    have i3 : (k : Int) < (ys.length : Int) := by omega
    clear hx hy e1
    by_cases hxy : x = y
    ·subst hxy
     go_wp2
     go_quiet (fail)
     go_wp2
     go_roundw
     case rel => exact ⟨k + 1, _, by go_num, by first | rfl | exact World.drewN_drewN _ _ _, ShB.eq_step hr.out HX.out HY.out⟩
     case measure => simp [intOf]; omega
    ·have e2 : (x != y) = true := by simpa using hxy
     have HF := lH (ShB.eq_bad HX.out HY.out hxy)
     clear hxy
     go_wp2
     go_quiet (fail)
     go_wp2
     go_ret
     exact ⟨ret_bool HF.out.symm, _, by first | rfl | exact World.drewN_drewN _ _ _⟩
   ·have hk' : k = xs.length := by have := hr.out.1; omega
    have HF := lH (ShB.eq_end (hk' ▸ hr.out) HN.out)
    clear hk' e1
    go_wp2
    go_ret
    exact ⟨ret_bool HF.out.symm, _, rfl⟩
 ·have HF := lH (ShB.eq_len hn)
  have e1 : ((xs.length : Int) != (ys.length : Int)) = true := by simp; omega
  clear hn
  go_enter Tryz.func12, Tryz.ntmps12
  go_wp2
  go_ret
  exact ⟨ret_bool HF.out.symm, 0, rfl⟩
open Go.RowKit Go.Proofs.ShM
theorem equal_any (A B : Option Addr) (c d : Nat) (xs ys : List Int) (w : World) (h : Rd w A xs) (g : Rd w B ys) :
  Calls Tryz.prog 52 #[.slice A xs.length c, .slice B ys.length d] w fun e w' => e = .returned (.bool (xs == ys)) ∧ ∃ n, w' = w.drewN n := by
 have hl := h.len
 by_cases hn : xs.length = ys.length
 ·have HN := lH hn
  have hle : ys.length ≤ 9223372036854775807 := by omega
  have e1 : ((xs.length : Int) != (ys.length : Int)) = false := by simp [hn]
  clear hn
  go_enter Tryz.func52, Tryz.ntmps52
  go_wp2
  go_loopw [5, 13] (fun _ i wr => ∃ (k n : Nat), i = .int .i64 k ∧ wr = w.drewN n ∧ Hid (ShB.Eqd xs ys k)) (fun _ i _ => xs.length - (intOf i).toNat)
  case atStart => exact ⟨0, 0, rfl, rfl, ShB.eq_start _ _⟩
  case round =>
   obtain ⟨k, n, rfl, rfl, hr⟩ := hrel
   by_cases hk : k < xs.length
   ·obtain ⟨ad, x, rfl, _, hx, hc⟩ := h.at_ hk
    obtain ⟨bd, y, rfl, _, hy, hcy⟩ := g.at_ (k := k) (by have := HN.out; omega)
    have HX := lH hx
    have HY := lH hy
    have hky : k < ys.length := by have := HN.out; omega
    have i1 : (0 : Int) ≤ (k : Int) := by omega
    have i2 : (k : Int) < (xs.length : Int) := by omega
    have i3 : (k : Int) < (ys.length : Int) := by omega
    clear hx hy e1
    by_cases hxy : x = y
    ·subst hxy
     go_wp2
     go_quiet (fail)
     go_wp2
     go_roundw
     case rel => exact ⟨k + 1, _, by go_num, by first | rfl | exact World.drewN_drewN _ _ _, ShB.eq_step hr.out HX.out HY.out⟩
     case measure => simp [intOf]; omega
    ·have e2 : (x != y) = true := by simpa using hxy
     have HF := lH (ShB.eq_bad HX.out HY.out hxy)
     clear hxy
     go_wp2
     go_quiet (fail)
     go_wp2
     go_ret
     exact ⟨ret_bool HF.out.symm, _, by first | rfl | exact World.drewN_drewN _ _ _⟩
   ·have hk' : k = xs.length := by have := hr.out.1; omega
    have HF := lH (ShB.eq_end (hk' ▸ hr.out) HN.out)
    clear hk' e1
    go_wp2
    go_ret
    exact ⟨ret_bool HF.out.symm, _, rfl⟩
 ·have HF := lH (ShB.eq_len hn)
  have e1 : ((xs.length : Int) != (ys.length : Int)) = true := by simp; omega
  clear hn
  go_enter Tryz.func52, Tryz.ntmps52
  go_wp2
  go_ret
  exact ⟨ret_bool HF.out.symm, 0, rfl⟩
theorem pad_one {n k : Nat} {s : List Int} (h : k < n - s.length) : (pad n s)[k]? = some 1 := by
 unfold pad; rw [List.getElem?_append_left (by simpa using h)]; simp [h]
theorem pad_at {n k : Nat} {s : List Int} (h : n - s.length ≤ k) : (pad n s)[k]? = s[k - (n - s.length)]? := by
 unfold pad; rw [List.getElem?_append_right (by simpa using h)]; simp
theorem sideof_any (A : Option Addr) (c : Nat) (xs : List Int) (w : World) (h : Rd w A xs) (k n : Nat) (h1 : xs.length ≤ n) (h2 : k < n) (h3 : n ≤ 1000) :
  Calls Tryz.prog 138 #[.slice A xs.length c, .int .i64 k, .int .i64 n] w fun e w' => ∃ x, e = .returned (.int .i64 x) ∧ (pad n xs)[k]? = some x ∧ w = w' := by
 by_cases hk : k < n - xs.length
 ·have HF := lH (pad_one hk)
  go_enter Tryz.func138, Tryz.ntmps138
  go_wp2
  go_ret
  exact ⟨_, rfl, HF.out, rfl⟩
 ·obtain ⟨ad, x, rfl, _, hx, hc⟩ := h.at_ (k := k - (n - xs.length)) (by omega)
  have HF := lH ((pad_at (s := xs) (n := n) (k := k) (by omega)).trans hx)
  clear hx
  obtain ⟨d, rfl⟩ : ∃ d, n = xs.length + d := ⟨n - xs.length, by omega⟩
  obtain ⟨j, rfl⟩ : ∃ j, k = j + d := ⟨k - d, by omega⟩
  rw [show j + d - (xs.length + d - xs.length) = j by omega] at hc
  go_enter Tryz.func138, Tryz.ntmps138
  go_wp2
  go_ret
  exact ⟨_, rfl, HF.out, rfl⟩
def Own (B : Nat) (w : World) (v : Value) (xs : List Int) : Prop := w.ownsRow B 3 1 v xs.length (xs.map (Value.int .i64))
section
variable {w w' : World} {B : Nat} {v : Value} {xs ys : List Int} {A : Option Addr}
theorem Own.ints (h : Own B w v xs) : Ints w v xs := Ints.of_own h
theorem Own.form (h : Own B w v xs) : ∃ A c, v = .slice A xs.length c ∧ Rd w A xs := by
 obtain ⟨A, c, e, _, _, hr⟩ := h.ints
 exact ⟨A, c, e, hr⟩
theorem Own.nil_ (w : World) (B : Nat) : Own B w (.slice none 0 0) [] := World.ownsRow_nil w B 3 1
theorem Own.from_ (h : Own B w v xs) {k : Nat} (hk : v.ownBlock = some k) : B ≤ k := by
 rcases h.2 with ⟨rfl, _⟩ | ⟨g, cap, cur, rfl, hb, _⟩
 ·cases hk
 ·have : g = k := by simpa [Value.ownBlock] using hk
  omega
theorem Own.drew (h : Own B w v xs) : Own B w.drew v xs := h
theorem Own.drewN (h : Own B w v xs) (n : Nat) : Own B (w.drewN n) v xs := h
theorem Own.of_block (h : Own B w v xs) (hk : ∀ g, v.ownBlock = some g → w'.heap[g]? = w.heap[g]?) : Own B w' v xs := by
 refine ⟨h.1, ?_⟩
 rcases h.2 with h0 | ⟨g, cap, cur, rfl, hb, hg, r⟩
 ·exact .inl h0
 ·exact .inr ⟨g, cap, cur, rfl, hb, (hk g rfl).trans hg, r⟩
theorem Own.kp (h : Own B w v xs) (k : Kp w w') : Own B w' v xs := h.of_block fun g hg => k.block g (by
 rcases h.2 with ⟨rfl, _⟩ | ⟨g', cap, cur, rfl, _, hh, _⟩
 ·cases hg
 ·injection hg with hg
  subst hg
  rcases Nat.lt_or_ge g' w.heap.size with hlt | hge
  ·exact hlt
  ·rw [Array.getElem?_eq_none hge] at hh; cases hh)
theorem Rd.lit (w : World) (xs : List Int) (h : xs.length ≤ 1000000) (t : TypeId) : Rd (w.alloc (.cells (xs.map (Value.int .i64)).toArray t)) (some ⟨w.heap.size, 0, none⟩) xs :=
 ⟨by omega, fun _ => ⟨_, rfl, by simp, fun j u hu => by
  rw [Go.WideShapes.add_plain, Nat.zero_add, World.cell?_alloc_at _ t _ j rfl]
  simp [hu]⟩⟩
theorem Own.lit (w : World) (xs : List Int) (h : xs.length ≤ 1000000) (hB : B ≤ w.heap.size) :
  Own B (w.alloc (.cells (xs.map (Value.int .i64)).toArray 3)) (.slice (some ⟨w.heap.size, 0, none⟩) xs.length xs.length) xs := by
 have := World.ownsRow_lit (base := B) (e := 3) (size := 1) w (xs.map (Value.int .i64)).toArray xs.length hB (by unfold maxLen; omega) (by simp)
 simpa [Own] using this
theorem Own.zero (w : World) (hB : B ≤ w.heap.size) : Own B (w.alloc (.cells #[] 3)) (.slice (some ⟨w.heap.size, 0, none⟩) 0 0) [] := Own.lit w [] (by simp) hB
theorem Own.two (w : World) (x y : Int) (hB : B ≤ w.heap.size) : Own B (w.alloc (.cells #[.int .i64 x, .int .i64 y] 3)) (.slice (some ⟨w.heap.size, 0, none⟩) 2 2) [x, y] := Own.lit w [x, y] (by simp) hB
theorem Rd.one (w : World) (x : Int) (t : TypeId) : Rd (w.alloc (.cells #[.int .i64 x] t)) (some ⟨w.heap.size, 0, none⟩) [x] := Rd.lit w [x] (by simp) t
theorem Rd.two (w : World) (x y : Int) (t : TypeId) : Rd (w.alloc (.cells #[.int .i64 x, .int .i64 y] t)) (some ⟨w.heap.size, 0, none⟩) [x, y] := Rd.lit w [x, y] (by simp) t
theorem Kp.alloc_ (w : World) (o : Obj) : Kp w (w.alloc o) := (Below.refl _ _).alloc (Nat.le_refl _) o
theorem Rd.alloc_ (h : Rd w A xs) (o : Obj) : Rd (w.alloc o) A xs := h.kp (Kp.alloc_ w o)
theorem app_nil (h : Own B w v xs) (c : Nat) (ty : TypeId) : (Builtin.append_ #[22, 22] ty #[v, .slice none 0 c]).run Tryz.prog w = .ok v w := by
 obtain ⟨i, hi, _, _, _⟩ := info_parts int_info
 have ht := run_underlying (P := Tryz.prog) (w := w) Tryz.underlying22
 rcases h.2 with ⟨rfl, _⟩ | ⟨g, cap, cur, rfl, _, _, hn, _⟩
 ·simp [Builtin.append_, ht, sizeOf, typeInfo, hi, Builtin.lenOf, Builtin.firstCells]
 ·simp [Builtin.append_, ht, sizeOf, typeInfo, hi, Builtin.lenOf, Builtin.firstCells, hn, storeCells]
theorem run_app (ho : Own B w v xs) (c : Nat) (hr : Rd w A ys) (hs : xs.length + ys.length ≤ 1000000) (hB : B ≤ w.heap.size) (ty : TypeId) :
  ∃ zs A' c' w', zs = xs ++ ys ∧ (Builtin.append_ #[22, 22] ty #[v, .slice A ys.length c]).run Tryz.prog w = .ok (.slice A' zs.length c') w' ∧ Own B w' (.slice A' zs.length c') zs ∧ Below B w w' := by
 by_cases hy : ys = []
 ·subst hy
  obtain ⟨A', c', rfl, _⟩ := ho.form
  cases A with
  | none => exact ⟨xs, A', c', w, by simp, app_nil ho c ty, ho, Below.refl _ _⟩
  | some ad =>
   obtain ⟨i, hi, hz, h1, h2⟩ := info_parts int_info
   obtain ⟨v', w', hrun, hown, hg, _, _⟩ := run_append_own_at (P := Tryz.prog) w B 22 ty 3 i _ 1 8 Tryz.underlying22 hi hz h1 h2 rfl (by omega) _ _ _ ho ad 0 c [] rfl (by simp) (by simp) (by unfold maxLen; omega) (by omega) hB
   have hown' : Own B w' v' xs := by simpa [Own] using hown
   obtain ⟨A2, c2, rfl, _⟩ := hown'.form
   refine ⟨xs, A2, c2, w', by simp, hrun, hown', (Below.refl _ _).grown hg hB fun k hk => ho.from_ hk⟩
 ·obtain ⟨ad, rfl, hlt, hc⟩ := hr.2 (List.length_pos_iff.2 hy)
  obtain ⟨i, hi, hz, h1, h2⟩ := info_parts int_info
  obtain ⟨v', w', hrun, hown, hg, _, _⟩ := run_append_own_at (P := Tryz.prog) w B 22 ty 3 i _ 1 8 Tryz.underlying22 hi hz h1 h2 rfl (by omega) _ _ _ ho ad ys.length c (ys.map (Value.int .i64)) (by simp)
   (fun j u hu => by
    rw [List.getElem?_map, Option.map_eq_some_iff] at hu
    obtain ⟨x, hx, rfl⟩ := hu
    exact hc j x hx) (ints_oneCell _ _) (by unfold maxLen; omega) (by omega) hB
  have hown' : Own B w' v' (xs ++ ys) := by simpa [Own] using hown
  obtain ⟨A2, c2, rfl, _⟩ := hown'.form
  refine ⟨xs ++ ys, A2, c2, w', rfl, hrun, hown', (Below.refl _ _).grown hg hB fun k hk => ho.from_ hk⟩
theorem wpList_app {ops : Array Oper} {rest : List Oper} {o : Oper} {a : Act} {Q : Exit → Act → World → Prop} (hgd : Region.wanted o (yielded ops a.tmps) = true) (s x : Operand)
  (hop : o.op = .call { callee := .builtin .append, args := #[s, x], argTypes := #[22, 22] })
  (v : Value) (xs : List Int) (hs : a.eval s = v) (ho : Own B w v xs) (A : Option Addr) (c : Nat) (ys : List Int) (n : Nat) (hx : a.eval x = .slice A n c) (hn : n = ys.length) (hr : Rd w A ys)
  (hl : xs.length + ys.length ≤ 1000000) (hB : B ≤ w.heap.size)
  (h : ∀ zs A' c' w', Hid (zs = xs ++ ys) → Own B w' (.slice A' zs.length c') zs → Below B w w' → wpList Tryz.prog ops Q rest (a.put o.dst (.slice A' zs.length c')) w') : wpList Tryz.prog ops Q (o :: rest) a w := by
 refine BigFrame.wpList_want hgd fun K hK => ?_
 subst hn
 obtain ⟨zs, A', c', w', e, hrun, h1, h2⟩ := run_app ho c hr hl hB o.type
 unfold Oper.wp execOp
 simp only [hop, resolve, invoke, builtin, Sem.run_bind, Sem.run_pure, Result.andThen_ok, List.map_toArray, List.map_cons, List.map_nil, hs, hx, hrun]
 exact hK _ _ (h zs A' c' w' e h1 h2)
theorem run_mk (w : World) (n : Nat) (hn : n ≤ 1000000) :
  (Instr.makeSlice 22 (.int .i64 (n : Int)) (.int .i64 (n : Int))).run Tryz.prog w = .ok (.slice (some ⟨w.heap.size, 0, none⟩) n n) (w.alloc (.cells (List.replicate n (Value.int .i64 0)).toArray 3)) := by
 obtain ⟨i, hi, hz, h1, h2⟩ := info_parts int_info
 have hr := run_make (P := Tryz.prog) w 22 3 i _ Tryz.underlying22 hi hz .i64 .i64 n n (by omega) (Int.le_refl _) (by rw [h2]; omega) (by omega)
 simp only [Int.toNat_natCast, h1, Nat.mul_one] at hr
 rw [hr]
 congr 3
 exact Array.toList_inj.1 (by rw [show (Value.int IntKind.i64 0).cells = #[Value.int .i64 0] from rfl, toList_madeCells_one])
theorem run_mk0 (w : World) (n : Nat) (hn : n ≤ 1000000) :
  (Instr.makeSlice 22 (.int .i64 0) (.int .i64 (n : Int))).run Tryz.prog w = .ok (.slice (some ⟨w.heap.size, 0, none⟩) 0 n) (w.alloc (.cells (List.replicate n (Value.int .i64 0)).toArray 3)) := by
 obtain ⟨i, hi, hz, h1, h2⟩ := info_parts int_info
 have hr := run_make (P := Tryz.prog) w 22 3 i _ Tryz.underlying22 hi hz .i64 .i64 0 n (by omega) (by omega) (by rw [h2]; omega) (by omega)
 simp only [Int.toNat_natCast, Int.toNat_zero, h1, Nat.mul_one] at hr
 rw [hr]
 congr 3
 exact Array.toList_inj.1 (by rw [show (Value.int IntKind.i64 0).cells = #[Value.int .i64 0] from rfl, toList_madeCells_one])
theorem mk_ (n : Nat) (hn : n ≤ 1000000) : ∃ cs : Array Value, (∀ W : World, (Instr.makeSlice 22 (.int .i64 (n : Int)) (.int .i64 (n : Int))).run Tryz.prog W = .ok (.slice (some ⟨W.heap.size, 0, none⟩) n n) (W.alloc (.cells cs 3))) ∧
  ∀ (W : World) (B : Nat), B ≤ W.heap.size → Own B (W.alloc (.cells cs 3)) (.slice (some ⟨W.heap.size, 0, none⟩) n n) (List.replicate n 0) :=
 ⟨_, fun W => run_mk W n hn, fun W B hB => by
  have := Own.lit (B := B) W (List.replicate n 0) (by simpa using hn) hB
  simpa using this⟩
theorem mk0_ (n : Nat) (hn : n ≤ 1000000) : ∃ cs : Array Value, (∀ W : World, (Instr.makeSlice 22 (.int .i64 0) (.int .i64 (n : Int))).run Tryz.prog W = .ok (.slice (some ⟨W.heap.size, 0, none⟩) 0 n) (W.alloc (.cells cs 3))) ∧
  ∀ (W : World) (B : Nat), B ≤ W.heap.size → Own B (W.alloc (.cells cs 3)) (.slice (some ⟨W.heap.size, 0, none⟩) 0 n) [] :=
 ⟨_, fun W => run_mk0 W n hn, fun W B hB => by
  have := World.ownsRow_made (base := B) (e := 3) (size := 1) W (List.replicate n (Value.int .i64 0)).toArray n hB (by unfold maxLen; omega) (by simp)
  simpa [Own] using this⟩
theorem Own.set_ {g cap n : Nat} {xs : List Int} (h : Own B w (.slice (some ⟨g, 0, none⟩) n cap) xs) (j : Nat) (u : Int) : Own B (w.setCell ⟨g, j, none⟩ (.int .i64 u)) (.slice (some ⟨g, 0, none⟩) n cap) (xs.set j u) := by
 have hn : n = xs.length := by
  obtain ⟨A, c, e, _⟩ := h.form
  injection e
 subst hn
 have := (World.ownsRow.stored h j (.int .i64 u)).1
 simpa [Own, List.map_set] using this
theorem Own.cell_ {g cap n : Nat} {xs : List Int} (h : Own B w (.slice (some ⟨g, 0, none⟩) n cap) xs) {j : Nat} {u : Int} (hu : xs[j]? = some u) : w.cell? ⟨g, j, none⟩ = some (.int .i64 u) := by
 have hn : n = xs.length := by
  obtain ⟨A, c, e, _⟩ := h.form
  injection e
 subst hn
 rw [World.ownsRow.cellAt h j (by have := (List.getElem?_eq_some_iff.1 hu).1; omega)]
 simp [hu]
theorem Own.froz_ {g cap n : Nat} {xs : List Int} (h : Own B w (.slice (some ⟨g, 0, none⟩) n cap) xs) (j : Nat) : w.frozen? ⟨g, j, none⟩ = false := by
 have hn : n = xs.length := by
  obtain ⟨A, c, e, _⟩ := h.form
  injection e
 subst hn
 exact World.ownsRow.frozenAt h j
end
structure Sl (w : World) (A : Option Addr) (c : Nat) (xs : List Int) : Prop where
 rd : Rd w A xs
 le : xs.length ≤ c
 cap : c ≤ 9223372036854775807
theorem Sl.kp {w w' : World} {A : Option Addr} {c : Nat} {xs : List Int} (h : Sl w A c xs) (k : Kp w w') : Sl w' A c xs := ⟨h.rd.kp k, h.le, h.cap⟩
theorem Sl.nil_ (w : World) : Sl w none 0 [] := ⟨Rd.nil _ _, by simp, by omega⟩
theorem Own.sl {B : Nat} {w : World} {A : Option Addr} {n c : Nat} {xs : List Int} (h : Own B w (.slice A n c) xs) : Sl w A c xs := by
 obtain ⟨A', c', e, h1, h2, h3⟩ := h.ints
 injection e with e1 e2 e3
 subst e1 e3
 exact ⟨h3, h1, by unfold maxLen at h2; omega⟩
def RetL (xs : List Int) (err : Int) (w : World) (e : Ending) (w' : World) : Prop := ∃ A c, e = .returned (.tuple #[.slice A xs.length c, .int .i64 err]) ∧ Sl w' A c xs ∧ Kp w w'
abbrev Ret (r : List Int × Int) (w : World) (e : Ending) (w' : World) : Prop := RetL r.1 r.2 w e w'
def RetK (n err : Int) (w : World) (e : Ending) (w' : World) : Prop := e = .returned (.tuple #[.int .i64 n, .int .i64 err]) ∧ Kp w w'
theorem Kp.drewN_ (w : World) (n : Nat) : Kp w (w.drewN n) := ⟨rfl, rfl, rfl, Nat.le_refl _, fun _ _ => rfl⟩
def RetN (r : Int × Int) (w : World) (e : Ending) (w' : World) : Prop := e = .returned (.tuple #[.int .i64 r.1, .int .i64 r.2]) ∧ ∃ n, w' = w.drewN n
namespace ShD
def Rel (s t : List Int) (k : Nat) (a : Int) : Prop := k ≤ s.length ∧ inIdx (s.drop k) (t.drop k) = inIdx s t ∧ plc s t = a * prodS (s.drop k) + plc (s.drop k) (t.drop k) ∧ 0 ≤ a ∧ a < prodS (s.take k)
theorem start (s t : List Int) : Rel s t 0 0 := ⟨Nat.zero_le _, rfl, by simp, Int.le_refl _, by simp [prodS]⟩
theorem bnd {s t : List Int} {k : Nat} {a : Int} (h : Rel s t k a) (hs : okS s = true) : 0 ≤ a ∧ a ≤ 4096 := by
 obtain ⟨_, _, _, h0, h1⟩ := h
 have := prod_le3 (all_take (ok_iff.1 hs).2.1 k) (by have := List.length_take_le k s; have := (ok_iff.1 hs).1; omega)
 omega
theorem step {s t : List Int} {k : Nat} {a x y : Int} (h : Rel s t k a) (hs : okS s = true) (hx : s[k]? = some x) (hy : t[k]? = some y) (hy0 : 0 ≤ y) (hy1 : y < x) :
  Rel s t (k + 1) (a * x + y) ∧ 0 ≤ a * x ∧ a * x ≤ 4096 ∧ 0 ≤ a * x + y ∧ a * x + y ≤ 4096 := by
 obtain ⟨_, h2, h3, h0, h1⟩ := h
 obtain ⟨r1, r2, r3, r4⟩ := plc_round (ok_iff.1 hs).2.1 hx hy h2 h3 h0 h1 hy0 hy1
 have hk := (List.getElem?_eq_some_iff.1 hx).1
 have := prod_le3 (all_take (ok_iff.1 hs).2.1 (k + 1)) (by have := List.length_take_le (k + 1) s; have := (ok_iff.1 hs).1; omega)
 exact ⟨⟨hk, r1, r2, by omega, r4⟩, r3, by omega, by omega, by omega⟩
theorem bad {s t : List Int} {k : Nat} {a x y : Int} (h : Rel s t k a) (hx : s[k]? = some x) (hy : t[k]? = some y) (hb : y < 0 ∨ x ≤ y) : placeV s t = (0, 20) :=
 place_no (.inr (in_out hx hy h.2.1 hb))
theorem end_ {s t : List Int} {a : Int} {k : Nat} (h : Rel s t k a) (hk : k = s.length) (hs : okS s = true) (hl : t.length = s.length) : placeV s t = (a, 0) := by
 obtain ⟨_, h2, h3, _, _⟩ := h
 subst hk
 rw [List.drop_length, ← hl, List.drop_length] at h2
 rw [List.drop_length, ← hl, List.drop_length] at h3
 rw [place_yes hs h2.symm, h3]
 simp [prodS, plc]
end ShD
theorem place_any (A B : Option Addr) (c d : Nat) (s t : List Int) (w : World) (h : Rd w A s) (g : Rd w B t) :
  Calls Tryz.prog 167 #[.slice A s.length c, .slice B t.length d] w (RetN (placeV s t) w) := by
 have hl := h.len
 have gl := g.len
 have HC := lH (check_any A c s w h)
 cases ho : okS s with
 | false =>
  rw [ho] at HC
  have HF := lH (place_no (s := s) (t := t) (.inl ho))
  clear ho
  go_enter Tryz.func167, Tryz.ntmps167
  go_wp2_with fail
  refine (Calls.mono (Hid.out HC)) ?_; rintro e w' ⟨rfl, rfl⟩
  go_wp2
  go_ret2
  exact ⟨ret_ints HF.out, 0, rfl⟩
 | true =>
  rw [ho] at HC
  have HO := lH ho
  clear ho
  by_cases hn : t.length = s.length
  ·have e1 : ((t.length : Int) != (s.length : Int)) = false := by simp [hn]
   have HN := lH hn
   clear hn
   go_enter Tryz.func167, Tryz.ntmps167
   go_wp2_with fail
   refine (Calls.mono (Hid.out HC)) ?_; rintro e w' ⟨rfl, rfl⟩
   go_wp2
   go_loopw [6, 20] (fun p i wr => ∃ (k n : Nat) (a : Int), i = .int .i64 k ∧ p = .int .i64 a ∧ wr = w.drewN n ∧ Hid (ShD.Rel s t k a)) (fun _ i _ => s.length - (intOf i).toNat)
   case atStart => exact ⟨0, 0, 0, rfl, rfl, rfl, ShD.start _ _⟩
   case round =>
    obtain ⟨k, n, a, rfl, rfl, rfl, hr⟩ := hrel
    by_cases hk : k < s.length
    ·obtain ⟨ad, x, rfl, _, hx, hc⟩ := h.at_ hk
     obtain ⟨bd, y, rfl, _, hy, hcy⟩ := g.at_ (k := k) (by have := HN.out; omega)
     have HX := lH hx
     have HY := lH hy
     have hkt : k < t.length := by have := HN.out; omega
     have i1 : (0 : Int) ≤ (k : Int) := by omega
     have i2 : (k : Int) < (s.length : Int) := by omega
     have i3 : (k : Int) < (t.length : Int) := by omega
     clear hx hy e1
     by_cases hy0 : y < 0
     ·have HF := lH (ShD.bad hr.out HX.out HY.out (.inl hy0))
      have d1 : decide (y < 0) = true := by simpa using hy0
      go_wp2
      go_quiet (fail)
      go_wp2
      go_ret2
      exact ⟨ret_ints HF.out, _, by first | rfl | exact World.drewN_drewN _ _ _⟩
     ·have d1 : decide (y < 0) = false := by simpa using hy0
      by_cases hy1 : x ≤ y
      ·have HF := lH (ShD.bad hr.out HX.out HY.out (.inr hy1))
       have d2 : decide (x ≤ y) = true := by simpa using hy1
       go_wp2
       go_quiet (fail)
       go_wp2
       go_ret2
       exact ⟨ret_ints HF.out, _, by first | rfl | exact World.drewN_drewN _ _ _⟩
      ·have d2 : decide (x ≤ y) = false := by simpa using hy1
       have hb := ShD.bnd hr.out HO.out
       obtain ⟨hs, b1, b2, b3, b4⟩ := ShD.step hr.out HO.out HX.out HY.out (by omega) (by omega)
       have HS := lH hs; clear hs
       have i4 : IntKind.i64.wrap (a * x) = a * x := IntWalk.i64_in _ (by omega)
       have i5 : IntKind.i64.wrap (a * x + y) = a * x + y := IntWalk.i64_in _ (by omega)
       go_wp2
       go_quiet (fail)
       go_wp2
       go_quiet (fail)
       go_wp2
       go_roundw
       case rel => exact ⟨k + 1, _, a * x + y, by go_num, rfl, by first | rfl | exact World.drewN_drewN _ _ _, HS⟩
       case measure => simp [intOf]; omega
    ·have hk' : k = s.length := by have := hr.out.1; omega
     have HF := lH (ShD.end_ hr.out hk' HO.out HN.out)
     clear hk' e1
     go_wp2
     go_ret2
     exact ⟨ret_ints HF.out, _, rfl⟩
  ·have e1 : ((t.length : Int) != (s.length : Int)) = true := by simp; omega
   have HF := lH (place_no (s := s) (t := t) (.inr (in_len_no hn)))
   clear hn
   go_enter Tryz.func167, Tryz.ntmps167
   go_wp2_with fail
   refine (Calls.mono (Hid.out HC)) ?_; rintro e w' ⟨rfl, rfl⟩
   go_wp2
   go_ret2
   exact ⟨ret_ints HF.out, 0, rfl⟩
open Go.RowKit Go.Proofs.ShM
namespace ShE
def Rel (s : List Int) (p0 : Int) (k : Nat) (p q : Int) (zs : List Int) : Prop :=
 k ≤ s.length ∧ zs.length = s.length ∧ zs.take k ++ digs (s.drop k) p = digs s p0 ∧ 0 ≤ p ∧ p < q ∧ q = prodS (s.drop k)
theorem start {s : List Int} {p : Int} (h0 : 0 ≤ p) (h1 : p < sizeV s) : Rel s p 0 p (sizeV s) (List.replicate s.length 0) :=
 ⟨Nat.zero_le _, by simp, by simp, h0, h1, size_ok (ok_of_lt h0 h1)⟩
theorem bnd {s : List Int} {p0 p q : Int} {k : Nat} {zs : List Int} (h : Rel s p0 k p q zs) (hs : okS s = true) : 0 ≤ p ∧ p < q ∧ 1 ≤ q ∧ q ≤ 4096 := by
 obtain ⟨_, _, _, h0, h1, rfl⟩ := h
 have := prod_le3 (all_drop (ok_iff.1 hs).2.1 k) (by have := (ok_iff.1 hs).1; simp; omega)
 exact ⟨h0, h1, by omega, this⟩
theorem step {s : List Int} {p0 p q x : Int} {k : Nat} {zs : List Int} (h : Rel s p0 k p q zs) (hs : okS s = true) (hx : s[k]? = some x) :
  Rel s p0 (k + 1) (p % (q / x)) (q / x) (zs.set k (p / (q / x))) ∧ 1 ≤ x ∧ 1 ≤ q / x ∧ q / x ≤ 4096 := by
 obtain ⟨_, h2, h3, h0, h1, rfl⟩ := h
 obtain ⟨d1, d2, d3, d4, d5, _, _⟩ := digs_drop (ok_iff.1 hs).2.1 hx p h0 h1
 have hk := (List.getElem?_eq_some_iff.1 hx).1
 have := prod_le3 (all_drop (ok_iff.1 hs).2.1 (k + 1)) (by have := (ok_iff.1 hs).1; simp; omega)
 rw [d2]
 refine ⟨⟨hk, by simpa using h2, ?_, d4, d5, rfl⟩, (side_of (ok_iff.1 hs).2.1 hx).1, d3, this⟩
 rw [← h3, d1, take_of (x := p / prodS (s.drop (k + 1))) (by rw [List.getElem?_set_self (by omega)]), List.take_set_of_le (by omega)]
 simp
theorem end_ {s : List Int} {p0 p q : Int} {k : Nat} {zs : List Int} (h : Rel s p0 k p q zs) (hk : k = s.length) (h0 : 0 ≤ p0) (h1 : p0 < sizeV s) : indexV s p0 = (zs, 0) ∧ s.length = zs.length := by
 obtain ⟨_, h2, h3, _⟩ := h
 subst hk
 rw [List.drop_length, ← h2, List.take_length] at h3
 simp only [digs, List.append_nil] at h3
 rw [index_yes h0 h1, ← h3]
 exact ⟨rfl, h2.symm⟩
end ShE
def RetP (r : List Int × Int) (w : World) (e : Ending) (w' : World) : Prop := ∃ A c, e = .returned (.tuple #[.slice A r.1.length c, .int .i64 r.2]) ∧ Own w.heap.size w' (.slice A r.1.length c) r.1 ∧ Kp w w'
theorem RetP.err_ {r : List Int × Int} {err : Int} {w w' : World} (h : r = ([], err)) (k : Kp w w') : RetP r w (.returned (.tuple #[.slice none 0 0, .int .i64 err])) w' := by
 subst h; exact ⟨none, 0, rfl, Own.nil_ _ _, k⟩
theorem RetP.mk_ {r : List Int × Int} {n c : Nat} {err : Int} {xs : List Int} {A : Option Addr} {w w' : World} (h : r = (xs, err)) (hn : n = xs.length) (o : Own w.heap.size w' (.slice A n c) xs) (k : Kp w w') : RetP r w (.returned (.tuple #[.slice A n c, .int .i64 err])) w' := by
 subst h hn; exact ⟨A, c, rfl, o, k⟩
theorem index_own (A : Option Addr) (c : Nat) (s : List Int) (p' : Int) (w : World) (h : Rd w A s) :
  Calls Tryz.prog 161 #[.slice A s.length c, .int .i64 p'] w (RetP (indexV s p') w) := by
 have hl := h.len
 have HC := lH (size_any A c s w h)
 by_cases hp : p' < 0 ∨ sizeV s ≤ p'
 ·have HF := lH (index_no hp)
  rcases hp with hp | hp
  all_goals
   by_cases hp' : p' < 0
   all_goals
    go_enter Tryz.func161, Tryz.ntmps161
    go_wp2_with fail
    refine (Calls.mono (Hid.out HC)) ?_; rintro e w' ⟨rfl, rfl⟩
    go_wp2
    first | exact absurd hp hp' | (go_ret2; exact RetP.err_ HF.out (Kp.refl _))
 ·have h0 : 0 ≤ p' := by omega
  have h1 : p' < sizeV s := by omega
  have HO := lH (ok_of_lt h0 h1)
  have h3 : s.length ≤ 3 := (ok_iff.1 HO.out).1
  obtain ⟨cs, hmk, hown⟩ := mk_ s.length (by omega)
  have H0 := lH (hown w w.heap.size (Nat.le_refl _))
  have HS := lH (ShE.start h0 h1)
  have HP := lH (And.intro h0 h1)
  clear hp hown
  go_enter Tryz.func161, Tryz.ntmps161
  go_wp2_with fail
  refine (Calls.mono (Hid.out HC)) ?_; rintro e w' ⟨rfl, rfl⟩
  go_wp2
  go_loopw [1, 6, 8, 23] (fun p q _ i wr => ∃ (k : Nat) (pv qv : Int) (zs : List Int), i = .int .i64 k ∧ p = .int .i64 pv ∧ q = .int .i64 qv ∧ Hid (ShE.Rel s p' k pv qv zs) ∧
   Own w.heap.size wr (.slice (some ⟨w.heap.size, 0, none⟩) s.length s.length) zs ∧ Below w.heap.size w wr) (fun _ _ _ i _ => s.length - (intOf i).toNat)
  case atStart => exact ⟨0, _, _, _, rfl, rfl, rfl, HS.out, H0.out, (Below.refl _ _).alloc (Nat.le_refl _) _⟩
  case round =>
   obtain ⟨k, pv, qv, zs, rfl, rfl, rfl, hr, hown, hb⟩ := hrel
   by_cases hk : k < s.length
   ·obtain ⟨ad, x, rfl, hlt, hx, hc⟩ := h.at_ hk
    have hc' : wr.cell? (ad.add k) = some (.int .i64 x) := (hb.cell (by rw [block_of_add]; exact hlt)).trans hc
    obtain ⟨b1, b2, b3, b4⟩ := ShE.bnd hr.out HO.out
    obtain ⟨r1, r2, r3, r4⟩ := ShE.step hr.out HO.out hx
    have HR := lH r1
    have hz : k < zs.length := by have := hr.out.2.1; omega
    have hcz := hown.cell_ (j := k) (List.getElem?_eq_getElem hz)
    have hfz := hown.froz_ k
    have HW := lH hown
    have HB := lH hb
    clear r1 hx hc hown hb hmk
    go_wp2
    go_roundw
    case rel => exact ⟨k + 1, _, _, _, by go_num, rfl, rfl, HR.out, HW.out.set_ _ _, HB.out.setCell (Nat.le_refl _) _⟩
    case measure => simp [intOf]; omega
   ·have hk' : k = s.length := by have := hr.out.1; omega
    have HF := lH (ShE.end_ hr.out hk' HP.out.1 HP.out.2)
    clear hk'
    go_wp2
    go_ret2
    exact RetP.mk_ HF.out.1 HF.out.2 hown hb
open Go.RowKit Go.Proofs.ShM
end Go.Proofs.YtjkdcegmdfmjpaaGreat
namespace Go.Proofs.ShM
def JRel (P Q : List Int) (k : Nat) (zs : List Int) : Prop := k ≤ P.length ∧ P.length = Q.length ∧ zs.length = k ∧ joinL P Q = (joinL (P.drop k) (Q.drop k)).map (zs ++ ·)
theorem j_start {P Q : List Int} (h : P.length = Q.length) : JRel P Q 0 [] := ⟨Nat.zero_le _, h, rfl, by simp⟩
theorem j_step {P Q : List Int} {k : Nat} {zs ys : List Int} {x y z : Int} (h : JRel P Q k zs) (hx : P[k]? = some x) (hy : Q[k]? = some y) (hz : jn x y = some z) (he : ys = zs ++ [z]) : JRel P Q (k + 1) ys := by
 obtain ⟨_, h2, h3, h4⟩ := h
 subst he
 refine ⟨(List.getElem?_eq_some_iff.1 hx).1, h2, by simp [h3], ?_⟩
 rw [h4, drop_of hx, drop_of hy]
 simp only [joinL, hz, Option.bind_some, Option.map_map]
 congr 1
 funext l
 simp
theorem j_stop {P Q : List Int} {k : Nat} {zs : List Int} {x y : Int} (h : JRel P Q k zs) (hx : P[k]? = some x) (hy : Q[k]? = some y) (hz : jn x y = none) : joinL P Q = none := by
 obtain ⟨_, h2, h3, h4⟩ := h
 rw [h4, drop_of hx, drop_of hy]
 simp [joinL, hz]
theorem j_end {P Q : List Int} {k : Nat} {zs : List Int} (h : JRel P Q k zs) (hk : k = P.length) : joinL P Q = some zs := by
 obtain ⟨_, h2, h3, h4⟩ := h
 subst hk
 rw [h4, List.drop_length, h2, List.drop_length]
 simp [joinL]
theorem jn_same {x y : Int} (h : x = y) : jn x y = some x := by unfold jn; rw [if_pos (.inl h)]
theorem jn_right {x y : Int} (h : y = 1) : jn x y = some x := by unfold jn; rw [if_pos (.inr h)]
theorem jn_left {x y : Int} (h : x = 1) : jn x y = some y := by
 unfold jn
 by_cases c : x = y ∨ y = 1
 ·rw [if_pos c]; rcases c with c | c <;> simp [c] at h ⊢ <;> omega
 ·rw [if_neg c, if_pos h]
theorem jn_none {x y : Int} (h : x ≠ y) (h1 : y ≠ 1) (h2 : x ≠ 1) : jn x y = none := by unfold jn; rw [if_neg (by simp [h, h1]), if_neg h2]
theorem join_yes {a b l : List Int} (ha : okS a = true) (hb : okS b = true) (hj : joinO a b = some l) (hl : okS l = true) : joinV a b = (l, 0) := by
 unfold joinV; rw [if_pos (by simp [ha, hb]), hj]; simp [hl]
theorem join_big {a b l : List Int} (ha : okS a = true) (hb : okS b = true) (hj : joinO a b = some l) (hl : okS l = false) : joinV a b = ([], 20) := by
 unfold joinV; rw [if_pos (by simp [ha, hb]), hj]; simp [hl]
theorem join_none {a b : List Int} (ha : okS a = true) (hb : okS b = true) (hj : joinO a b = none) : joinV a b = ([], 20) := by
 unfold joinV; rw [if_pos (by simp [ha, hb]), hj]
theorem join_no {a b : List Int} (h : okS a = false ∨ okS b = false) : joinV a b = ([], 20) := by
 unfold joinV; rw [if_neg]; rcases h with h | h <;> simp [h]
theorem padl {n : Nat} {s : List Int} (h : s.length ≤ n) : (pad n s).length = n := by unfold pad; simp; omega
def joinR : List Int → List Int → Option (List Int)
 | [], t => some t
 | x :: s, [] => some (x :: s)
 | x :: s, y :: t => (jn x y).bind fun h => (joinR s t).map (h :: ·)
theorem joinR_nil (s : List Int) : joinR s [] = some s := by cases s <;> rfl
theorem jn_comm (x y : Int) : jn x y = jn y x := by
 by_cases h1 : x = y
 ·subst h1; rfl
 ·by_cases h2 : y = 1
  ·rw [jn_right h2, jn_left h2]
  ·by_cases h3 : x = 1
   ·rw [jn_left h3, jn_right h3]
   ·rw [jn_none h1 h2 h3, jn_none (Ne.symm h1) h3 h2]
theorem joinR_comm (s : List Int) : ∀ t, joinR s t = joinR t s := by
 induction s with
 | nil => intro t; rw [joinR_nil]; rfl
 | cons x s ih => intro t; cases t with
  | nil => rfl
  | cons y t => simp only [joinR, jn_comm x y, ih t]
theorem jn_assoc (x y z : Int) : (jn x y).bind (jn · z) = (jn y z).bind (jn x ·) := by
 by_cases hx : x = 1
 ·rw [jn_left hx]
  simp only [Option.bind_some]
  cases h : jn y z with
  | none => rfl
  | some v => simp [jn_left hx]
 ·by_cases hy : y = 1
  ·rw [jn_right hy, jn_left hy]; rfl
  ·by_cases hz : z = 1
   ·rw [jn_right hz]
    cases h : jn x y with
    | none => simp [h]
    | some v => simp [h, jn_right hz]
   ·by_cases h1 : x = y
    ·rw [jn_same h1]
     by_cases h2 : y = z
     ·rw [jn_same h2]; simp [jn_same h1, jn_same (h1.trans h2)]
     ·rw [jn_none h2 hz hy]; simp only [Option.bind_some, Option.bind_none]; exact jn_none (by omega) hz hx
    ·rw [jn_none h1 hy hx]
     by_cases h2 : y = z
     ·rw [jn_same h2]; simp only [Option.bind_some, Option.bind_none]; rw [jn_none h1 hy hx]
     ·rw [jn_none h2 hz hy]; rfl
theorem joinR_assoc (s : List Int) : ∀ t u, (joinR s t).bind (joinR · u) = (joinR t u).bind (joinR s ·) := by
 induction s with
 | nil => intro t u; simp [joinR]
 | cons x s ih =>
  intro t u
  cases t with
  | nil => simp [joinR]
  | cons y t =>
   cases u with
   | nil => simp [joinR_nil]
   | cons z u =>
    have ha := jn_assoc x y z
    have hi := ih t u
    simp only [joinR]
    cases e1 : jn x y with
    | none =>
     rw [e1] at ha
     simp only [Option.bind_none] at ha ⊢
     cases e2 : jn y z with
     | none => rfl
     | some v =>
      rw [e2] at ha
      simp only [Option.bind_some] at ha ⊢
      cases joinR t u with
      | none => rfl
      | some l => simp [joinR, ← ha]
    | some v =>
     rw [e1] at ha
     simp only [Option.bind_some] at ha ⊢
     cases e3 : joinR s t with
     | none =>
      rw [e3] at hi
      simp only [Option.bind_none, Option.map_none] at hi ⊢
      cases e2 : jn y z with
      | none => rfl
      | some v2 =>
       simp only [Option.bind_some]
       cases e4 : joinR t u with
       | none => rfl
       | some l =>
        rw [e4] at hi
        simp only [Option.bind_some, Option.map_some] at hi ⊢
        simp [joinR, ← hi]
     | some l =>
      rw [e3] at hi
      simp only [Option.map_some, Option.bind_some] at hi ⊢
      simp only [joinR]
      cases e2 : jn y z with
      | none =>
       rw [e2] at ha
       simp only [Option.bind_none] at ha ⊢
       rw [ha]; rfl
      | some v2 =>
       rw [e2] at ha
       simp only [Option.bind_some] at ha ⊢
       rw [ha, hi]
       cases e4 : joinR t u with
       | none => cases jn x v2 <;> rfl
       | some l2 => simp [joinR]
theorem joinR_self (s : List Int) : joinR s s = some s := by
 induction s with
 | nil => rfl
 | cons x s ih => simp [joinR, jn_same, ih]
theorem joinR_len (s : List Int) : ∀ {t l}, joinR s t = some l → l.length = max s.length t.length := by
 induction s with
 | nil => intro t l h; simp [joinR] at h; subst h; simp
 | cons x s ih =>
  intro t l h
  cases t with
  | nil => simp [joinR] at h; subst h; simp
  | cons y t =>
   simp only [joinR] at h
   obtain ⟨v, _, h⟩ := Option.bind_eq_some_iff.1 h
   obtain ⟨m, hm, rfl⟩ := Option.map_eq_some_iff.1 h
   have := ih hm
   simp; omega
theorem jn_mem {x y z : Int} (h : jn x y = some z) : z = x ∨ z = y := by
 unfold jn at h
 split at h
 ·exact .inl (Option.some.inj h).symm
 ·split at h
  ·exact .inr (Option.some.inj h).symm
  ·cases h
theorem jn_le {x y z : Int} (h : jn x y = some z) (hx : 1 ≤ x) (hy : 1 ≤ y) : x ≤ z ∧ y ≤ z := by
 unfold jn at h
 split at h
 ·have := Option.some.inj h; omega
 ·split at h
  ·have := Option.some.inj h; omega
  ·cases h
theorem joinR_side (s : List Int) : ∀ {t l}, joinR s t = some l → s.all sideB = true → t.all sideB = true → l.all sideB = true ∧ prodS s ≤ prodS l ∧ prodS t ≤ prodS l := by
 induction s with
 | nil =>
  intro t l h hs ht
  simp [joinR] at h; subst h
  have := prod_pos ht
  exact ⟨ht, by simpa [prodS] using this, Int.le_refl _⟩
 | cons x s ih =>
  intro t l h hs ht
  cases t with
  | nil =>
   simp [joinR] at h; subst h
   have := prod_pos hs
   exact ⟨hs, Int.le_refl _, by simpa [prodS] using this⟩
  | cons y t =>
   simp only [joinR] at h
   obtain ⟨v, hv, h⟩ := Option.bind_eq_some_iff.1 h
   obtain ⟨m, hm, rfl⟩ := Option.map_eq_some_iff.1 h
   simp only [List.all_cons, Bool.and_eq_true] at hs ht ⊢
   obtain ⟨i1, i2, i3⟩ := ih hm hs.2 ht.2
   have hx := sideB_iff.1 hs.1
   have hy := sideB_iff.1 ht.1
   have hl := jn_le hv hx.1 hy.1
   have p1 := prod_pos hs.2
   have p2 := prod_pos ht.2
   refine ⟨⟨?_, i1⟩, ?_, ?_⟩
   ·rcases jn_mem hv with e | e <;> rw [e]
    ·exact hs.1
    ·exact ht.1
   ·exact Int.mul_le_mul hl.1 i2 (by omega) (by omega)
   ·exact Int.mul_le_mul hl.2 i3 (by omega) (by omega)
theorem joinR_snoc (s : List Int) : ∀ {t : List Int} (x y : Int), s.length = t.length → joinR (s ++ [x]) (t ++ [y]) = (joinR s t).bind fun l => (jn x y).map fun z => l ++ [z] := by
 induction s with
 | nil =>
  intro t x y h
  obtain rfl : t = [] := List.eq_nil_of_length_eq_zero h.symm
  simp [joinR]
  cases jn x y <;> rfl
 | cons u s ih =>
  intro t x y h
  cases t with
  | nil => simp at h
  | cons v t =>
   simp only [List.cons_append, joinR]
   rw [ih x y (by simpa using h)]
   cases jn u v with
   | none => rfl
   | some q =>
    cases joinR s t with
    | none => rfl
    | some l => simp only [Option.bind_some, Option.map_some]; cases jn x y <;> rfl
theorem joinL_R (P : List Int) : ∀ {Q : List Int}, P.length = Q.length → joinL P Q = (joinR P.reverse Q.reverse).map List.reverse := by
 induction P with
 | nil => intro Q h; obtain rfl : Q = [] := List.eq_nil_of_length_eq_zero h.symm; rfl
 | cons x P ih =>
  intro Q h
  cases Q with
  | nil => simp at h
  | cons y Q =>
   have hl : P.length = Q.length := by simpa using h
   simp only [List.reverse_cons, joinL]
   rw [joinR_snoc _ x y (by simpa using hl), ih hl]
   cases jn x y with
   | none => cases joinR P.reverse Q.reverse <;> rfl
   | some z => cases joinR P.reverse Q.reverse <;> simp
theorem joinR_ones (s : List Int) : ∀ {t : List Int} (k : Nat), s.length + k ≤ t.length → t.all sideB = true → joinR (s ++ List.replicate k 1) t = joinR s t := by
 induction s with
 | nil =>
  intro t k
  induction k generalizing t with
  | zero => intro _ _; rfl
  | succ k ih =>
   intro h ht
   cases t with
   | nil => simp at h
   | cons y t =>
    simp only [List.all_cons, Bool.and_eq_true] at ht
    have := ih (t := t) (by simp at h ⊢; omega) ht.2
    simp only [List.nil_append, List.replicate_succ, joinR] at this ⊢
    rw [this, jn_left rfl]; rfl
 | cons x s ih =>
  intro t k h ht
  cases t with
  | nil => simp at h
  | cons y t =>
   simp only [List.all_cons, Bool.and_eq_true] at ht
   simp only [List.cons_append, joinR]
   rw [ih k (by simp at h ⊢; omega) ht.2]
theorem joinO_R {a b : List Int} (ha : a.all sideB = true) (hb : b.all sideB = true) : joinO a b = (joinR a.reverse b.reverse).map List.reverse := by
 unfold joinO
 rw [joinL_R _ (by rw [padl (by omega), padl (by omega)])]
 congr 1
 unfold pad
 simp only [List.reverse_append, List.reverse_replicate]
 rcases Nat.le_total a.length b.length with h | h
 ·rw [Nat.max_eq_right h, Nat.sub_self, List.replicate_zero, List.append_nil, joinR_ones _ _ (by simp; omega) (by simpa using hb)]
 ·rw [Nat.max_eq_left h, Nat.sub_self, List.replicate_zero, List.append_nil, joinR_comm, joinR_ones _ _ (by simp; omega) (by simpa using ha), joinR_comm]
theorem ok_rev {s : List Int} : (s.reverse).all sideB = s.all sideB := by simp
theorem prod_rev (s : List Int) : prodS s.reverse = prodS s := by
 induction s with
 | nil => rfl
 | cons x s ih => rw [List.reverse_cons, prod_snoc, ih, prodS, Int.mul_comm]
def Jn (a b c : List Int) : Prop := okS a = true ∧ okS b = true ∧ okS c = true ∧ joinR a.reverse b.reverse = some c.reverse
theorem join_iff {a b c : List Int} : joinV a b = (c, 0) ↔ Jn a b c := by
 unfold Jn
 constructor
 ·intro h
  unfold joinV at h
  by_cases h1 : (okS a && okS b) = true
  ·rw [if_pos h1] at h
   simp only [Bool.and_eq_true] at h1
   have hr := joinO_R (ok_iff.1 h1.1).2.1 (ok_iff.1 h1.2).2.1
   cases hj : joinO a b with
   | none => rw [hj] at h; simp at h
   | some l =>
    rw [hj] at h hr
    simp only at h
    by_cases h2 : okS l = true
    ·rw [if_pos h2] at h
     obtain rfl : l = c := (Prod.mk.inj h).1
     refine ⟨h1.1, h1.2, h2, ?_⟩
     obtain ⟨m, hm, hl⟩ := Option.map_eq_some_iff.1 hr.symm
     rw [hm, ← hl]; simp
    ·rw [if_neg h2] at h; simp at h
  ·rw [if_neg h1] at h; simp at h
 ·rintro ⟨ha, hb, hc, h⟩
  have hr := joinO_R (ok_iff.1 ha).2.1 (ok_iff.1 hb).2.1
  rw [h] at hr
  exact join_yes ha hb (by rw [hr]; simp) hc
theorem join_cases (a b : List Int) : (∃ c, joinV a b = (c, 0) ∧ okS c = true) ∨ joinV a b = ([], 20) := by
 cases ha : okS a with
 | false => exact .inr (join_no (.inl ha))
 | true =>
  cases hb : okS b with
  | false => exact .inr (join_no (.inr hb))
  | true =>
   cases hj : joinO a b with
   | none => exact .inr (join_none ha hb hj)
   | some l =>
    cases hl : okS l with
    | false => exact .inr (join_big ha hb hj hl)
    | true => exact .inl ⟨l, join_yes ha hb hj hl, hl⟩
theorem Jn.comm {a b c : List Int} (h : Jn a b c) : Jn b a c := ⟨h.2.1, h.1, h.2.2.1, by rw [joinR_comm]; exact h.2.2.2⟩
theorem Jn.assoc {a b c ab bc r : List Int} (h : Jn a b ab) (g : Jn b c bc) (k : Jn ab c r) : Jn a bc r := by
 have := joinR_assoc a.reverse b.reverse c.reverse
 rw [h.2.2.2, g.2.2.2] at this
 exact ⟨h.1, g.2.2.1, k.2.2.1, this.symm.trans k.2.2.2⟩
theorem Jn.self {a : List Int} (h : okS a = true) : Jn a a a := ⟨h, h, h, joinR_self _⟩
theorem Jn.nil_ {a : List Int} (h : okS a = true) : Jn [] a a := ⟨by decide, h, h, rfl⟩
theorem fits_iff {a b : List Int} : fitsV a b = true ↔ Jn a b b := by unfold fitsV; rw [decide_eq_true_eq]; exact join_iff
theorem Jn.left {a b c : List Int} (h : Jn a b c) : Jn a c c := (Jn.self h.1).assoc h h
theorem Jn.right {a b c : List Int} (h : Jn a b c) : Jn b c c := h.comm.left
theorem Jn.sizes {a b : List Int} (h : Jn a b b) : prodS a ≤ prodS b ∧ a.length ≤ b.length := by
 have h1 := joinR_side _ h.2.2.2 (by rw [ok_rev]; exact (ok_iff.1 h.1).2.1) (by rw [ok_rev]; exact (ok_iff.1 h.2.1).2.1)
 have h2 := joinR_len _ h.2.2.2
 rw [prod_rev, prod_rev] at h1
 simp only [List.length_reverse] at h2
 exact ⟨h1.2.1, by omega⟩
end Go.Proofs.ShM
namespace Go.Proofs.YtjkdcegmdfmjpaaGreat
open Go.RowKit Go.Proofs.ShM
theorem Own.addrI {w : World} {A : Option Addr} {xs : List Int} {b n c : Nat} (h : Own b w (.slice A n c) xs) (hx : 0 < xs.length) : ∃ g, A = some ⟨g, 0, none⟩ ∧ b ≤ g ∧ g < w.heap.size := by
 rcases h.2 with ⟨e, h0⟩ | ⟨g, cap, cur, e, hb, hh, _⟩
 ·omega
 ·injection e with e1 _ _
  exact ⟨g, e1, hb, (Array.getElem?_eq_some_iff.1 hh).1⟩
end Go.Proofs.YtjkdcegmdfmjpaaGreat
namespace Go.Proofs.YtjkdcegmdfmjpaaGreat.Iz
open Go.RowKit Go.Proofs.ShM
def RetI (r : List Int × Int) (w : World) (e : Ending) (w' : World) : Prop := ∃ A c, e = .returned (.tuple #[.slice A r.1.length c, .int .i64 r.2]) ∧ Sl w' A c r.1 ∧ (∀ ad, A = some ad → 0 < r.1.length → w.heap.size ≤ ad.block) ∧ Kp w w'
theorem RetI.mk_ {r : List Int × Int} {zs : List Int} {err : Int} {w w' : World} {A : Option Addr} {n c : Nat} (hr : r = (zs, err)) (hn : n = zs.length) (hs : Own w.heap.size w' (.slice A n c) zs) (hk : Kp w w') :
  RetI r w (.returned (.tuple #[.slice A n c, .int .i64 err])) w' := by
 subst hr hn
 exact ⟨A, c, rfl, hs.sl, fun ad e hp => by
  obtain ⟨g, e2, hb, _⟩ := hs.addrI hp
  rw [e] at e2; injection e2 with e2; subst e2; exact hb, hk⟩
theorem RetI.err_ {r : List Int × Int} {err : Int} {w w' : World} (hr : r = ([], err)) (hk : Kp w w') : RetI r w (.returned (.tuple #[.slice none 0 0, .int .i64 err])) w' :=
 RetI.mk_ hr rfl (Own.nil_ _ _) hk
theorem join_i (A B : Option Addr) (c d : Nat) (a b : List Int) (w : World) (h : Rd w A a) (g : Rd w B b) :
  Calls Tryz.prog 83 #[.slice A a.length c, .slice B b.length d] w (RetI (joinV a b) w) := by
 have HA := lH (check_any A c a w h)
 have HB := lH (check_any B d b w g)
 have H := lH h
 have G := lH g
 clear h g
 cases ha : okS a with
 | false =>
  rw [ha] at HA
  have HF := lH (join_no (b := b) (.inl ha))
  clear ha HB
  go_enter Tryz.func83, Tryz.ntmps83
  go_wp2_with fail
  go_step3
  go_wp2_with (go_at_call 20; refine (Calls.mono (Hid.out HA)) ?_; rintro e w' ⟨rfl, rfl⟩)
  try rw [Exit.noGoto_ret]
  go_ret2
  exact RetI.err_ HF.out (Kp.refl _)
 | true =>
  rw [ha] at HA
  cases hb : okS b with
  | false =>
   rw [hb] at HB
   have HF := lH (join_no (a := a) (.inr hb))
   clear ha hb
   go_enter Tryz.func83, Tryz.ntmps83
   go_wp2_with fail
   go_step3
   go_wp2_with (go_at_call 20; first | ((with_reducible refine (Calls.mono (Hid.out HA)) ?_); rintro e w' ⟨rfl, rfl⟩) | ((with_reducible refine (Calls.mono (Hid.out HB)) ?_); rintro e w' ⟨rfl, rfl⟩))
   try rw [Exit.noGoto_ret]
   go_ret2
   exact RetI.err_ HF.out (Kp.refl _)
  | true =>
   rw [hb] at HB
   have la := (ok_iff.1 ha).1
   have lb := (ok_iff.1 hb).1
   have HO := lH (And.intro ha hb)
   clear ha hb
   obtain ⟨n, hn⟩ := eX (max a.length b.length)
   have n1 : a.length ≤ n := by omega
   have n2 : b.length ≤ n := by omega
   have n3 : n ≤ 3 := by omega
   have hmx : ∀ (W : World) (ts : Array TypeId) (t : TypeId), (Builtin.max_ ts t #[.int .i64 (a.length : Int), .int .i64 (b.length : Int)]).run Tryz.prog W = .ok (.int .i64 (n : Int)) W := fun W ts t => by
    rw [run_max_int2]
    by_cases hc : (b.length : Int) > (a.length : Int)
    ·rw [if_pos hc, show (b.length : Int) = (n : Int) by omega]
    ·rw [if_neg hc, show (a.length : Int) = (n : Int) by omega]
   have HN := lH hn
   obtain ⟨cs, hmk, hown⟩ := mk0_ n (by omega)
   have H0 := lH (hown w w.heap.size (Nat.le_refl _))
   have HS := lH (j_start (P := pad n a) (Q := pad n b) (by rw [padl n1, padl n2]))
   clear hn hown
   go_enter Tryz.func83, Tryz.ntmps83
   go_wp2_with fail
   go_step3
   go_wp2_with (go_at_call 20; first | ((with_reducible refine (Calls.mono (Hid.out HA)) ?_); rintro e w' ⟨rfl, rfl⟩) | ((with_reducible refine (Calls.mono (Hid.out HB)) ?_); rintro e w' ⟨rfl, rfl⟩))
   clear HA HB hmk hmx
   go_step3
   go_wp2
   go_loopw [7, 27] (fun v i wr => ∃ (k : Nat) (zs : List Int) (Az : Option Addr) (cz : Nat), i = .int .i64 k ∧ v = .slice Az zs.length cz ∧ Hid (JRel (pad n a) (pad n b) k zs) ∧
    Hid (Own w.heap.size wr (.slice Az zs.length cz) zs) ∧ Hid (Below w.heap.size w wr)) (fun _ i _ => n - (intOf i).toNat)
   case atStart => exact ⟨0, [], _, _, rfl, rfl, HS.out, H0.out, (Below.refl _ _).alloc (Nat.le_refl _) _⟩
   case round =>
    obtain ⟨k, zs, Az, cz, rfl, rfl, hr, hown, hb⟩ := hrel
    have hzl : zs.length = k := hr.out.2.2.1
    have HZL := lH hzl
    by_cases hk : k < n
    ·have hz3 : zs.length < n := by omega
     clear hzl
     go_wp2_with fail
     refine (sideof_any _ _ _ _ (H.out.kp hb.out) k n n1 hk (by omega)).mono ?_; rintro e w1 ⟨x, rfl, hx, rfl⟩
     have HX := lH hx; clear hx
     go_wp2_with fail
     refine (sideof_any _ _ _ _ (G.out.kp hb.out) k n n2 hk (by omega)).mono ?_; rintro e w2 ⟨y, rfl, hy, rfl⟩
     have HY := lH hy; clear hy
     have HBs := lH hb.out.size
     by_cases hxy : x = y
     ·have HJ := lH (jn_same hxy)
      subst hxy
      go_wp2_with (at_builtin; refine wpList_app rfl (.tmp 44) (.tmp 46) rfl _ zs rfl (hown.out.kp (Kp.alloc_ _ _)) _ _ [x] _ rfl rfl (Rd.one _ _ _) (by simp; omega) (by have := HBs.out; simp; omega) ?_; intro zs2 A2 c2 w2 HZ hown2 hb2; have HB := lH ((hb.out.alloc HBs.out _).trans hb2); have HW := lH hown2; clear hown2 hb2)
      go_roundw
      case rel => exact ⟨k + 1, zs2, A2, c2, by go_num, rfl, j_step hr.out HX.out HY.out HJ.out HZ.out, HW.out, HB.out⟩
      case measure => simp [intOf]; omega
     ·have e1 : (x == y) = false := by simpa using hxy
      by_cases hy1 : y = 1
      ·have HJ := lH (jn_right (x := x) hy1)
       subst hy1
       clear hxy
       go_wp2_with (at_builtin; refine wpList_app rfl (.tmp 44) (.tmp 46) rfl _ zs rfl (hown.out.kp (Kp.alloc_ _ _)) _ _ [x] _ rfl rfl (Rd.one _ _ _) (by simp; omega) (by have := HBs.out; simp; omega) ?_; intro zs2 A2 c2 w2 HZ hown2 hb2; have HB := lH ((hb.out.alloc HBs.out _).trans hb2); have HW := lH hown2; clear hown2 hb2)
       go_roundw
       case rel => exact ⟨k + 1, zs2, A2, c2, by go_num, rfl, j_step hr.out HX.out HY.out HJ.out HZ.out, HW.out, HB.out⟩
       case measure => simp [intOf]; omega
      ·have e2 : (y == 1) = false := by simpa using hy1
       by_cases hx1 : x = 1
       ·have HJ := lH (jn_left (y := y) hx1)
        subst hx1
        clear hxy hy1
        go_wp2_with (at_builtin; refine wpList_app rfl (.tmp 51) (.tmp 53) rfl _ zs rfl (hown.out.kp (Kp.alloc_ _ _)) _ _ [y] _ rfl rfl (Rd.one _ _ _) (by simp; omega) (by have := HBs.out; simp; omega) ?_; intro zs2 A2 c2 w2 HZ hown2 hb2; have HB := lH ((hb.out.alloc HBs.out _).trans hb2); have HW := lH hown2; clear hown2 hb2)
        go_roundw
        case rel => exact ⟨k + 1, zs2, A2, c2, by go_num, rfl, j_step hr.out HX.out HY.out HJ.out HZ.out, HW.out, HB.out⟩
        case measure => simp [intOf]; omega
       ·have e3 : (x == 1) = false := by simpa using hx1
        have HF := lH (join_none HO.out.1 HO.out.2 (by unfold joinO; rw [← HN.out]; exact j_stop hr.out HX.out HY.out (jn_none hxy hy1 hx1)))
        clear hxy hy1 hx1
        go_wp2
        try rw [Exit.noGoto_ret]
        go_ret2
        exact RetI.err_ HF.out hb.out
    ·have hz3 : ¬ zs.length < n := by omega
     have hk2 : k = n := by have := hr.out.1; rw [padl n1] at this; omega
     have HJ := lH (show joinO a b = some zs by unfold joinO; rw [← HN.out]; exact j_end hr.out (by rw [padl n1]; exact hk2))
     clear hzl hk2
     cases hz : okS zs with
     | true =>
      have HC : Hid (Calls Tryz.prog 20 #[.slice Az zs.length cz] wr fun e w' => e = .returned (.bool true) ∧ wr = w') := by
       have hh := check_any Az cz zs wr hown.out.sl.rd
       rw [hz] at hh
       exact hh
      have HF := lH (join_yes HO.out.1 HO.out.2 HJ.out hz)
      clear hz
      go_wp2_with (go_at_call 20; refine (Calls.mono (Hid.out HC)) ?_; rintro e w' ⟨rfl, rfl⟩)
      try rw [Exit.noGoto_ret]
      go_ret2
      exact RetI.mk_ HF.out rfl hown.out hb.out
     | false =>
      have HC : Hid (Calls Tryz.prog 20 #[.slice Az zs.length cz] wr fun e w' => e = .returned (.bool false) ∧ wr = w') := by
       have hh := check_any Az cz zs wr hown.out.sl.rd
       rw [hz] at hh
       exact hh
      have HF := lH (join_big HO.out.1 HO.out.2 HJ.out hz)
      clear hz
      go_wp2_with (go_at_call 20; refine (Calls.mono (Hid.out HC)) ?_; rintro e w' ⟨rfl, rfl⟩)
      try rw [Exit.noGoto_ret]
      go_ret2
      exact RetI.err_ HF.out hb.out
end Go.Proofs.YtjkdcegmdfmjpaaGreat.Iz
namespace Go.Proofs.YtjkdcegmdfmjpaaGreat
open Go.RowKit Go.Proofs.ShM
theorem join_any (A B : Option Addr) (c d : Nat) (a b : List Int) (w : World) (h : Rd w A a) (g : Rd w B b) :
  Calls Tryz.prog 83 #[.slice A a.length c, .slice B b.length d] w (Ret (joinV a b) w) := (Iz.join_i A B c d a b w h g).mono fun e w2 h2 => by
 obtain ⟨A2, c2, e2, s2, _, k2⟩ := h2
 exact ⟨A2, c2, e2, s2, k2⟩
namespace ShH
theorem mx (x y z : Int) (hz : z = max x y) (W : World) (ts : Array TypeId) (t : TypeId) : (Builtin.max_ ts t #[.int .i64 x, .int .i64 y]).run Tryz.prog W = .ok (.int .i64 z) W := by
 rw [run_max_int2]
 by_cases hc : y > x
 ·rw [if_pos hc, hz, Int.max_eq_right (by omega)]
 ·rw [if_neg hc, hz, Int.max_eq_left (by omega)]
end ShH
open Go.RowKit Go.Proofs.ShM
namespace ShI
theorem fits_of {a b c : List Int} (h : joinV a b = (c, 0)) : (c == b) = fitsV a b := by
 unfold fitsV; rw [h, Bool.eq_iff_iff]; simp
theorem fits_no {a b : List Int} (h : joinV a b = ([], 20)) : false = fitsV a b := by unfold fitsV; rw [h]; simp
end ShI
theorem fits_any (A B : Option Addr) (c d : Nat) (a b : List Int) (w : World) (h : Rd w A a) (g : Rd w B b) :
  Calls Tryz.prog 101 #[.slice A a.length c, .slice B b.length d] w fun e w' => e = .returned (.bool (fitsV a b)) ∧ Kp w w' := by
 have HJ := lH (join_any A B c d a b w h g)
 have G := lH g
 clear h g
 rcases join_cases a b with ⟨l, hl, _⟩ | hl
 ·rw [hl] at HJ
  have HF := lH (ShI.fits_of hl)
  clear hl
  go_enter Tryz.func101, Tryz.ntmps101
  go_wp2_with fail
  refine (Calls.mono (Hid.out HJ)) ?_; rintro e w1 ⟨A1, c1, rfl, h1, k1⟩
  have HE := lH (equal_any A1 B c1 d l b w1 h1.rd (G.out.kp k1))
  have K1 := lH k1
  clear h1 k1
  go_wp2_with (go_at_call 52; refine (Calls.mono (Hid.out HE)) ?_; rintro e w2 ⟨rfl, n, rfl⟩)
  go_ret
  exact ⟨ret_bool HF.out, K1.out.tr (Kp.drewN_ _ _)⟩
 ·rw [hl] at HJ
  have HF := lH (ShI.fits_no hl)
  clear hl
  go_enter Tryz.func101, Tryz.ntmps101
  go_wp2_with fail
  refine (Calls.mono (Hid.out HJ)) ?_; rintro e w1 ⟨A1, c1, rfl, h1, k1⟩
  go_wp2
  go_ret
  exact ⟨ret_bool HF.out, k1⟩
open Go.RowKit Go.Proofs.ShM
section
variable {A B : Option Addr} {c d n m : Nat} (a b : List Int) {w : World}
theorem same_n (h : Rd w A a) (g : Rd w B b) (hn : n = a.length) (hm : m = b.length) {r : Bool} (hr : (a == b) = r) : Calls Tryz.prog 12 #[.slice A n c, .slice B m d] w fun e w' => e = .returned (.bool r) ∧ ∃ k, w' = w.drewN k := by
 subst hn hm hr
 exact same_any A B c d a b w h g
theorem check_n (h : Rd w A a) (hn : n = a.length) {r : Bool} (hr : okS a = r) : Calls Tryz.prog 20 #[.slice A n c] w fun e w' => e = .returned (.bool r) ∧ w = w' := by
 subst hn hr
 exact check_any A c a w h
theorem size_n (h : Rd w A a) (hn : n = a.length) {r : Int} (hr : sizeV a = r) : Calls Tryz.prog 22 #[.slice A n c] w fun e w' => e = .returned (.int .i64 r) ∧ w = w' := by
 subst hn hr
 exact size_any A c a w h
end
end Go.Proofs.YtjkdcegmdfmjpaaGreat
