import Derived.Test.YtjkdcegmdfmjpaaGreatTk
import Derived.Test.YtjkdcegmdfmjpaaGreatGrAll
set_option maxHeartbeats 16000000
set_option maxRecDepth 100000
set_option linter.unusedVariables false
set_option linter.unusedSimpArgs false
namespace Go.Proofs.InM
open Go.Proofs.ShM Go.Proofs.GrM
abbrev Sh := List Int × Int
def aloneB (op : Int) (nums : List Int) : Bool := decide (0 ≤ arityV op) && numsB (op, [], nums)
def toldV (s : List Int) (so : Bool) : Sh := if so = true ∧ okS s = true then (s, 0) else ([], 20)
def axisB (s : List Int) (at_ : Int) : Bool := decide (0 ≤ at_ ∧ at_ < (s.length : Int))
def tableV (a b : List Int) : Sh := if a.length = 2 ∧ b.length = 2 ∧ a.getD 1 0 = b.getD 0 0 then toldV [a.getD 0 0, b.getD 1 0] true else ([], 20)
def partV (a : List Int) (at_ from_ to_ : Int) : Sh := if 0 ≤ from_ ∧ from_ < to_ ∧ to_ ≤ a.getD at_.toNat 0 then (a.set at_.toNat (to_ - from_), 0) else ([], 20)
def glueS (a b : List Int) (at_ : Int) : Sh := if a.length = b.length ∧ a.eraseIdx at_.toNat = b.eraseIdx at_.toNat then toldV (a.set at_.toNat (a.getD at_.toNat 0 + b.getD at_.toNat 0)) true else ([], 20)
def moreV (op : Int) (nums a b : List Int) : Sh :=
 if op = 30 then tableV a b else if axisB a (nums.getD 0 0) = false then ([], 20) else
 if op = 42 then partV a (nums.getD 0 0) (nums.getD 1 0) (nums.getD 2 0) else if op = 43 then glueS a b (nums.getD 0 0) else (a.eraseIdx (nums.getD 0 0).toNat, 0)
def kindV (op : Int) (nums a b : List Int) : Sh :=
 if op = 1 then (nums, 0) else if op = 2 then (nums.drop 1, 0) else if op = 3 then ([], 0) else if 10 ≤ op ∧ op ≤ 13 then joinV a b else
 if 20 ≤ op ∧ op ≤ 23 then (a, 0) else if op = 40 then toldV nums (decide (sizeV nums = sizeV a)) else if op = 41 then (a.reverse, 0) else moreV op nums a b
def nodeV (op : Int) (nums : List Int) (gs : List (List Int)) : Sh :=
 if aloneB op nums = true ∧ (gs.length : Int) = arityV op ∧ gs.all okS = true then kindV op nums (gs.getD 0 []) (gs.getD 1 []) else ([], 20)
theorem told_cases (s : List Int) (so : Bool) : (toldV s so = (s, 0) ∧ so = true ∧ okS s = true) ∨ toldV s so = ([], 20) := by
 unfold toldV
 by_cases h : so = true ∧ okS s = true
 ·rw [if_pos h]; exact .inl ⟨rfl, h⟩
 ·rw [if_neg h]; exact .inr rfl
theorem all_erase' {s : List Int} (h : s.all sideB = true) (a : Nat) : (s.eraseIdx a).all sideB = true := by
 rw [List.all_eq_true] at *
 exact fun x hx => h x (List.mem_of_mem_eraseIdx hx)
theorem getD_side {s : List Int} (h : s.all sideB = true) {a : Nat} (ha : a < s.length) : 1 ≤ s.getD a 0 ∧ s.getD a 0 ≤ 16 := by
 have hx : s[a]? = some s[a] := List.getElem?_eq_getElem ha
 rw [List.getD, hx]; exact side_of h hx
theorem prod_side : ∀ {s : List Int} {a : Nat}, a < s.length → prodS s = s.getD a 0 * prodS (s.eraseIdx a)
 | [], a, h => by simp at h
 | x :: r, 0, h => by simp [prodS]
 | x :: r, a + 1, h => by
  have h1 := prod_side (s := r) (a := a) (by simpa using h)
  show x * prodS r = r.getD a 0 * (x * prodS (r.eraseIdx a))
  rw [h1, ← Int.mul_assoc, ← Int.mul_assoc, Int.mul_comm x]
theorem erase_set : ∀ {s : List Int} {a : Nat} {y : Int}, (s.set a y).eraseIdx a = s.eraseIdx a
 | [], a, y => by simp
 | x :: r, 0, y => by simp
 | x :: r, a + 1, y => by
  show x :: (r.set a y).eraseIdx a = x :: r.eraseIdx a
  rw [erase_set]
theorem set_at {l : List Int} {k : Nat} {y : Int} (hk : k < l.length) : (l.set k y).getD k 0 = y := by
 unfold List.getD; rw [List.getElem?_set_self hk]; rfl
theorem prod_set {s : List Int} {a : Nat} {y : Int} (ha : a < s.length) : prodS (s.set a y) = y * prodS (s.eraseIdx a) := by
 rw [prod_side (s := s.set a y) (a := a) (by simpa using ha), set_at ha, erase_set]
theorem ok_erase' {s : List Int} (h : okS s = true) {a : Nat} (ha : a < s.length) : okS (s.eraseIdx a) = true := by
 obtain ⟨h1, h2, h3⟩ := ok_iff.1 h
 have e := prod_side ha
 have p := prod_pos (all_erase' h2 a)
 have t := Int.mul_le_mul_of_nonneg_right (getD_side h2 ha).1 (show 0 ≤ prodS (s.eraseIdx a) by omega)
 rw [Int.one_mul] at t
 exact ok_iff.2 ⟨by have := List.length_eraseIdx_le s a; omega, all_erase' h2 a, by omega⟩
theorem all_set {s : List Int} (h : s.all sideB = true) (a : Nat) {y : Int} (hy : sideB y = true) : (s.set a y).all sideB = true := by
 rw [List.all_eq_true] at *
 intro x hx
 rcases List.mem_or_eq_of_mem_set hx with h1 | h1
 ·exact h x h1
 ·rw [h1]; exact hy
theorem ok_less {s : List Int} (h : okS s = true) {a : Nat} (ha : a < s.length) {y : Int} (h1 : 1 ≤ y) (h2 : y ≤ s.getD a 0) : okS (s.set a y) = true ∧ prodS (s.set a y) ≤ prodS s := by
 obtain ⟨g1, g2, g3⟩ := ok_iff.1 h
 have sd := getD_side g2 ha
 have p := prod_pos (all_erase' g2 a)
 have e := prod_side ha
 have t := Int.mul_le_mul_of_nonneg_right h2 (show 0 ≤ prodS (s.eraseIdx a) by omega)
 have e2 := prod_set (y := y) ha
 exact ⟨ok_iff.2 ⟨by simpa using g1, all_set g2 a (sideB_iff.2 ⟨h1, by omega⟩), by omega⟩, by omega⟩
theorem ok_rev' {s : List Int} (h : okS s = true) : okS s.reverse = true := by
 obtain ⟨g1, g2, g3⟩ := ok_iff.1 h
 exact ok_iff.2 ⟨by simpa using g1, by rw [ok_rev]; exact g2, by rw [prod_rev]; exact g3⟩
theorem part_cases (a : List Int) (at_ f t : Int) : (partV a at_ f t = (a.set at_.toNat (t - f), 0) ∧ 0 ≤ f ∧ f < t ∧ t ≤ a.getD at_.toNat 0) ∨ partV a at_ f t = ([], 20) := by
 unfold partV
 by_cases h : 0 ≤ f ∧ f < t ∧ t ≤ a.getD at_.toNat 0
 ·rw [if_pos h]; exact .inl ⟨rfl, h⟩
 ·rw [if_neg h]; exact .inr rfl
theorem glue_cases (a b : List Int) (at_ : Int) : (glueS a b at_ = (a.set at_.toNat (a.getD at_.toNat 0 + b.getD at_.toNat 0), 0) ∧ a.length = b.length ∧ a.eraseIdx at_.toNat = b.eraseIdx at_.toNat ∧ okS (a.set at_.toNat (a.getD at_.toNat 0 + b.getD at_.toNat 0)) = true) ∨ glueS a b at_ = ([], 20) := by
 unfold glueS
 by_cases h : a.length = b.length ∧ a.eraseIdx at_.toNat = b.eraseIdx at_.toNat
 ·rw [if_pos h]
  rcases told_cases (a.set at_.toNat (a.getD at_.toNat 0 + b.getD at_.toNat 0)) true with ⟨e, _, o⟩ | e
  ·exact .inl ⟨e, h.1, h.2, o⟩
  ·exact .inr e
 ·rw [if_neg h]; exact .inr rfl
theorem axis_iff {s : List Int} {x : Int} : axisB s x = true ↔ 0 ≤ x ∧ x < (s.length : Int) := by unfold axisB; rw [decide_eq_true_iff]
def Okd (r : Sh) : Prop := (r.2 = 0 ∧ okS r.1 = true) ∨ r = ([], 20)
theorem table_okd (a b : List Int) : Okd (tableV a b) := by
 unfold tableV
 split
 ·rcases told_cases [a.getD 0 0, b.getD 1 0] true with ⟨e, _, o⟩ | e
  ·rw [e]; exact .inl ⟨rfl, o⟩
  ·rw [e]; exact .inr rfl
 ·exact .inr rfl
theorem more_okd (op : Int) (nums : List Int) {a : List Int} (b : List Int) (ha : okS a = true) : Okd (moreV op nums a b) := by
 unfold moreV
 split
 ·exact table_okd a b
 ·cases hx : axisB a (nums.getD 0 0) with
  | false => rw [if_pos rfl]; exact .inr rfl
  | true =>
   rw [if_neg (by simp)]
   obtain ⟨x0, x1⟩ := axis_iff.1 hx
   have hk : (nums.getD 0 0).toNat < a.length := by omega
   split
   ·rcases part_cases a (nums.getD 0 0) (nums.getD 1 0) (nums.getD 2 0) with ⟨e, f0, f1, f2⟩ | e
    ·rw [e]; exact .inl ⟨rfl, (ok_less ha hk (by omega) (by omega)).1⟩
    ·rw [e]; exact .inr rfl
   ·split
    ·rcases glue_cases a b (nums.getD 0 0) with ⟨e, _, _, o⟩ | e
     ·rw [e]; exact .inl ⟨rfl, o⟩
     ·rw [e]; exact .inr rfl
    ·exact .inl ⟨rfl, ok_erase' ha hk⟩
theorem nums_1 {nums : List Int} {a : List Int} (h : numsB (1, a, nums) = true) : okS nums = true := by unfold numsB at h; simpa using h
theorem nums_2 {nums : List Int} {a : List Int} (h : numsB (2, a, nums) = true) : ∃ p s, nums = p :: s ∧ 0 ≤ p ∧ p ≤ 7 ∧ okS s = true := by
 have h : parB nums = true := by simpa [numsB] using h
 cases nums with
 | nil => cases h
 | cons p s =>
  have h' : decide (0 ≤ p ∧ p ≤ 7) = true ∧ okS s = true := by
   have : (decide (0 ≤ p ∧ p ≤ 7) && okS s) = true := h
   simpa using this
  exact ⟨p, s, rfl, (of_decide_eq_true h'.1).1, (of_decide_eq_true h'.1).2, h'.2⟩
theorem kind_okd {op : Int} {nums a b : List Int} (hn : numsB (op, [], nums) = true) (hr : 0 ≤ arityV op) (h1 : okS a = true) : Okd (kindV op nums a b) := by
 unfold kindV
 split
 ·rename_i e; subst e; exact .inl ⟨rfl, nums_1 hn⟩
 ·split
  ·rename_i e; subst e
   obtain ⟨p, s, rfl, _, _, o⟩ := nums_2 hn
   exact .inl ⟨rfl, o⟩
  ·split
   ·exact .inl ⟨rfl, by decide⟩
   ·split
    ·rcases join_cases a b with ⟨c, e, o⟩ | e
     ·rw [e]; exact .inl ⟨rfl, o⟩
     ·rw [e]; exact .inr rfl
    ·split
     ·exact .inl ⟨rfl, h1⟩
     ·split
      ·rcases told_cases nums (decide (sizeV nums = sizeV a)) with ⟨e, _, o⟩ | e
       ·rw [e]; exact .inl ⟨rfl, o⟩
       ·rw [e]; exact .inr rfl
      ·split
       ·exact .inl ⟨rfl, ok_rev' h1⟩
       ·exact more_okd op nums b h1
theorem alone_iff {op : Int} {nums : List Int} : aloneB op nums = true ↔ 0 ≤ arityV op ∧ numsB (op, [], nums) = true := by
 unfold aloneB; rw [Bool.and_eq_true, decide_eq_true_iff]
theorem ok_getD {gs : List (List Int)} (h : gs.all okS = true) (k : Nat) : okS (gs.getD k []) = true := by
 rw [List.all_eq_true] at h
 rw [List.getD]
 cases e : gs[k]? with
 | none => decide
 | some x => exact h x (List.mem_of_getElem? e)
theorem node_okd (op : Int) (nums : List Int) (gs : List (List Int)) : Okd (nodeV op nums gs) := by
 unfold nodeV
 split
 ·rename_i h
  obtain ⟨g1, g2⟩ := alone_iff.1 h.1
  exact kind_okd g2 g1 (ok_getD h.2.2 0)
 ·exact .inr rfl
theorem node_cases (op : Int) (nums : List Int) (gs : List (List Int)) : (∃ s, nodeV op nums gs = (s, 0) ∧ okS s = true) ∨ nodeV op nums gs = ([], 20) := by
 rcases node_okd op nums gs with ⟨e, o⟩ | e
 ·exact .inl ⟨(nodeV op nums gs).1, Prod.ext rfl e, o⟩
 ·exact .inr e
end Go.Proofs.InM
