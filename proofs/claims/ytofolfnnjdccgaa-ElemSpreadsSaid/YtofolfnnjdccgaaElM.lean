/- Plain facts of layer 4: numbers that are reckoned one by one, and what tensors are reckoned to. -/
import Derived.Test.YtofolfnnjdccgaaTnAll
namespace Go.Proofs.ShM
open Go.Proofs.FixM

/-- The error of the first that has one, else 0. -/
def firstE {α : Type} (f : α → Int × Int) : List α → Int
  | [] => 0
  | x :: l => if (f x).2 = 0 then firstE f l else (f x).2
def mapE {α : Type} (f : α → Int × Int) (l : List α) : List Int × Int := if firstE f l = 0 then (l.map fun x => (f x).1, 0) else ([], firstE f l)

section
variable {α : Type} {f g : α → Int × Int} {l : List α} {k : Nat} {zs : List Int} {x : α}
theorem firstE_zero : firstE f l = 0 ↔ ∀ x ∈ l, (f x).2 = 0 := by
  induction l with
  | nil => simp [firstE]
  | cons x l ih =>
    unfold firstE
    by_cases h : (f x).2 = 0
    · rw [if_pos h, ih]; simp [h]
    · rw [if_neg h]; simp [h]
theorem firstE_congr {β : Type} {F : β → Int × Int} {h : α → β} (e : ∀ x ∈ l, (F (h x)).2 = (f x).2) : firstE F (l.map h) = firstE f l := by
  induction l with
  | nil => rfl
  | cons x l ih =>
    simp only [List.map_cons, firstE]
    rw [e x (by simp), ih fun y hy => e y (by simp [hy])]
theorem mapE_congr {β : Type} {F : β → Int × Int} {h : α → β} (e : ∀ x ∈ l, F (h x) = f x) : mapE F (l.map h) = mapE f l := by
  have e1 : firstE F (l.map h) = firstE f l := firstE_congr fun x hx => by rw [e x hx]
  unfold mapE
  rw [e1]
  split
  · rw [List.map_map]
    congr 1
    exact List.map_congr_left fun x hx => by simp only [Function.comp_apply]; rw [e x hx]
  · rfl
theorem mapE_e : (mapE f l).2 = firstE f l := by
  unfold mapE
  split
  · rename_i hz; exact hz.symm
  · rfl
theorem mapE_ok (h : (mapE f l).2 = 0) : firstE f l = 0 ∧ mapE f l = (l.map fun x => (f x).1, 0) := by
  rw [mapE_e] at h
  exact ⟨h, by unfold mapE; rw [if_pos h]⟩
theorem mapE_len (h : (mapE f l).2 = 0) : (mapE f l).1.length = l.length := by
  rw [(mapE_ok h).2]; simp
theorem mapE_err (h : (mapE f l).2 ≠ 0) : mapE f l = ([], firstE f l) := by
  rw [mapE_e] at h
  unfold mapE; rw [if_neg h]
theorem firstE_cons {x : α} : firstE f (x :: l) = if (f x).2 = 0 then firstE f l else (f x).2 := rfl

/-- A loop that stores each number at its place. -/
def Ee (f : α → Int × Int) (l : List α) (k : Nat) (zs : List Int) : Prop :=
  k ≤ l.length ∧ zs.length = l.length ∧ firstE f (l.drop k) = firstE f l ∧ zs.take k = (l.take k).map fun x => (f x).1
theorem ee_start : Ee f l 0 (List.replicate l.length 0) := ⟨Nat.zero_le _, by simp, by simp, by simp⟩
theorem ee_step (h : Ee f l k zs) (hx : l[k]? = some x) (he : (f x).2 = 0) : Ee f l (k + 1) (zs.set k (f x).1) := by
  obtain ⟨h1, h2, h3, h4⟩ := h
  have hk := (List.getElem?_eq_some_iff.1 hx).1
  refine ⟨hk, by simpa using h2, ?_, ?_⟩
  · rw [← h3, drop_of hx, firstE_cons]; rw [if_pos he]
  · rw [take_of hx, List.map_append, ← h4, take_of (x := (f x).1) (by rw [List.getElem?_set_self (by omega)]), List.take_set_of_le (by omega)]
    rfl
theorem ee_bad (h : Ee f l k zs) (hx : l[k]? = some x) (he : (f x).2 ≠ 0) : mapE f l = ([], (f x).2) := by
  obtain ⟨h1, h2, h3, h4⟩ := h
  have e : firstE f l = (f x).2 := by rw [← h3, drop_of hx, firstE_cons]; rw [if_neg he]
  unfold mapE; rw [e, if_neg he]
theorem ee_end (h : Ee f l k zs) (hk : ¬ k < l.length) : mapE f l = (zs, 0) := by
  obtain ⟨h1, h2, h3, h4⟩ := h
  have e : k = l.length := by omega
  subst e
  rw [List.drop_length] at h3
  rw [List.take_length, ← h2, List.take_length] at h4
  unfold mapE; rw [← h3, h4]; rfl
/-- A loop that appends each number. -/
def Ea (f : α → Int × Int) (l : List α) (k : Nat) (zs : List Int) : Prop :=
  k ≤ l.length ∧ firstE f (l.drop k) = firstE f l ∧ zs = (l.take k).map fun x => (f x).1
theorem ea_start : Ea f l 0 [] := ⟨Nat.zero_le _, by simp, by simp⟩
theorem ea_len (h : Ea f l k zs) : zs.length = k := by obtain ⟨h1, _, rfl⟩ := h; simp; omega
theorem ea_step {ys : List Int} {y : Int} (h : Ea f l k zs) (hx : l[k]? = some x) (hy : f x = (y, 0)) (e : ys = zs ++ [y]) : Ea f l (k + 1) ys := by
  obtain ⟨h1, h3, h4⟩ := h
  have hk := (List.getElem?_eq_some_iff.1 hx).1
  refine ⟨hk, ?_, ?_⟩
  · rw [← h3, drop_of hx, firstE_cons]; rw [if_pos (by rw [hy])]
  · rw [e, take_of hx, List.map_append, ← h4]; simp [hy]
theorem ea_bad {e : Int} (h : Ea f l k zs) (hx : l[k]? = some x) (hy : f x = (0, e)) (he : e ≠ 0) : mapE f l = ([], e) := by
  obtain ⟨h1, h3, h4⟩ := h
  have e' : firstE f l = e := by rw [← h3, drop_of hx, firstE_cons]; rw [if_neg (by rw [hy]; exact he), hy]
  unfold mapE; rw [e', if_neg he]
theorem ea_end (h : Ea f l k zs) (hk : ¬ k < l.length) : mapE f l = (zs, 0) := by
  obtain ⟨h1, h3, h4⟩ := h
  have e : k = l.length := by omega
  subst e
  rw [List.drop_length] at h3
  rw [List.take_length] at h4
  unfold mapE; rw [← h3, h4]; rfl
end

/-- A number's answer, and two numbers'. -/
def numV (op n : Int) : Int × Int := if op = 20 then subV 0 n else if op = 21 then (max n 0, 0) else if op = 22 then powV n else if op = 23 then sqrtV n else (0, 1)
def numsV (op a b : Int) : Int × Int := if op = 10 then addV a b else if op = 11 then subV a b else if op = 12 then mulV a b else if op = 13 then divV a b else (0, 1)
/-- One and Two, and the document's. -/
def oneV (op : Int) (s xs : List Int) : Tn :=
  if op < 20 ∨ 23 < op then ([], [], 1) else if tokV s xs = false then ([], [], 30) else if (mapE (numV op) xs).2 = 0 then (s, (mapE (numV op) xs).1, 0) else ([], [], (mapE (numV op) xs).2)
def two2 (op : Int) (xs ys : List Int) : List Int × Int := mapE (fun p : Int × Int => numsV op p.1 p.2) (xs.zip ys)
def twoV (op : Int) (s xs g ys : List Int) : Tn :=
  if op < 10 ∨ 13 < op then ([], [], 1) else if tokV s xs = false ∨ tokV g ys = false then ([], [], 30) else if (joinV s g).2 ≠ 0 then ([], [], (joinV s g).2) else
    if (two2 op (spreadV s xs (joinV s g).1).2.1 (spreadV g ys (joinV s g).1).2.1).2 = 0 then ((joinV s g).1, (two2 op (spreadV s xs (joinV s g).1).2.1 (spreadV g ys (joinV s g).1).2.1).1, 0)
    else ([], [], (two2 op (spreadV s xs (joinV s g).1).2.1 (spreadV g ys (joinV s g).1).2.1).2)
end Go.Proofs.ShM
