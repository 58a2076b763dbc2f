/- Plain facts of layer 7: sums of products, products of tables. -/
import Derived.Test.YtepnhmdjglpmeaaElAll
import Derived.Test.YtepnhmdjglpmeaaPvAll
namespace Go.Proofs.ShM
open Go.Proofs.FixM

/-- The sum of so many products, one by one; the first error ends it. -/
def dotV (f g : Nat → Int) : Nat → Int × Int
  | 0 => (0, 0)
  | k + 1 => if (dotV f g k).2 ≠ 0 then dotV f g k else if (mulV (f k) (g k)).2 ≠ 0 then (0, (mulV (f k) (g k)).2) else addV (dotV f g k).1 (mulV (f k) (g k)).1

theorem put_err {n : Int} (h : (put n).2 ≠ 0) : put n = (0, 10) := by
  rcases put_cases n with ⟨_, _, e⟩ | ⟨_, e⟩
  · rw [e] at h; exact absurd rfl h
  · exact e
section
variable {f g F G : Nat → Int} {n k : Nat} {y p : Int}
theorem dot_stay (h : (dotV f g k).2 ≠ 0) : ∀ {n : Nat}, k ≤ n → dotV f g n = dotV f g k := by
  intro n
  induction n with
  | zero => intro hk; rw [show k = 0 by omega]
  | succ n ih =>
    intro hk
    by_cases e : k = n + 1
    · rw [e]
    · have e1 := ih (by omega)
      show (if (dotV f g n).2 ≠ 0 then dotV f g n else _) = _
      rw [e1, if_pos h]
theorem dot_err (h : (dotV f g n).2 ≠ 0) : dotV f g n = (0, 10) := by
  induction n with
  | zero => exact absurd rfl h
  | succ n ih =>
    unfold dotV at h ⊢
    by_cases h1 : (dotV f g n).2 ≠ 0
    · rw [if_pos h1]; exact ih h1
    · rw [if_neg h1] at h ⊢
      by_cases h2 : (mulV (f n) (g n)).2 ≠ 0
      · rw [if_pos h2, show mulV (f n) (g n) = (0, 10) from put_err h2]
      · rw [if_neg h2] at h ⊢; exact put_err h
theorem dot_congr : ∀ {n : Nat}, (∀ k, k < n → mulV (f k) (g k) = mulV (F k) (G k)) → dotV f g n = dotV F G n := by
  intro n
  induction n with
  | zero => intro _; rfl
  | succ n ih =>
    intro h
    have e := ih fun k hk => h k (by omega)
    unfold dotV
    rw [e, h n (by omega)]
/-- A loop that adds products. -/
def Dt (f g : Nat → Int) (n k : Nat) (y : Int) : Prop := k ≤ n ∧ dotV f g k = (y, 0)
theorem dt_start : Dt f g n 0 0 := ⟨Nat.zero_le _, rfl⟩
theorem dt_badm (h : Dt f g n k y) (hk : k < n) (hp : (mulV (f k) (g k)).2 ≠ 0) : dotV f g n = (0, (mulV (f k) (g k)).2) := by
  have e : dotV f g (k + 1) = (0, (mulV (f k) (g k)).2) := by
    unfold dotV; rw [h.2, if_neg (by simp), if_pos hp]
  rw [← e]
  exact dot_stay (by rw [e]; exact hp) hk
theorem dt_next (h : Dt f g n k y) (hp : mulV (f k) (g k) = (p, 0)) : dotV f g (k + 1) = addV y p := by
  unfold dotV; rw [h.2, if_neg (by simp), hp, if_neg (by simp)]
theorem dt_bada (h : Dt f g n k y) (hk : k < n) (hp : mulV (f k) (g k) = (p, 0)) (ha : (addV y p).2 ≠ 0) : dotV f g n = (0, (addV y p).2) := by
  have e := dt_next h hp
  rw [dot_stay (by rw [e]; exact ha) hk, e]
  have e2 : addV y p = (0, 10) := put_err ha
  rw [e2]
theorem dt_step (h : Dt f g n k y) (hk : k < n) (hp : mulV (f k) (g k) = (p, 0)) (ha : (addV y p).2 = 0) : Dt f g n (k + 1) (addV y p).1 := by
  refine ⟨hk, ?_⟩
  rw [dt_next h hp, ← ha]
theorem dt_end (h : Dt f g n k y) (hk : ¬ k < n) : dotV f g n = (y, 0) := by
  have : k = n := by have := h.1; omega
  subst this; exact h.2
end

/-- A row's numbers, a column's. -/
def rowF (xs : List Int) (K i : Nat) : Nat → Int := fun k => xs.getD (i * K + k) 0
def colF (ys : List Int) (N j : Nat) : Nat → Int := fun k => ys.getD (k * N + j) 0
def atQ (xs ys : List Int) (K N : Nat) : Nat → Int × Int := fun q => dotV (rowF xs K (q / N)) (colF ys N (q % N)) K
def matL (xs ys : List Int) (M K N : Nat) : List Int × Int := mapE (atQ xs ys K N) (List.range (M * N))
def matV (s xs t ys : List Int) : Tn :=
  if tokV s xs = false ∨ tokV t ys = false then ([], [], 30)
  else if s.length ≠ 2 ∨ t.length ≠ 2 ∨ s.getD 1 0 ≠ t.getD 0 0 ∨ okS [s.getD 0 0, t.getD 1 0] = false then ([], [], 20)
  else if (matL xs ys (s.getD 0 0).toNat (s.getD 1 0).toNat (t.getD 1 0).toNat).2 = 0 then ([s.getD 0 0, t.getD 1 0], (matL xs ys (s.getD 0 0).toNat (s.getD 1 0).toNat (t.getD 1 0).toNat).1, 0)
  else ([], [], (matL xs ys (s.getD 0 0).toNat (s.getD 1 0).toNat (t.getD 1 0).toNat).2)
def leftV (g xs t ys : List Int) : Tn :=
  if tokV g xs = false ∨ tokV t ys = false then ([], [], 30) else if t.length ≠ 2 then ([], [], 20) else matV g xs (turnV t ys).1 (turnV t ys).2.1
def rightV (s xs g ys : List Int) : Tn :=
  if tokV s xs = false ∨ tokV g ys = false then ([], [], 30) else if s.length ≠ 2 then ([], [], 20) else matV (turnV s xs).1 (turnV s xs).2.1 g ys
/-- The sides of a table; of what is none they are 0. -/
def sdV (s : List Int) : Int × Int := if s.length = 2 then (s.getD 0 0, s.getD 1 0) else (0, 0)

theorem two_of {s : List Int} (h : s.length = 2) : s = [s.getD 0 0, s.getD 1 0] := by
  match s, h with
  | [a, b], _ => rfl
theorem side_of2 {s : List Int} {k : Nat} (h : s.all sideB = true) (hk : k < s.length) : 1 ≤ s.getD k 0 ∧ s.getD k 0 ≤ 16 := by
  have hx : s[k]? = some s[k] := List.getElem?_eq_getElem hk
  rw [List.getD, hx]; exact side_of h hx
/-- A table's rows and columns. -/
theorem table_of {s xs : List Int} (ht : tokV s xs = true) (h : s.length = 2) : ∃ M K : Nat, s = [(M : Int), (K : Int)] ∧ 1 ≤ M ∧ M ≤ 16 ∧ 1 ≤ K ∧ K ≤ 16 ∧ xs.length = M * K := by
  obtain ⟨ho, hl⟩ := tok_iff.1 ht
  have a := ok_all ho
  have h0 := side_of2 a (k := 0) (by omega)
  have h1 := side_of2 a (k := 1) (by omega)
  obtain ⟨M, hM⟩ : ∃ M : Nat, s.getD 0 0 = (M : Int) := ⟨(s.getD 0 0).toNat, by omega⟩
  obtain ⟨K, hK⟩ : ∃ K : Nat, s.getD 1 0 = (K : Int) := ⟨(s.getD 1 0).toNat, by omega⟩
  have e := two_of h
  rw [hM, hK] at e
  refine ⟨M, K, e, by omega, by omega, by omega, by omega, ?_⟩
  rw [e] at hl
  have e2 : prodS [(M : Int), (K : Int)] = ((M * K : Nat) : Int) := by simp [prodS]
  rw [e2] at hl
  exact_mod_cast hl
theorem lin_nat {i k M K : Nat} (hi : i < M) (hk : k < K) : i * K + k < M * K := by
  have h := Nat.mul_le_mul_right K (show i + 1 ≤ M from hi)
  rw [Nat.succ_mul] at h; omega
theorem lin_le {i k : Nat} (hi : i < 16) (hk : k < 16) {K : Nat} (hK : K ≤ 16) : i * K ≤ 240 ∧ i * K + k ≤ 256 := by
  have h := Nat.mul_le_mul (show i ≤ 15 by omega) hK
  omega
theorem mat_form {xs ys : List Int} {M K N : Nat} (h1 : tokV [(M : Int), (K : Int)] xs = true) (h2 : tokV [(K : Int), (N : Int)] ys = true) (ho : okS [(M : Int), (N : Int)] = true) :
    matV [(M : Int), (K : Int)] xs [(K : Int), (N : Int)] ys = if (matL xs ys M K N).2 = 0 then ([(M : Int), (N : Int)], (matL xs ys M K N).1, 0) else ([], [], (matL xs ys M K N).2) := by
  unfold matV
  rw [if_neg (by simp [h1, h2])]
  have e : ¬ (([(M : Int), (K : Int)] : List Int).length ≠ 2 ∨ ([(K : Int), (N : Int)] : List Int).length ≠ 2 ∨ ([(M : Int), (K : Int)] : List Int).getD 1 0 ≠ ([(K : Int), (N : Int)] : List Int).getD 0 0 ∨ okS [([(M : Int), (K : Int)] : List Int).getD 0 0, ([(K : Int), (N : Int)] : List Int).getD 1 0] = false) := by
    rintro (h | h | h | h)
    · exact h rfl
    · exact h rfl
    · exact h rfl
    · have h' : okS [(M : Int), (N : Int)] = false := h
      rw [ho] at h'; cases h'
  rw [if_neg e]
  rfl
/-- Of two shapes: their joint sides may be a shape. -/
theorem mat_shape {s xs t ys : List Int} (h1 : tokV s xs = true) (h2 : tokV t ys = true) (h : (sdV s).2 ≠ (sdV t).1 ∨ okS [(sdV s).1, (sdV t).2] = false) : matV s xs t ys = ([], [], 20) := by
  unfold matV
  rw [if_neg (by simp [h1, h2]), if_pos ?_]
  unfold sdV at h
  by_cases a : s.length = 2
  · by_cases b : t.length = 2
    · rw [if_pos a, if_pos b] at h
      exact Or.inr (Or.inr h)
    · exact Or.inr (Or.inl b)
  · exact Or.inl a
theorem ok_zero {x : Int} : okS [0, x] = false ∧ okS [x, 0] = false := by
  constructor
  · cases h : okS [0, x] with
    | false => rfl
    | true => have := side_of2 (ok_all h) (k := 0) (by simp); simp at this
  · cases h : okS [x, 0] with
    | false => rfl
    | true => have := side_of2 (ok_all h) (k := 1) (by simp); simp at this
theorem mat_tables {s t : List Int} (_ : (sdV s).2 = (sdV t).1) (ho : okS [(sdV s).1, (sdV t).2] = true) : s.length = 2 ∧ t.length = 2 := by
  unfold sdV at ho
  by_cases a : s.length = 2
  · by_cases b : t.length = 2
    · exact ⟨a, b⟩
    · rw [if_neg b] at ho; rw [ok_zero.2] at ho; cases ho
  · rw [if_neg a] at ho; rw [ok_zero.1] at ho; cases ho
end Go.Proofs.ShM
