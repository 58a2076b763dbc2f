/- Plain arithmetic under layer 2 (shape): what the document says each call answers, and the steps of the ways by which the code reckons it. No program stands here. -/
namespace Go.Proofs.ShM

/-! ### What is answered -/
def prodS : List Int → Int
  | [] => 1
  | x :: s => x * prodS s
def sideB (x : Int) : Bool := decide (1 ≤ x ∧ x ≤ 16)
/-- Whether it may be. -/
def okS (s : List Int) : Bool := decide (s.length ≤ 3) && (s.all sideB && decide (prodS s ≤ 64))
def sizeV (s : List Int) : Int := if okS s = true then prodS s else 0
/-- The index that so many stand ahead of. -/
def digs : List Int → Int → List Int
  | [], _ => []
  | _ :: s, p => (p / prodS s) :: digs s (p % prodS s)
def indexV (s : List Int) (p : Int) : List Int × Int := if 0 ≤ p ∧ p < sizeV s then (digs s p, 0) else ([], 20)
def inIdx : List Int → List Int → Bool
  | [], [] => true
  | x :: s, i :: t => decide (0 ≤ i ∧ i < x) && inIdx s t
  | _, _ => false
def plc : List Int → List Int → Int
  | _ :: s, i :: t => i * prodS s + plc s t
  | _, _ => 0
def placeV (s t : List Int) : Int × Int := if (okS s && inIdx s t) = true then (plc s t, 0) else (0, 20)
/-- Two sides at one place. -/
def jn (x y : Int) : Option Int := if x = y ∨ y = 1 then some x else if x = 1 then some y else none
/-- Two shapes of as many sides. -/
def joinL : List Int → List Int → Option (List Int)
  | x :: s, y :: t => (jn x y).bind fun h => (joinL s t).map (h :: ·)
  | _, _ => some []
def pad (n : Nat) (s : List Int) : List Int := List.replicate (n - s.length) 1 ++ s
def joinO (a b : List Int) : Option (List Int) := joinL (pad (max a.length b.length) a) (pad (max a.length b.length) b)
def joinV (a b : List Int) : List Int × Int :=
  if (okS a && okS b) = true then match joinO a b with
    | some l => if okS l = true then (l, 0) else ([], 20)
    | none => ([], 20)
  else ([], 20)
def fitsV (a b : List Int) : Bool := decide (joinV a b = (b, 0))

/-! ### Sides -/
theorem sideB_iff {x : Int} : sideB x = true ↔ 1 ≤ x ∧ x ≤ 16 := by unfold sideB; simp
theorem ok_iff {s : List Int} : okS s = true ↔ s.length ≤ 3 ∧ s.all sideB = true ∧ prodS s ≤ 64 := by unfold okS; simp
theorem prod_pos {s : List Int} (h : s.all sideB = true) : 1 ≤ prodS s := by
  induction s with
  | nil => simp [prodS]
  | cons x s ih =>
    simp only [List.all_cons, Bool.and_eq_true] at h
    have h1 := (sideB_iff.1 h.1).1
    have h2 := ih h.2
    have := Int.mul_le_mul h1 h2 (by omega) (by omega)
    simpa [prodS] using this
theorem prod_append (s t : List Int) : prodS (s ++ t) = prodS s * prodS t := by
  induction s with
  | nil => simp [prodS]
  | cons x s ih => simp [prodS, ih, Int.mul_assoc]
theorem prod_snoc (s : List Int) (x : Int) : prodS (s ++ [x]) = prodS s * x := by simp [prod_append, prodS]
theorem prod_le {s : List Int} (h : s.all sideB = true) : prodS s ≤ ((16 ^ s.length : Nat) : Int) := by
  induction s with
  | nil => simp [prodS]
  | cons x s ih =>
    simp only [List.all_cons, Bool.and_eq_true] at h
    have h1 := sideB_iff.1 h.1
    have h2 := ih h.2
    have h3 := prod_pos h.2
    have h4 := Int.mul_le_mul h1.2 h2 (by omega) (by omega)
    simp only [prodS, List.length_cons]
    rw [Nat.pow_succ, Nat.mul_comm]
    push_cast at *
    omega
theorem prod_le2 {s : List Int} (h : s.all sideB = true) (hk : s.length ≤ 2) : prodS s ≤ 256 := by
  have := prod_le h
  have hp : (16 ^ s.length : Nat) ≤ 16 ^ 2 := Nat.pow_le_pow_right (by omega) hk
  omega
theorem prod_le3 {s : List Int} (h : s.all sideB = true) (hk : s.length ≤ 3) : prodS s ≤ 4096 := by
  have := prod_le h
  have hp : (16 ^ s.length : Nat) ≤ 16 ^ 3 := Nat.pow_le_pow_right (by omega) hk
  omega
theorem drop_of {α : Type} {s : List α} {k : Nat} {x : α} (h : s[k]? = some x) : s.drop k = x :: s.drop (k + 1) := by
  obtain ⟨hk, rfl⟩ := List.getElem?_eq_some_iff.1 h
  exact List.drop_eq_getElem_cons hk
theorem take_of {α : Type} {s : List α} {k : Nat} {x : α} (h : s[k]? = some x) : s.take (k + 1) = s.take k ++ [x] := by
  obtain ⟨hk, rfl⟩ := List.getElem?_eq_some_iff.1 h
  rw [List.take_succ_eq_append_getElem hk]
theorem all_take_of {s : List Int} {k : Nat} {x : Int} (h : s[k]? = some x) : (s.take (k + 1)).all sideB = ((s.take k).all sideB && sideB x) := by
  rw [take_of h]; simp
theorem all_false_of {s : List Int} {k : Nat} {x : Int} (h : s[k]? = some x) (hx : sideB x = false) : s.all sideB = false := by
  rw [List.all_eq_false]
  exact ⟨x, List.mem_of_getElem? h, by simp [hx]⟩
theorem all_drop {s : List Int} (h : s.all sideB = true) (k : Nat) : (s.drop k).all sideB = true := by
  rw [List.all_eq_true] at *
  exact fun x hx => h x (List.mem_of_mem_drop hx)
theorem all_take {s : List Int} (h : s.all sideB = true) (k : Nat) : (s.take k).all sideB = true := by
  rw [List.all_eq_true] at *
  exact fun x hx => h x (List.mem_of_mem_take hx)
theorem side_of {s : List Int} (h : s.all sideB = true) {k : Nat} {x : Int} (hx : s[k]? = some x) : 1 ≤ x ∧ x ≤ 16 :=
  sideB_iff.1 (List.all_eq_true.1 h x (List.mem_of_getElem? hx))

/-! ### Size -/
theorem size_long {s : List Int} (h : 3 < s.length) : sizeV s = 0 := by
  unfold sizeV; rw [if_neg]; intro c; have := (ok_iff.1 c).1; omega
theorem size_side {s : List Int} (h : s.all sideB = false) : sizeV s = 0 := by
  unfold sizeV; rw [if_neg]; intro c; have := (ok_iff.1 c).2.1; rw [h] at this; cases this
theorem size_big {s : List Int} (h : 64 < prodS s) : sizeV s = 0 := by
  unfold sizeV; rw [if_neg]; intro c; have := (ok_iff.1 c).2.2; omega
theorem size_fit {s : List Int} (h1 : s.length ≤ 3) (h2 : s.all sideB = true) (h3 : prodS s ≤ 64) : sizeV s = prodS s := by
  unfold sizeV; rw [if_pos (ok_iff.2 ⟨h1, h2, h3⟩)]
theorem size_ok {s : List Int} (h : okS s = true) : sizeV s = prodS s := by unfold sizeV; rw [if_pos h]
theorem size_no {s : List Int} (h : okS s = false) : sizeV s = 0 := by unfold sizeV; rw [if_neg (by simp [h])]
theorem ok_prod {s : List Int} (h : okS s = true) : 1 ≤ prodS s ∧ prodS s ≤ 64 := ⟨prod_pos (ok_iff.1 h).2.1, (ok_iff.1 h).2.2⟩
theorem size_pos {s : List Int} : decide (0 < sizeV s) = okS s := by
  cases h : okS s with
  | true => have := ok_prod h; rw [size_ok h]; simp; omega
  | false => rw [size_no h]; rfl
theorem size_le (s : List Int) : 0 ≤ sizeV s ∧ sizeV s ≤ 64 := by
  cases h : okS s with
  | true => have := ok_prod h; rw [size_ok h]; omega
  | false => rw [size_no h]; omega

/-! ### Places and indices -/
theorem digs_len (s : List Int) : ∀ p, (digs s p).length = s.length := by
  induction s with
  | nil => intro p; rfl
  | cons x s ih => intro p; simp [digs, ih]
theorem digs_in {s : List Int} (h : s.all sideB = true) : ∀ {p : Int}, 0 ≤ p → p < prodS s → inIdx s (digs s p) = true ∧ plc s (digs s p) = p := by
  induction s with
  | nil => intro p h0 h1; simp [prodS] at h1; exact ⟨rfl, by show (0 : Int) = p; omega⟩
  | cons x s ih =>
    intro p h0 h1
    simp only [List.all_cons, Bool.and_eq_true] at h
    have hp := prod_pos h.2
    have hm := Int.emod_nonneg p (show prodS s ≠ 0 by omega)
    have hl := Int.emod_lt_of_pos p (show 0 < prodS s by omega)
    obtain ⟨a, b⟩ := ih h.2 hm hl
    have hd : 0 ≤ p / prodS s := Int.ediv_nonneg h0 (by omega)
    have hx : p / prodS s < x := Int.ediv_lt_of_lt_mul (by omega) (by simpa [prodS] using h1)
    refine ⟨by simp [digs, inIdx, hd, hx, a], ?_⟩
    simp only [digs, plc, b]
    have := Int.mul_ediv_add_emod p (prodS s)
    rw [Int.mul_comm] at this
    exact this
theorem plc_in {s : List Int} (h : s.all sideB = true) : ∀ {t : List Int}, inIdx s t = true → 0 ≤ plc s t ∧ plc s t < prodS s ∧ digs s (plc s t) = t := by
  induction s with
  | nil => intro t ht; cases t with
    | nil => exact ⟨by simp [plc], by simp [plc, prodS], rfl⟩
    | cons i t => simp [inIdx] at ht
  | cons x s ih =>
    intro t ht
    cases t with
    | nil => simp [inIdx] at ht
    | cons i t =>
      simp only [List.all_cons, Bool.and_eq_true] at h
      simp only [inIdx, Bool.and_eq_true, decide_eq_true_eq] at ht
      have hp := prod_pos h.2
      obtain ⟨a, b, c⟩ := ih h.2 ht.2
      have h1 : 0 ≤ i * prodS s := Int.mul_nonneg ht.1.1 (by omega)
      have h2 : (i + 1) * prodS s ≤ x * prodS s := Int.mul_le_mul_of_nonneg_right (by omega) (by omega)
      have h3 : (i + 1) * prodS s = i * prodS s + prodS s := by rw [Int.add_mul, Int.one_mul]
      have e1 : (i * prodS s + plc s t) / prodS s = i := by
        rw [Int.add_comm, Int.add_mul_ediv_right _ _ (by omega), Int.ediv_eq_zero_of_lt a b]; omega
      have e2 : (i * prodS s + plc s t) % prodS s = plc s t := by
        rw [Int.add_comm, Int.add_mul_emod_self_right, Int.emod_eq_of_lt a b]
      refine ⟨by simp only [plc]; omega, by simp only [plc, prodS]; omega, ?_⟩
      simp only [plc, digs, e1, e2, c]
theorem in_len {s : List Int} : ∀ {t : List Int}, inIdx s t = true → t.length = s.length := by
  induction s with
  | nil => intro t h; cases t with
    | nil => rfl
    | cons _ _ => simp [inIdx] at h
  | cons x s ih => intro t h; cases t with
    | nil => simp [inIdx] at h
    | cons i t => simp only [inIdx, Bool.and_eq_true] at h; simp [ih h.2]
theorem index_yes {s : List Int} {p : Int} (h0 : 0 ≤ p) (h1 : p < sizeV s) : indexV s p = (digs s p, 0) := by unfold indexV; rw [if_pos ⟨h0, h1⟩]
theorem index_no {s : List Int} {p : Int} (h : p < 0 ∨ sizeV s ≤ p) : indexV s p = ([], 20) := by unfold indexV; rw [if_neg (by omega)]
theorem ok_of_lt {s : List Int} {p : Int} (h0 : 0 ≤ p) (h1 : p < sizeV s) : okS s = true := by
  cases h : okS s with
  | true => rfl
  | false => rw [size_no h] at h1; omega

/-- One round of the code: the first of what is left. -/
theorem digs_drop {s : List Int} (h : s.all sideB = true) {k : Nat} {x : Int} (hx : s[k]? = some x) (p : Int) (h0 : 0 ≤ p) (h1 : p < prodS (s.drop k)) :
    digs (s.drop k) p = p / prodS (s.drop (k + 1)) :: digs (s.drop (k + 1)) (p % prodS (s.drop (k + 1))) ∧ prodS (s.drop k) / x = prodS (s.drop (k + 1)) ∧ 1 ≤ prodS (s.drop (k + 1)) ∧
    0 ≤ p % prodS (s.drop (k + 1)) ∧ p % prodS (s.drop (k + 1)) < prodS (s.drop (k + 1)) ∧ 0 ≤ p / prodS (s.drop (k + 1)) ∧ p / prodS (s.drop (k + 1)) < x := by
  have hs := side_of h hx
  have hp := prod_pos (all_drop h (k + 1))
  rw [drop_of hx] at h1 ⊢
  refine ⟨rfl, ?_, hp, Int.emod_nonneg _ (by omega), Int.emod_lt_of_pos _ (by omega), Int.ediv_nonneg h0 (by omega), Int.ediv_lt_of_lt_mul (by omega) (by simpa [prodS] using h1)⟩
  simp only [prodS]
  exact Int.mul_ediv_cancel_left _ (by omega)
theorem emod_ediv (p x P : Int) (hx : 1 ≤ x) (hP : 1 ≤ P) : p % (x * P) / P = p / P % x := by
  have hm : 1 ≤ x * P := by have := Int.mul_le_mul hx hP (by omega) (by omega); omega
  have h0 := Int.emod_nonneg p (show x * P ≠ 0 by omega)
  have h1 := Int.emod_lt_of_pos p (show 0 < x * P by omega)
  have e := Int.mul_ediv_add_emod p (x * P)
  generalize p / (x * P) = q at e
  generalize p % (x * P) = r at *
  have e2 : p = r + (x * q) * P := by rw [← e, Int.add_comm, Int.mul_assoc, Int.mul_assoc, Int.mul_comm P q]
  rw [e2, Int.add_mul_ediv_right _ _ (by omega), Int.add_mul_emod_self_left]
  rw [Int.emod_eq_of_lt (Int.ediv_nonneg h0 (by omega)) (Int.ediv_lt_of_lt_mul (by omega) h1)]
/-- One round of the document: the last of what is ahead. -/
theorem digs_back {s : List Int} (h : s.all sideB = true) {k : Nat} {x : Int} (hx : s[k]? = some x) (p : Int) :
    digs (s.drop k) (p % prodS (s.drop k)) = (p / prodS (s.drop (k + 1))) % x :: digs (s.drop (k + 1)) (p % prodS (s.drop (k + 1))) ∧ p / prodS (s.drop k) = p / prodS (s.drop (k + 1)) / x := by
  have hs := side_of h hx
  have hp := prod_pos (all_drop h (k + 1))
  rw [drop_of hx]
  generalize s.drop (k + 1) = r at *
  simp only [prodS, digs]
  refine ⟨?_, ?_⟩
  · rw [emod_ediv p x (prodS r) hs.1 hp, Int.emod_emod_of_dvd p (Int.dvd_mul_left x (prodS r))]
  · rw [Int.ediv_ediv_of_nonneg (by omega), Int.mul_comm]

/-- One round of Place. -/
theorem plc_round {s t : List Int} (h : s.all sideB = true) {k : Nat} {x y acc : Int} (hx : s[k]? = some x) (hy : t[k]? = some y) (hin : inIdx (s.drop k) (t.drop k) = inIdx s t)
    (hacc : plc s t = acc * prodS (s.drop k) + plc (s.drop k) (t.drop k)) (h0 : 0 ≤ acc) (h1 : acc < prodS (s.take k)) (hy0 : 0 ≤ y) (hy1 : y < x) :
    inIdx (s.drop (k + 1)) (t.drop (k + 1)) = inIdx s t ∧ plc s t = (acc * x + y) * prodS (s.drop (k + 1)) + plc (s.drop (k + 1)) (t.drop (k + 1)) ∧ 0 ≤ acc * x ∧ acc * x + y < prodS (s.take (k + 1)) := by
  have hs := side_of h hx
  rw [drop_of hx, drop_of hy] at hin hacc
  simp only [inIdx, plc, prodS] at hin hacc
  refine ⟨?_, ?_, Int.mul_nonneg h0 (by omega), ?_⟩
  · rw [← hin]; simp [hy0, hy1]
  · rw [hacc, Int.add_mul, Int.mul_assoc, Int.add_assoc]
  · rw [take_of hx, prod_snoc]
    have := Int.mul_le_mul_of_nonneg_right (show acc + 1 ≤ prodS (s.take k) by omega) (show 0 ≤ x by omega)
    rw [Int.add_mul, Int.one_mul] at this
    omega
theorem in_out {s t : List Int} {k : Nat} {x y : Int} (hx : s[k]? = some x) (hy : t[k]? = some y) (hin : inIdx (s.drop k) (t.drop k) = inIdx s t) (h : y < 0 ∨ x ≤ y) : inIdx s t = false := by
  rw [← hin, drop_of hx, drop_of hy]
  simp only [inIdx]
  rw [decide_eq_false (by omega)]; rfl
theorem place_no {s t : List Int} (h : okS s = false ∨ inIdx s t = false) : placeV s t = (0, 20) := by
  unfold placeV; rw [if_neg]; rcases h with h | h <;> simp [h]
theorem place_yes {s t : List Int} (h : okS s = true) (h' : inIdx s t = true) : placeV s t = (plc s t, 0) := by unfold placeV; rw [if_pos (by simp [h, h'])]
theorem in_len_no {s t : List Int} (h : t.length ≠ s.length) : inIdx s t = false := by
  cases e : inIdx s t with
  | true => exact absurd (in_len e) h
  | false => rfl
/-- The document tries all. -/
theorem place_found {s t : List Int} {i : Int} (h0 : 0 ≤ i) (h1 : i < sizeV s) (h : digs s i = t) : placeV s t = (i, 0) := by
  have ho := ok_of_lt h0 h1
  obtain ⟨a, b⟩ := digs_in (ok_iff.1 ho).2.1 h0 (by rw [← size_ok ho]; exact h1)
  rw [h] at a b
  rw [place_yes ho a, b]
theorem place_tried {s t : List Int} {i : Int} (h : ∀ j, 0 ≤ j → j < i → digs s j ≠ t) (hi : sizeV s ≤ i) : placeV s t = (0, 20) := by
  cases ho : okS s with
  | false => exact place_no (.inl ho)
  | true =>
    cases e : inIdx s t with
    | false => exact place_no (.inr e)
    | true =>
      obtain ⟨a, b, c⟩ := plc_in (ok_iff.1 ho).2.1 e
      exact absurd c (h _ a (by rw [size_ok ho] at hi; omega))

/-! ### Indices stand as lists do -/
def lexF : Bool → Bool → List Int → List Int → Bool × Bool
  | l, d, x :: s, y :: t => lexF (l || (!d && decide (x < y))) (d || (x != y)) s t
  | l, d, _, _ => (l, d)
theorem lex_done (s : List Int) : ∀ (t : List Int) (l : Bool), lexF l true s t = (l, true) := by
  induction s with
  | nil => intro t l; simp [lexF]
  | cons x s ih => intro t l; cases t with
    | nil => simp [lexF]
    | cons y t => simp [lexF, ih]
theorem lex_digs {s : List Int} (h : s.all sideB = true) : ∀ {a b : Int}, 0 ≤ a → a < prodS s → 0 ≤ b → b < prodS s → lexF false false (digs s a) (digs s b) = (decide (a < b), decide (a ≠ b)) := by
  induction s with
  | nil => intro a b a0 a1 b0 b1; simp [prodS] at a1 b1; simp [digs, lexF]; omega
  | cons x s ih =>
    intro a b a0 a1 b0 b1
    simp only [List.all_cons, Bool.and_eq_true] at h
    have hp := prod_pos h.2
    have ea := Int.mul_ediv_add_emod a (prodS s)
    have eb := Int.mul_ediv_add_emod b (prodS s)
    have ma0 := Int.emod_nonneg a (show prodS s ≠ 0 by omega)
    have mb0 := Int.emod_nonneg b (show prodS s ≠ 0 by omega)
    have ma1 := Int.emod_lt_of_pos a (show 0 < prodS s by omega)
    have mb1 := Int.emod_lt_of_pos b (show 0 < prodS s by omega)
    have hi := ih h.2 ma0 ma1 mb0 mb1
    simp only [digs, lexF, Bool.not_false, Bool.true_and, Bool.false_or]
    generalize a % prodS s = m at *
    generalize b % prodS s = n at *
    generalize a / prodS s = q at *
    generalize b / prodS s = r at *
    generalize prodS s = P at *
    by_cases e : q = r
    · subst e
      simp only [Int.lt_irrefl, decide_false, bne_self_eq_false, hi]
      congr 1 <;> (rw [decide_eq_decide]; omega)
    · rw [show (q != r) = true by simpa using e, lex_done]
      rcases Int.lt_or_gt_of_ne e with g | g
      · have := Int.mul_le_mul_of_nonneg_left (show q + 1 ≤ r by omega) (show 0 ≤ P by omega)
        rw [Int.mul_add, Int.mul_one] at this
        rw [decide_eq_true g, decide_eq_true (by omega), decide_eq_true (by omega)]
      · have := Int.mul_le_mul_of_nonneg_left (show r + 1 ≤ q by omega) (show 0 ≤ P by omega)
        rw [Int.mul_add, Int.mul_one] at this
        rw [decide_eq_false (by omega), decide_eq_false (by omega), decide_eq_true (by omega)]
theorem lex_round {s t : List Int} {k : Nat} {x y : Int} {l d : Bool} (hx : s[k]? = some x) (hy : t[k]? = some y) : lexF l d (s.drop k) (t.drop k) = lexF (l || (!d && decide (x < y))) (d || (x != y)) (s.drop (k + 1)) (t.drop (k + 1)) := by
  rw [drop_of hx, drop_of hy]; rfl

end Go.Proofs.ShM
