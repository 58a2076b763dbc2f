/- Plain arithmetic under layer 2 (shape): shapes that are joined. No program stands here. -/
import Derived.Test.YtdekchfapblgeaaShapeMath
namespace Go.Proofs.ShM

/-- What holds at the head of a round: what is joined so far. -/
def JRel (P Q : List Int) (k : Nat) (zs : List Int) : Prop := k ≤ P.length ∧ P.length = Q.length ∧ zs.length = k ∧ joinL P Q = (joinL (P.drop k) (Q.drop k)).map (zs ++ ·)
theorem j_start {P Q : List Int} (h : P.length = Q.length) : JRel P Q 0 [] := ⟨Nat.zero_le _, h, rfl, by simp⟩
theorem j_step {P Q : List Int} {k : Nat} {zs ys : List Int} {x y z : Int} (h : JRel P Q k zs) (hx : P[k]? = some x) (hy : Q[k]? = some y) (hz : jn x y = some z) (he : ys = zs ++ [z]) : JRel P Q (k + 1) ys := by
  obtain ⟨_, h2, h3, h4⟩ := h
  subst he
  refine ⟨(List.getElem?_eq_some_iff.1 hx).1, h2, by simp [h3], ?_⟩
  rw [h4, drop_of hx, drop_of hy]
  simp only [joinL, hz, Option.bind_some, Option.map_map]
  congr 1
  funext l
  simp
theorem j_stop {P Q : List Int} {k : Nat} {zs : List Int} {x y : Int} (h : JRel P Q k zs) (hx : P[k]? = some x) (hy : Q[k]? = some y) (hz : jn x y = none) : joinL P Q = none := by
  obtain ⟨_, h2, h3, h4⟩ := h
  rw [h4, drop_of hx, drop_of hy]
  simp [joinL, hz]
theorem j_end {P Q : List Int} {k : Nat} {zs : List Int} (h : JRel P Q k zs) (hk : k = P.length) : joinL P Q = some zs := by
  obtain ⟨_, h2, h3, h4⟩ := h
  subst hk
  rw [h4, List.drop_length, h2, List.drop_length]
  simp [joinL]
theorem jn_same {x y : Int} (h : x = y) : jn x y = some x := by unfold jn; rw [if_pos (.inl h)]
theorem jn_right {x y : Int} (h : y = 1) : jn x y = some x := by unfold jn; rw [if_pos (.inr h)]
theorem jn_left {x y : Int} (h : x = 1) : jn x y = some y := by
  unfold jn
  by_cases c : x = y ∨ y = 1
  · rw [if_pos c]; rcases c with c | c <;> simp [c] at h ⊢ <;> omega
  · rw [if_neg c, if_pos h]
theorem jn_none {x y : Int} (h : x ≠ y) (h1 : y ≠ 1) (h2 : x ≠ 1) : jn x y = none := by unfold jn; rw [if_neg (by simp [h, h1]), if_neg h2]
theorem join_yes {a b l : List Int} (ha : okS a = true) (hb : okS b = true) (hj : joinO a b = some l) (hl : okS l = true) : joinV a b = (l, 0) := by
  unfold joinV; rw [if_pos (by simp [ha, hb]), hj]; simp [hl]
theorem join_big {a b l : List Int} (ha : okS a = true) (hb : okS b = true) (hj : joinO a b = some l) (hl : okS l = false) : joinV a b = ([], 20) := by
  unfold joinV; rw [if_pos (by simp [ha, hb]), hj]; simp [hl]
theorem join_none {a b : List Int} (ha : okS a = true) (hb : okS b = true) (hj : joinO a b = none) : joinV a b = ([], 20) := by
  unfold joinV; rw [if_pos (by simp [ha, hb]), hj]
theorem join_no {a b : List Int} (h : okS a = false ∨ okS b = false) : joinV a b = ([], 20) := by
  unfold joinV; rw [if_neg]; rcases h with h | h <;> simp [h]
theorem padl {n : Nat} {s : List Int} (h : s.length ≤ n) : (pad n s).length = n := by unfold pad; simp; omega
theorem pad_side {n : Nat} {s : List Int} (h : s.all sideB = true) : (pad n s).all sideB = true := by
  unfold pad
  rw [List.all_append, h, Bool.and_true, List.all_eq_true]
  intro x hx
  rw [(List.mem_replicate.1 hx).2]; rfl

/-! ### From the last side on -/
/-- Two shapes, the last side first. -/
def joinR : List Int → List Int → Option (List Int)
  | [], t => some t
  | x :: s, [] => some (x :: s)
  | x :: s, y :: t => (jn x y).bind fun h => (joinR s t).map (h :: ·)
theorem joinR_nil (s : List Int) : joinR s [] = some s := by cases s <;> rfl
theorem jn_comm (x y : Int) : jn x y = jn y x := by
  by_cases h1 : x = y
  · subst h1; rfl
  · by_cases h2 : y = 1
    · rw [jn_right h2, jn_left h2]
    · by_cases h3 : x = 1
      · rw [jn_left h3, jn_right h3]
      · rw [jn_none h1 h2 h3, jn_none (Ne.symm h1) h3 h2]
theorem joinR_comm (s : List Int) : ∀ t, joinR s t = joinR t s := by
  induction s with
  | nil => intro t; rw [joinR_nil]; rfl
  | cons x s ih => intro t; cases t with
    | nil => rfl
    | cons y t => simp only [joinR, jn_comm x y, ih t]
theorem jn_assoc (x y z : Int) : (jn x y).bind (jn · z) = (jn y z).bind (jn x ·) := by
  by_cases hx : x = 1
  · rw [jn_left hx]
    simp only [Option.bind_some]
    cases h : jn y z with
    | none => rfl
    | some v => simp [jn_left hx]
  · by_cases hy : y = 1
    · rw [jn_right hy, jn_left hy]; rfl
    · by_cases hz : z = 1
      · rw [jn_right hz]
        cases h : jn x y with
        | none => simp [h]
        | some v => simp [h, jn_right hz]
      · by_cases h1 : x = y
        · rw [jn_same h1]
          by_cases h2 : y = z
          · rw [jn_same h2]; simp [jn_same h1, jn_same (h1.trans h2)]
          · rw [jn_none h2 hz hy]; simp only [Option.bind_some, Option.bind_none]; exact jn_none (by omega) hz hx
        · rw [jn_none h1 hy hx]
          by_cases h2 : y = z
          · rw [jn_same h2]; simp only [Option.bind_some, Option.bind_none]; rw [jn_none h1 hy hx]
          · rw [jn_none h2 hz hy]; rfl
theorem joinR_assoc (s : List Int) : ∀ t u, (joinR s t).bind (joinR · u) = (joinR t u).bind (joinR s ·) := by
  induction s with
  | nil => intro t u; simp [joinR]
  | cons x s ih =>
    intro t u
    cases t with
    | nil => simp [joinR]
    | cons y t =>
      cases u with
      | nil => simp [joinR_nil]
      | cons z u =>
        have ha := jn_assoc x y z
        have hi := ih t u
        simp only [joinR]
        cases e1 : jn x y with
        | none =>
          rw [e1] at ha
          simp only [Option.bind_none] at ha ⊢
          cases e2 : jn y z with
          | none => rfl
          | some v =>
            rw [e2] at ha
            simp only [Option.bind_some] at ha ⊢
            cases joinR t u with
            | none => rfl
            | some l => simp [joinR, ← ha]
        | some v =>
          rw [e1] at ha
          simp only [Option.bind_some] at ha ⊢
          cases e3 : joinR s t with
          | none =>
            rw [e3] at hi
            simp only [Option.bind_none, Option.map_none] at hi ⊢
            cases e2 : jn y z with
            | none => rfl
            | some v2 =>
              simp only [Option.bind_some]
              cases e4 : joinR t u with
              | none => rfl
              | some l =>
                rw [e4] at hi
                simp only [Option.bind_some, Option.map_some] at hi ⊢
                simp [joinR, ← hi]
          | some l =>
            rw [e3] at hi
            simp only [Option.map_some, Option.bind_some] at hi ⊢
            simp only [joinR]
            cases e2 : jn y z with
            | none =>
              rw [e2] at ha
              simp only [Option.bind_none] at ha ⊢
              rw [ha]; rfl
            | some v2 =>
              rw [e2] at ha
              simp only [Option.bind_some] at ha ⊢
              rw [ha, hi]
              cases e4 : joinR t u with
              | none => cases jn x v2 <;> rfl
              | some l2 => simp [joinR]
theorem joinR_self (s : List Int) : joinR s s = some s := by
  induction s with
  | nil => rfl
  | cons x s ih => simp [joinR, jn_same, ih]
theorem joinR_len (s : List Int) : ∀ {t l}, joinR s t = some l → l.length = max s.length t.length := by
  induction s with
  | nil => intro t l h; simp [joinR] at h; subst h; simp
  | cons x s ih =>
    intro t l h
    cases t with
    | nil => simp [joinR] at h; subst h; simp
    | cons y t =>
      simp only [joinR] at h
      obtain ⟨v, _, h⟩ := Option.bind_eq_some_iff.1 h
      obtain ⟨m, hm, rfl⟩ := Option.map_eq_some_iff.1 h
      have := ih hm
      simp; omega
theorem jn_mem {x y z : Int} (h : jn x y = some z) : z = x ∨ z = y := by
  unfold jn at h
  split at h
  · exact .inl (Option.some.inj h).symm
  · split at h
    · exact .inr (Option.some.inj h).symm
    · cases h
theorem jn_le {x y z : Int} (h : jn x y = some z) (hx : 1 ≤ x) (hy : 1 ≤ y) : x ≤ z ∧ y ≤ z := by
  unfold jn at h
  split at h
  · have := Option.some.inj h; omega
  · split at h
    · have := Option.some.inj h; omega
    · cases h
theorem joinR_side (s : List Int) : ∀ {t l}, joinR s t = some l → s.all sideB = true → t.all sideB = true → l.all sideB = true ∧ prodS s ≤ prodS l ∧ prodS t ≤ prodS l := by
  induction s with
  | nil =>
    intro t l h hs ht
    simp [joinR] at h; subst h
    have := prod_pos ht
    exact ⟨ht, by simpa [prodS] using this, Int.le_refl _⟩
  | cons x s ih =>
    intro t l h hs ht
    cases t with
    | nil =>
      simp [joinR] at h; subst h
      have := prod_pos hs
      exact ⟨hs, Int.le_refl _, by simpa [prodS] using this⟩
    | cons y t =>
      simp only [joinR] at h
      obtain ⟨v, hv, h⟩ := Option.bind_eq_some_iff.1 h
      obtain ⟨m, hm, rfl⟩ := Option.map_eq_some_iff.1 h
      simp only [List.all_cons, Bool.and_eq_true] at hs ht ⊢
      obtain ⟨i1, i2, i3⟩ := ih hm hs.2 ht.2
      have hx := sideB_iff.1 hs.1
      have hy := sideB_iff.1 ht.1
      have hl := jn_le hv hx.1 hy.1
      have p1 := prod_pos hs.2
      have p2 := prod_pos ht.2
      refine ⟨⟨?_, i1⟩, ?_, ?_⟩
      · rcases jn_mem hv with e | e <;> rw [e]
        · exact hs.1
        · exact ht.1
      · exact Int.mul_le_mul hl.1 i2 (by omega) (by omega)
      · exact Int.mul_le_mul hl.2 i3 (by omega) (by omega)

/-! ### The two ways to join are one -/
theorem joinR_snoc (s : List Int) : ∀ {t : List Int} (x y : Int), s.length = t.length → joinR (s ++ [x]) (t ++ [y]) = (joinR s t).bind fun l => (jn x y).map fun z => l ++ [z] := by
  induction s with
  | nil =>
    intro t x y h
    obtain rfl : t = [] := List.eq_nil_of_length_eq_zero h.symm
    simp [joinR]
    cases jn x y <;> rfl
  | cons u s ih =>
    intro t x y h
    cases t with
    | nil => simp at h
    | cons v t =>
      simp only [List.cons_append, joinR]
      rw [ih x y (by simpa using h)]
      cases jn u v with
      | none => rfl
      | some q =>
        cases joinR s t with
        | none => rfl
        | some l => simp only [Option.bind_some, Option.map_some]; cases jn x y <;> rfl
theorem joinL_R (P : List Int) : ∀ {Q : List Int}, P.length = Q.length → joinL P Q = (joinR P.reverse Q.reverse).map List.reverse := by
  induction P with
  | nil => intro Q h; obtain rfl : Q = [] := List.eq_nil_of_length_eq_zero h.symm; rfl
  | cons x P ih =>
    intro Q h
    cases Q with
    | nil => simp at h
    | cons y Q =>
      have hl : P.length = Q.length := by simpa using h
      simp only [List.reverse_cons, joinL]
      rw [joinR_snoc _ x y (by simpa using hl), ih hl]
      cases jn x y with
      | none => cases joinR P.reverse Q.reverse <;> rfl
      | some z => cases joinR P.reverse Q.reverse <;> simp
theorem joinR_ones (s : List Int) : ∀ {t : List Int} (k : Nat), s.length + k ≤ t.length → t.all sideB = true → joinR (s ++ List.replicate k 1) t = joinR s t := by
  induction s with
  | nil =>
    intro t k
    induction k generalizing t with
    | zero => intro _ _; rfl
    | succ k ih =>
      intro h ht
      cases t with
      | nil => simp at h
      | cons y t =>
        simp only [List.all_cons, Bool.and_eq_true] at ht
        have := ih (t := t) (by simp at h ⊢; omega) ht.2
        simp only [List.nil_append, List.replicate_succ, joinR] at this ⊢
        rw [this, jn_left rfl]; rfl
  | cons x s ih =>
    intro t k h ht
    cases t with
    | nil => simp at h
    | cons y t =>
      simp only [List.all_cons, Bool.and_eq_true] at ht
      simp only [List.cons_append, joinR]
      rw [ih k (by simp at h ⊢; omega) ht.2]
theorem joinO_R {a b : List Int} (ha : a.all sideB = true) (hb : b.all sideB = true) : joinO a b = (joinR a.reverse b.reverse).map List.reverse := by
  unfold joinO
  rw [joinL_R _ (by rw [padl (by omega), padl (by omega)])]
  congr 1
  unfold pad
  simp only [List.reverse_append, List.reverse_replicate]
  rcases Nat.le_total a.length b.length with h | h
  · rw [Nat.max_eq_right h, Nat.sub_self, List.replicate_zero, List.append_nil, joinR_ones _ _ (by simp; omega) (by simpa using hb)]
  · rw [Nat.max_eq_left h, Nat.sub_self, List.replicate_zero, List.append_nil, joinR_comm, joinR_ones _ _ (by simp; omega) (by simpa using ha), joinR_comm]

/-! ### What follows -/
theorem ok_rev {s : List Int} : (s.reverse).all sideB = s.all sideB := by simp
theorem prod_rev (s : List Int) : prodS s.reverse = prodS s := by
  induction s with
  | nil => rfl
  | cons x s ih => rw [List.reverse_cons, prod_snoc, ih, prodS, Int.mul_comm]
/-- Of two that may be: they are joined to c. -/
def Jn (a b c : List Int) : Prop := okS a = true ∧ okS b = true ∧ okS c = true ∧ joinR a.reverse b.reverse = some c.reverse
theorem join_iff {a b c : List Int} : joinV a b = (c, 0) ↔ Jn a b c := by
  unfold Jn
  constructor
  · intro h
    unfold joinV at h
    by_cases h1 : (okS a && okS b) = true
    · rw [if_pos h1] at h
      simp only [Bool.and_eq_true] at h1
      have hr := joinO_R (ok_iff.1 h1.1).2.1 (ok_iff.1 h1.2).2.1
      cases hj : joinO a b with
      | none => rw [hj] at h; simp at h
      | some l =>
        rw [hj] at h hr
        simp only at h
        by_cases h2 : okS l = true
        · rw [if_pos h2] at h
          obtain rfl : l = c := (Prod.mk.inj h).1
          refine ⟨h1.1, h1.2, h2, ?_⟩
          obtain ⟨m, hm, hl⟩ := Option.map_eq_some_iff.1 hr.symm
          rw [hm, ← hl]; simp
        · rw [if_neg h2] at h; simp at h
    · rw [if_neg h1] at h; simp at h
  · rintro ⟨ha, hb, hc, h⟩
    have hr := joinO_R (ok_iff.1 ha).2.1 (ok_iff.1 hb).2.1
    rw [h] at hr
    exact join_yes ha hb (by rw [hr]; simp) hc
theorem join_cases (a b : List Int) : (∃ c, joinV a b = (c, 0) ∧ okS c = true) ∨ joinV a b = ([], 20) := by
  cases ha : okS a with
  | false => exact .inr (join_no (.inl ha))
  | true =>
    cases hb : okS b with
    | false => exact .inr (join_no (.inr hb))
    | true =>
      cases hj : joinO a b with
      | none => exact .inr (join_none ha hb hj)
      | some l =>
        cases hl : okS l with
        | false => exact .inr (join_big ha hb hj hl)
        | true => exact .inl ⟨l, join_yes ha hb hj hl, hl⟩
theorem Jn.comm {a b c : List Int} (h : Jn a b c) : Jn b a c := ⟨h.2.1, h.1, h.2.2.1, by rw [joinR_comm]; exact h.2.2.2⟩
theorem join_comm (a b : List Int) : joinV a b = joinV b a := by
  rcases join_cases a b with ⟨c, h, _⟩ | h
  · rw [h]; exact (join_iff.2 (join_iff.1 h).comm).symm
  · rcases join_cases b a with ⟨d, g, _⟩ | g
    · have := join_iff.2 (join_iff.1 g).comm
      rw [h] at this; simp at this
    · rw [h, g]
theorem Jn.det {a b c d : List Int} (h : Jn a b c) (g : Jn a b d) : c = d := by
  have := h.2.2.2.symm.trans g.2.2.2
  simpa using this
theorem Jn.assoc {a b c ab bc r : List Int} (h : Jn a b ab) (g : Jn b c bc) (k : Jn ab c r) : Jn a bc r := by
  have := joinR_assoc a.reverse b.reverse c.reverse
  rw [h.2.2.2, g.2.2.2] at this
  exact ⟨h.1, g.2.2.1, k.2.2.1, this.symm.trans k.2.2.2⟩
theorem Jn.assoc' {a b c ab bc r : List Int} (h : Jn a b ab) (g : Jn b c bc) (k : Jn a bc r) : Jn ab c r := by
  have := joinR_assoc a.reverse b.reverse c.reverse
  rw [h.2.2.2, g.2.2.2] at this
  exact ⟨h.2.2.1, g.2.1, k.2.2.1, this.trans k.2.2.2⟩
theorem Jn.self {a : List Int} (h : okS a = true) : Jn a a a := ⟨h, h, h, joinR_self _⟩
theorem Jn.nil_ {a : List Int} (h : okS a = true) : Jn [] a a := ⟨by decide, h, h, rfl⟩
theorem fits_iff {a b : List Int} : fitsV a b = true ↔ Jn a b b := by unfold fitsV; rw [decide_eq_true_eq]; exact join_iff
theorem Jn.left {a b c : List Int} (h : Jn a b c) : Jn a c c := (Jn.self h.1).assoc h h
theorem Jn.right {a b c : List Int} (h : Jn a b c) : Jn b c c := h.comm.left
theorem Jn.trans {a b c : List Int} (h : Jn a b b) (g : Jn b c c) : Jn a c c := h.assoc g g
theorem Jn.anti {a b : List Int} (h : Jn a b b) (g : Jn b a a) : a = b := g.comm.det h
theorem Jn.sizes {a b : List Int} (h : Jn a b b) : prodS a ≤ prodS b ∧ a.length ≤ b.length := by
  have h1 := joinR_side _ h.2.2.2 (by rw [ok_rev]; exact (ok_iff.1 h.1).2.1) (by rw [ok_rev]; exact (ok_iff.1 h.2.1).2.1)
  have h2 := joinR_len _ h.2.2.2
  rw [prod_rev, prod_rev] at h1
  simp only [List.length_reverse] at h2
  exact ⟨h1.2.1, by omega⟩
end Go.Proofs.ShM
