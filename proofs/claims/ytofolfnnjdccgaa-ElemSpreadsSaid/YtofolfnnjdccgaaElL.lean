/- Plain facts of layer 4's laws: what two tensors are reckoned to, number by number. -/
import Derived.Test.YtofolfnnjdccgaaElM
namespace Go.Proofs.ShM
open Go.Proofs.FixM

theorem mapE_of {α : Type} {f : α → Int × Int} {l : List α} {g : α → Int} (h : ∀ x ∈ l, f x = (g x, 0)) : mapE f l = (l.map g, 0) := by
  have e : firstE f l = 0 := firstE_zero.2 fun x hx => by rw [h x hx]
  unfold mapE
  rw [if_pos e]
  congr 1
  exact List.map_congr_left fun x hx => by rw [h x hx]
theorem mapE_eq {α : Type} {f g : α → Int × Int} {l : List α} (h : ∀ x ∈ l, f x = g x) : mapE f l = mapE g l := by
  have := mapE_congr (F := f) (f := g) (h := fun x => x) (l := l) h
  simpa using this
theorem mapE_get {f : Nat → Int × Int} {N : Nat} (h : (mapE f (List.range N)).2 = 0) {i : Nat} (hi : i < N) : f i = ((mapE f (List.range N)).1.getD i 0, 0) := by
  obtain ⟨h1, h2⟩ := mapE_ok h
  rw [h2]
  have h3 := firstE_zero.1 h1 i (List.mem_range.2 hi)
  refine Prod.ext ?_ h3
  simp [List.getD, List.getElem?_map, List.getElem?_range hi]

/-- The two numbers' answer at a place. -/
def atN (op : Int) (s xs t ys j : List Int) (i : Nat) : Int × Int := numsV op (xs.getD (srcI s j i).toNat 0) (ys.getD (srcI t j i).toNat 0)
def endT (j : List Int) (r : List Int × Int) : Tn := if r.2 = 0 then (j, r.1, 0) else ([], [], r.2)
theorem endT_ok {j l : List Int} : endT j (l, 0) = (j, l, 0) := by unfold endT; rw [if_pos rfl]
theorem endT_zero {j : List Int} {r : List Int × Int} (h : (endT j r).2.2 = 0) : r.2 = 0 ∧ endT j r = (j, r.1, 0) := by
  unfold endT at *
  by_cases c : r.2 = 0
  · rw [if_pos c]; exact ⟨c, rfl⟩
  · rw [if_neg c] at h; exact absurd h c

theorem joined {s t j : List Int} (h : joinV s t = (j, 0)) : okS s = true ∧ okS t = true ∧ okS j = true ∧ fitsV s j = true ∧ fitsV t j = true := by
  have h' := join_iff.1 h
  exact ⟨h'.1, h'.2.1, h'.2.2.1, fits_iff.2 h'.left, fits_iff.2 h'.right⟩

theorem spread_is {s xs g : List Int} (h : tokV s xs = true) (k : fitsV s g = true) : spreadV s xs g = (g, spreadL s xs g (sizeV g).toNat, 0) := by unfold spreadV; rw [if_pos h, if_pos k]

section
variable {op : Int} {s xs t ys j : List Int}
theorem two_form (hop : 10 ≤ op ∧ op ≤ 13) (h1 : tokV s xs = true) (h2 : tokV t ys = true) (hj : joinV s t = (j, 0)) : twoV op s xs t ys = endT j (mapE (atN op s xs t ys j) (List.range (sizeV j).toNat)) := by
  obtain ⟨_, _, _, f1, f2⟩ := joined hj
  have e1 : spreadV s xs j = (j, spreadL s xs j (sizeV j).toNat, 0) := spread_is h1 f1
  have e2 : spreadV t ys j = (j, spreadL t ys j (sizeV j).toNat, 0) := spread_is h2 f2
  have e3 : two2 op (spreadL s xs j (sizeV j).toNat) (spreadL t ys j (sizeV j).toNat) = mapE (atN op s xs t ys j) (List.range (sizeV j).toNat) := by
    unfold two2 spreadL
    rw [List.zip_map']
    exact mapE_congr fun i _ => rfl
  unfold twoV
  rw [if_neg (by omega), if_neg (by simp [h1, h2]), hj]
  dsimp only
  rw [if_neg (by simp), e1, e2]
  dsimp only
  rw [e3]
  rfl
theorem two_nojoin (hop : 10 ≤ op ∧ op ≤ 13) (h1 : tokV s xs = true) (h2 : tokV t ys = true) (hj : joinV s t = ([], 20)) : twoV op s xs t ys = ([], [], 20) := by
  unfold twoV
  rw [if_neg (by omega), if_neg (by simp [h1, h2]), hj]
  rfl
theorem two_notok (hop : 10 ≤ op ∧ op ≤ 13) (h : tokV s xs = false ∨ tokV t ys = false) : twoV op s xs t ys = ([], [], 30) := by
  unfold twoV
  rw [if_neg (by omega), if_pos h]
theorem two_noop (hop : op < 10 ∨ 13 < op) : twoV op s xs t ys = ([], [], 1) := by unfold twoV; rw [if_pos hop]
/-- An answer without an error. -/
theorem two_zero (hop : 10 ≤ op ∧ op ≤ 13) (h : (twoV op s xs t ys).2.2 = 0) : ∃ j Z, tokV s xs = true ∧ tokV t ys = true ∧ joinV s t = (j, 0) ∧ twoV op s xs t ys = (j, Z, 0) ∧ Z.length = (sizeV j).toNat ∧ tokV j Z = true ∧ ∀ i, i < (sizeV j).toNat → atN op s xs t ys j i = (Z.getD i 0, 0) := by
  cases h1 : tokV s xs with
  | false => rw [two_notok hop (.inl h1)] at h; cases h
  | true =>
    cases h2 : tokV t ys with
    | false => rw [two_notok hop (.inr h2)] at h; cases h
    | true =>
      rcases join_cases s t with ⟨j, hj, ho⟩ | hj
      · rw [two_form hop h1 h2 hj] at h
        obtain ⟨z, e⟩ := endT_zero h
        have hl : (mapE (atN op s xs t ys j) (List.range (sizeV j).toNat)).1.length = (sizeV j).toNat := by rw [mapE_len z]; simp
        refine ⟨j, _, rfl, rfl, hj, by rw [two_form hop h1 h2 hj, e], hl, ?_, fun i hi => mapE_get z hi⟩
        exact tok_iff.2 ⟨ho, by rw [hl, size_nat ho]⟩
      · rw [two_nojoin hop h1 h2 hj] at h; cases h
/-- .. and which it is. -/
theorem two_is {Z : List Int} (hop : 10 ≤ op ∧ op ≤ 13) (h1 : tokV s xs = true) (h2 : tokV t ys = true) (hj : joinV s t = (j, 0)) (hl : Z.length = (sizeV j).toNat) (h : ∀ i, i < (sizeV j).toNat → atN op s xs t ys j i = (Z.getD i 0, 0)) : twoV op s xs t ys = (j, Z, 0) := by
  rw [two_form hop h1 h2 hj, mapE_of (g := fun i => Z.getD i 0) (fun i hi => h i (List.mem_range.1 hi)), endT_ok]
  have : (List.range (sizeV j).toNat).map (fun i => Z.getD i 0) = Z := by
    refine ext0 (by simp [hl]) fun i hi => ?_
    have hi' : i < (sizeV j).toNat := by simpa using hi
    simp [List.getD, List.getElem?_map, List.getElem?_range hi']
  rw [this]
/-- Two are reckoned alike where each two numbers are. -/
theorem two_alike {op' : Int} {s' xs' t' ys' : List Int} (hop : 10 ≤ op ∧ op ≤ 13) (hop' : 10 ≤ op' ∧ op' ≤ 13) (h1 : tokV s xs = true) (h2 : tokV t ys = true) (h1' : tokV s' xs' = true) (h2' : tokV t' ys' = true) (hj : joinV s t = (j, 0)) (hj' : joinV s' t' = (j, 0))
    (h : ∀ i, i < (sizeV j).toNat → atN op s xs t ys j i = atN op' s' xs' t' ys' j i) : twoV op s xs t ys = twoV op' s' xs' t' ys' := by
  rw [two_form hop h1 h2 hj, two_form hop' h1' h2' hj']
  rw [mapE_eq fun i hi => h i (List.mem_range.1 hi)]
end

theorem put_i64 (n : Int) : -9223372036854775808 ≤ (put n).1 ∧ (put n).1 ≤ 9223372036854775807 := by
  rcases put_cases n with ⟨h1, h2, e⟩ | ⟨_, e⟩
  · rw [e]; exact ⟨h1, h2⟩
  · rw [e]; simp
theorem nums_i64 (op a b : Int) : -9223372036854775808 ≤ (numsV op a b).1 ∧ (numsV op a b).1 ≤ 9223372036854775807 := by
  unfold numsV addV subV mulV divV
  repeat' split
  all_goals first
    | exact put_i64 _
    | simp
theorem two_err (op : Int) (s xs t ys : List Int) (h : (twoV op s xs t ys).2.2 ≠ 0) : twoV op s xs t ys = ([], [], (twoV op s xs t ys).2.2) := by
  by_cases hop : op < 10 ∨ 13 < op
  · rw [two_noop hop]
  · have hop' : 10 ≤ op ∧ op ≤ 13 := by omega
    cases h1 : tokV s xs with
    | false => rw [two_notok hop' (.inl h1)]
    | true =>
      cases h2 : tokV t ys with
      | false => rw [two_notok hop' (.inr h2)]
      | true =>
        rcases join_cases s t with ⟨j, hj, _⟩ | hj
        · rw [two_form hop' h1 h2 hj] at h ⊢
          unfold endT at *
          by_cases c : (mapE (atN op s xs t ys j) (List.range (sizeV j).toNat)).2 = 0
          · rw [if_pos c] at h; exact absurd rfl h
          · rw [if_neg c]
        · rw [two_nojoin hop' h1 h2 hj]
theorem two_i64 (op : Int) (s xs t ys : List Int) : I64s (twoV op s xs t ys).2.1 := by
  by_cases hop : op < 10 ∨ 13 < op
  · rw [two_noop hop]; exact I64s.nil_
  · have hop' : 10 ≤ op ∧ op ≤ 13 := by omega
    by_cases h : (twoV op s xs t ys).2.2 = 0
    · obtain ⟨j, Z, _, _, _, e, hl, _, hz⟩ := two_zero hop' h
      rw [e]
      intro x hx
      obtain ⟨i, hi, rfl⟩ := List.mem_iff_getElem.1 hx
      have h1 := hz i (by rw [← hl]; exact hi)
      have h2 : Z.getD i 0 = Z[i] := by simp [List.getD, List.getElem?_eq_getElem hi]
      rw [h2] at h1
      have h3 := nums_i64 op (xs.getD (srcI s j i).toNat 0) (ys.getD (srcI t j i).toNat 0)
      unfold atN at h1
      rw [h1] at h3
      exact h3
    · rw [two_err op s xs t ys h]; exact I64s.nil_
theorem addV_comm (a b : Int) : addV a b = addV b a := by unfold addV; rw [Int.add_comm]
theorem mulV_comm (a b : Int) : mulV a b = mulV b a := by unfold mulV; rw [Int.mul_comm]
theorem two_comm {op : Int} (hop : op = 10 ∨ op = 12) {s xs t ys : List Int} (h1 : tokV s xs = true) (h2 : tokV t ys = true) : twoV op s xs t ys = twoV op t ys s xs := by
  have hop' : 10 ≤ op ∧ op ≤ 13 := by omega
  rcases join_cases s t with ⟨j, hj, _⟩ | hj
  · refine two_alike hop' hop' h1 h2 h2 h1 hj (by rw [join_comm]; exact hj) fun i _ => ?_
    unfold atN
    rcases hop with rfl | rfl
    · exact addV_comm _ _
    · exact mulV_comm _ _
  · rw [two_nojoin hop' h1 h2 hj, two_nojoin hop' h2 h1 (by rw [join_comm]; exact hj)]
theorem put_zero (n : Int) (h : -9223372036854775808 ≤ n ∧ n ≤ 9223372036854775807) : put n = (n, 0) := put_in h.1 h.2
theorem put_ok {n z : Int} (h : put n = (z, 0)) : z = n ∧ -9223372036854775808 ≤ n ∧ n ≤ 9223372036854775807 := by
  rcases put_cases n with ⟨h1, h2, e⟩ | ⟨_, e⟩
  · rw [e] at h; injection h with h _; exact ⟨h.symm, h1, h2⟩
  · rw [e] at h; injection h with _ h; cases h
theorem join_self {s : List Int} (h : okS s = true) : joinV s s = (s, 0) := join_iff.2 (Jn.self h)
theorem src_id {s xs : List Int} (h : tokV s xs = true) {i : Nat} (hi : i < (sizeV s).toNat) : (srcI s s i).toNat = i := by
  have ho := (tok_len h).1
  have := size_nat ho
  rw [src_self ho (by omega) (by omega)]
  omega
theorem getD_i64 {xs : List Int} (h : I64s xs) (i : Nat) : -9223372036854775808 ≤ xs.getD i 0 ∧ xs.getD i 0 ≤ 9223372036854775807 := by
  cases hi : xs[i]? with
  | none => rw [List.getD, hi]; simp
  | some x => rw [List.getD, hi]; exact h.get hi
/-- A tensor less itself. -/
theorem two_self {s xs : List Int} (h : tokV s xs = true) : twoV 11 s xs s xs = (s, List.replicate (sizeV s).toNat 0, 0) := by
  refine two_is (by omega) h h (join_self (tok_len h).1) (by simp) fun i hi => ?_
  unfold atN
  rw [show ∀ a b, numsV 11 a b = subV a b from fun a b => rfl]
  unfold subV
  rw [Int.sub_self, put_zero 0 (by omega), rep_getD _ _ _ hi]
/-- What was added is taken away again. -/
theorem two_back {s xs t ys : List Int} (hx : I64s xs) (h : (twoV 10 s xs t ys).2.2 = 0) :
    ∃ j Z, twoV 10 s xs t ys = (j, Z, 0) ∧ twoV 11 j Z t ys = (j, spreadL s xs j (sizeV j).toNat, 0) ∧ spreadV s xs j = (j, spreadL s xs j (sizeV j).toNat, 0) := by
  obtain ⟨j, Z, h1, h2, hj, e, hl, hk, hz⟩ := two_zero (by omega) h
  obtain ⟨_, _, hoj, f1, f2⟩ := joined hj
  refine ⟨j, Z, e, ?_, spread_is h1 f1⟩
  refine two_is (by omega) hk h2 (join_iff.2 (fits_iff.1 f2).comm) (spread_len _ _ _ _) fun i hi => ?_
  have hz' := hz i hi
  unfold atN at *
  rw [show ∀ a b, numsV 10 a b = addV a b from fun a b => rfl] at hz'
  rw [show ∀ a b, numsV 11 a b = subV a b from fun a b => rfl, src_id hk hi, spread_getD hi]
  obtain ⟨e1, _⟩ := put_ok hz'
  rw [e1]
  unfold subV
  rw [show ∀ a b : Int, a + b - b = a from fun a b => by omega]
  exact put_zero _ (getD_i64 hx _)
end Go.Proofs.ShM
