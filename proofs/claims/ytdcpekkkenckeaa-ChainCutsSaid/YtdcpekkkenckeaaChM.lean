/- Plain facts of layer 17: a parameter's versions. No program stands here. -/
import Derived.Test.YtdcpekkkenckeaaGrAll
import Derived.Test.YtdcpekkkenckeaaImM
namespace Go.Proofs.ChM
open Go.Proofs.ShM Go.Proofs.GrM Go.Proofs.ImM

def cT : T := ([], [])
/-- The version at a place may stand there. -/
def verB (l : List Nd) (i : Nat) : Bool := tokT (l.getD i nd0).2 && decide (0 ≤ (l.getD i nd0).1) && (decide (i = 0) || (decide ((l.getD (i - 1) nd0).1 < (l.getD i nd0).1) && ((l.getD i nd0).2.1 == (l.getD 0 nd0).2.1)))
def chkV (l : List Nd) : Bool := decide (l.length ≤ 16 ∧ ∀ i, i < l.length → verB l i = true)
/-- The last place whose stamp is not above one. -/
def atF (s : Int) : List Nd → Nat → Int → Int
  | [], _, out => out
  | v :: l, i, out => atF s l (i + 1) (if v.1 ≤ s then (i : Int) else out)
def atC (l : List Nd) (s : Int) : Int := atF s l 0 (-1)
def readC (l : List Nd) (s : Int) : T × Bool := if chkV l = true ∧ 0 ≤ atC l s then ((l.getD (atC l s).toNat nd0).2, true) else (cT, false)
def newerC (l : List Nd) (s : Int) : Bool := chkV l && decide (0 < l.length) && decide (s < (l.getD (l.length - 1) nd0).1)
def putC (l : List Nd) (s : Int) (t : T) : List Nd × Int :=
  if chkV l = false ∨ s < 0 ∨ (0 < l.length ∧ s ≤ (l.getD (l.length - 1) nd0).1) then (l, 170) else if tokT t = false then (l, 30) else
  if 0 < l.length ∧ (l.getD 0 nd0).2.1 ≠ t.1 then (l, 20) else if l.length = 16 then (l, 171) else (l ++ [(s, t.1, t.2)], 0)
def trimC (l : List Nd) (s : Int) : List Nd := if chkV l = true ∧ 0 ≤ atC l s then l.drop (atC l s).toNat else l

theorem getN {l : List Nd} {i : Nat} {v : Nd} (h : l[i]? = some v) : l.getD i nd0 = v := by rw [List.getD_eq_getElem?_getD, h]; rfl
theorem chk_iff {l : List Nd} : chkV l = true ↔ l.length ≤ 16 ∧ ∀ i, i < l.length → verB l i = true := by unfold chkV; rw [decide_eq_true_iff]
theorem ver_iff {l : List Nd} {i : Nat} : verB l i = true ↔ tokT (l.getD i nd0).2 = true ∧ 0 ≤ (l.getD i nd0).1 ∧ (i = 0 ∨ ((l.getD (i - 1) nd0).1 < (l.getD i nd0).1 ∧ (l.getD i nd0).2.1 = (l.getD 0 nd0).2.1)) := by
  unfold verB
  simp only [Bool.and_eq_true, Bool.or_eq_true, decide_eq_true_eq, beq_iff_eq]
  constructor
  · rintro ⟨⟨h1, h2⟩, h3⟩; exact ⟨h1, h2, h3⟩
  · rintro ⟨h1, h2, h3⟩; exact ⟨⟨h1, h2⟩, h3⟩
theorem chk_nil : chkV [] = true := by decide
/-- Stamps rise. -/
theorem rises {l : List Nd} (h : chkV l = true) : ∀ (d i : Nat), i + d + 1 < l.length → (l.getD i nd0).1 < (l.getD (i + d + 1) nd0).1
  | 0, i, hi => by
    have := (ver_iff.1 ((chk_iff.1 h).2 (i + 1) hi)).2.2
    rcases this with h0 | h0
    · omega
    · rw [Nat.add_sub_cancel] at h0; exact h0.1
  | d + 1, i, hi => by
    have h1 := rises h d i (by omega)
    have := (ver_iff.1 ((chk_iff.1 h).2 (i + d + 1 + 1) (by omega))).2.2
    rcases this with h0 | h0
    · omega
    · rw [Nat.add_sub_cancel] at h0
      have : i + (d + 1) + 1 = i + d + 1 + 1 := by omega
      rw [this]; omega
theorem rises' {l : List Nd} (h : chkV l = true) {i j : Nat} (hij : i < j) (hj : j < l.length) : (l.getD i nd0).1 < (l.getD j nd0).1 := by
  have := rises h (j - i - 1) i (by omega)
  rwa [show i + (j - i - 1) + 1 = j by omega] at this
theorem shape_one {l : List Nd} (h : chkV l = true) {i : Nat} (hi : i < l.length) : (l.getD i nd0).2.1 = (l.getD 0 nd0).2.1 := by
  rcases Nat.eq_zero_or_pos i with rfl | h0
  · rfl
  · rcases (ver_iff.1 ((chk_iff.1 h).2 i hi)).2.2 with h1 | h1
    · omega
    · exact h1.2
/-- What rises, and is of one shape, may be. -/
theorem chk_of {l : List Nd} (h1 : l.length ≤ 16) (h2 : ∀ i, i < l.length → tokT (l.getD i nd0).2 = true ∧ 0 ≤ (l.getD i nd0).1 ∧ (l.getD i nd0).2.1 = (l.getD 0 nd0).2.1) (h3 : ∀ i, i + 1 < l.length → (l.getD i nd0).1 < (l.getD (i + 1) nd0).1) : chkV l = true :=
  chk_iff.2 ⟨h1, fun i hi => ver_iff.2 ⟨(h2 i hi).1, (h2 i hi).2.1, by
    rcases Nat.eq_zero_or_pos i with h0 | h0
    · exact .inl h0
    · refine .inr ⟨?_, (h2 i hi).2.2⟩
      have := h3 (i - 1) (by omega)
      rwa [show i - 1 + 1 = i by omega] at this⟩⟩
theorem getD_take' {l : List Nd} {k i : Nat} (h : i < k) : (l.take k).getD i nd0 = l.getD i nd0 := by rw [List.getD_eq_getElem?_getD, List.getD_eq_getElem?_getD, List.getElem?_take, if_pos h]
theorem getD_drop' {l : List Nd} {k i : Nat} : (l.drop k).getD i nd0 = l.getD (k + i) nd0 := by rw [List.getD_eq_getElem?_getD, List.getD_eq_getElem?_getD, List.getElem?_drop]
theorem chk_take' {l : List Nd} (h : chkV l = true) (k : Nat) : chkV (l.take k) = true := by
  obtain ⟨h1, h2⟩ := chk_iff.1 h
  refine chk_of (by rw [List.length_take]; omega) (fun i hi => ?_) (fun i hi => ?_)
  · rw [List.length_take] at hi
    rw [getD_take' (by omega), getD_take' (by omega)]
    have := ver_iff.1 (h2 i (by omega))
    exact ⟨this.1, this.2.1, shape_one h (by omega)⟩
  · rw [List.length_take] at hi
    rw [getD_take' (by omega), getD_take' (by omega)]
    exact rises' h (Nat.lt_succ_self i) (by omega)
theorem chk_drop' {l : List Nd} (h : chkV l = true) (k : Nat) : chkV (l.drop k) = true := by
  obtain ⟨h1, h2⟩ := chk_iff.1 h
  refine chk_of (by rw [List.length_drop]; omega) (fun i hi => ?_) (fun i hi => ?_)
  · rw [List.length_drop] at hi
    rw [getD_drop', getD_drop']
    have := ver_iff.1 (h2 (k + i) (by omega))
    exact ⟨this.1, this.2.1, (shape_one h (by omega)).trans (shape_one h (by omega)).symm⟩
  · rw [List.length_drop] at hi
    rw [getD_drop', getD_drop']
    exact rises' h (by omega) (by omega)

/-! ### The place at a stamp -/
theorem at_app (s : Int) (v : Nd) : ∀ (l : List Nd) (i : Nat) (out : Int), atF s (l ++ [v]) i out = if v.1 ≤ s then ((i + l.length : Nat) : Int) else atF s l i out
  | [], i, out => by simp [atF]
  | u :: l, i, out => by
    rw [List.cons_append, atF, at_app s v l (i + 1), atF, List.length_cons]
    rw [show i + 1 + l.length = i + (l.length + 1) by omega]
/-- What the place is. -/
theorem at_spec (s : Int) : ∀ (l : List Nd) (i : Nat) (out : Int), (atF s l i out = out ∧ ∀ j, j < l.length → s < (l.getD j nd0).1) ∨
    ∃ k, k < l.length ∧ atF s l i out = ((i + k : Nat) : Int) ∧ (l.getD k nd0).1 ≤ s ∧ ∀ j, k < j → j < l.length → s < (l.getD j nd0).1
  | [], i, out => .inl ⟨rfl, fun j hj => absurd hj (Nat.not_lt_zero j)⟩
  | v :: l, i, out => by
    rw [atF]
    rcases at_spec s l (i + 1) (if v.1 ≤ s then (i : Int) else out) with ⟨e, h⟩ | ⟨k, hk, e, h1, h2⟩
    · by_cases hv : v.1 ≤ s
      · rw [if_pos hv] at e
        refine .inr ⟨0, by simp, by rw [if_pos hv, e]; simp, hv, fun j h0 hj => ?_⟩
        obtain ⟨j, rfl⟩ : ∃ q, j = q + 1 := ⟨j - 1, by omega⟩
        exact h j (by rw [List.length_cons] at hj; omega)
      · rw [if_neg hv] at e
        refine .inl ⟨by rw [if_neg hv, e], fun j hj => ?_⟩
        cases j with
        | zero => show s < v.1; omega
        | succ j => exact h j (by rw [List.length_cons] at hj; omega)
    · refine .inr ⟨k + 1, by rw [List.length_cons]; omega, by rw [e]; congr 1; omega, h1, fun j h0 hj => ?_⟩
      obtain ⟨j, rfl⟩ : ∃ q, j = q + 1 := ⟨j - 1, by omega⟩
      exact h2 j (by omega) (by rw [List.length_cons] at hj; omega)
theorem at_cases (l : List Nd) (s : Int) : (atC l s = -1 ∧ ∀ j, j < l.length → s < (l.getD j nd0).1) ∨ ∃ k : Nat, k < l.length ∧ atC l s = (k : Int) ∧ (l.getD k nd0).1 ≤ s ∧ ∀ j, k < j → j < l.length → s < (l.getD j nd0).1 := by
  rcases at_spec s l 0 (-1) with h | ⟨k, h1, h2, h3⟩
  · exact .inl h
  · exact .inr ⟨k, h1, by unfold atC; rw [h2, Nat.zero_add], h3⟩
theorem at_is {l : List Nd} {s : Int} {k : Nat} (hk : k < l.length) (h1 : (l.getD k nd0).1 ≤ s) (h2 : ∀ j, k < j → j < l.length → s < (l.getD j nd0).1) : atC l s = (k : Int) := by
  rcases at_cases l s with ⟨_, h⟩ | ⟨q, hq, e, g1, g2⟩
  · have := h k hk; omega
  · rcases Nat.lt_trichotomy q k with h | h | h
    · have := g2 k h hk; omega
    · rw [e, h]
    · have := h2 q h hq; omega
theorem at_none {l : List Nd} {s : Int} (h : ∀ j, j < l.length → s < (l.getD j nd0).1) : atC l s = -1 := by
  rcases at_cases l s with ⟨e, _⟩ | ⟨q, hq, e, g1, g2⟩
  · exact e
  · have := h q hq; omega

/-! ### ChainPuts -/
theorem put_ok' {l m : List Nd} {s : Int} {t : T} (h : putC l s t = (m, 0)) : chkV l = true ∧ 0 ≤ s ∧ (∀ j, j < l.length → (l.getD j nd0).1 < s) ∧ tokT t = true ∧ (0 < l.length → (l.getD 0 nd0).2.1 = t.1) ∧ l.length < 16 ∧ m = l ++ [(s, t.1, t.2)] := by
  unfold putC at h
  split at h
  · injection h with _ h; cases h
  · rename_i g1
    split at h
    · injection h with _ h; cases h
    · rename_i g2
      split at h
      · injection h with _ h; cases h
      · rename_i g3
        split at h
        · injection h with _ h; cases h
        · rename_i g4
          injection h with h _
          have hc : chkV l = true := by
            cases e : chkV l with
            | true => rfl
            | false => exact absurd (.inl e) g1
          refine ⟨hc, by by_cases h0 : s < 0; exact absurd (.inr (.inl h0)) g1; omega, fun j hj => ?_, by cases e : tokT t with | true => rfl | false => exact absurd e g2, fun h0 => ?_, ?_, h.symm⟩
          · have hl : (l.getD (l.length - 1) nd0).1 < s := by
              by_cases h0 : (l.getD (l.length - 1) nd0).1 < s
              · exact h0
              · exact absurd (.inr (.inr ⟨by omega, by omega⟩)) g1
            rcases Nat.lt_or_ge j (l.length - 1) with hj' | hj'
            · have := rises' hc hj' (by omega); omega
            · rwa [show j = l.length - 1 by omega]
          · by_cases e : (l.getD 0 nd0).2.1 = t.1
            · exact e
            · exact absurd ⟨h0, e⟩ g3
          · have := (chk_iff.1 hc).1; omega
theorem put_err' {l m : List Nd} {s : Int} {t : T} {e : Int} (h : putC l s t = (m, e)) (he : e ≠ 0) : m = l := by
  unfold putC at h
  split at h
  · injection h with h _; exact h.symm
  · split at h
    · injection h with h _; exact h.symm
    · split at h
      · injection h with h _; exact h.symm
      · split at h
        · injection h with h _; exact h.symm
        · injection h with _ h; exact absurd h.symm he
theorem getD_snoc {l : List Nd} {v : Nd} {j : Nat} : (l ++ [v]).getD j nd0 = if j < l.length then l.getD j nd0 else if j = l.length then v else nd0 := by
  rw [List.getD_eq_getElem?_getD]
  by_cases h : j < l.length
  · rw [if_pos h, List.getElem?_append_left h, List.getD_eq_getElem?_getD]
  · rw [if_neg h, List.getElem?_append_right (by omega)]
    by_cases h2 : j = l.length
    · rw [if_pos h2, h2, Nat.sub_self]; rfl
    · rw [if_neg h2]
      have : j - l.length = (j - l.length - 1) + 1 := by omega
      rw [this]; rfl
theorem put_chk {l m : List Nd} {s : Int} {t : T} (h : putC l s t = (m, 0)) : chkV m = true := by
  obtain ⟨h1, h2, h3, h4, h5, h6, rfl⟩ := put_ok' h
  have hv : ∀ i, i < l.length → (l ++ [(s, t.1, t.2)]).getD i nd0 = l.getD i nd0 := fun i hi => by rw [getD_snoc, if_pos hi]
  have hlast : (l ++ [(s, t.1, t.2)]).getD l.length nd0 = (s, t.1, t.2) := by rw [getD_snoc, if_neg (Nat.lt_irrefl _), if_pos rfl]
  have h00 : ((l ++ [(s, t.1, t.2)]).getD 0 nd0).2.1 = t.1 := by
    rcases Nat.eq_zero_or_pos l.length with h0 | h0
    · rw [h0] at hlast; rw [hlast]
    · rw [hv 0 h0]; exact h5 h0
  refine chk_of (by rw [List.length_append, List.length_singleton]; omega) (fun i hi => ?_) (fun i hi => ?_)
  · rw [List.length_append, List.length_singleton] at hi
    rcases Nat.lt_or_ge i l.length with hi' | hi'
    · rw [hv i hi', h00]
      have := ver_iff.1 ((chk_iff.1 h1).2 i hi')
      exact ⟨this.1, this.2.1, (shape_one h1 hi').trans (h5 (by omega))⟩
    · obtain rfl : i = l.length := by omega
      rw [hlast, h00]
      exact ⟨h4, h2, rfl⟩
  · rw [List.length_append, List.length_singleton] at hi
    rcases Nat.lt_or_ge (i + 1) l.length with hi' | hi'
    · rw [hv i (by omega), hv (i + 1) hi']; exact rises' h1 (Nat.lt_succ_self i) hi'
    · rw [hv i (by omega), show i + 1 = l.length by omega, hlast]
      exact h3 i (by omega)
/-- All that ChainPuts wants. -/
theorem puts_read {l m : List Nd} {s : Int} {t : T} (h : putC l s t = (m, 0)) (a : Int) : (s ≤ a → readC m a = (t, true) ∧ newerC m a = false) ∧ (a < s → readC m a = readC l a ∧ newerC m a = true) := by
  have hc := put_chk h
  obtain ⟨h1, h2, h3, h4, h5, h6, rfl⟩ := put_ok' h
  have hlen : (l ++ [(s, t.1, t.2)]).length = l.length + 1 := by rw [List.length_append, List.length_singleton]
  have hlast : (l ++ [(s, t.1, t.2)]).getD l.length nd0 = (s, t.1, t.2) := by rw [getD_snoc, if_neg (Nat.lt_irrefl _), if_pos rfl]
  have hat : atC (l ++ [(s, t.1, t.2)]) a = if s ≤ a then (l.length : Int) else atC l a := by
    unfold atC; rw [at_app, Nat.zero_add]
  have hn : newerC (l ++ [(s, t.1, t.2)]) a = decide (a < s) := by
    unfold newerC
    rw [hc, hlen, Nat.add_sub_cancel, hlast]
    simp
  refine ⟨fun ha => ⟨?_, by rw [hn]; exact decide_eq_false (by omega)⟩, fun ha => ⟨?_, by rw [hn]; exact decide_eq_true ha⟩⟩
  · unfold readC
    rw [hat, if_pos ha, if_pos ⟨hc, by omega⟩, Int.toNat_natCast, hlast]
  · have hat2 : atC (l ++ [(s, t.1, t.2)]) a = atC l a := by rw [hat, if_neg (by omega)]
    unfold readC
    rw [hat2, hc, h1]
    by_cases g : 0 ≤ atC l a
    · rw [if_pos ⟨rfl, g⟩, if_pos ⟨rfl, g⟩]
      rcases at_cases l a with ⟨e, _⟩ | ⟨k, hk, e, _⟩
      · omega
      · rw [e, Int.toNat_natCast, getD_snoc, if_pos hk]
    · rw [if_neg (fun h => g h.2), if_neg (fun h => g h.2)]

/-! ### ChainTrims -/
theorem trim_cases {l : List Nd} (hc : chkV l = true) (s : Int) : (trimC l s = l ∧ atC l s = -1 ∧ ∀ j, j < l.length → s < (l.getD j nd0).1) ∨ ∃ k : Nat, k < l.length ∧ trimC l s = l.drop k ∧ (l.getD k nd0).1 ≤ s ∧ ∀ j, k < j → j < l.length → s < (l.getD j nd0).1 := by
  rcases at_cases l s with ⟨e, h⟩ | ⟨k, hk, e, h1, h2⟩
  · refine .inl ⟨?_, e, h⟩
    unfold trimC
    rw [e, if_neg (fun h => by have := h.2; omega)]
  · refine .inr ⟨k, hk, ?_, h1, h2⟩
    unfold trimC
    rw [e, if_pos ⟨hc, by omega⟩, Int.toNat_natCast]
theorem trim_chk {l : List Nd} (hc : chkV l = true) (s : Int) : chkV (trimC l s) = true ∧ (trimC l s).length ≤ l.length := by
  rcases trim_cases hc s with ⟨e, _⟩ | ⟨k, hk, e, _⟩
  · rw [e]; exact ⟨hc, Nat.le_refl _⟩
  · rw [e]; exact ⟨chk_drop' hc k, by rw [List.length_drop]; omega⟩
theorem trim_read {l : List Nd} (hc : chkV l = true) {s a : Int} (ha : s ≤ a) : readC (trimC l s) a = readC l a := by
  rcases trim_cases hc s with ⟨e, _⟩ | ⟨k, hk, e, h1, h2⟩
  · rw [e]
  · rw [e]
    have hd := chk_drop' hc k
    rcases at_cases l a with ⟨_, h⟩ | ⟨q, hq, e2, g1, g2⟩
    · have := h k hk; omega
    · have hkq : k ≤ q := by
        rcases Nat.lt_or_ge q k with h | h
        · have := g2 k h hk; omega
        · exact h
      have hat : atC (l.drop k) a = ((q - k : Nat) : Int) := by
        refine at_is (by rw [List.length_drop]; omega) ?_ (fun j hj hjl => ?_)
        · rw [getD_drop', show k + (q - k) = q by omega]; exact g1
        · rw [List.length_drop] at hjl
          rw [getD_drop']
          exact g2 (k + j) (by omega) (by omega)
      unfold readC
      rw [hat, e2, hd, hc, if_pos ⟨rfl, by omega⟩, if_pos ⟨rfl, by omega⟩, Int.toNat_natCast, Int.toNat_natCast, getD_drop', show k + (q - k) = q by omega]
theorem trim_old {l : List Nd} (hc : chkV l = true) (s : Int) : ∀ j, 0 < j → j < (trimC l s).length → s < ((trimC l s).getD j nd0).1 := by
  rcases trim_cases hc s with ⟨e, _, h⟩ | ⟨k, hk, e, h1, h2⟩
  · rw [e]; exact fun j _ hj => h j hj
  · rw [e]
    intro j h0 hj
    rw [List.length_drop] at hj
    rw [getD_drop']
    exact h2 (k + j) (by omega) (by omega)
theorem trim_again {l : List Nd} (hc : chkV l = true) (s : Int) : trimC (trimC l s) s = trimC l s := by
  rcases trim_cases hc s with ⟨e, _⟩ | ⟨k, hk, e, h1, h2⟩
  · rw [e, e]
  · rw [e]
    have hat : atC (l.drop k) s = ((0 : Nat) : Int) := by
      refine at_is (by rw [List.length_drop]; omega) (by rw [getD_drop']; exact h1) (fun j hj hjl => ?_)
      rw [List.length_drop] at hjl
      rw [getD_drop']
      exact h2 (k + j) (by omega) (by omega)
    unfold trimC
    rw [hat, if_pos ⟨chk_drop' hc k, by omega⟩]
    rfl
theorem trim_newer {l : List Nd} (hc : chkV l = true) (s a : Int) : newerC (trimC l s) a = newerC l a := by
  rcases trim_cases hc s with ⟨e, _⟩ | ⟨k, hk, e, h1, h2⟩
  · rw [e]
  · rw [e]
    unfold newerC
    rw [chk_drop' hc k, hc, getD_drop', List.length_drop, show k + (l.length - k - 1) = l.length - 1 by omega]
    have e1 : decide (0 < l.length - k) = true := decide_eq_true (by omega)
    have e2 : decide (0 < l.length) = true := decide_eq_true (by omega)
    rw [e1, e2]

/-! ### ChainCuts -/
theorem cut_read {l : List Nd} (hc : chkV l = true) {k : Nat} {s : Int} (hk : k ≤ l.length) (h : k = l.length ∨ s < (l.getD k nd0).1) : readC (l.take k) s = readC l s := by
  rcases h with h | h
  · rw [h, List.take_length]
  · have ht := chk_take' hc k
    have hb : ∀ j, k ≤ j → j < l.length → s < (l.getD j nd0).1 := fun j h1 h2 => by
      rcases Nat.eq_or_lt_of_le h1 with rfl | h3
      · exact h
      · have := rises' hc h3 h2; omega
    have hl : (l.take k).length = k := by rw [List.length_take]; omega
    rcases at_cases l s with ⟨e, g⟩ | ⟨q, hq, e, g1, g2⟩
    · have e2 : atC (l.take k) s = -1 := at_none fun j hj => by
        rw [hl] at hj
        rw [getD_take' hj]
        exact g j (by omega)
      unfold readC
      rw [e, e2, if_neg (fun h => by have := h.2; omega), if_neg (fun h => by have := h.2; omega)]
    · have hqk : q < k := by
        rcases Nat.lt_or_ge q k with h3 | h3
        · exact h3
        · have := hb q h3 hq; omega
      have e2 : atC (l.take k) s = (q : Int) := at_is (by omega) (by rw [getD_take' hqk]; exact g1) fun j hj hjl => by
        rw [hl] at hjl
        rw [getD_take' hjl]
        exact g2 j hj (by omega)
      unfold readC
      rw [e, e2, ht, hc, if_pos ⟨rfl, by omega⟩, if_pos ⟨rfl, by omega⟩, Int.toNat_natCast, getD_take' hqk]

/-! ### ChainMany -/
/-- The stamp behind so many gaps. -/
def stM (g : List Int) : Nat → Int
  | 0 => 0
  | i + 1 => stM g i + 1 + g.getD i 0
def manyC (l g : List Int) (n : Nat) : List Nd := (List.range n).map fun i => (stM g (i + 1), [], [l.getD i 0])
theorem many_len (l g : List Int) (n : Nat) : (manyC l g n).length = n := by simp [manyC]
theorem many_at (l g : List Int) {n i : Nat} (h : i < n) : (manyC l g n).getD i nd0 = (stM g (i + 1), [], [l.getD i 0]) := by
  unfold manyC
  rw [List.getD_eq_getElem?_getD, List.getElem?_map, List.getElem?_range h]; rfl
theorem many_succ (l g : List Int) (n : Nat) : manyC l g (n + 1) = manyC l g n ++ [(stM g (n + 1), [], [l.getD n 0])] := by unfold manyC; rw [List.range_succ, List.map_append]; rfl
theorem getD_nn {g : List Int} (h : ∀ x ∈ g, 0 ≤ x ∧ x ≤ 255) (i : Nat) : 0 ≤ g.getD i 0 ∧ g.getD i 0 ≤ 255 := by
  rw [List.getD_eq_getElem?_getD]
  cases e : g[i]? with
  | none => show (0 : Int) ≤ 0 ∧ (0 : Int) ≤ 255; omega
  | some x => exact h x (List.mem_of_getElem? e)
theorem st_bound {g : List Int} (h : ∀ x ∈ g, 0 ≤ x ∧ x ≤ 255) : ∀ i : Nat, (i : Int) ≤ stM g i ∧ stM g i ≤ 256 * (i : Int)
  | 0 => by simp [stM]
  | i + 1 => by
    have a := st_bound h i
    have b := getD_nn h i
    rw [stM]
    omega
theorem tok_one (x : Int) : tokT ([], [x]) = true := by
  show tokV [] [x] = true
  exact Go.Proofs.ShM.tok_iff.2 ⟨by decide, by simp [prodS]⟩
theorem many_chk (l : List Int) {g : List Int} (h : ∀ x ∈ g, 0 ≤ x ∧ x ≤ 255) {n : Nat} (hn : n ≤ 16) : chkV (manyC l g n) = true := by
  refine chk_of (by rw [many_len]; exact hn) (fun i hi => ?_) (fun i hi => ?_)
  · rw [many_len] at hi
    rw [many_at l g hi, many_at l g (by omega)]
    exact ⟨tok_one _, by have := (st_bound h (i + 1)).1; show 0 ≤ stM g (i + 1); omega, rfl⟩
  · rw [many_len] at hi
    rw [many_at l g (by omega), many_at l g hi]
    show stM g (i + 1) < stM g (i + 1 + 1)
    have b := getD_nn h (i + 1)
    have e : stM g (i + 1 + 1) = stM g (i + 1) + 1 + g.getD (i + 1) 0 := rfl
    omega
theorem many_put (l : List Int) {g : List Int} (h : ∀ x ∈ g, 0 ≤ x ∧ x ≤ 255) {n : Nat} (hn : n ≤ 16) : putC (manyC l g n) (stM g (n + 1)) ([], [l.getD n 0]) = if n < 16 then (manyC l g (n + 1), 0) else (manyC l g n, 171) := by
  have hb := st_bound h (n + 1)
  have hg := getD_nn h n
  have hlast : 0 < n → ¬ stM g (n + 1) ≤ ((manyC l g n).getD (n - 1) nd0).1 := fun h0 => by
    rw [many_at l g (by omega), show n - 1 + 1 = n by omega]
    show ¬ stM g n + 1 + g.getD n 0 ≤ stM g n
    omega
  unfold putC
  rw [many_len, if_neg (by
    rintro (h1 | h1 | h1)
    · rw [many_chk l h hn] at h1; cases h1
    · omega
    · exact hlast h1.1 h1.2), if_neg (by rw [tok_one]; decide), if_neg (by
    rintro ⟨h1, h2⟩
    rw [many_at l g h1] at h2
    exact h2 rfl)]
  by_cases h16 : n < 16
  · rw [if_neg (by omega), if_pos h16, many_succ]
  · rw [if_pos (by omega), if_neg h16]
theorem st_mono {g : List Int} (h : ∀ x ∈ g, 0 ≤ x ∧ x ≤ 255) (i : Nat) : ∀ d : Nat, stM g i ≤ stM g (i + d)
  | 0 => Int.le_refl _
  | d + 1 => by
    have a := st_mono h i d
    have b := getD_nn h (i + d)
    have e : stM g (i + (d + 1)) = stM g (i + d) + 1 + g.getD (i + d) 0 := rfl
    omega
theorem many_full (l : List Int) {g : List Int} (h : ∀ x ∈ g, 0 ≤ x ∧ x ≤ 255) {k : Nat} (hk : 16 ≤ k) (x : Int) : putC (manyC l g 16) (stM g (k + 1)) ([], [x]) = (manyC l g 16, 171) := by
  have hb := st_bound h (k + 1)
  have hg := getD_nn h k
  have hm := st_mono h 16 (k - 16)
  rw [show 16 + (k - 16) = k by omega] at hm
  have e : stM g (k + 1) = stM g k + 1 + g.getD k 0 := rfl
  unfold putC
  rw [many_len, if_neg (by
    rintro (h1 | h1 | h1)
    · rw [many_chk l h (Nat.le_refl 16)] at h1; cases h1
    · omega
    · have h2 := h1.2
      rw [many_at l g (by omega)] at h2
      have h2 : stM g (k + 1) ≤ stM g 16 := h2
      omega), if_neg (by rw [tok_one]; decide), if_neg (by
    rintro ⟨h1, h2⟩
    rw [many_at l g h1] at h2
    exact h2 rfl), if_pos rfl]
/-- One more that is put, whatever the place. -/
theorem many_step (l : List Int) {g : List Int} (h : ∀ x ∈ g, 0 ≤ x ∧ x ≤ 255) (k : Nat) : putC (manyC l g (min k 16)) (stM g (k + 1)) ([], [l.getD k 0]) = (manyC l g (min (k + 1) 16), if k < 16 then 0 else 171) := by
  by_cases h16 : k < 16
  · rw [Nat.min_eq_left (by omega), Nat.min_eq_left (by omega), many_put l h (by omega), if_pos h16, if_pos h16]
  · rw [Nat.min_eq_right (by omega), Nat.min_eq_right (by omega), many_full l h (by omega), if_neg h16]
theorem many_read (l : List Int) {g : List Int} (h : ∀ x ∈ g, 0 ≤ x ∧ x ≤ 255) {n i : Nat} (hn : n ≤ 16) (hi : i < n) : readC (manyC l g n) (stM g (i + 1)) = (([], [l.getD i 0]), true) ∧ (i = 0 → readC (manyC l g n) (stM g (i + 1) - 1) = (cT, false)) ∧ (0 < i → readC (manyC l g n) (stM g (i + 1) - 1) = (([], [l.getD (i - 1) 0]), true)) := by
  have hc := many_chk l h hn
  have up : ∀ j, i < j → j < n → stM g (i + 1) < stM g (j + 1) := fun j h1 h2 => by
    have := rises' hc h1 (by rw [many_len]; exact h2)
    rw [many_at l g hi, many_at l g h2] at this
    exact this
  have hg := getD_nn h i
  have hst : stM g (i + 1) = stM g i + 1 + g.getD i 0 := rfl
  refine ⟨?_, fun h0 => ?_, fun h0 => ?_⟩
  · have e : atC (manyC l g n) (stM g (i + 1)) = (i : Int) := at_is (by rw [many_len]; exact hi) (by rw [many_at l g hi]; exact Int.le_refl _) fun j h1 h2 => by
      rw [many_len] at h2
      rw [many_at l g h2]; exact up j h1 h2
    unfold readC
    rw [e, if_pos ⟨hc, by omega⟩, Int.toNat_natCast, many_at l g hi]
  · have e : atC (manyC l g n) (stM g (i + 1) - 1) = -1 := at_none fun j hj => by
      rw [many_len] at hj
      rw [many_at l g hj]
      show stM g (i + 1) - 1 < stM g (j + 1)
      rcases Nat.eq_zero_or_pos j with hj0 | hj0
      · rw [hj0, h0]; omega
      · have := up j (by omega) hj; omega
    unfold readC
    rw [e, if_neg (fun h => by have := h.2; omega)]
  · have e : atC (manyC l g n) (stM g (i + 1) - 1) = ((i - 1 : Nat) : Int) := at_is (by rw [many_len]; omega) (by
      rw [many_at l g (by omega), show i - 1 + 1 = i by omega]
      show stM g i ≤ stM g (i + 1) - 1
      omega) fun j h1 h2 => by
      rw [many_len] at h2
      rw [many_at l g h2]
      show stM g (i + 1) - 1 < stM g (j + 1)
      rcases Nat.eq_or_lt_of_le (show i ≤ j by omega) with rfl | h3
      · omega
      · have := up j h3 h2; omega
    unfold readC
    rw [e, if_pos ⟨hc, by omega⟩, Int.toNat_natCast, many_at l g (by omega)]
end Go.Proofs.ChM
