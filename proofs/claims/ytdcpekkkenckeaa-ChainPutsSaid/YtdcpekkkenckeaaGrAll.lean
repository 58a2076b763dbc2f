import Derived.Test.YtdcpekkkenckeaaShAll
set_option maxRecDepth 100000
/- Plain facts of layer 10: graphs. No program stands here. -/
namespace Go.Proofs.GrM
open Go.Proofs.ShM

/-- A node: what is reckoned, of which nodes, numbers that say how. -/
abbrev Nd := Int × List Int × List Int
def nd0 : Nd := (0, [], [])
def arityV (op : Int) : Int :=
  if 1 ≤ op ∧ op ≤ 3 then 0 else if (10 ≤ op ∧ op ≤ 13) ∨ op = 30 ∨ op = 43 then 2 else if (20 ≤ op ∧ op ≤ 23) ∨ (40 ≤ op ∧ op ≤ 42) ∨ (50 ≤ op ∧ op ≤ 52) then 1 else -1
/-- Of a parameter: the number, and a shape. -/
def parB (l : List Int) : Bool := match l with
  | [] => false
  | p :: s => decide (0 ≤ p ∧ p ≤ 7) && okS s
def numsB (n : Nd) : Bool :=
  if n.1 = 1 ∨ n.1 = 40 then okS n.2.2 else if n.1 = 2 then parB n.2.2 else if n.1 = 42 then decide (n.2.2.length = 3) else if n.1 = 3 ∨ n.1 = 43 ∨ 50 ≤ n.1 then decide (n.2.2.length = 1) else decide (n.2.2.length = 0)
def likeB (a b : Nd) : Bool := if a.1 ≠ b.1 ∨ 2 < a.1 ∨ (a.1 = 2 ∧ a.2.2.getD 0 0 ≠ b.2.2.getD 0 0) then true else a.2.2 == b.2.2
def argsB (i : Nat) (l : List Int) : Bool := l.all fun a => decide (0 ≤ a ∧ a < (i : Int))
def nodeB (l : List Nd) (i : Nat) (n : Nd) : Bool :=
  decide (0 ≤ arityV n.1 ∧ (n.2.1.length : Int) = arityV n.1) && numsB n && argsB i n.2.1 && (l.take i).all (fun m => likeB m n)
def checkB (l : List Nd) : Bool := decide (1 ≤ l.length ∧ l.length ≤ 24 ∧ ∀ i, i < l.length → nodeB l i (l.getD i nd0) = true)
def namesB (l : List Nd) (p : Int) : Bool := l.any fun n => decide (n.1 = 2 ∧ n.2.2.getD 0 0 = p)
def paramsV (l : List Nd) : List Int := if checkB l = true then ((List.range 8).map fun p : Nat => (p : Int)).filter (namesB l) else []
def inputsO (l : List Nd) : Option (List Int) := (l.find? fun n => decide (n.1 = 1)).map (·.2.2)
def inputsV (l : List Nd) : List Int × Bool := if checkB l = true then (match inputsO l with | some s => (s, true) | none => ([], false)) else ([], false)
/-- Who uses a node, from the k-th on. -/
def usesF (k : Nat) : List Nd → Int → List Int
  | [], _ => []
  | n :: l, x => (n.2.1.filter (· == x)).map (fun _ => (k : Int)) ++ usesF (k + 1) l x
def usesV (l : List Nd) (x : Int) : List Int := if checkB l = true then usesF 0 l x else []
/-- All that is reckoned of, from the k-th down. -/
def liveS (l : List Nd) : Nat → List Int → List Int
  | 0, acc => acc
  | k + 1, acc => liveS l k (if acc.contains (k : Int) = true then acc ++ (l.getD k nd0).2.1 else acc)
def liveA (l : List Nd) : List Int := liveS l l.length [(l.length : Int) - 1]
def upTo (n : Nat) (acc : List Int) : List Int := ((List.range n).map fun i : Nat => (i : Int)).filter (fun i => acc.contains i)
def liveV (l : List Nd) : List Int := if checkB l = true then upTo l.length (liveA l) else []

/-! ### Check -/
theorem check_iff {l : List Nd} : checkB l = true ↔ 1 ≤ l.length ∧ l.length ≤ 24 ∧ ∀ (i : Nat) (n : Nd), l[i]? = some n → nodeB l i n = true := by
  unfold checkB
  rw [decide_eq_true_iff]
  constructor
  · rintro ⟨h1, h2, h3⟩
    refine ⟨h1, h2, fun i n hn => ?_⟩
    obtain ⟨hi, e⟩ := List.getElem?_eq_some_iff.1 hn
    have := h3 i hi
    rwa [List.getD_eq_getElem?_getD, hn] at this
  · rintro ⟨h1, h2, h3⟩
    refine ⟨h1, h2, fun i hi => ?_⟩
    have hn : l[i]? = some l[i] := List.getElem?_eq_getElem hi
    have := h3 i _ hn
    rwa [List.getD_eq_getElem?_getD, hn]
theorem node_iff {l : List Nd} {i : Nat} {n : Nd} : nodeB l i n = true ↔ 0 ≤ arityV n.1 ∧ (n.2.1.length : Int) = arityV n.1 ∧ numsB n = true ∧ (∀ a ∈ n.2.1, 0 ≤ a ∧ a < (i : Int)) ∧ ∀ m ∈ l.take i, likeB m n = true := by
  unfold nodeB argsB
  simp only [Bool.and_eq_true, decide_eq_true_eq, List.all_eq_true]
  constructor
  · rintro ⟨⟨⟨⟨h1, h2⟩, h3⟩, h4⟩, h5⟩
    exact ⟨h1, h2, h3, h4, h5⟩
  · rintro ⟨h1, h2, h3, h4, h5⟩
    exact ⟨⟨⟨⟨h1, h2⟩, h3⟩, h4⟩, h5⟩
theorem node_take {l : List Nd} {k i : Nat} {n : Nd} (h : i ≤ k) : nodeB (l.take k) i n = nodeB l i n := by
  unfold nodeB
  rw [List.take_take, Nat.min_eq_left h]
theorem check_take {l : List Nd} {k : Nat} (h : checkB l = true) (hk : 1 ≤ k) (hk2 : k ≤ l.length) : checkB (l.take k) = true := by
  obtain ⟨h1, h2, h3⟩ := check_iff.1 h
  refine check_iff.2 ⟨by rw [List.length_take]; omega, by rw [List.length_take]; omega, fun i n hn => ?_⟩
  rw [List.getElem?_take] at hn
  split at hn
  · rename_i hi
    rw [node_take (by omega)]
    exact h3 i n hn
  · cases hn
theorem node_app {l m : List Nd} {i : Nat} {n : Nd} (h : i ≤ l.length) : nodeB (l ++ m) i n = nodeB l i n := by
  unfold nodeB
  rw [List.take_append_of_le_length h]
theorem check_snoc {l : List Nd} {m : Nd} (h : checkB l = true) : checkB (l ++ [m]) = (decide (l.length < 24) && nodeB l l.length m) := by
  obtain ⟨h1, h2, h3⟩ := check_iff.1 h
  rw [Bool.eq_iff_iff, check_iff, Bool.and_eq_true, decide_eq_true_iff]
  rw [List.length_append, List.length_singleton]
  constructor
  · rintro ⟨_, g2, g3⟩
    have := g3 l.length m (by rw [List.getElem?_append_right (Nat.le_refl _), Nat.sub_self]; rfl)
    rw [node_app (Nat.le_refl _)] at this
    exact ⟨by omega, this⟩
  · rintro ⟨g1, g2⟩
    refine ⟨by omega, by omega, fun i n hn => ?_⟩
    rw [List.getElem?_append] at hn
    split at hn
    · rename_i hi
      rw [node_app (by omega)]
      exact h3 i n hn
    · rename_i hi
      have : i = l.length := by
        have := (List.getElem?_eq_some_iff.1 hn).1
        simp at this
        omega
      subst this
      rw [Nat.sub_self] at hn
      have : m = n := by simpa using hn
      subst this
      rw [node_app (Nat.le_refl _)]
      exact g2
theorem like_other {a b : Nd} (h : 2 < b.1) : likeB a b = true := by
  unfold likeB
  by_cases e : a.1 = b.1
  · rw [if_pos (.inr (.inl (by omega)))]
  · rw [if_pos (.inl e)]
theorem like_refl (a : Nd) : likeB a a = true := by unfold likeB; split <;> simp
theorem like_symm {a b : Nd} (h : likeB a b = true) : likeB b a = true := by
  unfold likeB at h ⊢
  by_cases g : b.1 ≠ a.1 ∨ 2 < b.1 ∨ (b.1 = 2 ∧ b.2.2.getD 0 0 ≠ a.2.2.getD 0 0)
  · rw [if_pos g]
  · rw [if_neg g]
    have g' : ¬ (a.1 ≠ b.1 ∨ 2 < a.1 ∨ (a.1 = 2 ∧ a.2.2.getD 0 0 ≠ b.2.2.getD 0 0)) := by
      intro c
      apply g
      rcases c with c | c | ⟨c1, c2⟩
      · exact .inl fun e => c e.symm
      · by_cases e : b.1 = a.1
        · exact .inr (.inl (by omega))
        · exact .inl e
      · by_cases e : b.1 = a.1
        · exact .inr (.inr ⟨by omega, fun e => c2 e.symm⟩)
        · exact .inl e
    rw [if_neg g'] at h
    rw [beq_iff_eq] at h ⊢
    exact h.symm
/-- A number more. -/
theorem check_const {l : List Nd} (x : Int) (h : checkB l = true) : checkB (l ++ [(3, [], [x])]) = decide (l.length < 24) := by
  rw [check_snoc h]
  have : nodeB l l.length (3, [], [x]) = true := node_iff.2 ⟨by show (0 : Int) ≤ arityV 3; decide, by show (0 : Int) = arityV 3; decide, by unfold numsB; simp, fun a ha => (by cases ha), fun m _ => like_other (by show (2 : Int) < 3; decide)⟩
  rw [this, Bool.and_true]
/-- One more, of the last one. -/
theorem check_neg {l : List Nd} (h : checkB l = true) : checkB (l ++ [(20, [(l.length : Int) - 1], [])]) = decide (l.length < 24) := by
  obtain ⟨h1, h2, h3⟩ := check_iff.1 h
  rw [check_snoc h]
  have : nodeB l l.length (20, [(l.length : Int) - 1], []) = true := node_iff.2 ⟨by show (0 : Int) ≤ arityV 20; decide, by show (1 : Int) = arityV 20; decide, by unfold numsB; simp, fun a ha => by simp at ha; omega, fun m _ => like_other (by show (2 : Int) < 20; decide)⟩
  rw [this, Bool.and_true]

/-! ### Params, Inputs -/
theorem names_app (a b : List Nd) (p : Int) : namesB (a ++ b) p = (namesB a p || namesB b p) := by unfold namesB; rw [List.any_append]
theorem mem_params {l : List Nd} {p : Int} (h : checkB l = true) : p ∈ paramsV l ↔ (0 ≤ p ∧ p ≤ 7) ∧ namesB l p = true := by
  unfold paramsV
  rw [if_pos h, List.mem_filter, List.mem_map]
  constructor
  · rintro ⟨⟨a, ha, rfl⟩, h2⟩
    have := List.mem_range.1 ha
    exact ⟨by omega, h2⟩
  · rintro ⟨h1, h2⟩
    exact ⟨⟨p.toNat, List.mem_range.2 (by omega), by omega⟩, h2⟩
theorem params_take {l : List Nd} {k : Nat} (h : checkB l = true) (hk : 1 ≤ k) (hk2 : k ≤ l.length) : ∀ p ∈ paramsV (l.take k), p ∈ paramsV l := by
  intro p hp
  rw [mem_params (check_take h hk hk2)] at hp
  rw [mem_params h]
  refine ⟨hp.1, ?_⟩
  have := hp.2
  unfold namesB at this ⊢
  rw [List.any_eq_true] at this ⊢
  obtain ⟨n, hn, e⟩ := this
  exact ⟨n, List.mem_of_mem_take hn, e⟩
theorem params_congr {a b : List Nd} (ha : checkB a = true) (hb : checkB b = true) (h : ∀ p, namesB a p = namesB b p) : paramsV a = paramsV b := by
  unfold paramsV
  rw [if_pos ha, if_pos hb]
  congr 1
  funext p
  exact h p

/-! ### Uses -/
theorem uses_app (a b : List Nd) (x : Int) : ∀ k, usesF k (a ++ b) x = usesF k a x ++ usesF (k + a.length) b x := by
  induction a with
  | nil => intro k; simp [usesF]
  | cons n a ih =>
    intro k
    rw [List.cons_append, usesF, usesF, ih, List.append_assoc, List.length_cons]
    congr 3
    omega
theorem mem_uses {l : List Nd} {x u : Int} : ∀ {k : Nat}, u ∈ usesF k l x ↔ ∃ (i : Nat) (n : Nd), l[i]? = some n ∧ x ∈ n.2.1 ∧ u = (k : Int) + i := by
  induction l with
  | nil => intro k; simp [usesF]
  | cons m l ih =>
    intro k
    rw [usesF, List.mem_append, ih, List.mem_map]
    constructor
    · rintro (⟨a, ha, rfl⟩ | ⟨i, n, h1, h2, h3⟩)
      · rw [List.mem_filter, beq_iff_eq] at ha
        exact ⟨0, m, rfl, by rw [← ha.2]; exact ha.1, by simp⟩
      · exact ⟨i + 1, n, by simpa using h1, h2, by push_cast at h3 ⊢; omega⟩
    · rintro ⟨i, n, h1, h2, h3⟩
      cases i with
      | zero =>
        have : m = n := by simpa using h1
        subst this
        exact .inl ⟨x, by rw [List.mem_filter]; exact ⟨h2, by simp⟩, by simpa using h3.symm⟩
      | succ i => exact .inr ⟨i, n, by simpa using h1, h2, by push_cast at h3 ⊢; omega⟩
theorem uses_none {l : List Nd} {x : Int} {k : Nat} (h : ∀ (i : Nat) (n : Nd), l[i]? = some n → x ∉ n.2.1) : usesF k l x = [] := by
  rw [List.eq_nil_iff_forall_not_mem]
  intro u hu
  obtain ⟨i, n, h1, h2, _⟩ := mem_uses.1 hu
  exact h i n h1 h2
theorem uses_len_app (a b : List Nd) (x : Int) : (usesF 0 a x).length ≤ (usesF 0 (a ++ b) x).length := by rw [uses_app, List.length_append]; omega
theorem uses_take {l : List Nd} {k : Nat} (x : Int) : (usesF 0 (l.take k) x).length ≤ (usesF 0 l x).length := by
  have := uses_len_app (l.take k) (l.drop k) x
  rwa [List.take_append_drop] at this
/-- Whoever uses a node stands behind it; users rise. -/
theorem uses_sorted (l : List Nd) (x : Int) : ∀ k, List.Pairwise (· ≤ ·) (usesF k l x) := by
  induction l with
  | nil => intro k; exact List.Pairwise.nil
  | cons n l ih =>
    intro k
    rw [usesF, List.pairwise_append]
    refine ⟨?_, ih _, ?_⟩
    · rw [List.pairwise_map]
      exact List.Pairwise.imp (fun _ => Int.le_refl _) (List.pairwise_of_forall (R := fun _ _ => True) fun _ _ => trivial)
    · intro a ha b hb
      obtain ⟨_, _, rfl⟩ := List.mem_map.1 ha
      obtain ⟨i, _, _, _, rfl⟩ := mem_uses.1 hb
      push_cast
      omega

/-! ### Live -/
theorem live_sub (l : List Nd) : ∀ {k : Nat} {acc : List Int} {x : Int}, x ∈ acc → x ∈ liveS l k acc := by
  intro k
  induction k with
  | zero => intro acc x h; exact h
  | succ k ih =>
    intro acc x h
    rw [liveS]
    apply ih
    split
    · exact List.mem_append_left _ h
    · exact h
theorem live_from (l : List Nd) : ∀ {k : Nat} {acc : List Int} {x : Int}, x ∈ liveS l k acc → x ∈ acc ∨ ∃ j : Nat, j < k ∧ (j : Int) ∈ liveS l k acc ∧ x ∈ (l.getD j nd0).2.1 := by
  intro k
  induction k with
  | zero => intro acc x h; exact .inl h
  | succ k ih =>
    intro acc x h
    rw [liveS] at h ⊢
    rcases ih h with h1 | ⟨j, h1, h2, h3⟩
    · split at h1
      · rename_i hc
        rcases List.mem_append.1 h1 with h1 | h1
        · exact .inl h1
        · refine .inr ⟨k, by omega, ?_, h1⟩
          rw [if_pos hc]
          exact live_sub l (List.mem_append_left _ (by simpa using hc))
      · exact .inl h1
    · exact .inr ⟨j, by omega, h2, h3⟩
/-- What is from k on was there ahead. -/
theorem live_high {l : List Nd} (hl : ∀ j : Nat, ∀ a ∈ (l.getD j nd0).2.1, a < (j : Int)) : ∀ {k : Nat} {acc : List Int} {x : Int}, (k : Int) ≤ x → x ∈ liveS l k acc → x ∈ acc := by
  intro k
  induction k with
  | zero => intro acc x _ h; exact h
  | succ k ih =>
    intro acc x hx h
    rw [liveS] at h
    have h1 := ih (by push_cast at hx; omega) h
    split at h1
    · rcases List.mem_append.1 h1 with h1 | h1
      · exact h1
      · have := hl k x h1
        push_cast at hx
        omega
    · exact h1
theorem live_closed {l : List Nd} (hl : ∀ j : Nat, ∀ a ∈ (l.getD j nd0).2.1, a < (j : Int)) : ∀ {k : Nat} {acc : List Int} {j : Nat}, j < k → (j : Int) ∈ liveS l k acc → ∀ a ∈ (l.getD j nd0).2.1, a ∈ liveS l k acc := by
  intro k
  induction k with
  | zero => intro acc j h; omega
  | succ k ih =>
    intro acc j hj h a ha
    rw [liveS] at h ⊢
    by_cases e : j = k
    · subst e
      have h1 := live_high hl (Int.le_refl _) h
      by_cases hc : acc.contains (j : Int) = true
      · rw [if_pos hc] at h1 ⊢
        exact live_sub l (List.mem_append_right _ ha)
      · rw [if_neg hc] at h1
        exact absurd (by simpa using h1) hc
    · exact ih (by omega) h a ha
end Go.Proofs.GrM

/- Plain facts of layer 10: what the laws say of graphs. No program stands here. -/
namespace Go.Proofs.GrM
open Go.Proofs.ShM

theorem args_lt {l : List Nd} (h : checkB l = true) : ∀ j : Nat, ∀ a ∈ (l.getD j nd0).2.1, 0 ≤ a ∧ a < (j : Int) := by
  intro j a ha
  obtain ⟨_, _, h3⟩ := check_iff.1 h
  by_cases hj : j < l.length
  · have hn : l[j]? = some l[j] := List.getElem?_eq_getElem hj
    rw [List.getD_eq_getElem?_getD, hn] at ha
    exact (node_iff.1 (h3 j _ hn)).2.2.2.1 a ha
  · rw [List.getD_eq_getElem?_getD, List.getElem?_eq_none (by omega)] at ha
    cases ha
theorem mem_upTo {n : Nat} {acc : List Int} {x : Int} : x ∈ upTo n acc ↔ (∃ i : Nat, i < n ∧ x = (i : Int)) ∧ x ∈ acc := by
  unfold upTo
  rw [List.mem_filter, List.mem_map]
  constructor
  · rintro ⟨⟨i, hi, rfl⟩, h2⟩
    exact ⟨⟨i, List.mem_range.1 hi, rfl⟩, by simpa using h2⟩
  · rintro ⟨⟨i, hi, rfl⟩, h2⟩
    exact ⟨⟨i, List.mem_range.2 hi, rfl⟩, by simpa using h2⟩
theorem mem_live {l : List Nd} {i : Nat} (h : checkB l = true) (hi : i < l.length) : (i : Int) ∈ liveV l ↔ (i : Int) ∈ liveA l := by
  unfold liveV
  rw [if_pos h, mem_upTo]
  exact ⟨fun g => g.2, fun g => ⟨⟨i, hi, rfl⟩, g⟩⟩
/-- A node is live just if it is the last one, or a live one uses it. -/
theorem live_iff {l : List Nd} {i : Nat} (h : checkB l = true) (hi : i < l.length) : (i : Int) ∈ liveV l ↔ i = l.length - 1 ∨ ∃ u ∈ usesV l (i : Int), u ∈ liveV l := by
  have hl := args_lt h
  have hlt : ∀ j : Nat, ∀ a ∈ (l.getD j nd0).2.1, a < (j : Int) := fun j a ha => (hl j a ha).2
  have h1 := (check_iff.1 h).1
  have hu : usesV l (i : Int) = usesF 0 l (i : Int) := by unfold usesV; rw [if_pos h]
  rw [hu, mem_live h hi]
  constructor
  · intro g
    rcases live_from l g with g | ⟨j, hj, g1, g2⟩
    · left
      have : (i : Int) = (l.length : Int) - 1 := by simpa using g
      omega
    · right
      have hn : l[j]? = some l[j] := List.getElem?_eq_getElem hj
      rw [List.getD_eq_getElem?_getD, hn] at g2
      exact ⟨(j : Int), mem_uses.2 ⟨j, _, hn, g2, by simp⟩, (mem_live h hj).2 g1⟩
  · rintro (g | ⟨u, g1, g2⟩)
    · exact live_sub l (by simp; omega)
    · obtain ⟨j, n, hn, g3, rfl⟩ := mem_uses.1 g1
      have hj := (List.getElem?_eq_some_iff.1 hn).1
      rw [show ((0 : Nat) : Int) + (j : Int) = (j : Int) by simp, mem_live h hj] at g2
      refine live_closed hlt hj g2 _ ?_
      rw [List.getD_eq_getElem?_getD, hn]
      exact g3
theorem uses_behind {l : List Nd} {x u : Int} (h : checkB l = true) (hu : u ∈ usesV l x) : x < u ∧ u < (l.length : Int) := by
  unfold usesV at hu
  rw [if_pos h] at hu
  obtain ⟨i, n, hn, g, rfl⟩ := mem_uses.1 hu
  have hi := (List.getElem?_eq_some_iff.1 hn).1
  have := (node_iff.1 ((check_iff.1 h).2.2 i n hn)).2.2.2.1 x g
  simp only [Int.natCast_zero, Int.zero_add]
  omega
theorem upTo_succ (n : Nat) (acc : List Int) : upTo (n + 1) acc = upTo n acc ++ (if acc.contains (n : Int) = true then [(n : Int)] else []) := by
  unfold upTo
  rw [List.range_succ, List.map_append, List.filter_append]
  congr 1
  simp [List.filter_cons]
theorem live_last {l : List Nd} (h : checkB l = true) : ∃ r, liveV l = r ++ [(l.length : Int) - 1] := by
  have h1 := (check_iff.1 h).1
  obtain ⟨n, hn⟩ : ∃ n, l.length = n + 1 := ⟨l.length - 1, by omega⟩
  unfold liveV
  rw [if_pos h, hn, upTo_succ]
  have hm : (n : Int) ∈ liveA l := live_sub l (by simp; omega)
  rw [if_pos (by simpa using hm)]
  exact ⟨upTo n (liveA l), by rw [show ((n + 1 : Nat) : Int) - 1 = (n : Int) by push_cast; omega]⟩

/-! ### A node more -/
theorem live_congr {a b : List Nd} : ∀ {k : Nat} {acc : List Int}, (∀ j, j < k → (a.getD j nd0).2.1 = (b.getD j nd0).2.1) → liveS a k acc = liveS b k acc := by
  intro k
  induction k with
  | zero => intro acc _; rfl
  | succ k ih =>
    intro acc h
    rw [liveS, liveS, h k (by omega)]
    exact ih fun j hj => h j (by omega)
theorem getD_app {l : List Nd} {m : Nd} {j : Nat} (h : j < l.length) : (l ++ [m]).getD j nd0 = l.getD j nd0 := by
  rw [List.getD_eq_getElem?_getD, List.getElem?_append_left h, List.getD_eq_getElem?_getD]
theorem getD_last (l : List Nd) (m : Nd) : (l ++ [m]).getD l.length nd0 = m := by
  rw [List.getD_eq_getElem?_getD, List.getElem?_append_right (Nat.le_refl _), Nat.sub_self]
  rfl
theorem liveA_snoc (l : List Nd) (m : Nd) : liveA (l ++ [m]) = liveS l l.length ((l.length : Int) :: m.2.1) := by
  unfold liveA
  rw [List.length_append, List.length_singleton, liveS, getD_last]
  rw [show ((l.length + 1 : Nat) : Int) - 1 = (l.length : Int) by push_cast; omega]
  rw [if_pos (by simp)]
  exact live_congr fun j hj => by rw [getD_app hj]
theorem liveS_nil {l : List Nd} : ∀ {k : Nat} {acc : List Int}, (∀ j : Nat, j < k → (j : Int) ∉ acc) → liveS l k acc = acc := by
  intro k
  induction k with
  | zero => intro acc _; rfl
  | succ k ih =>
    intro acc h
    rw [liveS, if_neg (by simpa using h k (by omega))]
    exact ih fun j hj => h j (by omega)
theorem upTo_nil {acc : List Int} : ∀ {n : Nat}, (∀ j : Nat, j < n → (j : Int) ∉ acc) → upTo n acc = [] := by
  intro n
  induction n with
  | zero => intro _; rfl
  | succ n ih =>
    intro h
    rw [upTo_succ, ih (fun j hj => h j (by omega)), if_neg (by simpa using h n (by omega))]
    rfl
/-- A number more: it alone is live. -/
theorem live_const {l : List Nd} (x : Int) (h : checkB l = true) (hl : l.length < 24) : (liveV (l ++ [(3, [], [x])])).length = 1 := by
  have hc : checkB (l ++ [(3, [], [x])]) = true := by rw [check_const x h]; simpa using hl
  unfold liveV
  rw [if_pos hc, liveA_snoc, List.length_append, List.length_singleton]
  rw [liveS_nil (fun j hj => by simp; omega), upTo_succ, upTo_nil (fun j hj => by simp; omega), if_pos (by simp)]
  rfl
theorem uses_const {l : List Nd} (x : Int) (node : Int) (h : checkB l = true) (hl : l.length < 24) : usesV (l ++ [(3, [], [x])]) node = usesV l node := by
  have hc : checkB (l ++ [(3, [], [x])]) = true := by rw [check_const x h]; simpa using hl
  unfold usesV
  rw [if_pos hc, if_pos h, uses_app]
  simp [usesF]
theorem params_const {l : List Nd} (x : Int) (h : checkB l = true) (hl : l.length < 24) : paramsV (l ++ [(3, [], [x])]) = paramsV l := by
  have hc : checkB (l ++ [(3, [], [x])]) = true := by rw [check_const x h]; simpa using hl
  refine params_congr hc h fun p => ?_
  rw [names_app]
  simp [namesB]
theorem contains_cons_ne {x y : Int} {l : List Int} (h : x ≠ y) : (y :: l).contains x = l.contains x := by
  rw [List.contains_cons]
  simp [h]
theorem liveS_front {l : List Nd} (y : Int) : ∀ {k : Nat} {acc : List Int}, (k : Int) ≤ y → liveS l k (y :: acc) = y :: liveS l k acc := by
  intro k
  induction k with
  | zero => intro acc _; rfl
  | succ k ih =>
    intro acc hk
    push_cast at hk
    rw [liveS, liveS, contains_cons_ne (by omega)]
    split
    · rw [List.cons_append, ih (by omega)]
    · exact ih (by omega)
theorem upTo_front (y : Int) (acc : List Int) : ∀ {n : Nat}, (n : Int) ≤ y → upTo n (y :: acc) = upTo n acc := by
  intro n
  induction n with
  | zero => intro _; rfl
  | succ n ih =>
    intro hk
    push_cast at hk
    rw [upTo_succ, upTo_succ, ih (by omega), contains_cons_ne (by omega)]
/-- One more, of the last one: all that were live are, and it. -/
theorem live_neg {l : List Nd} (h : checkB l = true) (hl : l.length < 24) : liveV (l ++ [(20, [(l.length : Int) - 1], [])]) = liveV l ++ [(l.length : Int)] := by
  have hc : checkB (l ++ [(20, [(l.length : Int) - 1], [])]) = true := by rw [check_neg h]; simpa using hl
  unfold liveV
  rw [if_pos hc, if_pos h, liveA_snoc, List.length_append, List.length_singleton]
  show upTo (l.length + 1) (liveS l l.length ((l.length : Int) :: [(l.length : Int) - 1])) = _
  rw [liveS_front _ (Int.le_refl _), upTo_succ, upTo_front _ _ (Int.le_refl _), if_pos (by simp)]
  rfl
theorem uses_neg {l : List Nd} (h : checkB l = true) (hl : l.length < 24) : usesV (l ++ [(20, [(l.length : Int) - 1], [])]) ((l.length : Int) - 1) = [(l.length : Int)] ∧ usesV (l ++ [(20, [(l.length : Int) - 1], [])]) (l.length : Int) = [] := by
  have hc : checkB (l ++ [(20, [(l.length : Int) - 1], [])]) = true := by rw [check_neg h]; simpa using hl
  have hno : ∀ x : Int, (l.length : Int) - 1 ≤ x → usesF 0 l x = [] := fun x hx => uses_none fun i n hn g => by
    have hi := (List.getElem?_eq_some_iff.1 hn).1
    have := (node_iff.1 ((check_iff.1 h).2.2 i n hn)).2.2.2.1 x g
    omega
  unfold usesV
  rw [if_pos hc, if_pos hc, uses_app, uses_app, hno _ (Int.le_refl _), hno _ (by omega)]
  simp [usesF]
  omega

/-! ### A graph behind itself -/
def shiftN (d : Nat) (n : Nd) : Nd := (n.1, n.2.1.map (· + (d : Int)), n.2.2)
def twice (l : List Nd) : List Nd := l ++ l.map (shiftN l.length)
theorem like_shift (d : Nat) (a b : Nd) : likeB a (shiftN d b) = likeB a b := rfl
theorem like_shift2 (d : Nat) (a b : Nd) : likeB (shiftN d a) b = likeB a b := rfl
theorem like_any {l : List Nd} (h : checkB l = true) {i j : Nat} {a b : Nd} (ha : l[i]? = some a) (hb : l[j]? = some b) : likeB a b = true := by
  obtain ⟨_, _, h3⟩ := check_iff.1 h
  rcases Nat.lt_trichotomy i j with g | g | g
  · have := (node_iff.1 (h3 j b hb)).2.2.2.2
    exact this a (List.mem_iff_getElem?.2 ⟨i, by rw [List.getElem?_take, if_pos g]; exact ha⟩)
  · subst g
    rw [ha] at hb
    injection hb with hb
    subst hb
    exact like_refl a
  · have := (node_iff.1 (h3 i a ha)).2.2.2.2
    exact like_symm (this b (List.mem_iff_getElem?.2 ⟨j, by rw [List.getElem?_take, if_pos g]; exact hb⟩))
theorem twice_len (l : List Nd) : (twice l).length = l.length + l.length := by unfold twice; rw [List.length_append, List.length_map]
theorem check_twice {l : List Nd} (h : checkB l = true) : checkB (twice l) = decide (l.length + l.length ≤ 24) := by
  obtain ⟨h1, h2, h3⟩ := check_iff.1 h
  rw [Bool.eq_iff_iff, check_iff, decide_eq_true_iff, twice_len]
  constructor
  · rintro ⟨_, g, _⟩; exact g
  · intro g
    refine ⟨by omega, g, fun i n hn => ?_⟩
    unfold twice at hn ⊢
    rw [List.getElem?_append] at hn
    split at hn
    · rename_i hi
      rw [node_app (by omega)]
      exact h3 i n hn
    · rename_i hi
      rw [List.getElem?_map, Option.map_eq_some_iff] at hn
      obtain ⟨m, hm, rfl⟩ := hn
      obtain ⟨n1, n2, n3, n4, n5⟩ := node_iff.1 (h3 _ m hm)
      refine node_iff.2 ⟨n1, by show ((m.2.1.map _).length : Int) = _; rw [List.length_map]; exact n2, n3, ?_, ?_⟩
      · intro a ha
        obtain ⟨b, hb, rfl⟩ := List.mem_map.1 ha
        have := n4 b hb
        omega
      · intro q hq
        rw [like_shift]
        rw [List.mem_iff_getElem?] at hq
        obtain ⟨j, hj⟩ := hq
        rw [List.getElem?_take] at hj
        split at hj
        · rw [List.getElem?_append] at hj
          split at hj
          · exact like_any h hj hm
          · rw [List.getElem?_map, Option.map_eq_some_iff] at hj
            obtain ⟨m2, hm2, rfl⟩ := hj
            rw [like_shift2]
            exact like_any h hm2 hm
        · cases hj
theorem params_twice {l : List Nd} (h : checkB l = true) (hl : l.length + l.length ≤ 24) : paramsV (twice l) = paramsV l := by
  have hc : checkB (twice l) = true := by rw [check_twice h]; simpa using hl
  refine params_congr hc h fun p => ?_
  unfold twice
  rw [names_app]
  have : namesB (l.map (shiftN l.length)) p = namesB l p := by
    unfold namesB
    rw [List.any_map]
    rfl
  rw [this, Bool.or_self]
theorem uses_shift (d : Nat) (x : Int) : ∀ (l : List Nd) (k e : Nat), usesF (k + e) (l.map (shiftN d)) (x + (d : Int)) = (usesF k l x).map (· + (e : Int))
  | [], k, e => rfl
  | n :: l, k, e => by
    rw [List.map_cons, usesF, usesF, List.map_append, show k + e + 1 = (k + 1) + e by omega, uses_shift d x l (k + 1) e]
    congr 1
    show (List.map (fun _ => ((k + e : Nat) : Int)) (List.filter (fun y => y == x + (d : Int)) (n.2.1.map (· + (d : Int))))) = _
    rw [List.filter_map, List.map_map, List.map_map]
    have : ((fun y : Int => y == x + (d : Int)) ∘ fun y => y + (d : Int)) = (fun y => y == x) := by
      funext y
      simp only [Function.comp]
      rw [Bool.eq_iff_iff, beq_iff_eq, beq_iff_eq]
      omega
    rw [this]
    refine List.map_congr_left fun _ _ => ?_
    simp only [Function.comp]
    push_cast
    rfl
theorem uses_twice {l : List Nd} {x : Int} (h : checkB l = true) (hl : l.length + l.length ≤ 24) (h0 : 0 ≤ x) (h1 : x < (l.length : Int)) :
    usesV (twice l) x = usesV l x ∧ usesV (twice l) (x + (l.length : Int)) = (usesV l x).map (· + (l.length : Int)) := by
  have hc : checkB (twice l) = true := by rw [check_twice h]; simpa using hl
  have ha := fun (i : Nat) (n : Nd) (hn : l[i]? = some n) (y : Int) (g : y ∈ n.2.1) => (node_iff.1 ((check_iff.1 h).2.2 i n hn)).2.2.2.1 y g
  unfold usesV
  rw [if_pos hc, if_pos hc, if_pos h]
  unfold twice
  rw [uses_app, uses_app, uses_shift]
  constructor
  · rw [uses_none (l := l.map (shiftN l.length)), List.append_nil]
    intro i n hn g
    rw [List.getElem?_map, Option.map_eq_some_iff] at hn
    obtain ⟨m, hm, rfl⟩ := hn
    obtain ⟨b, hb, e⟩ := List.mem_map.1 g
    have := ha i m hm b hb
    omega
  · rw [uses_none (l := l) (x := x + (l.length : Int)), List.nil_append]
    intro i n hn g
    have hi := (List.getElem?_eq_some_iff.1 hn).1
    have := ha i n hn _ g
    omega
theorem getD_shift {l : List Nd} {d j : Nat} (hj : j < l.length) : ((l ++ l.map (shiftN d)).getD (l.length + j) nd0).2.1 = (l.getD j nd0).2.1.map (· + (d : Int)) := by
  rw [List.getD_eq_getElem?_getD, List.getElem?_append_right (by omega), show l.length + j - l.length = j by omega, List.getElem?_map, List.getElem?_eq_getElem hj, List.getD_eq_getElem?_getD, List.getElem?_eq_getElem hj]
  rfl
theorem contains_shift (d : Int) (x : Int) (acc : List Int) : (acc.map (· + d)).contains (x + d) = acc.contains x := by
  rw [Bool.eq_iff_iff]
  simp only [List.contains_iff_mem, List.mem_map]
  constructor
  · rintro ⟨a, ha, e⟩
    have : a = x := by omega
    rw [← this]; exact ha
  · intro h; exact ⟨x, h, rfl⟩
theorem liveS_shift (l : List Nd) : ∀ {k : Nat} {acc : List Int}, k ≤ l.length → liveS (twice l) (l.length + k) (acc.map (· + (l.length : Int))) = liveS (twice l) l.length ((liveS l k acc).map (· + (l.length : Int))) := by
  intro k
  induction k with
  | zero => intro acc _; rfl
  | succ k ih =>
    intro acc hk
    rw [show l.length + (k + 1) = (l.length + k) + 1 by omega, liveS, liveS]
    have hc : (acc.map (· + (l.length : Int))).contains ((l.length + k : Nat) : Int) = acc.contains (k : Int) := by
      rw [show ((l.length + k : Nat) : Int) = (k : Int) + (l.length : Int) by push_cast; omega]
      exact contains_shift _ _ _
    rw [hc]
    split
    · rw [show ((twice l).getD (l.length + k) nd0).2.1 = (l.getD k nd0).2.1.map (· + (l.length : Int)) from getD_shift (by omega), ← List.map_append]
      exact ih (by omega)
    · exact ih (by omega)
theorem liveS_low {l : List Nd} (hl : ∀ j : Nat, ∀ a ∈ (l.getD j nd0).2.1, 0 ≤ a) : ∀ {k : Nat} {acc : List Int}, (∀ a ∈ acc, 0 ≤ a) → ∀ a ∈ liveS l k acc, 0 ≤ a := by
  intro k
  induction k with
  | zero => intro acc h; exact h
  | succ k ih =>
    intro acc h
    rw [liveS]
    apply ih
    split
    · intro a ha
      rcases List.mem_append.1 ha with ha | ha
      · exact h a ha
      · exact hl k a ha
    · exact h
theorem upTo_shift (d : Nat) (acc : List Int) (hd : ∀ a ∈ acc, (0 : Int) ≤ a) : ∀ n : Nat, upTo (d + n) (acc.map (· + (d : Int))) = (upTo n acc).map (· + (d : Int)) := by
  intro n
  induction n with
  | zero =>
    show upTo d _ = _
    rw [upTo_nil]
    · rfl
    · intro j hj g
      obtain ⟨a, ha, e⟩ := List.mem_map.1 g
      have := hd a ha
      omega
  | succ n ih =>
    rw [show d + (n + 1) = (d + n) + 1 by omega, upTo_succ, upTo_succ, ih, List.map_append]
    congr 1
    rw [show ((d + n : Nat) : Int) = (n : Int) + (d : Int) by push_cast; omega, contains_shift]
    split <;> rfl
/-- As many are live. -/
theorem live_twice {l : List Nd} (h : checkB l = true) (hl : l.length + l.length ≤ 24) : liveV (twice l) = (liveV l).map (· + (l.length : Int)) := by
  have hc : checkB (twice l) = true := by rw [check_twice h]; simpa using hl
  have h1 := (check_iff.1 h).1
  have hlow := liveS_low (l := l) (fun j a ha => (args_lt h j a ha).1) (k := l.length) (acc := [(l.length : Int) - 1]) (fun a ha => by simp at ha; omega)
  unfold liveV
  rw [if_pos hc, if_pos h, twice_len]
  have e1 : liveA (twice l) = (liveA l).map (· + (l.length : Int)) := by
    unfold liveA
    rw [twice_len, show [((l.length + l.length : Nat) : Int) - 1] = [(l.length : Int) - 1].map (· + (l.length : Int)) by simp; omega, liveS_shift l (Nat.le_refl _)]
    apply liveS_nil
    intro j hj g
    obtain ⟨a, ha, e⟩ := List.mem_map.1 g
    have := hlow a ha
    omega
  rw [e1]
  exact upTo_shift _ _ hlow _

/-! ### Names -/
theorem params_rise {l : List Nd} : List.Pairwise (· < ·) (paramsV l) := by
  unfold paramsV
  split
  · apply List.Pairwise.filter
    decide
  · exact List.Pairwise.nil
theorem par_of {l : List Nd} (h : checkB l = true) {i : Nat} {n : Nd} (hn : l[i]? = some n) (h2 : n.1 = 2) : n.2.2 ≠ [] ∧ n.2.2.getD 0 0 ∈ paramsV l := by
  have hb := (node_iff.1 ((check_iff.1 h).2.2 i n hn)).2.2.1
  unfold numsB at hb
  rw [if_neg (by omega), if_pos h2] at hb
  have hp : ∃ p s, n.2.2 = p :: s ∧ 0 ≤ p ∧ p ≤ 7 := by
    cases e : n.2.2 with
    | nil => rw [e] at hb; cases hb
    | cons p s =>
      rw [e] at hb
      unfold parB at hb
      simp at hb
      exact ⟨p, s, rfl, hb.1⟩
  obtain ⟨p, s, e, hp1, hp2⟩ := hp
  refine ⟨by rw [e]; simp, (mem_params h).2 ⟨by rw [e]; exact ⟨hp1, hp2⟩, ?_⟩⟩
  unfold namesB
  rw [List.any_eq_true]
  exact ⟨n, List.mem_of_getElem? hn, by simp [h2]⟩
theorem par_back {l : List Nd} (h : checkB l = true) {p : Int} (hp : p ∈ paramsV l) : ∃ (i : Nat) (n : Nd), l[i]? = some n ∧ n.1 = 2 ∧ n.2.2.getD 0 0 = p := by
  have := ((mem_params h).1 hp).2
  unfold namesB at this
  rw [List.any_eq_true] at this
  obtain ⟨n, hn, e⟩ := this
  obtain ⟨i, hi⟩ := List.mem_iff_getElem?.1 hn
  have e := of_decide_eq_true e
  exact ⟨i, n, hi, e.1, e.2⟩
/-- The input is that of each OInput. -/
theorem input_of {l : List Nd} (h : checkB l = true) {i : Nat} {n : Nd} (hn : l[i]? = some n) (h1 : n.1 = 1) : inputsV l = (n.2.2, true) := by
  unfold inputsV inputsO
  rw [if_pos h]
  cases e : l.find? (fun n => decide (n.1 = 1)) with
  | none =>
    rw [List.find?_eq_none] at e
    exact absurd (by simpa using h1) (e n (List.mem_of_getElem? hn))
  | some m =>
    have hm := List.find?_some e
    have hm1 : m.1 = 1 := by simpa using hm
    obtain ⟨j, hj⟩ := List.mem_iff_getElem?.1 (List.mem_of_find?_eq_some e)
    have := like_any h hj hn
    unfold likeB at this
    rw [if_neg (by omega), beq_iff_eq] at this
    show (m.2.2, true) = _
    rw [this]
theorem input_none {l : List Nd} (h : checkB l = true) (hn : ∀ (i : Nat) (n : Nd), l[i]? = some n → n.1 ≠ 1) : inputsV l = ([], false) := by
  unfold inputsV inputsO
  rw [if_pos h, List.find?_eq_none.2]
  · rfl
  · intro n hm
    obtain ⟨i, hi⟩ := List.mem_iff_getElem?.1 hm
    simpa using hn i n hi
theorem arity_of {l : List Nd} (h : checkB l = true) {i : Nat} {n : Nd} (hn : l[i]? = some n) : arityV n.1 = (n.2.1.length : Int) := (node_iff.1 ((check_iff.1 h).2.2 i n hn)).2.1.symm
end Go.Proofs.GrM

/- A []api.Node: what it reads as, one of the call's own: appended to. -/
namespace Go.Proofs.Ytdcpekkkenckeaa
open Go.RowKit Go.Proofs.ShM Go.Proofs.GrM
set_option linter.unusedVariables false
set_option maxRecDepth 100000

/-- A node's two lists are there, in blocks of X. -/
structure NR (w : World) (X : Nat → Prop) (P : Option Addr) (a : List Int) (Q : Option Addr) (b : List Int) : Prop where
  ra : Rd w P a
  rn : Rd w Q b
  xa : ∀ ad, P = some ad → 0 < a.length → X ad.block
  xn : ∀ ad, Q = some ad → 0 < b.length → X ad.block
/-- A node's cells, as values. -/
abbrev V3 := Value × Value × Value
def flatN (vs : List V3) : List Value := vs.flatMap fun p => [p.1, p.2.1, p.2.2]
theorem flatN_cons (p : V3) (vs : List V3) : flatN (p :: vs) = p.1 :: p.2.1 :: p.2.2 :: flatN vs := rfl
theorem flatN_append (a b : List V3) : flatN (a ++ b) = flatN a ++ flatN b := by unfold flatN; rw [List.flatMap_append]
theorem flatN_len : ∀ vs : List V3, (flatN vs).length = vs.length * 3
  | [] => rfl
  | p :: vs => by rw [flatN_cons, List.length_cons, List.length_cons, List.length_cons, flatN_len vs, List.length_cons]; omega
theorem flatN_at : ∀ {vs : List V3} {j : Nat} {p : V3}, vs[j]? = some p → (flatN vs)[j * 3]? = some p.1 ∧ (flatN vs)[j * 3 + 1]? = some p.2.1 ∧ (flatN vs)[j * 3 + 2]? = some p.2.2
  | [], j, p, h => by simp at h
  | q :: vs, 0, p, h => by
    have : q = p := by simpa using h
    subst this
    exact ⟨rfl, rfl, rfl⟩
  | q :: vs, j + 1, p, h => by
    have := flatN_at (vs := vs) (j := j) (p := p) (by simpa using h)
    rw [flatN_cons, show (j + 1) * 3 = j * 3 + 1 + 1 + 1 by omega]
    exact this

/-- Three cells are a node, whose lists lie in blocks of X. -/
def Vn (w : World) (X : Nat → Prop) (p : V3) (t : Nd) : Prop :=
  ∃ A c B d, p = (.int .i64 t.1, .slice A t.2.1.length c, .slice B t.2.2.length d) ∧ t.2.1.length ≤ c ∧ c ≤ 9223372036854775807 ∧ t.2.2.length ≤ d ∧ d ≤ 9223372036854775807 ∧ NR w X A t.2.1 B t.2.2
structure AllN (w : World) (X : Nat → Prop) (vs : List V3) (ts : List Nd) : Prop where
  len : vs.length = ts.length
  at_ : ∀ (j : Nat) (p : V3) (t : Nd), vs[j]? = some p → ts[j]? = some t → Vn w X p t
/-- The cells from A on are the nodes ts. -/
def RdN (w : World) (X : Nat → Prop) (A : Option Addr) (ts : List Nd) : Prop :=
  ts.length ≤ 9223372036854775807 ∧ ∃ vs, AllN w X vs ts ∧ (0 < ts.length → ∃ ad, A = some ad ∧ ad.block < w.heap.size ∧ ∀ j u, (flatN vs)[j]? = some u → w.cell? (ad.add j) = some u)
abbrev RdG (w : World) (A : Option Addr) (ts : List Nd) : Prop := RdN w (fun _ => True) A ts

section
variable {w w' : World} {X Y : Nat → Prop} {A : Option Addr} {ts us : List Nd} {vs zs : List V3}
theorem NR.mono {P Q : Option Addr} {a b : List Int} (h : NR w X P a Q b) (hk : Kp w w') (hx : ∀ k, k < w.heap.size → X k → Y k) : NR w' Y P a Q b := by
  refine ⟨h.ra.kp hk, h.rn.kp hk, fun ad h1 h2 => hx _ ?_ (h.xa ad h1 h2), fun ad h1 h2 => hx _ ?_ (h.xn ad h1 h2)⟩
  · obtain ⟨ad', e', hb, _⟩ := h.ra.2 h2; rw [h1] at e'; injection e' with e'; subst e'; exact hb
  · obtain ⟨ad', e', hb, _⟩ := h.rn.2 h2; rw [h1] at e'; injection e' with e'; subst e'; exact hb
theorem NR.kp {P Q : Option Addr} {a b : List Int} (h : NR w X P a Q b) (hk : Kp w w') : NR w' X P a Q b := h.mono hk fun _ _ x => x
theorem Vn.mono {p : V3} {t : Nd} (h : Vn w X p t) (hk : Kp w w') (hx : ∀ k, k < w.heap.size → X k → Y k) : Vn w' Y p t := by
  obtain ⟨A, c, B, d, e, c1, c2, d1, d2, r⟩ := h
  exact ⟨A, c, B, d, e, c1, c2, d1, d2, r.mono hk hx⟩
theorem AllN.mono (h : AllN w X vs ts) (hk : Kp w w') (hx : ∀ k, k < w.heap.size → X k → Y k) : AllN w' Y vs ts := ⟨h.len, fun j p t h1 h2 => (h.at_ j p t h1 h2).mono hk hx⟩
theorem AllN.nil_ (w : World) (X : Nat → Prop) : AllN w X [] [] := ⟨rfl, fun j p t h => by simp at h⟩
theorem AllN.app (h : AllN w X vs ts) (g : AllN w X zs us) : AllN w X (vs ++ zs) (ts ++ us) := by
  refine ⟨by rw [List.length_append, List.length_append, h.len, g.len], fun j p t h1 h2 => ?_⟩
  rw [List.getElem?_append] at h1 h2
  rw [h.len] at h1
  split at h1
  · rename_i hj
    rw [if_pos hj] at h2
    exact h.at_ j p t h1 h2
  · rename_i hj
    rw [if_neg hj] at h2
    exact g.at_ _ p t h1 h2
theorem RdN.mono (h : RdN w X A ts) (hk : Kp w w') (hx : ∀ k, k < w.heap.size → X k → Y k) : RdN w' Y A ts := by
  obtain ⟨h1, vs, h2, h3⟩ := h
  exact ⟨h1, vs, h2.mono hk hx, fun hp => by
    obtain ⟨ad, e, hb, hc⟩ := h3 hp
    exact ⟨ad, e, Nat.lt_of_lt_of_le hb hk.size, fun j u hu => (hk.cell (by rw [block_of_add]; exact hb)).trans (hc j u hu)⟩⟩
theorem RdN.kp (h : RdN w X A ts) (hk : Kp w w') : RdN w' X A ts := h.mono hk fun _ _ x => x
theorem RdN.old (h : RdN w X A ts) : RdN w (fun k => k < w.heap.size) A ts := h.mono (Kp.refl _) fun _ h _ => h
theorem RdN.all (h : RdN w X A ts) : RdG w A ts := h.mono (Kp.refl _) fun _ _ _ => trivial
theorem RdN.len (h : RdN w X A ts) : ts.length ≤ 9223372036854775807 := h.1
theorem RdN.nil_ (w : World) (X : Nat → Prop) (A : Option Addr) : RdN w X A [] := ⟨by simp, [], AllN.nil_ _ _, fun h => absurd h (by simp)⟩
theorem RdN.alloc_ (h : RdN w X A ts) (o : Obj) : RdN (w.alloc o) X A ts := h.kp (Kp.alloc_ w o)
theorem RdN.take_ (h : RdN w X A ts) (k : Nat) : RdN w X A (ts.take k) := by
  obtain ⟨h1, vs, h2, h3⟩ := h
  refine ⟨by rw [List.length_take]; omega, vs.take k, ⟨by rw [List.length_take, List.length_take, h2.len], fun j p t e1 e2 => ?_⟩, fun hp => ?_⟩
  · rw [List.getElem?_take] at e1 e2
    split at e1
    · rename_i hj
      rw [if_pos hj] at e2
      exact h2.at_ j p t e1 e2
    · cases e1
  · rw [List.length_take] at hp
    obtain ⟨ad, e, hb, hc⟩ := h3 (by omega)
    refine ⟨ad, e, hb, fun j u hu => hc j u ?_⟩
    have : flatN vs = flatN (vs.take k) ++ flatN (vs.drop k) := by rw [← flatN_append, List.take_append_drop]
    rw [this, List.getElem?_append_left (List.getElem?_eq_some_iff.1 hu).1]
    exact hu
/-- What is read at a place: the node's three cells, and its lists. -/
theorem RdN.at_ (h : RdN w X A ts) {k : Nat} (hk : k < ts.length) : ∃ ad t P c Q d, A = some ad ∧ ad.block < w.heap.size ∧ ts[k]? = some t ∧ w.cell? (ad.add (k * 3)) = some (.int .i64 t.1) ∧ w.cell? ⟨(ad.add (k * 3)).block, (ad.add (k * 3)).off + 1, none⟩ = some (.slice P t.2.1.length c) ∧ w.cell? ⟨(ad.add (k * 3)).block, (ad.add (k * 3)).off + 2, none⟩ = some (.slice Q t.2.2.length d) ∧ NR w X P t.2.1 Q t.2.2 ∧ (t.2.1.length ≤ c ∧ c ≤ 9223372036854775807) ∧ t.2.2.length ≤ d ∧ d ≤ 9223372036854775807 := by
  obtain ⟨_, vs, hv, hh⟩ := h
  obtain ⟨ad, e, hb, hc⟩ := hh (by omega)
  have hl := hv.len
  have e1 : vs[k]? = some vs[k] := List.getElem?_eq_getElem (by omega)
  have e2 : ts[k]? = some ts[k] := List.getElem?_eq_getElem hk
  obtain ⟨P, c, Q, d, ep, c1, c2, d1, d2, r⟩ := hv.at_ k _ _ e1 e2
  obtain ⟨f1, f2, f3⟩ := flatN_at e1
  refine ⟨ad, ts[k], P, c, Q, d, e, hb, e2, ?_, ?_, ?_, r, ⟨c1, c2⟩, d1, d2⟩
  · rw [hc _ _ f1, ep]
  · have e3 : (⟨(ad.add (k * 3)).block, (ad.add (k * 3)).off + 1, none⟩ : Addr) = ad.add (k * 3 + 1) := by rw [← Addr.add_add]; rfl
    rw [e3, hc _ _ f2, ep]
  · have e3 : (⟨(ad.add (k * 3)).block, (ad.add (k * 3)).off + 2, none⟩ : Addr) = ad.add (k * 3 + 2) := by rw [← Addr.add_add]; rfl
    rw [e3, hc _ _ f3, ep]
/-- One node in a new row. -/
theorem RdN.one {P Q : Option Addr} {t : Nd} {c d : Nat} (h : NR w X P t.2.1 Q t.2.2) (hc : t.2.1.length ≤ c ∧ c ≤ 9223372036854775807) (hd : t.2.2.length ≤ d ∧ d ≤ 9223372036854775807) (ty : TypeId) :
    RdN (w.alloc (.cells #[.int .i64 t.1, .slice P t.2.1.length c, .slice Q t.2.2.length d] ty)) X (some ⟨w.heap.size, 0, none⟩) [t] := by
  refine ⟨by simp, [(.int .i64 t.1, .slice P t.2.1.length c, .slice Q t.2.2.length d)], ⟨rfl, fun j p t' h1 h2 => ?_⟩, fun _ => ⟨_, rfl, by simp, fun j u hu => ?_⟩⟩
  · cases j with
    | zero =>
      have e1 : (Value.int .i64 t.1, Value.slice P t.2.1.length c, Value.slice Q t.2.2.length d) = p := by simpa using h1
      have e2 : t = t' := by simpa using h2
      subst e1 e2
      exact ⟨P, c, Q, d, rfl, hc.1, hc.2, hd.1, hd.2, h.kp (Kp.alloc_ _ _)⟩
    | succ j => simp at h1
  · rw [Go.WideShapes.add_plain, Nat.zero_add, World.cell?_alloc_at _ ty _ j rfl]
    have : (flatN [(Value.int .i64 t.1, Value.slice P t.2.1.length c, Value.slice Q t.2.2.length d)])[j]? = #[Value.int .i64 t.1, Value.slice P t.2.1.length c, Value.slice Q t.2.2.length d][j]? := by simp [flatN]
    rw [← this]; exact hu
end

section
variable {w w' : World} {B : Nat} {v : Value} {ts us : List Nd} {A : Option Addr}
theorem grown_rd {row : Option Nat} (hg : w.grownBy w' row) {A : Option Addr} {xs : List Int} (h : Rd w A xs) (hx : ∀ ad, A = some ad → 0 < xs.length → row ≠ some ad.block) : Rd w' A xs :=
  ⟨h.1, fun hn => by
    obtain ⟨ad, e, hb, hc⟩ := h.2 hn
    refine ⟨ad, e, Nat.lt_of_lt_of_le hb hg.size, fun j u hu => ?_⟩
    have hne : some ad.block ≠ row := fun e' => hx ad e hn e'.symm
    rw [World.cell?_of_block (w := w) (a := ad.add j) (by rw [block_of_add]; exact hg.block _ hb hne)]
    exact hc j u hu⟩
theorem grown_n {row : Option Nat} {p : V3} {t : Nd} {Y : Nat → Prop} (hg : w.grownBy w' row) (h : Vn w (fun k => row ≠ some k) p t) (hY : ∀ k, k < w.heap.size → row ≠ some k → Y k) : Vn w' Y p t := by
  obtain ⟨A, c, B, d, e, c1, c2, d1, d2, r⟩ := h
  refine ⟨A, c, B, d, e, c1, c2, d1, d2, ⟨grown_rd hg r.ra r.xa, grown_rd hg r.rn r.xn, fun ad h1 h2 => hY _ ?_ (r.xa ad h1 h2), fun ad h1 h2 => hY _ ?_ (r.xn ad h1 h2)⟩⟩
  · obtain ⟨ad', e', hb, _⟩ := r.ra.2 h2; rw [h1] at e'; injection e' with e'; subst e'; exact hb
  · obtain ⟨ad', e', hb, _⟩ := r.rn.2 h2; rw [h1] at e'; injection e' with e'; subst e'; exact hb
end
end Go.Proofs.Ytdcpekkkenckeaa
