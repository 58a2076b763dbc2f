import Derived.Test.YtdcgmnkoomhocaaShAll
import Derived.Deep.RegionHeld3
import Derived.BigQuiet
import Derived.Carry
import Derived.Deep.DeepCutAuto
import Derived.Deep.QuietTactic
import Derived.Deep.RegionLaw
import Derived.Deep.RegionWith
import Derived.Laws.CopyOwn
import Derived.Lib.BitFns
import Derived.Lib.Mul64
import Derived.Lib.SmallJoins
import Derived.LoopIn
import Derived.LoopNIn
import Derived.OpenShut
import Derived.OwnWalkIn
import Derived.ProofKit
import Derived.RangeFuncBound
import Derived.RangeFuncBox
import Derived.RangeFuncCalls
import Derived.RangeFuncLeaves
import Derived.RangeFuncNested
import Derived.Shelf.Abstract
import Derived.Shelf.RegionOpen
import Derived.StillTailTactics
import Derived.TacticsInMore
import Derived.Deep.Strs
set_option maxRecDepth 100000
/- Plain facts of layer 10: graphs. No program stands here. -/
namespace Go.Proofs.GrM
open Go.Proofs.ShM

/-- A node: what is reckoned, of which nodes, numbers that say how. -/
abbrev Nd := Int × List Int × List Int
def nd0 : Nd := (0, [], [])
def arityV (op : Int) : Int :=
  if 1 ≤ op ∧ op ≤ 3 then 0 else if (10 ≤ op ∧ op ≤ 13) ∨ op = 30 ∨ op = 43 then 2 else if (20 ≤ op ∧ op ≤ 23) ∨ (40 ≤ op ∧ op ≤ 42) ∨ (50 ≤ op ∧ op ≤ 52) then 1 else -1
/-- Of a parameter: the number, and a shape. -/
def parB (l : List Int) : Bool := match l with
  | [] => false
  | p :: s => decide (0 ≤ p ∧ p ≤ 7) && okS s
def numsB (n : Nd) : Bool :=
  if n.1 = 1 ∨ n.1 = 40 then okS n.2.2 else if n.1 = 2 then parB n.2.2 else if n.1 = 42 then decide (n.2.2.length = 3) else if n.1 = 3 ∨ n.1 = 43 ∨ 50 ≤ n.1 then decide (n.2.2.length = 1) else decide (n.2.2.length = 0)
def likeB (a b : Nd) : Bool := if a.1 ≠ b.1 ∨ 2 < a.1 ∨ (a.1 = 2 ∧ a.2.2.getD 0 0 ≠ b.2.2.getD 0 0) then true else a.2.2 == b.2.2
def argsB (i : Nat) (l : List Int) : Bool := l.all fun a => decide (0 ≤ a ∧ a < (i : Int))
def nodeB (l : List Nd) (i : Nat) (n : Nd) : Bool :=
  decide (0 ≤ arityV n.1 ∧ (n.2.1.length : Int) = arityV n.1) && numsB n && argsB i n.2.1 && (l.take i).all (fun m => likeB m n)
def checkB (l : List Nd) : Bool := decide (1 ≤ l.length ∧ l.length ≤ 24 ∧ ∀ i, i < l.length → nodeB l i (l.getD i nd0) = true)
def namesB (l : List Nd) (p : Int) : Bool := l.any fun n => decide (n.1 = 2 ∧ n.2.2.getD 0 0 = p)
def paramsV (l : List Nd) : List Int := if checkB l = true then ((List.range 8).map fun p : Nat => (p : Int)).filter (namesB l) else []
def inputsO (l : List Nd) : Option (List Int) := (l.find? fun n => decide (n.1 = 1)).map (·.2.2)
def inputsV (l : List Nd) : List Int × Bool := if checkB l = true then (match inputsO l with | some s => (s, true) | none => ([], false)) else ([], false)
/-- Who uses a node, from the k-th on. -/
def usesF (k : Nat) : List Nd → Int → List Int
  | [], _ => []
  | n :: l, x => (n.2.1.filter (· == x)).map (fun _ => (k : Int)) ++ usesF (k + 1) l x
def usesV (l : List Nd) (x : Int) : List Int := if checkB l = true then usesF 0 l x else []
/-- All that is reckoned of, from the k-th down. -/
def liveS (l : List Nd) : Nat → List Int → List Int
  | 0, acc => acc
  | k + 1, acc => liveS l k (if acc.contains (k : Int) = true then acc ++ (l.getD k nd0).2.1 else acc)
def liveA (l : List Nd) : List Int := liveS l l.length [(l.length : Int) - 1]
def upTo (n : Nat) (acc : List Int) : List Int := ((List.range n).map fun i : Nat => (i : Int)).filter (fun i => acc.contains i)
def liveV (l : List Nd) : List Int := if checkB l = true then upTo l.length (liveA l) else []

/-! ### Check -/
theorem check_iff {l : List Nd} : checkB l = true ↔ 1 ≤ l.length ∧ l.length ≤ 24 ∧ ∀ (i : Nat) (n : Nd), l[i]? = some n → nodeB l i n = true := by
  unfold checkB
  rw [decide_eq_true_iff]
  constructor
  · rintro ⟨h1, h2, h3⟩
    refine ⟨h1, h2, fun i n hn => ?_⟩
    obtain ⟨hi, e⟩ := List.getElem?_eq_some_iff.1 hn
    have := h3 i hi
    rwa [List.getD_eq_getElem?_getD, hn] at this
  · rintro ⟨h1, h2, h3⟩
    refine ⟨h1, h2, fun i hi => ?_⟩
    have hn : l[i]? = some l[i] := List.getElem?_eq_getElem hi
    have := h3 i _ hn
    rwa [List.getD_eq_getElem?_getD, hn]
theorem node_iff {l : List Nd} {i : Nat} {n : Nd} : nodeB l i n = true ↔ 0 ≤ arityV n.1 ∧ (n.2.1.length : Int) = arityV n.1 ∧ numsB n = true ∧ (∀ a ∈ n.2.1, 0 ≤ a ∧ a < (i : Int)) ∧ ∀ m ∈ l.take i, likeB m n = true := by
  unfold nodeB argsB
  simp only [Bool.and_eq_true, decide_eq_true_eq, List.all_eq_true]
  constructor
  · rintro ⟨⟨⟨⟨h1, h2⟩, h3⟩, h4⟩, h5⟩
    exact ⟨h1, h2, h3, h4, h5⟩
  · rintro ⟨h1, h2, h3, h4, h5⟩
    exact ⟨⟨⟨⟨h1, h2⟩, h3⟩, h4⟩, h5⟩
theorem node_take {l : List Nd} {k i : Nat} {n : Nd} (h : i ≤ k) : nodeB (l.take k) i n = nodeB l i n := by
  unfold nodeB
  rw [List.take_take, Nat.min_eq_left h]
theorem check_take {l : List Nd} {k : Nat} (h : checkB l = true) (hk : 1 ≤ k) (hk2 : k ≤ l.length) : checkB (l.take k) = true := by
  obtain ⟨h1, h2, h3⟩ := check_iff.1 h
  refine check_iff.2 ⟨by rw [List.length_take]; omega, by rw [List.length_take]; omega, fun i n hn => ?_⟩
  rw [List.getElem?_take] at hn
  split at hn
  · rename_i hi
    rw [node_take (by omega)]
    exact h3 i n hn
  · cases hn
theorem node_app {l m : List Nd} {i : Nat} {n : Nd} (h : i ≤ l.length) : nodeB (l ++ m) i n = nodeB l i n := by
  unfold nodeB
  rw [List.take_append_of_le_length h]
theorem check_snoc {l : List Nd} {m : Nd} (h : checkB l = true) : checkB (l ++ [m]) = (decide (l.length < 24) && nodeB l l.length m) := by
  obtain ⟨h1, h2, h3⟩ := check_iff.1 h
  rw [Bool.eq_iff_iff, check_iff, Bool.and_eq_true, decide_eq_true_iff]
  rw [List.length_append, List.length_singleton]
  constructor
  · rintro ⟨_, g2, g3⟩
    have := g3 l.length m (by rw [List.getElem?_append_right (Nat.le_refl _), Nat.sub_self]; rfl)
    rw [node_app (Nat.le_refl _)] at this
    exact ⟨by omega, this⟩
  · rintro ⟨g1, g2⟩
    refine ⟨by omega, by omega, fun i n hn => ?_⟩
    rw [List.getElem?_append] at hn
    split at hn
    · rename_i hi
      rw [node_app (by omega)]
      exact h3 i n hn
    · rename_i hi
      have : i = l.length := by
        have := (List.getElem?_eq_some_iff.1 hn).1
        simp at this
        omega
      subst this
      rw [Nat.sub_self] at hn
      have : m = n := by simpa using hn
      subst this
      rw [node_app (Nat.le_refl _)]
      exact g2
theorem like_other {a b : Nd} (h : 2 < b.1) : likeB a b = true := by
  unfold likeB
  by_cases e : a.1 = b.1
  · rw [if_pos (.inr (.inl (by omega)))]
  · rw [if_pos (.inl e)]
theorem like_refl (a : Nd) : likeB a a = true := by unfold likeB; split <;> simp
theorem like_symm {a b : Nd} (h : likeB a b = true) : likeB b a = true := by
  unfold likeB at h ⊢
  by_cases g : b.1 ≠ a.1 ∨ 2 < b.1 ∨ (b.1 = 2 ∧ b.2.2.getD 0 0 ≠ a.2.2.getD 0 0)
  · rw [if_pos g]
  · rw [if_neg g]
    have g' : ¬ (a.1 ≠ b.1 ∨ 2 < a.1 ∨ (a.1 = 2 ∧ a.2.2.getD 0 0 ≠ b.2.2.getD 0 0)) := by
      intro c
      apply g
      rcases c with c | c | ⟨c1, c2⟩
      · exact .inl fun e => c e.symm
      · by_cases e : b.1 = a.1
        · exact .inr (.inl (by omega))
        · exact .inl e
      · by_cases e : b.1 = a.1
        · exact .inr (.inr ⟨by omega, fun e => c2 e.symm⟩)
        · exact .inl e
    rw [if_neg g'] at h
    rw [beq_iff_eq] at h ⊢
    exact h.symm
/-- A number more. -/
theorem check_const {l : List Nd} (x : Int) (h : checkB l = true) : checkB (l ++ [(3, [], [x])]) = decide (l.length < 24) := by
  rw [check_snoc h]
  have : nodeB l l.length (3, [], [x]) = true := node_iff.2 ⟨by show (0 : Int) ≤ arityV 3; decide, by show (0 : Int) = arityV 3; decide, by unfold numsB; simp, fun a ha => (by cases ha), fun m _ => like_other (by show (2 : Int) < 3; decide)⟩
  rw [this, Bool.and_true]
/-- One more, of the last one. -/
theorem check_neg {l : List Nd} (h : checkB l = true) : checkB (l ++ [(20, [(l.length : Int) - 1], [])]) = decide (l.length < 24) := by
  obtain ⟨h1, h2, h3⟩ := check_iff.1 h
  rw [check_snoc h]
  have : nodeB l l.length (20, [(l.length : Int) - 1], []) = true := node_iff.2 ⟨by show (0 : Int) ≤ arityV 20; decide, by show (1 : Int) = arityV 20; decide, by unfold numsB; simp, fun a ha => by simp at ha; omega, fun m _ => like_other (by show (2 : Int) < 20; decide)⟩
  rw [this, Bool.and_true]

/-! ### Params, Inputs -/
theorem names_app (a b : List Nd) (p : Int) : namesB (a ++ b) p = (namesB a p || namesB b p) := by unfold namesB; rw [List.any_append]
theorem mem_params {l : List Nd} {p : Int} (h : checkB l = true) : p ∈ paramsV l ↔ (0 ≤ p ∧ p ≤ 7) ∧ namesB l p = true := by
  unfold paramsV
  rw [if_pos h, List.mem_filter, List.mem_map]
  constructor
  · rintro ⟨⟨a, ha, rfl⟩, h2⟩
    have := List.mem_range.1 ha
    exact ⟨by omega, h2⟩
  · rintro ⟨h1, h2⟩
    exact ⟨⟨p.toNat, List.mem_range.2 (by omega), by omega⟩, h2⟩
theorem params_take {l : List Nd} {k : Nat} (h : checkB l = true) (hk : 1 ≤ k) (hk2 : k ≤ l.length) : ∀ p ∈ paramsV (l.take k), p ∈ paramsV l := by
  intro p hp
  rw [mem_params (check_take h hk hk2)] at hp
  rw [mem_params h]
  refine ⟨hp.1, ?_⟩
  have := hp.2
  unfold namesB at this ⊢
  rw [List.any_eq_true] at this ⊢
  obtain ⟨n, hn, e⟩ := this
  exact ⟨n, List.mem_of_mem_take hn, e⟩
theorem params_congr {a b : List Nd} (ha : checkB a = true) (hb : checkB b = true) (h : ∀ p, namesB a p = namesB b p) : paramsV a = paramsV b := by
  unfold paramsV
  rw [if_pos ha, if_pos hb]
  congr 1
  funext p
  exact h p

/-! ### Uses -/
theorem uses_app (a b : List Nd) (x : Int) : ∀ k, usesF k (a ++ b) x = usesF k a x ++ usesF (k + a.length) b x := by
  induction a with
  | nil => intro k; simp [usesF]
  | cons n a ih =>
    intro k
    rw [List.cons_append, usesF, usesF, ih, List.append_assoc, List.length_cons]
    congr 3
    omega
theorem mem_uses {l : List Nd} {x u : Int} : ∀ {k : Nat}, u ∈ usesF k l x ↔ ∃ (i : Nat) (n : Nd), l[i]? = some n ∧ x ∈ n.2.1 ∧ u = (k : Int) + i := by
  induction l with
  | nil => intro k; simp [usesF]
  | cons m l ih =>
    intro k
    rw [usesF, List.mem_append, ih, List.mem_map]
    constructor
    · rintro (⟨a, ha, rfl⟩ | ⟨i, n, h1, h2, h3⟩)
      · rw [List.mem_filter, beq_iff_eq] at ha
        exact ⟨0, m, rfl, by rw [← ha.2]; exact ha.1, by simp⟩
      · exact ⟨i + 1, n, by simpa using h1, h2, by push_cast at h3 ⊢; omega⟩
    · rintro ⟨i, n, h1, h2, h3⟩
      cases i with
      | zero =>
        have : m = n := by simpa using h1
        subst this
        exact .inl ⟨x, by rw [List.mem_filter]; exact ⟨h2, by simp⟩, by simpa using h3.symm⟩
      | succ i => exact .inr ⟨i, n, by simpa using h1, h2, by push_cast at h3 ⊢; omega⟩
theorem uses_none {l : List Nd} {x : Int} {k : Nat} (h : ∀ (i : Nat) (n : Nd), l[i]? = some n → x ∉ n.2.1) : usesF k l x = [] := by
  rw [List.eq_nil_iff_forall_not_mem]
  intro u hu
  obtain ⟨i, n, h1, h2, _⟩ := mem_uses.1 hu
  exact h i n h1 h2
theorem uses_len_app (a b : List Nd) (x : Int) : (usesF 0 a x).length ≤ (usesF 0 (a ++ b) x).length := by rw [uses_app, List.length_append]; omega
theorem uses_take {l : List Nd} {k : Nat} (x : Int) : (usesF 0 (l.take k) x).length ≤ (usesF 0 l x).length := by
  have := uses_len_app (l.take k) (l.drop k) x
  rwa [List.take_append_drop] at this
/-- Whoever uses a node stands behind it; users rise. -/
theorem uses_sorted (l : List Nd) (x : Int) : ∀ k, List.Pairwise (· ≤ ·) (usesF k l x) := by
  induction l with
  | nil => intro k; exact List.Pairwise.nil
  | cons n l ih =>
    intro k
    rw [usesF, List.pairwise_append]
    refine ⟨?_, ih _, ?_⟩
    · rw [List.pairwise_map]
      exact List.Pairwise.imp (fun _ => Int.le_refl _) (List.pairwise_of_forall (R := fun _ _ => True) fun _ _ => trivial)
    · intro a ha b hb
      obtain ⟨_, _, rfl⟩ := List.mem_map.1 ha
      obtain ⟨i, _, _, _, rfl⟩ := mem_uses.1 hb
      push_cast
      omega

/-! ### Live -/
theorem live_sub (l : List Nd) : ∀ {k : Nat} {acc : List Int} {x : Int}, x ∈ acc → x ∈ liveS l k acc := by
  intro k
  induction k with
  | zero => intro acc x h; exact h
  | succ k ih =>
    intro acc x h
    rw [liveS]
    apply ih
    split
    · exact List.mem_append_left _ h
    · exact h
theorem live_from (l : List Nd) : ∀ {k : Nat} {acc : List Int} {x : Int}, x ∈ liveS l k acc → x ∈ acc ∨ ∃ j : Nat, j < k ∧ (j : Int) ∈ liveS l k acc ∧ x ∈ (l.getD j nd0).2.1 := by
  intro k
  induction k with
  | zero => intro acc x h; exact .inl h
  | succ k ih =>
    intro acc x h
    rw [liveS] at h ⊢
    rcases ih h with h1 | ⟨j, h1, h2, h3⟩
    · split at h1
      · rename_i hc
        rcases List.mem_append.1 h1 with h1 | h1
        · exact .inl h1
        · refine .inr ⟨k, by omega, ?_, h1⟩
          rw [if_pos hc]
          exact live_sub l (List.mem_append_left _ (by simpa using hc))
      · exact .inl h1
    · exact .inr ⟨j, by omega, h2, h3⟩
/-- What is from k on was there ahead. -/
theorem live_high {l : List Nd} (hl : ∀ j : Nat, ∀ a ∈ (l.getD j nd0).2.1, a < (j : Int)) : ∀ {k : Nat} {acc : List Int} {x : Int}, (k : Int) ≤ x → x ∈ liveS l k acc → x ∈ acc := by
  intro k
  induction k with
  | zero => intro acc x _ h; exact h
  | succ k ih =>
    intro acc x hx h
    rw [liveS] at h
    have h1 := ih (by push_cast at hx; omega) h
    split at h1
    · rcases List.mem_append.1 h1 with h1 | h1
      · exact h1
      · have := hl k x h1
        push_cast at hx
        omega
    · exact h1
theorem live_closed {l : List Nd} (hl : ∀ j : Nat, ∀ a ∈ (l.getD j nd0).2.1, a < (j : Int)) : ∀ {k : Nat} {acc : List Int} {j : Nat}, j < k → (j : Int) ∈ liveS l k acc → ∀ a ∈ (l.getD j nd0).2.1, a ∈ liveS l k acc := by
  intro k
  induction k with
  | zero => intro acc j h; omega
  | succ k ih =>
    intro acc j hj h a ha
    rw [liveS] at h ⊢
    by_cases e : j = k
    · subst e
      have h1 := live_high hl (Int.le_refl _) h
      by_cases hc : acc.contains (j : Int) = true
      · rw [if_pos hc] at h1 ⊢
        exact live_sub l (List.mem_append_right _ ha)
      · rw [if_neg hc] at h1
        exact absurd (by simpa using h1) hc
    · exact ih (by omega) h a ha
end Go.Proofs.GrM

/- Plain facts of layer 10: what the laws say of graphs. No program stands here. -/
namespace Go.Proofs.GrM
open Go.Proofs.ShM

theorem args_lt {l : List Nd} (h : checkB l = true) : ∀ j : Nat, ∀ a ∈ (l.getD j nd0).2.1, 0 ≤ a ∧ a < (j : Int) := by
  intro j a ha
  obtain ⟨_, _, h3⟩ := check_iff.1 h
  by_cases hj : j < l.length
  · have hn : l[j]? = some l[j] := List.getElem?_eq_getElem hj
    rw [List.getD_eq_getElem?_getD, hn] at ha
    exact (node_iff.1 (h3 j _ hn)).2.2.2.1 a ha
  · rw [List.getD_eq_getElem?_getD, List.getElem?_eq_none (by omega)] at ha
    cases ha
theorem mem_upTo {n : Nat} {acc : List Int} {x : Int} : x ∈ upTo n acc ↔ (∃ i : Nat, i < n ∧ x = (i : Int)) ∧ x ∈ acc := by
  unfold upTo
  rw [List.mem_filter, List.mem_map]
  constructor
  · rintro ⟨⟨i, hi, rfl⟩, h2⟩
    exact ⟨⟨i, List.mem_range.1 hi, rfl⟩, by simpa using h2⟩
  · rintro ⟨⟨i, hi, rfl⟩, h2⟩
    exact ⟨⟨i, List.mem_range.2 hi, rfl⟩, by simpa using h2⟩
theorem mem_live {l : List Nd} {i : Nat} (h : checkB l = true) (hi : i < l.length) : (i : Int) ∈ liveV l ↔ (i : Int) ∈ liveA l := by
  unfold liveV
  rw [if_pos h, mem_upTo]
  exact ⟨fun g => g.2, fun g => ⟨⟨i, hi, rfl⟩, g⟩⟩
/-- A node is live just if it is the last one, or a live one uses it. -/
theorem live_iff {l : List Nd} {i : Nat} (h : checkB l = true) (hi : i < l.length) : (i : Int) ∈ liveV l ↔ i = l.length - 1 ∨ ∃ u ∈ usesV l (i : Int), u ∈ liveV l := by
  have hl := args_lt h
  have hlt : ∀ j : Nat, ∀ a ∈ (l.getD j nd0).2.1, a < (j : Int) := fun j a ha => (hl j a ha).2
  have h1 := (check_iff.1 h).1
  have hu : usesV l (i : Int) = usesF 0 l (i : Int) := by unfold usesV; rw [if_pos h]
  rw [hu, mem_live h hi]
  constructor
  · intro g
    rcases live_from l g with g | ⟨j, hj, g1, g2⟩
    · left
      have : (i : Int) = (l.length : Int) - 1 := by simpa using g
      omega
    · right
      have hn : l[j]? = some l[j] := List.getElem?_eq_getElem hj
      rw [List.getD_eq_getElem?_getD, hn] at g2
      exact ⟨(j : Int), mem_uses.2 ⟨j, _, hn, g2, by simp⟩, (mem_live h hj).2 g1⟩
  · rintro (g | ⟨u, g1, g2⟩)
    · exact live_sub l (by simp; omega)
    · obtain ⟨j, n, hn, g3, rfl⟩ := mem_uses.1 g1
      have hj := (List.getElem?_eq_some_iff.1 hn).1
      rw [show ((0 : Nat) : Int) + (j : Int) = (j : Int) by simp, mem_live h hj] at g2
      refine live_closed hlt hj g2 _ ?_
      rw [List.getD_eq_getElem?_getD, hn]
      exact g3
theorem uses_behind {l : List Nd} {x u : Int} (h : checkB l = true) (hu : u ∈ usesV l x) : x < u ∧ u < (l.length : Int) := by
  unfold usesV at hu
  rw [if_pos h] at hu
  obtain ⟨i, n, hn, g, rfl⟩ := mem_uses.1 hu
  have hi := (List.getElem?_eq_some_iff.1 hn).1
  have := (node_iff.1 ((check_iff.1 h).2.2 i n hn)).2.2.2.1 x g
  simp only [Int.natCast_zero, Int.zero_add]
  omega
theorem upTo_succ (n : Nat) (acc : List Int) : upTo (n + 1) acc = upTo n acc ++ (if acc.contains (n : Int) = true then [(n : Int)] else []) := by
  unfold upTo
  rw [List.range_succ, List.map_append, List.filter_append]
  congr 1
  simp [List.filter_cons]
theorem live_last {l : List Nd} (h : checkB l = true) : ∃ r, liveV l = r ++ [(l.length : Int) - 1] := by
  have h1 := (check_iff.1 h).1
  obtain ⟨n, hn⟩ : ∃ n, l.length = n + 1 := ⟨l.length - 1, by omega⟩
  unfold liveV
  rw [if_pos h, hn, upTo_succ]
  have hm : (n : Int) ∈ liveA l := live_sub l (by simp; omega)
  rw [if_pos (by simpa using hm)]
  exact ⟨upTo n (liveA l), by rw [show ((n + 1 : Nat) : Int) - 1 = (n : Int) by push_cast; omega]⟩

/-! ### A node more -/
theorem live_congr {a b : List Nd} : ∀ {k : Nat} {acc : List Int}, (∀ j, j < k → (a.getD j nd0).2.1 = (b.getD j nd0).2.1) → liveS a k acc = liveS b k acc := by
  intro k
  induction k with
  | zero => intro acc _; rfl
  | succ k ih =>
    intro acc h
    rw [liveS, liveS, h k (by omega)]
    exact ih fun j hj => h j (by omega)
theorem getD_app {l : List Nd} {m : Nd} {j : Nat} (h : j < l.length) : (l ++ [m]).getD j nd0 = l.getD j nd0 := by
  rw [List.getD_eq_getElem?_getD, List.getElem?_append_left h, List.getD_eq_getElem?_getD]
theorem getD_last (l : List Nd) (m : Nd) : (l ++ [m]).getD l.length nd0 = m := by
  rw [List.getD_eq_getElem?_getD, List.getElem?_append_right (Nat.le_refl _), Nat.sub_self]
  rfl
theorem liveA_snoc (l : List Nd) (m : Nd) : liveA (l ++ [m]) = liveS l l.length ((l.length : Int) :: m.2.1) := by
  unfold liveA
  rw [List.length_append, List.length_singleton, liveS, getD_last]
  rw [show ((l.length + 1 : Nat) : Int) - 1 = (l.length : Int) by push_cast; omega]
  rw [if_pos (by simp)]
  exact live_congr fun j hj => by rw [getD_app hj]
theorem liveS_nil {l : List Nd} : ∀ {k : Nat} {acc : List Int}, (∀ j : Nat, j < k → (j : Int) ∉ acc) → liveS l k acc = acc := by
  intro k
  induction k with
  | zero => intro acc _; rfl
  | succ k ih =>
    intro acc h
    rw [liveS, if_neg (by simpa using h k (by omega))]
    exact ih fun j hj => h j (by omega)
theorem upTo_nil {acc : List Int} : ∀ {n : Nat}, (∀ j : Nat, j < n → (j : Int) ∉ acc) → upTo n acc = [] := by
  intro n
  induction n with
  | zero => intro _; rfl
  | succ n ih =>
    intro h
    rw [upTo_succ, ih (fun j hj => h j (by omega)), if_neg (by simpa using h n (by omega))]
    rfl
/-- A number more: it alone is live. -/
theorem live_const {l : List Nd} (x : Int) (h : checkB l = true) (hl : l.length < 24) : (liveV (l ++ [(3, [], [x])])).length = 1 := by
  have hc : checkB (l ++ [(3, [], [x])]) = true := by rw [check_const x h]; simpa using hl
  unfold liveV
  rw [if_pos hc, liveA_snoc, List.length_append, List.length_singleton]
  rw [liveS_nil (fun j hj => by simp; omega), upTo_succ, upTo_nil (fun j hj => by simp; omega), if_pos (by simp)]
  rfl
theorem uses_const {l : List Nd} (x : Int) (node : Int) (h : checkB l = true) (hl : l.length < 24) : usesV (l ++ [(3, [], [x])]) node = usesV l node := by
  have hc : checkB (l ++ [(3, [], [x])]) = true := by rw [check_const x h]; simpa using hl
  unfold usesV
  rw [if_pos hc, if_pos h, uses_app]
  simp [usesF]
theorem params_const {l : List Nd} (x : Int) (h : checkB l = true) (hl : l.length < 24) : paramsV (l ++ [(3, [], [x])]) = paramsV l := by
  have hc : checkB (l ++ [(3, [], [x])]) = true := by rw [check_const x h]; simpa using hl
  refine params_congr hc h fun p => ?_
  rw [names_app]
  simp [namesB]
theorem contains_cons_ne {x y : Int} {l : List Int} (h : x ≠ y) : (y :: l).contains x = l.contains x := by
  rw [List.contains_cons]
  simp [h]
theorem liveS_front {l : List Nd} (y : Int) : ∀ {k : Nat} {acc : List Int}, (k : Int) ≤ y → liveS l k (y :: acc) = y :: liveS l k acc := by
  intro k
  induction k with
  | zero => intro acc _; rfl
  | succ k ih =>
    intro acc hk
    push_cast at hk
    rw [liveS, liveS, contains_cons_ne (by omega)]
    split
    · rw [List.cons_append, ih (by omega)]
    · exact ih (by omega)
theorem upTo_front (y : Int) (acc : List Int) : ∀ {n : Nat}, (n : Int) ≤ y → upTo n (y :: acc) = upTo n acc := by
  intro n
  induction n with
  | zero => intro _; rfl
  | succ n ih =>
    intro hk
    push_cast at hk
    rw [upTo_succ, upTo_succ, ih (by omega), contains_cons_ne (by omega)]
/-- One more, of the last one: all that were live are, and it. -/
theorem live_neg {l : List Nd} (h : checkB l = true) (hl : l.length < 24) : liveV (l ++ [(20, [(l.length : Int) - 1], [])]) = liveV l ++ [(l.length : Int)] := by
  have hc : checkB (l ++ [(20, [(l.length : Int) - 1], [])]) = true := by rw [check_neg h]; simpa using hl
  unfold liveV
  rw [if_pos hc, if_pos h, liveA_snoc, List.length_append, List.length_singleton]
  show upTo (l.length + 1) (liveS l l.length ((l.length : Int) :: [(l.length : Int) - 1])) = _
  rw [liveS_front _ (Int.le_refl _), upTo_succ, upTo_front _ _ (Int.le_refl _), if_pos (by simp)]
  rfl
theorem uses_neg {l : List Nd} (h : checkB l = true) (hl : l.length < 24) : usesV (l ++ [(20, [(l.length : Int) - 1], [])]) ((l.length : Int) - 1) = [(l.length : Int)] ∧ usesV (l ++ [(20, [(l.length : Int) - 1], [])]) (l.length : Int) = [] := by
  have hc : checkB (l ++ [(20, [(l.length : Int) - 1], [])]) = true := by rw [check_neg h]; simpa using hl
  have hno : ∀ x : Int, (l.length : Int) - 1 ≤ x → usesF 0 l x = [] := fun x hx => uses_none fun i n hn g => by
    have hi := (List.getElem?_eq_some_iff.1 hn).1
    have := (node_iff.1 ((check_iff.1 h).2.2 i n hn)).2.2.2.1 x g
    omega
  unfold usesV
  rw [if_pos hc, if_pos hc, uses_app, uses_app, hno _ (Int.le_refl _), hno _ (by omega)]
  simp [usesF]
  omega

/-! ### A graph behind itself -/
def shiftN (d : Nat) (n : Nd) : Nd := (n.1, n.2.1.map (· + (d : Int)), n.2.2)
def twice (l : List Nd) : List Nd := l ++ l.map (shiftN l.length)
theorem like_shift (d : Nat) (a b : Nd) : likeB a (shiftN d b) = likeB a b := rfl
theorem like_shift2 (d : Nat) (a b : Nd) : likeB (shiftN d a) b = likeB a b := rfl
theorem like_any {l : List Nd} (h : checkB l = true) {i j : Nat} {a b : Nd} (ha : l[i]? = some a) (hb : l[j]? = some b) : likeB a b = true := by
  obtain ⟨_, _, h3⟩ := check_iff.1 h
  rcases Nat.lt_trichotomy i j with g | g | g
  · have := (node_iff.1 (h3 j b hb)).2.2.2.2
    exact this a (List.mem_iff_getElem?.2 ⟨i, by rw [List.getElem?_take, if_pos g]; exact ha⟩)
  · subst g
    rw [ha] at hb
    injection hb with hb
    subst hb
    exact like_refl a
  · have := (node_iff.1 (h3 i a ha)).2.2.2.2
    exact like_symm (this b (List.mem_iff_getElem?.2 ⟨j, by rw [List.getElem?_take, if_pos g]; exact hb⟩))
theorem twice_len (l : List Nd) : (twice l).length = l.length + l.length := by unfold twice; rw [List.length_append, List.length_map]
theorem check_twice {l : List Nd} (h : checkB l = true) : checkB (twice l) = decide (l.length + l.length ≤ 24) := by
  obtain ⟨h1, h2, h3⟩ := check_iff.1 h
  rw [Bool.eq_iff_iff, check_iff, decide_eq_true_iff, twice_len]
  constructor
  · rintro ⟨_, g, _⟩; exact g
  · intro g
    refine ⟨by omega, g, fun i n hn => ?_⟩
    unfold twice at hn ⊢
    rw [List.getElem?_append] at hn
    split at hn
    · rename_i hi
      rw [node_app (by omega)]
      exact h3 i n hn
    · rename_i hi
      rw [List.getElem?_map, Option.map_eq_some_iff] at hn
      obtain ⟨m, hm, rfl⟩ := hn
      obtain ⟨n1, n2, n3, n4, n5⟩ := node_iff.1 (h3 _ m hm)
      refine node_iff.2 ⟨n1, by show ((m.2.1.map _).length : Int) = _; rw [List.length_map]; exact n2, n3, ?_, ?_⟩
      · intro a ha
        obtain ⟨b, hb, rfl⟩ := List.mem_map.1 ha
        have := n4 b hb
        omega
      · intro q hq
        rw [like_shift]
        rw [List.mem_iff_getElem?] at hq
        obtain ⟨j, hj⟩ := hq
        rw [List.getElem?_take] at hj
        split at hj
        · rw [List.getElem?_append] at hj
          split at hj
          · exact like_any h hj hm
          · rw [List.getElem?_map, Option.map_eq_some_iff] at hj
            obtain ⟨m2, hm2, rfl⟩ := hj
            rw [like_shift2]
            exact like_any h hm2 hm
        · cases hj
theorem params_twice {l : List Nd} (h : checkB l = true) (hl : l.length + l.length ≤ 24) : paramsV (twice l) = paramsV l := by
  have hc : checkB (twice l) = true := by rw [check_twice h]; simpa using hl
  refine params_congr hc h fun p => ?_
  unfold twice
  rw [names_app]
  have : namesB (l.map (shiftN l.length)) p = namesB l p := by
    unfold namesB
    rw [List.any_map]
    rfl
  rw [this, Bool.or_self]
theorem uses_shift (d : Nat) (x : Int) : ∀ (l : List Nd) (k e : Nat), usesF (k + e) (l.map (shiftN d)) (x + (d : Int)) = (usesF k l x).map (· + (e : Int))
  | [], k, e => rfl
  | n :: l, k, e => by
    rw [List.map_cons, usesF, usesF, List.map_append, show k + e + 1 = (k + 1) + e by omega, uses_shift d x l (k + 1) e]
    congr 1
    show (List.map (fun _ => ((k + e : Nat) : Int)) (List.filter (fun y => y == x + (d : Int)) (n.2.1.map (· + (d : Int))))) = _
    rw [List.filter_map, List.map_map, List.map_map]
    have : ((fun y : Int => y == x + (d : Int)) ∘ fun y => y + (d : Int)) = (fun y => y == x) := by
      funext y
      simp only [Function.comp]
      rw [Bool.eq_iff_iff, beq_iff_eq, beq_iff_eq]
      omega
    rw [this]
    refine List.map_congr_left fun _ _ => ?_
    simp only [Function.comp]
    push_cast
    rfl
theorem uses_twice {l : List Nd} {x : Int} (h : checkB l = true) (hl : l.length + l.length ≤ 24) (h0 : 0 ≤ x) (h1 : x < (l.length : Int)) :
    usesV (twice l) x = usesV l x ∧ usesV (twice l) (x + (l.length : Int)) = (usesV l x).map (· + (l.length : Int)) := by
  have hc : checkB (twice l) = true := by rw [check_twice h]; simpa using hl
  have ha := fun (i : Nat) (n : Nd) (hn : l[i]? = some n) (y : Int) (g : y ∈ n.2.1) => (node_iff.1 ((check_iff.1 h).2.2 i n hn)).2.2.2.1 y g
  unfold usesV
  rw [if_pos hc, if_pos hc, if_pos h]
  unfold twice
  rw [uses_app, uses_app, uses_shift]
  constructor
  · rw [uses_none (l := l.map (shiftN l.length)), List.append_nil]
    intro i n hn g
    rw [List.getElem?_map, Option.map_eq_some_iff] at hn
    obtain ⟨m, hm, rfl⟩ := hn
    obtain ⟨b, hb, e⟩ := List.mem_map.1 g
    have := ha i m hm b hb
    omega
  · rw [uses_none (l := l) (x := x + (l.length : Int)), List.nil_append]
    intro i n hn g
    have hi := (List.getElem?_eq_some_iff.1 hn).1
    have := ha i n hn _ g
    omega
theorem getD_shift {l : List Nd} {d j : Nat} (hj : j < l.length) : ((l ++ l.map (shiftN d)).getD (l.length + j) nd0).2.1 = (l.getD j nd0).2.1.map (· + (d : Int)) := by
  rw [List.getD_eq_getElem?_getD, List.getElem?_append_right (by omega), show l.length + j - l.length = j by omega, List.getElem?_map, List.getElem?_eq_getElem hj, List.getD_eq_getElem?_getD, List.getElem?_eq_getElem hj]
  rfl
theorem contains_shift (d : Int) (x : Int) (acc : List Int) : (acc.map (· + d)).contains (x + d) = acc.contains x := by
  rw [Bool.eq_iff_iff]
  simp only [List.contains_iff_mem, List.mem_map]
  constructor
  · rintro ⟨a, ha, e⟩
    have : a = x := by omega
    rw [← this]; exact ha
  · intro h; exact ⟨x, h, rfl⟩
theorem liveS_shift (l : List Nd) : ∀ {k : Nat} {acc : List Int}, k ≤ l.length → liveS (twice l) (l.length + k) (acc.map (· + (l.length : Int))) = liveS (twice l) l.length ((liveS l k acc).map (· + (l.length : Int))) := by
  intro k
  induction k with
  | zero => intro acc _; rfl
  | succ k ih =>
    intro acc hk
    rw [show l.length + (k + 1) = (l.length + k) + 1 by omega, liveS, liveS]
    have hc : (acc.map (· + (l.length : Int))).contains ((l.length + k : Nat) : Int) = acc.contains (k : Int) := by
      rw [show ((l.length + k : Nat) : Int) = (k : Int) + (l.length : Int) by push_cast; omega]
      exact contains_shift _ _ _
    rw [hc]
    split
    · rw [show ((twice l).getD (l.length + k) nd0).2.1 = (l.getD k nd0).2.1.map (· + (l.length : Int)) from getD_shift (by omega), ← List.map_append]
      exact ih (by omega)
    · exact ih (by omega)
theorem liveS_low {l : List Nd} (hl : ∀ j : Nat, ∀ a ∈ (l.getD j nd0).2.1, 0 ≤ a) : ∀ {k : Nat} {acc : List Int}, (∀ a ∈ acc, 0 ≤ a) → ∀ a ∈ liveS l k acc, 0 ≤ a := by
  intro k
  induction k with
  | zero => intro acc h; exact h
  | succ k ih =>
    intro acc h
    rw [liveS]
    apply ih
    split
    · intro a ha
      rcases List.mem_append.1 ha with ha | ha
      · exact h a ha
      · exact hl k a ha
    · exact h
theorem upTo_shift (d : Nat) (acc : List Int) (hd : ∀ a ∈ acc, (0 : Int) ≤ a) : ∀ n : Nat, upTo (d + n) (acc.map (· + (d : Int))) = (upTo n acc).map (· + (d : Int)) := by
  intro n
  induction n with
  | zero =>
    show upTo d _ = _
    rw [upTo_nil]
    · rfl
    · intro j hj g
      obtain ⟨a, ha, e⟩ := List.mem_map.1 g
      have := hd a ha
      omega
  | succ n ih =>
    rw [show d + (n + 1) = (d + n) + 1 by omega, upTo_succ, upTo_succ, ih, List.map_append]
    congr 1
    rw [show ((d + n : Nat) : Int) = (n : Int) + (d : Int) by push_cast; omega, contains_shift]
    split <;> rfl
/-- As many are live. -/
theorem live_twice {l : List Nd} (h : checkB l = true) (hl : l.length + l.length ≤ 24) : liveV (twice l) = (liveV l).map (· + (l.length : Int)) := by
  have hc : checkB (twice l) = true := by rw [check_twice h]; simpa using hl
  have h1 := (check_iff.1 h).1
  have hlow := liveS_low (l := l) (fun j a ha => (args_lt h j a ha).1) (k := l.length) (acc := [(l.length : Int) - 1]) (fun a ha => by simp at ha; omega)
  unfold liveV
  rw [if_pos hc, if_pos h, twice_len]
  have e1 : liveA (twice l) = (liveA l).map (· + (l.length : Int)) := by
    unfold liveA
    rw [twice_len, show [((l.length + l.length : Nat) : Int) - 1] = [(l.length : Int) - 1].map (· + (l.length : Int)) by simp; omega, liveS_shift l (Nat.le_refl _)]
    apply liveS_nil
    intro j hj g
    obtain ⟨a, ha, e⟩ := List.mem_map.1 g
    have := hlow a ha
    omega
  rw [e1]
  exact upTo_shift _ _ hlow _

/-! ### Names -/
theorem params_rise {l : List Nd} : List.Pairwise (· < ·) (paramsV l) := by
  unfold paramsV
  split
  · apply List.Pairwise.filter
    decide
  · exact List.Pairwise.nil
theorem par_of {l : List Nd} (h : checkB l = true) {i : Nat} {n : Nd} (hn : l[i]? = some n) (h2 : n.1 = 2) : n.2.2 ≠ [] ∧ n.2.2.getD 0 0 ∈ paramsV l := by
  have hb := (node_iff.1 ((check_iff.1 h).2.2 i n hn)).2.2.1
  unfold numsB at hb
  rw [if_neg (by omega), if_pos h2] at hb
  have hp : ∃ p s, n.2.2 = p :: s ∧ 0 ≤ p ∧ p ≤ 7 := by
    cases e : n.2.2 with
    | nil => rw [e] at hb; cases hb
    | cons p s =>
      rw [e] at hb
      unfold parB at hb
      simp at hb
      exact ⟨p, s, rfl, hb.1⟩
  obtain ⟨p, s, e, hp1, hp2⟩ := hp
  refine ⟨by rw [e]; simp, (mem_params h).2 ⟨by rw [e]; exact ⟨hp1, hp2⟩, ?_⟩⟩
  unfold namesB
  rw [List.any_eq_true]
  exact ⟨n, List.mem_of_getElem? hn, by simp [h2]⟩
theorem par_back {l : List Nd} (h : checkB l = true) {p : Int} (hp : p ∈ paramsV l) : ∃ (i : Nat) (n : Nd), l[i]? = some n ∧ n.1 = 2 ∧ n.2.2.getD 0 0 = p := by
  have := ((mem_params h).1 hp).2
  unfold namesB at this
  rw [List.any_eq_true] at this
  obtain ⟨n, hn, e⟩ := this
  obtain ⟨i, hi⟩ := List.mem_iff_getElem?.1 hn
  have e := of_decide_eq_true e
  exact ⟨i, n, hi, e.1, e.2⟩
/-- The input is that of each OInput. -/
theorem input_of {l : List Nd} (h : checkB l = true) {i : Nat} {n : Nd} (hn : l[i]? = some n) (h1 : n.1 = 1) : inputsV l = (n.2.2, true) := by
  unfold inputsV inputsO
  rw [if_pos h]
  cases e : l.find? (fun n => decide (n.1 = 1)) with
  | none =>
    rw [List.find?_eq_none] at e
    exact absurd (by simpa using h1) (e n (List.mem_of_getElem? hn))
  | some m =>
    have hm := List.find?_some e
    have hm1 : m.1 = 1 := by simpa using hm
    obtain ⟨j, hj⟩ := List.mem_iff_getElem?.1 (List.mem_of_find?_eq_some e)
    have := like_any h hj hn
    unfold likeB at this
    rw [if_neg (by omega), beq_iff_eq] at this
    show (m.2.2, true) = _
    rw [this]
theorem input_none {l : List Nd} (h : checkB l = true) (hn : ∀ (i : Nat) (n : Nd), l[i]? = some n → n.1 ≠ 1) : inputsV l = ([], false) := by
  unfold inputsV inputsO
  rw [if_pos h, List.find?_eq_none.2]
  · rfl
  · intro n hm
    obtain ⟨i, hi⟩ := List.mem_iff_getElem?.1 hm
    simpa using hn i n hi
theorem arity_of {l : List Nd} (h : checkB l = true) {i : Nat} {n : Nd} (hn : l[i]? = some n) : arityV n.1 = (n.2.1.length : Int) := (node_iff.1 ((check_iff.1 h).2.2 i n hn)).2.1.symm
end Go.Proofs.GrM

/- A []api.Node: what it reads as, one of the call's own: appended to. -/
namespace Go.Proofs.Ytdcgmnkoomhocaa
open Go.RowKit Go.Proofs.ShM Go.Proofs.GrM
set_option linter.unusedVariables false
set_option maxRecDepth 100000

theorem nd_info : (Try.prog.info? 36).map (fun i => (i.zero, i.size, i.bytes)) = some (some (.agg #[.int .i64 0, .slice none 0 0, .slice none 0 0]), 3, 56) := by kernel_rfl

/-- A node's two lists are there, in blocks of X. -/
structure NR (w : World) (X : Nat → Prop) (P : Option Addr) (a : List Int) (Q : Option Addr) (b : List Int) : Prop where
  ra : Rd w P a
  rn : Rd w Q b
  xa : ∀ ad, P = some ad → 0 < a.length → X ad.block
  xn : ∀ ad, Q = some ad → 0 < b.length → X ad.block
/-- A node's cells, as values. -/
abbrev V3 := Value × Value × Value
def flatN (vs : List V3) : List Value := vs.flatMap fun p => [p.1, p.2.1, p.2.2]
theorem flatN_cons (p : V3) (vs : List V3) : flatN (p :: vs) = p.1 :: p.2.1 :: p.2.2 :: flatN vs := rfl
theorem flatN_append (a b : List V3) : flatN (a ++ b) = flatN a ++ flatN b := by unfold flatN; rw [List.flatMap_append]
theorem flatN_len : ∀ vs : List V3, (flatN vs).length = vs.length * 3
  | [] => rfl
  | p :: vs => by rw [flatN_cons, List.length_cons, List.length_cons, List.length_cons, flatN_len vs, List.length_cons]; omega
theorem flatN_at : ∀ {vs : List V3} {j : Nat} {p : V3}, vs[j]? = some p → (flatN vs)[j * 3]? = some p.1 ∧ (flatN vs)[j * 3 + 1]? = some p.2.1 ∧ (flatN vs)[j * 3 + 2]? = some p.2.2
  | [], j, p, h => by simp at h
  | q :: vs, 0, p, h => by
    have : q = p := by simpa using h
    subst this
    exact ⟨rfl, rfl, rfl⟩
  | q :: vs, j + 1, p, h => by
    have := flatN_at (vs := vs) (j := j) (p := p) (by simpa using h)
    rw [flatN_cons, show (j + 1) * 3 = j * 3 + 1 + 1 + 1 by omega]
    exact this

/-- Three cells are a node, whose lists lie in blocks of X. -/
def Vn (w : World) (X : Nat → Prop) (p : V3) (t : Nd) : Prop :=
  ∃ A c B d, p = (.int .i64 t.1, .slice A t.2.1.length c, .slice B t.2.2.length d) ∧ t.2.1.length ≤ c ∧ c ≤ 9223372036854775807 ∧ t.2.2.length ≤ d ∧ d ≤ 9223372036854775807 ∧ NR w X A t.2.1 B t.2.2
structure AllN (w : World) (X : Nat → Prop) (vs : List V3) (ts : List Nd) : Prop where
  len : vs.length = ts.length
  at_ : ∀ (j : Nat) (p : V3) (t : Nd), vs[j]? = some p → ts[j]? = some t → Vn w X p t
/-- The cells from A on are the nodes ts. -/
def RdN (w : World) (X : Nat → Prop) (A : Option Addr) (ts : List Nd) : Prop :=
  ts.length ≤ 9223372036854775807 ∧ ∃ vs, AllN w X vs ts ∧ (0 < ts.length → ∃ ad, A = some ad ∧ ad.block < w.heap.size ∧ ∀ j u, (flatN vs)[j]? = some u → w.cell? (ad.add j) = some u)
abbrev RdG (w : World) (A : Option Addr) (ts : List Nd) : Prop := RdN w (fun _ => True) A ts

section
variable {w w' : World} {X Y : Nat → Prop} {A : Option Addr} {ts us : List Nd} {vs zs : List V3}
theorem NR.mono {P Q : Option Addr} {a b : List Int} (h : NR w X P a Q b) (hk : Kp w w') (hx : ∀ k, k < w.heap.size → X k → Y k) : NR w' Y P a Q b := by
  refine ⟨h.ra.kp hk, h.rn.kp hk, fun ad h1 h2 => hx _ ?_ (h.xa ad h1 h2), fun ad h1 h2 => hx _ ?_ (h.xn ad h1 h2)⟩
  · obtain ⟨ad', e', hb, _⟩ := h.ra.2 h2; rw [h1] at e'; injection e' with e'; subst e'; exact hb
  · obtain ⟨ad', e', hb, _⟩ := h.rn.2 h2; rw [h1] at e'; injection e' with e'; subst e'; exact hb
theorem NR.kp {P Q : Option Addr} {a b : List Int} (h : NR w X P a Q b) (hk : Kp w w') : NR w' X P a Q b := h.mono hk fun _ _ x => x
theorem Vn.mono {p : V3} {t : Nd} (h : Vn w X p t) (hk : Kp w w') (hx : ∀ k, k < w.heap.size → X k → Y k) : Vn w' Y p t := by
  obtain ⟨A, c, B, d, e, c1, c2, d1, d2, r⟩ := h
  exact ⟨A, c, B, d, e, c1, c2, d1, d2, r.mono hk hx⟩
theorem AllN.mono (h : AllN w X vs ts) (hk : Kp w w') (hx : ∀ k, k < w.heap.size → X k → Y k) : AllN w' Y vs ts := ⟨h.len, fun j p t h1 h2 => (h.at_ j p t h1 h2).mono hk hx⟩
theorem AllN.nil_ (w : World) (X : Nat → Prop) : AllN w X [] [] := ⟨rfl, fun j p t h => by simp at h⟩
theorem AllN.app (h : AllN w X vs ts) (g : AllN w X zs us) : AllN w X (vs ++ zs) (ts ++ us) := by
  refine ⟨by rw [List.length_append, List.length_append, h.len, g.len], fun j p t h1 h2 => ?_⟩
  rw [List.getElem?_append] at h1 h2
  rw [h.len] at h1
  split at h1
  · rename_i hj
    rw [if_pos hj] at h2
    exact h.at_ j p t h1 h2
  · rename_i hj
    rw [if_neg hj] at h2
    exact g.at_ _ p t h1 h2
theorem RdN.mono (h : RdN w X A ts) (hk : Kp w w') (hx : ∀ k, k < w.heap.size → X k → Y k) : RdN w' Y A ts := by
  obtain ⟨h1, vs, h2, h3⟩ := h
  exact ⟨h1, vs, h2.mono hk hx, fun hp => by
    obtain ⟨ad, e, hb, hc⟩ := h3 hp
    exact ⟨ad, e, Nat.lt_of_lt_of_le hb hk.size, fun j u hu => (hk.cell (by rw [block_of_add]; exact hb)).trans (hc j u hu)⟩⟩
theorem RdN.kp (h : RdN w X A ts) (hk : Kp w w') : RdN w' X A ts := h.mono hk fun _ _ x => x
theorem RdN.old (h : RdN w X A ts) : RdN w (fun k => k < w.heap.size) A ts := h.mono (Kp.refl _) fun _ h _ => h
theorem RdN.all (h : RdN w X A ts) : RdG w A ts := h.mono (Kp.refl _) fun _ _ _ => trivial
theorem RdN.len (h : RdN w X A ts) : ts.length ≤ 9223372036854775807 := h.1
theorem RdN.nil_ (w : World) (X : Nat → Prop) (A : Option Addr) : RdN w X A [] := ⟨by simp, [], AllN.nil_ _ _, fun h => absurd h (by simp)⟩
theorem RdN.alloc_ (h : RdN w X A ts) (o : Obj) : RdN (w.alloc o) X A ts := h.kp (Kp.alloc_ w o)
theorem RdN.take_ (h : RdN w X A ts) (k : Nat) : RdN w X A (ts.take k) := by
  obtain ⟨h1, vs, h2, h3⟩ := h
  refine ⟨by rw [List.length_take]; omega, vs.take k, ⟨by rw [List.length_take, List.length_take, h2.len], fun j p t e1 e2 => ?_⟩, fun hp => ?_⟩
  · rw [List.getElem?_take] at e1 e2
    split at e1
    · rename_i hj
      rw [if_pos hj] at e2
      exact h2.at_ j p t e1 e2
    · cases e1
  · rw [List.length_take] at hp
    obtain ⟨ad, e, hb, hc⟩ := h3 (by omega)
    refine ⟨ad, e, hb, fun j u hu => hc j u ?_⟩
    have : flatN vs = flatN (vs.take k) ++ flatN (vs.drop k) := by rw [← flatN_append, List.take_append_drop]
    rw [this, List.getElem?_append_left (List.getElem?_eq_some_iff.1 hu).1]
    exact hu
/-- What is read at a place: the node's three cells, and its lists. -/
theorem RdN.at_ (h : RdN w X A ts) {k : Nat} (hk : k < ts.length) : ∃ ad t P c Q d, A = some ad ∧ ad.block < w.heap.size ∧ ts[k]? = some t ∧ w.cell? (ad.add (k * 3)) = some (.int .i64 t.1) ∧ w.cell? ⟨(ad.add (k * 3)).block, (ad.add (k * 3)).off + 1, none⟩ = some (.slice P t.2.1.length c) ∧ w.cell? ⟨(ad.add (k * 3)).block, (ad.add (k * 3)).off + 2, none⟩ = some (.slice Q t.2.2.length d) ∧ NR w X P t.2.1 Q t.2.2 ∧ (t.2.1.length ≤ c ∧ c ≤ 9223372036854775807) ∧ t.2.2.length ≤ d ∧ d ≤ 9223372036854775807 := by
  obtain ⟨_, vs, hv, hh⟩ := h
  obtain ⟨ad, e, hb, hc⟩ := hh (by omega)
  have hl := hv.len
  have e1 : vs[k]? = some vs[k] := List.getElem?_eq_getElem (by omega)
  have e2 : ts[k]? = some ts[k] := List.getElem?_eq_getElem hk
  obtain ⟨P, c, Q, d, ep, c1, c2, d1, d2, r⟩ := hv.at_ k _ _ e1 e2
  obtain ⟨f1, f2, f3⟩ := flatN_at e1
  refine ⟨ad, ts[k], P, c, Q, d, e, hb, e2, ?_, ?_, ?_, r, ⟨c1, c2⟩, d1, d2⟩
  · rw [hc _ _ f1, ep]
  · have e3 : (⟨(ad.add (k * 3)).block, (ad.add (k * 3)).off + 1, none⟩ : Addr) = ad.add (k * 3 + 1) := by rw [← Addr.add_add]; rfl
    rw [e3, hc _ _ f2, ep]
  · have e3 : (⟨(ad.add (k * 3)).block, (ad.add (k * 3)).off + 2, none⟩ : Addr) = ad.add (k * 3 + 2) := by rw [← Addr.add_add]; rfl
    rw [e3, hc _ _ f3, ep]
/-- One node in a new row. -/
theorem RdN.one {P Q : Option Addr} {t : Nd} {c d : Nat} (h : NR w X P t.2.1 Q t.2.2) (hc : t.2.1.length ≤ c ∧ c ≤ 9223372036854775807) (hd : t.2.2.length ≤ d ∧ d ≤ 9223372036854775807) (ty : TypeId) :
    RdN (w.alloc (.cells #[.int .i64 t.1, .slice P t.2.1.length c, .slice Q t.2.2.length d] ty)) X (some ⟨w.heap.size, 0, none⟩) [t] := by
  refine ⟨by simp, [(.int .i64 t.1, .slice P t.2.1.length c, .slice Q t.2.2.length d)], ⟨rfl, fun j p t' h1 h2 => ?_⟩, fun _ => ⟨_, rfl, by simp, fun j u hu => ?_⟩⟩
  · cases j with
    | zero =>
      have e1 : (Value.int .i64 t.1, Value.slice P t.2.1.length c, Value.slice Q t.2.2.length d) = p := by simpa using h1
      have e2 : t = t' := by simpa using h2
      subst e1 e2
      exact ⟨P, c, Q, d, rfl, hc.1, hc.2, hd.1, hd.2, h.kp (Kp.alloc_ _ _)⟩
    | succ j => simp at h1
  · rw [Go.WideShapes.add_plain, Nat.zero_add, World.cell?_alloc_at _ ty _ j rfl]
    have : (flatN [(Value.int .i64 t.1, Value.slice P t.2.1.length c, Value.slice Q t.2.2.length d)])[j]? = #[Value.int .i64 t.1, Value.slice P t.2.1.length c, Value.slice Q t.2.2.length d][j]? := by simp [flatN]
    rw [← this]; exact hu
end

/-- The value is a []api.Node of the call's own (its row lies from block B on), whose lists lie elsewhere: the nodes ts. -/
def OwnN (B : Nat) (w : World) (v : Value) (ts : List Nd) : Prop := ∃ vs, w.ownsRow B 36 3 v ts.length (flatN vs) ∧ AllN w (fun k => v.ownBlock ≠ some k) vs ts
section
variable {w w' : World} {B : Nat} {v : Value} {ts us : List Nd} {A : Option Addr}
theorem OwnN.nil_ (w : World) (B : Nat) : OwnN B w (.slice none 0 0) [] := ⟨[], World.ownsRow_nil w B _ 3, AllN.nil_ _ _⟩
theorem OwnN.from_ (h : OwnN B w v ts) {k : Nat} (hk : v.ownBlock = some k) : B ≤ k := by
  obtain ⟨vs, h, _⟩ := h
  rcases h.2 with ⟨rfl, _⟩ | ⟨g, cap, cur, rfl, hb, _⟩
  · cases hk
  · have : g = k := by simpa [Value.ownBlock] using hk
    omega
theorem OwnN.row_lt (h : OwnN B w v ts) {k : Nat} (hk : v.ownBlock = some k) : k < w.heap.size := by
  obtain ⟨vs, h, _⟩ := h
  rcases h.2 with ⟨rfl, _⟩ | ⟨g, cap, cur, rfl, _, hh, _⟩
  · cases hk
  · have : g = k := by simpa [Value.ownBlock] using hk
    subst this
    exact (Array.getElem?_eq_some_iff.1 hh).1
theorem OwnN.kp (h : OwnN B w v ts) (k : Kp w w') : OwnN B w' v ts := by
  have hr := fun k => h.row_lt (k := k)
  obtain ⟨vs, ⟨h1, h2⟩, hv⟩ := h
  refine ⟨vs, ⟨h1, ?_⟩, hv.mono k fun _ _ x => x⟩
  rcases h2 with h0 | ⟨g, cap, cur, rfl, hb, hg, r⟩
  · exact .inl h0
  · exact .inr ⟨g, cap, cur, rfl, hb, (k.block g (hr g rfl)).trans hg, r⟩
theorem OwnN.form (h : OwnN B w v ts) : ∃ A c, v = .slice A ts.length c ∧ RdG w A ts ∧ ts.length ≤ c ∧ c ≤ 9223372036854775807 := by
  obtain ⟨vs, ho, hv⟩ := h
  have ho' := ho
  rcases ho.2 with ⟨rfl, h0⟩ | ⟨g, cap, cur, rfl, _, hh, hn, hc, hcs, ht⟩
  · have : ts = [] := List.eq_nil_of_length_eq_zero h0
    subst this
    exact ⟨none, 0, rfl, RdN.nil_ _ _ _, by simp, by simp⟩
  · have hc' : cap ≤ 9223372036854775807 := by unfold maxLen at hc; omega
    refine ⟨_, cap, rfl, ⟨by omega, vs, hv.mono (Kp.refl _) (fun _ _ _ => trivial), fun hp => ⟨_, rfl, (Array.getElem?_eq_some_iff.1 hh).1, fun j u hu => ?_⟩⟩, hn, hc'⟩
    have hj : j < ts.length * 3 := by have := (List.getElem?_eq_some_iff.1 hu).1; rw [flatN_len, hv.len] at this; exact this
    rw [Go.WideShapes.add_plain, Nat.zero_add, World.ownsRow.cellAt ho' j hj]
    exact hu
theorem OwnN.zero (w : World) (hB : B ≤ w.heap.size) : OwnN B (w.alloc (.cells #[] 36)) (.slice (some ⟨w.heap.size, 0, none⟩) 0 0) [] :=
  ⟨[], World.ownsRow_lit (base := B) (e := 36) (size := 3) w #[] 0 hB (by simp) (by simp), AllN.nil_ _ _⟩
theorem grown_rd {row : Option Nat} (hg : w.grownBy w' row) {A : Option Addr} {xs : List Int} (h : Rd w A xs) (hx : ∀ ad, A = some ad → 0 < xs.length → row ≠ some ad.block) : Rd w' A xs :=
  ⟨h.1, fun hn => by
    obtain ⟨ad, e, hb, hc⟩ := h.2 hn
    refine ⟨ad, e, Nat.lt_of_lt_of_le hb hg.size, fun j u hu => ?_⟩
    have hne : some ad.block ≠ row := fun e' => hx ad e hn e'.symm
    rw [World.cell?_of_block (w := w) (a := ad.add j) (by rw [block_of_add]; exact hg.block _ hb hne)]
    exact hc j u hu⟩
theorem grown_n {row : Option Nat} {p : V3} {t : Nd} {Y : Nat → Prop} (hg : w.grownBy w' row) (h : Vn w (fun k => row ≠ some k) p t) (hY : ∀ k, k < w.heap.size → row ≠ some k → Y k) : Vn w' Y p t := by
  obtain ⟨A, c, B, d, e, c1, c2, d1, d2, r⟩ := h
  refine ⟨A, c, B, d, e, c1, c2, d1, d2, ⟨grown_rd hg r.ra r.xa, grown_rd hg r.rn r.xn, fun ad h1 h2 => hY _ ?_ (r.xa ad h1 h2), fun ad h1 h2 => hY _ ?_ (r.xn ad h1 h2)⟩⟩
  · obtain ⟨ad', e', hb, _⟩ := r.ra.2 h2; rw [h1] at e'; injection e' with e'; subst e'; exact hb
  · obtain ⟨ad', e', hb, _⟩ := r.rn.2 h2; rw [h1] at e'; injection e' with e'; subst e'; exact hb
/-- What append leaves. -/
theorem run_appN (ho : OwnN B w v ts) (c : Nat) (hr : RdN w (fun k => v.ownBlock ≠ some k) A us) (hs : ts.length + us.length ≤ 1000000) (hB : B ≤ w.heap.size) (ty : TypeId) :
    ∃ zs A' c' w', zs = ts ++ us ∧ (Builtin.append_ #[22, 22] ty #[v, .slice A us.length c]).run Try.prog w = .ok (.slice A' zs.length c') w' ∧ OwnN B w' (.slice A' zs.length c') zs ∧ Below B w w' ∧ (∀ k, k < w.heap.size → some k ≠ v.ownBlock → w'.heap[k]? = w.heap[k]?) := by
  obtain ⟨i, hi, hz, h1, h2⟩ := info_parts nd_info
  have hfrom := fun k => ho.from_ (k := k)
  obtain ⟨vs, hown, hv⟩ := ho
  obtain ⟨_, qs, hq, hh⟩ := hr
  have fin : ∀ (ad : Addr) (news : List Value) (m : Nat), news = flatN qs → m = us.length → (∀ j u, news[j]? = some u → w.cell? (ad.add j) = some u) →
      ∃ zs A' c' w', zs = ts ++ us ∧ (Builtin.append_ #[22, 22] ty #[v, .slice (some ad) m c]).run Try.prog w = .ok (.slice A' zs.length c') w' ∧ OwnN B w' (.slice A' zs.length c') zs ∧ Below B w w' ∧ (∀ k, k < w.heap.size → some k ≠ v.ownBlock → w'.heap[k]? = w.heap[k]?) := by
    intro ad news m hnews hm hc
    subst hnews hm
    obtain ⟨v', w', hrun, hown2, hg, _, hrow⟩ := run_append_own_at (P := Try.prog) w B 22 ty 36 i _ 3 56 Try.underlying22 hi hz h1 h2 rfl (by omega) _ _ _ hown ad us.length c (flatN qs) (by rw [flatN_len, hq.len]) hc
      (fun u hu => by
        unfold flatN at hu
        rw [List.mem_flatMap] at hu
        obtain ⟨p, hp, hu⟩ := hu
        obtain ⟨j, hj⟩ := List.mem_iff_getElem?.1 hp
        have hjl : j < us.length := by have := (List.getElem?_eq_some_iff.1 hj).1; rw [hq.len] at this; exact this
        obtain ⟨P, c1, Q, d1, ep, _⟩ := hq.at_ j p _ hj (List.getElem?_eq_getElem hjl)
        rw [ep] at hu
        simp at hu
        rcases hu with rfl | rfl | rfl <;> rfl) (by unfold maxLen; omega) (by omega) hB
    have hv2 : AllN w' (fun k => v'.ownBlock ≠ some k) (vs ++ qs) (ts ++ us) := by
      have hY : ∀ k, k < w.heap.size → v.ownBlock ≠ some k → v'.ownBlock ≠ some k := by
        intro k hk hne
        rcases hrow with hrow | hrow
        · rw [hrow]; exact hne
        · rw [hrow]; intro e; injection e with e; omega
      have a1 : AllN w' (fun k => v'.ownBlock ≠ some k) vs ts := ⟨hv.len, fun j p t g1 g2 => grown_n hg (hv.at_ j p t g1 g2) hY⟩
      have a2 : AllN w' (fun k => v'.ownBlock ≠ some k) qs us := ⟨hq.len, fun j p t g1 g2 => grown_n hg (hq.at_ j p t g1 g2) hY⟩
      exact a1.app a2
    have ho2 : OwnN B w' v' (ts ++ us) := ⟨vs ++ qs, by rw [List.length_append, flatN_append]; exact hown2, hv2⟩
    obtain ⟨A2, c2, rfl, _⟩ := ho2.form
    exact ⟨ts ++ us, A2, c2, w', rfl, hrun, ho2, (Below.refl _ _).grown hg hB (fun k hk => hfrom k hk), fun k hk hne => hg.block k hk hne⟩
  by_cases hy : us = []
  · subst hy
    have hqn : qs = [] := List.eq_nil_of_length_eq_zero (by rw [hq.len]; rfl)
    subst hqn
    cases A with
    | none =>
      have ho2 : OwnN B w v ts := ⟨vs, hown, hv⟩
      obtain ⟨A', c', rfl, _⟩ := ho2.form
      refine ⟨ts, A', c', w, by simp, ?_, ho2, Below.refl _ _, fun _ _ _ => rfl⟩
      have ht := run_underlying (P := Try.prog) (w := w) Try.underlying22
      rcases hown.2 with ⟨e, h0⟩ | ⟨g, cap, cur, e, _, _, hn, _⟩
      · injection e with e1 e2 e3
        subst e1 e3
        rw [e2]
        simp [Builtin.append_, ht, sizeOf, typeInfo, hi, Builtin.lenOf, Builtin.firstCells]
      · injection e with e1 e2 e3
        subst e1 e3
        simp [Builtin.append_, ht, sizeOf, typeInfo, hi, Builtin.lenOf, Builtin.firstCells, hn, storeCells]
    | some ad => exact fin ad [] 0 rfl rfl (by simp)
  · obtain ⟨ad, rfl, _, hc⟩ := hh (List.length_pos_iff.2 hy)
    exact fin ad (flatN qs) us.length rfl rfl hc
/-- append, for the walk. -/
theorem wpList_appN {ops : Array Oper} {rest : List Oper} {o : Oper} {a : Act} {Q : Exit → Act → World → Prop} (hgd : Region.wanted o (yielded ops a.tmps) = true) (s x : Operand)
    (hop : o.op = .call { callee := .builtin .append, args := #[s, x], argTypes := #[22, 22] })
    (v : Value) (ts : List Nd) (hs : a.eval s = v) (ho : OwnN B w v ts) (A : Option Addr) (c : Nat) (us : List Nd) (n : Nat) (hx : a.eval x = .slice A n c) (hn : n = us.length) (hr : RdN w (fun k => v.ownBlock ≠ some k) A us)
    (hl : ts.length + us.length ≤ 1000000) (hB : B ≤ w.heap.size)
    (h : ∀ zs A' c' w', Hid (zs = ts ++ us) → OwnN B w' (.slice A' zs.length c') zs → Below B w w' → (∀ k, k < w.heap.size → some k ≠ v.ownBlock → w'.heap[k]? = w.heap[k]?) → wpList Try.prog ops Q rest (a.put o.dst (.slice A' zs.length c')) w') : wpList Try.prog ops Q (o :: rest) a w := by
  refine BigFrame.wpList_want hgd fun K hK => ?_
  subst hn
  obtain ⟨zs, A', c', w', e, hrun, h1, h2, h3⟩ := run_appN ho c hr hl hB o.type
  unfold Oper.wp execOp
  simp only [hop, resolve, invoke, builtin, Sem.run_bind, Sem.run_pure, Result.andThen_ok, List.map_toArray, List.map_cons, List.map_nil, hs, hx, hrun]
  exact hK _ _ (h zs A' c' w' e h1 h2 h3)
end
end Go.Proofs.Ytdcgmnkoomhocaa

/- The document's layer 10: Arity, In, nums, like. -/
namespace Go.Proofs.Ytdcgmnkoomhocaa
open Go.RowKit Go.Proofs.ShM Go.Proofs.GrM
set_option linter.unusedVariables false
set_option linter.unusedSimpArgs false
set_option maxHeartbeats 4000000

theorem rarity_any (op : Int) (w : World) : Calls Try.prog 34 #[.int .i64 op] w fun e w' => e = .returned (.int .i64 (arityV op)) ∧ w' = w := by
  obtain ⟨r, hr⟩ : ∃ r, r = arityV op := ⟨_, rfl⟩
  rw [← hr]
  have HR := Lib.hid hr
  clear hr
  by_cases h1 : (1 : Int) ≤ op <;> by_cases h2 : op ≤ 3 <;> (try (exfalso; omega)) <;> by_cases h3 : (10 : Int) ≤ op <;> by_cases h4 : op ≤ 13 <;> (try (exfalso; omega)) <;> by_cases h5 : op = 30 <;> (try (exfalso; omega)) <;> by_cases h6 : op = 43 <;> (try (exfalso; omega)) <;> by_cases h7 : (20 : Int) ≤ op <;> by_cases h8 : op ≤ 23 <;> (try (exfalso; omega)) <;> by_cases h9 : (40 : Int) ≤ op <;> by_cases h10 : op ≤ 42 <;> (try (exfalso; omega)) <;> by_cases h11 : (50 : Int) ≤ op <;> by_cases h12 : op ≤ 52 <;> (try (exfalso; omega))
  all_goals
    have e5 : (op == 30) = decide (op = 30) := rfl
    have e6 : (op == 43) = decide (op = 43) := rfl
    have HV : Hid (r = arityV op) := HR.out
    simp only [h5, h6, decide_true, decide_false] at e5 e6
    have hv := HR.out
    unfold arityV at hv
    simp [h1, h2, h3, h4, h5, h6, h7, h8, h9, h10, h11, h12] at hv
    subst hv
    clear HV HR
    try subst h5
    try subst h6
    go_enter Try.func34, Try.ntmps34
    go_wp2
    go_ret
    exact ⟨by first | rfl | simp [*], rfl⟩
/-- A node as a value. -/
abbrev ndV (t : Nd) (P : Option Addr) (c : Nat) (Q : Option Addr) (d : Nat) : Value := .agg #[.int .i64 t.1, .slice P t.2.1.length c, .slice Q t.2.2.length d]
/-- A node's block, known whole. -/
def Nb (W : World) (b : Nat) (op : Int) (P : Option Addr) (n c : Nat) (Q : Option Addr) (m d : Nat) : Prop := W.heap[b]? = some (.cells #[.int .i64 op, .slice P n c, .slice Q m d] 36 (0, 0))
section
variable {W W' : World} {b n c m d : Nat} {op : Int} {P Q : Option Addr}
theorem Nb.lt (h : Nb W b op P n c Q m d) : b < W.heap.size := (Array.getElem?_eq_some_iff.1 h).1
theorem Nb.c0 (h : Nb W b op P n c Q m d) : W.cell? ⟨b, 0, none⟩ = some (.int .i64 op) := by simp [World.cell?, show W.heap[b]? = _ from h]
theorem Nb.c1 (h : Nb W b op P n c Q m d) : W.cell? ⟨b, 1, none⟩ = some (.slice P n c) := by simp [World.cell?, show W.heap[b]? = _ from h]
theorem Nb.c2 (h : Nb W b op P n c Q m d) : W.cell? ⟨b, 2, none⟩ = some (.slice Q m d) := by simp [World.cell?, show W.heap[b]? = _ from h]
theorem Nb.f0 (h : Nb W b op P n c Q m d) (i : Nat) : W.frozen? ⟨b, i, none⟩ = false := by simp [World.frozen?, show W.heap[b]? = _ from h]
theorem Nb.kp (h : Nb W b op P n c Q m d) (k : Kp W W') : Nb W' b op P n c Q m d := (k.block b h.lt).trans h
theorem Nb.alloc_ (h : Nb W b op P n c Q m d) (o : Obj) : Nb (W.alloc o) b op P n c Q m d := h.kp (Kp.alloc_ W o)
theorem Nb.new (h : b = W.heap.size) : Nb (W.alloc (.cells #[.int .i64 op, .slice P n c, .slice Q m d] 36)) b op P n c Q m d := by
  subst h
  show (W.heap.push _)[W.heap.size]? = some _
  simp
end

end Go.Proofs.Ytdcgmnkoomhocaa

/- The document's layer 10: nums. -/
namespace Go.Proofs.Ytdcgmnkoomhocaa
open Go.RowKit Go.Proofs.ShM Go.Proofs.GrM
set_option linter.unusedVariables false
set_option linter.unusedSimpArgs false
set_option maxHeartbeats 4000000

/-- What is left of a slice behind its first number. -/
def tailA (Q : Option Addr) (d : Nat) : Option Addr := if d = 1 then Q else Q.map (·.add 1)
theorem run_tail (W : World) (ad : Addr) (n c : Nat) (hj : 1 ≤ n) : (Instr.sliceAt 34 (.slice (some ad) n c) (some (.int .i64 1)) none none).run Try.prog W = .ok (.slice (tailA (some ad) c) (n - 1) (c - 1)) W := by
  have hu : Try.prog.underlying 34 = some (.slice (Try.prog.elem 34)) := by kernel_rfl
  have hsz : ((sizeOf (Try.prog.elem 34)).run Try.prog W) = .ok 1 W := by
    obtain ⟨i, hi, _, h1, _⟩ := info_parts int_info
    simp [sizeOf, typeInfo, show Try.prog.elem 34 = 3 by kernel_rfl, hi, h1]
  have := run_slice_l W 34 (some ad) n c hu .i64 1 (by omega) (by omega)
  rw [run_sliceAt_slice W _ _ _ _ _ hu, this, hsz]
  simp [Result.andThen, sliced, tailA]
theorem Rd.tail_ {w : World} {ad : Addr} {x : Int} {s : List Int} {d : Nat} (h : Rd w (some ad) (x :: s)) (hd : s.length + 1 ≤ d) : Rd w (tailA (some ad) d) s := by
  show Rd w (if d = 1 then some ad else some (ad.add 1)) s
  by_cases e : d = 1
  · have : s = [] := List.eq_nil_of_length_eq_zero (by omega)
    rw [this]; exact Rd.nil _ _
  · rw [if_neg e]
    refine ⟨by have := h.1; simp at this; omega, fun hp => ⟨_, rfl, ?_, fun j u hj => ?_⟩⟩
    · obtain ⟨_, e, hb, _⟩ := h.2 (by simp)
      injection e with e
      subst e
      rw [block_of_add]; exact hb
    · obtain ⟨_, e, _, hc⟩ := h.2 (by simp)
      injection e with e
      subst e
      rw [Addr.add_add, Nat.add_comm]
      exact hc (j + 1) u (by simpa using hj)
theorem rnums_2 (n m c d : Nat) (x : Int) (s : List Int) (r : Bool) (q : Bool) (P : Option Addr) (ad : Addr) (w : World) (Q2 : Option Addr) (d2 : Nat) (hcut : ∀ W, (Instr.sliceAt 34 (.slice (some ad) m d) (some (.int .i64 1)) none none).run Try.prog W = .ok (.slice Q2 (m - 1) d2) W)
    (hcell : w.cell? ad = some (.int .i64 x)) (hlt : ad.block < w.heap.size) (hx0 : ¬ x < 0) (hx7 : ¬ (7 : Int) < x) (hm1 : ((m : Int) == 0) = false) (hi1 : (0 : Int) < (m : Int)) (hml : m ≤ 9223372036854775807)
    (HC : Hid (∀ W, Kp w W → Calls Try.prog 46 #[.slice (some ad) m d] W fun e w' => e = .returned (.bool q) ∧ W = w'))
    (HC2 : Hid (∀ W, Kp w W → Calls Try.prog 46 #[.slice Q2 (m - 1) d2] W fun e w' => e = .returned (.bool r) ∧ W = w')) :
    Calls Try.prog 33 #[.agg #[.int .i64 2, .slice P n c, .slice (some ad) m d]] w fun e w' => e = .returned (.bool r) ∧ Kp w w' := by
  have F0 := Lib.hid (Nb.new (W := w) (b := w.heap.size) (op := 2) (P := P) (n := n) (c := c) (Q := some ad) (m := m) (d := d) rfl)
  have K0 : Hid (Kp w (w.alloc (.cells #[.int .i64 2, .slice P n c, .slice (some ad) m d] 36))) := Kp.alloc_ _ _
  have p0 := F0.out.c0
  have p2 := F0.out.c2
  have p3 : (w.alloc (.cells #[.int .i64 2, .slice P n c, .slice (some ad) m d] 36)).cell? ad = some (.int .i64 x) := (K0.out.cell hlt).trans hcell
  clear hcell
  go_enter Try.func33, Try.ntmps33
  go_wp2_with fail
  refine (HC.out _ K0.out).mono ?_; rintro e w1 ⟨rfl, rfl⟩
  go_wp2_with fail
  refine (HC2.out _ K0.out).mono ?_; rintro e w2 ⟨rfl, rfl⟩
  go_wp2
  go_ret
  exact ⟨rfl, K0.out⟩
theorem rnums_w (op : Int) (n m c d : Nat) (l : List Int) (r : Bool) (P Q : Option Addr) (w : World) (HM : Hid (m = l.length)) (hQ : Rd w Q l) (hd1 : m ≤ d) (hd2 : d ≤ 9223372036854775807) (hr : ∀ a : List Int, numsB (op, a, l) = r) :
    Calls Try.prog 33 #[.agg #[.int .i64 op, .slice P n c, .slice Q m d]] w fun e w' => e = .returned (.bool r) ∧ Kp w w' := by
  have hr := hr []
  have F0 := Lib.hid (Nb.new (W := w) (b := w.heap.size) (op := op) (P := P) (n := n) (c := c) (Q := Q) (m := m) (d := d) rfl)
  have K0 : Hid (Kp w (w.alloc (.cells #[.int .i64 op, .slice P n c, .slice Q m d] 36))) := Kp.alloc_ _ _
  have HR0 := Lib.hid (hQ.kp K0.out)
  obtain ⟨q, hq⟩ : ∃ q, q = okS l := ⟨_, rfl⟩
  have HC : Hid (∀ W, Rd W Q l → Calls Try.prog 46 #[.slice Q m d] W fun e w' => e = .returned (.bool q) ∧ W = w') := fun W h => by rw [hq, HM.out]; exact rcheck_any Q d l W h
  have p0 := F0.out.c0
  have p1 := F0.out.c1
  have p2 := F0.out.c2
  have hml : m ≤ 9223372036854775807 := by omega
  by_cases h1 : op = 1
  · subst h1
    have hv : r = q := by rw [← hr, hq]; unfold numsB; simp
    subst hv
    clear hr hq hQ
    go_enter Try.func33, Try.ntmps33
    go_wp2_with fail
    refine (HC.out _ HR0.out).mono ?_; rintro e w1 ⟨rfl, rfl⟩
    go_wp2
    go_ret
    exact ⟨rfl, K0.out⟩
  by_cases h40 : op = 40
  · subst h40
    have hv : r = q := by rw [← hr, hq]; unfold numsB; simp
    subst hv
    clear hr hq hQ
    go_enter Try.func33, Try.ntmps33
    go_wp2_with fail
    refine (HC.out _ HR0.out).mono ?_; rintro e w1 ⟨rfl, rfl⟩
    go_wp2
    go_ret
    exact ⟨rfl, K0.out⟩
  by_cases h2 : op = 2
  · subst h2
    have hv : parB l = r := by rw [← hr]; unfold numsB; simp
    clear hr hq
    by_cases hm0 : m = 0
    · have hl0 : l = [] := List.eq_nil_of_length_eq_zero (by rw [← HM.out]; exact hm0)
      subst hl0 hm0
      have hv' : r = false := hv.symm
      subst hv'
      clear hv
      go_enter Try.func33, Try.ntmps33
      go_wp2_with fail
      refine (HC.out _ HR0.out).mono ?_; rintro e w1 ⟨rfl, rfl⟩
      go_wp2
      go_ret
      exact ⟨rfl, K0.out⟩
    · obtain ⟨x, s, rfl⟩ : ∃ x s, l = x :: s := by
        cases l with
        | nil => exact absurd HM.out hm0
        | cons x s => exact ⟨x, s, rfl⟩
      have hms : m = s.length + 1 := HM.out
      have HMS := Lib.hid hms
      obtain ⟨ad, y, rfl, hlt, hx, hcell⟩ := HR0.out.at_ (k := 0) (by simp)
      have hxy : x = y := by simpa using hx
      subst hxy
      have e1 : ad.add 0 = ad := by unfold Addr.add; simp
      rw [e1] at hcell
      obtain ⟨ad', y', ead, hlt0, hx', hcell0⟩ := hQ.at_ (k := 0) (by simp)
      injection ead with ead
      subst ead
      have hxy' : x = y' := by simpa using hx'
      subst hxy'
      rw [e1] at hcell0
      have hQ0 := hQ
      have hm1 : ((m : Int) == 0) = false := by simp; omega
      have hi1 : (0 : Int) < (m : Int) := by omega
      have hi2 : (1 : Int) ≤ (m : Int) := by omega
      clear hms hx e1 hx'
      by_cases hx0 : x < 0
      · have hv' : r = false := by rw [← hv]; unfold parB; simp; omega
        subst hv'
        clear hv hcell0 hlt0 hQ0 hQ
        go_enter Try.func33, Try.ntmps33
        go_wp2_with fail
        refine (HC.out _ HR0.out).mono ?_; rintro e w1 ⟨rfl, rfl⟩
        go_wp2
        go_ret
        exact ⟨rfl, K0.out⟩
      by_cases hx7 : (7 : Int) < x
      · have hv' : r = false := by rw [← hv]; unfold parB; simp; omega
        subst hv'
        clear hv hcell0 hlt0 hQ0 hQ
        go_enter Try.func33, Try.ntmps33
        go_wp2_with fail
        refine (HC.out _ HR0.out).mono ?_; rintro e w1 ⟨rfl, rfl⟩
        go_wp2
        go_ret
        exact ⟨rfl, K0.out⟩
      · have hv' : r = okS s := by rw [← hv]; unfold parB; simp; omega
        clear hv
        exact rnums_2 n m c d x s r q P ad w (tailA (some ad) d) (d - 1) (fun W => run_tail W ad m d (by have := HMS.out; omega)) hcell0 hlt0 hx0 hx7 hm1 hi1 hml (fun W k => HC.out W (hQ0.kp k))
          (fun W k => by
            rw [hv', show m - 1 = s.length by have := HMS.out; omega]
            exact rcheck_any _ (d - 1) s W ((hQ0.kp k).tail_ (by have := HMS.out; omega)))
  have e1 : (op == 1) = false := by simpa using h1
  have e2 : (op == 2) = false := by simpa using h2
  have e40 : (op == 40) = false := by simpa using h40
  by_cases h42 : op = 42
  · subst h42
    have hv : r = decide (m = 3) := by rw [← hr, HM.out]; unfold numsB; simp
    have hv2 : r = ((m : Int) == 3) := by rw [hv, Bool.eq_iff_iff, decide_eq_true_iff, beq_iff_eq]; omega
    subst hv2
    clear hr hq hQ hv
    go_enter Try.func33, Try.ntmps33
    go_wp2_with fail
    refine (HC.out _ HR0.out).mono ?_; rintro e w1 ⟨rfl, rfl⟩
    go_wp2
    go_ret
    exact ⟨rfl, K0.out⟩
  have e42 : (op == 42) = false := by simpa using h42
  have hone : ∀ b : Bool, (b = true ↔ op = 3 ∨ op = 43 ∨ 50 ≤ op) → r = (if b = true then ((m : Int) == 1) else ((m : Int) == 0)) := by
    intro b hb
    rw [← hr]
    unfold numsB
    rw [if_neg (by omega), if_neg h2, if_neg h42]
    show (if op = 3 ∨ op = 43 ∨ 50 ≤ op then decide (l.length = 1) else decide (l.length = 0)) = _
    rw [← HM.out]
    by_cases h : op = 3 ∨ op = 43 ∨ 50 ≤ op
    · rw [if_pos h, if_pos (hb.2 h), Bool.eq_iff_iff, decide_eq_true_iff, beq_iff_eq]; omega
    · rw [if_neg h, if_neg (fun g => h (hb.1 g)), Bool.eq_iff_iff, decide_eq_true_iff, beq_iff_eq]; omega
  by_cases h3 : op = 3
  · have hv := hone true (by simp [h3])
    rw [if_pos rfl] at hv
    subst h3 hv
    clear hr hq hQ hone
    go_enter Try.func33, Try.ntmps33
    go_wp2_with fail
    refine (HC.out _ HR0.out).mono ?_; rintro e w1 ⟨rfl, rfl⟩
    go_wp2
    go_ret
    exact ⟨rfl, K0.out⟩
  have e3 : (op == 3) = false := by simpa using h3
  by_cases h43 : op = 43
  · have hv := hone true (by simp [h43])
    rw [if_pos rfl] at hv
    subst h43 hv
    clear hr hq hQ hone
    go_enter Try.func33, Try.ntmps33
    go_wp2_with fail
    refine (HC.out _ HR0.out).mono ?_; rintro e w1 ⟨rfl, rfl⟩
    go_wp2
    go_ret
    exact ⟨rfl, K0.out⟩
  have e43 : (op == 43) = false := by simpa using h43
  by_cases h50 : (50 : Int) ≤ op
  · have hv := hone true (by simp [h50])
    rw [if_pos rfl] at hv
    subst hv
    clear hr hq hQ hone
    go_enter Try.func33, Try.ntmps33
    go_wp2_with fail
    refine (HC.out _ HR0.out).mono ?_; rintro e w1 ⟨rfl, rfl⟩
    go_wp2
    go_ret
    exact ⟨rfl, K0.out⟩
  · have hv := hone false (by simp; omega)
    rw [if_neg (by simp)] at hv
    subst hv
    clear hr hq hQ hone
    go_enter Try.func33, Try.ntmps33
    go_wp2_with fail
    refine (HC.out _ HR0.out).mono ?_; rintro e w1 ⟨rfl, rfl⟩
    go_wp2
    go_ret
    exact ⟨rfl, K0.out⟩
theorem rnums_any (t : Nd) (P Q : Option Addr) (c d : Nat) (w : World) (hQ : Rd w Q t.2.2) (hd : t.2.2.length ≤ d ∧ d ≤ 9223372036854775807) :
    Calls Try.prog 33 #[ndV t P c Q d] w fun e w' => e = .returned (.bool (numsB t)) ∧ Kp w w' :=
  rnums_w t.1 t.2.1.length t.2.2.length c d t.2.2 (numsB t) P Q w rfl hQ hd.1 hd.2 (fun _ => rfl)
end Go.Proofs.Ytdcgmnkoomhocaa

/- The document's layer 10: like. -/
namespace Go.Proofs.Ytdcgmnkoomhocaa
open Go.RowKit Go.Proofs.ShM Go.Proofs.GrM
set_option linter.unusedVariables false
set_option linter.unusedSimpArgs false
set_option maxHeartbeats 2000000

theorem undrawnN {w w' : World} (h : Kp w w') (k : Nat) : Kp w (w'.drewN k) := h.tr (Kp.drewN_ _ _)
theorem rlike_ne (x y : Int) (n m n2 m2 c d e f : Nat) (P R : Option Addr) (Q S : Option Addr) (w : World) (e1 : (x != y) = true) :
    Calls Try.prog 35 #[.agg #[.int .i64 x, .slice P n c, .slice Q m d], .agg #[.int .i64 y, .slice R n2 e, .slice S m2 f]] w fun e w' => e = .returned (.bool true) ∧ Kp w w' := by
  have F0 : Hid (Nb ((w.alloc (.cells #[.int .i64 x, .slice P n c, .slice Q m d] 36)).alloc (.cells #[.int .i64 y, .slice R n2 e, .slice S m2 f] 36)) w.heap.size x P n c Q m d) := (Nb.new rfl).alloc_ _
  have F1 : Hid (Nb ((w.alloc (.cells #[.int .i64 x, .slice P n c, .slice Q m d] 36)).alloc (.cells #[.int .i64 y, .slice R n2 e, .slice S m2 f] 36)) (w.heap.size + 1) y R n2 e S m2 f) := Nb.new (by simp)
  have K0 : Hid (Kp w ((w.alloc (.cells #[.int .i64 x, .slice P n c, .slice Q m d] 36)).alloc (.cells #[.int .i64 y, .slice R n2 e, .slice S m2 f] 36))) := (Kp.alloc_ _ _).tr (Kp.alloc_ _ _)
  have p0 := F0.out.c0
  have p2 := F0.out.c2
  have q0 := F1.out.c0
  have q2 := F1.out.c2
  go_enter Try.func35, Try.ntmps35
  go_wp2_with fail
  go_quiet (fail)
  go_wp2
  go_ret
  exact ⟨rfl, undrawnN K0.out _⟩
theorem rlike_gt (x : Int) (n m n2 m2 c d e f : Nat) (P R : Option Addr) (Q S : Option Addr) (w : World) (h2 : 2 < x) :
    Calls Try.prog 35 #[.agg #[.int .i64 x, .slice P n c, .slice Q m d], .agg #[.int .i64 x, .slice R n2 e, .slice S m2 f]] w fun e w' => e = .returned (.bool true) ∧ Kp w w' := by
  have F0 : Hid (Nb ((w.alloc (.cells #[.int .i64 x, .slice P n c, .slice Q m d] 36)).alloc (.cells #[.int .i64 x, .slice R n2 e, .slice S m2 f] 36)) w.heap.size x P n c Q m d) := (Nb.new rfl).alloc_ _
  have F1 : Hid (Nb ((w.alloc (.cells #[.int .i64 x, .slice P n c, .slice Q m d] 36)).alloc (.cells #[.int .i64 x, .slice R n2 e, .slice S m2 f] 36)) (w.heap.size + 1) x R n2 e S m2 f) := Nb.new (by simp)
  have K0 : Hid (Kp w ((w.alloc (.cells #[.int .i64 x, .slice P n c, .slice Q m d] 36)).alloc (.cells #[.int .i64 x, .slice R n2 e, .slice S m2 f] 36))) := (Kp.alloc_ _ _).tr (Kp.alloc_ _ _)
  have p0 := F0.out.c0
  have p2 := F0.out.c2
  have q0 := F1.out.c0
  have q2 := F1.out.c2
  have e1 : (x != x) = false := by simp
  go_enter Try.func35, Try.ntmps35
  go_wp2_with fail
  go_quiet (fail)
  go_wp2
  go_ret
  exact ⟨rfl, undrawnN K0.out _⟩
theorem rlike_un (n m n2 m2 c d e f : Nat) (P R : Option Addr) (ad ae : Addr) (u v : Int) (w : World) (hb : ad.block < w.heap.size) (hb2 : ae.block < w.heap.size) (hc : w.cell? ad = some (.int .i64 u)) (hc2 : w.cell? ae = some (.int .i64 v)) (i1 : (0 : Int) < (m : Int)) (i2 : (0 : Int) < (m2 : Int)) (e4 : (u != v) = true) :
    Calls Try.prog 35 #[.agg #[.int .i64 2, .slice P n c, .slice (some ad) m d], .agg #[.int .i64 2, .slice R n2 e, .slice (some ae) m2 f]] w fun e w' => e = .returned (.bool true) ∧ Kp w w' := by
  have F0 : Hid (Nb ((w.alloc (.cells #[.int .i64 2, .slice P n c, .slice (some ad) m d] 36)).alloc (.cells #[.int .i64 2, .slice R n2 e, .slice (some ae) m2 f] 36)) w.heap.size 2 P n c (some ad) m d) := (Nb.new rfl).alloc_ _
  have F1 : Hid (Nb ((w.alloc (.cells #[.int .i64 2, .slice P n c, .slice (some ad) m d] 36)).alloc (.cells #[.int .i64 2, .slice R n2 e, .slice (some ae) m2 f] 36)) (w.heap.size + 1) 2 R n2 e (some ae) m2 f) := Nb.new (by simp)
  have K0 : Hid (Kp w ((w.alloc (.cells #[.int .i64 2, .slice P n c, .slice (some ad) m d] 36)).alloc (.cells #[.int .i64 2, .slice R n2 e, .slice (some ae) m2 f] 36))) := (Kp.alloc_ _ _).tr (Kp.alloc_ _ _)
  have p0 := F0.out.c0
  have p2 := F0.out.c2
  have q0 := F1.out.c0
  have q2 := F1.out.c2
  have p3 := (K0.out.cell (p := ad) hb).trans hc
  have q3 := (K0.out.cell (p := ae) hb2).trans hc2
  clear hb hb2 hc hc2
  go_enter Try.func35, Try.ntmps35
  go_wp2_with fail
  go_quiet (fail)
  go_wp2
  go_ret
  exact ⟨rfl, undrawnN K0.out _⟩
theorem rlike_eq (n m n2 m2 c d e f : Nat) (P R : Option Addr) (ad ae : Addr) (u v : Int) (w : World) (hb : ad.block < w.heap.size) (hb2 : ae.block < w.heap.size) (hc : w.cell? ad = some (.int .i64 u)) (hc2 : w.cell? ae = some (.int .i64 v)) (i1 : (0 : Int) < (m : Int)) (i2 : (0 : Int) < (m2 : Int)) (e4 : (u != v) = false) (s : Bool) (HS : Hid (∀ W, Kp w W → Calls Try.prog 24 #[.slice (some ad) m d, .slice (some ae) m2 f] W fun e w' => e = .returned (.bool s) ∧ ∃ n, w' = W.drewN n)) :
    Calls Try.prog 35 #[.agg #[.int .i64 2, .slice P n c, .slice (some ad) m d], .agg #[.int .i64 2, .slice R n2 e, .slice (some ae) m2 f]] w fun e w' => e = .returned (.bool s) ∧ Kp w w' := by
  have F0 : Hid (Nb ((w.alloc (.cells #[.int .i64 2, .slice P n c, .slice (some ad) m d] 36)).alloc (.cells #[.int .i64 2, .slice R n2 e, .slice (some ae) m2 f] 36)) w.heap.size 2 P n c (some ad) m d) := (Nb.new rfl).alloc_ _
  have F1 : Hid (Nb ((w.alloc (.cells #[.int .i64 2, .slice P n c, .slice (some ad) m d] 36)).alloc (.cells #[.int .i64 2, .slice R n2 e, .slice (some ae) m2 f] 36)) (w.heap.size + 1) 2 R n2 e (some ae) m2 f) := Nb.new (by simp)
  have K0 : Hid (Kp w ((w.alloc (.cells #[.int .i64 2, .slice P n c, .slice (some ad) m d] 36)).alloc (.cells #[.int .i64 2, .slice R n2 e, .slice (some ae) m2 f] 36))) := (Kp.alloc_ _ _).tr (Kp.alloc_ _ _)
  have p0 := F0.out.c0
  have p2 := F0.out.c2
  have q0 := F1.out.c0
  have q2 := F1.out.c2
  have p3 := (K0.out.cell (p := ad) hb).trans hc
  have q3 := (K0.out.cell (p := ae) hb2).trans hc2
  clear hb hb2 hc hc2
  go_enter Try.func35, Try.ntmps35
  go_wp2_with fail
  go_quiet (fail)
  go_wp2_with fail
  refine (HS.out _ (undrawnN K0.out _)).mono ?_; rintro e0 w1 ⟨rfl, k1, rfl⟩
  go_wp2
  go_ret
  exact ⟨rfl, undrawnN K0.out _⟩
theorem rlike_lo (x : Int) (n m n2 m2 c d e f : Nat) (P R : Option Addr) (Q S : Option Addr) (w : World) (h2 : ¬ 2 < x) (h3 : x ≠ 2) (s : Bool) (HS : Hid (∀ W, Kp w W → Calls Try.prog 24 #[.slice Q m d, .slice S m2 f] W fun e w' => e = .returned (.bool s) ∧ ∃ n, w' = W.drewN n)) :
    Calls Try.prog 35 #[.agg #[.int .i64 x, .slice P n c, .slice Q m d], .agg #[.int .i64 x, .slice R n2 e, .slice S m2 f]] w fun e w' => e = .returned (.bool s) ∧ Kp w w' := by
  have F0 : Hid (Nb ((w.alloc (.cells #[.int .i64 x, .slice P n c, .slice Q m d] 36)).alloc (.cells #[.int .i64 x, .slice R n2 e, .slice S m2 f] 36)) w.heap.size x P n c Q m d) := (Nb.new rfl).alloc_ _
  have F1 : Hid (Nb ((w.alloc (.cells #[.int .i64 x, .slice P n c, .slice Q m d] 36)).alloc (.cells #[.int .i64 x, .slice R n2 e, .slice S m2 f] 36)) (w.heap.size + 1) x R n2 e S m2 f) := Nb.new (by simp)
  have K0 : Hid (Kp w ((w.alloc (.cells #[.int .i64 x, .slice P n c, .slice Q m d] 36)).alloc (.cells #[.int .i64 x, .slice R n2 e, .slice S m2 f] 36))) := (Kp.alloc_ _ _).tr (Kp.alloc_ _ _)
  have p0 := F0.out.c0
  have p2 := F0.out.c2
  have q0 := F1.out.c0
  have q2 := F1.out.c2
  have e1 : (x != x) = false := by simp
  have e2 : decide ((2 : Int) < x) = false := by simpa using h2
  have e3 : (x == 2) = false := by simpa using h3
  clear h2 h3
  go_enter Try.func35, Try.ntmps35
  go_wp2_with fail
  go_quiet (fail)
  go_wp2_with fail
  refine (HS.out _ (undrawnN K0.out _)).mono ?_; rintro e0 w1 ⟨rfl, k1, rfl⟩
  go_wp2
  go_ret
  exact ⟨rfl, undrawnN K0.out _⟩
theorem first_cell {w : World} {Q : Option Addr} {l : List Int} (h : Rd w Q l) (hl : l ≠ []) : ∃ ad, Q = some ad ∧ ad.block < w.heap.size ∧ w.cell? ad = some (.int .i64 (l.getD 0 0)) ∧ 0 < l.length := by
  cases l with
  | nil => exact absurd rfl hl
  | cons x s =>
    obtain ⟨ad, y, e, hb, hx, hc⟩ := h.at_ (k := 0) (by simp)
    have e1 : ad.add 0 = ad := by unfold Addr.add; simp
    rw [e1] at hc
    have : x = y := by simpa using hx
    subst this
    exact ⟨ad, e, hb, hc, by simp⟩
theorem rlike_any (a b : Nd) (P Q R S : Option Addr) (c d e f : Nat) (w : World) (hQ : Rd w Q a.2.2) (hS : Rd w S b.2.2) (ha : a.1 = 2 → a.2.2 ≠ []) (hb : b.1 = 2 → b.2.2 ≠ []) :
    Calls Try.prog 35 #[ndV a P c Q d, ndV b R e S f] w fun e w' => e = .returned (.bool (likeB a b)) ∧ Kp w w' := by
  obtain ⟨x, la, na⟩ := a
  obtain ⟨y, lb, nb⟩ := b
  have HS : Hid (∀ W, Kp w W → Calls Try.prog 24 #[.slice Q na.length d, .slice S nb.length f] W fun e w' => e = .returned (.bool (na == nb)) ∧ ∃ n, w' = W.drewN n) := fun W k => same_any Q S d f na nb W (hQ.kp k) (hS.kp k)
  by_cases h1 : x = y
  · subst h1
    by_cases h2 : 2 < x
    · have hv : likeB (x, la, na) (x, lb, nb) = true := like_other h2
      rw [hv]
      exact rlike_gt x _ _ _ _ c d e f P R Q S w h2
    · by_cases h3 : x = 2
      · subst h3
        obtain ⟨ad, e1, hb1, hc1, hm1⟩ := first_cell hQ (ha rfl)
        obtain ⟨ae, e2, hb2, hc2, hm2⟩ := first_cell hS (hb rfl)
        subst e1 e2
        have hv : likeB (2, la, na) (2, lb, nb) = if na.getD 0 0 ≠ nb.getD 0 0 then true else na == nb := by
          unfold likeB
          by_cases g : na.getD 0 0 ≠ nb.getD 0 0
          · rw [if_pos (.inr (.inr ⟨rfl, g⟩)), if_pos g]
          · rw [if_neg, if_neg g]
            rintro (c | c | ⟨_, c⟩)
            · exact c rfl
            · exact absurd (show (2 : Int) < 2 from c) (by decide)
            · exact g c
        have hc1 : w.cell? ad = some (.int .i64 (na.getD 0 0)) := hc1
        have hc2 : w.cell? ae = some (.int .i64 (nb.getD 0 0)) := hc2
        generalize na.getD 0 0 = u at hv hc1
        generalize nb.getD 0 0 = v at hv hc2
        have hm1 : 0 < na.length := hm1
        have hm2 : 0 < nb.length := hm2
        by_cases h4 : u = v
        · rw [hv, if_neg (by simp [h4])]
          exact rlike_eq _ _ _ _ c d e f P R ad ae u v w hb1 hb2 hc1 hc2 (by omega) (by omega) (by simpa using h4) _ HS
        · rw [hv, if_pos h4]
          exact rlike_un _ _ _ _ c d e f P R ad ae u v w hb1 hb2 hc1 hc2 (by omega) (by omega) (by simpa using h4)
      · have hv : likeB (x, la, na) (x, lb, nb) = (na == nb) := by
          unfold likeB
          rw [if_neg]
          rintro (c | c | ⟨c, _⟩)
          · exact c rfl
          · exact h2 c
          · exact h3 c
        rw [hv]
        exact rlike_lo x _ _ _ _ c d e f P R Q S w h2 h3 _ HS
  · have hv : likeB (x, la, na) (y, lb, nb) = true := by unfold likeB; rw [if_pos (.inl h1)]
    rw [hv]
    exact rlike_ne x y _ _ _ _ c d e f P R Q S w (by simpa using h1)
end Go.Proofs.Ytdcgmnkoomhocaa

/- The document's layer 10: Few, Inputs, Uses: over a contract of Check. -/
namespace Go.Proofs.Ytdcgmnkoomhocaa
open Go.RowKit Go.Proofs.ShM Go.Proofs.GrM
set_option linter.unusedVariables false
set_option linter.unusedSimpArgs false
set_option maxHeartbeats 4000000

/-- What the document's Check answers. -/
def RCheck : Prop := ∀ (A : Option Addr) (c : Nat) (l : List Nd) (W : World), RdG W A l → Calls Try.prog 18 #[.slice A l.length c] W fun e w' => e = .returned (.bool (checkB l)) ∧ Kp W w'
def fewN (l : List Nd) : Bool := l.all (fun n => decide (n.2.1.length ≤ 30 ∧ n.2.2.length ≤ 30)) && decide (l.length ≤ 30)
theorem all_dropN {p : Nd → Bool} {ts : List Nd} {k : Nat} {t : Nd} (ht : ts[k]? = some t) : (ts.drop k).all p = (p t && (ts.drop (k + 1)).all p) := by
  obtain ⟨h, e⟩ := List.getElem?_eq_some_iff.1 ht
  rw [List.drop_eq_getElem_cons h, e]; rfl
theorem rfew10_any (A : Option Addr) (c : Nat) (l : List Nd) (w : World) (h : RdG w A l) :
    Calls Try.prog 8 #[.slice A l.length c] w fun e w' => e = .returned (.bool (fewN l)) ∧ w' = w := by
  have hl := h.len
  have HRD := Lib.hid h
  obtain ⟨r, hr⟩ : ∃ r, r = fewN l := ⟨_, rfl⟩
  have HR := Lib.hid hr
  rw [← hr]
  clear hr h
  go_enter Try.func8, Try.ntmps8
  go_wp2
  go_loopw [3] (fun i wx => ∃ k : Nat, i = .int .i64 (k : Int) ∧ Hid (k ≤ l.length) ∧ Hid (r = ((l.drop k).all (fun n => decide (n.2.1.length ≤ 30 ∧ n.2.2.length ≤ 30)) && decide (l.length ≤ 30))) ∧ wx = w) (fun i _ => l.length - (intOf i).toNat)
  case atStart => exact ⟨0, rfl, Nat.zero_le _, HR.out, rfl⟩
  case round =>
    obtain ⟨k, rfl, hk, hT, rfl⟩ := hrel
    by_cases hj : k < l.length
    · have hj' : (k : Int) < (l.length : Int) := by omega
      obtain ⟨ad, t, P, e, Q, f, rfl, hlt, ht, hc0, hc1, hc2, hN, _, _⟩ := HRD.out.at_ hj
      have hd := all_dropN (p := fun n => decide (n.2.1.length ≤ 30 ∧ n.2.2.length ≤ 30)) ht
      obtain ⟨a, ha⟩ : ∃ a, a = t.2.1.length := ⟨_, rfl⟩
      obtain ⟨b, hb⟩ : ∃ b, b = t.2.2.length := ⟨_, rfl⟩
      rw [← ha] at hc1 hd
      rw [← hb] at hc2 hd
      have HD := Lib.hid hd
      clear hd ht hN ha hb
      by_cases h1 : a ≤ 30
      · have i1 : ¬ (30 : Int) < (a : Int) := by omega
        by_cases h2 : b ≤ 30
        · have i2 : ¬ (30 : Int) < (b : Int) := by omega
          have HT2 : Hid (r = ((l.drop (k + 1)).all (fun n => decide (n.2.1.length ≤ 30 ∧ n.2.2.length ≤ 30)) && decide (l.length ≤ 30))) := by show r = _; rw [hT.out, HD.out]; simp [h1, h2]
          go_wp2
          go_roundw
          case rel => exact ⟨k + 1, by go_num, (by show k + 1 ≤ l.length; omega), HT2.out, (by first | rfl | trivial)⟩
          case measure => simp [intOf]; omega
        · have i2 : (30 : Int) < (b : Int) := by omega
          have HT2 : Hid (r = false) := by show r = _; rw [hT.out, HD.out]; simp [h2]
          go_wp2
          go_ret
          exact ⟨by rw [HT2.out]; rfl, rfl⟩
      · have i1 : (30 : Int) < (a : Int) := by omega
        have HT2 : Hid (r = false) := by show r = _; rw [hT.out, HD.out]; simp [h1]
        go_wp2
        go_ret
        exact ⟨by rw [HT2.out]; rfl, rfl⟩
    · have hj' : ¬ (k : Int) < (l.length : Int) := by omega
      have HT2 : Hid (r = decide (l.length ≤ 30)) := by show r = decide (l.length ≤ 30); rw [hT.out, List.drop_eq_nil_of_le (by omega)]; rfl
      by_cases h3 : (l.length : Int) ≤ 30
      · have HT3 : Hid (r = true) := by show r = true; rw [HT2.out, decide_eq_true_iff]; omega
        go_wp2
        go_ret
        exact ⟨by rw [HT3.out]; simp [h3], rfl⟩
      · have HT3 : Hid (r = false) := by show r = false; rw [HT2.out, decide_eq_false_iff_not]; omega
        go_wp2
        go_ret
        exact ⟨by rw [HT3.out]; simp [h3], rfl⟩

def outI : Option (List Int) → List Int × Bool
  | some s => (s, true)
  | none => ([], false)
/-- A shape that lies in memory, with room, and whether there is one. -/
def RetIn (A0 : Option Addr) (l : List Nd) (s : List Int) (is : Bool) (W : World) (e : Ending) (W' : World) : Prop :=
  ∃ A c, e = .returned (.tuple #[.slice A s.length c, .bool is]) ∧ (∀ V, Kp W V → Rd V A s) ∧ s.length ≤ c ∧ c ≤ 9223372036854775807 ∧ Kp W W'
end Go.Proofs.Ytdcgmnkoomhocaa

/- The document's layer 10: Check. -/
namespace Go.Proofs.Ytdcgmnkoomhocaa
open Go.RowKit Go.Proofs.ShM Go.Proofs.GrM
set_option linter.unusedVariables false
set_option linter.unusedSimpArgs false
set_option maxHeartbeats 16000000

theorem quiet10 {f : FuncId} {args : Array Value} {w : World} {n : Nat} {v : Value} (h : Calls Try.prog f args (w.drewN n) fun e w' => e = .returned v ∧ w' = w.drewN n) :
    Calls Try.prog f args (w.drewN n) fun e w'' => e = .returned v ∧ ∃ m, w'' = w.drewN m := h.mono fun _ _ ⟨he, hm⟩ => ⟨he, n, hm⟩
theorem par_ne {n : Nd} (h : numsB n = true) (h2 : n.1 = 2) : n.2.2 ≠ [] := by
  unfold numsB at h
  rw [if_neg (by omega), if_pos h2] at h
  intro e
  rw [e] at h
  cases h
/-- So far all is well. -/
def Ck (r : Bool) (l : List Nd) (i : Nat) : Prop := (∀ (j : Nat) (n : Nd), j < i → l[j]? = some n → nodeB l j n = true) ∧ (r = true ↔ ∀ (j : Nat) (n : Nd), i ≤ j → l[j]? = some n → nodeB l j n = true)
theorem ck_start {l : List Nd} (h1 : 1 ≤ l.length) (h2 : l.length ≤ 24) : Ck (checkB l) l 0 := by
  refine ⟨fun j n h => by omega, ?_⟩
  rw [check_iff]
  exact ⟨fun h j n _ hn => h.2.2 j n hn, fun h => ⟨h1, h2, fun j n hn => h j n (Nat.zero_le _) hn⟩⟩
theorem ck_step {r : Bool} {l : List Nd} {i : Nat} {n : Nd} (h : Ck r l i) (hn : l[i]? = some n) (hb : nodeB l i n = true) : Ck r l (i + 1) := by
  refine ⟨fun j m hj hm => ?_, h.2.trans ⟨fun g j m hj hm => g j m (by omega) hm, fun g j m hj hm => ?_⟩⟩
  · by_cases e : j = i
    · subst e; rw [hn] at hm; injection hm with hm; subst hm; exact hb
    · exact h.1 j m (by omega) hm
  · by_cases e : j = i
    · subst e; rw [hn] at hm; injection hm with hm; subst hm; exact hb
    · exact g j m (by omega) hm
theorem ck_bad {r : Bool} {l : List Nd} {i : Nat} {n : Nd} (h : Ck r l i) (hn : l[i]? = some n) (hb : nodeB l i n = false) : r = false := by
  cases e : r with
  | false => rfl
  | true =>
    rw [h.2] at e
    rw [e i n (Nat.le_refl _) hn] at hb
    cases hb
theorem ck_end {r : Bool} {l : List Nd} {i : Nat} (h : Ck r l i) (hi : l.length ≤ i) : r = true := by
  rw [h.2]
  intro j n hj hn
  have := (List.getElem?_eq_some_iff.1 hn).1
  omega
theorem node_bad {l : List Nd} {i n0 : Nat} {t : Nd} {a0 : Int} {q B : Bool} (ha : a0 = arityV t.1) (hn : n0 = t.2.1.length) (hq : q = numsB t) (hB : B = (decide (a0 < 0) || (!(decide ((n0 : Int) = a0)) || !q))) : nodeB l i t = (!B && (argsB i t.2.1 && (l.take i).all (fun m => likeB m t))) := by
  subst ha hn hq hB
  unfold nodeB
  have e : decide (0 ≤ arityV t.1 ∧ (t.2.1.length : Int) = arityV t.1) = (!decide (arityV t.1 < 0) && decide ((t.2.1.length : Int) = arityV t.1)) := by
    rw [Bool.eq_iff_iff]; simp
  rw [e]
  cases decide (arityV t.1 < 0) <;> cases decide ((t.2.1.length : Int) = arityV t.1) <;> cases numsB t <;> simp
theorem all_hd {p : Int → Bool} {s : List Int} {k : Nat} {x : Int} (h : s[k]? = some x) : (s.drop k).all p = (p x && (s.drop (k + 1)).all p) := by
  obtain ⟨hb, e⟩ := List.getElem?_eq_some_iff.1 h
  rw [List.drop_eq_getElem_cons hb, e]; rfl
theorem all_hdN {p : Nd → Bool} {s : List Nd} {k : Nat} {x : Nd} (h : s[k]? = some x) : (s.drop k).all p = (p x && (s.drop (k + 1)).all p) := by
  obtain ⟨hb, e⟩ := List.getElem?_eq_some_iff.1 h
  rw [List.drop_eq_getElem_cons hb, e]; rfl
set_option maxRecDepth 100000 in
theorem rcheck10 : RCheck := by
  intro A c l w h
  have hl := h.len
  have HRD := Lib.hid h
  obtain ⟨r, hr⟩ : ∃ r, r = checkB l := ⟨_, rfl⟩
  rw [← hr]
  by_cases hb : 1 ≤ l.length ∧ l.length ≤ 24
  · have H0 : Hid (Ck r l 0) := by show Ck r l 0; rw [hr]; exact ck_start hb.1 hb.2
    obtain ⟨hb1, hb2⟩ := hb
    have i1 : ¬ (l.length : Int) < 1 := by omega
    have i2 : ¬ (24 : Int) < (l.length : Int) := by omega
    have HAR := Lib.hid rarity_any
    clear hr h
    go_enter Try.func18, Try.ntmps18
    go_wp2
    go_loopw [3] (fun i wx => ∃ k : Nat, i = .int .i64 (k : Int) ∧ Hid (k ≤ l.length) ∧ Hid (Ck r l k) ∧ Hid (Kp w wx)) (fun i _ => l.length - (intOf i).toNat)
    case atStart => exact ⟨0, rfl, Nat.zero_le _, H0.out, Kp.refl _⟩
    case round =>
      obtain ⟨i, rfl, hi, hT, hK⟩ := hrel
      obtain ⟨wo, hwo⟩ : ∃ wo, wo = wr := ⟨_, rfl⟩
      subst hwo
      by_cases hj : i < l.length
      · have hj' : (i : Int) < (l.length : Int) := by omega
        obtain ⟨ad, t, P, e, Q, g, rfl, hlt, ht, hc0, hc1, hc2, hN, _, hd⟩ := (HRD.out.kp hK.out).at_ hj
        have HNU := Lib.hid (rnums_any t P Q e g wo hN.rn hd)
        have HN := Lib.hid hN
        have HTT := Lib.hid ht
        have HC : Hid (∀ V, Kp wo V → V.cell? (ad.add (i * 3)) = some (.int .i64 t.1) ∧ V.cell? ⟨(ad.add (i * 3)).block, (ad.add (i * 3)).off + 1, none⟩ = some (.slice P t.2.1.length e) ∧ V.cell? ⟨(ad.add (i * 3)).block, (ad.add (i * 3)).off + 2, none⟩ = some (.slice Q t.2.2.length g)) := fun V kV =>
          ⟨(kV.cell (by rw [block_of_add]; exact hlt)).trans hc0, (kV.cell (by rw [block_of_add]; exact hlt)).trans hc1, (kV.cell (by rw [block_of_add]; exact hlt)).trans hc2⟩
        have hal := hN.ra.len
        obtain ⟨a0, ha0⟩ : ∃ a0, a0 = arityV t.1 := ⟨_, rfl⟩
        have HA0 : Hid (∀ W, Calls Try.prog 34 #[.int .i64 t.1] W fun e w' => e = .returned (.int .i64 a0) ∧ w' = W) := fun W => by rw [ha0]; exact HAR.out t.1 W
        obtain ⟨q, hq⟩ : ∃ q, q = numsB t := ⟨_, rfl⟩
        rw [← hq] at HNU
        have HQ := Lib.hid hq
        have HAA := Lib.hid ha0
        clear hN hd ht hq ha0
        go_wp2_with fail
        refine (Hid.out HNU).mono ?_; rintro e0 w2 ⟨rfl, k2⟩
        have K2 := Lib.hid k2
        obtain ⟨p0, p1, p2⟩ := HC.out _ k2
        clear k2 HNU hc0 hc1 hc2
        go_wp2_with fail
        go_upto_region 7 with fail
        obtain ⟨n0, hn0⟩ : ∃ n0, n0 = t.2.1.length := ⟨_, rfl⟩
        rw [← hn0] at p1 hal
        have HN0 := Lib.hid hn0
        clear hn0
        obtain ⟨B, hB⟩ : ∃ B, B = (decide (a0 < 0) || (!(decide ((n0 : Int) = a0)) || !q)) := ⟨_, rfl⟩
        have HB := Lib.hid hB
        clear hB
        go_cut [52] (fun v wx => v = .bool B ∧ Hid (Kp w2 wx))
        case first =>
          by_cases h1 : a0 < 0
          · have e1 : decide (a0 < 0) = true := by simpa using h1
            have HBB : Hid (B = true) := by show B = true; rw [HB.out, e1]; rfl
            clear h1
            go_quiet ((go_at_call 34; exact quiet10 (HA0.out _)))
            go_wp2
            go_meet
            exact ⟨by rw [HBB.out], Kp.drewN_ _ _⟩
          · have e1 : decide (a0 < 0) = false := by simpa using h1
            by_cases h2 : (n0 : Int) = a0
            · have e2 : ((n0 : Int) != a0) = false := by simpa using h2
              cases q with
              | true =>
                have HBB : Hid (B = false) := by show B = false; rw [HB.out, e1]; simp [h2]
                clear h1 h2
                go_quiet ((go_at_call 34; exact quiet10 (HA0.out _)))
                go_wp2
                go_meet
                exact ⟨by rw [HBB.out], Kp.drewN_ _ _⟩
              | false =>
                have HBB : Hid (B = true) := by show B = true; rw [HB.out]; simp
                clear h1 h2
                go_quiet ((go_at_call 34; exact quiet10 (HA0.out _)))
                go_wp2
                go_meet
                exact ⟨by rw [HBB.out], Kp.drewN_ _ _⟩
            · have e2 : ((n0 : Int) != a0) = true := by simpa using h2
              have HBB : Hid (B = true) := by show B = true; rw [HB.out]; simp [h2]
              clear h1 h2
              go_quiet ((go_at_call 34; exact quiet10 (HA0.out _)))
              go_wp2
              go_meet
              exact ⟨by rw [HBB.out], Kp.drewN_ _ _⟩
        case rest =>
          obtain ⟨rfl, hK3⟩ := hcut
          have HNB := Lib.hid (node_bad (l := l) (i := i) HAA.out HN0.out HQ.out HB.out)
          have KW := Lib.hid (K2.out.tr hK3.out)
          have KO : Hid (Kp w wc) := hK.out.tr KW.out
          cases B with
          | true =>
            have HR2 := Lib.hid (ck_bad hT.out HTT.out (by rw [HNB.out]; rfl))
            go_wp2
            go_ret
            exact ⟨by rw [HR2.out]; rfl, KO.out⟩
          | false =>
            have hqt : numsB t = true := by
              rw [← HQ.out]
              have := HB.out
              cases q with
              | true => rfl
              | false => simp at this
            have HQT := Lib.hid hqt
            obtain ⟨args, hargs⟩ : ∃ args, args = t.2.1 := ⟨_, rfl⟩
            have HNB2 : Hid (nodeB l i t = ((args.drop 0).all (fun a => decide (0 ≤ a ∧ a < (i : Int))) && (l.take i).all (fun m => likeB m t))) := by show _ = _; rw [HNB.out, hargs]; rfl
            have HNA : Hid (n0 = args.length) := by show _ = _; rw [hargs]; exact HN0.out
            have HRA : Hid (Rd wo P args) := by show Rd wo P args; rw [hargs]; exact HN.out.ra
            obtain ⟨p0, p1, p2⟩ := HC.out _ KW.out
            rw [← HN0.out] at p1
            have hltc := Nat.lt_of_lt_of_le hlt KW.out.size
            clear hqt hargs HNB HB HAA HQ
            go_wp2
            go_loopw [5] (fun v wx => ∃ k : Nat, v = .int .i64 (k : Int) ∧ Hid (k ≤ n0) ∧ Hid (nodeB l i t = ((args.drop k).all (fun a => decide (0 ≤ a ∧ a < (i : Int))) && (l.take i).all (fun m => likeB m t))) ∧ wx = wc) (fun v _ => n0 - (intOf v).toNat)
            case atStart => exact ⟨0, rfl, Nat.zero_le _, HNB2.out, rfl⟩
            case round =>
              obtain ⟨k, rfl, hk2, hT2, rfl⟩ := hrel
              by_cases hq : k < n0
              · have hq' : (k : Int) < (n0 : Int) := by omega
                obtain ⟨ae, x, rfl, hlt3, hx, hc3⟩ := (HRA.out.kp KW.out).at_ (show k < args.length by rw [← HNA.out]; exact hq)
                have hd := all_hd (p := fun a => decide (0 ≤ a ∧ a < (i : Int))) hx
                by_cases h1 : x < 0
                · have HR2 := Lib.hid (ck_bad hT.out HTT.out (by rw [hT2.out, hd]; simp; omega))
                  clear hd hx
                  go_wp2
                  go_ret
                  exact ⟨by rw [HR2.out]; rfl, KO.out⟩
                · by_cases h2 : (i : Int) ≤ x
                  · have HR2 := Lib.hid (ck_bad hT.out HTT.out (by rw [hT2.out, hd]; simp; omega))
                    clear hd hx
                    go_wp2
                    go_ret
                    exact ⟨by rw [HR2.out]; rfl, KO.out⟩
                  · have HT3 : Hid (nodeB l i t = ((args.drop (k + 1)).all (fun a => decide (0 ≤ a ∧ a < (i : Int))) && (l.take i).all (fun m => likeB m t))) := by
                      show _ = _
                      rw [hT2.out, hd, show decide (0 ≤ x ∧ x < (i : Int)) = true by rw [decide_eq_true_iff]; omega, Bool.true_and]
                    clear hd hx
                    go_wp2
                    go_roundw
                    case rel => exact ⟨k + 1, by go_num, (by show k + 1 ≤ n0; omega), HT3.out, (by first | rfl | trivial)⟩
                    case measure => simp [intOf]; omega
              · have hq' : ¬ (k : Int) < (n0 : Int) := by omega
                have HL0 : Hid (nodeB l i t = ((l.take i).drop 0).all (fun m => likeB m t)) := by
                  show _ = _
                  rw [hT2.out, List.drop_eq_nil_of_le (by rw [← HNA.out]; omega)]; rfl
                obtain ⟨w5, hw5⟩ : ∃ w5, w5 = wr := ⟨_, rfl⟩
                subst hw5
                go_wp2
                go_loopw [6, 7] (fun v _ wx => ∃ k : Nat, v = .int .i64 (k : Int) ∧ Hid (k ≤ i) ∧ Hid (nodeB l i t = ((l.take i).drop k).all (fun m => likeB m t)) ∧ Hid (Kp w5 wx)) (fun v _ _ => i - (intOf v).toNat)
                case atStart => exact ⟨0, rfl, Nat.zero_le _, HL0.out, Kp.refl _⟩
                case round =>
                  obtain ⟨m, rfl, hm, hT3, hK5⟩ := hrel
                  by_cases hq2 : m < i
                  · have hq2' : (m : Int) < (i : Int) := by omega
                    obtain ⟨ad2, u, P2, e2, Q2, g2, ead, hlt4, hu, d0, d1, d2, hN2, _, _⟩ := (HRD.out.kp (KO.out.tr hK5.out)).at_ (show m < l.length by omega)
                    injection ead with ead
                    subst ead
                    have KWR := Lib.hid (KW.out.tr hK5.out)
                    have hd := all_hdN (p := fun m => likeB m t) (s := l.take i) (k := m) (x := u) (by rw [List.getElem?_take, if_pos hq2]; exact hu)
                    have hnu := (node_iff.1 (hT.out.1 m u hq2 hu)).2.2.1
                    have HL := Lib.hid (rlike_any u t P2 Q2 P Q e2 g2 e g wr.drew (hN2.rn.drew) ((HN.out.rn.kp KWR.out).drew) (par_ne hnu) (par_ne HQT.out))
                    obtain ⟨q, hqq⟩ : ∃ q, q = likeB u t := ⟨_, rfl⟩
                    rw [← hqq] at HL hd
                    have HD := Lib.hid hd
                    have HQ6 : Hid (∀ V, Kp wr V → V.cell? (ad.add (m * 3)) = some (.int .i64 u.1) ∧ V.cell? ⟨(ad.add (m * 3)).block, (ad.add (m * 3)).off + 1, none⟩ = some (.slice P2 u.2.1.length e2) ∧ V.cell? ⟨(ad.add (m * 3)).block, (ad.add (m * 3)).off + 2, none⟩ = some (.slice Q2 u.2.2.length g2) ∧ V.cell? (ad.add (i * 3)) = some (.int .i64 t.1) ∧ V.cell? ⟨(ad.add (i * 3)).block, (ad.add (i * 3)).off + 1, none⟩ = some (.slice P t.2.1.length e) ∧ V.cell? ⟨(ad.add (i * 3)).block, (ad.add (i * 3)).off + 2, none⟩ = some (.slice Q t.2.2.length g)) := fun V kV =>
                      ⟨(kV.cell (by rw [block_of_add]; exact hlt4)).trans d0, (kV.cell (by rw [block_of_add]; exact hlt4)).trans d1, (kV.cell (by rw [block_of_add]; exact hlt4)).trans d2, (HC.out V (KWR.out.tr kV)).1, (HC.out V (KWR.out.tr kV)).2.1, (HC.out V (KWR.out.tr kV)).2.2⟩
                    have s0 := HQ6.out _ (Kp.drewN_ wr 1)
                    have il : (m : Int) < (l.length : Int) := by omega
                    clear hd hnu hqq hu hN2 d0 d1 d2 p0 p1 p2
                    go_upto_region 17 with fail
                    go_cut [7] (fun v wx => v = .bool q ∧ Hid (Kp wr wx))
                    case first =>
                      refine wp_region_held_drew (S := fun V => V.cell? (ad.add (m * 3)) = some (.int .i64 u.1) ∧ V.cell? ⟨(ad.add (m * 3)).block, (ad.add (m * 3)).off + 1, none⟩ = some (.slice P2 u.2.1.length e2) ∧ V.cell? ⟨(ad.add (m * 3)).block, (ad.add (m * 3)).off + 2, none⟩ = some (.slice Q2 u.2.2.length g2) ∧ V.cell? (ad.add (i * 3)) = some (.int .i64 t.1) ∧ V.cell? ⟨(ad.add (i * 3)).block, (ad.add (i * 3)).off + 1, none⟩ = some (.slice P t.2.1.length e) ∧ V.cell? ⟨(ad.add (i * 3)).block, (ad.add (i * 3)).off + 2, none⟩ = some (.slice Q t.2.2.length g)) (by kernel_rfl) s0 (fun hHeld => ?_)
                      refine wpAnyH_take (i := 0) (v := .slice (some ad) l.length c) rfl (by kernel_rfl) (by kernel_rfl) (by kernel_rfl) (fun _ _ _ h => h) (Or.inl ⟨by kernel_rfl, fun V hSV => ?_⟩) hHeld ?_
                      · (try dsimp only at hSV); go_simp
                      try simp only [Act.put, List.setIfInBounds_toArray, List.set_cons_zero, List.set_cons_succ]
                      refine wpAnyH_take (i := 1) (v := .int .i64 (m : Int)) rfl (by kernel_rfl) (by kernel_rfl) (by kernel_rfl) (fun _ _ _ h => h) (Or.inl ⟨by kernel_rfl, fun V hSV => ?_⟩) hHeld ?_
                      · (try dsimp only at hSV); go_simp
                      try simp only [Act.put, List.setIfInBounds_toArray, List.set_cons_zero, List.set_cons_succ]
                      refine wpAnyH_take (i := 2) (v := .pointer (some (ad.add (m * 3)))) rfl (by kernel_rfl) (by kernel_rfl) (by kernel_rfl) (fun _ _ _ h => h) (Or.inl ⟨by kernel_rfl, fun V hSV => ?_⟩) hHeld ?_
                      · (try dsimp only at hSV); go_simp
                      try simp only [Act.put, List.setIfInBounds_toArray, List.set_cons_zero, List.set_cons_succ]
                      refine wpAnyH_take (i := 3) (v := .agg #[.int .i64 u.1, .slice P2 u.2.1.length e2, .slice Q2 u.2.2.length g2]) rfl (by kernel_rfl) (by kernel_rfl) (by kernel_rfl) (fun _ _ _ h => h) (Or.inl ⟨by kernel_rfl, fun V hSV => ?_⟩) hHeld ?_
                      · (try dsimp only at hSV); go_simp
                      try simp only [Act.put, List.setIfInBounds_toArray, List.set_cons_zero, List.set_cons_succ]
                      refine wpAnyH_take (i := 4) (v := .slice (some ad) l.length c) rfl (by kernel_rfl) (by kernel_rfl) (by kernel_rfl) (fun _ _ _ h => h) (Or.inl ⟨by kernel_rfl, fun V hSV => ?_⟩) hHeld ?_
                      · (try dsimp only at hSV); go_simp
                      try simp only [Act.put, List.setIfInBounds_toArray, List.set_cons_zero, List.set_cons_succ]
                      refine wpAnyH_take (i := 5) (v := .int .i64 (i : Int)) rfl (by kernel_rfl) (by kernel_rfl) (by kernel_rfl) (fun _ _ _ h => h) (Or.inl ⟨by kernel_rfl, fun V hSV => ?_⟩) hHeld ?_
                      · (try dsimp only at hSV); go_simp
                      try simp only [Act.put, List.setIfInBounds_toArray, List.set_cons_zero, List.set_cons_succ]
                      refine wpAnyH_take (i := 6) (v := .pointer (some (ad.add (i * 3)))) rfl (by kernel_rfl) (by kernel_rfl) (by kernel_rfl) (fun _ _ _ h => h) (Or.inl ⟨by kernel_rfl, fun V hSV => ?_⟩) hHeld ?_
                      · (try dsimp only at hSV); go_simp
                      try simp only [Act.put, List.setIfInBounds_toArray, List.set_cons_zero, List.set_cons_succ]
                      refine wpAnyH_take (i := 7) (v := .agg #[.int .i64 t.1, .slice P t.2.1.length e, .slice Q t.2.2.length g]) rfl (by kernel_rfl) (by kernel_rfl) (by kernel_rfl) (fun _ _ _ h => h) (Or.inl ⟨by kernel_rfl, fun V hSV => ?_⟩) hHeld ?_
                      · (try dsimp only at hSV); go_simp
                      try simp only [Act.put, List.setIfInBounds_toArray, List.set_cons_zero, List.set_cons_succ]
                      refine wpAnyH_ready (rs := [8]) (by kernel_rfl) (by simp) ?_
                      refine AllReadyH.cons rfl (fun K9_ hK => ?_) AllReadyH.nil
                      go_simp
                      refine (Hid.out HL).mono ?_; rintro e0 w9 ⟨rfl, k9⟩
                      dsimp only
                      have K9 : Hid (Kp wr w9) := (Kp.drewN_ wr 1).tr k9
                      have hq := HQ6.out _ K9.out
                      clear k9
                      refine hK.out _ _ ?_ (fun hHeld => ?_)
                      · exact hq
                      clear hK
                      try simp only [Act.put, List.setIfInBounds_toArray, List.set_cons_zero, List.set_cons_succ]
                      refine wpAnyH_ready (rs := [9]) (by kernel_rfl) (by simp) ?_
                      refine AllReadyH.cons rfl (fun K9_ hK => ?_) AllReadyH.nil
                      go_simp
                      refine hK.out _ _ ?_ (fun hHeld => ?_)
                      · exact hq
                      clear hK
                      try simp only [Act.put, List.setIfInBounds_toArray, List.set_cons_zero, List.set_cons_succ]
                      refine wpAnyH_done (by kernel_rfl) ?_ _
                      go_wp2
                      go_meet
                      exact ⟨rfl, K9.out⟩
                    case rest =>
                      obtain ⟨rfl, hK6⟩ := hcut
                      clear HQ6 HL s0
                      cases q with
                      | true =>
                        have HT4 : Hid (nodeB l i t = ((l.take i).drop (m + 1)).all (fun m => likeB m t)) := by show _ = _; rw [hT3.out, HD.out, Bool.true_and]
                        go_wp2
                        go_roundw
                        case rel => exact ⟨m + 1, by go_num, (by show m + 1 ≤ i; omega), HT4.out, hK5.out.tr hK6.out⟩
                        case measure => simp [intOf]; omega
                      | false =>
                        have HR2 := Lib.hid (ck_bad hT.out HTT.out (by rw [hT3.out, HD.out, Bool.false_and]))
                        go_wp2
                        go_ret
                        exact ⟨by rw [HR2.out]; rfl, (KO.out.tr hK5.out).tr hK6.out⟩
                  · have hq2' : ¬ (m : Int) < (i : Int) := by omega
                    have HS := Lib.hid (ck_step hT.out HTT.out (by rw [hT3.out, List.drop_eq_nil_of_le (by rw [List.length_take]; omega)]; rfl))
                    go_wp2
                    go_roundw
                    case rel => exact ⟨i + 1, by go_num, (by show i + 1 ≤ l.length; omega), HS.out, KO.out.tr hK5.out⟩
                    case measure => simp [intOf]; omega
      · have hj' : ¬ (i : Int) < (l.length : Int) := by omega
        have HT2 := Lib.hid (ck_end hT.out (by omega))
        go_wp2
        go_ret
        exact ⟨by rw [HT2.out]; rfl, hK.out⟩
  · have hv : r = false := by
      rw [hr]
      cases e : checkB l with
      | false => rfl
      | true => exact absurd ⟨(check_iff.1 e).1, (check_iff.1 e).2.1⟩ hb
    subst hv
    clear hr
    by_cases h1 : (l.length : Int) < 1
    · go_enter Try.func18, Try.ntmps18
      go_wp2
      go_ret
      exact ⟨rfl, Kp.refl _⟩
    · have h2 : (24 : Int) < (l.length : Int) := by omega
      go_enter Try.func18, Try.ntmps18
      go_wp2
      go_ret
      exact ⟨rfl, Kp.refl _⟩
end Go.Proofs.Ytdcgmnkoomhocaa

/- The document's layer 10: Uses, Live: over a contract of Check. -/
namespace Go.Proofs.Ytdcgmnkoomhocaa
open Go.RowKit Go.Proofs.ShM Go.Proofs.GrM
set_option linter.unusedVariables false
set_option linter.unusedSimpArgs false
set_option maxHeartbeats 4000000

theorem arity_le (op : Int) : arityV op ≤ 2 := by unfold arityV; repeat' split <;> omega
theorem uses_len (x : Int) : ∀ {l : List Nd} {k : Nat}, (∀ n ∈ l, n.2.1.length ≤ 2) → (usesF k l x).length ≤ 2 * l.length
  | [], k, _ => by simp [usesF]
  | n :: l, k, h => by
    have h1 := h n (by simp)
    have h2 := uses_len x (l := l) (k := k + 1) fun m hm => h m (by simp [hm])
    rw [usesF, List.length_append, List.length_map, List.length_cons]
    have h3 := List.length_filter_le (fun y => y == x) n.2.1
    omega
theorem check_args {l : List Nd} (h : checkB l = true) : ∀ n ∈ l, n.2.1.length ≤ 2 := fun n hn => by
  obtain ⟨i, hi⟩ := List.mem_iff_getElem?.1 hn
  have h1 := arity_of h hi
  have h2 := arity_le n.1
  omega
/-- Numbers of the call's own. -/
def RetOg (xs : List Int) (w : World) (e : Ending) (w' : World) : Prop := ∃ A c, e = .returned (.slice A xs.length c) ∧ Own w.heap.size w' (.slice A xs.length c) xs ∧ Kp w w'
/-- So far these use it: the rest of a node's Args, and of all. -/
def Ui (total done : List Int) (i : Nat) (args : List Int) (l : List Nd) (x : Int) : Prop := total = done ++ ((args.filter (· == x)).map (fun _ => (i : Int)) ++ usesF (i + 1) l x)
theorem ui_start {total done : List Int} {i : Nat} {l : List Nd} {n : Nd} {x : Int} (h : total = done ++ usesF i (l.drop i) x) (hn : l[i]? = some n) : Ui total done i n.2.1 (l.drop (i + 1)) x := by
  obtain ⟨hb, e⟩ := List.getElem?_eq_some_iff.1 hn
  rw [List.drop_eq_getElem_cons hb, e, usesF] at h
  exact h
theorem ui_yes {total done : List Int} {i k : Nat} {args : List Int} {l : List Nd} {x : Int} (h : Ui total done i (args.drop k) l x) (hx : args[k]? = some x) : Ui total (done ++ [(i : Int)]) i (args.drop (k + 1)) l x := by
  obtain ⟨hb, e⟩ := List.getElem?_eq_some_iff.1 hx
  unfold Ui at h ⊢
  rw [List.drop_eq_getElem_cons hb, e, List.filter_cons_of_pos (by simp), List.map_cons] at h
  rw [h]
  simp
theorem ui_no {total done : List Int} {i k : Nat} {args : List Int} {l : List Nd} {x y : Int} (h : Ui total done i (args.drop k) l x) (hx : args[k]? = some y) (hne : y ≠ x) : Ui total done i (args.drop (k + 1)) l x := by
  obtain ⟨hb, e⟩ := List.getElem?_eq_some_iff.1 hx
  unfold Ui at h ⊢
  rw [List.drop_eq_getElem_cons hb, e, List.filter_cons_of_neg (by simpa using hne)] at h
  exact h
theorem ui_end {total done : List Int} {i k : Nat} {args : List Int} {l : List Nd} {x : Int} (h : Ui total done i (args.drop k) (l.drop (i + 1)) x) (hk : args.length ≤ k) : total = done ++ usesF (i + 1) (l.drop (i + 1)) x := by
  unfold Ui at h
  rw [List.drop_eq_nil_of_le hk] at h
  exact h
theorem ui_len {total done : List Int} {i : Nat} {args : List Int} {l : List Nd} {x : Int} (h : Ui total done i args l x) : done.length ≤ total.length := by
  unfold Ui at h
  rw [h, List.length_append]; omega
/-- What is reckoned of has few numbers. -/
theorem live_len {l : List Nd} (h : ∀ j : Nat, (l.getD j nd0).2.1.length ≤ 2) : ∀ {k : Nat} {acc : List Int}, (liveS l k acc).length ≤ acc.length + 2 * k := by
  intro k
  induction k with
  | zero => intro acc; exact Nat.le_refl _
  | succ k ih =>
    intro acc
    rw [liveS]
    refine Nat.le_trans ih ?_
    split
    · rw [List.length_append]; have := h k; omega
    · omega
theorem getD_args {l : List Nd} (h : checkB l = true) (j : Nat) : (l.getD j nd0).2.1.length ≤ 2 := by
  by_cases hj : j < l.length
  · have hn : l[j]? = some l[j] := List.getElem?_eq_getElem hj
    rw [List.getD_eq_getElem?_getD, hn]
    exact check_args h _ (List.getElem_mem hj)
  · rw [List.getD_eq_getElem?_getD, List.getElem?_eq_none (by omega)]
    simp [nd0]
theorem getD_at {l : List Nd} {j : Nat} {t : Nd} (h : l[j]? = some t) : l.getD j nd0 = t := by rw [List.getD_eq_getElem?_getD, h]; rfl
theorem liveS_le (l : List Nd) : ∀ {k : Nat} {acc : List Int}, acc.length ≤ (liveS l k acc).length := by
  intro k
  induction k with
  | zero => intro acc; exact Nat.le_refl _
  | succ k ih =>
    intro acc
    rw [liveS]
    refine Nat.le_trans ?_ ih
    split
    · rw [List.length_append]; omega
    · exact Nat.le_refl _
/-- Of all that are live, those up to the k-th stand there. -/
def Lu (total done : List Int) (n k : Nat) (acc : List Int) : Prop := done = upTo k acc ∧ total = upTo n acc ∧ k ≤ n
theorem upTo_len (acc : List Int) : ∀ n, (upTo n acc).length ≤ n := by
  intro n
  unfold upTo
  refine Nat.le_trans (List.length_filter_le _ _) ?_
  simp
theorem Own.weakG {B C : Nat} {w : World} {v : Value} {xs : List Int} (h : Own C w v xs) (hB : B ≤ C) : Own B w v xs := by
  refine ⟨h.1, ?_⟩
  rcases h.2 with h0 | ⟨g, cap, cur, e, hb, r⟩
  · exact .inl h0
  · exact .inr ⟨g, cap, cur, e, by omega, r⟩
end Go.Proofs.Ytdcgmnkoomhocaa

/- The document's layer 10: Params: over a contract of Check. -/
namespace Go.Proofs.Ytdcgmnkoomhocaa
open Go.RowKit Go.Proofs.ShM Go.Proofs.GrM
set_option linter.unusedVariables false
set_option linter.unusedSimpArgs false
set_option maxHeartbeats 4000000

def pup (l : List Nd) (k : Nat) : List Int := ((List.range k).map fun p : Nat => (p : Int)).filter (namesB l)
theorem pup_succ (l : List Nd) (k : Nat) : pup l (k + 1) = pup l k ++ (if namesB l (k : Int) = true then [(k : Int)] else []) := by
  unfold pup
  rw [List.range_succ, List.map_append, List.filter_append]
  congr 1
  simp [List.filter_cons]
theorem pup_len (l : List Nd) (k : Nat) : (pup l k).length ≤ k := by
  unfold pup
  refine Nat.le_trans (List.length_filter_le _ _) ?_
  simp
theorem names_take {l : List Nd} {i : Nat} {t : Nd} (p : Int) (h : l[i]? = some t) : namesB (l.take (i + 1)) p = (namesB (l.take i) p || decide (t.1 = 2 ∧ t.2.2.getD 0 0 = p)) := by
  rw [List.take_add_one, h]
  unfold namesB
  rw [List.any_append]
  simp
theorem cell_first {w : World} {Q : Option Addr} {l : List Int} (h : Rd w Q l) (hl : l ≠ []) : ∃ ad, Q = some ad ∧ ad.block < w.heap.size ∧ w.cell? ad = some (.int .i64 (l.getD 0 0)) ∧ 0 < l.length := by
  cases l with
  | nil => exact absurd rfl hl
  | cons x s =>
    obtain ⟨ad, y, e, hb, hx, hc⟩ := h.at_ (k := 0) (by simp)
    have e1 : ad.add 0 = ad := by unfold Addr.add; simp
    rw [e1] at hc
    have : x = y := by simpa using hx
    subst this
    exact ⟨ad, e, hb, hc, by simp⟩
end Go.Proofs.Ytdcgmnkoomhocaa

/- Layer 10's calls: what each answers, as one statement each. -/
namespace Go.Proofs.Ytdcgmnkoomhocaa
open Go.RowKit Go.Proofs.ShM Go.Proofs.GrM

/-- Numbers with room that lie where no later keeping touches them (the call's own, or the list's). -/
def RetSh (s : List Int) (is : Bool) (k : Nat) (W : World) (e : Ending) (W' : World) : Prop :=
  ∃ A c, e = .returned (.tuple #[.slice A k c, .bool is]) ∧ Hid (Rd W' A s) ∧ Hid (s.length ≤ c ∧ c ≤ 9223372036854775807) ∧ Kp W W'
/-- Numbers with room. -/
def RetG (s : List Int) (k : Nat) (W : World) (e : Ending) (W' : World) : Prop :=
  ∃ A c, e = .returned (.slice A k c) ∧ Hid (Rd W' A s) ∧ Hid (s.length ≤ c ∧ c ≤ 9223372036854775807) ∧ Kp W W'
/-- All within the range of int. -/
def W64 (l : List Int) : Prop := ∀ n ∈ l, -9223372036854775808 ≤ n ∧ n ≤ 9223372036854775807
def Nd64 (t : Nd) : Prop := W64 [t.1] ∧ W64 t.2.1 ∧ W64 t.2.2
/-- Few nodes, of few Args and Nums, all within the range of int. -/
def SmallG (l : List Nd) : Prop := l.length ≤ 100 ∧ ∀ t ∈ l, t.2.1.length ≤ 100 ∧ t.2.2.length ≤ 100 ∧ Nd64 t
end Go.Proofs.Ytdcgmnkoomhocaa

/- Layer 10: the law's first calls; literal rows of nodes. -/
namespace Go.Proofs.Ytdcgmnkoomhocaa
open Go.RowKit Go.Proofs.ShM Go.Proofs.GrM
set_option linter.unusedVariables false

theorem gal {w w' : World} (h : Kp w w') (o : Obj) : Kp w (w'.alloc o) := h.tr (Kp.alloc_ _ _)
theorem RdN.lit {w : World} {X : Nat → Prop} {vs : List V3} {ts : List Nd} (h : AllN w X vs ts) (hl : ts.length ≤ 1000) (ty : TypeId) : RdN (w.alloc (.cells (flatN vs).toArray ty)) X (some ⟨w.heap.size, 0, none⟩) ts :=
  ⟨by omega, vs, h.mono (Kp.alloc_ _ _) (fun _ _ x => x), fun hp => ⟨_, rfl, by simp, fun j u hu => by
    rw [Go.WideShapes.add_plain, Nat.zero_add, World.cell?_alloc_at _ ty _ j rfl]; simpa using hu⟩⟩
theorem AllN.cons {w : World} {X : Nat → Prop} {p : V3} {t : Nd} {vs : List V3} {ts : List Nd} (h : Vn w X p t) (g : AllN w X vs ts) : AllN w X (p :: vs) (t :: ts) := by
  refine ⟨by rw [List.length_cons, List.length_cons, g.len], fun j q u h1 h2 => ?_⟩
  cases j with
  | zero =>
    have e1 : p = q := by simpa using h1
    have e2 : t = u := by simpa using h2
    subst e1 e2; exact h
  | succ j => exact g.at_ j q u (by simpa using h1) (by simpa using h2)
/-- A node of numbers that are there. -/
theorem vn_mk {w : World} {P Q : Option Addr} {op : Int} {a b : List Int} {c d : Nat} (h : Rd w P a) (g : Rd w Q b) (h1 : a.length ≤ c) (h2 : c ≤ 9223372036854775807) (h3 : b.length ≤ d) (h4 : d ≤ 9223372036854775807) :
    Vn w (fun _ => True) (.int .i64 op, .slice P a.length c, .slice Q b.length d) (op, a, b) := ⟨P, c, Q, d, rfl, h1, h2, h3, h4, ⟨h, g, fun _ _ _ => trivial, fun _ _ _ => trivial⟩⟩
theorem same_g {A B : Option Addr} {c d n m : Nat} (a b : List Int) {w : World} (h : Rd w A a) (g : Rd w B b) (hn : n = a.length) (hm : m = b.length) {r : Bool} (hr : (a == b) = r) :
    Calls Try.prog 24 #[.slice A n c, .slice B m d] w fun e w' => e = .returned (.bool r) ∧ Kp w w' :=
  (same_n a b h g hn hm hr).mono fun _ _ ⟨h1, k, h2⟩ => ⟨h1, by rw [h2]; exact Kp.drewN_ _ _⟩
def LA : List Nd := [(2, [], [3, 2]), (1, [], [2]), (3, [], [5]), (12, [0, 0], [])]
end Go.Proofs.Ytdcgmnkoomhocaa

/- Layer 10: which graphs are few: all that the laws hand to the calls. -/
namespace Go.Proofs.Ytdcgmnkoomhocaa
open Go.RowKit Go.Proofs.ShM Go.Proofs.GrM
set_option linter.unusedVariables false

theorem few_iff {l : List Nd} : fewN l = true ↔ (∀ t ∈ l, t.2.1.length ≤ 30 ∧ t.2.2.length ≤ 30) ∧ l.length ≤ 30 := by
  unfold fewN
  rw [Bool.and_eq_true, List.all_eq_true, decide_eq_true_iff]
  constructor
  · rintro ⟨h1, h2⟩; exact ⟨fun t ht => of_decide_eq_true (h1 t ht), h2⟩
  · rintro ⟨h1, h2⟩; exact ⟨fun t ht => decide_eq_true (h1 t ht), h2⟩
theorem small_few {l : List Nd} (h : fewN l = true) (N : ∀ t ∈ l, Nd64 t) : SmallG l := by
  obtain ⟨h1, h2⟩ := few_iff.1 h
  exact ⟨by omega, fun t ht => ⟨by have := (h1 t ht).1; omega, by have := (h1 t ht).2; omega, N t ht⟩⟩
theorem small_take {l : List Nd} (h : SmallG l) (k : Nat) : SmallG (l.take k) := ⟨by rw [List.length_take]; have := h.1; omega, fun t ht => h.2 t (List.mem_of_mem_take ht)⟩
theorem small_snoc {l : List Nd} {t : Nd} (h : SmallG l) (hl : l.length ≤ 90) (h1 : t.2.1.length ≤ 100) (h2 : t.2.2.length ≤ 100) (h3 : Nd64 t) : SmallG (l ++ [t]) := by
  refine ⟨by rw [List.length_append, List.length_singleton]; omega, fun u hu => ?_⟩
  rcases List.mem_append.1 hu with hu | hu
  · exact h.2 u hu
  · rw [List.mem_singleton] at hu
    subst hu
    exact ⟨h1, h2, h3⟩
theorem w64_nil : W64 [] := fun _ h => by cases h
theorem w64_one {x : Int} (h : -9223372036854775808 ≤ x ∧ x ≤ 9223372036854775807) : W64 [x] := fun y hy => by
  have : y = x := by simpa using hy
  rw [this]; exact h
theorem live_few (l : List Nd) : (liveV l).length ≤ l.length := by
  unfold liveV
  split
  · unfold upTo
    refine Nat.le_trans (List.length_filter_le _ _) ?_
    rw [List.length_map, List.length_range]; exact Nat.le_refl _
  · exact Nat.zero_le _
theorem params_few (l : List Nd) : (paramsV l).length ≤ 8 := by
  unfold paramsV
  split
  · refine Nat.le_trans (List.length_filter_le _ _) ?_
    rw [List.length_map, List.length_range]; exact Nat.le_refl _
  · exact Nat.zero_le _
theorem n_of_own {B : Nat} {w : World} {A : Option Addr} {n c : Nat} {ts : List Nd} (h : OwnN B w (.slice A n c) ts) : RdG w A ts ∧ ts.length ≤ c ∧ c ≤ 9223372036854775807 := by
  obtain ⟨A', c', e, h1, h2, h3⟩ := h.form
  injection e with e1 e2 e3
  subst e1 e3
  exact ⟨h1, h2, h3⟩
theorem i_of_own {B : Nat} {w : World} {A : Option Addr} {n c : Nat} {xs : List Int} (h : Own B w (.slice A n c) xs) : Rd w A xs := by
  obtain ⟨A', c', e, hr⟩ := h.form
  injection e with e1 e2 e3
  rw [e1]; exact hr
end Go.Proofs.Ytdcgmnkoomhocaa

/- From a law's walk to its row: an argument []api.Node opened, all arguments read as they did. -/
namespace Go.Proofs.Ytdcgmnkoomhocaa
open Go.ChangeShapes Go.WideShapes Go.ChangeAt Go.RowKit Go.Proofs.ShM Go.Proofs.GrM

theorem laid_out : laidOutB Try.prog = true := by kernel_rfl
theorem int_cells : Try.prog.cellsOf 3 = 1 := by kernel_rfl
theorem ints_cells : Try.prog.cellsOf 34 = 1 := by kernel_rfl
theorem nd_cells10 : Try.prog.cellsOf 36 = 3 := by kernel_rfl

section
variable {H : Type} {enc : TypeId × Value → H}
theorem lt_of_cell {w : World} {a : Addr} {v : Value} (h : w.cell? a = some v) : a.block < w.heap.size := by
  rcases Nat.lt_or_ge a.block w.heap.size with hl | hl
  · exact hl
  · simp [World.cell?, Array.getElem?_eq_none hl] at h
theorem w64_of {n : Int} (h : (Lit.int .i64 n).wf = true) : -9223372036854775808 ≤ n ∧ n ≤ 9223372036854775807 := by
  simp [Lit.wf, IntKind.min, IntKind.max, IntKind.signed, IntKind.bits] at h
  omega
/-- A field []int is there, as a list of numbers with room. -/
theorem rd_cell {W : World} {v : Value} {n : Nat} {y : DataW H × List MemPlace} (h : DataW.trod enc Try.prog W 0 (fun _ => true) true n 34 [v] = some y) :
    ∃ A c, ∃ xs : List Int, v = .slice A xs.length c ∧ Rd W A xs ∧ xs.length ≤ c ∧ c ≤ 9223372036854775807 ∧ W64 xs := by
  rcases open_ints Try.underlying34 Try.underlying3 int_cells h with ⟨hcs, _⟩ | ⟨a', len, cap, zs, hcs, _, hl, hm, hz, _, hcell, hwf⟩
  · injection hcs with hcs _
    exact ⟨none, 0, [], hcs, Rd.nil _ _, by simp, by omega, fun _ h => by cases h⟩
  · injection hcs with hcs _
    simp only [if_true] at hz
    have ln : (zs.take len).length = len := by simp; omega
    have hm' : cap ≤ 9223372036854775807 := by unfold maxLen at hm; omega
    refine ⟨some a', cap, zs.take len, by rw [ln]; exact hcs, ⟨by omega, fun hp => ⟨a', rfl, ?_, fun j u hj => ?_⟩⟩, by omega, hm', fun x hx => w64_of (hwf x (List.mem_of_mem_take hx))⟩
    · have := lt_of_cell (hcell 0 (by omega))
      rwa [block_of_add] at this
    · have hj' : j < len := by have := (List.getElem?_eq_some_iff.1 hj).1; omega
      rw [hcell j (by omega)]
      rw [List.getElem?_take, if_pos hj'] at hj
      simp [List.getD, hj]
/-- A node's three cells are there, as a node. -/
theorem nd_of {W : World} {c0 c1 c2 : Value} {n : Nat} {y : DataW H × List MemPlace} (h : DataW.trod enc Try.prog W 0 (fun _ => true) true n 36 [c0, c1, c2] = some y) :
    ∃ t : Nd, Vn W (fun _ => True) (c0, c1, c2) t ∧ Nd64 t := by
  obtain ⟨y0, y1, y2, m, _, _, h0, h1, h2⟩ := Go.Deep.trod_struct3 Try.underlying36 h
  rw [int_cells] at h0
  rw [ints_cells] at h1 h2
  obtain ⟨op, e0, _, i0⟩ := DataW.trod_int (k := .i64) Try.underlying3 h0
  obtain ⟨A, c, a, e1, r1, l1, m1, i1⟩ := rd_cell (v := c1) h1
  obtain ⟨B, d, b, e2, r2, l2, m2, i2⟩ := rd_cell (v := c2) h2
  have e0' : c0 = .int .i64 op := by simpa using e0
  refine ⟨(op, a, b), ⟨A, c, B, d, by rw [e0', e1, e2], l1, m1, l2, m2, ⟨r1, r2, fun _ _ _ => trivial, fun _ _ _ => trivial⟩⟩, ?_, i1, i2⟩
  intro x hx
  have : x = op := by simpa using hx
  rw [this]; exact w64_of i0
/-- An argument []api.Node is there, as a list of nodes, with room. -/
theorem rd_ns {W : World} {a : Option Addr} {n c : Nat} {d : DataW H} {p : List MemPlace} (h : DataW.Trod enc Try.prog W 0 (fun _ => true) true 22 (.slice a n c) d p) :
    ∃ ts : List Nd, n = ts.length ∧ RdG W a ts ∧ (∀ t ∈ ts, Nd64 t) ∧ ts.length ≤ c ∧ c ≤ 9223372036854775807 := by
  obtain ⟨fuel, hf⟩ := h
  rcases DataW.trod_slice Try.underlying22 hf with ⟨hcs, _⟩ | ⟨a', len, cap, elems, rest, m, _, hcs, _, _, hl, hm, hlen, hel, _, _⟩
  · simp [Value.cells] at hcs
    obtain ⟨rfl, rfl, rfl⟩ := hcs
    exact ⟨[], rfl, RdN.nil_ _ _ _, (fun _ h => by cases h), by simp, by omega⟩
  · simp [Value.cells] at hcs
    obtain ⟨rfl, rfl, rfl⟩ := hcs
    have hm' : c ≤ 9223372036854775807 := by unfold maxLen at hm; omega
    rw [nd_cells10] at hel
    have each : ∀ i : Nat, i < n → ∃ (q : V3) (t : Nd), W.cell? (a'.add (i * 3)) = some q.1 ∧ W.cell? (a'.add (i * 3 + 1)) = some q.2.1 ∧ W.cell? (a'.add (i * 3 + 2)) = some q.2.2 ∧ Vn W (fun _ => True) q t ∧ Nd64 t := by
      intro i hi
      have h1 := hel i hi
      rw [List.getElem?_eq_getElem (by omega), Option.bind_eq_some_iff] at h1
      obtain ⟨cs, hc, ht⟩ := h1
      obtain ⟨_, hl2, hcc⟩ := World.cells?_some hc
      match cs, hl2 with
      | [c0, c1, c2], _ =>
        obtain ⟨t, hv, g1⟩ := nd_of ht
        refine ⟨(c0, c1, c2), t, ?_, ?_, ?_, hv, g1⟩
        · have := hcc 0 (by omega)
          rw [Addr.add_add] at this
          simpa using this
        · have := hcc 1 (by omega)
          rw [Addr.add_add] at this
          simpa using this
        · have := hcc 2 (by omega)
          rw [Addr.add_add] at this
          simpa using this
    have hQ : ∃ f : Nat → V3 × Nd, ∀ i, i < n → W.cell? (a'.add (i * 3)) = some (f i).1.1 ∧ W.cell? (a'.add (i * 3 + 1)) = some (f i).1.2.1 ∧ W.cell? (a'.add (i * 3 + 2)) = some (f i).1.2.2 ∧ Vn W (fun _ => True) (f i).1 (f i).2 ∧ Nd64 (f i).2 := by
      refine ⟨fun i => if hi : i < n then ((each i hi).choose, (each i hi).choose_spec.choose) else ((.nilIface, .nilIface, .nilIface), (0, [], [])), fun i hi => ?_⟩
      simp only [dif_pos hi]
      exact (each i hi).choose_spec.choose_spec
    obtain ⟨f, hf⟩ := hQ
    have lt : ((List.range n).map fun i => (f i).2).length = n := by simp
    refine ⟨(List.range n).map fun i => (f i).2, lt.symm, ⟨by omega, (List.range n).map fun i => (f i).1, ⟨by simp, fun j p t h1 h2 => ?_⟩, fun hp => ⟨a', rfl, ?_, fun j u hu => ?_⟩⟩, fun t ht => ?_, by omega, hm'⟩
    · rw [List.getElem?_map, Option.map_eq_some_iff] at h1 h2
      obtain ⟨i, h3, rfl⟩ := h1
      obtain ⟨i', h4, rfl⟩ := h2
      obtain ⟨h5, h6⟩ := List.getElem?_eq_some_iff.1 h3
      obtain ⟨h7, h8⟩ := List.getElem?_eq_some_iff.1 h4
      simp at h6 h8 h5
      subst h6 h8
      exact (hf j h5).2.2.2.1
    · have := lt_of_cell (hf 0 (by omega)).1
      rwa [block_of_add] at this
    · have hfl : ∀ j, j < n → (flatN ((List.range n).map fun i => (f i).1))[j * 3]? = some (f j).1.1 ∧ (flatN ((List.range n).map fun i => (f i).1))[j * 3 + 1]? = some (f j).1.2.1 ∧ (flatN ((List.range n).map fun i => (f i).1))[j * 3 + 2]? = some (f j).1.2.2 := fun j hj => flatN_at (by simp [hj])
      have hjl : j < n * 3 := by have := (List.getElem?_eq_some_iff.1 hu).1; rw [flatN_len] at this; simpa using this
      obtain ⟨i, hi⟩ : ∃ i, j = i * 3 ∨ j = i * 3 + 1 ∨ j = i * 3 + 2 := ⟨j / 3, by omega⟩
      rcases hi with rfl | rfl | rfl
      · rw [(hfl i (by omega)).1] at hu
        rw [(hf i (by omega)).1]; exact hu
      · rw [(hfl i (by omega)).2.1] at hu
        rw [(hf i (by omega)).2.1]; exact hu
      · rw [(hfl i (by omega)).2.2] at hu
        rw [(hf i (by omega)).2.2.1]; exact hu
    · rw [List.mem_map] at ht
      obtain ⟨i, hi, rfl⟩ := ht
      exact (hf i (by simpa using hi)).2.2.2.2

/-- All arguments read as they did, through the same places. -/
theorem all_stays {W W' : World} (hb : Below W.heap.size W W') : ∀ (ts : List TypeId) (vs : List Value) (ds : List (DataW H)) (ps : List MemPlace), (ts.all fun t => Try.prog.readableRec t && decide (t < Try.prog.types.size)) = true →
    DataW.TrodAll enc Try.prog W 0 (fun _ => true) true ts vs ds ps → (∀ x ∈ ps, x.block < W.heap.size) → DataW.TrodAll enc Try.prog W' 0 (fun b => decide (b < W.heap.size)) true ts vs ds ps := by
  intro ts
  induction ts with
  | nil =>
    intro vs ds ps _ h _
    obtain ⟨rfl, rfl, rfl⟩ := trodAll_nil h
    exact trodAll_mk0
  | cons t ts ih =>
    intro vs ds ps hr h hlt
    obtain ⟨v, vs', d, ds', p, q, rfl, rfl, rfl, h1, h2⟩ := trodAll_cons h
    simp only [List.all_cons, Bool.and_eq_true, decide_eq_true_eq] at hr
    exact trodAll_cons_mk (Below.trod laid_out hr.1.1 hr.1.2 h1 hb fun x hx => hlt x (by simp [hx])) (ih _ _ _ hr.2 h2 fun x hx => hlt x (by simp [hx]))
end
end Go.Proofs.Ytdcgmnkoomhocaa
