/- Plain facts of layer 13's laws: parameters that are not named; a graph behind itself; the other side of the other side. -/
import Derived.Test.YtdbncanedokinaaGreatEvM
set_option maxRecDepth 100000
set_option linter.unusedSimpArgs false
set_option linter.unusedVariables false
namespace Go.Proofs.EvM
open Go.Proofs.ShM Go.Proofs.FixM Go.Proofs.GrM Go.Proofs.InM Go.Proofs.ImM

/-! ### Names -/
def changeT (names : List Int) (other : T) (ps : List T) : List T := (List.range ps.length).map fun i : Nat => if names.contains (i : Int) = true then ps.getD i eT else other
theorem change_len (names : List Int) (other : T) (ps : List T) : (changeT names other ps).length = ps.length := by simp [changeT]
theorem change_at {names : List Int} {other : T} {ps : List T} {i : Nat} (h : i < ps.length) : (changeT names other ps)[i]? = some (if names.contains (i : Int) = true then ps.getD i eT else other) := by
  unfold changeT
  rw [List.getElem?_map, List.getElem?_range h]; rfl
theorem par_change {names : List Int} {other : T} {ps : List T} {p : Int} (h : p ∈ names) : parT (changeT names other ps) p = parT ps p := by
  unfold parT
  by_cases h0 : 0 ≤ p
  · rw [if_pos h0, if_pos h0, List.getD_eq_getElem?_getD]
    by_cases hl : p.toNat < ps.length
    · rw [change_at hl, if_pos (by simpa [Int.max_eq_left h0] using h)]
      rfl
    · rw [List.getElem?_eq_none (by rw [change_len]; omega), List.getD_eq_getElem?_getD, List.getElem?_eq_none (by omega)]
  · rw [if_neg h0, if_neg h0]
theorem node_congr {op : Int} {nums : List Int} {ts : List T} {inp inp' : T} {ps ps' : List T} (h1 : op = 1 → inp = inp') (h2 : op = 2 → parT ps (nums.getD 0 0) = parT ps' (nums.getD 0 0)) : nodeE op nums ts inp ps = nodeE op nums ts inp' ps' := by
  have hk : ∀ a b s, kindE op nums a b s inp ps = kindE op nums a b s inp' ps' := fun a b s => by
    unfold kindE
    by_cases e1 : op = 1
    · rw [if_pos e1, if_pos e1, h1 e1]
    · rw [if_neg e1, if_neg e1]
      by_cases e2 : op = 2
      · rw [if_pos e2, if_pos e2, h2 e2]
      · rw [if_neg e2, if_neg e2]
  unfold nodeE
  rw [hk]
theorem ev_congr {inp inp' : T} {ps ps' : List T} : ∀ {l : List Nd} {acc : List T}, (∀ n ∈ l, n.1 = 1 → inp = inp') → (∀ n ∈ l, n.1 = 2 → parT ps (n.2.2.getD 0 0) = parT ps' (n.2.2.getD 0 0)) → evF inp ps l acc = evF inp' ps' l acc
  | [], acc, _, _ => rfl
  | n :: l, acc, h1, h2 => by
    rw [evF, evF, node_congr (h1 n List.mem_cons_self) (h2 n List.mem_cons_self)]
    rw [ev_congr (fun m hm => h1 m (List.mem_cons_of_mem _ hm)) (fun m hm => h2 m (List.mem_cons_of_mem _ hm))]
theorem names_all {l : List Nd} (hc : checkB l = true) (inp other : T) (ps : List T) : allE l inp ps = allE l (if (inputsV l).2 = true then inp else other) (changeT (paramsV l) other ps) := by
  unfold allE
  rw [ev_congr (inp' := if (inputsV l).2 = true then inp else other) (ps' := changeT (paramsV l) other ps)]
  · intro n hn h1
    obtain ⟨i, hi⟩ := List.mem_iff_getElem?.1 hn
    rw [input_of hc hi h1, if_pos rfl]
  · intro n hn h2
    obtain ⟨i, hi⟩ := List.mem_iff_getElem?.1 hn
    exact (par_change (par_of hc hi h2).2).symm

/-! ### Again -/
theorem getD_behind {α : Type} {d : α} (base acc : List α) {a : Int} (h : 0 ≤ a) : (base ++ acc).getD (a + (base.length : Int)).toNat d = acc.getD a.toNat d := by
  rw [List.getD_eq_getElem?_getD, List.getD_eq_getElem?_getD, List.getElem?_append_right (by omega), show (a + (base.length : Int)).toNat - base.length = a.toNat by omega]
theorem argsOf_shift (base acc : List (List Int)) {l : List Int} (h : ∀ a ∈ l, 0 ≤ a) : argsOf (base ++ acc) (l.map (· + (base.length : Int))) = argsOf acc l := by
  unfold argsOf
  rw [List.map_map]
  exact List.map_congr_left fun a ha => getD_behind base acc (h a ha)
theorem argsT_shift (base acc : List T) {l : List Int} (h : ∀ a ∈ l, 0 ≤ a) : argsT (base ++ acc) (l.map (· + (base.length : Int))) = argsT acc l := by
  unfold argsT
  rw [List.map_map]
  exact List.map_congr_left fun a ha => getD_behind base acc (h a ha)
theorem sh_shift : ∀ (m : List Nd) (base acc : List (List Int)), (∀ n ∈ m, ∀ a ∈ n.2.1, 0 ≤ a) → (shF m acc).2.2 = 0 → shF (m.map (shiftN base.length)) (base ++ acc) = (base ++ (shF m acc).1, -1, 0)
  | [], base, acc, _, _ => rfl
  | n :: m, base, acc, h, g => by
    rw [List.map_cons, shF, shF]
    rw [shF] at g
    show (if (nodeV n.1 n.2.2 (argsOf (base ++ acc) (n.2.1.map (· + (base.length : Int))))).2 = 0 then _ else _) = _
    rw [argsOf_shift base acc (h n List.mem_cons_self)]
    by_cases e : (nodeV n.1 n.2.2 (argsOf acc n.2.1)).2 = 0
    · rw [if_pos e] at g
      rw [if_pos e, if_pos e, ← sh_shift m base _ (fun k hk => h k (List.mem_cons_of_mem _ hk)) g, List.append_assoc]
      have e3 : argsOf (base ++ acc) (shiftN base.length n).2.1 = argsOf acc n.2.1 := argsOf_shift base acc (h n List.mem_cons_self)
      show shF _ (base ++ (acc ++ [(nodeV n.1 n.2.2 (argsOf (base ++ acc) (shiftN base.length n).2.1)).1])) = _
      rw [e3]
    · rw [if_neg e] at g
      exact absurd g e
theorem ev_shift (inp : T) (ps : List T) : ∀ (m : List Nd) (base acc : List T), (∀ n ∈ m, ∀ a ∈ n.2.1, 0 ≤ a) → (evF inp ps m acc).2.2 = 0 → evF inp ps (m.map (shiftN base.length)) (base ++ acc) = (base ++ (evF inp ps m acc).1, -1, 0)
  | [], base, acc, _, _ => rfl
  | n :: m, base, acc, h, g => by
    rw [List.map_cons, evF, evF]
    rw [evF] at g
    have e3 : argsT (base ++ acc) (shiftN base.length n).2.1 = argsT acc n.2.1 := argsT_shift base acc (h n List.mem_cons_self)
    rw [e3]
    show (if (nodeE n.1 n.2.2 (argsT acc n.2.1) inp ps).2 = 0 then _ else _) = _
    by_cases e : (nodeE n.1 n.2.2 (argsT acc n.2.1) inp ps).2 = 0
    · rw [if_pos e] at g
      rw [if_pos e, if_pos e, ← ev_shift inp ps m base _ (fun k hk => h k (List.mem_cons_of_mem _ hk)) g, List.append_assoc]
      rfl
    · rw [if_neg e] at g
      exact absurd g e
theorem args_nonneg {l : List Nd} (h : checkB l = true) : ∀ n ∈ l, ∀ a ∈ n.2.1, 0 ≤ a := fun n hn a ha => by
  obtain ⟨i, hi⟩ := List.mem_iff_getElem?.1 hn
  exact ((node_iff.1 ((check_iff.1 h).2.2 i n hi)).2.2.2.1 a ha).1
theorem all_twice {l : List Nd} (inp : T) (ps : List T) (hc : checkB l = true) (hl : l.length + l.length ≤ 24) : (∃ t, allE l inp ps = (t, -1, 0) ∧ t.length = l.length ∧ allE (twice l) inp ps = (t ++ t, -1, 0)) ∨ ∃ i e : Int, allE l inp ps = ([], i, e) ∧ e ≠ 0 ∧ allE (twice l) inp ps = ([], i, e) := by
  have hc2 : checkB (twice l) = true := by rw [check_twice hc, decide_eq_true_iff]; exact hl
  have hn := args_nonneg hc
  have hs : shapesV l = shF l [] := by unfold shapesV; rw [if_pos hc]
  have hs2 : shapesV (twice l) = shF (twice l) [] := by unfold shapesV; rw [if_pos hc2]
  have ha : shF (twice l) [] = if (shF l []).2.2 = 0 then shF (l.map (shiftN l.length)) (shF l []).1 else shF l [] := by unfold twice; exact sh_app l _ []
  have he : evF inp ps (twice l) [] = if (evF inp ps l []).2.2 = 0 then evF inp ps (l.map (shiftN l.length)) (evF inp ps l []).1 else evF inp ps l [] := by unfold twice; exact ev_app inp ps l _ []
  unfold allE
  rw [hs, hs2]
  rcases shapes_cases hc with ⟨s, e1, e2, _⟩ | ⟨i, e1, e2⟩
  · rw [hs] at e1
    have g0 : (shF l []).2.2 = 0 := by rw [e1]
    have sh2 : shF (twice l) [] = (s ++ s, -1, 0) := by
      rw [ha, if_pos g0]
      have h := sh_shift l s [] hn g0
      rw [List.append_nil, e2] at h
      rw [e1] at h ⊢
      exact h
    rw [e1, sh2, if_pos rfl, if_pos rfl]
    rcases ev_cases inp ps l [] with ⟨t, f1, f2⟩ | ⟨j, e, f1, f2, _, _⟩
    · rw [List.nil_append] at f1
      have g1 : (evF inp ps l []).2.2 = 0 := by rw [f1]
      have h := ev_shift inp ps l t [] hn g1
      rw [List.append_nil, f2] at h
      rw [f1] at h
      refine .inl ⟨t, f1, f2, ?_⟩
      rw [he, if_pos g1, f1]
      exact h
    · refine .inr ⟨j, e, f1, f2, ?_⟩
      rw [he, f1, if_neg f2]
  · rw [hs] at e1
    have g0 : ¬ (shF l []).2.2 = 0 := by rw [e1]; show ¬ ((20 : Int) = 0); decide
    rw [ha, if_neg g0, e1, if_neg (show ¬ ((20 : Int) = 0) by decide)]
    exact .inr ⟨i, 20, rfl, by decide, rfl⟩

/-! ### The other side -/
def moreN (l : List Nd) : List Nd := l ++ [(11, [(l.length : Int) - 1, (l.length : Int) - 1], []), (20, [(l.length : Int) - 1], []), (20, [(l.length : Int) + 1], [])]
theorem more_check {l : List Nd} (hc : checkB l = true) (h20 : l.length ≤ 20) : checkB (moreN l) = true := by
  obtain ⟨h1, _, _⟩ := check_iff.1 hc
  have like : ∀ (m : List Nd) (n : Nd), 2 < n.1 → ∀ k ∈ m, likeB k n = true := fun m n h k _ => like_other h
  have n1 : nodeB l l.length (11, [(l.length : Int) - 1, (l.length : Int) - 1], []) = true := node_iff.2 ⟨by show (0 : Int) ≤ arityV 11; decide, by show (2 : Int) = arityV 11; decide, by unfold numsB; simp, fun a ha => by simp at ha; omega, like _ _ (by show (2 : Int) < 11; decide)⟩
  have c1 := check_snoc (m := (11, [(l.length : Int) - 1, (l.length : Int) - 1], [])) hc
  rw [n1, Bool.and_true, decide_eq_true (by omega)] at c1
  have n2 : nodeB (l ++ [(11, [(l.length : Int) - 1, (l.length : Int) - 1], [])]) (l ++ [(11, [(l.length : Int) - 1, (l.length : Int) - 1], [])] : List Nd).length (20, [(l.length : Int) - 1], []) = true := node_iff.2 ⟨by show (0 : Int) ≤ arityV 20; decide, by show (1 : Int) = arityV 20; decide, by unfold numsB; simp, fun a ha => by simp at ha ⊢; omega, like _ _ (by show (2 : Int) < 20; decide)⟩
  have c2 := check_snoc (m := (20, [(l.length : Int) - 1], [])) c1
  rw [n2, Bool.and_true, decide_eq_true (by simp; omega)] at c2
  have n3 : nodeB ((l ++ [(11, [(l.length : Int) - 1, (l.length : Int) - 1], [])]) ++ [(20, [(l.length : Int) - 1], [])]) ((l ++ [(11, [(l.length : Int) - 1, (l.length : Int) - 1], [])]) ++ [(20, [(l.length : Int) - 1], [])] : List Nd).length (20, [(l.length : Int) + 1], []) = true := node_iff.2 ⟨by show (0 : Int) ≤ arityV 20; decide, by show (1 : Int) = arityV 20; decide, by unfold numsB; simp, fun a ha => by simp at ha ⊢; omega, like _ _ (by show (2 : Int) < 20; decide)⟩
  have c3 := check_snoc (m := (20, [(l.length : Int) + 1], [])) c2
  rw [n3, Bool.and_true, decide_eq_true (by simp; omega)] at c3
  unfold moreN
  simpa using c3
theorem more_none {l : List Nd} (hc : checkB l = false) (h1 : 1 ≤ l.length) : checkB (moreN l) = false := by
  cases e : checkB (moreN l) with
  | false => rfl
  | true =>
    have h := check_take e h1 (by unfold moreN; simp)
    rw [show (moreN l).take l.length = l by unfold moreN; simp] at h
    rw [hc] at h; cases h
theorem node_inv {op : Int} {nums : List Int} {ts : List T} {inp : T} {ps : List T} {t : T} (h : nodeE op nums ts inp ps = (t, 0)) : ts.all tokT = true ∧ kindE op nums (ts.getD 0 eT) (ts.getD 1 eT) (nodeV op nums (shT ts)).1 inp ps = (t, 0) := by
  unfold nodeE at h
  split at h
  · injection h with _ h; cases h
  · rename_i g0
    split at h
    · exact ⟨by simpa using g0, h⟩
    · rename_i g1; injection h with _ h; exact absurd h g1
theorem self_zero {x : T} {inp : T} {ps : List T} {z : T} (h : nodeE 11 [] [x, x] inp ps = (z, 0)) : z.2 = List.replicate x.2.length 0 := by
  obtain ⟨h1, h2⟩ := node_inv h
  have ht : tokV x.1 x.2 = true := by
    rw [List.all_eq_true] at h1
    exact h1 x (by simp)
  have h2 : tnE (twoV 11 x.1 x.2 x.1 x.2) = (z, 0) := h2
  obtain ⟨_, _, e3⟩ := tn_zero h2
  rw [← e3, two_self ht]
  show List.replicate (sizeV x.1).toNat 0 = _
  have := (ImM.tok_iff.1 ht).2
  congr 1
  omega
theorem neg_zero {x : T} {inp : T} {ps : List T} {z : T} (h : nodeE 20 [] [x] inp ps = (z, 0)) : z.1 = x.1 ∧ z.2.length = x.2.length ∧ ∀ i, i < x.2.length → z.2.getD i 0 = - x.2.getD i 0 := by
  obtain ⟨_, h2⟩ := node_inv h
  have h2 : tnE (oneV 20 x.1 x.2) = (z, 0) := h2
  obtain ⟨e1, e2, e3⟩ := tn_zero h2
  obtain ⟨Z, _, hz, hl, _, hi⟩ := one_zero (by decide) e1
  rw [hz] at e2 e3
  have e2 : x.1 = z.1 := e2
  have e3 : Z = z.2 := e3
  subst e3
  refine ⟨e2.symm, hl, fun i hil => ?_⟩
  have h3 := hi i hil
  have h3 : put (0 - x.2.getD i 0) = (z.2.getD i 0, 0) := h3
  have := (put_ok h3).1
  omega
theorem neg_neg {x n y : T} {inp : T} {ps : List T} (h : nodeE 20 [] [x] inp ps = (n, 0)) (g : nodeE 20 [] [n] inp ps = (y, 0)) : y = x := by
  obtain ⟨a1, a2, a3⟩ := neg_zero h
  obtain ⟨b1, b2, b3⟩ := neg_zero g
  refine Prod.ext (by rw [b1, a1]) ?_
  refine List.ext_getElem (by rw [b2, a2]) fun i h1 h2 => ?_
  have e1 := b3 i (by omega)
  have e2 := a3 i h2
  rw [e2] at e1
  rw [List.getD_eq_getElem?_getD, List.getD_eq_getElem?_getD, List.getElem?_eq_getElem h1, List.getElem?_eq_getElem h2] at e1
  have e1 : y.2[i] = - -x.2[i] := e1
  omega
theorem shapes_more {l : List Nd} {s : List (List Int)} (hc : checkB l = true) (h20 : l.length ≤ 20) (h : shapesV l = (s, -1, 0)) (hl : s.length = l.length) (ho : s.all okS = true) : (shapesV (moreN l)).2.2 = 0 := by
  have h1 := (check_iff.1 hc).1
  have hs : shapesV l = shF l [] := by unfold shapesV; rw [if_pos hc]
  have hs2 : shapesV (moreN l) = shF (moreN l) [] := by unfold shapesV; rw [if_pos (more_check hc h20)]
  rw [hs] at h
  obtain ⟨a, ha⟩ : ∃ a, a = s.getD (l.length - 1) [] := ⟨_, rfl⟩
  have hao : okS a = true := by
    have hk : s[l.length - 1]? = some s[l.length - 1] := List.getElem?_eq_getElem (by omega)
    rw [ha, List.getD_eq_getElem?_getD, hk]
    rw [List.all_eq_true] at ho
    exact ho _ (List.getElem_mem _)
  have g1 : s.getD ((l.length : Int) - 1).toNat [] = a := by rw [ha]; congr 1; omega
  have q1 : argsOf s [(l.length : Int) - 1, (l.length : Int) - 1] = [a, a] := by unfold argsOf; simp only [List.map_cons, List.map_nil, g1]
  have q2 : argsOf (s ++ [a]) [(l.length : Int) - 1] = [a] := by
    unfold argsOf
    simp only [List.map_cons, List.map_nil]
    rw [List.getD_eq_getElem?_getD, List.getElem?_append_left (by omega), ← List.getD_eq_getElem?_getD, g1]
  have q3 : argsOf (s ++ [a] ++ [a]) [(l.length : Int) + 1] = [a] := by
    unfold argsOf
    simp only [List.map_cons, List.map_nil]
    rw [List.getD_eq_getElem?_getD, List.getElem?_append_right (by simp; omega)]
    simp
    rw [show l.length - s.length = 0 by omega]
    rfl
  rw [hs2]
  unfold moreN
  rw [sh_app, h, if_pos rfl]
  have m1 : nodeV 11 [] (argsOf s [(l.length : Int) - 1, (l.length : Int) - 1]) = (a, 0) := by rw [q1, node_two (by decide), join_self hao]
  have m2 : nodeV 20 [] (argsOf (s ++ [a]) [(l.length : Int) - 1]) = (a, 0) := by rw [q2, node_neg, if_pos hao]
  have m3 : nodeV 20 [] (argsOf (s ++ [a] ++ [a]) [(l.length : Int) + 1]) = (a, 0) := by rw [q3, node_neg, if_pos hao]
  rw [sh_cons_ok (n := (11, [(l.length : Int) - 1, (l.length : Int) - 1], [])) m1, sh_cons_ok (n := (20, [(l.length : Int) - 1], [])) m2, sh_cons_ok (n := (20, [(l.length : Int) + 1], [])) m3]
  rfl
theorem all_more {l : List Nd} (inp : T) (ps : List T) (h1 : 1 ≤ l.length) (h20 : l.length ≤ 20) : (∃ i e j : Int, allE l inp ps = ([], i, e) ∧ e ≠ 0 ∧ allE (moreN l) inp ps = ([], j, e)) ∨
    ∃ t, allE l inp ps = (t, -1, 0) ∧ t.length = l.length ∧ ((∃ j f : Int, allE (moreN l) inp ps = ([], j, f) ∧ f ≠ 0) ∨ ∃ z n : T, allE (moreN l) inp ps = (t ++ [z, n, t.getD (l.length - 1) eT], -1, 0) ∧ z.2 = List.replicate (t.getD (l.length - 1) eT).2.length 0) := by
  cases hc : checkB l with
  | false =>
    have e1 : shapesV l = ([], -1, 100) := by unfold shapesV; rw [if_neg (by simp [hc])]
    have e2 : shapesV (moreN l) = ([], -1, 100) := by unfold shapesV; rw [if_neg (by simp [more_none hc h1])]
    refine .inl ⟨-1, 100, -1, ?_, by decide, ?_⟩
    · unfold allE; rw [e1, if_neg (by decide)]
    · unfold allE; rw [e2, if_neg (by decide)]
  | true =>
    have hs : shapesV l = shF l [] := by unfold shapesV; rw [if_pos hc]
    have hs2 : shapesV (moreN l) = shF (moreN l) [] := by unfold shapesV; rw [if_pos (more_check hc h20)]
    rcases shapes_cases hc with ⟨s, e1, e2, e3⟩ | ⟨i, e1, e2⟩
    · have sm := shapes_more hc h20 e1 e2 e3
      have a1 : allE l inp ps = evF inp ps l [] := by unfold allE; rw [e1, if_pos rfl]
      have a2 : allE (moreN l) inp ps = evF inp ps (moreN l) [] := by unfold allE; rw [if_pos sm]
      rw [a1, a2]
      unfold moreN
      rw [ev_app]
      rcases ev_cases inp ps l [] with ⟨t, f1, f2⟩ | ⟨j, e, f1, f2, _, _⟩
      · rw [List.nil_append] at f1
        rw [f1, if_pos rfl]
        refine .inr ⟨t, rfl, f2, ?_⟩
        obtain ⟨x, hx⟩ : ∃ x, x = t.getD (l.length - 1) eT := ⟨_, rfl⟩
        rw [← hx]
        have g1 : t.getD ((l.length : Int) - 1).toNat eT = x := by rw [hx]; congr 1; omega
        have q1 : argsT t [(l.length : Int) - 1, (l.length : Int) - 1] = [x, x] := by unfold argsT; simp only [List.map_cons, List.map_nil, g1]
        have q2 : ∀ z, argsT (t ++ [z]) [(l.length : Int) - 1] = [x] := fun z => by
          unfold argsT
          simp only [List.map_cons, List.map_nil]
          rw [List.getD_eq_getElem?_getD, List.getElem?_append_left (by omega), ← List.getD_eq_getElem?_getD, g1]
        have q3 : ∀ z n, argsT (t ++ [z] ++ [n]) [(l.length : Int) + 1] = [n] := fun z n => by
          unfold argsT
          simp only [List.map_cons, List.map_nil]
          rw [List.getD_eq_getElem?_getD, List.getElem?_append_right (by simp; omega)]
          simp
          rw [show l.length - t.length = 0 by omega]
          rfl
        show (∃ j f : Int, evF inp ps _ t = ([], j, f) ∧ f ≠ 0) ∨ ∃ z n : T, evF inp ps _ t = (t ++ [z, n, x], -1, 0) ∧ _
        rw [evF]
        show (∃ j f : Int, (if (nodeE 11 [] (argsT t [(l.length : Int) - 1, (l.length : Int) - 1]) inp ps).2 = 0 then evF inp ps _ (t ++ [(nodeE 11 [] (argsT t [(l.length : Int) - 1, (l.length : Int) - 1]) inp ps).1]) else ([], (t.length : Int), (nodeE 11 [] (argsT t [(l.length : Int) - 1, (l.length : Int) - 1]) inp ps).2)) = ([], j, f) ∧ f ≠ 0) ∨ ∃ z n : T, (if (nodeE 11 [] (argsT t [(l.length : Int) - 1, (l.length : Int) - 1]) inp ps).2 = 0 then evF inp ps _ (t ++ [(nodeE 11 [] (argsT t [(l.length : Int) - 1, (l.length : Int) - 1]) inp ps).1]) else ([], (t.length : Int), (nodeE 11 [] (argsT t [(l.length : Int) - 1, (l.length : Int) - 1]) inp ps).2)) = (t ++ [z, n, x], -1, 0) ∧ z.2 = List.replicate x.2.length 0
        rw [q1]
        cases m1 : nodeE 11 [] [x, x] inp ps with
        | mk z e4 =>
          by_cases k1 : e4 = 0
          · subst k1
            rw [if_pos rfl, evF]
            show (∃ j f : Int, (if (nodeE 20 [] (argsT (t ++ [z]) [(l.length : Int) - 1]) inp ps).2 = 0 then evF inp ps _ (t ++ [z] ++ [(nodeE 20 [] (argsT (t ++ [z]) [(l.length : Int) - 1]) inp ps).1]) else ([], ((t ++ [z]).length : Int), (nodeE 20 [] (argsT (t ++ [z]) [(l.length : Int) - 1]) inp ps).2)) = ([], j, f) ∧ f ≠ 0) ∨ ∃ z' n : T, (if (nodeE 20 [] (argsT (t ++ [z]) [(l.length : Int) - 1]) inp ps).2 = 0 then evF inp ps _ (t ++ [z] ++ [(nodeE 20 [] (argsT (t ++ [z]) [(l.length : Int) - 1]) inp ps).1]) else ([], ((t ++ [z]).length : Int), (nodeE 20 [] (argsT (t ++ [z]) [(l.length : Int) - 1]) inp ps).2)) = (t ++ [z', n, x], -1, 0) ∧ z'.2 = List.replicate x.2.length 0
            rw [q2 z]
            cases m2 : nodeE 20 [] [x] inp ps with
            | mk n e5 =>
              by_cases k2 : e5 = 0
              · subst k2
                rw [if_pos rfl, evF]
                show (∃ j f : Int, (if (nodeE 20 [] (argsT (t ++ [z] ++ [n]) [(l.length : Int) + 1]) inp ps).2 = 0 then evF inp ps [] (t ++ [z] ++ [n] ++ [(nodeE 20 [] (argsT (t ++ [z] ++ [n]) [(l.length : Int) + 1]) inp ps).1]) else ([], ((t ++ [z] ++ [n]).length : Int), (nodeE 20 [] (argsT (t ++ [z] ++ [n]) [(l.length : Int) + 1]) inp ps).2)) = ([], j, f) ∧ f ≠ 0) ∨ ∃ z' n' : T, (if (nodeE 20 [] (argsT (t ++ [z] ++ [n]) [(l.length : Int) + 1]) inp ps).2 = 0 then evF inp ps [] (t ++ [z] ++ [n] ++ [(nodeE 20 [] (argsT (t ++ [z] ++ [n]) [(l.length : Int) + 1]) inp ps).1]) else ([], ((t ++ [z] ++ [n]).length : Int), (nodeE 20 [] (argsT (t ++ [z] ++ [n]) [(l.length : Int) + 1]) inp ps).2)) = (t ++ [z', n', x], -1, 0) ∧ z'.2 = List.replicate x.2.length 0
                rw [q3 z n]
                cases m3 : nodeE 20 [] [n] inp ps with
                | mk y e6 =>
                  by_cases k3 : e6 = 0
                  · subst k3
                    rw [if_pos rfl]
                    have hy := neg_neg m2 m3
                    subst hy
                    refine .inr ⟨z, n, ?_, self_zero m1⟩
                    rw [evF]
                    simp
                  · rw [if_neg k3]; exact .inl ⟨_, _, rfl, k3⟩
              · rw [if_neg k2]; exact .inl ⟨_, _, rfl, k2⟩
          · rw [if_neg k1]; exact .inl ⟨_, _, rfl, k1⟩
      · rw [f1, if_neg f2]
        exact .inl ⟨j, e, j, rfl, f2, rfl⟩
    · have g0 : ¬ (shF l []).2.2 = 0 := by rw [← hs, e1]; show ¬ ((20 : Int) = 0); decide
      have s2 : shapesV (moreN l) = ([], (i : Int), 20) := by
        rw [hs2]
        unfold moreN
        rw [sh_app, if_neg g0, ← hs, e1]
      refine .inl ⟨i, 20, i, ?_, by decide, ?_⟩
      · unfold allE; rw [e1, if_neg (show ¬ ((20 : Int) = 0) by decide)]
      · unfold allE; rw [s2, if_neg (show ¬ ((20 : Int) = 0) by decide)]
end Go.Proofs.EvM
