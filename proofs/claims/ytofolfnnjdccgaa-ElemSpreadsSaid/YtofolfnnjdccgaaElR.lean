/- Plain facts of layer 4's laws: what is stretched is reckoned as it is; three tensors that are added. -/
import Derived.Test.YtofolfnnjdccgaaElN
namespace Go.Proofs.ShM
open Go.Proofs.FixM

theorem two_spread {op : Int} {s xs t ys j : List Int} (h1 : tokV s xs = true) (h2 : tokV t ys = true) (hj : joinV s t = (j, 0)) :
    twoV op s xs t ys = twoV op j (spreadL s xs j (sizeV j).toNat) j (spreadL t ys j (sizeV j).toNat) := by
  obtain ⟨_, _, ho, f1, f2⟩ := joined hj
  by_cases hop : op < 10 ∨ 13 < op
  · rw [two_noop hop, two_noop hop]
  · have hop' : 10 ≤ op ∧ op ≤ 13 := by omega
    have t1 := tok_spread (d := xs) f1
    have t2 := tok_spread (d := ys) f2
    refine two_alike hop' hop' h1 h2 t1 t2 hj (join_self ho) fun i hi => ?_
    unfold atN
    rw [src_id t1 hi, spread_getD hi, spread_getD hi]
theorem firstE_two {α : Type} {f : α → Int × Int} {E : Int} (h : ∀ x, (f x).2 = 0 ∨ (f x).2 = E) (l : List α) : firstE f l = 0 ∨ firstE f l = E := by
  induction l with
  | nil => exact .inl rfl
  | cons x l ih =>
    rw [firstE_cons]
    by_cases c : (f x).2 = 0
    · rw [if_pos c]; exact ih
    · rw [if_neg c]
      rcases h x with e | e
      · exact absurd e c
      · exact .inr e
theorem put_two (n : Int) : (put n).2 = 0 ∨ (put n).2 = 10 := by
  rcases put_cases n with ⟨_, _, e⟩ | ⟨_, e⟩ <;> rw [e] <;> simp
theorem num_two (op : Int) : ∃ E, ∀ x, (numV op x).2 = 0 ∨ (numV op x).2 = E := by
  unfold numV
  by_cases h0 : op = 20
  · exact ⟨10, fun x => by rw [if_pos h0]; exact put_two _⟩
  · by_cases h1 : op = 21
    · exact ⟨10, fun x => by rw [if_neg h0, if_pos h1]; exact .inl rfl⟩
    · by_cases h2 : op = 22
      · refine ⟨10, fun x => ?_⟩
        rw [if_neg h0, if_neg h1, if_pos h2]
        unfold powV scaleV
        split
        · exact .inl rfl
        · exact put_two _
      · by_cases h3 : op = 23
        · refine ⟨12, fun x => ?_⟩
          rw [if_neg h0, if_neg h1, if_neg h2, if_pos h3]
          unfold sqrtV
          split
          · exact .inr rfl
          · exact .inl rfl
        · exact ⟨1, fun x => by rw [if_neg h0, if_neg h1, if_neg h2, if_neg h3]; exact .inr rfl⟩
/-- Each place is one that a stretched one comes from. -/
theorem src_onto {s g : List Int} (h : fitsV s g = true) {p : Nat} (hp : (p : Int) < prodS s) : ∃ i : Nat, (i : Int) < prodS g ∧ srcI s g i = p := by
  refine Classical.byContradiction fun hn => ?_
  have hc := count_src h (p := (p : Int)) (by omega) hp
  have hz : sg (prodS g).toNat (fun i => if srcI s g i = (p : Int) then 1 else 0) = 0 := by
    rw [sg_congr (G := fun _ => 0)]
    · exact sg_zero _
    · intro i hi
      rw [if_neg]
      exact fun e => hn ⟨i, by omega, e⟩
  rw [hz] at hc
  have := prod_pos (ok_all (fits_al h).2.1)
  omega
theorem spread_all {s xs g : List Int} (h : tokV s xs = true) (k : fitsV s g = true) {Q : Int → Prop} : (∀ x ∈ spreadL s xs g (sizeV g).toNat, Q x) ↔ ∀ x ∈ xs, Q x := by
  obtain ⟨ho, hl⟩ := tok_iff.1 h
  have hg := (fits_al k).2.1
  have hs := size_nat hg
  constructor
  · intro hq x hx
    obtain ⟨p, hp, rfl⟩ := List.mem_iff_getElem.1 hx
    obtain ⟨i, hi, e⟩ := src_onto k (p := p) (by omega)
    have hi' : i < (sizeV g).toNat := by omega
    have := spread_get (s := s) (d := xs) (g := g) hi'
    rw [e, Int.toNat_natCast, show xs.getD p 0 = xs[p] by simp [List.getD, List.getElem?_eq_getElem hp]] at this
    exact hq _ (List.mem_of_getElem? this)
  · intro hq x hx
    unfold spreadL at hx
    obtain ⟨i, hi, rfl⟩ := List.mem_map.1 hx
    have hi' : (i : Int) < prodS g := by have := List.mem_range.1 hi; omega
    have hsrc := src_in k (p := (i : Int)) (by omega) hi'
    have hlt : (srcI s g i).toNat < xs.length := by omega
    rw [show xs.getD (srcI s g i).toNat 0 = xs[(srcI s g i).toNat] by simp [List.getD, List.getElem?_eq_getElem hlt]]
    exact hq _ (List.getElem_mem hlt)
theorem one_spread {op : Int} {s xs j : List Int} (h : tokV s xs = true) (k : fitsV s j = true) :
    (oneV op j (spreadL s xs j (sizeV j).toNat)).2.2 = (oneV op s xs).2.2 ∧ ((oneV op s xs).2.2 = 0 → ∃ Z, oneV op s xs = (s, Z, 0) ∧ oneV op j (spreadL s xs j (sizeV j).toNat) = (j, spreadL s Z j (sizeV j).toNat, 0) ∧ spreadV s Z j = (j, spreadL s Z j (sizeV j).toNat, 0)) := by
  by_cases hop : op < 20 ∨ 23 < op
  · rw [one_noop hop, one_noop hop]
    exact ⟨rfl, fun h => by cases h⟩
  · have hop' : 20 ≤ op ∧ op ≤ 23 := by omega
    have hk := tok_spread (d := xs) k
    have hg := (fits_al k).2.1
    have hs := size_nat hg
    obtain ⟨ho, hl⟩ := tok_iff.1 h
    refine ⟨?_, fun hz0 => ?_⟩
    · have e1 : ∀ l m : List Int, (endT l (mapE (numV op) m)).2.2 = firstE (numV op) m := fun l m => by
        rw [← mapE_e]
        unfold endT
        split
        · rename_i c; exact c.symm
        · rfl
      rw [one_form hop' hk, one_form hop' h, e1, e1]
      obtain ⟨E, hE⟩ := num_two op
      have hiff : firstE (numV op) (spreadL s xs j (sizeV j).toNat) = 0 ↔ firstE (numV op) xs = 0 := by
        rw [firstE_zero, firstE_zero]; exact spread_all h k (Q := fun x => (numV op x).2 = 0)
      rcases firstE_two hE (spreadL s xs j (sizeV j).toNat) with a | a <;> rcases firstE_two hE xs with b | b
      · rw [a, b]
      · rw [a, hiff.1 a]
      · rw [b, hiff.2 b]
      · rw [a, b]
    · obtain ⟨Z, _, e, hlz, hkz, hz⟩ := one_zero hop' hz0
      refine ⟨Z, e, ?_, spread_is hkz k⟩
      refine one_is hop' hk (by rw [spread_len, spread_len]) fun i hi => ?_
      rw [spread_len] at hi
      rw [spread_getD hi, spread_getD hi]
      have hsrc := src_in k (p := (i : Int)) (by omega) (by omega)
      exact hz _ (by omega)

/-- Three that are added. -/
theorem add_three {s xs t ys v zs l1 k1 l2 k2 l3 k3 l4 k4 : List Int} (h1 : twoV 10 s xs t ys = (l1, k1, 0)) (h2 : twoV 10 l1 k1 v zs = (l2, k2, 0)) (h3 : twoV 10 t ys v zs = (l3, k3, 0)) (h4 : twoV 10 s xs l3 k3 = (l4, k4, 0)) :
    l2 = l4 ∧ k2 = k4 ∧ tokV l2 k2 = true := by
  obtain ⟨j1, X, a1, a2, hj1, e1, n1, t1, z1⟩ := two_zero (op := 10) (s := s) (xs := xs) (t := t) (ys := ys) (by omega) (by rw [h1])
  obtain ⟨j2, Y, b1, b2, hj2, e2, n2, t2, z2⟩ := two_zero (op := 10) (s := l1) (xs := k1) (t := v) (ys := zs) (by omega) (by rw [h2])
  obtain ⟨j3, Z, c1, c2, hj3, e3, n3, t3, z3⟩ := two_zero (op := 10) (s := t) (xs := ys) (t := v) (ys := zs) (by omega) (by rw [h3])
  obtain ⟨j4, V, d1, d2, hj4, e4, n4, t4, z4⟩ := two_zero (op := 10) (s := s) (xs := xs) (t := l3) (ys := k3) (by omega) (by rw [h4])
  rw [h1] at e1; rw [h2] at e2; rw [h3] at e3; rw [h4] at e4
  obtain ⟨rfl, rfl⟩ : l1 = j1 ∧ k1 = X := by simpa using e1
  obtain ⟨rfl, rfl⟩ : l2 = j2 ∧ k2 = Y := by simpa using e2
  obtain ⟨rfl, rfl⟩ : l3 = j3 ∧ k3 = Z := by simpa using e3
  obtain ⟨rfl, rfl⟩ : l4 = j4 ∧ k4 = V := by simpa using e4
  have r1 := join_iff.1 hj1
  have r2 := join_iff.1 hj2
  have r3 := join_iff.1 hj3
  have r4 := join_iff.1 hj4
  obtain rfl : l2 = l4 := (r1.assoc r3 r2).det r4
  refine ⟨rfl, ?_, t2⟩
  obtain ⟨_, _, ho1, f1, g1⟩ := joined hj1
  obtain ⟨_, _, ho2, f2, g2⟩ := joined hj2
  obtain ⟨_, _, ho3, f3, g3⟩ := joined hj3
  obtain ⟨_, _, _, f4, g4⟩ := joined hj4
  refine ext0 (by rw [n2, n4]) fun i hi => ?_
  have hi' : i < (sizeV l2).toNat := by omega
  have hs2 := size_nat ho2
  have hs1 := size_nat ho1
  have hs3 := size_nat ho3
  have p0 : (0 : Int) ≤ (i : Int) := by omega
  have p1 : (i : Int) < prodS l2 := by omega
  have A := z2 i hi'
  have B := z4 i hi'
  have q1 := src_in f2 p0 p1
  have q3 := src_in g4 p0 p1
  have A1 := z1 (srcI l1 l2 i).toNat (by omega)
  have B1 := z3 (srcI l3 l2 i).toNat (by omega)
  unfold atN at A B A1 B1
  rw [show ∀ a b, numsV 10 a b = addV a b from fun a b => rfl] at A B A1 B1
  rw [Int.toNat_of_nonneg q1.1, src_comp f1 f2 p0 p1, src_comp g1 f2 p0 p1] at A1
  rw [Int.toNat_of_nonneg q3.1, src_comp f3 g4 p0 p1, src_comp g3 g4 p0 p1] at B1
  obtain ⟨A', _⟩ := put_ok A
  obtain ⟨B', _⟩ := put_ok B
  obtain ⟨A1', _⟩ := put_ok A1
  obtain ⟨B1', _⟩ := put_ok B1
  rw [A', B', A1', B1']
  omega
end Go.Proofs.ShM
