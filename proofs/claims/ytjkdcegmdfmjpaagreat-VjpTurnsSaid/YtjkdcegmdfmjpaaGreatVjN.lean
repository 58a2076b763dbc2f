import Derived.Test.YtjkdcegmdfmjpaaGreatTk
import Derived.Test.YtjkdcegmdfmjpaaGreatVjM
import Derived.Test.YtjkdcegmdfmjpaaGreatEvPl
set_option maxHeartbeats 16000000
set_option maxRecDepth 100000
set_option linter.unusedVariables false
set_option linter.unusedSimpArgs false
namespace Go.Proofs.EvM
open Go.Proofs.ShM Go.Proofs.FixM Go.Proofs.GrM Go.Proofs.InM Go.Proofs.ImM
section
variable {op : Int} {nums : List Int} {args : List T} {out g : T} {xs : List T}
theorem back_inv (h : backV op nums args out g = (xs, 0)) : args.all tokT = true ∧ tokT out = true ∧ tokT g = true ∧ (nodeV op nums (shT args)).2 = 0 ∧ out.1 = (nodeV op nums (shT args)).1 ∧ g.1 = (nodeV op nums (shT args)).1 ∧
  (args.length = 0 ∧ xs = [] ∨ args.length ≠ 0 ∧ (vjA op nums (args.getD 0 eT) (args.getD 1 eT) out g).2.2 = 0 ∧ (args.length = 1 ∧ xs = [(tnE (vjA op nums (args.getD 0 eT) (args.getD 1 eT) out g)).1] ∨
   args.length ≠ 1 ∧ (vjB op nums (args.getD 0 eT) (args.getD 1 eT) out g).2.2 = 0 ∧ xs = [(tnE (vjA op nums (args.getD 0 eT) (args.getD 1 eT) out g)).1, (tnE (vjB op nums (args.getD 0 eT) (args.getD 1 eT) out g)).1])) := by
 unfold backV at h
 split at h
 ·injection h with _ h; cases h
 ·rename_i h1
  rw [not_or, not_or] at h1
  refine ⟨by simpa using h1.1, by simpa using h1.2.1, by simpa using h1.2.2, ?_⟩
  split at h
  ·rename_i h2; injection h with _ h; exact absurd h h2
  ·rename_i h2
   have h2 := Classical.not_not.1 h2
   split at h
   ·injection h with _ h; cases h
   ·rename_i h3
    rw [not_or] at h3
    refine ⟨h2, Classical.not_not.1 h3.1, Classical.not_not.1 h3.2, ?_⟩
    split at h
    ·rename_i h4; injection h with h _; exact .inl ⟨h4, h.symm⟩
    ·rename_i h4
     split at h
     ·rename_i h5; injection h with _ h; exact absurd h h5
     ·rename_i h5
      refine .inr ⟨h4, Classical.not_not.1 h5, ?_⟩
      split at h
      ·rename_i h6; injection h with h _; exact .inl ⟨h6, h.symm⟩
      ·rename_i h6
       split at h
       ·rename_i h7; injection h with _ h; exact absurd h h7
       ·rename_i h7; injection h with h _; exact .inr ⟨h6, Classical.not_not.1 h7, h.symm⟩
end
open Go.Proofs.ShM Go.Proofs.FixM Go.Proofs.GrM Go.Proofs.InM Go.Proofs.ImM
def Sum2 (d x y : List Int) : Prop := d.length = x.length ∧ d.length = y.length ∧ ∀ i, d.getD i 0 = x.getD i 0 + y.getD i 0
def Bd (l : List Int) : Prop := ∀ i, -1099511627776 ≤ l.getD i 0 ∧ l.getD i 0 ≤ 1099511627776
def Adds (r : List Int → Tn) (x y d : List Int) : Prop := (r x).2.2 = 0 → (r y).2.2 = 0 → (r d).2.2 = 0 ∧ Sum2 (r d).2.1 (r x).2.1 (r y).2.1
theorem getD_out {l : List Int} {i : Nat} (h : l.length ≤ i) : l.getD i 0 = 0 := by rw [List.getD_eq_getElem?_getD, List.getElem?_eq_none h]; rfl
theorem sum2_of {d x y : List Int} (h1 : d.length = x.length) (h2 : d.length = y.length) (h : ∀ i, i < d.length → d.getD i 0 = x.getD i 0 + y.getD i 0) : Sum2 d x y :=
 ⟨h1, h2, fun i => by
  by_cases hi : i < d.length
  ·exact h i hi
  ·rw [getD_out (by omega), getD_out (by omega), getD_out (by omega)]; rfl⟩
theorem map_getD {n : Nat} {F : Nat → Int} {i : Nat} (hi : i < n) : ((List.range n).map F).getD i 0 = F i := by
 rw [List.getD_eq_getElem?_getD, List.getElem?_map, List.getElem?_range hi]; rfl
theorem sum2_map {n : Nat} {F G H : Nat → Int} (h : ∀ i, i < n → F i = G i + H i) : Sum2 ((List.range n).map F) ((List.range n).map G) ((List.range n).map H) :=
 sum2_of (by simp) (by simp) fun i hi => by
  have hi : i < n := by simpa using hi
  rw [map_getD hi, map_getD hi, map_getD hi]
  exact h i hi
section
variable {s t x y d : List Int}
theorem tok_sum (h : Sum2 d x y) (ht : tokV s x = true) : tokV s d = true := by
 obtain ⟨h1, h2⟩ := Go.Proofs.ShM.tok_iff.1 ht
 exact Go.Proofs.ShM.tok_iff.2 ⟨h1, by rw [h.1]; exact h2⟩
theorem adds_fold (h : Sum2 d x y) (bx : Bd x) (b_y : Bd y) (t : List Int) : Adds (fun v => foldV s v t) x y d := fun ex ey => by
 have ex : (foldV s x t).2.2 = 0 := ex
 have ey : (foldV s y t).2.2 = 0 := ey
 show (foldV s d t).2.2 = 0 ∧ Sum2 (foldV s d t).2.1 (foldV s x t).2.1 (foldV s y t).2.1
 rcases fold_cases s x t with ⟨_, e⟩ | ⟨_, _, e⟩ | ⟨_, _, e0, e⟩ | ⟨tx, fx, zx, vx⟩
 ·rw [e] at ex; cases ex
 ·rw [e] at ex; cases ex
 ·rw [e] at ex; exact absurd ex e0
 rcases fold_cases s y t with ⟨_, e⟩ | ⟨_, _, e⟩ | ⟨_, _, e0, e⟩ | ⟨ty, fy, zy, vy⟩
 ·rw [e] at ey; cases ey
 ·rw [e] at ey; cases ey
 ·rw [e] at ey; exact absurd ey e0
 have td := tok_sum h tx
 have hd := (Go.Proofs.ShM.tok_iff.1 td).2
 have hn := size_nat (fits_al fx).1
 have hg := ok_prod (fits_al fx).2.1
 have zd : (foldL t s d).2 = 0 := by
  refine fold_small _ d _ 0 2199023255552 (by omega) (fun p hp => ?_) (fun i _ => ?_) (fun i hi => ?_) (by omega)
  ·have : (List.replicate (sizeV t).toNat (0 : Int)).getD p 0 = 0 := by
    rw [List.getD_eq_getElem?_getD, List.getElem?_replicate]; split <;> rfl
   rw [this]; omega
  ·have h1 := h.2.2 i
   have h2 := bx i
   have h3 := b_y i
   omega
  ·have := src_in fx (p := ((0 + i : Nat) : Int)) (by omega) (by omega)
   rw [List.length_replicate]
   show (srcI t s ((0 + i : Nat) : Int)).toNat < _
   omega
 rcases fold_cases s d t with ⟨e0, e⟩ | ⟨_, e0, e⟩ | ⟨_, _, e0, e⟩ | ⟨_, _, _, vd⟩
 ·rw [td] at e0; cases e0
 ·rw [fx] at e0; cases e0
 ·exact absurd zd e0
 rw [vd, vx, vy]
 obtain ⟨lx, sx⟩ := foldL_sum fx zx
 obtain ⟨ly, sy⟩ := foldL_sum fx zy
 obtain ⟨ld, sd⟩ := foldL_sum fx zd
 refine ⟨rfl, ?_⟩
 show Sum2 (foldL t s d).1 (foldL t s x).1 (foldL t s y).1
 refine sum2_of (by omega) (by omega) fun p hp => ?_
 rw [sx p (by omega), sy p (by omega), sd p (by omega), ← h.1, ← h.2.1, ← sg_add]
 refine sg_congr fun i _ => ?_
 split
 ·exact h.2.2 i
 ·rfl
theorem put_neg {n : Int} (h : -2199023255552 ≤ n ∧ n ≤ 2199023255552) : numV 20 n = (-n, 0) := by
 show put (0 - n) = _
 rw [put_in (by omega) (by omega), Int.zero_sub]
theorem neg_is (h : tokV s x = true) (b : ∀ i, -2199023255552 ≤ x.getD i 0 ∧ x.getD i 0 ≤ 2199023255552) : oneV 20 s x = (s, x.map (- ·), 0) :=
 one_is (by omega) h (by simp) fun i hi => by
  rw [put_neg (b i)]
  rw [List.getD_eq_getElem?_getD, List.getD_eq_getElem?_getD, List.getElem?_map, List.getElem?_eq_getElem hi]; rfl
theorem neg_getD (l : List Int) (i : Nat) : (l.map (- ·)).getD i 0 = - l.getD i 0 := by
 rw [List.getD_eq_getElem?_getD, List.getD_eq_getElem?_getD, List.getElem?_map]
 cases l[i]? <;> rfl
theorem bd_wide (b : Bd x) : ∀ i, -2199023255552 ≤ x.getD i 0 ∧ x.getD i 0 ≤ 2199023255552 := fun i => by have := b i; omega
theorem bd_sum (h : Sum2 d x y) (bx : Bd x) (b_y : Bd y) : ∀ i, -2199023255552 ≤ d.getD i 0 ∧ d.getD i 0 ≤ 2199023255552 := fun i => by
 have h1 := h.2.2 i
 have h2 := bx i
 have h3 := b_y i
 omega
theorem one_tok (h : (oneV 20 s x).2.2 = 0) : tokV s x = true := by
 obtain ⟨Z, ht, _⟩ := one_zero (by omega) h
 exact ht
theorem neg_sum (h : Sum2 d x y) : Sum2 (d.map (- ·)) (x.map (- ·)) (y.map (- ·)) := ⟨by rw [List.length_map, List.length_map]; exact h.1, by rw [List.length_map, List.length_map]; exact h.2.1, fun i => by
 rw [neg_getD, neg_getD, neg_getD, h.2.2 i]; omega⟩
theorem neg_bd (b : Bd x) : Bd (x.map (- ·)) := fun i => by have := b i; rw [neg_getD]; omega
theorem adds_neg (h : Sum2 d x y) (bx : Bd x) (b_y : Bd y) : Adds (fun v => oneV 20 s v) x y d := fun ex ey => by
 show (oneV 20 s d).2.2 = 0 ∧ Sum2 (oneV 20 s d).2.1 (oneV 20 s x).2.1 (oneV 20 s y).2.1
 rw [neg_is (tok_sum h (one_tok ex)) (bd_sum h bx b_y), neg_is (one_tok ex) (bd_wide bx), neg_is (one_tok ey) (bd_wide b_y)]
 exact ⟨rfl, neg_sum h⟩
theorem foldR_zero {r : Tn} (h : (foldR r t).2.2 = 0) : r.2.2 = 0 ∧ foldR r t = foldV r.1 r.2.1 t := by
 unfold foldR at *
 split at h
 ·rename_i h0; exact ⟨h0, by rw [if_pos h0]⟩
 ·rename_i h0; exact absurd h h0
theorem adds_negfold (h : Sum2 d x y) (bx : Bd x) (b_y : Bd y) (t : List Int) : Adds (fun v => foldR (oneV 20 s v) t) x y d := fun ex ey => by
 obtain ⟨ex0, ex1⟩ := foldR_zero ex
 obtain ⟨ey0, ey1⟩ := foldR_zero ey
 have nx := neg_is (one_tok ex0) (bd_wide bx)
 have ny := neg_is (one_tok ey0) (bd_wide b_y)
 have nd := neg_is (tok_sum h (one_tok ex0)) (bd_sum h bx b_y)
 show (foldR (oneV 20 s d) t).2.2 = 0 ∧ Sum2 (foldR (oneV 20 s d) t).2.1 (foldR (oneV 20 s x) t).2.1 (foldR (oneV 20 s y) t).2.1
 have ex : (foldR (oneV 20 s x) t).2.2 = 0 := ex
 have ey : (foldR (oneV 20 s y) t).2.2 = 0 := ey
 rw [ex1, nx] at ex
 rw [ey1, ny] at ey
 rw [ex1, ey1, nx, ny, nd]
 exact adds_fold (neg_sum h) (neg_bd bx) (neg_bd b_y) t ex ey
theorem relu_getD : ∀ (a v : List Int) (i : Nat), (reluG a v).getD i 0 = if 0 < a.getD i 0 then v.getD i 0 else 0
 | [], v, i => by simp [reluG]
 | x :: a, [], i => by simp [reluG]
 | x :: a, y :: v, 0 => rfl
 | x :: a, y :: v, i + 1 => relu_getD a v i
theorem relu_sum (a : List Int) (h : Sum2 d x y) : Sum2 (reluG a d) (reluG a x) (reluG a y) :=
 ⟨by unfold reluG; rw [List.length_map, List.length_map, List.length_zip, List.length_zip, h.1], by unfold reluG; rw [List.length_map, List.length_map, List.length_zip, List.length_zip, h.2.1], fun i => by
  rw [relu_getD, relu_getD, relu_getD]
  split
  ·exact h.2.2 i
  ·rfl⟩
theorem tok_not (h : ¬ tokV s x = false) : tokV s x = true := by
 cases e : tokV s x with
 | true => rfl
 | false => exact absurd e h
theorem no_tok (h : tokV s x = true) : ¬ tokV s x = false := by rw [h]; decide
theorem at_sum (h : Sum2 d x y) (tx : tokV s x = true) (ty : tokV s y = true) (u : List Int) : (atV s d u).1 = (atV s x u).1 + (atV s y u).1 := by
 unfold atV pinV
 rw [if_pos (tok_sum h tx), if_pos tx, if_pos ty]
 split
 ·exact h.2.2 _
 ·rfl
theorem adds_turn (h : Sum2 d x y) : Adds (fun v => turnV s v) x y d := fun ex ey => by
 have tx : tokV s x = true := by
  cases e : tokV s x with
  | true => rfl
  | false => have ex : (turnV s x).2.2 = 0 := ex; unfold turnV at ex; rw [if_pos e] at ex; cases ex
 have ty : tokV s y = true := by
  cases e : tokV s y with
  | true => rfl
  | false => have ey : (turnV s y).2.2 = 0 := ey; unfold turnV at ey; rw [if_pos e] at ey; cases ey
 show (turnV s d).2.2 = 0 ∧ Sum2 (turnV s d).2.1 (turnV s x).2.1 (turnV s y).2.1
 rw [turn_is tx, turn_is ty, turn_is (tok_sum h tx)]
 refine ⟨rfl, ?_⟩
 show Sum2 (turnD s d) (turnD s x) (turnD s y)
 unfold turnD
 rw [← h.1, ← h.2.1]
 exact sum2_map fun i _ => at_sum h tx ty _
theorem moved_sum2 (h : Sum2 d x y) (tx : tokV s x = true) (ty : tokV s y = true) (g : List Int) (k : Nat) (m : Int) : Sum2 (movedL s d g k m) (movedL s x g k m) (movedL s y g k m) := sum2_map fun _ _ => at_sum h tx ty _
theorem adds_slice (h : Sum2 d x y) (axis a b : Int) : Adds (fun v => sliceV s v axis a b) x y d := fun ex ey => by
 have ex : (sliceV s x axis a b).2.2 = 0 := ex
 have ey : (sliceV s y axis a b).2.2 = 0 := ey
 show (sliceV s d axis a b).2.2 = 0 ∧ Sum2 (sliceV s d axis a b).2.1 (sliceV s x axis a b).2.1 (sliceV s y axis a b).2.1
 unfold sliceV at *
 split at ex
 ·cases ex
 ·rename_i tx
  have tx := tok_not tx
  split at ey
  ·cases ey
  ·rename_i ty
   have ty := tok_not ty
   rw [if_neg (no_tok (tok_sum h tx)), if_neg (no_tok tx), if_neg (no_tok ty)]
   split at ex
   ·cases ex
   ·rename_i h1
    rw [if_neg h1, if_neg h1, if_neg h1]
    exact ⟨rfl, moved_sum2 h tx ty _ _ _⟩
theorem adds_pad (h : Sum2 d x y) (axis a side : Int) : Adds (fun v => padV s v axis a side) x y d := fun ex ey => by
 have ex : (padV s x axis a side).2.2 = 0 := ex
 have ey : (padV s y axis a side).2.2 = 0 := ey
 show (padV s d axis a side).2.2 = 0 ∧ Sum2 (padV s d axis a side).2.1 (padV s x axis a side).2.1 (padV s y axis a side).2.1
 unfold padV at *
 split at ex
 ·cases ex
 ·rename_i tx
  have tx := tok_not tx
  split at ey
  ·cases ey
  ·rename_i ty
   have ty := tok_not ty
   rw [if_neg (no_tok (tok_sum h tx)), if_neg (no_tok tx), if_neg (no_tok ty)]
   split at ex
   ·cases ex
   ·rename_i h1
    rw [if_neg h1, if_neg h1, if_neg h1]
    exact ⟨rfl, moved_sum2 h tx ty _ _ _⟩
theorem adds_grow (h : Sum2 d x y) (axis n : Int) : Adds (fun v => growV s v axis n) x y d := fun ex ey => by
 have ex : (growV s x axis n).2.2 = 0 := ex
 have ey : (growV s y axis n).2.2 = 0 := ey
 show (growV s d axis n).2.2 = 0 ∧ Sum2 (growV s d axis n).2.1 (growV s x axis n).2.1 (growV s y axis n).2.1
 unfold growV at *
 split at ex
 ·cases ex
 ·rename_i tx
  have tx := tok_not tx
  split at ey
  ·cases ey
  ·rename_i ty
   have ty := tok_not ty
   rw [if_neg (no_tok (tok_sum h tx)), if_neg (no_tok tx), if_neg (no_tok ty)]
   split at ex
   ·cases ex
   ·rename_i h1
    rw [if_neg h1, if_neg h1, if_neg h1]
    exact ⟨rfl, sum2_map fun i _ => h.2.2 _⟩
theorem adds_reshape (h : Sum2 d x y) (g : List Int) : Adds (fun v => reshapeV s v g) x y d := fun ex ey => by
 have ex : (reshapeV s x g).2.2 = 0 := ex
 have ey : (reshapeV s y g).2.2 = 0 := ey
 show (reshapeV s d g).2.2 = 0 ∧ Sum2 (reshapeV s d g).2.1 (reshapeV s x g).2.1 (reshapeV s y g).2.1
 unfold reshapeV at *
 split at ex
 ·cases ex
 ·rename_i tx
  have tx := tok_not tx
  split at ey
  ·cases ey
  ·rename_i ty
   have ty := tok_not ty
   rw [if_neg (no_tok (tok_sum h tx)), if_neg (no_tok tx), if_neg (no_tok ty), h.1]
   split at ex
   ·rename_i h1
    rw [if_pos h1, if_pos h1, if_pos (by rw [h1, ← h.1, ← h.2.1])]
    exact ⟨rfl, h⟩
   ·cases ex
end
def AddOp (op : Int) : Prop := op = 10 ∨ op = 11 ∨ op = 20 ∨ op = 21 ∨ op = 40 ∨ op = 41 ∨ op = 42 ∨ op = 43 ∨ op = 50
section
variable {op : Int} {nums : List Int} {a b out : T} {s x y d : List Int}
theorem adds_A (hop : AddOp op) (h : Sum2 d x y) (bx : Bd x) (b_y : Bd y) : Adds (fun v => vjA op nums a b out (s, v)) x y d := by
 rcases hop with rfl | rfl | rfl | rfl | rfl | rfl | rfl | rfl | rfl
 ·exact adds_fold h bx b_y a.1
 ·exact adds_fold h bx b_y a.1
 ·exact adds_neg h bx b_y
 ·exact fun _ _ => ⟨rfl, relu_sum a.2 h⟩
 ·exact adds_reshape h a.1
 ·exact adds_turn h
 ·exact adds_pad h _ _ _
 ·exact adds_slice h _ _ _
 ·exact adds_grow h _ _
theorem adds_B (hop : op = 10 ∨ op = 11 ∨ op = 43) (h : Sum2 d x y) (bx : Bd x) (b_y : Bd y) : Adds (fun v => vjB op nums a b out (s, v)) x y d := by
 rcases hop with rfl | rfl | rfl
 ·exact adds_fold h bx b_y b.1
 ·exact adds_negfold h bx b_y b.1
 ·exact adds_slice h _ _ _
end
theorem back_adds {op : Int} {nums : List Int} {args : List T} {out g h : T} {xs ys : List T} {d : List Int} (hop : AddOp op) (hb : backV op nums args out g = (xs, 0)) (hc : backV op nums args out h = (ys, 0)) (hs : Sum2 d g.2 h.2) (bg : Bd g.2) (bh : Bd h.2) :
  ∃ zs, backV op nums args out (g.1, d) = (zs, 0) ∧ zs.length = xs.length ∧ ys.length = xs.length ∧ ∀ (k : Nat) (z : T), zs[k]? = some z → ∃ a b : T, xs[k]? = some a ∧ ys[k]? = some b ∧ Sum2 z.2 a.2 b.2 := by
 obtain ⟨h1, h2, h3, h4, h5, h6, hx⟩ := back_inv hb
 obtain ⟨_, _, g3, _, _, g6, hy⟩ := back_inv hc
 obtain ⟨s, x⟩ := g
 obtain ⟨s', y⟩ := h
 have h6 : s = _ := h6
 have g6 : s' = _ := g6
 have e : s' = s := by rw [h6, g6]
 subst e
 have htd : tokT (s', d) = true := tok_sum hs h3
 have hlen : (args.length : Int) = arityV op := by
  have hn := h4
  unfold nodeV at hn
  split at hn
  ·rename_i hc'
   have := hc'.2.1
   unfold shT at this
   rwa [List.length_map] at this
  ·cases hn
 unfold backV
 rw [if_neg (by rw [h1, h2, htd]; simp), if_neg (by simp [h4]), if_neg (by rw [not_or]; exact ⟨Classical.not_not.2 h5, Classical.not_not.2 h6⟩)]
 rcases hx with ⟨x0, rfl⟩ | ⟨x0, xA, hx⟩
 ·rcases hy with ⟨y0, rfl⟩ | ⟨y0, _⟩
  ·rw [if_pos x0]
   exact ⟨[], rfl, rfl, rfl, fun k z hz => by cases hz⟩
  ·exact absurd x0 y0
 ·rcases hy with ⟨y0, _⟩ | ⟨_, yA, hy⟩
  ·exact absurd y0 x0
  ·have lA := adds_A (nums := nums) (a := args.getD 0 eT) (b := args.getD 1 eT) (out := out) (s := s') hop hs bg bh xA yA
   rw [if_neg x0, if_neg (Classical.not_not.2 lA.1)]
   rcases hx with ⟨x1, rfl⟩ | ⟨x1, xB, rfl⟩
   ·rcases hy with ⟨_, rfl⟩ | ⟨y1, _⟩
    ·rw [if_pos x1]
     refine ⟨_, rfl, rfl, rfl, fun k z hz => ?_⟩
     match k, hz with
     | 0, hz =>
      injection hz with hz
      subst hz
      exact ⟨_, _, rfl, rfl, lA.2⟩
     | k + 1, hz => cases hz
    ·exact absurd x1 y1
   ·rcases hy with ⟨y1, _⟩ | ⟨_, yB, rfl⟩
    ·exact absurd y1 x1
    ·have hop2 : op = 10 ∨ op = 11 ∨ op = 43 := by
      rcases hop with e | e | e | e | e | e | e | e | e
      ·exact .inl e
      ·exact .inr (.inl e)
      all_goals first | exact .inr (.inr e) | (exfalso; subst e; have : (args.length : Int) = 1 := hlen; omega)
     have lB := adds_B (nums := nums) (a := args.getD 0 eT) (b := args.getD 1 eT) (out := out) (s := s') hop2 hs bg bh xB yB
     rw [if_neg x1, if_neg (Classical.not_not.2 lB.1)]
     refine ⟨_, rfl, rfl, rfl, fun k z hz => ?_⟩
     match k, hz with
     | 0, hz =>
      injection hz with hz
      subst hz
      exact ⟨_, _, rfl, rfl, lA.2⟩
     | 1, hz =>
      injection hz with hz
      subst hz
      exact ⟨_, _, rfl, rfl, lB.2⟩
     | k + 2, hz => cases hz
open Go.Proofs.ShM Go.Proofs.FixM Go.Proofs.GrM Go.Proofs.InM Go.Proofs.ImM
def Eok (r : Ev) : Prop := (r.2 ≠ 0 → r.1 = eT) ∧ (r.2 = 0 → tokT r.1 = true)
def Rok (r : Tn) : Prop := (r.2.2 ≠ 0 → r.1 = [] ∧ r.2.1 = []) ∧ (r.2.2 = 0 → tokV r.1 r.2.1 = true)
theorem rok_err {e : Int} (h : e ≠ 0) : Rok ([], [], e) := ⟨fun _ => ⟨rfl, rfl⟩, fun h' => absurd h' h⟩
theorem eok_of {r : Tn} (h : Rok r) : Eok (tnE r) := ⟨fun h' => by
 obtain ⟨e1, e2⟩ := h.1 h'
 show (r.1, r.2.1) = ([], [])
 rw [e1, e2], h.2⟩
theorem rok_fit {r : Tn} {s : List Int} (h : Fit r s) (g : r.2.2 ≠ 0 → r.1 = [] ∧ r.2.1 = []) : Rok r := ⟨g, fun h' => by
 obtain ⟨e1, e2⟩ := h h'
 rw [e1]; exact e2⟩
theorem rok_two (op : Int) (s xs t ys : List Int) : Rok (twoV op s xs t ys) := by
 refine ⟨fun h => ?_, fun h => ?_⟩
 ·rw [two_err op s xs t ys h]; exact ⟨rfl, rfl⟩
 ·by_cases hop : op < 10 ∨ 13 < op
  ·rw [two_noop hop] at h; cases h
  ·obtain ⟨j, Z, _, _, _, e, _, ht, _⟩ := two_zero (by omega) h
   rw [e]; exact ht
theorem rok_one (op : Int) (s xs : List Int) : Rok (oneV op s xs) := by
 refine ⟨fun h => ?_, fun h => ?_⟩
 ·rw [one_err op s xs h]; exact ⟨rfl, rfl⟩
 ·by_cases hop : op < 20 ∨ 23 < op
  ·rw [one_noop hop] at h; cases h
  ·obtain ⟨Z, _, e, _, ht, _⟩ := one_zero (by omega) h
   rw [e]; exact ht
theorem rok_full (n : Int) : Rok (fullV [] n) := ⟨fun h => absurd (show (fullV [] n).2.2 = 0 from rfl) h, fun _ => full_tok (s := []) n (show okS [] = true by decide)⟩
theorem rok_mat (s xs t ys : List Int) : Rok (matV s xs t ys) := rok_fit (fit_mat s xs t ys) (by
 unfold matV
 split
 ·exact fun _ => ⟨rfl, rfl⟩
 ·split
  ·exact fun _ => ⟨rfl, rfl⟩
  ·split
   ·exact fun h => absurd rfl h
   ·exact fun _ => ⟨rfl, rfl⟩)
theorem rok_reshape (s xs g : List Int) (h : okS g = true) : Rok (reshapeV s xs g) := rok_fit (fit_reshape s xs g h) (by
 unfold reshapeV
 split
 ·exact fun _ => ⟨rfl, rfl⟩
 ·split
  ·exact fun h => absurd rfl h
  ·exact fun _ => ⟨rfl, rfl⟩)
theorem rok_turn (s xs : List Int) : Rok (turnV s xs) := rok_fit fit_turn (by
 unfold turnV
 split
 ·exact fun _ => ⟨rfl, rfl⟩
 ·exact fun h => absurd rfl h)
theorem rok_slice (s xs : List Int) (axis a b : Int) (h : okS (s.set axis.toNat (b - a)) = true) : Rok (sliceV s xs axis a b) := rok_fit (fit_slice s xs axis a b h) (by
 unfold sliceV
 split
 ·exact fun _ => ⟨rfl, rfl⟩
 ·split
  ·exact fun _ => ⟨rfl, rfl⟩
  ·exact fun h => absurd rfl h)
theorem rok_glue (s xs t ys : List Int) (axis : Int) : Rok (glueV s xs t ys axis) := by
 unfold glueV
 split
 ·exact rok_err (by decide)
 ·split
  ·exact rok_err (by decide)
  ·rename_i h
   refine ⟨fun h => absurd rfl h, fun _ => both_tok ?_⟩
   cases e : okS (s.set axis.toNat (s.getD axis.toNat 0 + t.getD axis.toNat 0)) with
   | true => rfl
   | false => exact absurd (.inr (.inr (.inr (.inr e)))) h
theorem rok_tog (f : Int → Int → Int × Int) (x0 : Int) (s xs : List Int) (axis : Int) : Rok (togV f x0 s xs axis) := by
 unfold togV
 split
 ·exact rok_err (by decide)
 ·rename_i h0
  split
  ·exact rok_err (by decide)
  ·rename_i h1
   split
   ·rename_i h2
    refine ⟨fun h => absurd rfl h, fun _ => ?_⟩
    have ht := tok_not h0
    have ho : okS (s.eraseIdx axis.toNat) = true := ok_erase' (tok_len ht).1 (by omega)
    refine Go.Proofs.ShM.tok_iff.2 ⟨ho, ?_⟩
    show (((togL f x0 s xs axis.toNat).1.length : Nat) : Int) = _
    unfold togL at h2 ⊢
    rw [mapE_len h2, List.length_range]
    exact size_nat ho
   ·rename_i h2; exact rok_err h2
theorem rok_mean (s xs : List Int) (axis : Int) : Rok (meanV s xs axis) := by
 have h := rok_tog addV 0 s xs axis
 have h : Rok (sumV s xs axis) := h
 unfold meanV
 split
 ·rename_i h0
  refine ⟨fun h => absurd rfl h, fun _ => ?_⟩
  obtain ⟨h1, h2⟩ := Go.Proofs.ShM.tok_iff.1 (h.2 h0)
  refine Go.Proofs.ShM.tok_iff.2 ⟨h1, ?_⟩
  show ((((sumV s xs axis).2.1.map _).length : Nat) : Int) = _
  rw [List.length_map]; exact h2
 ·rename_i h0; exact rok_err h0
theorem eok_given (t : T) (s : List Int) : Eok (givenV t s) := by
 unfold givenV
 split
 ·rename_i h; exact ⟨fun h' => absurd rfl h', fun _ => h.1⟩
 ·exact ⟨fun _ => rfl, fun h => by cases h⟩
theorem eok_node (op : Int) (nums : List Int) (ts : List T) (inp : T) (ps : List T) : Eok (nodeE op nums ts inp ps) := by
 unfold nodeE
 split
 ·exact ⟨fun _ => rfl, fun h => by cases h⟩
 ·split
  ·rename_i h0 h1
   rcases node_cases op nums (shT ts) with ⟨s, hs, ho⟩ | hs
   ·rw [hs]
    have hs2 := hs
    unfold nodeV at hs2
    split at hs2
    ·rename_i hc
     rw [getD_sh, getD_sh] at hs2
     unfold kindE
     split
     ·exact eok_given _ _
     ·split
      ·exact eok_given _ _
      ·split
       ·exact eok_of (rok_full _)
       ·split
        ·exact eok_of (rok_two _ _ _ _ _)
        ·split
         ·exact eok_of (rok_one _ _ _)
         ·unfold moreE
          split
          ·exact eok_of (rok_mat _ _ _ _)
          ·split
           ·rename_i h40
            subst h40
            refine eok_of (rok_reshape _ _ _ ?_)
            unfold kindV at hs2
            rw [if_neg (by omega), if_neg (by omega), if_neg (by omega), if_neg (by omega), if_neg (by omega), if_pos rfl] at hs2
            rcases told_cases nums (decide (sizeV nums = sizeV (ts.getD 0 eT).1)) with ⟨_, _, e⟩ | e
            ·exact e
            ·rw [e] at hs2; injection hs2 with _ hs2; cases hs2
           ·split
            ·exact eok_of (rok_turn _ _)
            ·split
             ·rename_i h42
              subst h42
              refine eok_of (rok_slice _ _ _ _ _ ?_)
              obtain ⟨hk, _, hcc⟩ := kind_axis hs2 (by omega)
              rw [if_pos rfl] at hcc
              rcases part_cases (ts.getD 0 eT).1 (nums.getD 0 0) (nums.getD 1 0) (nums.getD 2 0) with ⟨e, _⟩ | e
              ·rw [e] at hcc
               injection hcc with hcc
               rw [hcc]; exact ho
              ·rw [e] at hcc; injection hcc with _ hcc; cases hcc
             ·split
              ·exact eok_of (rok_glue _ _ _ _ _)
              ·split
               ·exact eok_of (rok_tog _ _ _ _ _)
               ·split
                ·exact eok_of (rok_mean _ _ _)
                ·exact eok_of (rok_tog _ _ _ _ _)
    ·injection hs2 with _ hs2; cases hs2
   ·rw [hs] at h1; cases h1
  ·rename_i h1; exact ⟨fun _ => rfl, fun h => absurd h h1⟩
theorem node_few {op : Int} {nums : List Int} {ts : List T} {inp : T} {ps : List T} (h1 : ∀ t ∈ ts, N64 t.2) (h2 : N64 inp.2) (h3 : ∀ t ∈ ps, N64 t.2) (h4 : N64 nums) :
  (nodeE op nums ts inp ps).1.1.length ≤ 100 ∧ (nodeE op nums ts inp ps).1.2.length ≤ 100 ∧ N64 (nodeE op nums ts inp ps).1.1 ∧ N64 (nodeE op nums ts inp ps).1.2 := by
 have hn := n64_node (op := op) h1 h2 h3 h4
 have he := eok_node op nums ts inp ps
 by_cases h : (nodeE op nums ts inp ps).2 = 0
 ·obtain ⟨f1, f2, f3⟩ := tok_few (he.2 h)
  exact ⟨f1, f2, f3, hn⟩
 ·have e := he.1 h
  rw [e]
  exact ⟨by decide, by decide, n64_nil, n64_nil⟩
end Go.Proofs.EvM
