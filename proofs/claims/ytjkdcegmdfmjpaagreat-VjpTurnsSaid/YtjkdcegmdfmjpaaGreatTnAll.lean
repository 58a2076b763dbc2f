import Derived.Test.YtjkdcegmdfmjpaaGreatTk
import Derived.Test.YtjkdcegmdfmjpaaGreatShAll
import Derived.Test.YtjkdcegmdfmjpaaGreatFixMath
import Derived.Deep.RegionWith
import Derived.Deep.DeepCutAuto
import Derived.Deep.RegionHeld3
import Derived.Lib.Mul64
import Derived.Lib.BitFns
import Derived.Laws.CopyOwn
import Derived.Deep.RegionLaw
import Derived.RangeFuncNested
import Derived.RangeFuncBound
import Derived.RangeFuncCalls
import Derived.RangeFuncLeaves
import Derived.Shelf.Abstract
import Derived.Shelf.RegionOpen
import Derived.OwnWalkIn
import Derived.TacticsInMore
import Derived.LoopNIn
import Derived.LoopIn
import Derived.RangeFuncBox
import Derived.StillTailTactics
import Derived.BigQuiet
import Derived.Deep.QuietTactic
import Derived.ProofKit
import Derived.OpenShut
import Derived.Carry
import Derived.Lib.SmallJoins
set_option maxHeartbeats 16000000
set_option maxRecDepth 100000
set_option linter.unusedVariables false
set_option linter.unusedSimpArgs false
namespace Go.Proofs.ShM
open Go.Proofs.FixM (addV put_in put_out put_cases)
def maskL : List Int → List Int → List Int
 | x :: s, i :: t => (if x = 1 then 0 else i) :: maskL s t
 | _, _ => []
def srcI (s g : List Int) (p : Int) : Int := plc s (maskL s ((digs g p).drop (g.length - s.length)))
def tokV (s d : List Int) : Bool := okS s && decide ((d.length : Int) = sizeV s)
abbrev Tn := List Int × List Int × Int
def fullV (s : List Int) (n : Int) : Tn := if okS s = true then (s, List.replicate (sizeV s).toNat n, 0) else ([], [], 20)
def pinV (s d t : List Int) : Int × Int := if tokV s d = true then placeV s t else (0, 30)
def atV (s d t : List Int) : Int × Int := if (pinV s d t).2 = 0 then (d.getD (pinV s d t).1.toNat 0, 0) else (0, (pinV s d t).2)
def spreadL (s d g : List Int) (k : Nat) : List Int := (List.range k).map fun i : Nat => d.getD (srcI s g i).toNat 0
def spreadV (s d g : List Int) : Tn :=
 if tokV s d = true then (if fitsV s g = true then (g, spreadL s d g (sizeV g).toNat, 0) else ([], [], 20)) else ([], [], 30)
def foldG (f : Nat → Nat) : List Int → Nat → List Int → List Int × Int
 | zs, _, [] => (zs, 0)
 | zs, k, x :: d => if (addV (zs.getD (f k) 0) x).2 = 0 then foldG f (zs.set (f k) (addV (zs.getD (f k) 0) x).1) (k + 1) d else ([], (addV (zs.getD (f k) 0) x).2)
def foldL (s g d : List Int) : List Int × Int := foldG (fun i => (srcI s g i).toNat) (List.replicate (sizeV s).toNat 0) 0 d
def foldV (g d s : List Int) : Tn :=
 if tokV g d = true then (if fitsV s g = true then (if (foldL s g d).2 = 0 then (s, (foldL s g d).1, 0) else ([], [], (foldL s g d).2)) else ([], [], 20)) else ([], [], 30)
def AL : List Int → List Int → Prop
 | x :: s, y :: g => (x = 1 ∨ x = y) ∧ AL s g
 | [], [] => True
 | _, _ => False
def srcP : List Int → List Int → Int → Int
 | x :: s, _ :: g, p => (if x = 1 then 0 else p / prodS g) * prodS s + srcP s g (p % prodS g)
 | _, _, _ => 0
theorem jn_al {x y : Int} (h : jn x y = some y) : x = 1 ∨ x = y := by
 unfold jn at h
 split at h
 ·injection h with h; exact .inr h
 ·split at h
  ·exact .inl (by assumption)
  ·cases h
theorem joinL_al {s : List Int} : ∀ {g : List Int}, s.length = g.length → joinL s g = some g → AL s g := by
 induction s with
 | nil => intro g h _; cases g with
  | nil => trivial
  | cons _ _ => simp at h
 | cons x s ih =>
  intro g h hj
  cases g with
  | nil => simp at h
  | cons y g =>
   simp only [joinL, Option.bind_eq_some_iff, Option.map_eq_some_iff] at hj
   obtain ⟨z, hz, l, hl, e⟩ := hj
   injection e with e1 e2
   subst e1 e2
   exact ⟨jn_al hz, ih (by simpa using h) hl⟩
theorem pad_self {n : Nat} {s : List Int} (h : n ≤ s.length) : pad n s = s := by unfold pad; rw [show n - s.length = 0 by omega]; rfl
theorem pad_prod (n : Nat) (s : List Int) : prodS (pad n s) = prodS s := by
 unfold pad
 generalize n - s.length = k
 induction k with
 | zero => rfl
 | succ k ih => rw [List.replicate_succ, List.cons_append]; simp [prodS, ih]
theorem fits_al {s g : List Int} (h : fitsV s g = true) : okS s = true ∧ okS g = true ∧ s.length ≤ g.length ∧ AL (pad g.length s) g := by
 have j := fits_iff.1 h
 have hl := j.sizes.2
 refine ⟨j.1, j.2.1, hl, ?_⟩
 have e : joinV s g = (g, 0) := join_iff.2 j
 unfold joinV at e
 rw [if_pos (by simp [j.1, j.2.1])] at e
 cases hj : joinO s g with
 | none => rw [hj] at e; simp at e
 | some l =>
  rw [hj] at e
  simp only at e
  split at e
  ·injection e with e1 _
   subst e1
   unfold joinO at hj
   rw [show max s.length l.length = l.length by omega, pad_self (s := l) (Nat.le_refl _)] at hj
   exact joinL_al (padl hl) hj
  ·simp at e
theorem srcP_eq (s : List Int) : ∀ (g : List Int) (p : Int), s.length = g.length → srcP s g p = plc s (maskL s (digs g p)) := by
 induction s with
 | nil => intro g p h; cases g <;> simp [srcP, plc]
 | cons x s ih =>
  intro g p h
  cases g with
  | nil => simp at h
  | cons y g => simp only [srcP, digs, maskL, plc]; rw [ih g _ (by simpa using h)]
theorem srcP_pad (s : List Int) (k : Nat) : ∀ (g : List Int) (p : Int), s.length + k = g.length → srcP (List.replicate k 1 ++ s) g p = plc s (maskL s ((digs g p).drop k)) := by
 induction k with
 | zero => intro g p h; exact srcP_eq s g p h
 | succ k ih =>
  intro g p h
  cases g with
  | nil => simp at h
  | cons y g =>
   rw [List.replicate_succ, List.cons_append]
   simp only [srcP, if_true, digs, List.drop_succ_cons, Int.zero_mul, Int.zero_add]
   exact ih g _ (by simp at h; omega)
theorem src_eq {s g : List Int} (h : s.length ≤ g.length) (p : Int) : srcI s g p = srcP (pad g.length s) g p := by
 unfold srcI pad
 rw [srcP_pad s _ g p (by omega)]
theorem pos_of {y P p : Int} (hP : 1 ≤ P) (h0 : 0 ≤ p) (h1 : p < y * P) : 0 ≤ p / P ∧ p / P < y ∧ 0 ≤ p % P ∧ p % P < P :=
 ⟨Int.ediv_nonneg h0 (by omega), Int.ediv_lt_of_lt_mul (by omega) h1, Int.emod_nonneg _ (by omega), Int.emod_lt_of_pos _ (by omega)⟩
theorem lin_lt {q r x P : Int} (hP : 1 ≤ P) (h0 : 0 ≤ q) (h1 : q < x) (h2 : 0 ≤ r) (h3 : r < P) : 0 ≤ q * P + r ∧ q * P + r < x * P ∧ (q * P + r) / P = q ∧ (q * P + r) % P = r := by
 have a := Int.mul_nonneg h0 (show 0 ≤ P by omega)
 have b := Int.mul_le_mul_of_nonneg_right (show q + 1 ≤ x by omega) (show 0 ≤ P by omega)
 rw [Int.add_mul, Int.one_mul] at b
 refine ⟨by omega, by omega, ?_, ?_⟩
 ·rw [Int.add_comm, Int.add_mul_ediv_right _ _ (by omega), Int.ediv_eq_zero_of_lt h2 h3]; omega
 ·rw [Int.add_comm, Int.add_mul_emod_self_right, Int.emod_eq_of_lt h2 h3]
theorem srcP_in {s : List Int} : ∀ {g : List Int} {p : Int}, AL s g → g.all sideB = true → 0 ≤ p → p < prodS g → 0 ≤ srcP s g p ∧ srcP s g p < prodS s ∧ 1 ≤ prodS s := by
 induction s with
 | nil => intro g p h _ _ _; cases g with
  | nil => simp [srcP, prodS]
  | cons _ _ => exact h.elim
 | cons x s ih =>
  intro g p h hg h0 h1
  cases g with
  | nil => exact h.elim
  | cons y g =>
   simp only [List.all_cons, Bool.and_eq_true] at hg
   have hp := prod_pos hg.2
   have hy := sideB_iff.1 hg.1
   obtain ⟨a, b, c, d⟩ := pos_of hp h0 (by simpa [prodS] using h1)
   obtain ⟨i1, i2, i3⟩ := ih h.2 hg.2 c d
   simp only [srcP, prodS]
   have hx : 1 ≤ x := by rcases h.1 with e | e <;> omega
   have hq : 0 ≤ (if x = 1 then 0 else p / prodS g) ∧ (if x = 1 then 0 else p / prodS g) < x := by
    split
    ·omega
    ·rcases h.1 with e | e
     ·contradiction
     ·omega
   obtain ⟨l1, l2, _, _⟩ := lin_lt i3 hq.1 hq.2 i1 i2
   have := Int.mul_le_mul hx i3 (by omega) (by omega)
   exact ⟨l1, l2, by omega⟩
theorem srcP_self {s : List Int} : ∀ {p : Int}, s.all sideB = true → 0 ≤ p → p < prodS s → srcP s s p = p := by
 induction s with
 | nil => intro p _ h0 h1; simp [prodS] at h1; show (0 : Int) = p; omega
 | cons x s ih =>
  intro p hs h0 h1
  simp only [List.all_cons, Bool.and_eq_true] at hs
  have hp := prod_pos hs.2
  obtain ⟨a, b, c, d⟩ := pos_of hp h0 (by simpa [prodS] using h1)
  simp only [srcP, ih hs.2 c d]
  have e := Int.mul_ediv_add_emod p (prodS s)
  rw [Int.mul_comm] at e
  split
  ·have : p / prodS s = 0 := by omega
   rw [this] at e; omega
  ·exact e
theorem ok_all {s : List Int} (h : okS s = true) : s.all sideB = true := (ok_iff.1 h).2.1
theorem src_in {s g : List Int} (h : fitsV s g = true) {p : Int} (h0 : 0 ≤ p) (h1 : p < prodS g) : 0 ≤ srcI s g p ∧ srcI s g p < prodS s := by
 obtain ⟨_, b, c, d⟩ := fits_al h
 rw [src_eq c]
 obtain ⟨e, f, _⟩ := srcP_in d (ok_all b) h0 h1
 rw [pad_prod] at f
 exact ⟨e, f⟩
theorem src_self {s : List Int} (h : okS s = true) {p : Int} (h0 : 0 ≤ p) (h1 : p < prodS s) : srcI s s p = p := by
 rw [src_eq (Nat.le_refl _), pad_self (Nat.le_refl _), srcP_self (ok_all h) h0 h1]
theorem mask_in {s : List Int} : ∀ {g : List Int} {t : List Int}, AL s g → g.all sideB = true → inIdx g t = true → inIdx s (maskL s t) = true := by
 induction s with
 | nil => intro g t _ _ _; cases t <;> rfl
 | cons x s ih =>
  intro g t h hg ht
  cases g with
  | nil => exact h.elim
  | cons y g =>
   cases t with
   | nil => simp [inIdx] at ht
   | cons i t =>
    simp only [List.all_cons, Bool.and_eq_true] at hg
    simp only [inIdx, Bool.and_eq_true, decide_eq_true_eq] at ht
    have hy := sideB_iff.1 hg.1
    simp only [maskL, inIdx, Bool.and_eq_true, decide_eq_true_eq]
    refine ⟨?_, ih h.2 hg.2 ht.2⟩
    split
    ·omega
    ·rcases h.1 with e | e
     ·contradiction
     ·omega
theorem al_drop (k : Nat) : ∀ {s g : List Int}, AL (List.replicate k 1 ++ s) g → AL s (g.drop k) := by
 induction k with
 | zero => intro s g h; exact h
 | succ k ih => intro s g h; cases g with
  | nil => exact h.elim
  | cons y g => exact ih h.2
theorem in_drop {g : List Int} (k : Nat) : ∀ {t : List Int}, k ≤ g.length → inIdx g t = true → inIdx (g.drop k) (t.drop k) = true := by
 induction k generalizing g with
 | zero => intro t _ h; exact h
 | succ k ih => intro t hk h; cases g with
  | nil => simp at hk
  | cons y g => cases t with
   | nil => simp [inIdx] at h
   | cons i t =>
    simp only [inIdx, Bool.and_eq_true] at h
    exact ih (by simpa using hk) h.2
theorem from_in {s g t : List Int} (h : fitsV s g = true) (ht : inIdx g t = true) : inIdx s (maskL s (t.drop (g.length - s.length))) = true := by
 obtain ⟨a, b, c, d⟩ := fits_al h
 exact mask_in (al_drop _ d) (all_drop (ok_all b) _) (in_drop _ (by omega) ht)
theorem src_place {s g : List Int} (h : fitsV s g = true) {p : Int} (h0 : 0 ≤ p) (h1 : p < prodS g) : placeV s (maskL s ((digs g p).drop (g.length - s.length))) = (srcI s g p, 0) := by
 obtain ⟨a, b, c, d⟩ := fits_al h
 exact place_yes a (from_in h (digs_in (ok_all b) h0 h1).1)
def sg : Nat → (Nat → Int) → Int
 | 0, _ => 0
 | n + 1, F => sg n F + F n
theorem sg_congr {n : Nat} {F G : Nat → Int} (h : ∀ i, i < n → F i = G i) : sg n F = sg n G := by
 induction n with
 | zero => rfl
 | succ n ih => simp only [sg]; rw [ih fun i hi => h i (by omega), h n (by omega)]
theorem sg_add (n : Nat) (F G : Nat → Int) : sg n (fun i => F i + G i) = sg n F + sg n G := by
 induction n with
 | zero => rfl
 | succ n ih => simp only [sg, ih]; omega
theorem sg_split (a b : Nat) (F : Nat → Int) : sg (a + b) F = sg a F + sg b fun i => F (a + i) := by
 induction b with
 | zero => simp [sg]
 | succ b ih => rw [← Nat.add_assoc]; simp only [sg, ih]; omega
theorem fold_sum (f : Nat → Nat) (d : List Int) : ∀ (zs : List Int) (k : Nat) (ys : List Int), foldG f zs k d = (ys, 0) → ys.length = zs.length ∧
  ∀ p, p < zs.length → ys.getD p 0 = zs.getD p 0 + sg d.length fun i => if f (k + i) = p then d.getD i 0 else 0 := by
 induction d with
 | nil => intro zs k ys h; simp only [foldG] at h; injection h with h _; subst h; exact ⟨rfl, fun p _ => by simp [sg]⟩
 | cons x d ih =>
  intro zs k ys h
  simp only [foldG] at h
  split at h
  ·rename_i he
   obtain ⟨h1, h2⟩ := ih _ _ _ h
   have hsum : (addV (zs.getD (f k) 0) x).1 = zs.getD (f k) 0 + x := by
    rcases put_cases (zs.getD (f k) 0 + x) with ⟨_, _, e⟩ | ⟨_, e⟩
    ·unfold addV; rw [e]
    ·unfold addV at he; rw [e] at he; simp at he
   refine ⟨by simpa using h1, fun p hp => ?_⟩
   rw [h2 p (by simpa using hp), hsum]
   have e : sg (d.length + 1) (fun i => if f (k + i) = p then (x :: d).getD i 0 else 0) = (if f k = p then x else 0) + sg d.length fun i => if f (k + 1 + i) = p then d.getD i 0 else 0 := by
    rw [Nat.add_comm d.length 1, sg_split]
    simp only [sg, Nat.add_zero, List.getD_cons_zero, Int.zero_add]
    congr 1
    exact sg_congr fun i _ => by rw [show k + (1 + i) = k + 1 + i by omega, Nat.add_comm 1 i, List.getD_cons_succ]
   rw [List.length_cons, e]
   by_cases hf : f k = p
   ·subst hf
    rw [if_pos rfl]
    simp only [List.getD_eq_getElem?_getD, List.getElem?_set_self hp, Option.getD_some]
    omega
   ·rw [if_neg hf]
    simp only [List.getD_eq_getElem?_getD, List.getElem?_set_ne hf]
    omega
  ·rename_i he
   injection h with _ h2
   exact absurd h2 he
theorem fold_small (f : Nat → Nat) (d : List Int) : ∀ (zs : List Int) (k : Nat) (c : Int), 0 ≤ c → (∀ p, p < zs.length → -(c * k) ≤ zs.getD p 0 ∧ zs.getD p 0 ≤ c * k) → (∀ i, i < d.length → -c ≤ d.getD i 0 ∧ d.getD i 0 ≤ c) →
  (∀ i, i < d.length → f (k + i) < zs.length) → c * (k + d.length : Nat) ≤ 9223372036854775807 → (foldG f zs k d).2 = 0 := by
 induction d with
 | nil => intros; rfl
 | cons x d ih =>
  intro zs k c hc hz hd hf hb
  have hfk := hf 0 (by simp)
  rw [Nat.add_zero] at hfk
  have h1 := hz (f k) hfk
  have h2 := hd 0 (by simp)
  rw [List.getD_cons_zero] at h2
  have e1 : c * ((k + 1 : Nat) : Int) = c * k + c := by rw [Int.natCast_add, Int.mul_add]; simp
  have hmon : c * ((k + 1 : Nat) : Int) ≤ c * (k + (x :: d).length : Nat) := Int.mul_le_mul_of_nonneg_left (by simp; omega) hc
  have e : addV (zs.getD (f k) 0) x = (zs.getD (f k) 0 + x, 0) := put_in (by omega) (by omega)
  simp only [foldG, e, if_true]
  refine ih _ (k + 1) c hc (fun p hp => ?_) (fun i hi => ?_) (fun i hi => ?_) (by rw [show k + 1 + d.length = k + (x :: d).length by simp; omega]; exact hb)
  ·rw [List.length_set] at hp
   by_cases hfp : f k = p
   ·subst hfp
    simp only [List.getD_eq_getElem?_getD, List.getElem?_set_self hp, Option.getD_some] at h1 ⊢
    omega
   ·have := hz p hp
    simp only [List.getD_eq_getElem?_getD, List.getElem?_set_ne hfp] at this ⊢
    omega
  ·have := hd (i + 1) (by simpa using hi)
   simpa using this
  ·have := hf (i + 1) (by simpa using hi)
   rw [show k + (i + 1) = k + 1 + i by omega] at this
   simpa using this
def I64s (xs : List Int) : Prop := ∀ x ∈ xs, -9223372036854775808 ≤ x ∧ x ≤ 9223372036854775807
theorem I64s.nil_ : I64s [] := fun x h => by cases h
theorem I64s.get {xs : List Int} (h : I64s xs) {i : Nat} {x : Int} (hx : xs[i]? = some x) : -9223372036854775808 ≤ x ∧ x ≤ 9223372036854775807 := h x (List.mem_of_getElem? hx)
theorem I64s.rep {n : Nat} {x : Int} (h : -9223372036854775808 ≤ x ∧ x ≤ 9223372036854775807) : I64s (List.replicate n x) := fun y hy => by
 obtain ⟨_, rfl⟩ := List.mem_replicate.1 hy; exact h
theorem I64s.set_ {xs : List Int} (h : I64s xs) (j : Nat) {x : Int} (hx : -9223372036854775808 ≤ x ∧ x ≤ 9223372036854775807) : I64s (xs.set j x) := fun y hy => by
 rcases List.mem_or_eq_of_mem_set hy with h' | rfl
 ·exact h y h'
 ·exact hx
theorem add_in {a b : Int} : -9223372036854775808 ≤ (addV a b).1 ∧ (addV a b).1 ≤ 9223372036854775807 := by
 unfold addV
 rcases put_cases (a + b) with ⟨h1, h2, e⟩ | ⟨_, e⟩
 ·rw [e]; exact ⟨h1, h2⟩
 ·rw [e]; simp
theorem tok_iff {s d : List Int} : tokV s d = true ↔ okS s = true ∧ (d.length : Int) = prodS s := by
 unfold tokV
 simp only [Bool.and_eq_true, decide_eq_true_eq]
 exact ⟨fun ⟨a, b⟩ => ⟨a, by rw [← size_ok a]; exact b⟩, fun ⟨a, b⟩ => ⟨a, by rw [size_ok a]; exact b⟩⟩
theorem tok_len {s d : List Int} (h : tokV s d = true) : okS s = true ∧ (sizeV s).toNat = d.length ∧ 1 ≤ d.length ∧ d.length ≤ 64 := by
 obtain ⟨a, b⟩ := tok_iff.1 h
 have := ok_prod a
 rw [size_ok a]
 exact ⟨a, by omega, by omega, by omega⟩
theorem spread_len (s d g : List Int) (k : Nat) : (spreadL s d g k).length = k := by simp [spreadL]
theorem size_nat {g : List Int} (h : okS g = true) : ((sizeV g).toNat : Int) = prodS g := by
 have := ok_prod h
 rw [size_ok h]; omega
theorem ext0 {a b : List Int} (h : a.length = b.length) (k : ∀ i, i < a.length → a.getD i 0 = b.getD i 0) : a = b := by
 refine List.ext_getElem h fun i h1 h2 => ?_
 have := k i h1
 simpa [List.getD_eq_getElem?_getD, h1, h2] using this
theorem fold_cases (g d s : List Int) : (tokV g d = false ∧ foldV g d s = ([], [], 30)) ∨ (tokV g d = true ∧ fitsV s g = false ∧ foldV g d s = ([], [], 20)) ∨
  (tokV g d = true ∧ fitsV s g = true ∧ (foldL s g d).2 ≠ 0 ∧ foldV g d s = ([], [], (foldL s g d).2)) ∨
  (tokV g d = true ∧ fitsV s g = true ∧ (foldL s g d).2 = 0 ∧ foldV g d s = (s, (foldL s g d).1, 0)) := by
 unfold foldV
 cases tokV g d <;> cases fitsV s g <;> by_cases h : (foldL s g d).2 = 0 <;> simp [h]
theorem foldL_sum {s g d : List Int} (h : fitsV s g = true) (k : (foldL s g d).2 = 0) :
  ((foldL s g d).1.length : Int) = prodS s ∧ ∀ p : Nat, (p : Int) < prodS s → (foldL s g d).1.getD p 0 = sg d.length fun i => if (srcI s g i).toNat = p then d.getD i 0 else 0 := by
 have hn := size_nat (fits_al h).1
 have e : foldL s g d = ((foldL s g d).1, 0) := Prod.ext rfl k
 obtain ⟨h1, h2⟩ := fold_sum _ d _ 0 _ e
 rw [List.length_replicate] at h1 h2
 refine ⟨by omega, fun p hp => ?_⟩
 rw [h2 p (by omega)]
 have : (List.replicate (sizeV s).toNat (0 : Int)).getD p 0 = 0 := by
  rw [List.getD_eq_getElem?_getD, List.getElem?_replicate]; split <;> rfl
 rw [this, Int.zero_add]
 exact sg_congr fun i _ => by rw [Nat.zero_add]
theorem rep_getD (n : Nat) (x : Int) (i : Nat) (h : i < n) : (List.replicate n x).getD i 0 = x := by
 rw [List.getD_eq_getElem?_getD, List.getElem?_replicate, if_pos h]; rfl
theorem full_tok {s : List Int} (n : Int) (h : okS s = true) : tokV s (List.replicate (sizeV s).toNat n) = true := tok_iff.2 ⟨h, by rw [List.length_replicate, size_nat h]⟩
end Go.Proofs.ShM
namespace Go.Proofs.YtjkdcegmdfmjpaaGreat
open Go.RowKit Go.Proofs.ShM
namespace TnA
theorem tok_no {s d : List Int} (h : okS s = false) : tokV s d = false := by unfold tokV; rw [h]; rfl
theorem tok_is {s d : List Int} (h : okS s = true) : tokV s d = ((d.length : Int) == sizeV s) := by
 unfold tokV; rw [h, Bool.eq_iff_iff]; simp
end TnA
theorem quiet_same {f : FuncId} {args : Array Value} {w : World} {n : Nat} {v : Value} (h : Calls Tryz.prog f args (w.drewN n) fun e w' => e = .returned v ∧ w.drewN n = w') :
  Calls Tryz.prog f args (w.drewN n) fun e w'' => e = .returned v ∧ ∃ m, w'' = w.drewN m := h.mono fun _ _ ⟨he, hm⟩ => ⟨he, n, hm.symm⟩
theorem tcheck_any (A B : Option Addr) (c d : Nat) (s xs : List Int) (w : World) (h : Rd w A s) (g : Rd w B xs) :
  Calls Tryz.prog 13 #[.agg #[.slice A s.length c, .slice B xs.length d]] w fun e w' => e = .returned (.bool (tokV s xs)) ∧ Kp w w' := by
 have hl := h.len
 have gl := g.len
 have HC : Hid (∀ W, Kp w W → Calls Tryz.prog 20 #[.slice A s.length c] W fun e w' => e = .returned (.bool (okS s)) ∧ W = w') := fun W k => check_any A c s W (h.kp k)
 have HS : Hid (∀ W, Kp w W → Calls Tryz.prog 22 #[.slice A s.length c] W fun e w' => e = .returned (.int .i64 (sizeV s)) ∧ W = w') := fun W k => size_any A c s W (h.kp k)
 have K0 : Hid (Kp w (w.alloc (.cells #[.slice A s.length c, .slice B xs.length d] 27))) := Kp.alloc_ _ _
 cases ho : okS s with
 | false =>
  rw [ho] at HC
  have HF := lH (TnA.tok_no (d := xs) ho)
  clear ho
  go_enter Tryz.func13, Tryz.ntmps13
  go_wp2
  go_quiet ((go_at_call 20; exact quiet_same (HC.out _ (K0.out.tr (Kp.drewN_ _ _)))))
  go_wp2
  go_ret
  exact ⟨ret_bool HF.out.symm, K0.out.tr (Kp.drewN_ _ _)⟩
 | true =>
  rw [ho] at HC
  have HF := lH (TnA.tok_is (d := xs) ho)
  clear ho
  go_enter Tryz.func13, Tryz.ntmps13
  go_wp2
  go_quiet (first | (go_at_call 20; exact quiet_same (HC.out _ (K0.out.tr (Kp.drewN_ _ _)))) | (go_at_call 22; exact quiet_same (HS.out _ (K0.out.tr (Kp.drewN_ _ _)))))
  go_wp2
  go_ret
  exact ⟨ret_bool HF.out.symm, K0.out.tr (Kp.drewN_ _ _)⟩
def fewV (n m : Nat) : Bool := decide (n ≤ 100) && decide (m ≤ 100)
theorem few_any (A B : Option Addr) (c d n m : Nat) (w : World) (h : n ≤ 9223372036854775807) (g : m ≤ 9223372036854775807) :
  Calls Tryz.prog 8 #[.agg #[.slice A n c, .slice B m d]] w fun e w' => e = .returned (.bool (fewV n m)) ∧ Kp w w' := by
 have K0 : Hid (Kp w (w.alloc (.cells #[.slice A n c, .slice B m d] 27))) := Kp.alloc_ _ _
 by_cases h1 : n ≤ 100
 ·have HF : Hid (decide ((m : Int) ≤ 100) = fewV n m) := by show _ = fewV n m; unfold fewV; simp [h1]; omega
  go_enter Tryz.func8, Tryz.ntmps8
  go_wp2
  go_ret
  exact ⟨ret_bool HF.out, K0.out⟩
 ·have HF : Hid (fewV n m = false) := by show fewV n m = false; unfold fewV; simp [h1]
  go_enter Tryz.func8, Tryz.ntmps8
  go_wp2
  go_ret
  exact ⟨ret_bool HF.out.symm, K0.out⟩
def RetO (xs : List Int) (w : World) (e : Ending) (w' : World) : Prop := ∃ A c, e = .returned (.slice A xs.length c) ∧ Own w.heap.size w' (.slice A xs.length c) xs ∧ Kp w w'
theorem clone_any (A : Option Addr) (c : Nat) (xs : List Int) (w : World) (h : Rd w A xs) (hs : xs.length ≤ 1000000) :
  Calls Tryz.prog 23 #[.slice A xs.length c] w (RetO xs w) := by
 have qT : ∀ (w : World) (a : Option Addr) (n c : Nat), (binOp .eql 22 (.slice a n c) (.slice none 0 0)).run Tryz.prog w = .ok (.bool a.isNone) w := fun w a n c => Lib.run_eql_slice_nil w _ _ a n c 0 0 Tryz.underlying22
 cases A with
 | none =>
  obtain rfl : xs = [] := by
   cases xs with
   | nil => rfl
   | cons x xs => obtain ⟨ad, e, _⟩ := h.2 (by simp); cases e
  go_enter Tryz.func23, Tryz.ntmps23
  go_wp2
  go_ret
  exact ⟨none, 0, rfl, Own.nil_ _ _, Kp.refl _⟩
 | some ad =>
  go_enter Tryz.func23, Tryz.ntmps23
  go_wp2_with (at_builtin; refine wpList_app rfl (.tmp 5) (.tmp 6) rfl _ [] rfl (Own.zero w (Nat.le_refl _)) (some ad) c xs _ rfl rfl (h.alloc_ _) (by simpa using hs) (by simp) ?_; intro z1 A1 c1 w1 HZ o1 b1; have K1 := lH ((Kp.alloc_ w _).trans b1); have R1 := lH o1; clear o1 b1)
  go_ret
  have hz : z1 = xs := by have := HZ.out; simpa using this
  subst hz
  exact ⟨A1, c1, rfl, R1.out, K1.out⟩
open Go.RowKit Go.Proofs.ShM
namespace TnB
theorem pin_cases (s d t : List Int) : (∃ e : Int, (e = 30 ∨ e = 20) ∧ pinV s d t = (0, e)) ∨ ∃ k : Nat, k < d.length ∧ pinV s d t = ((k : Int), 0) ∧ tokV s d = true := by
 cases h : tokV s d with
 | false => exact .inl ⟨30, .inl rfl, by unfold pinV; rw [h]; rfl⟩
 | true =>
  obtain ⟨a, b⟩ := tok_iff.1 h
  have e : pinV s d t = placeV s t := by unfold pinV; rw [if_pos h]
  cases ht : inIdx s t with
  | false => exact .inl ⟨20, .inr rfl, by rw [e]; exact place_no (.inr ht)⟩
  | true =>
   obtain ⟨p0, p1, _⟩ := plc_in (ok_all a) ht
   refine .inr ⟨(plc s t).toNat, by omega, ?_, rfl⟩
   rw [e, place_yes a ht, Int.toNat_of_nonneg p0]
theorem at_yes {s d t : List Int} {k : Nat} {x : Int} (h : pinV s d t = ((k : Int), 0)) (hx : d[k]? = some x) : atV s d t = (x, 0) := by
 unfold atV; rw [h]; simp [hx]
theorem at_err {s d t : List Int} {e : Int} (h : pinV s d t = (0, e)) (he : e = 30 ∨ e = 20) : atV s d t = (0, e) := by
 unfold atV; rw [h]; rcases he with rfl | rfl <;> rfl
theorem pin_no {s d : List Int} (t : List Int) (h : tokV s d = false) : pinV s d t = (0, 30) := by unfold pinV; rw [h]; rfl
theorem pin_is {s d : List Int} (t : List Int) (h : tokV s d = true) : pinV s d t = placeV s t := by unfold pinV; rw [h]; rfl
end TnB
theorem RetK.of {r : Int × Int} {n err : Int} {w w' : World} (h : r = (n, err)) (k : Kp w w') : RetK r.1 r.2 w (.returned (.tuple #[.int .i64 n, .int .i64 err])) w' := ⟨by rw [h], k⟩
theorem pin_any (A B C : Option Addr) (c d g : Nat) (s xs t : List Int) (w : World) (hA : Rd w A s) (hB : Rd w B xs) (hC : Rd w C t) :
  Calls Tryz.prog 162 #[.agg #[.slice A s.length c, .slice B xs.length d], .slice C t.length g] w (RetK (pinV s xs t).1 (pinV s xs t).2 w) := by
 have hl := hA.len
 have gl := hB.len
 have kl := hC.len
 have K0 : Hid (Kp w (w.alloc (.cells #[.slice A s.length c, .slice B xs.length d] 27))) := Kp.alloc_ _ _
 have HT := lH (tcheck_any A B c d s xs _ (hA.kp K0.out) (hB.kp K0.out))
 cases ht : tokV s xs with
 | false =>
  rw [ht] at HT
  have HF := lH (TnB.pin_no t ht)
  clear ht
  go_enter Tryz.func162, Tryz.ntmps162
  go_wp2_with fail
  refine (Calls.mono (Hid.out HT)) ?_; rintro e w1 ⟨rfl, k1⟩
  go_wp2
  go_ret2
  exact RetK.of HF.out (K0.out.tr k1)
 | true =>
  rw [ht] at HT
  have HF := lH (TnB.pin_is t ht)
  clear ht
  obtain ⟨p, hp⟩ := eX (placeV s t)
  have HP : Hid (∀ W, Kp w W → Calls Tryz.prog 167 #[.slice A s.length c, .slice C t.length g] W (RetN p W)) := fun W k => by rw [hp]; exact place_any A C c g s t W (hA.kp k) (hC.kp k)
  rw [← hp] at HF
  clear hp
  go_enter Tryz.func162, Tryz.ntmps162
  go_wp2_with fail
  refine (Calls.mono (Hid.out HT)) ?_; rintro e w1 ⟨rfl, k1⟩
  have c0 : w1.cell? ⟨w.heap.size, 0, none⟩ = some (.slice A s.length c) := (k1.cell (p := ⟨w.heap.size, 0, none⟩) (by simp)).trans (World.cell?_alloc_at _ _ _ 0 rfl)
  have K1 := lH (K0.out.tr k1)
  clear k1
  go_wp2_with fail
  refine (Calls.mono (HP.out _ K1.out)) ?_; rintro e w2 ⟨rfl, n, rfl⟩
  go_wp2
  go_ret2
  exact RetK.of HF.out (K1.out.tr (Kp.drewN_ _ _))
theorem at_any (A B C : Option Addr) (c d g : Nat) (s xs t : List Int) (w : World) (hA : Rd w A s) (hB : Rd w B xs) (hC : Rd w C t) :
  Calls Tryz.prog 142 #[.agg #[.slice A s.length c, .slice B xs.length d], .slice C t.length g] w (RetK (atV s xs t).1 (atV s xs t).2 w) := by
 have hl := hA.len
 have gl := hB.len
 have kl := hC.len
 have K0 : Hid (Kp w (w.alloc (.cells #[.slice A s.length c, .slice B xs.length d] 27))) := Kp.alloc_ _ _
 have HT := lH (pin_any A B C c d g s xs t _ (hA.kp K0.out) (hB.kp K0.out) (hC.kp K0.out))
 rcases TnB.pin_cases s xs t with ⟨e, he, hp⟩ | ⟨k, hk, hp, _⟩
 ·rw [hp] at HT
  have HF := lH (TnB.at_err hp he)
  clear hp
  rcases he with rfl | rfl
  all_goals
   go_enter Tryz.func142, Tryz.ntmps142
   go_wp2_with fail
   refine (Calls.mono (Hid.out HT)) ?_; rintro e w1 ⟨rfl, k1⟩
   go_wp2
   go_ret2
   exact RetK.of HF.out (K0.out.tr k1)
 ·rw [hp] at HT
  obtain ⟨bd, x, rfl, hlt, hx, hc⟩ := hB.at_ hk
  have HF := lH (TnB.at_yes hp hx)
  clear hp hx
  go_enter Tryz.func142, Tryz.ntmps142
  go_wp2_with fail
  refine (Calls.mono (Hid.out HT)) ?_; rintro e w1 ⟨rfl, k1⟩
  have c0 : w1.cell? ⟨w.heap.size, 1, none⟩ = some (.slice (some bd) xs.length d) := (k1.cell (p := ⟨w.heap.size, 1, none⟩) (by simp)).trans (World.cell?_alloc_at _ _ _ 1 rfl)
  have c1 : w1.cell? (bd.add k) = some (.int .i64 x) := ((K0.out.tr k1).cell (by rw [block_of_add]; exact hlt)).trans hc
  have K1 := lH (K0.out.tr k1)
  clear k1 hc
  go_wp2
  go_ret2
  exact RetK.of HF.out K1.out
open Go.RowKit Go.Proofs.ShM
section
variable {w w' : World} {A B : Option Addr} {xs : List Int} {v : Value} {b n c : Nat}
theorem Rd.put_ (h : Rd w A xs) {p : Addr} (hp : ∀ ad, A = some ad → ad.block ≠ p.block) (u : Value) : Rd (w.setCell p u) A xs :=
 ⟨h.1, fun hn => by
  obtain ⟨ad, e, hb, hc⟩ := h.2 hn
  refine ⟨ad, e, by rw [World.size_setCell]; exact hb, fun j x hx => ?_⟩
  rw [World.cell?_setCell_other]
  ·exact hc j x hx
  ·intro e'
   exact hp ad e (by rw [e', block_of_add])⟩
theorem Own.put_ (h : Own b w v xs) {p : Addr} (hp : p.block < b) (u : Value) : Own b (w.setCell p u) v xs :=
 h.of_block fun g hg => by
  have := h.from_ hg
  exact Below.heap_setCell _ _ _ g (by omega)
theorem Own.addr (h : Own b w (.slice A n c) xs) (hx : 0 < xs.length) : ∃ g, A = some ⟨g, 0, none⟩ ∧ b ≤ g ∧ g < w.heap.size := by
 rcases h.2 with ⟨e, h0⟩ | ⟨g, cap, cur, e, hb, hh, _⟩
 ·omega
 ·injection e with e1 _ _
  exact ⟨g, e1, hb, (Array.getElem?_eq_some_iff.1 hh).1⟩
theorem Own.where_ (h : Own b w v xs) {g : Nat} (hg : v.ownBlock = some g) : b ≤ g ∧ g < w.heap.size := by
 rcases h.2 with ⟨rfl, _⟩ | ⟨g', cap, cur, rfl, hb, hh, _⟩
 ·cases hg
 ·injection hg with hg
  subst hg
  exact ⟨hb, (Array.getElem?_eq_some_iff.1 hh).1⟩
theorem Own.ad (h : Own b w (.slice A n c) xs) {ad : Addr} (hA : A = some ad) : b ≤ ad.block ∧ ad.block < w.heap.size := by
 subst hA
 exact h.where_ rfl
theorem Sl.put_ (h : Sl w A c xs) {p : Addr} (hp : ∀ ad, A = some ad → ad.block ≠ p.block) (u : Value) : Sl (w.setCell p u) A c xs := ⟨h.rd.put_ hp u, h.le, h.cap⟩
theorem Sl.of (h : Rd w A xs) (hc : xs.length ≤ c ∧ c ≤ 9223372036854775807) : Sl w A c xs := ⟨h, hc.1, hc.2⟩
theorem Sl.room (h : Sl w A c xs) : xs.length ≤ c ∧ c ≤ 9223372036854775807 := ⟨h.le, h.cap⟩
theorem Sl.alloc_ (h : Sl w A c xs) (o : Obj) : Sl (w.alloc o) A c xs := h.kp (Kp.alloc_ _ _)
theorem Kp.al (h : Kp w w') (o : Obj) : Kp w (w'.alloc o) := h.tr (Kp.alloc_ _ _)
end
def RetT (r : Tn) (w : World) (e : Ending) (w' : World) : Prop :=
 ∃ A c B d, e = .returned (.tuple #[.agg #[.slice A r.1.length c, .slice B r.2.1.length d], .int .i64 r.2.2]) ∧ Sl w' A c r.1 ∧ Sl w' B d r.2.1 ∧ Kp w w'
theorem RetT.of {r : Tn} {l m : List Int} {err : Int} {w w' : World} {A B : Option Addr} {c d : Nat} (h : r = (l, m, err)) (hA : Sl w' A c l) (hB : Sl w' B d m) (k : Kp w w') :
  RetT r w (.returned (.tuple #[.agg #[.slice A l.length c, .slice B m.length d], .int .i64 err])) w' := by
 subst h; exact ⟨A, c, B, d, rfl, hA, hB, k⟩
theorem RetT.on {r : Tn} {l m : List Int} {a b : Nat} {err : Int} {w w' : World} {A B : Option Addr} {c d : Nat} (h : r = (l, m, err)) (ha : a = l.length) (hb : b = m.length) (hA : Sl w' A c l) (hB : Sl w' B d m) (k : Kp w w') :
  RetT r w (.returned (.tuple #[.agg #[.slice A a c, .slice B b d], .int .i64 err])) w' := by
 subst ha hb; exact RetT.of h hA hB k
theorem RetT.err {r : Tn} {err : Int} {w w' : World} (h : r = ([], [], err)) (k : Kp w w') : RetT r w (.returned (.tuple #[.agg #[.slice none 0 0, .slice none 0 0], .int .i64 err])) w' :=
 RetT.of (A := none) (B := none) h (Sl.nil_ _) (Sl.nil_ _) k
structure Fr (w : World) (A : Option Addr) (n c : Nat) (B : Option Addr) (m d : Nat) (w' : World) : Prop where
 kp : Kp w w'
 b0 : w'.cell? ⟨w.heap.size, 0, none⟩ = some (.slice A n c)
 b1 : w'.cell? ⟨w.heap.size, 1, none⟩ = some (.slice B m d)
 r0 : w'.cell? ⟨w.heap.size + 1, 0, none⟩ = some (.slice none 0 0)
 r1 : w'.cell? ⟨w.heap.size + 1, 1, none⟩ = some (.slice none 0 0)
 f0 : w'.frozen? ⟨w.heap.size + 1, 0, none⟩ = false
 f1 : w'.frozen? ⟨w.heap.size + 1, 1, none⟩ = false
 sz : w.heap.size + 2 ≤ w'.heap.size
theorem Fr.tr {w : World} {A : Option Addr} {n c : Nat} {B : Option Addr} {m d : Nat} {a b : World} (h : Fr w A n c B m d a) (k : Kp a b) : Fr w A n c B m d b where
 kp := h.kp.tr k
 b0 := (k.cell (p := ⟨w.heap.size, 0, none⟩) (by have := h.sz; show w.heap.size < _; omega)).trans h.b0
 b1 := (k.cell (p := ⟨w.heap.size, 1, none⟩) (by have := h.sz; show w.heap.size < _; omega)).trans h.b1
 r0 := (k.cell (p := ⟨w.heap.size + 1, 0, none⟩) (by have := h.sz; show w.heap.size + 1 < _; omega)).trans h.r0
 r1 := (k.cell (p := ⟨w.heap.size + 1, 1, none⟩) (by have := h.sz; show w.heap.size + 1 < _; omega)).trans h.r1
 f0 := (k.frozen (p := ⟨w.heap.size + 1, 0, none⟩) (by have := h.sz; show w.heap.size + 1 < _; omega)).trans h.f0
 f1 := (k.frozen (p := ⟨w.heap.size + 1, 1, none⟩) (by have := h.sz; show w.heap.size + 1 < _; omega)).trans h.f1
 sz := Nat.le_trans h.sz k.size
theorem Fr.mk_ (w : World) (A : Option Addr) (n c : Nat) (B : Option Addr) (m d : Nat) (t : TypeId) : Fr w A n c B m d ((w.alloc (.cells #[.slice A n c, .slice B m d] t)).alloc (.cells #[.slice none 0 0, .slice none 0 0] t)) where
 kp := (Kp.alloc_ _ _).tr (Kp.alloc_ _ _)
 b0 := by simp
 b1 := by simp
 r0 := by simp
 r1 := by simp
 f0 := by simp
 f1 := by simp
 sz := by simp
theorem Fr.end_ {w : World} {A : Option Addr} {n c : Nat} {B : Option Addr} {m d : Nat} {a : World} (h : Fr w A n c B m d a) (x y : Value) : Kp w ((a.setCell ⟨w.heap.size + 1, 0, none⟩ x).setCell ⟨w.heap.size + 1, 1, none⟩ y) :=
 (h.kp.setCell (p := ⟨w.heap.size + 1, 0, none⟩) (by simp) x).setCell (p := ⟨w.heap.size + 1, 1, none⟩) (by simp) y
theorem cell_ne {w : World} {p q : Addr} {u v : Value} (h : p ≠ q) (hc : w.cell? q = some v) : (w.setCell p u).cell? q = some v := by
 rw [World.cell?_setCell_other]
 ·exact hc
 ·exact h
theorem some_ne {w : World} {p q : Addr} {u : Value} (h : p ≠ q) (hc : (w.cell? q).isSome = true) : ((w.setCell p u).cell? q).isSome = true := by
 rw [World.cell?_setCell_other]
 ·exact hc
 ·exact h
open Go.RowKit
namespace FixB
theorem mask (a : Nat) (ha : a < 18446744073709551616) : bits .and .u64 (a : Int) 4294967295 = ((a % 4294967296 : Nat) : Int) := by
 have h := bits_and_u64_nat a 4294967295 ha (by omega)
 rw [show a &&& 4294967295 = a % 4294967296 from Nat.and_two_pow_sub_one_eq_mod a 32] at h
 exact h
theorem divc (a : Nat) : (a : Int) / 4294967296 = ((a / 4294967296 : Nat) : Int) := by omega
theorem mulc (a b : Nat) : (a : Int) * (b : Int) = ((a * b : Nat) : Int) := (Int.natCast_mul a b).symm
theorem addc (a b : Nat) : (a : Int) + (b : Int) = ((a + b : Nat) : Int) := (Int.natCast_add a b).symm
theorem wrapc (a : Nat) (ha : a < 18446744073709551616) : IntKind.u64.wrap (a : Int) = (a : Int) := by rw [IntKind.wrap_u64]; omega
theorem wrapm (a : Nat) : IntKind.u64.wrap (a : Int) = ((a % 18446744073709551616 : Nat) : Int) := by rw [IntKind.wrap_u64]; omega
end FixB
theorem mul64_any (x y : Nat) (hx : x < 18446744073709551616) (hy : y < 18446744073709551616) (w : World) :
  Calls Tryz.prog 112 #[.int .u64 x, .int .u64 y] w fun e w' => e = .returned (.tuple #[.int .u64 ((x * y / 18446744073709551616 : Nat) : Int), .int .u64 ((x * y % 18446744073709551616 : Nat) : Int)]) ∧ w = w' := by
 obtain ⟨bd, bt, bw, hhi⟩ := Lib.mul64_hi x y hx hy
 have ba := Lib.half_mul_le (a := x / 4294967296) (b := y / 4294967296) (by omega) (by omega)
 have bb := Lib.half_mul_le (a := x / 4294967296) (b := y % 4294967296) (by omega) (by omega)
 have bc := Lib.half_mul_le (a := x % 4294967296) (b := y / 4294967296) (by omega) (by omega)
 have ba' : x / 4294967296 * (y / 4294967296) < 18446744073709551616 := by omega
 have bb' : x / 4294967296 * (y % 4294967296) < 18446744073709551616 := by omega
 have bc' : x % 4294967296 * (y / 4294967296) < 18446744073709551616 := by omega
 have b1 : x / 4294967296 * (y / 4294967296) + (x / 4294967296 * (y % 4294967296) + x % 4294967296 * (y % 4294967296) / 4294967296) / 4294967296 < 18446744073709551616 := by omega
 have b2 : x / 4294967296 * (y / 4294967296) + (x / 4294967296 * (y % 4294967296) + x % 4294967296 * (y % 4294967296) / 4294967296) / 4294967296 + ((x / 4294967296 * (y % 4294967296) + x % 4294967296 * (y % 4294967296) / 4294967296) % 4294967296 + x % 4294967296 * (y / 4294967296)) / 4294967296 < 18446744073709551616 := by omega
 go_enter Tryz.func112, Tryz.ntmps112
 go_wp2
 simp only [FixB.mask x hx, FixB.mask y hy, FixB.divc, FixB.mulc, FixB.addc, FixB.wrapc _ bd, FixB.wrapc _ bb', FixB.wrapc _ bt, FixB.mask _ bt, FixB.wrapc _ bc', FixB.wrapc _ bw, FixB.wrapc _ ba', FixB.wrapc _ b1, FixB.wrapc _ b2, FixB.wrapm (x * y)]
 rw [hhi]
 go_ret2
 exact ⟨rfl, rfl⟩
theorem mul_any (x y : Nat) (hx : x < 18446744073709551616) (hy : y < 18446744073709551616) (w : World) :
  Calls Tryz.prog 77 #[.int .u64 x, .int .u64 y] w fun e w' => e = .returned (.tuple #[.int .u64 ((x * y / 18446744073709551616 : Nat) : Int), .int .u64 ((x * y % 18446744073709551616 : Nat) : Int)]) ∧ w = w' := by
 have HC := lH (mul64_any x y hx hy w)
 generalize ((x * y / 18446744073709551616 : Nat) : Int) = p at *
 generalize ((x * y % 18446744073709551616 : Nat) : Int) = q at *
 clear hx hy
 go_enter Tryz.func77, Tryz.ntmps77
 go_wp2_with fail
 refine (Calls.mono (Hid.out HC)) ?_; rintro e w1 ⟨rfl, rfl⟩
 go_wp2
 go_ret2
 exact ⟨rfl, rfl⟩
open Go.RowKit Go.Proofs.ShM
def repL (n : Int) (m k : Nat) : List Int := List.replicate m n ++ List.replicate (k - m) 0
theorem repL_len {n : Int} {m k : Nat} (h : m ≤ k) : (repL n m k).length = k := by unfold repL; simp; omega
theorem repL_end (n : Int) (k : Nat) : repL n k k = List.replicate k n := by unfold repL; simp
def repC (n : Int) (m k : Nat) : List Value := (repL n m k).map (Value.int .i64)
theorem repC_len {n : Int} {m k : Nat} (h : m ≤ k) : (repC n m k).length = k := by unfold repC; rw [List.length_map, repL_len h]
theorem repC_zero (n : Int) (k : Nat) : List.replicate k (Value.int .i64 0) = repC n 0 k := by unfold repC repL; simp
theorem rep_splice (n : Int) (m k c : Nat) : splice (repC n m k) m (List.replicate c (Value.int .i64 n)) = repC n (m + c) k := by
 unfold splice repC repL
 simp only [List.map_append, List.map_replicate, List.length_replicate]
 rw [List.take_append_of_le_length (by simp), List.take_of_length_le (by simp), List.drop_append]
 simp only [List.length_replicate, List.drop_replicate]
 rw [show m - (m + c) = 0 by omega, show m + c - m = c by omega, show k - m - c = k - (m + c) by omega, ← List.append_assoc, List.replicate_append_replicate]
 rfl
theorem repC_at {n : Int} {m k j : Nat} (h : j < m) : (repC n m k)[j]? = some (Value.int .i64 n) := by
 unfold repC repL
 rw [List.getElem?_map, List.getElem?_append_left (by simpa using h), List.getElem?_replicate, if_pos h]; rfl
theorem alloc_new (w : World) (o : Obj) : (w.alloc o).heap[w.heap.size]? = some o := by
 show (w.heap.push o)[w.heap.size]? = some o
 simp
theorem cell_of_row {w : World} {g : Nat} {cs : List Value} {t : TypeId} (h : w.heap[g]? = some (.cells cs.toArray t (0, 0))) (j : Nat) {v : Value} (hv : cs[j]? = some v) : w.cell? ⟨g, j, none⟩ = some v := by
 simp [World.cell?, h, hv]
theorem Own.of_row {B g k : Nat} {w : World} {xs : List Int} (hg : w.heap[g]? = some (.cells (xs.map (Value.int .i64)).toArray 3 (0, 0))) (hB : B ≤ g) (hk : xs.length = k) (hm : k ≤ 1000000) : Own B w (.slice (some ⟨g, 0, none⟩) k k) xs := by
 subst hk
 exact ⟨by simp, .inr ⟨g, xs.length, _, rfl, hB, hg, Nat.le_refl _, by unfold maxLen; omega, by simp, by rw [Nat.mul_one]; exact List.take_of_length_le (by simp)⟩⟩
theorem RetO.on {xs : List Int} {n c : Nat} {A : Option Addr} {w w' : World} (hn : n = xs.length) (h : Own w.heap.size w' (.slice A n c) xs) (k : Kp w w') : RetO xs w (.returned (.slice A n c)) w' := by
 subst hn; exact ⟨A, c, rfl, h, k⟩
theorem repeat_any (n : Int) (k : Nat) (b : Nat) (w : World) (h0 : 0 < k) (hk : k ≤ 64) (hb : b < w.heap.size) (hc : w.cell? ⟨b, 0, none⟩ = some (.int .i64 n)) :
  Calls Tryz.prog 21 #[.slice (some ⟨b, 0, none⟩) 1 1, .int .i64 (k : Int)] w (RetO (List.replicate k n) w) := by
 have HM : Hid (Calls Tryz.prog 77 #[.int .u64 1, .int .u64 (k : Int)] w fun e w' => e = .returned (.tuple #[.int .u64 0, .int .u64 (k : Int)]) ∧ w = w') := by
  have hh := mul_any 1 k (by omega) (by omega) w
  rw [show 1 * k / 18446744073709551616 = 0 by omega, show 1 * k % 18446744073709551616 = k by omega] at hh
  exact hh
 have e1 : IntKind.u64.wrap (k : Int) = k := IntWalk.u64_in _ (by omega)
 have e2 : IntKind.i64.wrap (k : Int) = k := IntWalk.i64_in _ (by omega)
 have d1 : decide ((9223372036854775807 : Int) < (k : Int)) = false := by simp; omega
 have hmk := fun W => run_mk W k (by omega)
 obtain ⟨cs, hcs⟩ := eX ((List.replicate k (Value.int .i64 0)).toArray)
 rw [← hcs] at hmk
 have HCS := lH hcs
 have HC := lH hc
 clear hcs hc
 go_enter Tryz.func21, Tryz.ntmps21
 go_wp2_with fail
 refine (Calls.mono (Hid.out HM)) ?_; rintro e w1 ⟨rfl, rfl⟩
 go_upto_region 7 with fail
 have hs1 : (Tryz.prog.info? 3).map (·.size) = some 1 := by kernel_rfl
 have hrow : (w.alloc (.cells cs 3)).heap[w.heap.size]? = some (.cells (repC n 0 k).toArray 3 (0, 0)) := by rw [HCS.out, repC_zero n]; exact alloc_new w _
 have hsrc : (w.alloc (.cells cs 3)).cell? ⟨b, 0, none⟩ = some (.int .i64 n) := ((Kp.alloc_ w _).cell (p := ⟨b, 0, none⟩) hb).trans HC.out
 have hpos : 0 < (List.replicate 1 (Value.int .i64 n)).length → some (⟨w.heap.size, 0, none⟩ : Addr) = some ⟨w.heap.size, 0, none⟩ ∧ ∃ ad, some (⟨b, 0, none⟩ : Addr) = some ad ∧ ∀ j v, (List.replicate 1 (Value.int .i64 n))[j]? = some v → (w.alloc (.cells cs 3)).cell? (ad.add j) = some v := fun _ => ⟨rfl, ⟨b, 0, none⟩, rfl, fun j v hv => by
  cases j with
  | zero => injection hv with hv; rw [← hv]; exact hsrc
  | succ j => simp at hv⟩
 go_wp2_with (refine wpList_copy_splice rfl (.tmp 31) (.tmp 32) 22 22 rfl 3 Tryz.underlying22 hs1 _ _ _ _ _ _ rfl rfl w.heap.size 0 (repC n 0 k) 3 hrow (List.replicate 1 (Value.int .i64 n)) (by show 1 = min 1 k; omega) hpos (by rw [repC_len (Nat.zero_le _)]; simp; omega) (by simp [Value.oneCell']) w.heap.size w (Kp.alloc_ w _) (Nat.le_refl _) ?_; intro w2 HR hB)
 clear hpos hrow hsrc d1 e1 e2 hmk
 go_loopw [8] (fun i wr => ∃ m : Nat, i = .int .i64 m ∧ m ≤ k ∧ 1 ≤ m ∧ Hid (wr.heap[w.heap.size]? = some (.cells (repC n m k).toArray 3 (0, 0))) ∧ Hid (Below w.heap.size w wr)) (fun i _ => k - (intOf i).toNat)
 case atStart => exact ⟨1, rfl, h0, Nat.le_refl _, by have := HR.out; rw [rep_splice n 0 k 1] at this; exact this, hB⟩
 case round =>
  obtain ⟨m, rfl, hm, hm1, hr, hbl⟩ := hrel
  by_cases hlt : m < k
  ·obtain ⟨c, hcn⟩ := eX (min m (k - m))
   have hc1 : c ≤ m := by omega
   have hc2 : m + c ≤ k := by omega
   have hc3 : 1 ≤ c := by omega
   have HCN := lH hcn
   have hne : ¬ k = m := by omega
   clear hcn
   have hone : ∀ v ∈ List.replicate c (Value.int .i64 n), v.oneCell' = true := fun v hv => by obtain ⟨_, rfl⟩ := List.mem_replicate.1 hv; rfl
   have hsrc : ∀ j v, (List.replicate c (Value.int .i64 n))[j]? = some v → wr.drew.cell? ((⟨w.heap.size, 0, none⟩ : Addr).add j) = some v := fun j v hv => by
    rw [Go.WideShapes.add_plain, Nat.zero_add]
    have hj : j < c := by simpa using (List.getElem?_eq_some_iff.1 hv).1
    rw [List.getElem?_replicate, if_pos hj] at hv
    exact (cell_of_row hr.out j (repC_at (by omega))).trans hv
   have HO := lH (And.intro hone hsrc)
   clear hone hsrc
   go_wp2
   go_region_law (refine step_copy_splice rfl (.tmp 41) (.tmp 44) 22 22 rfl 3 Tryz.underlying22 hs1 (some ⟨w.heap.size, m, none⟩) (some ⟨w.heap.size, 0, none⟩) (k - m) (k - m) m k (by simp [Act.eval, Act.put]) (by simp [Act.eval, Act.put]) w.heap.size m (repC n m k) 3 hr.out (List.replicate c (Value.int .i64 n)) (by simpa using HCN.out) (fun _ => ⟨rfl, _, rfl, HO.out.2⟩) (by rw [repC_len hm]; simpa using hc2) HO.out.1 w.heap.size w hbl.out.drew (Nat.le_refl _) ?_; intro w4 HG4 hb4)
   have HB := lH hb4
   clear hb4
   have e1 : IntKind.i64.wrap ((m : Int) + (c : Int)) = (m : Int) + (c : Int) := IntWalk.i64_in _ (by omega)
   go_wp2
   go_roundw
   case rel =>
    repeat apply Exists.intro
    refine ⟨⟨m + c, ?_, hc2, by omega, by have := HG4.out; rw [rep_splice n m k c] at this; exact this, HB.out⟩, rfl⟩
    simp [e1]
   case measure => simp [intOf, Act.put, e1]; omega
  ·obtain rfl : m = k := by omega
   have HR2 := lH hr.out
   go_wp2
   go_ret
   have hrow := hr.out
   unfold repC at hrow
   rw [repL_end] at hrow
   exact RetO.on (by simp) (Own.of_row hrow (Nat.le_refl _) (by simp) (by omega)) hbl.out
namespace TnE
theorem full_no {s : List Int} (n : Int) (h : okS s = false) : fullV s n = ([], [], 20) := by unfold fullV; rw [h]; rfl
theorem full_yes {s : List Int} (n : Int) (h : okS s = true) : fullV s n = (s, List.replicate (sizeV s).toNat n, 0) := by unfold fullV; rw [if_pos h]
end TnE
structure Fs (w : World) (w' : World) : Prop where
 kp : Kp w w'
 r0 : w'.cell? ⟨w.heap.size, 0, none⟩ = some (.slice none 0 0)
 r1 : w'.cell? ⟨w.heap.size, 1, none⟩ = some (.slice none 0 0)
 f0 : w'.frozen? ⟨w.heap.size, 0, none⟩ = false
 f1 : w'.frozen? ⟨w.heap.size, 1, none⟩ = false
 sz : w.heap.size < w'.heap.size
theorem Fs.tb {w a b : World} (h : Fs w a) (k : Below (w.heap.size + 1) a b) : Fs w b where
 kp := h.kp.trans (k.mono (Nat.le_succ _))
 r0 := (k.cell (p := ⟨w.heap.size, 0, none⟩) (Nat.lt_succ_self _)).trans h.r0
 r1 := (k.cell (p := ⟨w.heap.size, 1, none⟩) (Nat.lt_succ_self _)).trans h.r1
 f0 := (k.frozen (p := ⟨w.heap.size, 0, none⟩) (Nat.lt_succ_self _)).trans h.f0
 f1 := (k.frozen (p := ⟨w.heap.size, 1, none⟩) (Nat.lt_succ_self _)).trans h.f1
 sz := Nat.lt_of_lt_of_le h.sz k.size
theorem Fs.tr {w a b : World} (h : Fs w a) (k : Kp a b) : Fs w b := h.tb (k.mono h.sz)
theorem Fs.mk_ (w : World) (t : TypeId) : Fs w (w.alloc (.cells #[.slice none 0 0, .slice none 0 0] t)) where
 kp := Kp.alloc_ _ _
 r0 := by simp
 r1 := by simp
 f0 := by simp
 f1 := by simp
 sz := by simp
theorem Fs.end_ {w a : World} (h : Fs w a) (x y : Value) : Kp w ((a.setCell ⟨w.heap.size, 0, none⟩ x).setCell ⟨w.heap.size, 1, none⟩ y) :=
 (h.kp.setCell (p := ⟨w.heap.size, 0, none⟩) (Nat.le_refl _) x).setCell (p := ⟨w.heap.size, 1, none⟩) (Nat.le_refl _) y
theorem full_any (A : Option Addr) (c : Nat) (s : List Int) (n : Int) (w : World) (hA : Rd w A s) :
  Calls Tryz.prog 11 #[.slice A s.length c, .int .i64 n] w (RetT (fullV s n) w) := by
 have hl := hA.len
 have F0 := lH (Fs.mk_ w 27)
 have HC := lH (check_any A c s _ (hA.kp F0.out.kp))
 cases ho : okS s with
 | false =>
  rw [ho] at HC
  have HF := lH (TnE.full_no n ho)
  clear ho
  go_enter Tryz.func11, Tryz.ntmps11
  go_wp2_with fail
  refine (Calls.mono (Hid.out HC)) ?_; rintro e w1 ⟨rfl, rfl⟩
  obtain ⟨_, r0, r1, f0, f1, _⟩ := F0.out
  go_wp2
  refine bodyPost_ret (by simp [results, Tryz.results11, go_sem, r0, r1]; try rfl) rfl ?_
  exact RetT.err HF.out F0.out.kp
 | true =>
  rw [ho] at HC
  have hp := ok_prod ho
  have hz := size_ok ho
  have hs3 : s.length ≤ 1000000 := by have := (ok_iff.1 ho).1; omega
  obtain ⟨k, hk⟩ : ∃ k : Nat, sizeV s = k := ⟨(sizeV s).toNat, by omega⟩
  have HF := lH (TnE.full_yes n ho)
  rw [hk, Int.toNat_natCast] at HF
  have HS : Hid (∀ W, Kp w W → Calls Tryz.prog 22 #[.slice A s.length c] W fun e w' => e = .returned (.int .i64 (k : Int)) ∧ W = w') := fun W kk => by
   have hh := size_any A c s W (hA.kp kk)
   rw [hk] at hh
   exact hh
  have k1 : 0 < k := by omega
  have k2 : k ≤ 64 := by omega
  have HL : Hid (∀ W, Kp w W → Calls Tryz.prog 23 #[.slice A s.length c] W (RetO s W)) := fun W kk => clone_any A c s W (hA.kp kk) hs3
  have G0 := lH (F0.out.kp.tr (Kp.alloc_ _ (.cells #[.int .i64 n] 3)))
  clear ho hp hz hs3 hk
  go_enter Tryz.func11, Tryz.ntmps11
  go_wp2_with fail
  refine (Calls.mono (Hid.out HC)) ?_; rintro e w1 ⟨rfl, rfl⟩
  go_wp2_with fail
  refine (Calls.mono (HS.out _ G0.out)) ?_; rintro e w1 ⟨rfl, rfl⟩
  go_wp2_with fail
  refine (repeat_any n k _ _ k1 k2 (by simp) (by simp)).mono ?_; rintro e w1 ⟨A1, c1, rfl, o1, kk1⟩
  rw [List.length_replicate] at o1 ⊢
  have F1 := lH ((F0.out.tr (Kp.alloc_ _ _)).tr kk1)
  have O1 := lH o1
  clear o1 kk1
  go_wp2_with fail
  refine (Calls.mono (HL.out _ F1.out.kp)) ?_; rintro e w2 ⟨A2, c2, rfl, o2, kk2⟩
  have F2 := lH (F1.out.tr kk2)
  have O2 := lH (And.intro o2 (And.intro (O1.out.kp kk2) F1.out.sz))
  clear o2 kk2
  obtain ⟨_, r0, r1, f0, f1, _⟩ := F2.out
  go_wp2
  refine bodyPost_ret (by simp [results, Tryz.results11, go_sem, r0, r1]; try rfl) rfl ?_
  exact RetT.on HF.out rfl (List.length_replicate ..).symm ((O2.out.1.put_ (p := ⟨w.heap.size, 0, none⟩) O2.out.2.2 _).put_ (p := ⟨w.heap.size, 1, none⟩) O2.out.2.2 _).sl
   ((O2.out.2.1.put_ (p := ⟨w.heap.size, 0, none⟩) (by simp; omega) _).put_ (p := ⟨w.heap.size, 1, none⟩) (by simp; omega) _).sl (F2.out.end_ _ _)
open Go.RowKit Go.Proofs.ShM
section
variable {w : World} {A : Option Addr} {x : List Int}
def cutA (A : Option Addr) (c j : Nat) : Option Addr := if c = j then A else A.map (·.add j)
theorem Rd.cut (h : Rd w A x) {c j : Nat} (hc : x.length ≤ c) : Rd w (cutA A c j) (x.drop j) := by
 unfold cutA
 split
 ·rename_i e
  rw [List.drop_eq_nil_of_le (by omega)]; exact Rd.nil _ _
 ·refine ⟨by have := h.1; simp; omega, fun hp => ?_⟩
  obtain ⟨ad, rfl, hb, hcs⟩ := h.2 (by simp at hp; omega)
  refine ⟨ad.add j, rfl, by rw [block_of_add]; exact hb, fun i u hu => ?_⟩
  rw [List.getElem?_drop] at hu
  rw [add_of_add]
  exact hcs _ _ hu
theorem run_cut (W : World) (A : Option Addr) (n c j : Nat) (hj : j ≤ n) : (Instr.sliceAt 22 (.slice A n c) (some (.int .i64 (j : Int))) none none).run Tryz.prog W = .ok (.slice (cutA A c j) (n - j) (c - j)) W := by
 have hu : Tryz.prog.underlying 22 = some (.slice (Tryz.prog.elem 22)) := by kernel_rfl
 have hsz : ((sizeOf (Tryz.prog.elem 22)).run Tryz.prog W) = .ok 1 W := by
  obtain ⟨i, hi, _, h1, _⟩ := info_parts int_info
  simp [sizeOf, typeInfo, show Tryz.prog.elem 22 = 3 by kernel_rfl, hi, h1]
 rw [run_sliceAt_slice W _ _ _ _ _ hu, run_slice_l W _ A n c hu .i64 j (by omega) (by omega), hsz]
 simp [Result.andThen, sliced, cutA]
end
namespace TnF
theorem mask_snoc (s : List Int) : ∀ {y : List Int} {x z : Int}, s.length = y.length → maskL (s ++ [x]) (y ++ [z]) = maskL s y ++ [if x = 1 then 0 else z] := by
 induction s with
 | nil => intro y x z h; cases y with
  | nil => rfl
  | cons _ _ => simp at h
 | cons a s ih =>
  intro y x z h
  cases y with
  | nil => simp at h
  | cons b y => simp only [List.cons_append, maskL]; rw [ih (by simpa using h)]
theorem mask_len (s : List Int) : ∀ {y : List Int}, s.length ≤ y.length → (maskL s y).length = s.length := by
 induction s with
 | nil => intro y _; cases y <;> rfl
 | cons a s ih =>
  intro y h
  cases y with
  | nil => simp at h
  | cons b y => simp only [maskL, List.length_cons]; rw [ih (by simpa using h)]
def Pl (s x : List Int) (j k : Nat) (zs : List Int) : Prop := k ≤ s.length ∧ s.length + j = x.length ∧ zs = x.take j ++ (maskL (s.take k) ((x.drop j).take k) ++ x.drop (j + k))
theorem pstart {s x : List Int} {j : Nat} (h : s.length + j = x.length) : Pl s x j 0 x := ⟨Nat.zero_le _, h, by simp [maskL]⟩
theorem pstep {s x : List Int} {j k : Nat} {zs ws : List Int} {a : Int} (h : Pl s x j k zs) (ha : s[k]? = some a) (hw : ws = if a = 1 then zs.set (j + k) 0 else zs) : Pl s x j (k + 1) ws := by
 obtain ⟨h1, h2, rfl⟩ := h
 have hk := (List.getElem?_eq_some_iff.1 ha).1
 obtain ⟨z, hz⟩ : ∃ z, x[j + k]? = some z := ⟨x[j + k], List.getElem?_eq_getElem (by omega)⟩
 have hz' : (x.drop j)[k]? = some z := by rw [List.getElem?_drop]; exact hz
 have e2 : x.drop (j + k) = z :: x.drop (j + (k + 1)) := drop_of hz
 have hl : (maskL (s.take k) ((x.drop j).take k)).length = k := by
  rw [mask_len _ (by simp; omega)]; simp; omega
 refine ⟨hk, h2, ?_⟩
 rw [take_of ha, take_of hz', mask_snoc _ (by simp; omega), hw, e2]
 split
 ·rw [List.set_append_right _ _ (by simp; omega), List.set_append_right _ _ (by simp; omega)]
  have e3 : j + k - (x.take j).length - (maskL (s.take k) ((x.drop j).take k)).length = 0 := by simp [hl]; omega
  rw [e3]; simp
 ·simp
theorem plen {s x : List Int} {j k : Nat} {zs : List Int} (h : Pl s x j k zs) : zs.length = x.length := by
 obtain ⟨h1, h2, rfl⟩ := h
 have hl : (maskL (s.take k) ((x.drop j).take k)).length = k := by
  rw [mask_len _ (by simp; omega)]; simp; omega
 simp [hl]; omega
theorem pend {s x : List Int} {j k : Nat} {zs : List Int} (h : Pl s x j k zs) (hk : ¬ k < s.length) : zs.drop j = maskL s (x.drop j) := by
 obtain ⟨h1, h2, rfl⟩ := h
 obtain rfl : k = s.length := by omega
 have e0 : (x.take j).length = j := by simp; omega
 have e1 : x.drop (j + s.length) = [] := List.drop_eq_nil_of_le (by omega)
 have e2 : (x.drop j).take s.length = x.drop j := List.take_of_length_le (by simp; omega)
 rw [List.drop_left' e0, e1, List.take_length, e2, List.append_nil]
end TnF
theorem source_any (A B : Option Addr) (c d : Nat) (s g : List Int) (p : Int) (w : World) (hA : Rd w A s) (hB : Rd w B g) (hf : fitsV s g = true) (p0 : 0 ≤ p) (p1 : p < sizeV g) :
  Calls Tryz.prog 149 #[.slice B g.length d, .int .i64 p, .slice A s.length c] w fun e w' => e = .returned (.int .i64 (srcI s g p)) ∧ Kp w w' := by
 obtain ⟨ok1, ok2, hle, _⟩ := fits_al hf
 have hs3 := (ok_iff.1 ok1).1
 have hg3 := (ok_iff.1 ok2).1
 have hsp := src_place hf p0 (by rw [← size_ok ok2]; exact p1)
 have hdl := digs_len g p
 obtain ⟨x, hx⟩ := eX (digs g p)
 rw [← hx] at hsp hdl
 have HI : Hid (Calls Tryz.prog 161 #[.slice B g.length d, .int .i64 p] w (RetP (x, 0) w)) := by
  have hh := index_own B d g p w hB
  rw [index_yes p0 p1, ← hx] at hh
  exact hh
 obtain ⟨j, hj⟩ : ∃ j, g.length = s.length + j := ⟨g.length - s.length, by omega⟩
 rw [show g.length - s.length = j by omega] at hsp
 have HSP := lH hsp
 have HX := lH hdl
 clear hx hsp hdl hf p0 p1 ok1 ok2
 have HS := lH hA
 have HP : Hid (∀ W A1 n1 c1 y, Kp w W → Rd W A1 y → y = maskL s (x.drop j) → n1 = y.length → Calls Tryz.prog 167 #[.slice A s.length c, .slice A1 n1 c1] W (RetN (srcI s g p, 0) W)) := fun W A1 n1 c1 y k r e en => by
  have hh := place_any A A1 c c1 s y W (HS.out.kp k) r
  rw [e, HSP.out] at hh
  rw [en, e]
  exact hh
 obtain ⟨q, hq⟩ := eX (srcI s g p)
 rw [← hq] at HP ⊢
 clear HSP hq hB
 obtain ⟨gl, hgl⟩ := eX (g.length)
 rw [← hgl] at HI HX hj hg3 hle ⊢
 clear hgl
 have e1 : IntKind.i64.wrap ((gl : Int) - (s.length : Int)) = (j : Int) := by rw [IntWalk.i64_in _ (by omega)]; omega
 have HJ := lH hj
 have hjl : j ≤ gl := by omega
 have hsl3 : s.length ≤ 3 := hs3
 clear hj hle hA
 go_enter Tryz.func149, Tryz.ntmps149
 go_wp2_with fail
 refine (Calls.mono (Hid.out HI)) ?_; rintro e w1 ⟨A1, c1, rfl, o1, k1⟩
 have hz1 : ((x, (0 : Int)) : List Int × Int).1.length = gl := HX.out
 rw [hz1] at o1 ⊢
 obtain ⟨A3, hA3⟩ := eX (cutA A1 c1 j)
 obtain ⟨c3, hc3⟩ := eX (c1 - j)
 have hcut : ∀ W, (Instr.sliceAt 22 (.slice A1 gl c1) (some (.int .i64 (j : Int))) none none).run Tryz.prog W = .ok (.slice A3 s.length c3) W := fun W => by
  rw [hA3, hc3, run_cut W A1 gl c1 j hjl, show gl - j = s.length by have := HJ.out; omega]
 have K1 := lH k1
 have O1 := lH o1
 have HC := lH hA3
 have HR0 := lH (TnF.pstart (s := s) (x := x) (j := j) (by have := HJ.out; have := HX.out; omega))
 have HLE : Hid (gl ≤ c1) := by have := o1.sl.le; rw [← HX.out]; exact this
 clear o1 k1 hc3 hA3 HI hz1
 go_wp2
 go_loopw [9, 10, 28] (fun _ _ i wr => ∃ (k : Nat) (zs : List Int), i = .int .i64 k ∧ Hid (TnF.Pl s x j k zs) ∧ Hid (Own w.heap.size wr (.slice A1 gl c1) zs) ∧ Hid (Kp w wr)) (fun _ _ i _ => s.length - (intOf i).toNat)
 case atStart => exact ⟨0, x, rfl, HR0.out, O1.out, K1.out⟩
 case round =>
  obtain ⟨k, zs, rfl, hr, hown, hk⟩ := hrel
  by_cases hlt : k < s.length
  ·obtain ⟨ad, x0, rfl, hbl, hx, hc⟩ := HS.out.at_ hlt
   have hc' : wr.cell? (ad.add k) = some (.int .i64 x0) := (hk.out.cell (by rw [block_of_add]; exact hbl)).trans hc
   have HX0 := lH hx
   clear hx hc hbl
   by_cases h1 : x0 = 1
   ·subst h1
    have hzl : zs.length = gl := (TnF.plen hr.out).trans HX.out
    obtain ⟨gd, hA1, hg1, hg2⟩ := hown.out.addr (by have := HJ.out; omega)
    subst hA1
    obtain ⟨u, hu⟩ : ∃ u, zs[j + k]? = some u := ⟨zs[j + k]'(by have := HJ.out; omega), List.getElem?_eq_getElem _⟩
    have hne : c1 ≠ j := by have := HJ.out; have := HLE.out; omega
    have hA3 : A3 = some ⟨gd, j, none⟩ := by rw [HC.out]; unfold cutA; rw [if_neg hne]; simp [Go.WideShapes.add_plain]
    have hcz := hown.out.cell_ hu
    have hfz := hown.out.froz_ (j + k)
    have HN : Hid (zs.set (j + k) 0 = if (1 : Int) = 1 then zs.set (j + k) 0 else zs) := by show _ = _; rw [if_pos rfl]
    clear hu hzl hne
    subst hA3
    go_wp2
    go_roundw
    case rel => exact ⟨k + 1, zs.set (j + k) 0, by go_num, TnF.pstep hr.out HX0.out HN.out, hown.out.set_ _ _, hk.out.setCell (p := ⟨gd, j + k, none⟩) hg1 _⟩
    case measure => simp [intOf]; omega
   ·have h2 : (x0 == 1) = false := by simpa using h1
    have HN : Hid (zs = if x0 = 1 then zs.set (j + k) 0 else zs) := by show zs = _; rw [if_neg h1]
    clear h1
    go_wp2
    go_roundw
    case rel => exact ⟨k + 1, zs, by go_num, TnF.pstep hr.out HX0.out HN.out, hown.out, hk.out⟩
    case measure => simp [intOf]; omega
  ·have HZ := lH (TnF.pend hr.out hlt)
   have RZ : Hid (Rd wr A3 (zs.drop j)) := by
    show Rd wr A3 _
    rw [HC.out]
    exact hown.out.sl.rd.cut (by have := TnF.plen hr.out; have := HX.out; have := HLE.out; omega)
   have HLN : Hid (s.length = (zs.drop j).length) := by show s.length = _; have := TnF.plen hr.out; have := HX.out; have := HJ.out; simp; omega
   go_wp2_with fail
   refine (Calls.mono (HP.out _ _ _ _ _ hk.out RZ.out HZ.out HLN.out)) ?_; rintro e w3 ⟨rfl, n3, rfl⟩
   go_wp2
   go_ret
   exact ⟨rfl, hk.out.tr (Kp.drewN_ _ _)⟩
open Go.RowKit Go.Proofs.ShM Go.Proofs.FixM
namespace TnAdd
theorem add_over {a b : Int} (ha : I64 a) (hb : I64 b) (h : (!(decide (wrap64 (a + b) < a) == decide (b < 0))) = true) : addV a b = (0, 10) := by
 unfold I64 at ha hb
 by_cases c : b < 0 <;> by_cases d : wrap64 (a + b) < a <;> simp [c, d] at h <;> (unfold wrap64 at d; exact put_out (by omega))
theorem add_fits {a b : Int} (ha : I64 a) (hb : I64 b) (h : (!(decide (wrap64 (a + b) < a) == decide (b < 0))) = false) : addV a b = (wrap64 (a + b), 0) := by
 unfold I64 at ha hb
 by_cases c : b < 0 <;> by_cases d : wrap64 (a + b) < a <;> simp [c, d] at h <;> (unfold wrap64 at d ⊢; unfold addV; rw [put_in (by omega) (by omega)]; congr 1; omega)
end TnAdd
theorem add_any (a b : Int) (ha : I64 a) (hb : I64 b) (w : World) :
  Calls Tryz.prog 98 #[.int .i64 a, .int .i64 b] w fun e w' => e = .returned (.tuple #[.int .i64 (addV a b).1, .int .i64 (addV a b).2]) ∧ w = w' := by
 go_enter Tryz.func98, Tryz.ntmps98
 go_wp2
 all_goals go_ret2
 ·exact ⟨ret_ints (TnAdd.add_over ha hb (by assumption)), rfl⟩
 ·exact ⟨ret_ints (TnAdd.add_fits ha hb (by assumption)), rfl⟩
namespace TnG
theorem spread_no {s d : List Int} (g : List Int) (h : tokV s d = false) : spreadV s d g = ([], [], 30) := by unfold spreadV; rw [h]; rfl
theorem spread_misfit {s d g : List Int} (h : tokV s d = true) (k : fitsV s g = false) : spreadV s d g = ([], [], 20) := by unfold spreadV; rw [h, k]; rfl
theorem spread_yes {s d g : List Int} (h : tokV s d = true) (k : fitsV s g = true) : spreadV s d g = (g, spreadL s d g (sizeV g).toNat, 0) := by unfold spreadV; rw [h, k]; rfl
theorem src_nat {s d g : List Int} (h : tokV s d = true) (k : fitsV s g = true) {N : Nat} (hN : sizeV g = N) {p : Nat} (hp : p < N) : ∃ m : Nat, srcI s g p = (m : Int) ∧ m < d.length := by
 obtain ⟨a, b⟩ := tok_iff.1 h
 have hg := (fits_al k).2.1
 obtain ⟨i1, i2⟩ := src_in k (p := (p : Int)) (by omega) (by rw [← size_ok hg]; omega)
 exact ⟨(srcI s g p).toNat, by omega, by omega⟩
theorem add_two (a b : Int) : (∃ v, addV a b = (v, 0)) ∨ addV a b = (0, 10) := by
 unfold addV
 rcases put_cases (a + b) with ⟨_, _, e⟩ | ⟨_, e⟩
 ·exact .inl ⟨_, e⟩
 ·exact .inr e
theorem fold_no {g d : List Int} (s : List Int) (h : tokV g d = false) : foldV g d s = ([], [], 30) := by unfold foldV; rw [h]; rfl
theorem fold_misfit {g d s : List Int} (h : tokV g d = true) (k : fitsV s g = false) : foldV g d s = ([], [], 20) := by unfold foldV; rw [h, k]; rfl
theorem fold_yes {g d s zs : List Int} (h : tokV g d = true) (k : fitsV s g = true) (r : foldL s g d = (zs, 0)) : foldV g d s = (s, zs, 0) := by unfold foldV; rw [h, k, r]; rfl
theorem fold_err {g d s : List Int} (h : tokV g d = true) (k : fitsV s g = true) (r : foldL s g d = ([], 10)) : foldV g d s = ([], [], 10) := by unfold foldV; rw [h, k, r]; rfl
theorem dst_nat {g d s : List Int} (h : tokV g d = true) (k : fitsV s g = true) {M : Nat} (hM : sizeV s = M) {p : Nat} (hp : p < d.length) : ∃ m : Nat, srcI s g p = (m : Int) ∧ m < M := by
 obtain ⟨a, b⟩ := tok_iff.1 h
 have hs := (fits_al k).1
 have := size_ok hs
 obtain ⟨i1, i2⟩ := src_in k (p := (p : Int)) (by omega) (by omega)
 exact ⟨(srcI s g p).toNat, by omega, by omega⟩
end TnG
open Go.RowKit Go.Proofs.ShM Go.Proofs.FixM
theorem Fr.tb {w : World} {A : Option Addr} {n c : Nat} {B : Option Addr} {m d : Nat} {a b : World} (h : Fr w A n c B m d a) (k : Below (w.heap.size + 2) a b) : Fr w A n c B m d b where
 kp := h.kp.trans (k.mono (by omega))
 b0 := (k.cell (p := ⟨w.heap.size, 0, none⟩) (by show w.heap.size < _; omega)).trans h.b0
 b1 := (k.cell (p := ⟨w.heap.size, 1, none⟩) (by show w.heap.size < _; omega)).trans h.b1
 r0 := (k.cell (p := ⟨w.heap.size + 1, 0, none⟩) (by show w.heap.size + 1 < _; omega)).trans h.r0
 r1 := (k.cell (p := ⟨w.heap.size + 1, 1, none⟩) (by show w.heap.size + 1 < _; omega)).trans h.r1
 f0 := (k.frozen (p := ⟨w.heap.size + 1, 0, none⟩) (by show w.heap.size + 1 < _; omega)).trans h.f0
 f1 := (k.frozen (p := ⟨w.heap.size + 1, 1, none⟩) (by show w.heap.size + 1 < _; omega)).trans h.f1
 sz := Nat.le_trans h.sz k.size
open Go.Shelf
attribute [local go_sem] Oper.semAt_some
theorem Kp.grown {w w' : World} (k : Kp w w') : w.grownBy w' none := ⟨k.os, k.tape, k.output, k.size, fun j hj _ => k.block j hj⟩
structure Qp (w : World) (Bs Bf : Nat) (C : Option Addr) (gl e : Nat) (A : Option Addr) (sl c : Nat) (W : World) : Prop where
 bs : W.cell? ⟨Bs, 0, none⟩ = some (.slice C gl e)
 bf : W.cell? ⟨Bf, 0, none⟩ = some (.slice A sl c)
 kp : Kp w W
 ls : Bs < W.heap.size
 lf : Bf < W.heap.size
theorem Qp.tb {w : World} {Bs Bf : Nat} {C : Option Addr} {gl e : Nat} {A : Option Addr} {sl c B : Nat} {W W' : World} (h : Qp w Bs Bf C gl e A sl c W) (k : Below B W W') (hs : Bs < B) (hf : Bf < B) (hw : w.heap.size ≤ B) : Qp w Bs Bf C gl e A sl c W' where
 bs := (k.cell (p := ⟨Bs, 0, none⟩) hs).trans h.bs
 bf := (k.cell (p := ⟨Bf, 0, none⟩) hf).trans h.bf
 kp := h.kp.trans (k.mono hw)
 ls := Nat.lt_of_lt_of_le h.ls k.size
 lf := Nat.lt_of_lt_of_le h.lf k.size
theorem Qp.tr {w : World} {Bs Bf : Nat} {C : Option Addr} {gl e : Nat} {A : Option Addr} {sl c : Nat} {W W' : World} (h : Qp w Bs Bf C gl e A sl c W) (k : Kp W W') : Qp w Bs Bf C gl e A sl c W' :=
 h.tb k h.ls h.lf h.kp.size
abbrev Pl (N : Nat) := { k : Nat // k < N }
abbrev plEnc (s g : List Int) (N : Nat) (x : Pl N) : Array Value := #[.int .i64 (x.1 : Int), .int .i64 (srcI s g x.1)]
theorem places_any (A C : Option Addr) (c e n m : Nat) (w : World) :
  Calls Tryz.prog 102 #[.slice C n e, .slice A m c] w fun en w' => en = .returned (.func (.func 148) #[] #[.pointer (some ⟨w.heap.size, 0, none⟩), .pointer (some ⟨w.heap.size + 1, 0, none⟩)]) ∧
   w' = (w.alloc (.cells #[.slice C n e] 22)).alloc (.cells #[.slice A m c] 22) := by
 go_enter Tryz.func102, Tryz.ntmps102
 go_wp2
 go_ret
 exact ⟨rfl, rfl⟩
theorem places_stops (A C : Option Addr) (c e : Nat) (s g : List Int) (N Bs Bf n : Nat) (w w0 : World) (hA : Rd w A s) (hC : Rd w C g) (hf : fitsV s g = true) (hN : sizeV g = N) (hn : 1 ≤ n) (hQ : Qp w Bs Bf C g.length e A s.length c w0) :
  SeqStopsK Fence.wide n Tryz.prog 148 #[.pointer (some ⟨Bs, 0, none⟩), .pointer (some ⟨Bf, 0, none⟩)] (plEnc s g N) (fun W W' => Qp w Bs Bf C g.length e A s.length c W → Qp w Bs Bf C g.length e A s.length c W')
   (fun xs => xs.map (·.1) = List.range N) (fun pre => ∃ k, k ≤ N ∧ pre.map (·.1) = List.range k) N w0 := fun l J Jx W hW hJ hJx hY h0 => by
 have hQW := hQ.tr hW
 have n2 : N ≤ 64 := by have := size_le g; omega
 have HS : Hid (∀ W', Kp w W' → Calls Tryz.prog 22 #[.slice C g.length e] W' fun en w' => en = .returned (.int .i64 (N : Int)) ∧ W' = w') := fun W' kk => by
  have hh := size_any C e g W' (hC.kp kk)
  rw [hN] at hh
  exact hh
 have HQ1 : Hid (∀ W' (k : Nat), Kp w W' → k < N → Calls Tryz.prog 149 #[.slice C g.length e, .int .i64 (k : Int), .slice A s.length c] W' fun en w' => en = .returned (.int .i64 (srcI s g k)) ∧ Kp W' w') := fun W' k kk hk => source_any A C c e s g k W' (hA.kp kk) (hC.kp kk) hf (by omega) (by omega)
 have HJ := lH hJ
 have HY := lH hY
 obtain ⟨gl, hgl⟩ := eX (g.length)
 rw [← hgl] at HS HQ1 hQW HY
 clear hgl hJx hJ hY hA hC hf hN hQ hW
 refine callsIn_of_wp Tryz.func148 rfl trivial ?_ rfl
 simp only [Tryz.ntmps148, List.size_toArray, List.length_cons, List.length_nil, Nat.reduceAdd, Nat.reduceSub, Array.replicate_succ, Array.replicate_zero, List.push_toArray, List.append_toArray, List.nil_append, List.cons_append]
 have hbs := hQW.bs
 gi_wp2_with (refine ⟨trivial, ?_⟩; gi_at_call 22; refine (callsIn_wide.2 (HS.out _ hQW.kp)).mono ?_; rintro en w2 ⟨rfl, rfl⟩)
 gi_loopw [4, 7] (fun _ i wr => ∃ (pre : List (Pl N)) (k : Nat), i = .int .i64 k ∧ k ≤ N ∧ Hid (pre.map (·.1) = List.range k) ∧ Hid (J pre wr) ∧ Hid (Qp w Bs Bf C gl e A s.length c wr)) (fun _ i _ => N - (intOf i).toNat)
 case atStart => exact ⟨[], 0, rfl, Nat.zero_le _, rfl, h0, hQW⟩
 case round =>
  clear hbs
  obtain ⟨pre, k, rfl, hkN, hpre, hJp, hQr⟩ := hrel
  have hb1 := hQr.out.bs
  have hb2 := hQr.out.bf
  by_cases hlt : k < N
  ·have HL : Hid (pre.length < N) := by show _ < N; have := congrArg List.length hpre.out; simp at this; omega
   gi_wp2_with (refine ⟨trivial, ?_⟩; gi_at_call 149; refine (callsIn_wide.2 (HQ1.out _ k hQr.out.kp hlt)).mono ?_; rintro en w2 ⟨rfl, k2⟩; have hJ2 := HJ.out pre _ _ none hJp.out k2.grown (fun r e => by cases e); obtain ⟨fn, tmps, assign, body, hy, hR⟩ := HY.out pre ⟨k, hlt⟩ w2 hJ2 HL.out; dsimp only [plEnc] at hy; have HQ2 := lH (hQr.out.tr k2); clear k2 hJ2)
   have hmap : Hid ((pre ++ [(⟨k, hlt⟩ : Pl N)]).map (·.1) = List.range (k + 1)) := by show _ = _; rw [List.map_append, hpre.out, List.range_succ]; rfl
   refine hR.mono ?_
   rintro en W3 (⟨rfl, hJ3, hk3⟩ | ⟨rfl, hJx3⟩)
   ·have H3 := lH (And.intro hJ3 (hk3 HQ2.out))
    clear hJ3 hk3
    gi_wp2
    go_roundw
    case rel => exact ⟨pre ++ [⟨k, hlt⟩], k + 1, by go_num, hlt, hmap, lH H3.out.1, lH H3.out.2⟩
    case measure => simp [intOf]; omega
   ·gi_wp2
    refine bodyPost_ret (results_none rfl _ _ _) rfl ?_
    exact ⟨⟨_, rfl⟩, .inr ⟨_, ⟨k + 1, hlt, hmap.out⟩, hJx3⟩⟩
  ·obtain rfl : k = N := by omega
   gi_wp2
   go_end0
   exact ⟨⟨_, rfl⟩, .inl ⟨pre, hpre.out, hJp.out⟩⟩
section
variable {P : Program} {ops : Array Oper} {md : Region.Mode} {Q : Exit → Act → World → Prop}
theorem uponIn_of_upon {l n : Nat} {o : Oper} {a : Act} {next : Act → World → Prop} {r : Result Next} (h : o.upon P a next Q r) : o.uponIn (Fence.wide.inRound l) n P a next Q r := by
 cases r with
 | ok nx w' =>
  cases nx with
  | value v => exact h
  | skip => exact h
  | defer d => exact h
  | enter f args => exact ⟨fun h => (by cases h), CallsIn.inRound l (callsIn_wide.2 h)⟩
  | row row args => exact ⟨fun h => (by cases h), fun c cs _ => let ⟨v, w', r, s⟩ := h c cs; ⟨v, w', r, stepsIn_wide.2 s⟩⟩
  | _ => exact h.elim
 | halt hh w' =>
  cases hh with
  | panic v => exact h
  | _ => exact h.elim
def noDefer (ops : Array Oper) : Bool := ops.all fun o => match o.op with | .defer _ => false | _ => true
theorem noDefer_spec {ops : Array Oper} (h : noDefer ops = true) {i : Nat} {o : Oper} (ho : ops[i]? = some o) : ∀ c, o.op ≠ .defer c := by
 intro c e
 unfold noDefer at h
 rw [Array.all_eq_true] at h
 obtain ⟨hi, rfl⟩ := Array.getElem?_eq_some_iff.1 ho
 have := h i hi
 rw [e] at this
 cases this
theorem wpAnyIn_of_wpAny {l n : Nat} (hd : noDefer ops = true) (hL : ¬ LetsOut Q) : ∀ (fuel : Nat) (listed : Array Bool) (a : Act) (w : World), wpAny P md ops Q fuel listed a w → wpAnyIn (Fence.wide.inRound l) n P md ops Q fuel listed a w := by
 intro fuel
 induction fuel with
 | zero => intro listed a w h; exact h
 | succ fuel ih =>
  intro listed a w h
  refine ⟨h.1, fun i hi => ?_⟩
  have := wpOp_mono (fun a w => ih _ a w) (h.2 i hi)
  unfold wpOp at this
  unfold wpOpIn
  cases ho : ops[i]? with
  | none => rw [ho] at this; exact this
  | some o =>
   rw [ho] at this
   simp only at this ⊢
   split
   ·rename_i hw
    rw [if_pos hw] at this
    rcases this with h1 | ⟨_, h2⟩
    ·refine ⟨fun _ _ => trivial, ?_⟩
     have e : (Oper.semAt (Fence.wide.inRound l).round a.eval o) = execOp a.eval o := Oper.semAt_some l a.eval o (noDefer_spec hd ho)
     rw [e]
     exact uponIn_of_upon h1
    ·exact absurd h2 hL
   ·rename_i hw
    rw [if_neg hw] at this
    exact ⟨fun _ _ => trivial, this⟩
theorem round_tail {id l m : Nat} {a : Act} {w : World} {os : List Oper} (n : Nat) (hm : P.follows .mixedOrders = true) (hB : Region.lexTailB .any os.toArray n = true) (hd : noDefer os.toArray = true) (hL : ¬ LetsOut Q)
  (h : wpStill P os.toArray { w with drawn := w.drawn + 1 } (fun a' => wpList P os.toArray Q (os.drop n) a' { w with drawn := w.drawn + 1 }) (os.take n) a) : (Code.region id os.toArray true).wpIn (Fence.wide.inRound l) m P Q a w := by
 simp only [Region.lexTailB, Bool.and_eq_true, decide_eq_true_eq] at hB
 obtain ⟨⟨⟨⟨hsel, hn⟩, hs⟩, hc⟩, hlex⟩ := hB
 have hn' : n < os.length := by simpa using hn
 have htl : (os.take n).length = n := by simp; omega
 have hdl : (os.drop n).length = os.toArray.size - n := by simp
 have inv0 : HeadInv .any os.toArray n (Array.replicate os.toArray.size false) :=
  ⟨by simp, fun j oj _ hl => (by rw [getD_replicate_false] at hl; cases hl), fun t _ ht => getD_in (by simpa using ht) (getD_replicate_false _ _)⟩
 have H := wpAnyL_lex (md := .any) (g := os.toArray.size - n) hsel hs hc hn (os.take n) 0 _ a (fun j hj => by
  have hj' : j < n := by rw [htl] at hj; exact hj
  simp [hj']) (by simpa using htl) inv0 (by rw [htl]; exact hlex) h
 refine wpIn_region_any hm (wpAnyIn_of_wpAny hd hL _ _ _ _ ?_)
 have := wpAny_of_head (Q' := Q) (g := os.toArray.size - n) (fun listed a' hL => by
  have := wpAny_of_seq (md := .any) (Q' := Q) (os.drop n) n listed a' { w with drawn := w.drawn + 1 } (fun j => by simp [List.getElem?_drop]) (by rw [hdl]; exact hL.1) hL.2
  rwa [hdl] at this) _ _ _ H
 rw [htl, show n + (os.toArray.size - n) = os.toArray.size by omega] at this
 exact this
theorem round_quiet {id l m : Nat} {a : Act} {w : World} {os : List Oper} (hm : P.follows .mixedOrders = true) (hB : Region.lexB .any os.toArray = true) (hd : noDefer os.toArray = true) (hL : ¬ LetsOut Q)
  (h : wpQuiet P os.toArray (fun w' => ∃ n, w' = w.drewN n) (fun a' => ∀ w', (∃ n, w' = w.drewN n) → Q .normal a' w') os a) : (Code.region id os.toArray true).wpIn (Fence.wide.inRound l) m P Q a w := by
 simp only [Region.lexB, Bool.and_eq_true] at hB
 refine wpIn_region_any hm (wpAnyIn_of_wpAny hd hL _ _ _ _ (wpAny_of_quiet (C := fun w' => ∃ n, w' = w.drewN n) (Q := fun a' => ∀ w', (∃ n, w' = w.drewN n) → Q .normal a' w') (fun _ w' hw' h => h w' hw') _ _ _ _ ⟨1, rfl⟩ ?_))
 have := wpAnyQ_lex (C := fun w' => ∃ n, w' = w.drewN n) (md := .any) hB.1 os 0 (Array.replicate os.toArray.size false) a (by simp) (by simpa using hB.2) h
 simpa using this
end
theorem wpIn_calm {F : Fence} {n : Nat} {P : Program} {c : Code} {K : Act → World → Prop} {Q : Exit → Act → World → Prop} {a : Act} {w : World} (h : c.wpIn F n P (Exit.then K (fun _ _ _ => False)) a w) : c.wpIn F n P (Exit.then K Q) a w :=
 wpIn_mono h fun e _ _ hq => by
  cases e with
  | normal => exact hq
  | _ => exact hq.elim
theorem ret_marks {F : Fence} {n : Nat} {P : Program} {fn : Func} {R : Ending → World → Prop} {tmps : Array Value} {D : Nat} {W : World} {v : Value} (hK : W.heap[D]? = some (.deferred (some [])))
  (hres : (results fn tmps).run P (W.putObj D (.deferred none)) = .ok v (W.putObj D (.deferred none))) (hR : R (.returned v) (W.putObj D (.deferred none))) :
  bodyPostM F n P fn R .ret { tmps := tmps, defers := [{ target := .collected D, args := #[] }] } W :=
 ⟨by simp, .inl ⟨_, _, rfl, run_takeDeferred hK, v, hres, hR⟩⟩
section
variable {w a : World} {A B : Option Addr} {n c m d D : Nat}
def finW (w a : World) (x y : Value) : World := (a.setCell ⟨w.heap.size + 1, 0, none⟩ x).setCell ⟨w.heap.size + 1, 1, none⟩ y
theorem fin_K (hD : a.heap[D]? = some (.deferred (some []))) (hne : w.heap.size + 1 < D) (x y : Value) : (finW w a x y).heap[D]? = some (.deferred (some [])) := by
 unfold finW
 rw [Below.heap_setCell _ _ _ D (by show D ≠ w.heap.size + 1; omega), Below.heap_setCell _ _ _ D (by show D ≠ w.heap.size + 1; omega)]
 exact hD
theorem fin_B (hD : a.heap[D]? = some (.deferred (some []))) (hne : w.heap.size + 1 < D) (x y : Value) : Below D (finW w a x y) ((finW w a x y).putObj D (.deferred none)) := by
 have hK := fin_K (w := w) hD hne x y
 exact (Below.refl D _).grown (grownBy_putObj' _ D _) (Nat.le_of_lt (Array.getElem?_eq_some_iff.1 hK).1) (fun k e => by cases e; exact Nat.le_refl _)
theorem Fr.fin_0 (h : Fr w A n c B m d a) (hD : a.heap[D]? = some (.deferred (some []))) (hne : w.heap.size + 1 < D) (x y : Value) : ((finW w a x y).putObj D (.deferred none)).cell? ⟨w.heap.size + 1, 0, none⟩ = some x := by
 rw [(fin_B hD hne x y).cell (p := ⟨w.heap.size + 1, 0, none⟩) hne]
 exact cell_ne (by simp) (World.cell?_setCell_same' _ _ _ (by rw [h.r0]; rfl))
theorem Fr.fin_1 (h : Fr w A n c B m d a) (hD : a.heap[D]? = some (.deferred (some []))) (hne : w.heap.size + 1 < D) (x y : Value) : ((finW w a x y).putObj D (.deferred none)).cell? ⟨w.heap.size + 1, 1, none⟩ = some y := by
 rw [(fin_B hD hne x y).cell (p := ⟨w.heap.size + 1, 1, none⟩) hne]
 exact World.cell?_setCell_same' _ _ _ (some_ne (by simp) (by rw [h.r1]; rfl))
theorem Fr.fin_kp (h : Fr w A n c B m d a) (hD : a.heap[D]? = some (.deferred (some []))) (hne : w.heap.size + 1 < D) (x y : Value) : Kp w ((finW w a x y).putObj D (.deferred none)) :=
 (h.end_ x y).trans ((fin_B hD hne x y).mono (by omega))
theorem Own.fin {b : Nat} {v : Value} {xs : List Int} (h : Own b a v xs) (hb : w.heap.size + 1 < b) (hD : a.heap[D]? = some (.deferred (some []))) (hne : w.heap.size + 1 < D) (x y : Value) : Own b ((finW w a x y).putObj D (.deferred none)) v xs :=
 ownsRow_putObj ((h.put_ (p := ⟨w.heap.size + 1, 0, none⟩) hb x).put_ (p := ⟨w.heap.size + 1, 1, none⟩) hb y) _ (fin_K hD hne x y) rfl
end
attribute [local go_sem] Oper.semAt_some
namespace TnI
def setP (val : Nat → Int) (pre : List Nat) (zs : List Int) : List Int := pre.foldl (fun z k => z.set k (val k)) zs
theorem setP_snoc (val : Nat → Int) (pre : List Nat) (k : Nat) (zs : List Int) : setP val (pre ++ [k]) zs = (setP val pre zs).set k (val k) := by simp [setP]
theorem setP_len (val : Nat → Int) (pre : List Nat) : ∀ zs : List Int, (setP val pre zs).length = zs.length := by
 induction pre with
 | nil => intro zs; rfl
 | cons k pre ih => intro zs; show (setP val pre (zs.set k (val k))).length = _; rw [ih]; simp
theorem setP_range (val : Nat → Int) (N : Nat) : ∀ k, k ≤ N → setP val (List.range k) (List.replicate N 0) = (List.range k).map val ++ List.replicate (N - k) 0 := by
 intro k
 induction k with
 | zero => intro _; simp [setP]
 | succ k ih =>
  intro hk
  rw [List.range_succ, setP_snoc, ih (by omega), List.set_append_right _ _ (by simp)]
  obtain ⟨j, hj⟩ : ∃ j, N - k = j + 1 := ⟨N - k - 1, by omega⟩
  rw [hj, show N - (k + 1) = j by omega]
  simp [List.replicate_succ]
theorem setP_spread (s xs g : List Int) (N : Nat) : setP (fun i => xs.getD (srcI s g i).toNat 0) (List.range N) (List.replicate N 0) = spreadL s xs g N := by
 rw [setP_range _ _ _ (Nat.le_refl _)]; simp [spreadL]
end TnI
theorem below_grown {B : Nat} {W W' : World} {row : Option Nat} (hB : B ≤ W.heap.size) (hg : W.grownBy W' row) (hr : ∀ r, row = some r → B ≤ r ∧ ∃ o : Obj, W.heap[r]? = some o ∧ o.isCells = false) : Below B W W' :=
 (Below.refl B W).grown hg hB (fun k e => (hr k e).1)
theorem Own.tb {b B g n c : Nat} {W W' : World} {xs : List Int} (h : Own b W (.slice (some ⟨g, 0, none⟩) n c) xs) (k : Below B W W') (hg : g < B) : Own b W' (.slice (some ⟨g, 0, none⟩) n c) xs :=
 h.of_block fun j hj => by
  injection hj with hj
  subst hj
  exact k.block g hg
theorem Qp.put {w : World} {Bs Bf : Nat} {C : Option Addr} {gl e : Nat} {A : Option Addr} {sl c : Nat} {W : World} (h : Qp w Bs Bf C gl e A sl c W) {p : Addr} (h1 : p.block ≠ Bs) (h2 : p.block ≠ Bf) (h3 : w.heap.size ≤ p.block) (u : Value) : Qp w Bs Bf C gl e A sl c (W.setCell p u) where
 bs := cell_ne (fun e => h1 (congrArg Addr.block e)) h.bs
 bf := cell_ne (fun e => h2 (congrArg Addr.block e)) h.bf
 kp := h.kp.setCell h3 u
 ls := by rw [World.size_setCell]; exact h.ls
 lf := by rw [World.size_setCell]; exact h.lf
theorem spread_true (A B C : Option Addr) (c d e : Nat) (s xs g : List Int) (w : World) (hA : Rd w A s) (hB : Rd w B xs) (hC : Rd w C g) (ht : tokV s xs = true) (hf : fitsV s g = true) :
  Calls Tryz.prog 84 #[.agg #[.slice A s.length c, .slice B xs.length d], .slice C g.length e] w (RetT (spreadV s xs g) w) := by
 have hl := hA.len
 have gl := hB.len
 have kl := hC.len
 have F0 := lH (Fr.mk_ w A s.length c B xs.length d 27)
 have HT := lH (tcheck_any A B c d s xs _ (hA.kp F0.out.kp) (hB.kp F0.out.kp))
 rw [ht] at HT
 have HG : Hid (∀ W, Kp w W → Calls Tryz.prog 101 #[.slice A s.length c, .slice C g.length e] W fun e w' => e = .returned (.bool true) ∧ Kp W w') := fun W k => by rw [← hf]; exact fits_any A C c e s g W (hA.kp k) (hC.kp k)
 have hg := (fits_al hf).2.1
 have hp := ok_prod hg
 have hz := size_ok hg
 obtain ⟨N, hN⟩ : ∃ N : Nat, sizeV g = N := ⟨(sizeV g).toNat, by omega⟩
 have HF := lH (TnG.spread_yes ht hf)
 rw [hN, Int.toNat_natCast, ← TnI.setP_spread] at HF
 have HS : Hid (∀ W, Kp w W → Calls Tryz.prog 22 #[.slice C g.length e] W fun e w' => e = .returned (.int .i64 (N : Int)) ∧ W = w') := fun W kk => by
  have hh := size_any C e g W (hC.kp kk)
  rw [hN] at hh
  exact hh
 have HM : Hid (∀ k : Nat, k < N → ∃ m : Nat, srcI s g k = (m : Int) ∧ m < xs.length) := fun k hk => TnG.src_nat ht hf hN hk
 have HPS : Hid (∀ (n Bs Bf : Nat) (w0 : World), 1 ≤ n → Qp w Bs Bf C g.length e A s.length c w0 → SeqStopsK Fence.wide n Tryz.prog 148 #[.pointer (some ⟨Bs, 0, none⟩), .pointer (some ⟨Bf, 0, none⟩)] (plEnc s g N) (fun W W' => Qp w Bs Bf C g.length e A s.length c W → Qp w Bs Bf C g.length e A s.length c W')
   (fun xs => xs.map (·.1) = List.range N) (fun pre => ∃ k, k ≤ N ∧ pre.map (·.1) = List.range k) N w0) := fun n Bs Bf w0 hn hq => places_stops A C c e s g N Bs Bf n w w0 hA hC hf hN hn hq
 have n1 : 0 < N := by omega
 have n2 : N ≤ 64 := by omega
 have hg3 : g.length ≤ 1000000 := by have := (ok_iff.1 hg).1; omega
 have HCL : Hid (∀ W, Kp w W → Calls Tryz.prog 23 #[.slice C g.length e] W (RetO g W)) := fun W kk => clone_any C e g W (hC.kp kk) hg3
 obtain ⟨cs, hmk, hown0⟩ := mk_ N (by omega)
 have HOW := lH hown0
 have HBX := lH hB
 clear ht hf hg hp hz hN hown0 hg3
 refine (callsIn_wide (n := 4)).1 ?_
 refine callsIn_of_wp_marks Tryz.func84 rfl trivial ?_ rfl
 simp only [Tryz.ntmps84, List.size_toArray, List.length_cons, List.length_nil, Nat.reduceAdd, Nat.reduceSub, Array.replicate_succ, Array.replicate_zero, List.push_toArray, List.append_toArray, List.nil_append, List.cons_append]
 gi_wp2_with fail
 refine ⟨trivial, (callsIn_wide.2 HT.out).mono ?_⟩; rintro en w1 ⟨rfl, k1⟩
 have F1 := lH (F0.out.tr k1)
 have b0 := F1.out.b0
 have b1 := F1.out.b1
 clear k1
 gi_wp2_with fail
 refine ⟨trivial, (callsIn_wide.2 (HG.out _ F1.out.kp)).mono ?_⟩; rintro en w2 ⟨rfl, k2⟩
 have F2 := lH (F1.out.tr k2)
 clear k2 b0 b1
 gi_wp2_with fail
 refine ⟨trivial, (callsIn_wide.2 (HS.out _ F2.out.kp)).mono ?_⟩; rintro en w3 ⟨rfl, rfl⟩
 have b0 := F2.out.b0
 have y1 : w.heap.size < w2.heap.size := by have := F2.out.sz; omega
 have y2 : w.heap.size < w2.heap.size + 1 := by omega
 gi_wp2_with fail
 refine ⟨trivial, (callsIn_wide.2 (places_any _ _ _ _ _ _ _)).mono ?_⟩; rintro en w4 ⟨rfl, rfl⟩
 gi_wp2_with fail
 have hmx : Tryz.prog.follows .mixedOrders = true := by kernel_rfl
 obtain ⟨W1, hW1⟩ : ∃ W1, ((((w2.alloc (.cells cs 3)).alloc (.cells #[.slice (some ⟨w2.heap.size, 0, none⟩) N N] 22)).alloc (.cells #[.slice C g.length e] 22)).alloc (.cells #[.slice A s.length c] 22)) = W1 := ⟨_, rfl⟩
 have FW : Hid (Fr w A s.length c B xs.length d W1) := by show Fr w A s.length c B xs.length d W1; rw [← hW1]; exact (((F2.out.tr (Kp.alloc_ _ _)).tr (Kp.alloc_ _ _)).tr (Kp.alloc_ _ _)).tr (Kp.alloc_ _ _)
 have SW : Hid (W1.heap.size = w2.heap.size + 4 ∧ w.heap.size + 2 ≤ w2.heap.size) := ⟨by rw [← hW1]; simp, F2.out.sz⟩
 have OW : Hid (Own (w.heap.size + 2) W1 (.slice (some ⟨w2.heap.size, 0, none⟩) N N) (List.replicate N 0)) := by
  show Own (w.heap.size + 2) W1 _ _; rw [← hW1]; exact (((HOW.out w2 (w.heap.size + 2) F2.out.sz).kp (Kp.alloc_ _ _)).kp (Kp.alloc_ _ _)).kp (Kp.alloc_ _ _)
 have BW : Hid (W1.cell? ⟨w2.heap.size + 1, 0, none⟩ = some (.slice (some ⟨w2.heap.size, 0, none⟩) N N)) := by show W1.cell? _ = _; rw [← hW1]; simp [go_sem]
 have QW : Hid (Qp w (w2.heap.size + 1 + 1) (w2.heap.size + 1 + 1 + 1) C g.length e A s.length c W1) := by
  refine lH ⟨by rw [← hW1]; simp [go_sem], by rw [← hW1]; simp [go_sem], FW.out.kp, ?_, ?_⟩
  ·have := SW.out.1; omega
  ·have := SW.out.1; omega
 rw [hW1]
 clear hW1 b0 y1 y2 hmk
 have hw1 : w.heap.size ≤ W1.heap.size := FW.out.kp.size
 refine wpIn_rangeFunc_ownF rfl (by omega) (gf := 148) (lb := #[.pointer (some ⟨w2.heap.size + 1 + 1, 0, none⟩), .pointer (some ⟨w2.heap.size + 1 + 1 + 1, 0, none⟩)]) rfl trivial (enters_of Tryz.func148 (by kernel_rfl) rfl)
  (HPS.out _ _ _ W1 (by omega) QW.out) (fun h k q => k (h q))
  (fun W l o o' hl h ho hw q => q.tb (belowK_b (w := W1) (Nat.le_refl _) W l o o' hl h ho hw) (by have := SW.out.1; omega) (by have := SW.out.1; omega) hw1)
  (Below.refl _ _) (fun _ => rfl)
  (fun pre W => W1.heap.size ≤ W.heap.size ∧ Fr w A s.length c B xs.length d W ∧ W.cell? ⟨w2.heap.size + 1, 0, none⟩ = some (.slice (some ⟨w2.heap.size, 0, none⟩) N N) ∧ Own (w.heap.size + 2) W (.slice (some ⟨w2.heap.size, 0, none⟩) N N) (TnI.setP (fun i => xs.getD (srcI s g i).toNat 0) (pre.map (·.1)) (List.replicate N 0)))
  (fun _ _ _ => False)
  (fun pre W W' row hs hg hr => by
   have hb := below_grown hs.1 hg hr
   have := SW.out
   exact ⟨Nat.le_trans hs.1 hb.size, hs.2.1.tb (hb.mono (by omega)), (hb.cell (p := ⟨w2.heap.size + 1, 0, none⟩) (by show w2.heap.size + 1 < _; omega)).trans hs.2.2.1, hs.2.2.2.tb hb (by omega)⟩)
  (fun _ _ _ _ _ hs _ _ => hs)
  ⟨Nat.le_refl _, FW.out, BW.out, OW.out⟩
  (fun x => { tmps := #[.agg #[.slice A s.length c, .slice B xs.length d], .slice C g.length e, .pointer (some ⟨w.heap.size, 0, none⟩), undef, .pointer (some ⟨w.heap.size + 1, 0, none⟩), .int .i64 0, .pointer (some ⟨w2.heap.size + 1, 0, none⟩), .int .i64 (x.1 : Int), .int .i64 (srcI s g x.1),
   .agg #[.slice A s.length c, .slice B xs.length d], .bool true, .bool false, undef, .pointer (some ⟨w.heap.size, 0, none⟩), .slice A s.length c, .slice C g.length e, .bool true, .bool false, undef, .slice C g.length e, .int .i64 (N : Int), .slice (some ⟨w2.heap.size, 0, none⟩) N N, .slice C g.length e, .pointer (some ⟨w.heap.size, 0, none⟩), .slice A s.length c,
   .func (.func 148) #[] #[.pointer (some ⟨w2.heap.size + 1 + 1, 0, none⟩), .pointer (some ⟨w2.heap.size + 1 + 1 + 1, 0, none⟩)], .int .i64 (x.1 : Int), .int .i64 (srcI s g x.1), undef, undef, undef, undef, undef, undef, undef, undef, undef, undef, undef, undef], defers := [] }) ?assign ?body ?done ?stop
 case assign =>
  intro l x W K hK
  gi_wp2
  exact hK
 case body =>
  rintro l pre ⟨k, hk⟩ W ⟨hsz, hfr, hbx, hown⟩ _
  obtain ⟨m, hm, hmx2⟩ := HM.out k hk
  obtain ⟨bd, x0, rfl, hbl, hx, hc⟩ := HBX.out.at_ hmx2
  dsimp only
  rw [hm]
  have b1 := hfr.b1
  have c1 : W.cell? (bd.add m) = some (.int .i64 x0) := (hfr.kp.cell (by rw [block_of_add]; exact hbl)).trans hc
  have HLN : Hid ((TnI.setP (fun i => xs.getD (srcI s g i).toNat 0) (pre.map (·.1)) (List.replicate N 0)).length = N) := by show List.length _ = N; rw [TnI.setP_len]; simp
  have e1 := hown.cell_ (j := k) (List.getElem?_eq_getElem (by rw [HLN.out]; exact hk))
  have e2 := hown.froz_ k
  have HO := lH hown
  have HFR := lH hfr
  have HV : Hid (xs.getD (srcI s g k).toNat 0 = x0) := by show List.getD _ _ _ = x0; rw [hm, Int.toNat_natCast, List.getD_eq_getElem?_getD, hx]; rfl
  have i1 : (0 : Int) ≤ (m : Int) := by omega
  have i2 : (m : Int) < (xs.length : Int) := by omega
  have i3 : (k : Int) < (N : Int) := by omega
  have i4 : (0 : Int) ≤ (k : Int) := by omega
  have HSW := lH SW.out
  clear hm hx hc hown hbl
  gi_wp2
  refine round_tail 8 hmx (by kernel_rfl) (by kernel_rfl) (fun ⟨_, _, h⟩ => h) ?_
  simp only [List.take_succ_cons, List.take_zero, List.drop_succ_cons, List.drop_zero]
  repeat still_step
  try refine wpStill_nil ?_
  change wpList _ _ _ _ _ W.drew
  go_wp2
  have hne : w2.heap.size ≠ w2.heap.size + 1 := by omega
  refine ⟨(KeepsOthers.drew _).trans (KeepsOthers.setCell _ _ _), fun q => (q.tr (Below.drew (Kp.refl _))).put (p := ⟨w2.heap.size, k, none⟩) (by show w2.heap.size ≠ _; omega) (by show w2.heap.size ≠ _; omega) (by show w.heap.size ≤ w2.heap.size; have := HSW.out.2; omega) _, ?_, ?_, ?_, ?_⟩
  ·show W1.heap.size ≤ (W.setCell ⟨w2.heap.size, k, none⟩ (.int .i64 x0)).heap.size
   rw [World.size_setCell]; exact hsz
  ·exact (HFR.out.tr (Below.drew (Kp.refl _))).tb ((Below.refl _ _).setCell (p := ⟨w2.heap.size, k, none⟩) HSW.out.2 _)
  ·exact cell_ne (fun e => hne (congrArg Addr.block e)) hbx
  ·rw [List.map_append, List.map_cons, List.map_nil, TnI.setP_snoc]
   show Own _ _ _ (List.set _ k (xs.getD (srcI s g k).toNat 0))
   rw [HV.out]
   exact (HO.out.set_ k x0).drew
 case done =>
  rintro D ys W hD hS ⟨hsz, hfr, hbx, hown⟩ hK
  have hDl : D < W.heap.size := (Array.getElem?_eq_some_iff.1 hK).1
  rw [hS] at hown
  have HO := lH hown
  have HFR := lH hfr
  have HBC := lH hbx
  have HKD := lH hK
  have y1 : w2.heap.size + 1 < W.heap.size := by have := SW.out.1; omega
  have HCW : Hid (Kp w W.drew) := hfr.kp.drew
  clear hown hK
  obtain ⟨_, b0, b1, r0, r1, f0, f1, hfs⟩ := hfr
  have y2 : w.heap.size + 1 < W.heap.size := by omega
  gi_wp2
  refine wpIn_calm ?_
  gi_region_with_o (refine ⟨trivial, ?_⟩; gi_at_call 23; refine (callsIn_wide.2 (HCL.out _ HCW.out)).mono ?_; rintro en w5 ⟨AS, cS, rfl, oS, kS⟩; have cellF : ∀ p : Addr, p.block < W.heap.size → w5.cell? p = W.cell? p := fun p hp => kS.cell hp; have frozF : ∀ p : Addr, p.block < W.heap.size → w5.frozen? p = W.frozen? p := fun p hp => kS.frozen hp; have HOS := lH oS; have HKS : Hid (Kp W w5) := ⟨kS.os, kS.tape, kS.output, kS.size, kS.block⟩; clear oS kS)
  all_goals gi_wp2
  all_goals
   have hK5 : w5.heap[D]? = some (.deferred (some [])) := (HKS.out.block D hDl).trans HKD.out
   have hD2 : w.heap.size + 1 < D := by have := SW.out.1; have := SW.out.2; omega
   have hF5 := HFR.out.tr HKS.out
   refine ret_marks (v := .tuple #[.agg #[.slice AS g.length cS, .slice (some ⟨w2.heap.size, 0, none⟩) N N], .int .i64 0]) (fin_K hK5 hD2 _ _) (by
    have q0 := hF5.fin_0 hK5 hD2 (.slice AS g.length cS) (.slice (some ⟨w2.heap.size, 0, none⟩) N N)
    have q1 := hF5.fin_1 hK5 hD2 (.slice AS g.length cS) (.slice (some ⟨w2.heap.size, 0, none⟩) N N)
    unfold finW at q0 q1
    simp [results, Tryz.results84, go_sem, q0, q1]) ?_
   exact RetT.on HF.out rfl (by rw [TnI.setP_len]; simp) (HOS.out.fin (by show _ < W.heap.size; omega) hK5 hD2 _ _).sl ((HO.out.kp HKS.out).fin (Nat.lt_succ_self _) hK5 hD2 _ _).sl (hF5.fin_kp hK5 hD2 _ _)
 case stop =>
  rintro D c pre W _ _ h _
  exact h.elim
theorem spread_any (A B C : Option Addr) (c d e : Nat) (s xs g : List Int) (w : World) (hA : Rd w A s) (hB : Rd w B xs) (hC : Rd w C g) :
  Calls Tryz.prog 84 #[.agg #[.slice A s.length c, .slice B xs.length d], .slice C g.length e] w (RetT (spreadV s xs g) w) := by
 have hl := hA.len
 have gl := hB.len
 have kl := hC.len
 cases ht : tokV s xs with
 | false =>
  have F0 := lH (Fr.mk_ w A s.length c B xs.length d 27)
  have HT := lH (tcheck_any A B c d s xs _ (hA.kp F0.out.kp) (hB.kp F0.out.kp))
  rw [ht] at HT
  have HF := lH (TnG.spread_no g ht)
  clear ht
  go_enter Tryz.func84, Tryz.ntmps84
  go_wp2_with fail
  refine (Calls.mono (Hid.out HT)) ?_; rintro e w1 ⟨rfl, k1⟩
  have F1 := lH (F0.out.tr k1)
  obtain ⟨_, b0, b1, r0, r1, f0, f1, _⟩ := F1.out
  clear k1
  go_wp2
  refine bodyPost_ret (by simp [results, Tryz.results84, go_sem, r0, r1]; try rfl) rfl ?_
  exact RetT.err HF.out (F1.out.end_ _ _)
 | true =>
  cases hf : fitsV s g with
  | true => exact spread_true A B C c d e s xs g w hA hB hC ht hf
  | false =>
   have F0 := lH (Fr.mk_ w A s.length c B xs.length d 27)
   have HT := lH (tcheck_any A B c d s xs _ (hA.kp F0.out.kp) (hB.kp F0.out.kp))
   rw [ht] at HT
   have HG : Hid (∀ W, Kp w W → Calls Tryz.prog 101 #[.slice A s.length c, .slice C g.length e] W fun e w' => e = .returned (.bool false) ∧ Kp W w') := fun W k => by rw [← hf]; exact fits_any A C c e s g W (hA.kp k) (hC.kp k)
   have HF := lH (TnG.spread_misfit ht hf)
   clear ht hf
   go_enter Tryz.func84, Tryz.ntmps84
   go_wp2_with fail
   refine (Calls.mono (Hid.out HT)) ?_; rintro e w1 ⟨rfl, k1⟩
   have F1 := lH (F0.out.tr k1)
   obtain ⟨_, b0, b1, _, _, _, _, _⟩ := F1.out
   clear k1
   go_wp2_with fail
   refine (Calls.mono (HG.out _ F1.out.kp)) ?_; rintro e w2 ⟨rfl, k2⟩
   have F2 := lH (F1.out.tr k2)
   clear b0 b1 k2
   obtain ⟨_, b0, b1, r0, r1, f0, f1, _⟩ := F2.out
   go_wp2
   refine bodyPost_ret (by simp [results, Tryz.results84, go_sem, r0, r1]; try rfl) rfl ?_
   exact RetT.err HF.out (F2.out.end_ _ _)
open Go.RowKit Go.Shelf Go.Proofs.ShM Go.Proofs.FixM
attribute [local go_sem] Oper.semAt_some
namespace TnJ
def stepP (f : Nat → Nat) (d : List Int) (k : Nat) (zs : List Int) : Option (List Int) :=
 if (addV (zs.getD (f k) 0) (d.getD k 0)).2 = 0 then some (zs.set (f k) (addV (zs.getD (f k) 0) (d.getD k 0)).1) else none
def foldP (f : Nat → Nat) (d : List Int) : List Nat → List Int → Option (List Int)
 | [], zs => some zs
 | k :: ks, zs => (stepP f d k zs).bind (foldP f d ks)
theorem foldP_append (f : Nat → Nat) (d : List Int) (b : List Nat) : ∀ (a : List Nat) (zs : List Int), foldP f d (a ++ b) zs = (foldP f d a zs).bind (foldP f d b) := by
 intro a
 induction a with
 | nil => intro zs; rfl
 | cons k ks ih =>
  intro zs
  simp only [List.cons_append, foldP]
  cases stepP f d k zs with
  | none => rfl
  | some z => exact ih z
theorem foldP_snoc {f : Nat → Nat} {d : List Int} {pre : List Nat} {k : Nat} {zs ys : List Int} (h : foldP f d pre zs = some ys) : foldP f d (pre ++ [k]) zs = stepP f d k ys := by
 rw [foldP_append, h]
 show (stepP f d k ys).bind (foldP f d []) = _
 cases stepP f d k ys <;> rfl
theorem step_inv {f : Nat → Nat} {d : List Int} {k : Nat} {zs ys : List Int} (h : stepP f d k zs = some ys) (hz : I64s zs) : I64s ys ∧ ys.length = zs.length := by
 unfold stepP at h
 split at h
 ·injection h with h
  subst h
  exact ⟨hz.set_ _ add_in, by simp⟩
 ·cases h
theorem foldP_inv {f : Nat → Nat} {d : List Int} : ∀ {pre : List Nat} {zs ys : List Int}, foldP f d pre zs = some ys → I64s zs → I64s ys ∧ ys.length = zs.length := by
 intro pre
 induction pre with
 | nil => intro zs ys h hz; injection h with h; subst h; exact ⟨hz, rfl⟩
 | cons k ks ih =>
  intro zs ys h hz
  simp only [foldP, Option.bind_eq_some_iff] at h
  obtain ⟨z, h1, h2⟩ := h
  obtain ⟨a, b⟩ := step_inv h1 hz
  obtain ⟨a', b'⟩ := ih h2 a
  exact ⟨a', b'.trans b⟩
theorem fold_form (f : Nat → Nat) (d : List Int) : ∀ (zs : List Int) (k : Nat), (foldG f zs k d).2 = 0 ∨ foldG f zs k d = ([], 10) := by
 induction d with
 | nil => intro zs k; exact .inl rfl
 | cons x d ih =>
  intro zs k
  simp only [foldG]
  split
  ·exact ih _ _
  ·rename_i hne
   rcases TnG.add_two (zs.getD (f k) 0) x with ⟨v, hv⟩ | hv
   ·rw [hv] at hne; exact absurd rfl hne
   ·rw [hv]; exact .inr rfl
theorem foldP_range' (f : Nat → Nat) (d : List Int) : ∀ (e : List Int) (k : Nat) (zs : List Int), d.drop k = e → foldP f d (List.range' k e.length) zs = if (foldG f zs k e).2 = 0 then some (foldG f zs k e).1 else none := by
 intro e
 induction e with
 | nil => intro k zs _; rfl
 | cons x e ih =>
  intro k zs h
  have hx : d[k]? = some x := by have := congrArg (·[0]?) h; simpa using this
  have he : d.drop (k + 1) = e := by rw [← List.drop_drop, h]; rfl
  rw [List.length_cons, List.range'_succ]
  simp only [foldP, stepP, foldG, List.getD_eq_getElem?_getD, hx, Option.getD_some]
  split
  ·exact ih (k + 1) _ he
  ·rename_i hne
   rfl
theorem foldP_all (f : Nat → Nat) (d zs : List Int) : foldP f d (List.range d.length) zs = if (foldG f zs 0 d).2 = 0 then some (foldG f zs 0 d).1 else none := by
 rw [List.range_eq_range']; exact foldP_range' f d d 0 zs rfl
theorem fold_done {f : Nat → Nat} {d zs ys : List Int} (h : foldP f d (List.range d.length) zs = some ys) : foldG f zs 0 d = (ys, 0) := by
 rw [foldP_all] at h
 split at h
 ·rename_i h0
  injection h with h
  exact Prod.ext h h0
 ·cases h
theorem fold_over {f : Nat → Nat} {d zs : List Int} {k : Nat} (hk : k ≤ d.length) (h : foldP f d (List.range k) zs = none) : foldG f zs 0 d = ([], 10) := by
 have e : List.range d.length = List.range k ++ (List.range d.length).drop k := by
  have := List.take_append_drop k (List.range d.length)
  rw [List.take_range, show min k d.length = k by omega] at this
  exact this.symm
 have h2 : foldP f d (List.range d.length) zs = none := by rw [e, foldP_append, h]; rfl
 rw [foldP_all] at h2
 rcases fold_form f d zs 0 with h0 | h0
 ·rw [if_pos h0] at h2; cases h2
 ·exact h0
theorem step_yes {f : Nat → Nat} {d zs : List Int} {k m : Nat} {x y v : Int} (hf : f k = m) (hx : d[k]? = some x) (hy : zs[m]? = some y) (hv : addV y x = (v, 0)) : stepP f d k zs = some (zs.set m v) := by
 unfold stepP
 rw [hf, List.getD_eq_getElem?_getD, List.getD_eq_getElem?_getD, hx, hy]
 simp [hv]
theorem step_no {f : Nat → Nat} {d zs : List Int} {k m : Nat} {x y : Int} (hf : f k = m) (hx : d[k]? = some x) (hy : zs[m]? = some y) (hv : addV y x = (0, 10)) : stepP f d k zs = none := by
 unfold stepP
 rw [hf, List.getD_eq_getElem?_getD, List.getD_eq_getElem?_getD, hx, hy]
 simp [hv]
end TnJ
theorem keeps_drewN (W : World) (n : Nat) : KeepsOthers W (W.drewN n) := ⟨Nat.le_refl _, fun _ _ h _ => h⟩
structure Fe (w : World) (A : Option Addr) (n c : Nat) (B : Option Addr) (m d : Nat) (er : Int) (w' : World) : Prop where
 fr : Fr w A n c B m d w'
 e0 : w'.cell? ⟨w.heap.size + 1 + 1, 0, none⟩ = some (.int .i64 er)
 ef : w'.frozen? ⟨w.heap.size + 1 + 1, 0, none⟩ = false
 sz : w.heap.size + 3 ≤ w'.heap.size
section
variable {w a b : World} {A B : Option Addr} {n c m d : Nat} {er : Int}
theorem Fe.tb (h : Fe w A n c B m d er a) (k : Below (w.heap.size + 3) a b) : Fe w A n c B m d er b where
 fr := h.fr.tb (k.mono (by omega))
 e0 := (k.cell (p := ⟨w.heap.size + 1 + 1, 0, none⟩) (by show w.heap.size + 1 + 1 < _; omega)).trans h.e0
 ef := (k.frozen (p := ⟨w.heap.size + 1 + 1, 0, none⟩) (by show w.heap.size + 1 + 1 < _; omega)).trans h.ef
 sz := Nat.le_trans h.sz k.size
theorem Fe.tr (h : Fe w A n c B m d er a) (k : Kp a b) : Fe w A n c B m d er b := h.tb (k.mono h.sz)
theorem Fe.mk_ (w : World) (A : Option Addr) (n c : Nat) (B : Option Addr) (m d : Nat) (t u : TypeId) : Fe w A n c B m d 0 (((w.alloc (.cells #[.slice A n c, .slice B m d] t)).alloc (.cells #[.slice none 0 0, .slice none 0 0] t)).alloc (.cells #[.int .i64 0] u)) where
 fr := (Fr.mk_ w A n c B m d t).tr (Kp.alloc_ _ _)
 e0 := by simp [go_sem]
 ef := by simp [go_sem]
 sz := by simp
end
section
variable {w a : World} {A B : Option Addr} {n c m d D : Nat} {er : Int}
def finE (w a : World) (x y z : Value) : World := (finW w a x y).setCell ⟨w.heap.size + 1 + 1, 0, none⟩ z
theorem finE_K (hD : a.heap[D]? = some (.deferred (some []))) (hne : w.heap.size + 2 < D) (x y z : Value) : (finE w a x y z).heap[D]? = some (.deferred (some [])) := by
 unfold finE
 rw [Below.heap_setCell _ _ _ D (by show D ≠ w.heap.size + 1 + 1; omega)]
 exact fin_K hD (by omega) x y
theorem put_B {W : World} (hK : W.heap[D]? = some (.deferred (some []))) : Below D W (W.putObj D (.deferred none)) :=
 (Below.refl D _).grown (grownBy_putObj' _ D _) (Nat.le_of_lt (Array.getElem?_eq_some_iff.1 hK).1) (fun k e => by cases e; exact Nat.le_refl _)
theorem Fe.finE_fe (h : Fe w A n c B m d er a) (x y : Value) (z : Int) : (finE w a x y (.int .i64 z)).cell? ⟨w.heap.size + 1, 0, none⟩ = some x ∧ (finE w a x y (.int .i64 z)).cell? ⟨w.heap.size + 1, 1, none⟩ = some y ∧ (finE w a x y (.int .i64 z)).cell? ⟨w.heap.size + 1 + 1, 0, none⟩ = some (.int .i64 z) := by
 unfold finE finW
 refine ⟨cell_ne (by simp) (cell_ne (by simp) (World.cell?_setCell_same' _ _ _ (by rw [h.fr.r0]; rfl))), cell_ne (by simp) (World.cell?_setCell_same' _ _ _ (some_ne (by simp) (by rw [h.fr.r1]; rfl))), ?_⟩
 exact World.cell?_setCell_same' _ _ _ (some_ne (by simp) (some_ne (by simp) (by rw [h.e0]; rfl)))
theorem Fe.finE_kp (h : Fe w A n c B m d er a) (x y z : Value) : Kp w (finE w a x y z) := (h.fr.end_ x y).setCell (p := ⟨w.heap.size + 1 + 1, 0, none⟩) (by show w.heap.size ≤ w.heap.size + 1 + 1; omega) z
theorem Fe.to_err (h : Fe w A n c B m d er a) (z : Int) : Fe w A n c B m d z (finE w a (.slice none 0 0) (.slice none 0 0) (.int .i64 z)) := by
 obtain ⟨q0, q1, q2⟩ := h.finE_fe (.slice none 0 0) (.slice none 0 0) z
 have hs : (finE w a (.slice none 0 0) (.slice none 0 0) (.int .i64 z)).heap.size = a.heap.size := by unfold finE finW; rw [World.size_setCell, World.size_setCell, World.size_setCell]
 refine ⟨⟨h.finE_kp _ _ _, ?_, ?_, q0, q1, ?_, ?_, by rw [hs]; exact h.fr.sz⟩, q2, ?_, by rw [hs]; exact h.sz⟩
 ·unfold finE finW; exact cell_ne (by simp) (cell_ne (by simp) (cell_ne (by simp) h.fr.b0))
 ·unfold finE finW; exact cell_ne (by simp) (cell_ne (by simp) (cell_ne (by simp) h.fr.b1))
 ·unfold finE finW; rw [World.frozen?_setCell, World.frozen?_setCell, World.frozen?_setCell]; exact h.fr.f0
 ·unfold finE finW; rw [World.frozen?_setCell, World.frozen?_setCell, World.frozen?_setCell]; exact h.fr.f1
 ·unfold finE finW; rw [World.frozen?_setCell, World.frozen?_setCell, World.frozen?_setCell]; exact h.ef
theorem Own.finE {b : Nat} {v : Value} {xs : List Int} (h : Own b a v xs) (hb : w.heap.size + 2 < b) (hD : a.heap[D]? = some (.deferred (some []))) (hne : w.heap.size + 2 < D) (x y z : Value) : Own b ((finE w a x y z).putObj D (.deferred none)) v xs :=
 ownsRow_putObj (((h.put_ (p := ⟨w.heap.size + 1, 0, none⟩) (by show w.heap.size + 1 < b; omega) x).put_ (p := ⟨w.heap.size + 1, 1, none⟩) (by show w.heap.size + 1 < b; omega) y).put_ (p := ⟨w.heap.size + 1 + 1, 0, none⟩) hb z) _ (finE_K hD hne x y z) rfl
end
theorem fold_true (A B C : Option Addr) (c d e : Nat) (g xs s : List Int) (w : World) (hA : Rd w A g) (hB : Rd w B xs) (hC : Rd w C s) (hi : I64s xs) (ht : tokV g xs = true) (hf : fitsV s g = true) :
  Calls Tryz.prog 57 #[.agg #[.slice A g.length c, .slice B xs.length d], .slice C s.length e] w (RetT (foldV g xs s) w) := by
 have hl := hA.len
 have gl := hB.len
 have kl := hC.len
 have F0 := lH (Fe.mk_ w A g.length c B xs.length d 27 31)
 have HT := lH (tcheck_any A B c d g xs _ (hA.kp F0.out.fr.kp) (hB.kp F0.out.fr.kp))
 rw [ht] at HT
 have HG : Hid (∀ W, Kp w W → Calls Tryz.prog 101 #[.slice C s.length e, .slice A g.length c] W fun e w' => e = .returned (.bool true) ∧ Kp W w') := fun W k => by rw [← hf]; exact fits_any C A e c s g W (hC.kp k) (hA.kp k)
 have hg := (fits_al hf).1
 have hp := ok_prod hg
 have hz := size_ok hg
 obtain ⟨M, hM⟩ : ∃ M : Nat, sizeV s = M := ⟨(sizeV s).toNat, by omega⟩
 have hxl : sizeV g = (xs.length : Int) := by have := (tok_iff.1 ht); rw [size_ok this.1]; exact this.2.symm
 have hfl : foldL s g xs = foldG (fun i => (srcI s g i).toNat) (List.replicate M 0) 0 xs := by unfold foldL; rw [hM, Int.toNat_natCast]
 have HY : Hid (∀ zs, TnJ.foldP (fun i => (srcI s g i).toNat) xs (List.range xs.length) (List.replicate M 0) = some zs → foldV g xs s = (s, zs, 0)) := fun zs r => TnG.fold_yes ht hf (hfl.trans (TnJ.fold_done r))
 have HN : Hid (∀ k, k ≤ xs.length → TnJ.foldP (fun i => (srcI s g i).toNat) xs (List.range k) (List.replicate M 0) = none → foldV g xs s = ([], [], 10)) := fun k hk r => TnG.fold_err ht hf (hfl.trans (TnJ.fold_over hk r))
 have HS : Hid (∀ W, Kp w W → Calls Tryz.prog 22 #[.slice C s.length e] W fun e w' => e = .returned (.int .i64 (M : Int)) ∧ W = w') := fun W kk => by
  have hh := size_any C e s W (hC.kp kk)
  rw [hM] at hh
  exact hh
 have HM : Hid (∀ k : Nat, k < xs.length → ∃ m : Nat, srcI s g k = (m : Int) ∧ m < M) := fun k hk => TnG.dst_nat ht hf hM hk
 have HPS : Hid (∀ (n Bs Bf : Nat) (w0 : World), 1 ≤ n → Qp w Bs Bf A g.length c C s.length e w0 → SeqStopsK Fence.wide n Tryz.prog 148 #[.pointer (some ⟨Bs, 0, none⟩), .pointer (some ⟨Bf, 0, none⟩)] (plEnc s g xs.length) (fun W W' => Qp w Bs Bf A g.length c C s.length e W → Qp w Bs Bf A g.length c C s.length e W')
   (fun ys => ys.map (·.1) = List.range xs.length) (fun pre => ∃ k, k ≤ xs.length ∧ pre.map (·.1) = List.range k) xs.length w0) := fun n Bs Bf w0 hn hq => places_stops C A e c s g xs.length Bs Bf n w w0 hC hA hf hxl hn hq
 have n1 : 0 < M := by omega
 have n2 : M ≤ 64 := by omega
 have hs3 : s.length ≤ 1000000 := by have := (ok_iff.1 hg).1; omega
 have HCL : Hid (∀ W, Kp w W → Calls Tryz.prog 23 #[.slice C s.length e] W (RetO s W)) := fun W kk => clone_any C e s W (hC.kp kk) hs3
 have hx64 : xs.length ≤ 64 := (tok_len ht).2.2.2
 obtain ⟨cs, hmk, hown0⟩ := mk_ M (by omega)
 have HOW := lH hown0
 have HBX := lH hB
 have HIX := lH hi
 clear ht hf hg hp hz hM hown0 hs3 hxl hfl hi
 refine (callsIn_wide (n := 4)).1 ?_
 refine callsIn_of_wp_marks Tryz.func57 rfl trivial ?_ rfl
 simp only [Tryz.ntmps57, List.size_toArray, List.length_cons, List.length_nil, Nat.reduceAdd, Nat.reduceSub, Array.replicate_succ, Array.replicate_zero, List.push_toArray, List.append_toArray, List.nil_append, List.cons_append]
 gi_wp2_with fail
 refine ⟨trivial, (callsIn_wide.2 HT.out).mono ?_⟩; rintro en w1 ⟨rfl, k1⟩
 have F1 := lH (F0.out.tr k1)
 have b0 := F1.out.fr.b0
 have b1 := F1.out.fr.b1
 clear k1
 gi_wp2_with fail
 refine ⟨trivial, (callsIn_wide.2 (HG.out _ F1.out.fr.kp)).mono ?_⟩; rintro en w2 ⟨rfl, k2⟩
 have F2 := lH (F1.out.tr k2)
 clear k2 b0 b1
 gi_wp2_with fail
 refine ⟨trivial, (callsIn_wide.2 (HS.out _ F2.out.fr.kp)).mono ?_⟩; rintro en w3 ⟨rfl, rfl⟩
 have b0 := F2.out.fr.b0
 have y1 : w.heap.size < w2.heap.size := by have := F2.out.sz; omega
 have y2 : w.heap.size < w2.heap.size + 1 := by omega
 gi_wp2_with fail
 refine ⟨trivial, (callsIn_wide.2 (places_any _ _ _ _ _ _ _)).mono ?_⟩; rintro en w4 ⟨rfl, rfl⟩
 gi_wp2_with fail
 have hmx : Tryz.prog.follows .mixedOrders = true := by kernel_rfl
 obtain ⟨W1, hW1⟩ : ∃ W1, ((((w2.alloc (.cells cs 3)).alloc (.cells #[.slice (some ⟨w2.heap.size, 0, none⟩) M M] 22)).alloc (.cells #[.slice A g.length c] 22)).alloc (.cells #[.slice C s.length e] 22)) = W1 := ⟨_, rfl⟩
 have FW : Hid (Fe w A g.length c B xs.length d 0 W1) := by show Fe w A g.length c B xs.length d 0 W1; rw [← hW1]; exact (((F2.out.tr (Kp.alloc_ _ _)).tr (Kp.alloc_ _ _)).tr (Kp.alloc_ _ _)).tr (Kp.alloc_ _ _)
 have SW : Hid (W1.heap.size = w2.heap.size + 4 ∧ w.heap.size + 3 ≤ w2.heap.size) := ⟨by rw [← hW1]; simp, F2.out.sz⟩
 have OW : Hid (Own (w.heap.size + 3) W1 (.slice (some ⟨w2.heap.size, 0, none⟩) M M) (List.replicate M 0)) := by
  show Own (w.heap.size + 3) W1 _ _; rw [← hW1]; exact (((HOW.out w2 (w.heap.size + 3) F2.out.sz).kp (Kp.alloc_ _ _)).kp (Kp.alloc_ _ _)).kp (Kp.alloc_ _ _)
 have BW : Hid (W1.cell? ⟨w2.heap.size + 1, 0, none⟩ = some (.slice (some ⟨w2.heap.size, 0, none⟩) M M)) := by show W1.cell? _ = _; rw [← hW1]; simp [go_sem]
 have QW : Hid (Qp w (w2.heap.size + 1 + 1) (w2.heap.size + 1 + 1 + 1) A g.length c C s.length e W1) := by
  refine lH ⟨by rw [← hW1]; simp [go_sem], by rw [← hW1]; simp [go_sem], FW.out.fr.kp, ?_, ?_⟩
  ·have := SW.out.1; omega
  ·have := SW.out.1; omega
 rw [hW1]
 clear hW1 b0 y1 y2 hmk
 have hw1 : w.heap.size ≤ W1.heap.size := FW.out.fr.kp.size
 refine wpIn_rangeFunc_ownF rfl (by omega) (gf := 148) (lb := #[.pointer (some ⟨w2.heap.size + 1 + 1, 0, none⟩), .pointer (some ⟨w2.heap.size + 1 + 1 + 1, 0, none⟩)]) rfl trivial (enters_of Tryz.func148 (by kernel_rfl) rfl)
  (HPS.out _ _ _ W1 (by omega) QW.out) (fun h k q => k (h q))
  (fun W l o o' hl h ho hw q => q.tb (belowK_b (w := W1) (Nat.le_refl _) W l o o' hl h ho hw) (by have := SW.out.1; omega) (by have := SW.out.1; omega) hw1)
  (Below.refl _ _) (fun _ => rfl)
  (fun pre W => W1.heap.size ≤ W.heap.size ∧ Fe w A g.length c B xs.length d 0 W ∧ W.cell? ⟨w2.heap.size + 1, 0, none⟩ = some (.slice (some ⟨w2.heap.size, 0, none⟩) M M) ∧ ∃ zs, TnJ.foldP (fun i => (srcI s g i).toNat) xs (pre.map (·.1)) (List.replicate M 0) = some zs ∧ Own (w.heap.size + 3) W (.slice (some ⟨w2.heap.size, 0, none⟩) M M) zs)
  (fun c0 pre W => W1.heap.size ≤ W.heap.size ∧ c0 = .ret ∧ Fe w A g.length c B xs.length d 10 W ∧ TnJ.foldP (fun i => (srcI s g i).toNat) xs (pre.map (·.1)) (List.replicate M 0) = none)
  (fun pre W W' row hs hg hr => by
   have hb := below_grown hs.1 hg hr
   have := SW.out
   obtain ⟨h1, h2, h3, zs, h4, h5⟩ := hs
   exact ⟨Nat.le_trans h1 hb.size, h2.tb (hb.mono (by omega)), (hb.cell (p := ⟨w2.heap.size + 1, 0, none⟩) (by show w2.heap.size + 1 < _; omega)).trans h3, zs, h4, h5.tb hb (by omega)⟩)
  (fun c0 pre W W' row hs hg hr => by
   have hb := below_grown hs.1 hg hr
   have := SW.out
   exact ⟨Nat.le_trans hs.1 hb.size, hs.2.1, hs.2.2.1.tb (hb.mono (by omega)), hs.2.2.2⟩)
  ⟨Nat.le_refl _, FW.out, BW.out, _, rfl, OW.out⟩
  (fun x => { tmps := #[.agg #[.slice A g.length c, .slice B xs.length d], .slice C s.length e, .pointer (some ⟨w.heap.size, 0, none⟩), undef, .pointer (some ⟨w.heap.size + 1, 0, none⟩), .pointer (some ⟨w.heap.size + 1 + 1, 0, none⟩), .pointer (some ⟨w2.heap.size + 1, 0, none⟩), .int .i64 (x.1 : Int), .int .i64 (srcI s g x.1), undef, undef,
   .agg #[.slice A g.length c, .slice B xs.length d], .bool true, .bool false, undef, .slice C s.length e, .pointer (some ⟨w.heap.size, 0, none⟩), .slice A g.length c, .bool true, .bool false, undef, .slice C s.length e, .int .i64 (M : Int), .slice (some ⟨w2.heap.size, 0, none⟩) M M, .pointer (some ⟨w.heap.size, 0, none⟩), .slice A g.length c, .slice C s.length e,
   .func (.func 148) #[] #[.pointer (some ⟨w2.heap.size + 1 + 1, 0, none⟩), .pointer (some ⟨w2.heap.size + 1 + 1 + 1, 0, none⟩)], .int .i64 (x.1 : Int), .int .i64 (srcI s g x.1), undef, undef, undef, undef, undef, undef, undef, undef, undef, undef, undef, undef, undef, undef, undef, undef, undef, undef, undef, undef, undef, undef, undef, undef, undef], defers := [] }) ?assign ?body ?done ?stop
 case assign =>
  intro l x W K hK
  gi_wp2
  exact hK
 case body =>
  rintro l pre ⟨k, hk⟩ W ⟨hsz, hfe, hbx, zs, hfp, hown⟩ _
  obtain ⟨m, hm, hmx2⟩ := HM.out k hk
  obtain ⟨bd, x, rfl, hbl, hx, hc⟩ := HBX.out.at_ hk
  dsimp only
  rw [hm]
  obtain ⟨hz1, hz2⟩ := TnJ.foldP_inv hfp (I64s.rep (by omega))
  rw [List.length_replicate] at hz2
  obtain ⟨y, hy⟩ : ∃ y, zs[m]? = some y := ⟨zs[m]'(by rw [hz2]; exact hmx2), List.getElem?_eq_getElem _⟩
  have hi1 : I64 x := HIX.out.get hx
  have hi2 : I64 y := hz1.get hy
  have HAD : Hid (∀ W, Calls Tryz.prog 98 #[.int .i64 y, .int .i64 x] W fun e w' => e = .returned (.tuple #[.int .i64 (addV y x).1, .int .i64 (addV y x).2]) ∧ W = w') := fun W => add_any y x hi2 hi1 W
  have hmm : (fun i : Nat => (srcI s g i).toNat) k = m := by show (srcI s g k).toNat = m; omega
  have b1 := hfe.fr.b1
  have c1 : W.cell? (bd.add k) = some (.int .i64 x) := (hfe.fr.kp.cell (by rw [block_of_add]; exact hbl)).trans hc
  have e1 := hown.cell_ hy
  have e2 := hown.froz_ m
  have HO := lH hown
  have HFE := lH hfe
  have i1 : (0 : Int) ≤ (m : Int) := by omega
  have i2 : (m : Int) < (M : Int) := by omega
  have i3 : (k : Int) < (xs.length : Int) := by omega
  have i4 : (0 : Int) ≤ (k : Int) := by omega
  have HSW := lH SW.out
  have r0 := hfe.fr.r0
  have r1 := hfe.fr.r1
  have f0 := hfe.fr.f0
  have f1 := hfe.fr.f1
  have g0 := hfe.e0
  have g1 := hfe.ef
  have hne : w2.heap.size ≠ w2.heap.size + 1 := by omega
  rcases TnG.add_two y x with ⟨v, hv⟩ | hv
  ·rw [hv] at HAD
   have HST : Hid (TnJ.foldP (fun i => (srcI s g i).toNat) xs ((pre ++ [(⟨k, hk⟩ : Pl xs.length)]).map (·.1)) (List.replicate M 0) = some (zs.set m v)) := by
    show TnJ.foldP _ _ _ _ = _
    rw [List.map_append]
    exact (TnJ.foldP_snoc hfp).trans (TnJ.step_yes hmm hx hy hv)
   clear hv hmm hm hx hc hown hbl hfp hz1 hz2 hy hi1 hi2
   gi_wp2
   refine round_quiet hmx (by kernel_rfl) (by kernel_rfl) (fun ⟨_, _, h⟩ => h) ?_
   repeat (quiet_step ((go_at_call 98; exact quiet_same (HAD.out _))))
   refine wpQuiet_nil ?_
   rintro w7 ⟨nq, rfl⟩
   gi_wp2
   refine ⟨KeepsOthers.trans (keeps_drewN W nq) (KeepsOthers.setCell _ _ _), fun q => (q.tr (Kp.drewN_ _ _)).put (p := ⟨w2.heap.size, m, none⟩) (by show w2.heap.size ≠ _; omega) (by show w2.heap.size ≠ _; omega) (by show w.heap.size ≤ w2.heap.size; have := HSW.out.2; omega) _, ?_, ?_, ?_, zs.set m v, HST.out, (HO.out.drewN nq).set_ m v⟩
   ·rw [World.size_setCell]; exact hsz
   ·exact (HFE.out.tr (Kp.drewN_ _ _)).tb ((Below.refl _ _).setCell (p := ⟨w2.heap.size, m, none⟩) HSW.out.2 _)
   ·exact cell_ne (fun e => hne (congrArg Addr.block e)) hbx
  ·rw [hv] at HAD
   have HST : Hid (TnJ.foldP (fun i => (srcI s g i).toNat) xs ((pre ++ [(⟨k, hk⟩ : Pl xs.length)]).map (·.1)) (List.replicate M 0) = none) := by
    show TnJ.foldP _ _ _ _ = _
    rw [List.map_append]
    exact (TnJ.foldP_snoc hfp).trans (TnJ.step_no hmm hx hy hv)
   clear hv hmm hm hx hc hown hbl hfp hz1 hz2 hy hi1 hi2
   gi_wp2
   refine round_quiet hmx (by kernel_rfl) (by kernel_rfl) (fun ⟨_, _, h⟩ => h) ?_
   repeat (quiet_step ((go_at_call 98; exact quiet_same (HAD.out _))))
   refine wpQuiet_nil ?_
   rintro w7 ⟨nq, rfl⟩
   gi_wp2
   refine ⟨KeepsOthers.trans (keeps_drewN W nq) (((KeepsOthers.setCell _ _ _).trans (KeepsOthers.setCell _ _ _)).trans (KeepsOthers.setCell _ _ _)), ?_, rfl, (HFE.out.tr (Kp.drewN_ _ _)).to_err 10, HST.out⟩
   rw [World.size_setCell, World.size_setCell, World.size_setCell]; exact hsz
 case done =>
  rintro D ys W hD hS ⟨hsz, hfe, hbx, zs, hfp, hown⟩ hK
  have hDl : D < W.heap.size := (Array.getElem?_eq_some_iff.1 hK).1
  rw [hS] at hfp
  have HF := lH (HY.out zs hfp)
  have HZL : Hid (M = zs.length) := by show M = _; have := (TnJ.foldP_inv hfp (I64s.rep (by omega))).2; rw [List.length_replicate] at this; exact this.symm
  have HO := lH hown
  have HFE := lH hfe
  have HKD := lH hK
  have y1 : w2.heap.size + 1 < W.heap.size := by have := SW.out.1; omega
  have HCW : Hid (Kp w W.drew) := hfe.fr.kp.drew
  clear hown hK hfp
  have r0 := hfe.fr.r0
  have r1 := hfe.fr.r1
  have f0 := hfe.fr.f0
  have f1 := hfe.fr.f1
  have g0 := hfe.e0
  have g1 := hfe.ef
  have y2 : w.heap.size + 1 < W.heap.size := by have := hfe.sz; omega
  have y3 : w.heap.size + 1 + 1 < W.heap.size := by have := hfe.sz; omega
  gi_wp2
  refine wpIn_calm ?_
  gi_region_with_o (refine ⟨trivial, ?_⟩; gi_at_call 23; refine (callsIn_wide.2 (HCL.out _ HCW.out)).mono ?_; rintro en w5 ⟨AS, cS, rfl, oS, kS⟩; have cellF : ∀ p : Addr, p.block < W.heap.size → w5.cell? p = W.cell? p := fun p hp => kS.cell hp; have frozF : ∀ p : Addr, p.block < W.heap.size → w5.frozen? p = W.frozen? p := fun p hp => kS.frozen hp; have HOS := lH oS; have HKS : Hid (Kp W w5) := ⟨kS.os, kS.tape, kS.output, kS.size, kS.block⟩; clear oS kS)
  all_goals gi_wp2
  all_goals
   have hK5 : w5.heap[D]? = some (.deferred (some [])) := (HKS.out.block D hDl).trans HKD.out
   have hD2 : w.heap.size + 2 < D := by have := SW.out.1; have := SW.out.2; omega
   have hF5 := HFE.out.tr HKS.out
   refine ret_marks (v := .tuple #[.agg #[.slice AS s.length cS, .slice (some ⟨w2.heap.size, 0, none⟩) M M], .int .i64 0]) (finE_K hK5 hD2 _ _ _) (by
    have hp := put_B (finE_K (w := w) hK5 hD2 (.slice AS s.length cS) (.slice (some ⟨w2.heap.size, 0, none⟩) M M) (.int .i64 0))
    obtain ⟨q0, q1, q2⟩ := hF5.finE_fe (.slice AS s.length cS) (.slice (some ⟨w2.heap.size, 0, none⟩) M M) 0
    have p0 := (hp.cell (p := ⟨w.heap.size + 1, 0, none⟩) (by show w.heap.size + 1 < D; omega)).trans q0
    have p1 := (hp.cell (p := ⟨w.heap.size + 1, 1, none⟩) (by show w.heap.size + 1 < D; omega)).trans q1
    have p2 := (hp.cell (p := ⟨w.heap.size + 1 + 1, 0, none⟩) (by show w.heap.size + 1 + 1 < D; omega)).trans q2
    unfold finE finW at p0 p1 p2
    simp [results, Tryz.results57, go_sem, p0, p1, p2]) ?_
   exact RetT.on HF.out rfl HZL.out (HOS.out.finE (by show _ < W.heap.size; omega) hK5 hD2 _ _ _).sl ((HO.out.kp HKS.out).finE (Nat.lt_succ_self _) hK5 hD2 _ _ _).sl ((hF5.finE_kp _ _ _).trans ((put_B (finE_K hK5 hD2 _ _ _)).mono (by omega)))
 case stop =>
  rintro D c0 pre W hD ⟨k, hk, hpre⟩ ⟨hsz, rfl, hfe, hfp⟩ hK
  rw [hpre] at hfp
  have HF := lH (HN.out k hk hfp)
  have hD2 : w.heap.size + 2 < D := by have := SW.out.1; have := SW.out.2; omega
  have hp := put_B hK
  have p0 := (hp.cell (p := ⟨w.heap.size + 1, 0, none⟩) (by show w.heap.size + 1 < D; omega)).trans hfe.fr.r0
  have p1 := (hp.cell (p := ⟨w.heap.size + 1, 1, none⟩) (by show w.heap.size + 1 < D; omega)).trans hfe.fr.r1
  have p2 := (hp.cell (p := ⟨w.heap.size + 1 + 1, 0, none⟩) (by show w.heap.size + 1 + 1 < D; omega)).trans hfe.e0
  have HP := lH (And.intro p0 (And.intro p1 p2))
  have HKK := lH (And.intro hK (hfe.fr.kp.trans (hp.mono (by omega))))
  clear p0 p1 p2 hK hp
  gi_wp2
  refine ret_marks (v := .tuple #[.agg #[.slice none 0 0, .slice none 0 0], .int .i64 10]) HKK.out.1 (by
   obtain ⟨p0, p1, p2⟩ := HP.out
   simp [results, Tryz.results57, go_sem, p0, p1, p2]) ?_
  exact RetT.err HF.out HKK.out.2
theorem fold_any (A B C : Option Addr) (c d e : Nat) (g xs s : List Int) (w : World) (hA : Rd w A g) (hB : Rd w B xs) (hC : Rd w C s) (hi : I64s xs) :
  Calls Tryz.prog 57 #[.agg #[.slice A g.length c, .slice B xs.length d], .slice C s.length e] w (RetT (foldV g xs s) w) := by
 have hl := hA.len
 have gl := hB.len
 have kl := hC.len
 cases ht : tokV g xs with
 | false =>
  have F0 := lH (Fe.mk_ w A g.length c B xs.length d 27 31)
  have HT := lH (tcheck_any A B c d g xs _ (hA.kp F0.out.fr.kp) (hB.kp F0.out.fr.kp))
  rw [ht] at HT
  have HF := lH (TnG.fold_no s ht)
  clear ht
  go_enter Tryz.func57, Tryz.ntmps57
  go_wp2_with fail
  refine (Calls.mono (Hid.out HT)) ?_; rintro e w1 ⟨rfl, k1⟩
  have F1 := lH (F0.out.tr k1)
  obtain ⟨⟨_, b0, b1, r0, r1, f0, f1, _⟩, g0, g1, _⟩ := F1.out
  clear k1
  go_wp2
  refine bodyPost_ret (v := .tuple #[.agg #[.slice none 0 0, .slice none 0 0], .int .i64 30]) (by
   obtain ⟨q0, q1, q2⟩ := F1.out.finE_fe (.slice none 0 0) (.slice none 0 0) 30
   unfold finE finW at q0 q1 q2
   simp [results, Tryz.results57, go_sem, q0, q1, q2]) rfl ?_
  exact RetT.err HF.out (F1.out.finE_kp _ _ _)
 | true =>
  cases hf : fitsV s g with
  | true => exact fold_true A B C c d e g xs s w hA hB hC hi ht hf
  | false =>
   have F0 := lH (Fe.mk_ w A g.length c B xs.length d 27 31)
   have HT := lH (tcheck_any A B c d g xs _ (hA.kp F0.out.fr.kp) (hB.kp F0.out.fr.kp))
   rw [ht] at HT
   have HG : Hid (∀ W, Kp w W → Calls Tryz.prog 101 #[.slice C s.length e, .slice A g.length c] W fun e w' => e = .returned (.bool false) ∧ Kp W w') := fun W k => by rw [← hf]; exact fits_any C A e c s g W (hC.kp k) (hA.kp k)
   have HF := lH (TnG.fold_misfit ht hf)
   clear ht hf
   go_enter Tryz.func57, Tryz.ntmps57
   go_wp2_with fail
   refine (Calls.mono (Hid.out HT)) ?_; rintro e w1 ⟨rfl, k1⟩
   have F1 := lH (F0.out.tr k1)
   obtain ⟨⟨_, b0, b1, _, _, _, _, _⟩, _, _, _⟩ := F1.out
   clear k1
   go_wp2_with fail
   refine (Calls.mono (HG.out _ F1.out.fr.kp)) ?_; rintro e w2 ⟨rfl, k2⟩
   have F2 := lH (F1.out.tr k2)
   clear b0 b1 k2
   obtain ⟨⟨_, b0, b1, r0, r1, f0, f1, _⟩, g0, g1, _⟩ := F2.out
   go_wp2
   refine bodyPost_ret (v := .tuple #[.agg #[.slice none 0 0, .slice none 0 0], .int .i64 20]) (by
    obtain ⟨q0, q1, q2⟩ := F2.out.finE_fe (.slice none 0 0) (.slice none 0 0) 20
    unfold finE finW at q0 q1 q2
    simp [results, Tryz.results57, go_sem, q0, q1, q2]) rfl ?_
   exact RetT.err HF.out (F2.out.finE_kp _ _ _)
open Go.RowKit Go.Proofs.ShM
structure TR (w : World) (A : Option Addr) (l : List Int) (B : Option Addr) (m : List Int) : Prop where
 s : Rd w A l
 d : Rd w B m
theorem TR.kp {w w' : World} {A B : Option Addr} {l m : List Int} (h : TR w A l B m) (k : Kp w w') : TR w' A l B m := ⟨h.s.kp k, h.d.kp k⟩
theorem TR.alloc_ {w : World} {A B : Option Addr} {l m : List Int} (h : TR w A l B m) (o : Obj) : TR (w.alloc o) A l B m := h.kp (Kp.alloc_ w o)
def RetU (l m : List Int) (a b : Nat) (err : Int) (w : World) (e : Ending) (w' : World) : Prop :=
 ∃ A c B d, e = .returned (.tuple #[.agg #[.slice A a c, .slice B b d], .int .i64 err]) ∧ TR w' A l B m ∧ Kp w w'
theorem RetT.u {r : Tn} {l m : List Int} {a b : Nat} {err : Int} {w : World} {e : Ending} {w' : World} (h : RetT r w e w') (hr : r = (l, m, err)) (ha : l.length = a) (hb : m.length = b) : RetU l m a b err w e w' := by
 subst hr ha hb
 obtain ⟨A, c, B, d, h1, h2, h3, h4⟩ := h
 exact ⟨A, c, B, d, h1, ⟨h2.rd, h3.rd⟩, h4⟩
section
variable {A B C : Option Addr} {c d e n m o a b : Nat} {l k : List Int} {err : Int} {w : World}
theorem spread_u (s xs g : List Int) (h : TR w A s B xs) (hC : Rd w C g) (hn : n = s.length) (hm : m = xs.length) (ho : o = g.length) (hr : spreadV s xs g = (l, k, err)) (ha : l.length = a) (hb : k.length = b) :
  Calls Tryz.prog 84 #[.agg #[.slice A n c, .slice B m d], .slice C o e] w (RetU l k a b err w) := by
 subst hn hm ho
 exact (spread_any A B C c d e s xs g w h.s h.d hC).mono fun _ _ r => r.u hr ha hb
end
def Bk (W : World) (b : Nat) (A : Option Addr) (n c : Nat) (B : Option Addr) (m d : Nat) : Prop := W.heap[b]? = some (.cells #[.slice A n c, .slice B m d] 27 (0, 0))
section
variable {W W' : World} {b b' n c m d n' c' m' d' : Nat} {A B C D : Option Addr}
theorem Bk.lt (h : Bk W b A n c B m d) : b < W.heap.size := (Array.getElem?_eq_some_iff.1 h).1
theorem Bk.c0 (h : Bk W b A n c B m d) : W.cell? ⟨b, 0, none⟩ = some (.slice A n c) := by simp [World.cell?, show W.heap[b]? = _ from h]
theorem Bk.c1 (h : Bk W b A n c B m d) : W.cell? ⟨b, 1, none⟩ = some (.slice B m d) := by simp [World.cell?, show W.heap[b]? = _ from h]
theorem Bk.f0 (h : Bk W b A n c B m d) (i : Nat) : W.frozen? ⟨b, i, none⟩ = false := by simp [World.frozen?, show W.heap[b]? = _ from h]
theorem Bk.kp (h : Bk W b A n c B m d) (k : Kp W W') : Bk W' b A n c B m d := (k.block b h.lt).trans h
theorem Bk.alloc_ (h : Bk W b A n c B m d) (o : Obj) : Bk (W.alloc o) b A n c B m d := h.kp (Kp.alloc_ W o)
theorem Bk.new (h : b = W.heap.size) : Bk (W.alloc (.cells #[.slice A n c, .slice B m d] 27)) b A n c B m d := by
 subst h
 show (W.heap.push _)[W.heap.size]? = some _
 simp
theorem Bk.other (h : Bk W b A n c B m d) (hne : b ≠ b') (x y : Value) : Bk ((W.setCell ⟨b', 0, none⟩ x).setCell ⟨b', 1, none⟩ y) b A n c B m d := by
 unfold Bk
 rw [Below.heap_setCell _ _ _ b hne, Below.heap_setCell _ _ _ b hne]; exact h
theorem heap_set {cs : Array Value} {t : TypeId} (h : W.heap[b]? = some (.cells cs t (0, 0))) (i : Nat) (x : Value) : (W.setCell ⟨b, i, none⟩ x).heap[b]? = some (.cells (cs.setIfInBounds i x) t (0, 0)) := by
 obtain ⟨hlt, hk⟩ := Array.getElem?_eq_some_iff.1 h
 show (W.heap.modify b _)[b]? = _
 rw [Array.getElem?_eq_getElem (by rw [Array.size_modify]; exact hlt), Array.getElem_modify_self, hk]
 rfl
theorem Bk.put (h : Bk W b A n c B m d) : Bk ((W.setCell ⟨b, 0, none⟩ (.slice C n' c')).setCell ⟨b, 1, none⟩ (.slice D m' d')) b C n' c' D m' d' :=
 heap_set (heap_set h 0 _) 1 _
theorem Rd.past {A0 : Option Addr} {xs : List Int} (r : Rd W A0 xs) (h : Bk W b A n c B m d) (x y : Value) : Rd ((W.setCell ⟨b, 0, none⟩ x).setCell ⟨b, 1, none⟩ y) A0 xs := by
 cases xs with
 | nil => exact Rd.nil _ _
 | cons z zs =>
  have hne : ∀ ad, A0 = some ad → ad.block ≠ b := by
   rintro ad rfl e
   obtain ⟨ad', e', hb, hc⟩ := r.2 (by simp)
   injection e' with e'
   subst e'
   have h0 := hc 0 z rfl
   have e1 : ad.add 0 = ad := by unfold Addr.add; simp
   rw [e1] at h0
   unfold World.cell? at h0
   rw [e, show W.heap[b]? = _ from h] at h0
   obtain ⟨_, off, spot⟩ := ad
   match off, h0 with
   | 0, h0 => cases spot <;> simp at h0
   | 1, h0 => cases spot <;> simp at h0
   | k + 2, h0 => cases spot <;> simp at h0
  exact (r.put_ hne x).put_ hne y
theorem Sl.past {A0 : Option Addr} {c0 : Nat} {xs : List Int} (r : Sl W A0 c0 xs) (h : Bk W b A n c B m d) (x y : Value) : Sl ((W.setCell ⟨b, 0, none⟩ x).setCell ⟨b, 1, none⟩ y) A0 c0 xs := ⟨r.rd.past h x y, r.le, r.cap⟩
end
theorem TR.nil_ {w : World} {A B : Option Addr} : TR w A [] B [] := ⟨Rd.nil _ _, Rd.nil _ _⟩
open Go.ChangeShapes Go.WideShapes Go.ChangeAt
theorem int_cells : Tryz.prog.cellsOf 3 = 1 := by kernel_rfl
section
variable {H : Type} {enc : TypeId × Value → H}
theorem lt_of_cell {w : World} {a : Addr} {v : Value} (h : w.cell? a = some v) : a.block < w.heap.size := by
 rcases Nat.lt_or_ge a.block w.heap.size with hl | hl
 ·exact hl
 ·simp [World.cell?, Array.getElem?_eq_none hl] at h
end
end Go.Proofs.YtjkdcegmdfmjpaaGreat
