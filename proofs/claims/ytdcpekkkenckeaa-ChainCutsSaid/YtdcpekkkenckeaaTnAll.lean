import Derived.Test.YtdcpekkkenckeaaShAll
import Derived.Test.YtdcpekkkenckeaaFixMath
import Derived.Deep.RegionWith
import Derived.Deep.DeepCutAuto
import Derived.Deep.RegionHeld3
import Derived.Lib.Mul64
import Derived.Lib.BitFns
import Derived.Laws.CopyOwn
import Derived.Deep.RegionLaw
import Derived.RangeFuncNested
import Derived.RangeFuncBound
import Derived.RangeFuncCalls
import Derived.RangeFuncLeaves
import Derived.Shelf.Abstract
import Derived.Shelf.RegionOpen
import Derived.OwnWalkIn
import Derived.TacticsInMore
import Derived.LoopNIn
import Derived.LoopIn
import Derived.RangeFuncBox
import Derived.StillTailTactics
import Derived.BigQuiet
import Derived.Deep.QuietTactic
import Derived.ProofKit
import Derived.OpenShut
import Derived.Carry
import Derived.Lib.SmallJoins
set_option maxRecDepth 100000
/- Plain arithmetic under layer 3 (tensor): what the document says each call answers, and what follows of it. No program stands here. -/
namespace Go.Proofs.ShM
open Go.Proofs.FixM (addV put_in put_out put_cases)

/-! ### What is answered -/
/-- An index, each number 0 where the side is 1. -/
def maskL : List Int → List Int → List Int
  | x :: s, i :: t => (if x = 1 then 0 else i) :: maskL s t
  | _, _ => []
/-- The place, in s, that a place of g comes from. -/
def srcI (s g : List Int) (p : Int) : Int := plc s (maskL s ((digs g p).drop (g.length - s.length)))
def tokV (s d : List Int) : Bool := okS s && decide ((d.length : Int) = sizeV s)
/-- Shape, numbers, error. -/
abbrev Tn := List Int × List Int × Int
def fullV (s : List Int) (n : Int) : Tn := if okS s = true then (s, List.replicate (sizeV s).toNat n, 0) else ([], [], 20)
def pinV (s d t : List Int) : Int × Int := if tokV s d = true then placeV s t else (0, 30)
def atV (s d t : List Int) : Int × Int := if (pinV s d t).2 = 0 then (d.getD (pinV s d t).1.toNat 0, 0) else (0, (pinV s d t).2)
def withV (s d t : List Int) (n : Int) : Tn := if (pinV s d t).2 = 0 then (s, d.set (pinV s d t).1.toNat n, 0) else ([], [], (pinV s d t).2)
/-- What is stretched: so many of it. -/
def spreadL (s d g : List Int) (k : Nat) : List Int := (List.range k).map fun i : Nat => d.getD (srcI s g i).toNat 0
def spreadV (s d g : List Int) : Tn :=
  if tokV s d = true then (if fitsV s g = true then (g, spreadL s d g (sizeV g).toNat, 0) else ([], [], 20)) else ([], [], 30)
/-- Added, each at its place, from the k-th on. -/
def foldG (f : Nat → Nat) : List Int → Nat → List Int → List Int × Int
  | zs, _, [] => (zs, 0)
  | zs, k, x :: d => if (addV (zs.getD (f k) 0) x).2 = 0 then foldG f (zs.set (f k) (addV (zs.getD (f k) 0) x).1) (k + 1) d else ([], (addV (zs.getD (f k) 0) x).2)
def foldL (s g d : List Int) : List Int × Int := foldG (fun i => (srcI s g i).toNat) (List.replicate (sizeV s).toNat 0) 0 d
def foldV (g d s : List Int) : Tn :=
  if tokV g d = true then (if fitsV s g = true then (if (foldL s g d).2 = 0 then (s, (foldL s g d).1, 0) else ([], [], (foldL s g d).2)) else ([], [], 20)) else ([], [], 30)

/-! ### Shapes side by side -/
/-- Each side is 1 or the other's. -/
def AL : List Int → List Int → Prop
  | x :: s, y :: g => (x = 1 ∨ x = y) ∧ AL s g
  | [], [] => True
  | _, _ => False
def srcP : List Int → List Int → Int → Int
  | x :: s, _ :: g, p => (if x = 1 then 0 else p / prodS g) * prodS s + srcP s g (p % prodS g)
  | _, _, _ => 0
theorem al_len {s : List Int} : ∀ {g : List Int}, AL s g → s.length = g.length := by
  induction s with
  | nil => intro g h; cases g with
    | nil => rfl
    | cons _ _ => exact h.elim
  | cons x s ih => intro g h; cases g with
    | nil => exact h.elim
    | cons y g => simp [ih h.2]
theorem jn_al {x y : Int} (h : jn x y = some y) : x = 1 ∨ x = y := by
  unfold jn at h
  split at h
  · injection h with h; exact .inr h
  · split at h
    · exact .inl (by assumption)
    · cases h
theorem joinL_al {s : List Int} : ∀ {g : List Int}, s.length = g.length → joinL s g = some g → AL s g := by
  induction s with
  | nil => intro g h _; cases g with
    | nil => trivial
    | cons _ _ => simp at h
  | cons x s ih =>
    intro g h hj
    cases g with
    | nil => simp at h
    | cons y g =>
      simp only [joinL, Option.bind_eq_some_iff, Option.map_eq_some_iff] at hj
      obtain ⟨z, hz, l, hl, e⟩ := hj
      injection e with e1 e2
      subst e1 e2
      exact ⟨jn_al hz, ih (by simpa using h) hl⟩
theorem pad_self {n : Nat} {s : List Int} (h : n ≤ s.length) : pad n s = s := by unfold pad; rw [show n - s.length = 0 by omega]; rfl
theorem pad_prod (n : Nat) (s : List Int) : prodS (pad n s) = prodS s := by
  unfold pad
  generalize n - s.length = k
  induction k with
  | zero => rfl
  | succ k ih => rw [List.replicate_succ, List.cons_append]; simp [prodS, ih]
/-- What fitting is. -/
theorem fits_al {s g : List Int} (h : fitsV s g = true) : okS s = true ∧ okS g = true ∧ s.length ≤ g.length ∧ AL (pad g.length s) g := by
  have j := fits_iff.1 h
  have hl := j.sizes.2
  refine ⟨j.1, j.2.1, hl, ?_⟩
  have e : joinV s g = (g, 0) := join_iff.2 j
  unfold joinV at e
  rw [if_pos (by simp [j.1, j.2.1])] at e
  cases hj : joinO s g with
  | none => rw [hj] at e; simp at e
  | some l =>
    rw [hj] at e
    simp only at e
    split at e
    · injection e with e1 _
      subst e1
      unfold joinO at hj
      rw [show max s.length l.length = l.length by omega, pad_self (s := l) (Nat.le_refl _)] at hj
      exact joinL_al (padl hl) hj
    · simp at e
/-- The place by sides laid beside each other. -/
theorem srcP_eq (s : List Int) : ∀ (g : List Int) (p : Int), s.length = g.length → srcP s g p = plc s (maskL s (digs g p)) := by
  induction s with
  | nil => intro g p h; cases g <;> simp [srcP, plc]
  | cons x s ih =>
    intro g p h
    cases g with
    | nil => simp at h
    | cons y g => simp only [srcP, digs, maskL, plc]; rw [ih g _ (by simpa using h)]
theorem srcP_pad (s : List Int) (k : Nat) : ∀ (g : List Int) (p : Int), s.length + k = g.length → srcP (List.replicate k 1 ++ s) g p = plc s (maskL s ((digs g p).drop k)) := by
  induction k with
  | zero => intro g p h; exact srcP_eq s g p h
  | succ k ih =>
    intro g p h
    cases g with
    | nil => simp at h
    | cons y g =>
      rw [List.replicate_succ, List.cons_append]
      simp only [srcP, if_true, digs, List.drop_succ_cons, Int.zero_mul, Int.zero_add]
      exact ih g _ (by simp at h; omega)
theorem src_eq {s g : List Int} (h : s.length ≤ g.length) (p : Int) : srcI s g p = srcP (pad g.length s) g p := by
  unfold srcI pad
  rw [srcP_pad s _ g p (by omega)]
theorem pos_of {y P p : Int} (hP : 1 ≤ P) (h0 : 0 ≤ p) (h1 : p < y * P) : 0 ≤ p / P ∧ p / P < y ∧ 0 ≤ p % P ∧ p % P < P :=
  ⟨Int.ediv_nonneg h0 (by omega), Int.ediv_lt_of_lt_mul (by omega) h1, Int.emod_nonneg _ (by omega), Int.emod_lt_of_pos _ (by omega)⟩
theorem lin_lt {q r x P : Int} (hP : 1 ≤ P) (h0 : 0 ≤ q) (h1 : q < x) (h2 : 0 ≤ r) (h3 : r < P) : 0 ≤ q * P + r ∧ q * P + r < x * P ∧ (q * P + r) / P = q ∧ (q * P + r) % P = r := by
  have a := Int.mul_nonneg h0 (show 0 ≤ P by omega)
  have b := Int.mul_le_mul_of_nonneg_right (show q + 1 ≤ x by omega) (show 0 ≤ P by omega)
  rw [Int.add_mul, Int.one_mul] at b
  refine ⟨by omega, by omega, ?_, ?_⟩
  · rw [Int.add_comm, Int.add_mul_ediv_right _ _ (by omega), Int.ediv_eq_zero_of_lt h2 h3]; omega
  · rw [Int.add_comm, Int.add_mul_emod_self_right, Int.emod_eq_of_lt h2 h3]
theorem srcP_in {s : List Int} : ∀ {g : List Int} {p : Int}, AL s g → g.all sideB = true → 0 ≤ p → p < prodS g → 0 ≤ srcP s g p ∧ srcP s g p < prodS s ∧ 1 ≤ prodS s := by
  induction s with
  | nil => intro g p h _ _ _; cases g with
    | nil => simp [srcP, prodS]
    | cons _ _ => exact h.elim
  | cons x s ih =>
    intro g p h hg h0 h1
    cases g with
    | nil => exact h.elim
    | cons y g =>
      simp only [List.all_cons, Bool.and_eq_true] at hg
      have hp := prod_pos hg.2
      have hy := sideB_iff.1 hg.1
      obtain ⟨a, b, c, d⟩ := pos_of hp h0 (by simpa [prodS] using h1)
      obtain ⟨i1, i2, i3⟩ := ih h.2 hg.2 c d
      simp only [srcP, prodS]
      have hx : 1 ≤ x := by rcases h.1 with e | e <;> omega
      have hq : 0 ≤ (if x = 1 then 0 else p / prodS g) ∧ (if x = 1 then 0 else p / prodS g) < x := by
        split
        · omega
        · rcases h.1 with e | e
          · contradiction
          · omega
      obtain ⟨l1, l2, _, _⟩ := lin_lt i3 hq.1 hq.2 i1 i2
      have := Int.mul_le_mul hx i3 (by omega) (by omega)
      exact ⟨l1, l2, by omega⟩
theorem srcP_self {s : List Int} : ∀ {p : Int}, s.all sideB = true → 0 ≤ p → p < prodS s → srcP s s p = p := by
  induction s with
  | nil => intro p _ h0 h1; simp [prodS] at h1; show (0 : Int) = p; omega
  | cons x s ih =>
    intro p hs h0 h1
    simp only [List.all_cons, Bool.and_eq_true] at hs
    have hp := prod_pos hs.2
    obtain ⟨a, b, c, d⟩ := pos_of hp h0 (by simpa [prodS] using h1)
    simp only [srcP, ih hs.2 c d]
    have e := Int.mul_ediv_add_emod p (prodS s)
    rw [Int.mul_comm] at e
    split
    · have : p / prodS s = 0 := by omega
      rw [this] at e; omega
    · exact e
/-- From a greater one's place to a middle one's to a lesser one's is as at once. -/
theorem srcP_comp {s : List Int} : ∀ {g u : List Int} {p : Int}, AL s g → AL g u → u.all sideB = true → 0 ≤ p → p < prodS u → srcP s g (srcP g u p) = srcP s u p := by
  induction s with
  | nil => intro g u p h _ _ _ _; cases g with
    | nil => cases u <;> simp [srcP]
    | cons _ _ => exact h.elim
  | cons x s ih =>
    intro g u p h k hu h0 h1
    cases g with
    | nil => exact h.elim
    | cons y g =>
      cases u with
      | nil => exact k.elim
      | cons z u =>
        simp only [List.all_cons, Bool.and_eq_true] at hu
        have hp := prod_pos hu.2
        obtain ⟨a, b, c, d⟩ := pos_of hp h0 (by simpa [prodS] using h1)
        obtain ⟨i1, i2, i3⟩ := srcP_in k.2 hu.2 c d
        have hq : 0 ≤ (if y = 1 then 0 else p / prodS u) := by split <;> omega
        obtain ⟨_, _, l3, l4⟩ := lin_lt i3 hq (Int.lt_add_one_of_le (Int.le_refl _)) i1 i2
        simp only [srcP, l3, l4, ih h.2 k.2 hu.2 c d]
        congr 2
        split
        · rfl
        · rw [if_neg]; rcases h.1 with e | e
          · contradiction
          · rw [← e]; assumption
theorem srcP_ones (k : Nat) : ∀ {s g : List Int} {p : Int}, 0 ≤ p → p < prodS g → srcP (List.replicate k 1 ++ s) (List.replicate k 1 ++ g) p = srcP s g p := by
  induction k with
  | zero => intros; rfl
  | succ k ih =>
    intro s g p h0 h1
    rw [List.replicate_succ, List.cons_append, List.cons_append]
    have e : prodS (List.replicate k 1 ++ g) = prodS g := by
      have := pad_prod (g.length + k) g
      unfold pad at this
      rwa [show g.length + k - g.length = k by omega] at this
    simp only [srcP, if_true, Int.zero_mul, Int.zero_add, e]
    rw [Int.emod_eq_of_lt h0 h1, ih h0 h1]
theorem al_pad {s g : List Int} (k : Nat) (h : AL s g) : AL (List.replicate k 1 ++ s) (List.replicate k 1 ++ g) := by
  induction k with
  | zero => exact h
  | succ k ih => exact ⟨.inl rfl, ih⟩
theorem pad_pad {s : List Int} {n m : Nat} (h : s.length ≤ n) (k : n ≤ m) : pad m s = List.replicate (m - n) 1 ++ pad n s := by
  unfold pad
  rw [← List.append_assoc, List.replicate_append_replicate]
  congr 2; omega
theorem ok_all {s : List Int} (h : okS s = true) : s.all sideB = true := (ok_iff.1 h).2.1

/-! ### Where a place comes from -/
theorem src_in {s g : List Int} (h : fitsV s g = true) {p : Int} (h0 : 0 ≤ p) (h1 : p < prodS g) : 0 ≤ srcI s g p ∧ srcI s g p < prodS s := by
  obtain ⟨_, b, c, d⟩ := fits_al h
  rw [src_eq c]
  obtain ⟨e, f, _⟩ := srcP_in d (ok_all b) h0 h1
  rw [pad_prod] at f
  exact ⟨e, f⟩
theorem src_self {s : List Int} (h : okS s = true) {p : Int} (h0 : 0 ≤ p) (h1 : p < prodS s) : srcI s s p = p := by
  rw [src_eq (Nat.le_refl _), pad_self (Nat.le_refl _), srcP_self (ok_all h) h0 h1]
theorem src_comp {s g u : List Int} (h : fitsV s g = true) (k : fitsV g u = true) {p : Int} (h0 : 0 ≤ p) (h1 : p < prodS u) : srcI s g (srcI g u p) = srcI s u p := by
  have hr := src_in k h0 h1
  obtain ⟨_, b, c, d⟩ := fits_al h
  obtain ⟨_, b', c', d'⟩ := fits_al k
  have e := al_pad (u.length - g.length) d
  have e1 := pad_pad c c'
  have e2 : pad u.length g = List.replicate (u.length - g.length) 1 ++ g := rfl
  rw [← e1, ← e2] at e
  rw [src_eq c, src_eq (Nat.le_trans c c'), ← srcP_comp e d' (ok_all b') h0 h1, ← src_eq c', e1, e2, srcP_ones _ hr.1 hr.2]
theorem mask_in {s : List Int} : ∀ {g : List Int} {t : List Int}, AL s g → g.all sideB = true → inIdx g t = true → inIdx s (maskL s t) = true := by
  induction s with
  | nil => intro g t _ _ _; cases t <;> rfl
  | cons x s ih =>
    intro g t h hg ht
    cases g with
    | nil => exact h.elim
    | cons y g =>
      cases t with
      | nil => simp [inIdx] at ht
      | cons i t =>
        simp only [List.all_cons, Bool.and_eq_true] at hg
        simp only [inIdx, Bool.and_eq_true, decide_eq_true_eq] at ht
        have hy := sideB_iff.1 hg.1
        simp only [maskL, inIdx, Bool.and_eq_true, decide_eq_true_eq]
        refine ⟨?_, ih h.2 hg.2 ht.2⟩
        split
        · omega
        · rcases h.1 with e | e
          · contradiction
          · omega
theorem al_drop (k : Nat) : ∀ {s g : List Int}, AL (List.replicate k 1 ++ s) g → AL s (g.drop k) := by
  induction k with
  | zero => intro s g h; exact h
  | succ k ih => intro s g h; cases g with
    | nil => exact h.elim
    | cons y g => exact ih h.2
theorem in_drop {g : List Int} (k : Nat) : ∀ {t : List Int}, k ≤ g.length → inIdx g t = true → inIdx (g.drop k) (t.drop k) = true := by
  induction k generalizing g with
  | zero => intro t _ h; exact h
  | succ k ih => intro t hk h; cases g with
    | nil => simp at hk
    | cons y g => cases t with
      | nil => simp [inIdx] at h
      | cons i t =>
        simp only [inIdx, Bool.and_eq_true] at h
        exact ih (by simpa using hk) h.2
/-- What is left of an index is one of what fits. -/
theorem from_in {s g t : List Int} (h : fitsV s g = true) (ht : inIdx g t = true) : inIdx s (maskL s (t.drop (g.length - s.length))) = true := by
  obtain ⟨a, b, c, d⟩ := fits_al h
  exact mask_in (al_drop _ d) (all_drop (ok_all b) _) (in_drop _ (by omega) ht)
theorem src_place {s g : List Int} (h : fitsV s g = true) {p : Int} (h0 : 0 ≤ p) (h1 : p < prodS g) : placeV s (maskL s ((digs g p).drop (g.length - s.length))) = (srcI s g p, 0) := by
  obtain ⟨a, b, c, d⟩ := fits_al h
  exact place_yes a (from_in h (digs_in (ok_all b) h0 h1).1)

/-! ### Sums -/
def sg : Nat → (Nat → Int) → Int
  | 0, _ => 0
  | n + 1, F => sg n F + F n
theorem sg_congr {n : Nat} {F G : Nat → Int} (h : ∀ i, i < n → F i = G i) : sg n F = sg n G := by
  induction n with
  | zero => rfl
  | succ n ih => simp only [sg]; rw [ih fun i hi => h i (by omega), h n (by omega)]
theorem sg_add (n : Nat) (F G : Nat → Int) : sg n (fun i => F i + G i) = sg n F + sg n G := by
  induction n with
  | zero => rfl
  | succ n ih => simp only [sg, ih]; omega
theorem sg_zero (n : Nat) : sg n (fun _ => 0) = 0 := by
  induction n with
  | zero => rfl
  | succ n ih => simp only [sg, ih]; omega
theorem sg_mul (n : Nat) (F : Nat → Int) (c : Int) : sg n (fun i => F i * c) = sg n F * c := by
  induction n with
  | zero => simp [sg]
  | succ n ih => simp only [sg, ih]; rw [Int.add_mul]
theorem sg_swap (n m : Nat) (F : Nat → Nat → Int) : sg n (fun i => sg m fun j => F i j) = sg m fun j => sg n fun i => F i j := by
  induction n with
  | zero => simp [sg, sg_zero]
  | succ n ih => simp only [sg, ih, sg_add]
theorem sg_one {n k : Nat} (hk : k < n) (c : Int) : sg n (fun j => if k = j then c else 0) = c := by
  induction n with
  | zero => omega
  | succ n ih =>
    simp only [sg]
    by_cases h : k = n
    · subst h
      rw [sg_congr (G := fun _ => 0) fun i hi => if_neg (by omega), sg_zero]; simp
    · rw [ih (by omega), if_neg h]; omega
theorem sg_split (a b : Nat) (F : Nat → Int) : sg (a + b) F = sg a F + sg b fun i => F (a + i) := by
  induction b with
  | zero => simp [sg]
  | succ b ih => rw [← Nat.add_assoc]; simp only [sg, ih]; omega
theorem sg_rows (y P : Nat) (F : Nat → Int) : sg (y * P) F = sg y fun q => sg P fun r => F (q * P + r) := by
  induction y with
  | zero => simp [sg]
  | succ y ih => rw [Nat.succ_mul, sg_split, ih]; rfl

/-- How many of a greater one's places come from a place. -/
theorem src_count {s : List Int} : ∀ {g : List Int} {p : Int}, AL s g → g.all sideB = true → 0 ≤ p → p < prodS s → sg (prodS g).toNat (fun i => if srcP s g i = p then 1 else 0) * prodS s = prodS g := by
  induction s with
  | nil =>
    intro g p h _ h0 h1
    cases g with
    | nil => simp [prodS] at h1 ⊢; have : p = 0 := by omega
             subst this; simp [sg, srcP]
    | cons _ _ => exact h.elim
  | cons x s ih =>
    intro g p h hg h0 h1
    cases g with
    | nil => exact h.elim
    | cons y g =>
      simp only [List.all_cons, Bool.and_eq_true] at hg
      have hP := prod_pos hg.2
      have hy := sideB_iff.1 hg.1
      have hQ : 1 ≤ prodS s := (srcP_in h.2 hg.2 (Int.le_refl 0) (by omega)).2.2
      have e1 : (prodS (y :: g)).toNat = y.toNat * (prodS g).toNat := by simp only [prodS]; rw [Int.toNat_mul (by omega) (by omega)]
      rw [e1, sg_rows]
      have hd : ∀ q r : Nat, r < (prodS g).toNat → ((q * (prodS g).toNat + r : Nat) : Int) / prodS g = q ∧ ((q * (prodS g).toNat + r : Nat) : Int) % prodS g = r := by
        intro q r hr
        have := lin_lt (P := prodS g) (q := q) (r := r) (x := (q : Int) + 1) hP (by omega) (by omega) (by omega) (by omega)
        have e : ((q * (prodS g).toNat + r : Nat) : Int) = (q : Int) * prodS g + r := by
          rw [Int.natCast_add, Int.natCast_mul, Int.toNat_of_nonneg (by omega)]
        rw [e]; exact ⟨this.2.2.1, this.2.2.2⟩
      obtain ⟨a, b, c, d⟩ := pos_of hQ h0 (by simpa [prodS] using h1)
      have hp := Int.mul_ediv_add_emod p (prodS s)
      rw [Int.mul_comm] at hp
      have hin := ih h.2 hg.2 c d
      by_cases hx : x = 1
      · subst hx
        have hp0 : p / prodS s = 0 := by omega
        have e2 : (sg y.toNat fun q => sg (prodS g).toNat fun r => if srcP (1 :: s) (y :: g) ((q * (prodS g).toNat + r : Nat) : Int) = p then 1 else 0) =
            sg y.toNat fun _ => sg (prodS g).toNat fun r => if srcP s g r = p % prodS s then 1 else 0 := by
          refine sg_congr fun q _ => sg_congr fun r hr => ?_
          simp only [srcP, (hd q r hr).2, if_true, Int.zero_mul, Int.zero_add]
          rw [show p % prodS s = p by rw [hp0] at hp; omega]
        rw [e2]
        have e3 : ∀ (n : Nat) (c : Int), sg n (fun _ => c) = n * c := by
          intro n c
          induction n with
          | zero => simp [sg]
          | succ n ih => simp only [sg, ih, Int.natCast_succ, Int.add_mul, Int.one_mul]
        rw [e3]
        simp only [prodS, Int.one_mul]
        rw [Int.mul_assoc, hin, Int.toNat_of_nonneg (by omega)]
      · have hxy : x = y := by rcases h.1 with e | e
                               · contradiction
                               · exact e
        subst hxy
        have e2 : (sg x.toNat fun q => sg (prodS g).toNat fun r => if srcP (x :: s) (x :: g) ((q * (prodS g).toNat + r : Nat) : Int) = p then 1 else 0) =
            sg x.toNat fun q => if (p / prodS s).toNat = q then (sg (prodS g).toNat fun r => if srcP s g r = p % prodS s then 1 else 0) else 0 := by
          refine sg_congr fun q hq => ?_
          have hs : ∀ r : Nat, r < (prodS g).toNat → srcP (x :: s) (x :: g) ((q * (prodS g).toNat + r : Nat) : Int) = q * prodS s + srcP s g r := by
            intro r hr
            simp only [srcP, (hd q r hr).1, (hd q r hr).2, if_neg hx]
          split
          · refine sg_congr fun r hr => ?_
            rw [hs r hr]
            have hq' : (q : Int) = p / prodS s := by omega
            rw [hq']
            by_cases e : srcP s g r = p % prodS s
            · rw [if_pos (by rw [e]; exact hp), if_pos e]
            · rw [if_neg (by omega), if_neg e]
          · rename_i hne
            refine (sg_congr (G := fun _ => 0) fun r hr => ?_).trans (sg_zero _)
            rw [hs r hr, if_neg]
            intro e
            obtain ⟨i1, i2, _⟩ := srcP_in (p := (r : Int)) h.2 hg.2 (by omega) (by omega)
            have := (lin_lt (q := (q : Int)) (x := (q : Int) + 1) hQ (by omega) (by omega) i1 i2).2.2.1
            rw [e] at this
            omega
        rw [e2, sg_one (by omega)]
        simp only [prodS]
        rw [Int.mul_comm x, ← Int.mul_assoc, hin, Int.mul_comm]
theorem count_src {s g : List Int} (h : fitsV s g = true) {p : Int} (h0 : 0 ≤ p) (h1 : p < prodS s) : sg (prodS g).toNat (fun i => if srcI s g i = p then 1 else 0) * prodS s = prodS g := by
  obtain ⟨a, b, c, d⟩ := fits_al h
  have := src_count d (ok_all b) h0 (by rw [pad_prod]; exact h1)
  rw [pad_prod] at this
  rw [sg_congr (G := fun i => if srcP (pad g.length s) g i = p then 1 else 0) fun i _ => by rw [src_eq c]]
  exact this

/-! ### What is folded -/
/-- So many, from the k-th on. -/
theorem fold_sum (f : Nat → Nat) (d : List Int) : ∀ (zs : List Int) (k : Nat) (ys : List Int), foldG f zs k d = (ys, 0) → ys.length = zs.length ∧
    ∀ p, p < zs.length → ys.getD p 0 = zs.getD p 0 + sg d.length fun i => if f (k + i) = p then d.getD i 0 else 0 := by
  induction d with
  | nil => intro zs k ys h; simp only [foldG] at h; injection h with h _; subst h; exact ⟨rfl, fun p _ => by simp [sg]⟩
  | cons x d ih =>
    intro zs k ys h
    simp only [foldG] at h
    split at h
    · rename_i he
      obtain ⟨h1, h2⟩ := ih _ _ _ h
      have hsum : (addV (zs.getD (f k) 0) x).1 = zs.getD (f k) 0 + x := by
        rcases put_cases (zs.getD (f k) 0 + x) with ⟨_, _, e⟩ | ⟨_, e⟩
        · unfold addV; rw [e]
        · unfold addV at he; rw [e] at he; simp at he
      refine ⟨by simpa using h1, fun p hp => ?_⟩
      rw [h2 p (by simpa using hp), hsum]
      have e : sg (d.length + 1) (fun i => if f (k + i) = p then (x :: d).getD i 0 else 0) = (if f k = p then x else 0) + sg d.length fun i => if f (k + 1 + i) = p then d.getD i 0 else 0 := by
        rw [Nat.add_comm d.length 1, sg_split]
        simp only [sg, Nat.add_zero, List.getD_cons_zero, Int.zero_add]
        congr 1
        exact sg_congr fun i _ => by rw [show k + (1 + i) = k + 1 + i by omega, Nat.add_comm 1 i, List.getD_cons_succ]
      rw [List.length_cons, e]
      by_cases hf : f k = p
      · subst hf
        rw [if_pos rfl]
        simp only [List.getD_eq_getElem?_getD, List.getElem?_set_self hp, Option.getD_some]
        omega
      · rw [if_neg hf]
        simp only [List.getD_eq_getElem?_getD, List.getElem?_set_ne hf]
        omega
    · rename_i he
      injection h with _ h2
      exact absurd h2 he
/-- No sum is too great. -/
theorem fold_small (f : Nat → Nat) (d : List Int) : ∀ (zs : List Int) (k : Nat) (c : Int), 0 ≤ c → (∀ p, p < zs.length → -(c * k) ≤ zs.getD p 0 ∧ zs.getD p 0 ≤ c * k) → (∀ i, i < d.length → -c ≤ d.getD i 0 ∧ d.getD i 0 ≤ c) →
    (∀ i, i < d.length → f (k + i) < zs.length) → c * (k + d.length : Nat) ≤ 9223372036854775807 → (foldG f zs k d).2 = 0 := by
  induction d with
  | nil => intros; rfl
  | cons x d ih =>
    intro zs k c hc hz hd hf hb
    have hfk := hf 0 (by simp)
    rw [Nat.add_zero] at hfk
    have h1 := hz (f k) hfk
    have h2 := hd 0 (by simp)
    rw [List.getD_cons_zero] at h2
    have e1 : c * ((k + 1 : Nat) : Int) = c * k + c := by rw [Int.natCast_add, Int.mul_add]; simp
    have hmon : c * ((k + 1 : Nat) : Int) ≤ c * (k + (x :: d).length : Nat) := Int.mul_le_mul_of_nonneg_left (by simp; omega) hc
    have e : addV (zs.getD (f k) 0) x = (zs.getD (f k) 0 + x, 0) := put_in (by omega) (by omega)
    simp only [foldG, e, if_true]
    refine ih _ (k + 1) c hc (fun p hp => ?_) (fun i hi => ?_) (fun i hi => ?_) (by rw [show k + 1 + d.length = k + (x :: d).length by simp; omega]; exact hb)
    · rw [List.length_set] at hp
      by_cases hfp : f k = p
      · subst hfp
        simp only [List.getD_eq_getElem?_getD, List.getElem?_set_self hp, Option.getD_some] at h1 ⊢
        omega
      · have := hz p hp
        simp only [List.getD_eq_getElem?_getD, List.getElem?_set_ne hfp] at this ⊢
        omega
    · have := hd (i + 1) (by simpa using hi)
      simpa using this
    · have := hf (i + 1) (by simpa using hi)
      rw [show k + (i + 1) = k + 1 + i by omega] at this
      simpa using this
end Go.Proofs.ShM

/- Plain arithmetic under the laws of layer 3. No program stands here. -/
namespace Go.Proofs.ShM
open Go.Proofs.FixM (addV put_in put_out put_cases)

def I64s (xs : List Int) : Prop := ∀ x ∈ xs, -9223372036854775808 ≤ x ∧ x ≤ 9223372036854775807
theorem I64s.nil_ : I64s [] := fun x h => by cases h
theorem I64s.get {xs : List Int} (h : I64s xs) {i : Nat} {x : Int} (hx : xs[i]? = some x) : -9223372036854775808 ≤ x ∧ x ≤ 9223372036854775807 := h x (List.mem_of_getElem? hx)
theorem I64s.rep {n : Nat} {x : Int} (h : -9223372036854775808 ≤ x ∧ x ≤ 9223372036854775807) : I64s (List.replicate n x) := fun y hy => by
  obtain ⟨_, rfl⟩ := List.mem_replicate.1 hy; exact h
theorem I64s.set_ {xs : List Int} (h : I64s xs) (j : Nat) {x : Int} (hx : -9223372036854775808 ≤ x ∧ x ≤ 9223372036854775807) : I64s (xs.set j x) := fun y hy => by
  rcases List.mem_or_eq_of_mem_set hy with h' | rfl
  · exact h y h'
  · exact hx
theorem add_in {a b : Int} : -9223372036854775808 ≤ (addV a b).1 ∧ (addV a b).1 ≤ 9223372036854775807 := by
  unfold addV
  rcases put_cases (a + b) with ⟨h1, h2, e⟩ | ⟨_, e⟩
  · rw [e]; exact ⟨h1, h2⟩
  · rw [e]; simp
theorem fold_i64 (f : Nat → Nat) (d : List Int) : ∀ (zs : List Int) (k : Nat), I64s zs → I64s (foldG f zs k d).1 := by
  induction d with
  | nil => intro zs k h; exact h
  | cons x d ih =>
    intro zs k h
    simp only [foldG]
    split
    · exact ih _ _ (h.set_ _ add_in)
    · exact I64s.nil_

theorem tok_iff {s d : List Int} : tokV s d = true ↔ okS s = true ∧ (d.length : Int) = prodS s := by
  unfold tokV
  simp only [Bool.and_eq_true, decide_eq_true_eq]
  exact ⟨fun ⟨a, b⟩ => ⟨a, by rw [← size_ok a]; exact b⟩, fun ⟨a, b⟩ => ⟨a, by rw [size_ok a]; exact b⟩⟩
theorem tok_len {s d : List Int} (h : tokV s d = true) : okS s = true ∧ (sizeV s).toNat = d.length ∧ 1 ≤ d.length ∧ d.length ≤ 64 := by
  obtain ⟨a, b⟩ := tok_iff.1 h
  have := ok_prod a
  rw [size_ok a]
  exact ⟨a, by omega, by omega, by omega⟩

/-! ### Stretched -/
theorem spread_cases (s d g : List Int) : (tokV s d = false ∧ spreadV s d g = ([], [], 30)) ∨ (tokV s d = true ∧ fitsV s g = false ∧ spreadV s d g = ([], [], 20)) ∨
    (tokV s d = true ∧ fitsV s g = true ∧ spreadV s d g = (g, spreadL s d g (sizeV g).toNat, 0)) := by
  unfold spreadV
  cases tokV s d <;> cases fitsV s g <;> simp
theorem spread_get {s d g : List Int} {k i : Nat} (h : i < k) : (spreadL s d g k)[i]? = some (d.getD (srcI s g i).toNat 0) := by
  unfold spreadL; simp [h]
theorem spread_getD {s d g : List Int} {k i : Nat} (h : i < k) : (spreadL s d g k).getD i 0 = d.getD (srcI s g i).toNat 0 := by
  rw [List.getD_eq_getElem?_getD, spread_get h]; rfl
theorem spread_len (s d g : List Int) (k : Nat) : (spreadL s d g k).length = k := by simp [spreadL]
theorem size_nat {g : List Int} (h : okS g = true) : ((sizeV g).toNat : Int) = prodS g := by
  have := ok_prod h
  rw [size_ok h]; omega
theorem tok_spread {s d g : List Int} (k : fitsV s g = true) : tokV g (spreadL s d g (sizeV g).toNat) = true := by
  have := (fits_al k).2.1
  exact tok_iff.2 ⟨this, by rw [spread_len, size_nat this]⟩
theorem ext0 {a b : List Int} (h : a.length = b.length) (k : ∀ i, i < a.length → a.getD i 0 = b.getD i 0) : a = b := by
  refine List.ext_getElem h fun i h1 h2 => ?_
  have := k i h1
  simpa [List.getD_eq_getElem?_getD, h1, h2] using this
theorem spread_self {s d : List Int} (h : tokV s d = true) : spreadV s d s = (s, d, 0) := by
  obtain ⟨a, b⟩ := tok_iff.1 h
  have hn := size_nat a
  unfold spreadV
  rw [if_pos h, if_pos (by rw [fits_self]; exact a)]
  have : spreadL s d s (sizeV s).toNat = d := by
    refine ext0 (by rw [spread_len]; omega) fun i hi => ?_
    rw [spread_len] at hi
    rw [spread_getD hi, src_self a (by omega) (by omega)]
    rfl
  rw [this]
theorem spread_comp {s d g u : List Int} (k : fitsV s g = true) (l : fitsV g u = true) : spreadL g (spreadL s d g (sizeV g).toNat) u (sizeV u).toNat = spreadL s d u (sizeV u).toNat := by
  have hg := size_nat (fits_al k).2.1
  have hu := size_nat (fits_al l).2.1
  refine ext0 (by rw [spread_len, spread_len]) fun i hi => ?_
  rw [spread_len] at hi
  obtain ⟨h0, h1⟩ := src_in l (p := (i : Int)) (by omega) (by omega)
  rw [spread_getD hi, spread_getD hi, spread_getD (by omega), Int.toNat_of_nonneg h0, src_comp k l (by omega) (by omega)]
/-- TensorSpreads, behind what stays. -/
theorem spreads_two {s d g u : List Int} (h : tokV s d = true) (k : (spreadV s d g).2.2 = 0) (l : (spreadV (spreadV s d g).1 (spreadV s d g).2.1 u).2.2 = 0) :
    spreadV (spreadV s d g).1 (spreadV s d g).2.1 u = spreadV s d u ∧ d.length ≤ (spreadV s d g).2.1.length ∧ ∃ c : Nat, (spreadV s d g).2.1.length = c * d.length := by
  rcases spread_cases s d g with ⟨_, e⟩ | ⟨_, _, e⟩ | ⟨_, hf, e⟩
  · rw [e] at k; simp at k
  · rw [e] at k; simp at k
  · rw [e] at l ⊢
    simp only at l ⊢
    obtain ⟨a, b⟩ := tok_iff.1 h
    have hp := ok_prod a
    have hg := size_nat (fits_al hf).2.1
    have hc := count_src hf (Int.le_refl 0) (show 0 < prodS s by omega)
    refine ⟨?_, ?_, ?_⟩
    · rcases spread_cases g (spreadL s d g (sizeV g).toNat) u with ⟨e', _⟩ | ⟨_, _, e'⟩ | ⟨_, hf', e'⟩
      · rw [tok_spread hf] at e'; cases e'
      · rw [e'] at l; simp at l
      · rw [e', spread_comp hf hf']
        unfold spreadV
        rw [if_pos h, if_pos (fits_trans hf hf')]
    · have := (fits_iff.1 hf).sizes.1
      rw [spread_len]; omega
    · refine ⟨(sg (prodS g).toNat fun i => if srcI s g i = 0 then 1 else 0).toNat, ?_⟩
      generalize (sg (prodS g).toNat fun i => if srcI s g i = 0 then 1 else 0) = c at hc
      have hg1 := ok_prod (fits_al hf).2.1
      have c0 : 0 ≤ c := by
        rcases (show c < 0 ∨ 0 ≤ c by omega) with h | h
        · have := Int.mul_le_mul_of_nonneg_right (show c ≤ -1 by omega) (show 0 ≤ prodS s by omega)
          omega
        · exact h
      rw [spread_len]
      have : (((sizeV g).toNat : Nat) : Int) = ((c.toNat * d.length : Nat) : Int) := by
        rw [Int.natCast_mul, Int.toNat_of_nonneg c0, b, hg]; exact hc.symm
      exact Int.ofNat.inj this

/-! ### Folded -/
theorem fold_cases (g d s : List Int) : (tokV g d = false ∧ foldV g d s = ([], [], 30)) ∨ (tokV g d = true ∧ fitsV s g = false ∧ foldV g d s = ([], [], 20)) ∨
    (tokV g d = true ∧ fitsV s g = true ∧ (foldL s g d).2 ≠ 0 ∧ foldV g d s = ([], [], (foldL s g d).2)) ∨
    (tokV g d = true ∧ fitsV s g = true ∧ (foldL s g d).2 = 0 ∧ foldV g d s = (s, (foldL s g d).1, 0)) := by
  unfold foldV
  cases tokV g d <;> cases fitsV s g <;> by_cases h : (foldL s g d).2 = 0 <;> simp [h]
theorem foldV_i64 (g d s : List Int) : I64s (foldV g d s).2.1 := by
  rcases fold_cases g d s with ⟨_, e⟩ | ⟨_, _, e⟩ | ⟨_, _, _, e⟩ | ⟨_, _, _, e⟩
  · rw [e]; exact I64s.nil_
  · rw [e]; exact I64s.nil_
  · rw [e]; exact I64s.nil_
  · rw [e]; exact fold_i64 _ _ _ _ (I64s.rep (by omega))
theorem fold_own (f : Nat → Nat) (d : List Int) : ∀ (pre : List Int) (k : Nat), pre.length = k → (∀ i, i < d.length → f (k + i) = k + i) → I64s d → foldG f (pre ++ List.replicate d.length 0) k d = (pre ++ d, 0) := by
  induction d with
  | nil => intro pre k _ _ _; simp [foldG]
  | cons x d ih =>
    intro pre k hk hf hd
    have h0 := hf 0 (by simp)
    rw [Nat.add_zero] at h0
    have hx := hd x (by simp)
    have e0 : (pre ++ List.replicate (x :: d).length 0).getD k (0 : Int) = 0 := by
      rw [List.getD_eq_getElem?_getD, List.getElem?_append_right (by omega)]
      simp [← hk]
    have e1 : addV 0 x = (x, 0) := by unfold addV; rw [put_in (by omega) (by omega)]; congr 1; omega
    simp only [foldG, h0, e0, e1, if_true]
    have e2 : (pre ++ List.replicate (x :: d).length 0).set k x = (pre ++ [x]) ++ List.replicate d.length 0 := by
      rw [List.set_append_right _ _ (by omega), ← hk]
      simp [List.replicate_succ]
    rw [e2, ih (pre ++ [x]) (k + 1) (by simp [hk]) (fun i hi => by have := hf (i + 1) (by simpa using hi); rw [show k + 1 + i = k + (i + 1) by omega]; exact this) (fun y hy => hd y (by simp [hy]))]
    simp
theorem fold_self {s d : List Int} (h : tokV s d = true) (hd : I64s d) : foldV s d s = (s, d, 0) := by
  obtain ⟨a, b⟩ := tok_iff.1 h
  have hn := size_nat a
  have e : foldL s s d = (d, 0) := by
    unfold foldL
    rw [show (sizeV s).toNat = d.length by omega]
    have := fold_own (fun i => (srcI s s i).toNat) d [] 0 rfl (fun i hi => by
      show (srcI s s ((0 + i : Nat) : Int)).toNat = 0 + i
      rw [src_self a (by omega) (by omega)]; rfl) hd
    simpa using this
  unfold foldV
  rw [if_pos h, if_pos (by rw [fits_self]; exact a), e]
  rfl
/-- Each number of what is folded is the sum of those that come from it. -/
theorem foldL_sum {s g d : List Int} (h : fitsV s g = true) (k : (foldL s g d).2 = 0) :
    ((foldL s g d).1.length : Int) = prodS s ∧ ∀ p : Nat, (p : Int) < prodS s → (foldL s g d).1.getD p 0 = sg d.length fun i => if (srcI s g i).toNat = p then d.getD i 0 else 0 := by
  have hn := size_nat (fits_al h).1
  have e : foldL s g d = ((foldL s g d).1, 0) := Prod.ext rfl k
  obtain ⟨h1, h2⟩ := fold_sum _ d _ 0 _ e
  rw [List.length_replicate] at h1 h2
  refine ⟨by omega, fun p hp => ?_⟩
  rw [h2 p (by omega)]
  have : (List.replicate (sizeV s).toNat (0 : Int)).getD p 0 = 0 := by
    rw [List.getD_eq_getElem?_getD, List.getElem?_replicate]; split <;> rfl
  rw [this, Int.zero_add]
  exact sg_congr fun i _ => by rw [Nat.zero_add]
theorem foldL_small {s g d : List Int} (h : fitsV s g = true) (hd : (d.length : Int) = prodS g) (hb : ∀ i, i < d.length → -1099511627776 ≤ d.getD i 0 ∧ d.getD i 0 ≤ 1099511627776) : (foldL s g d).2 = 0 := by
  have hn := size_nat (fits_al h).1
  have hg := ok_prod (fits_al h).2.1
  refine fold_small _ d _ 0 1099511627776 (by omega) (fun p hp => ?_) hb (fun i hi => ?_) (by omega)
  · have : (List.replicate (sizeV s).toNat (0 : Int)).getD p 0 = 0 := by
      rw [List.getD_eq_getElem?_getD, List.getElem?_replicate]; split <;> rfl
    rw [this]; omega
  · have := src_in h (p := ((0 + i : Nat) : Int)) (by omega) (by omega)
    rw [List.length_replicate]
    show (srcI s g ((0 + i : Nat) : Int)).toNat < _
    omega
theorem fold_comp {t s u d : List Int} (h : fitsV s t = true) (k : fitsV u s = true) (hd : (d.length : Int) = prodS t) (e1 : (foldL s t d).2 = 0) (e2 : (foldL u s (foldL s t d).1).2 = 0) (e3 : (foldL u t d).2 = 0) :
    (foldL u s (foldL s t d).1).1 = (foldL u t d).1 := by
  obtain ⟨a1, a2⟩ := foldL_sum h e1
  obtain ⟨b1, b2⟩ := foldL_sum k e2
  obtain ⟨c1, c2⟩ := foldL_sum (fits_trans k h) e3
  refine ext0 (by omega) fun p hp => ?_
  rw [b2 p (by omega), c2 p (by omega)]
  have s1 : (sg (foldL s t d).1.length fun j => if (srcI u s j).toNat = p then (foldL s t d).1.getD j 0 else 0) =
      sg (foldL s t d).1.length fun j => sg d.length fun i => if (srcI s t i).toNat = j then (if (srcI u s j).toNat = p then d.getD i 0 else 0) else 0 := by
    refine sg_congr fun j hj => ?_
    split
    · exact a2 j (by omega)
    · exact (sg_zero _).symm.trans (sg_congr fun i _ => by simp)
  rw [s1, sg_swap]
  refine sg_congr fun i hi => ?_
  have hr := src_in h (p := (i : Int)) (by omega) (by omega)
  have s2 : (sg (foldL s t d).1.length fun j => if (srcI s t i).toNat = j then (if (srcI u s j).toNat = p then d.getD i 0 else 0) else 0) =
      sg (foldL s t d).1.length fun j => if (srcI s t i).toNat = j then (if (srcI u t i).toNat = p then d.getD i 0 else 0) else 0 := by
    refine sg_congr fun j _ => ?_
    split
    · rename_i e
      rw [← e, Int.toNat_of_nonneg hr.1, src_comp k h (by omega) (by omega)]
    · rfl
  rw [s2, sg_one (by omega)]
/-- TensorParts, where no number is great. -/
theorem parts_two {t d s u : List Int} (hb : ∀ i, i < d.length → -1099511627776 ≤ d.getD i 0 ∧ d.getD i 0 ≤ 1099511627776) (k : (foldV t d s).2.2 = 0) (l : (foldV (foldV t d s).1 (foldV t d s).2.1 u).2.2 = 0) :
    foldV (foldV t d s).1 (foldV t d s).2.1 u = foldV t d u ∧ tokV (foldV t d u).1 (foldV t d u).2.1 = true := by
  rcases fold_cases t d s with ⟨_, e⟩ | ⟨_, _, e⟩ | ⟨_, _, h, e⟩ | ⟨ht, hf, h1, e⟩
  · rw [e] at k; simp at k
  · rw [e] at k; simp at k
  · rw [e] at k; exact absurd k h
  · obtain ⟨_, hd⟩ := tok_iff.1 ht
    rw [e] at l ⊢
    simp only at l ⊢
    rcases fold_cases s (foldL s t d).1 u with ⟨_, e'⟩ | ⟨_, _, e'⟩ | ⟨_, _, h, e'⟩ | ⟨_, hf', h2, e'⟩
    · rw [e'] at l; simp at l
    · rw [e'] at l; simp at l
    · rw [e'] at l; exact absurd l h
    · have hh := fits_trans hf' hf
      have h3 := foldL_small hh hd hb
      have e3 : foldV t d u = (u, (foldL u t d).1, 0) := by
        unfold foldV; rw [if_pos ht, if_pos hh, if_pos h3]
      refine ⟨by rw [e', e3, fold_comp hf hf' hd h1 h2 h3], ?_⟩
      rw [e3]
      exact tok_iff.2 ⟨(fits_al hh).1, (foldL_sum hh h3).1⟩

/-! ### All the same -/
theorem rep_getD (n : Nat) (x : Int) (i : Nat) (h : i < n) : (List.replicate n x).getD i 0 = x := by
  rw [List.getD_eq_getElem?_getD, List.getElem?_replicate, if_pos h]; rfl
theorem full_tok {s : List Int} (n : Int) (h : okS s = true) : tokV s (List.replicate (sizeV s).toNat n) = true := tok_iff.2 ⟨h, by rw [List.length_replicate, size_nat h]⟩
theorem full_spread {s u : List Int} (n : Int) (h : fitsV s u = true) : spreadV s (List.replicate (sizeV s).toNat n) u = fullV u n := by
  obtain ⟨a, b, _, _⟩ := fits_al h
  have ha := size_nat a
  have hb := size_nat b
  unfold spreadV fullV
  rw [if_pos (full_tok n a), if_pos h, if_pos b]
  congr 2
  refine ext0 (by rw [spread_len, List.length_replicate]) fun i hi => ?_
  rw [spread_len] at hi
  have := src_in h (p := (i : Int)) (by omega) (by omega)
  rw [spread_getD hi, rep_getD _ _ _ hi, rep_getD _ _ _ (by omega)]
theorem full_fold {s u : List Int} {n : Int} (h : fitsV u s = true) (hn : -1099511627776 ≤ n ∧ n ≤ 1099511627776) :
    ∃ c : List Int, foldV s (List.replicate (sizeV s).toNat n) u = (u, c, 0) ∧ c.length = (sizeV u).toNat ∧ ∀ (i : Nat) (x : Int), c[i]? = some x → x * c.length = n * (sizeV s).toNat ∧ -70368744177664 ≤ x ∧ x ≤ 70368744177664 := by
  obtain ⟨b, a, _, _⟩ := fits_al h
  have ha := size_nat a
  have hb := size_nat b
  have hd : ((List.replicate (sizeV s).toNat n).length : Int) = prodS s := by rw [List.length_replicate]; exact ha
  have h3 := foldL_small h hd (fun i hi => by rw [List.length_replicate] at hi; rw [rep_getD _ _ _ hi]; exact hn)
  obtain ⟨f1, f2⟩ := foldL_sum h h3
  refine ⟨(foldL u s (List.replicate (sizeV s).toNat n)).1, ?_, by omega, fun i x hx => ?_⟩
  · unfold foldV; rw [if_pos (full_tok n a), if_pos h, if_pos h3]
  · have hi := (List.getElem?_eq_some_iff.1 hx).1
    have e := f2 i (by omega)
    rw [List.getD_eq_getElem?_getD, hx, Option.getD_some, List.length_replicate] at e
    have e2 : (sg (sizeV s).toNat fun j => if (srcI u s j).toNat = i then (List.replicate (sizeV s).toNat n).getD j 0 else 0) = (sg (prodS s).toNat fun j => if srcI u s j = i then 1 else 0) * n := by
      rw [← sg_mul, ← size_ok a]
      refine sg_congr fun j hj => ?_
      have := src_in h (p := (j : Int)) (by omega) (by omega)
      rw [rep_getD _ _ _ hj]
      by_cases hc : srcI u s j = i
      · rw [if_pos (by omega), if_pos hc]; simp
      · rw [if_neg (by omega), if_neg hc]; simp
    have hc := count_src h (p := (i : Int)) (by omega) (by omega)
    rw [e2] at e
    generalize (sg (prodS s).toNat fun j => if srcI u s j = i then (1 : Int) else 0) = c at e hc
    have p1 := ok_prod a
    have p2 := ok_prod b
    have c0 : 0 ≤ c := by
      rcases (show c < 0 ∨ 0 ≤ c by omega) with h | h
      · have := Int.mul_le_mul_of_nonneg_right (show c ≤ -1 by omega) (show 0 ≤ prodS u by omega)
        omega
      · exact h
    have c1 : c ≤ 64 := by
      have := Int.mul_le_mul_of_nonneg_left (show 1 ≤ prodS u by omega) c0
      omega
    subst e
    rw [f1, ha, ← hc]
    refine ⟨by rw [Int.mul_comm c n, Int.mul_assoc], ?_, ?_⟩
    · have := Int.mul_le_mul_of_nonneg_left hn.1 c0
      omega
    · have := Int.mul_le_mul_of_nonneg_left hn.2 c0
      omega

/-! ### At an index -/
theorem pin_at {s d : List Int} (h : tokV s d = true) {p : Int} (h0 : 0 ≤ p) (h1 : p < sizeV s) : pinV s d (digs s p) = (p, 0) := by
  unfold pinV; rw [if_pos h]; exact places_in h0 h1
theorem at_at {s d : List Int} (h : tokV s d = true) {p : Int} (h0 : 0 ≤ p) (h1 : p < sizeV s) : atV s d (digs s p) = (d.getD p.toNat 0, 0) := by
  unfold atV; rw [pin_at h h0 h1]; rfl
theorem with_at {s d : List Int} (h : tokV s d = true) {p : Int} (n : Int) (h0 : 0 ≤ p) (h1 : p < sizeV s) : withV s d (digs s p) n = (s, d.set p.toNat n, 0) := by
  unfold withV; rw [pin_at h h0 h1]; rfl
theorem tok_set {s d : List Int} (h : tokV s d = true) (k : Nat) (n : Int) : tokV s (d.set k n) = true := by
  obtain ⟨a, b⟩ := tok_iff.1 h
  exact tok_iff.2 ⟨a, by rw [List.length_set]; exact b⟩
/-- TensorIndex. -/
theorem at_spread {s d g t : List Int} (k : fitsV s g = true) (h : tokV s d = true) (hp : inIdx g t = true) :
    atV g (spreadL s d g (sizeV g).toNat) t = atV s d (maskL s (t.drop (g.length - s.length))) ∧ (atV s d (maskL s (t.drop (g.length - s.length)))).2 = 0 := by
  obtain ⟨a, b, c, _⟩ := fits_al k
  obtain ⟨p0, p1, p2⟩ := plc_in (ok_all b) hp
  have hn := size_nat b
  have e1 : pinV g (spreadL s d g (sizeV g).toNat) t = (plc g t, 0) := by
    unfold pinV; rw [if_pos (tok_spread k)]; exact place_yes b hp
  have e2 : pinV s d (maskL s (t.drop (g.length - s.length))) = (srcI s g (plc g t), 0) := by
    unfold pinV; rw [if_pos h]
    have := src_place k p0 p1
    rwa [p2] at this
  unfold atV
  rw [e1, e2]
  simp only [if_true]
  rw [spread_getD (by omega), Int.toNat_of_nonneg p0]
  simp
theorem at_no {g d t : List Int} (h : tokV g d = true) (hp : inIdx g t = false) : atV g d t = (0, 20) := by
  have e1 : pinV g d t = (0, 20) := by unfold pinV; rw [if_pos h]; exact place_no (.inr hp)
  unfold atV; rw [e1]; rfl
end Go.Proofs.ShM

/- Check of layer 3, and the document's; Few; slices.Clone: what each answers. -/
namespace Go.Proofs.Ytdcpekkkenckeaa
open Go.RowKit Go.Proofs.ShM

namespace TnA
theorem tok_no {s d : List Int} (h : okS s = false) : tokV s d = false := by unfold tokV; rw [h]; rfl
theorem tok_is {s d : List Int} (h : okS s = true) : tokV s d = ((d.length : Int) == sizeV s) := by
  unfold tokV; rw [h, Bool.eq_iff_iff]; simp
end TnA

/-- A callee that leaves the world as it is, within a region that draws. -/
theorem quiet_same {f : FuncId} {args : Array Value} {w : World} {n : Nat} {v : Value} (h : Calls Try.prog f args (w.drewN n) fun e w' => e = .returned v ∧ w.drewN n = w') :
    Calls Try.prog f args (w.drewN n) fun e w'' => e = .returned v ∧ ∃ m, w'' = w.drewN m := h.mono fun _ _ ⟨he, hm⟩ => ⟨he, n, hm.symm⟩

set_option maxHeartbeats 1000000 in
theorem tcheck_any (A B : Option Addr) (c d : Nat) (s xs : List Int) (w : World) (h : Rd w A s) (g : Rd w B xs) :
    Calls Try.prog 35 #[.agg #[.slice A s.length c, .slice B xs.length d]] w fun e w' => e = .returned (.bool (tokV s xs)) ∧ Kp w w' := by
  have hl := h.len
  have gl := g.len
  have HC : Hid (∀ W, Kp w W → Calls Try.prog 40 #[.slice A s.length c] W fun e w' => e = .returned (.bool (okS s)) ∧ W = w') := fun W k => check_any A c s W (h.kp k)
  have HS : Hid (∀ W, Kp w W → Calls Try.prog 41 #[.slice A s.length c] W fun e w' => e = .returned (.int .i64 (sizeV s)) ∧ W = w') := fun W k => size_any A c s W (h.kp k)
  have K0 : Hid (Kp w (w.alloc (.cells #[.slice A s.length c, .slice B xs.length d] 25))) := Kp.alloc_ _ _
  cases ho : okS s with
  | false =>
    rw [ho] at HC
    have HF := Lib.hid (TnA.tok_no (d := xs) ho)
    clear ho
    go_enter Try.func35, Try.ntmps35
    go_wp2
    go_quiet ((go_at_call 40; exact quiet_same (HC.out _ (K0.out.tr (Kp.drewN_ _ _)))))
    go_wp2
    go_ret
    exact ⟨ret_bool HF.out.symm, K0.out.tr (Kp.drewN_ _ _)⟩
  | true =>
    rw [ho] at HC
    have HF := Lib.hid (TnA.tok_is (d := xs) ho)
    clear ho
    go_enter Try.func35, Try.ntmps35
    go_wp2
    go_quiet (first | (go_at_call 40; exact quiet_same (HC.out _ (K0.out.tr (Kp.drewN_ _ _)))) | (go_at_call 41; exact quiet_same (HS.out _ (K0.out.tr (Kp.drewN_ _ _)))))
    go_wp2
    go_ret
    exact ⟨ret_bool HF.out.symm, K0.out.tr (Kp.drewN_ _ _)⟩

set_option maxHeartbeats 1000000 in
theorem rtcheck_any (A B : Option Addr) (c d : Nat) (s xs : List Int) (w : World) (h : Rd w A s) (g : Rd w B xs) :
    Calls Try.prog 29 #[.agg #[.slice A s.length c, .slice B xs.length d]] w fun e w' => e = .returned (.bool (tokV s xs)) ∧ Kp w w' := by
  have hl := h.len
  have gl := g.len
  have HC : Hid (∀ W, Kp w W → Calls Try.prog 38 #[.slice A s.length c] W fun e w' => e = .returned (.bool (okS s)) ∧ W = w') := fun W k => rcheck_any A c s W (h.kp k)
  have HS : Hid (∀ W, Kp w W → Calls Try.prog 39 #[.slice A s.length c] W fun e w' => e = .returned (.int .i64 (sizeV s)) ∧ W = w') := fun W k => rsize_any A c s W (h.kp k)
  have K0 : Hid (Kp w (w.alloc (.cells #[.slice A s.length c, .slice B xs.length d] 25))) := Kp.alloc_ _ _
  cases ho : okS s with
  | false =>
    rw [ho] at HC
    have HF := Lib.hid (TnA.tok_no (d := xs) ho)
    clear ho
    go_enter Try.func29, Try.ntmps29
    go_wp2_with (go_at_call 38; refine (Calls.mono (HC.out _ K0.out)) ?_; rintro e w' ⟨rfl, rfl⟩)
    go_quiet (fail)
    go_wp2
    go_ret
    exact ⟨ret_bool HF.out.symm, K0.out.tr (Kp.drewN_ _ _)⟩
  | true =>
    rw [ho] at HC
    have HF := Lib.hid (TnA.tok_is (d := xs) ho)
    clear ho
    go_enter Try.func29, Try.ntmps29
    go_wp2_with (go_at_call 38; refine (Calls.mono (HC.out _ K0.out)) ?_; rintro e w' ⟨rfl, rfl⟩)
    go_quiet ((go_at_call 39; exact quiet_same (HS.out _ (K0.out.tr (Kp.drewN_ _ _)))))
    go_wp2
    go_ret
    exact ⟨ret_bool HF.out.symm, K0.out.tr (Kp.drewN_ _ _)⟩

/-- At most a hundred of each. -/
def fewV (n m : Nat) : Bool := decide (n ≤ 100) && decide (m ≤ 100)
set_option maxHeartbeats 400000 in
theorem few_any (A B : Option Addr) (c d n m : Nat) (w : World) (h : n ≤ 9223372036854775807) (g : m ≤ 9223372036854775807) :
    Calls Try.prog 10 #[.agg #[.slice A n c, .slice B m d]] w fun e w' => e = .returned (.bool (fewV n m)) ∧ Kp w w' := by
  have K0 : Hid (Kp w (w.alloc (.cells #[.slice A n c, .slice B m d] 25))) := Kp.alloc_ _ _
  by_cases h1 : n ≤ 100
  · have HF : Hid (decide ((m : Int) ≤ 100) = fewV n m) := by show _ = fewV n m; unfold fewV; simp [h1]; omega
    go_enter Try.func10, Try.ntmps10
    go_wp2
    go_ret
    exact ⟨ret_bool HF.out, K0.out⟩
  · have HF : Hid (fewV n m = false) := by show fewV n m = false; unfold fewV; simp [h1]
    go_enter Try.func10, Try.ntmps10
    go_wp2
    go_ret
    exact ⟨ret_bool HF.out.symm, K0.out⟩

/-- The answer is a list of the call's own. -/
def RetO (xs : List Int) (w : World) (e : Ending) (w' : World) : Prop := ∃ A c, e = .returned (.slice A xs.length c) ∧ Own w.heap.size w' (.slice A xs.length c) xs ∧ Kp w w'
set_option maxHeartbeats 1000000 in
theorem clone_any (A : Option Addr) (c : Nat) (xs : List Int) (w : World) (h : Rd w A xs) (hs : xs.length ≤ 1000000) :
    Calls Try.prog 34 #[.slice A xs.length c] w (RetO xs w) := by
  have qT : ∀ (w : World) (a : Option Addr) (n c : Nat), (binOp .eql 23 (.slice a n c) (.slice none 0 0)).run Try.prog w = .ok (.bool a.isNone) w := fun w a n c => Lib.run_eql_slice_nil w _ _ a n c 0 0 Try.underlying23
  cases A with
  | none =>
    obtain rfl : xs = [] := by
      cases xs with
      | nil => rfl
      | cons x xs => obtain ⟨ad, e, _⟩ := h.2 (by simp); cases e
    go_enter Try.func34, Try.ntmps34
    go_wp2
    go_ret
    exact ⟨none, 0, rfl, Own.nil_ _ _, Kp.refl _⟩
  | some ad =>
    go_enter Try.func34, Try.ntmps34
    go_wp2_with (at_builtin; refine wpList_app rfl (.tmp 5) (.tmp 6) rfl _ [] rfl (Own.zero w (Nat.le_refl _)) (some ad) c xs _ rfl rfl (h.alloc_ _) (by simpa using hs) (by simp) ?_; intro z1 A1 c1 w1 HZ o1 b1; have K1 := Lib.hid ((Kp.alloc_ w _).trans b1); have R1 := Lib.hid o1; clear o1 b1)
    go_ret
    have hz : z1 = xs := by have := HZ.out; simpa using this
    subst hz
    exact ⟨A1, c1, rfl, R1.out, K1.out⟩
end Go.Proofs.Ytdcpekkkenckeaa

/- The place of an index, the number there, and a tensor with another there: what each answers, and the document's. -/
namespace Go.Proofs.Ytdcpekkkenckeaa
open Go.RowKit Go.Proofs.ShM

namespace TnB
theorem pin_cases (s d t : List Int) : (∃ e : Int, (e = 30 ∨ e = 20) ∧ pinV s d t = (0, e)) ∨ ∃ k : Nat, k < d.length ∧ pinV s d t = ((k : Int), 0) ∧ tokV s d = true := by
  cases h : tokV s d with
  | false => exact .inl ⟨30, .inl rfl, by unfold pinV; rw [h]; rfl⟩
  | true =>
    obtain ⟨a, b⟩ := tok_iff.1 h
    have e : pinV s d t = placeV s t := by unfold pinV; rw [if_pos h]
    cases ht : inIdx s t with
    | false => exact .inl ⟨20, .inr rfl, by rw [e]; exact place_no (.inr ht)⟩
    | true =>
      obtain ⟨p0, p1, _⟩ := plc_in (ok_all a) ht
      refine .inr ⟨(plc s t).toNat, by omega, ?_, rfl⟩
      rw [e, place_yes a ht, Int.toNat_of_nonneg p0]
theorem at_yes {s d t : List Int} {k : Nat} {x : Int} (h : pinV s d t = ((k : Int), 0)) (hx : d[k]? = some x) : atV s d t = (x, 0) := by
  unfold atV; rw [h]; simp [hx]
theorem at_err {s d t : List Int} {e : Int} (h : pinV s d t = (0, e)) (he : e = 30 ∨ e = 20) : atV s d t = (0, e) := by
  unfold atV; rw [h]; rcases he with rfl | rfl <;> rfl
theorem with_yes {s d t : List Int} {k : Nat} (n : Int) (h : pinV s d t = ((k : Int), 0)) : withV s d t n = (s, d.set k n, 0) := by
  unfold withV; rw [h]; simp
theorem with_err {s d t : List Int} {e : Int} (n : Int) (h : pinV s d t = (0, e)) (he : e = 30 ∨ e = 20) : withV s d t n = ([], [], e) := by
  unfold withV; rw [h]; rcases he with rfl | rfl <;> rfl
theorem pin_no {s d : List Int} (t : List Int) (h : tokV s d = false) : pinV s d t = (0, 30) := by unfold pinV; rw [h]; rfl
theorem pin_is {s d : List Int} (t : List Int) (h : tokV s d = true) : pinV s d t = placeV s t := by unfold pinV; rw [h]; rfl
end TnB
/-- The number and the error, the answer being that. -/
theorem RetK.of {r : Int × Int} {n err : Int} {w w' : World} (h : r = (n, err)) (k : Kp w w') : RetK r.1 r.2 w (.returned (.tuple #[.int .i64 n, .int .i64 err])) w' := ⟨by rw [h], k⟩

end Go.Proofs.Ytdcpekkkenckeaa

/- A tensor with another number at an index: what it answers, and the document's. -/
namespace Go.Proofs.Ytdcpekkkenckeaa
open Go.RowKit Go.Proofs.ShM

section
variable {w w' : World} {A B : Option Addr} {xs : List Int} {v : Value} {b n c : Nat}
theorem Rd.put_ (h : Rd w A xs) {p : Addr} (hp : ∀ ad, A = some ad → ad.block ≠ p.block) (u : Value) : Rd (w.setCell p u) A xs :=
  ⟨h.1, fun hn => by
    obtain ⟨ad, e, hb, hc⟩ := h.2 hn
    refine ⟨ad, e, by rw [World.size_setCell]; exact hb, fun j x hx => ?_⟩
    rw [World.cell?_setCell_other]
    · exact hc j x hx
    · intro e'
      exact hp ad e (by rw [e', block_of_add])⟩
theorem Own.put_ (h : Own b w v xs) {p : Addr} (hp : p.block < b) (u : Value) : Own b (w.setCell p u) v xs :=
  h.of_block fun g hg => by
    have := h.from_ hg
    exact Below.heap_setCell _ _ _ g (by omega)
/-- A list of the call's own that is not empty. -/
theorem Own.addr (h : Own b w (.slice A n c) xs) (hx : 0 < xs.length) : ∃ g, A = some ⟨g, 0, none⟩ ∧ b ≤ g ∧ g < w.heap.size := by
  rcases h.2 with ⟨e, h0⟩ | ⟨g, cap, cur, e, hb, hh, _⟩
  · omega
  · injection e with e1 _ _
    exact ⟨g, e1, hb, (Array.getElem?_eq_some_iff.1 hh).1⟩
theorem Own.where_ (h : Own b w v xs) {g : Nat} (hg : v.ownBlock = some g) : b ≤ g ∧ g < w.heap.size := by
  rcases h.2 with ⟨rfl, _⟩ | ⟨g', cap, cur, rfl, hb, hh, _⟩
  · cases hg
  · injection hg with hg
    subst hg
    exact ⟨hb, (Array.getElem?_eq_some_iff.1 hh).1⟩
theorem Own.ad (h : Own b w (.slice A n c) xs) {ad : Addr} (hA : A = some ad) : b ≤ ad.block ∧ ad.block < w.heap.size := by
  subst hA
  exact h.where_ rfl
theorem Sl.put_ (h : Sl w A c xs) {p : Addr} (hp : ∀ ad, A = some ad → ad.block ≠ p.block) (u : Value) : Sl (w.setCell p u) A c xs := ⟨h.rd.put_ hp u, h.le, h.cap⟩
theorem Sl.of (h : Rd w A xs) (hc : xs.length ≤ c ∧ c ≤ 9223372036854775807) : Sl w A c xs := ⟨h, hc.1, hc.2⟩
theorem Sl.room (h : Sl w A c xs) : xs.length ≤ c ∧ c ≤ 9223372036854775807 := ⟨h.le, h.cap⟩
theorem Sl.drew (h : Sl w A c xs) : Sl w.drew A c xs := ⟨h.rd, h.le, h.cap⟩
theorem Sl.drewN (h : Sl w A c xs) (k : Nat) : Sl (w.drewN k) A c xs := ⟨h.rd, h.le, h.cap⟩
theorem Sl.alloc_ (h : Sl w A c xs) (o : Obj) : Sl (w.alloc o) A c xs := h.kp (Kp.alloc_ _ _)
theorem Kp.al (h : Kp w w') (o : Obj) : Kp w (w'.alloc o) := h.tr (Kp.alloc_ _ _)
theorem Own.mono (h : Own b w v xs) {b' : Nat} (hb : b' ≤ b) : Own b' w v xs := by
  refine ⟨h.1, ?_⟩
  rcases h.2 with h0 | ⟨g, cap, cur, e, hg, r⟩
  · exact .inl h0
  · exact .inr ⟨g, cap, cur, e, Nat.le_trans hb hg, r⟩
end

/-- The answer is the tensor and the error; nothing that was there has changed. -/
def RetT (r : Tn) (w : World) (e : Ending) (w' : World) : Prop :=
  ∃ A c B d, e = .returned (.tuple #[.agg #[.slice A r.1.length c, .slice B r.2.1.length d], .int .i64 r.2.2]) ∧ Sl w' A c r.1 ∧ Sl w' B d r.2.1 ∧ Kp w w'
theorem RetT.of {r : Tn} {l m : List Int} {err : Int} {w w' : World} {A B : Option Addr} {c d : Nat} (h : r = (l, m, err)) (hA : Sl w' A c l) (hB : Sl w' B d m) (k : Kp w w') :
    RetT r w (.returned (.tuple #[.agg #[.slice A l.length c, .slice B m.length d], .int .i64 err])) w' := by
  subst h; exact ⟨A, c, B, d, rfl, hA, hB, k⟩
theorem RetT.on {r : Tn} {l m : List Int} {a b : Nat} {err : Int} {w w' : World} {A B : Option Addr} {c d : Nat} (h : r = (l, m, err)) (ha : a = l.length) (hb : b = m.length) (hA : Sl w' A c l) (hB : Sl w' B d m) (k : Kp w w') :
    RetT r w (.returned (.tuple #[.agg #[.slice A a c, .slice B b d], .int .i64 err])) w' := by
  subst ha hb; exact RetT.of h hA hB k
theorem RetT.err {r : Tn} {err : Int} {w w' : World} (h : r = ([], [], err)) (k : Kp w w') : RetT r w (.returned (.tuple #[.agg #[.slice none 0 0, .slice none 0 0], .int .i64 err])) w' :=
  RetT.of (A := none) (B := none) h (Sl.nil_ _) (Sl.nil_ _) k

/-- The tensor handed in lies in a block, its answer's block behind it. -/
structure Fr (w : World) (A : Option Addr) (n c : Nat) (B : Option Addr) (m d : Nat) (w' : World) : Prop where
  kp : Kp w w'
  b0 : w'.cell? ⟨w.heap.size, 0, none⟩ = some (.slice A n c)
  b1 : w'.cell? ⟨w.heap.size, 1, none⟩ = some (.slice B m d)
  r0 : w'.cell? ⟨w.heap.size + 1, 0, none⟩ = some (.slice none 0 0)
  r1 : w'.cell? ⟨w.heap.size + 1, 1, none⟩ = some (.slice none 0 0)
  f0 : w'.frozen? ⟨w.heap.size + 1, 0, none⟩ = false
  f1 : w'.frozen? ⟨w.heap.size + 1, 1, none⟩ = false
  sz : w.heap.size + 2 ≤ w'.heap.size
theorem Fr.tr {w : World} {A : Option Addr} {n c : Nat} {B : Option Addr} {m d : Nat} {a b : World} (h : Fr w A n c B m d a) (k : Kp a b) : Fr w A n c B m d b where
  kp := h.kp.tr k
  b0 := (k.cell (p := ⟨w.heap.size, 0, none⟩) (by have := h.sz; show w.heap.size < _; omega)).trans h.b0
  b1 := (k.cell (p := ⟨w.heap.size, 1, none⟩) (by have := h.sz; show w.heap.size < _; omega)).trans h.b1
  r0 := (k.cell (p := ⟨w.heap.size + 1, 0, none⟩) (by have := h.sz; show w.heap.size + 1 < _; omega)).trans h.r0
  r1 := (k.cell (p := ⟨w.heap.size + 1, 1, none⟩) (by have := h.sz; show w.heap.size + 1 < _; omega)).trans h.r1
  f0 := (k.frozen (p := ⟨w.heap.size + 1, 0, none⟩) (by have := h.sz; show w.heap.size + 1 < _; omega)).trans h.f0
  f1 := (k.frozen (p := ⟨w.heap.size + 1, 1, none⟩) (by have := h.sz; show w.heap.size + 1 < _; omega)).trans h.f1
  sz := Nat.le_trans h.sz k.size
theorem Fr.mk_ (w : World) (A : Option Addr) (n c : Nat) (B : Option Addr) (m d : Nat) (t : TypeId) : Fr w A n c B m d ((w.alloc (.cells #[.slice A n c, .slice B m d] t)).alloc (.cells #[.slice none 0 0, .slice none 0 0] t)) where
  kp := (Kp.alloc_ _ _).tr (Kp.alloc_ _ _)
  b0 := by simp
  b1 := by simp
  r0 := by simp
  r1 := by simp
  f0 := by simp
  f1 := by simp
  sz := by simp
theorem Fr.end_ {w : World} {A : Option Addr} {n c : Nat} {B : Option Addr} {m d : Nat} {a : World} (h : Fr w A n c B m d a) (x y : Value) : Kp w ((a.setCell ⟨w.heap.size + 1, 0, none⟩ x).setCell ⟨w.heap.size + 1, 1, none⟩ y) :=
  (h.kp.setCell (p := ⟨w.heap.size + 1, 0, none⟩) (by simp) x).setCell (p := ⟨w.heap.size + 1, 1, none⟩) (by simp) y

/-- A list of the call's own, all since w1. -/
def RetC (w1 : World) (xs : List Int) (W : World) (e : Ending) (w' : World) : Prop :=
  ∃ A c, e = .returned (.slice A xs.length c) ∧ Hid (Own W.heap.size w' (.slice A xs.length c) xs) ∧ Hid (Kp w1 w') ∧ Hid (Kp W w') ∧ (∀ p : Addr, p.block < w1.heap.size → w'.cell? p = w1.cell? p) ∧ (∀ p : Addr, p.block < W.heap.size → w'.cell? p = W.cell? p) ∧ (∀ p : Addr, p.block < W.heap.size → w'.frozen? p = W.frozen? p) ∧ W.heap.size ≤ w'.heap.size
theorem clone_c {w w1 : World} {A : Option Addr} {xs : List Int} (c : Nat) (h : Rd w A xs) (hk : Kp w w1) (hs : xs.length ≤ 1000000) :
    Hid (∀ W, Kp w1 W → Calls Try.prog 34 #[.slice A xs.length c] W (RetC w1 xs W)) :=
  fun W k => (clone_any A c xs W (h.kp (hk.tr k)) hs).mono fun _ _ ⟨A', c', e, o, kk⟩ => ⟨A', c', e, o, k.tr kk, kk, fun _ hp => (k.tr kk).cell hp, fun _ hp => kk.cell hp, fun _ hp => kk.frozen hp, kk.size⟩
/-- A new tensor of the call's own. -/
def WR (w1 : World) (s xs : List Int) (v : Value) (wx : World) : Prop :=
  ∃ g AS cS gd cd, v = .pointer (some ⟨g, 0, none⟩) ∧ w1.heap.size ≤ g ∧ w1.heap.size ≤ gd ∧ g ≠ gd ∧ Kp w1 wx ∧ wx.cell? ⟨g, 0, none⟩ = some (.slice AS s.length cS) ∧ wx.cell? ⟨g, 1, none⟩ = some (.slice (some ⟨gd, 0, none⟩) xs.length cd) ∧
    Sl wx AS cS s ∧ Own w1.heap.size wx (.slice (some ⟨gd, 0, none⟩) xs.length cd) xs ∧ ∀ ad, AS = some ad → ad.block ≠ gd ∧ w1.heap.size ≤ ad.block

theorem cell_ne {w : World} {p q : Addr} {u v : Value} (h : p ≠ q) (hc : w.cell? q = some v) : (w.setCell p u).cell? q = some v := by
  rw [World.cell?_setCell_other]
  · exact hc
  · exact h
theorem some_ne {w : World} {p q : Addr} {u : Value} (h : p ≠ q) (hc : (w.cell? q).isSome = true) : ((w.setCell p u).cell? q).isSome = true := by
  rw [World.cell?_setCell_other]
  · exact hc
  · exact h
theorem WR.set_ {w1 w2 w3 : World} {s xs : List Int} {AS AD : Option Addr} {cS cD bS bD g : Nat} (hx : 0 < xs.length) (oS : Own bS w2 (.slice AS s.length cS) s) (k23 : Kp w2 w3) (oD : Own bD w3 (.slice AD xs.length cD) xs) (hS : w1.heap.size ≤ bS) (hD : w2.heap.size ≤ bD)
    (k13 : Kp w1 w3) (hg : w1.heap.size ≤ g) (gD : g < bD) (gS : g < bS ∨ w2.heap.size ≤ g) (c0 : (w3.cell? ⟨g, 0, none⟩).isSome = true) (c1 : (w3.cell? ⟨g, 1, none⟩).isSome = true) :
    WR w1 s xs (.pointer (some ⟨g, 0, none⟩)) ((w3.setCell ⟨g, 0, none⟩ (.slice AS s.length cS)).setCell ⟨g, 1, none⟩ (.slice AD xs.length cD)) := by
  obtain ⟨gd, rfl, hd1, hd2⟩ := oD.addr hx
  have c1' : ((w3.setCell ⟨g, 0, none⟩ (.slice AS s.length cS)).cell? ⟨g, 1, none⟩).isSome = true := some_ne (by simp) c1
  refine ⟨g, AS, cS, gd, cD, rfl, hg, by omega, by omega, (k13.setCell (p := ⟨g, 0, none⟩) hg _).setCell (p := ⟨g, 1, none⟩) hg _, ?_, World.cell?_setCell_same' _ _ _ c1', ?_, ?_, ?_⟩
  · exact cell_ne (by simp) (World.cell?_setCell_same' _ _ _ c0)
  · have hne : ∀ ad, AS = some ad → ad.block ≠ g := fun ad e => by have := oS.ad e; omega
    exact ((oS.sl.kp k23).put_ hne _).put_ hne _
  · exact (((oD.put_ (p := ⟨g, 0, none⟩) gD _).put_ (p := ⟨g, 1, none⟩) gD _)).mono (by omega)
  · exact fun ad e => by have := oS.ad e; omega
theorem WR.new_ {w1 w2 w3 : World} {s xs : List Int} {AS AD : Option Addr} {cS cD bS bD : Nat} (t : TypeId) (hx : 0 < xs.length) (oS : Own bS w2 (.slice AS s.length cS) s) (k23 : Kp w2 w3) (oD : Own bD w3 (.slice AD xs.length cD) xs) (hS : w1.heap.size ≤ bS) (hD : w2.heap.size ≤ bD)
    (k13 : Kp w1 w3) (h12 : w1.heap.size ≤ w2.heap.size) :
    WR w1 s xs (.pointer (some ⟨w3.heap.size, 0, none⟩)) (w3.alloc (.cells #[.slice AS s.length cS, .slice AD xs.length cD] t)) := by
  obtain ⟨gd, rfl, hd1, hd2⟩ := oD.addr hx
  refine ⟨w3.heap.size, AS, cS, gd, cD, rfl, k13.size, by omega, by omega, k13.al _, by simp, by simp, (oS.sl.kp k23).kp (Kp.alloc_ _ _), (oD.kp (Kp.alloc_ _ _)).mono (by omega), ?_⟩
  exact fun ad e => by have := oS.ad e; omega

end Go.Proofs.Ytdcpekkkenckeaa

/- The document's tensor with another number at an index, one of one number, and whether two are the same: what each answers. -/
namespace Go.Proofs.Ytdcpekkkenckeaa
open Go.RowKit Go.Proofs.ShM

namespace TnD
theorem at_of {s d t : List Int} {e : Int} (h : pinV s d t = (0, e)) (he : e = 30 ∨ e = 20) : atV s d t = (0, e) := TnB.at_err h he
end TnD

end Go.Proofs.Ytdcpekkkenckeaa

/- What math/bits answers of a product of two words. -/
namespace Go.Proofs.Ytdcpekkkenckeaa
open Go.RowKit

namespace FixB
theorem mask (a : Nat) (ha : a < 18446744073709551616) : bits .and .u64 (a : Int) 4294967295 = ((a % 4294967296 : Nat) : Int) := by
  have h := bits_and_u64_nat a 4294967295 ha (by omega)
  rw [show a &&& 4294967295 = a % 4294967296 from Nat.and_two_pow_sub_one_eq_mod a 32] at h
  exact h
theorem divc (a : Nat) : (a : Int) / 4294967296 = ((a / 4294967296 : Nat) : Int) := by omega
theorem mulc (a b : Nat) : (a : Int) * (b : Int) = ((a * b : Nat) : Int) := (Int.natCast_mul a b).symm
theorem addc (a b : Nat) : (a : Int) + (b : Int) = ((a + b : Nat) : Int) := (Int.natCast_add a b).symm
theorem wrapc (a : Nat) (ha : a < 18446744073709551616) : IntKind.u64.wrap (a : Int) = (a : Int) := by rw [IntKind.wrap_u64]; omega
theorem wrapm (a : Nat) : IntKind.u64.wrap (a : Int) = ((a % 18446744073709551616 : Nat) : Int) := by rw [IntKind.wrap_u64]; omega
end FixB

end Go.Proofs.Ytdcpekkkenckeaa

/- slices.Repeat of one number: what it answers. -/
namespace Go.Proofs.Ytdcpekkkenckeaa
open Go.RowKit Go.Proofs.ShM

/-- m numbers n, then noughts, k cells. -/
def repL (n : Int) (m k : Nat) : List Int := List.replicate m n ++ List.replicate (k - m) 0
theorem repL_len {n : Int} {m k : Nat} (h : m ≤ k) : (repL n m k).length = k := by unfold repL; simp; omega
theorem repL_end (n : Int) (k : Nat) : repL n k k = List.replicate k n := by unfold repL; simp
/-- The row, as cells. -/
def repC (n : Int) (m k : Nat) : List Value := (repL n m k).map (Value.int .i64)
theorem repC_len {n : Int} {m k : Nat} (h : m ≤ k) : (repC n m k).length = k := by unfold repC; rw [List.length_map, repL_len h]
theorem repC_zero (n : Int) (k : Nat) : List.replicate k (Value.int .i64 0) = repC n 0 k := by unfold repC repL; simp
theorem rep_splice (n : Int) (m k c : Nat) : splice (repC n m k) m (List.replicate c (Value.int .i64 n)) = repC n (m + c) k := by
  unfold splice repC repL
  simp only [List.map_append, List.map_replicate, List.length_replicate]
  rw [List.take_append_of_le_length (by simp), List.take_of_length_le (by simp), List.drop_append]
  simp only [List.length_replicate, List.drop_replicate]
  rw [show m - (m + c) = 0 by omega, show m + c - m = c by omega, show k - m - c = k - (m + c) by omega, ← List.append_assoc, List.replicate_append_replicate]
  rfl
theorem repC_at {n : Int} {m k j : Nat} (h : j < m) : (repC n m k)[j]? = some (Value.int .i64 n) := by
  unfold repC repL
  rw [List.getElem?_map, List.getElem?_append_left (by simpa using h), List.getElem?_replicate, if_pos h]; rfl
theorem alloc_new (w : World) (o : Obj) : (w.alloc o).heap[w.heap.size]? = some o := by
  show (w.heap.push o)[w.heap.size]? = some o
  simp
theorem cell_of_row {w : World} {g : Nat} {cs : List Value} {t : TypeId} (h : w.heap[g]? = some (.cells cs.toArray t (0, 0))) (j : Nat) {v : Value} (hv : cs[j]? = some v) : w.cell? ⟨g, j, none⟩ = some v := by
  simp [World.cell?, h, hv]
theorem Own.of_row {B g k : Nat} {w : World} {xs : List Int} (hg : w.heap[g]? = some (.cells (xs.map (Value.int .i64)).toArray 3 (0, 0))) (hB : B ≤ g) (hk : xs.length = k) (hm : k ≤ 1000000) : Own B w (.slice (some ⟨g, 0, none⟩) k k) xs := by
  subst hk
  exact ⟨by simp, .inr ⟨g, xs.length, _, rfl, hB, hg, Nat.le_refl _, by unfold maxLen; omega, by simp, by rw [Nat.mul_one]; exact List.take_of_length_le (by simp)⟩⟩

theorem RetO.on {xs : List Int} {n c : Nat} {A : Option Addr} {w w' : World} (hn : n = xs.length) (h : Own w.heap.size w' (.slice A n c) xs) (k : Kp w w') : RetO xs w (.returned (.slice A n c)) w' := by
  subst hn; exact ⟨A, c, rfl, h, k⟩

end Go.Proofs.Ytdcpekkkenckeaa

/- The tensor of one number, the document's too, and whether two tensors are the same: what each answers. -/
namespace Go.Proofs.Ytdcpekkkenckeaa
open Go.RowKit Go.Proofs.ShM

namespace TnE
theorem full_no {s : List Int} (n : Int) (h : okS s = false) : fullV s n = ([], [], 20) := by unfold fullV; rw [h]; rfl
theorem full_yes {s : List Int} (n : Int) (h : okS s = true) : fullV s n = (s, List.replicate (sizeV s).toNat n, 0) := by unfold fullV; rw [if_pos h]
end TnE

/-- The answer's block. -/
structure Fs (w : World) (w' : World) : Prop where
  kp : Kp w w'
  r0 : w'.cell? ⟨w.heap.size, 0, none⟩ = some (.slice none 0 0)
  r1 : w'.cell? ⟨w.heap.size, 1, none⟩ = some (.slice none 0 0)
  f0 : w'.frozen? ⟨w.heap.size, 0, none⟩ = false
  f1 : w'.frozen? ⟨w.heap.size, 1, none⟩ = false
  sz : w.heap.size < w'.heap.size
theorem Fs.tb {w a b : World} (h : Fs w a) (k : Below (w.heap.size + 1) a b) : Fs w b where
  kp := h.kp.trans (k.mono (Nat.le_succ _))
  r0 := (k.cell (p := ⟨w.heap.size, 0, none⟩) (Nat.lt_succ_self _)).trans h.r0
  r1 := (k.cell (p := ⟨w.heap.size, 1, none⟩) (Nat.lt_succ_self _)).trans h.r1
  f0 := (k.frozen (p := ⟨w.heap.size, 0, none⟩) (Nat.lt_succ_self _)).trans h.f0
  f1 := (k.frozen (p := ⟨w.heap.size, 1, none⟩) (Nat.lt_succ_self _)).trans h.f1
  sz := Nat.lt_of_lt_of_le h.sz k.size
theorem Fs.tr {w a b : World} (h : Fs w a) (k : Kp a b) : Fs w b := h.tb (k.mono h.sz)
theorem Fs.mk_ (w : World) (t : TypeId) : Fs w (w.alloc (.cells #[.slice none 0 0, .slice none 0 0] t)) where
  kp := Kp.alloc_ _ _
  r0 := by simp
  r1 := by simp
  f0 := by simp
  f1 := by simp
  sz := by simp
theorem Fs.end_ {w a : World} (h : Fs w a) (x y : Value) : Kp w ((a.setCell ⟨w.heap.size, 0, none⟩ x).setCell ⟨w.heap.size, 1, none⟩ y) :=
  (h.kp.setCell (p := ⟨w.heap.size, 0, none⟩) (Nat.le_refl _) x).setCell (p := ⟨w.heap.size, 1, none⟩) (Nat.le_refl _) y

namespace TnE
def Fl (n : Int) (k : Nat) (j : Nat) (zs : List Int) : Prop := j ≤ k ∧ zs = List.replicate j n
theorem fl_step {n : Int} {k j : Nat} {zs ys : List Int} (h : Fl n k j zs) (hj : j < k) (hy : ys = zs ++ [n]) : Fl n k (j + 1) ys := by
  obtain ⟨_, rfl⟩ := h
  exact ⟨hj, by rw [hy, List.replicate_succ']⟩
theorem fl_len {n : Int} {k j : Nat} {zs : List Int} (h : Fl n k j zs) : zs.length = j := by rw [h.2]; simp
theorem fl_end {n : Int} {k j : Nat} {zs : List Int} (h : Fl n k j zs) (hj : ¬ j < k) : List.replicate k n = zs := by
  obtain ⟨h1, rfl⟩ := h
  rw [show k = j by omega]
end TnE

end Go.Proofs.Ytdcpekkkenckeaa

/- Whether two tensors are the same; the place that a place comes from, and the document's: what each answers. -/
namespace Go.Proofs.Ytdcpekkkenckeaa
open Go.RowKit Go.Proofs.ShM

set_option maxHeartbeats 2000000 in
theorem tsame_any (A B C D : Option Addr) (c d g h : Nat) (s xs t ys : List Int) (w : World) (hA : Rd w A s) (hB : Rd w B xs) (hC : Rd w C t) (hD : Rd w D ys) :
    Calls Try.prog 15 #[.agg #[.slice A s.length c, .slice B xs.length d], .agg #[.slice C t.length g, .slice D ys.length h]] w fun e w' => e = .returned (.bool ((s == t) && (xs == ys))) ∧ Kp w w' := by
  have l1 := hA.len
  have l2 := hB.len
  have l3 := hC.len
  have l4 := hD.len
  have K0 : Hid (Kp w ((w.alloc (.cells #[.slice A s.length c, .slice B xs.length d] 25)).alloc (.cells #[.slice C t.length g, .slice D ys.length h] 25))) := (Kp.alloc_ _ _).tr (Kp.alloc_ _ _)
  have H1 : Hid (∀ W, Kp w W → Calls Try.prog 23 #[.slice A s.length c, .slice C t.length g] W fun e w' => e = .returned (.bool (s == t)) ∧ ∃ n, w' = W.drewN n) := fun W k => same_any A C c g s t W (hA.kp k) (hC.kp k)
  have H2 : Hid (∀ W, Kp w W → Calls Try.prog 23 #[.slice B xs.length d, .slice D ys.length h] W fun e w' => e = .returned (.bool (xs == ys)) ∧ ∃ n, w' = W.drewN n) := fun W k => same_any B D d h xs ys W (hB.kp k) (hD.kp k)
  clear hA hB hC hD
  cases e1 : (s == t) with
  | false =>
    rw [e1] at H1
    clear e1
    go_enter Try.func15, Try.ntmps15
    go_wp2_with fail
    refine (Calls.mono (H1.out _ K0.out)) ?_; rintro e w1 ⟨rfl, n, rfl⟩
    go_wp2
    go_ret
    exact ⟨rfl, K0.out.tr (Kp.drewN_ _ _)⟩
  | true =>
    rw [e1] at H1
    clear e1
    obtain ⟨b, hb⟩ : ∃ b, b = (xs == ys) := ⟨_, rfl⟩
    rw [← hb] at H2 ⊢
    clear hb
    go_enter Try.func15, Try.ntmps15
    go_wp2_with fail
    refine (Calls.mono (H1.out _ K0.out)) ?_; rintro e w1 ⟨rfl, n, rfl⟩
    go_wp2_with fail
    refine (Calls.mono (H2.out _ (K0.out.tr (Kp.drewN_ _ _)))) ?_; rintro e w2 ⟨rfl, m, rfl⟩
    go_wp2
    go_ret
    exact ⟨by simp, K0.out.tr (Kp.drewN_ _ _)⟩

section
variable {w : World} {A : Option Addr} {x : List Int}
/-- What is left of a list behind its first j numbers. -/
def cutA (A : Option Addr) (c j : Nat) : Option Addr := if c = j then A else A.map (·.add j)
theorem Rd.cut (h : Rd w A x) {c j : Nat} (hc : x.length ≤ c) : Rd w (cutA A c j) (x.drop j) := by
  unfold cutA
  split
  · rename_i e
    rw [List.drop_eq_nil_of_le (by omega)]; exact Rd.nil _ _
  · refine ⟨by have := h.1; simp; omega, fun hp => ?_⟩
    obtain ⟨ad, rfl, hb, hcs⟩ := h.2 (by simp at hp; omega)
    refine ⟨ad.add j, rfl, by rw [block_of_add]; exact hb, fun i u hu => ?_⟩
    rw [List.getElem?_drop] at hu
    rw [add_of_add]
    exact hcs _ _ hu
/-- A slice of all from the j-th on. -/
theorem run_cut (W : World) (A : Option Addr) (n c j : Nat) (hj : j ≤ n) : (Instr.sliceAt 23 (.slice A n c) (some (.int .i64 (j : Int))) none none).run Try.prog W = .ok (.slice (cutA A c j) (n - j) (c - j)) W := by
  have hu : Try.prog.underlying 23 = some (.slice (Try.prog.elem 23)) := by kernel_rfl
  have hsz : ((sizeOf (Try.prog.elem 23)).run Try.prog W) = .ok 1 W := by
    obtain ⟨i, hi, _, h1, _⟩ := info_parts int_info
    simp [sizeOf, typeInfo, show Try.prog.elem 23 = 3 by kernel_rfl, hi, h1]
  rw [run_sliceAt_slice W _ _ _ _ _ hu, run_slice_l W _ A n c hu .i64 j (by omega) (by omega), hsz]
  simp [Result.andThen, sliced, cutA]
end

namespace TnF
/-- The masked index, so far: its first k numbers. -/
def Rel (s y : List Int) (k : Nat) (zs : List Int) : Prop := k ≤ s.length ∧ s.length ≤ y.length ∧ zs = maskL (s.take k) (y.take k)
theorem mask_snoc (s : List Int) : ∀ {y : List Int} {x z : Int}, s.length = y.length → maskL (s ++ [x]) (y ++ [z]) = maskL s y ++ [if x = 1 then 0 else z] := by
  induction s with
  | nil => intro y x z h; cases y with
    | nil => rfl
    | cons _ _ => simp at h
  | cons a s ih =>
    intro y x z h
    cases y with
    | nil => simp at h
    | cons b y => simp only [List.cons_append, maskL]; rw [ih (by simpa using h)]
theorem mask_len (s : List Int) : ∀ {y : List Int}, s.length ≤ y.length → (maskL s y).length = s.length := by
  induction s with
  | nil => intro y _; cases y <;> rfl
  | cons a s ih =>
    intro y h
    cases y with
    | nil => simp at h
    | cons b y => simp only [maskL, List.length_cons]; rw [ih (by simpa using h)]
theorem start {s y : List Int} (h : s.length ≤ y.length) : Rel s y 0 [] := ⟨Nat.zero_le _, h, by simp [maskL]⟩
theorem len {s y : List Int} {k : Nat} {zs : List Int} (h : Rel s y k zs) : zs.length = k := by
  obtain ⟨h1, h2, rfl⟩ := h
  rw [mask_len _ (by simp; omega)]
  simp; omega
theorem step {s y : List Int} {k : Nat} {zs ws : List Int} {x z v : Int} (h : Rel s y k zs) (hx : s[k]? = some x) (hz : y[k]? = some z) (hv : v = if x = 1 then 0 else z) (hw : ws = zs ++ [v]) : Rel s y (k + 1) ws := by
  obtain ⟨h1, h2, rfl⟩ := h
  have hk := (List.getElem?_eq_some_iff.1 hx).1
  refine ⟨hk, h2, ?_⟩
  rw [take_of hx, take_of hz, mask_snoc _ (by simp; omega), hw, hv]
theorem end_ {s y : List Int} {k : Nat} {zs : List Int} (h : Rel s y k zs) (hk : ¬ k < s.length) : zs = maskL s y := by
  obtain ⟨h1, h2, rfl⟩ := h
  obtain rfl : k = s.length := by omega
  rw [List.take_length]
  clear h1 hk
  induction s generalizing y with
  | nil => cases y <;> simp [maskL]
  | cons a s ih => cases y with
    | nil => simp at h2
    | cons b y =>
      simp only [List.length_cons, List.take_succ_cons, maskL]
      rw [ih (by simpa using h2)]
end TnF

namespace TnF
/-- The index in place, so far: its first k numbers behind j. -/
def Pl (s x : List Int) (j k : Nat) (zs : List Int) : Prop := k ≤ s.length ∧ s.length + j = x.length ∧ zs = x.take j ++ (maskL (s.take k) ((x.drop j).take k) ++ x.drop (j + k))
theorem pstart {s x : List Int} {j : Nat} (h : s.length + j = x.length) : Pl s x j 0 x := ⟨Nat.zero_le _, h, by simp [maskL]⟩
theorem pstep {s x : List Int} {j k : Nat} {zs ws : List Int} {a : Int} (h : Pl s x j k zs) (ha : s[k]? = some a) (hw : ws = if a = 1 then zs.set (j + k) 0 else zs) : Pl s x j (k + 1) ws := by
  obtain ⟨h1, h2, rfl⟩ := h
  have hk := (List.getElem?_eq_some_iff.1 ha).1
  obtain ⟨z, hz⟩ : ∃ z, x[j + k]? = some z := ⟨x[j + k], List.getElem?_eq_getElem (by omega)⟩
  have hz' : (x.drop j)[k]? = some z := by rw [List.getElem?_drop]; exact hz
  have e2 : x.drop (j + k) = z :: x.drop (j + (k + 1)) := drop_of hz
  have hl : (maskL (s.take k) ((x.drop j).take k)).length = k := by
    rw [mask_len _ (by simp; omega)]; simp; omega
  refine ⟨hk, h2, ?_⟩
  rw [take_of ha, take_of hz', mask_snoc _ (by simp; omega), hw, e2]
  split
  · rw [List.set_append_right _ _ (by simp; omega), List.set_append_right _ _ (by simp; omega)]
    have e3 : j + k - (x.take j).length - (maskL (s.take k) ((x.drop j).take k)).length = 0 := by simp [hl]; omega
    rw [e3]; simp
  · simp
theorem plen {s x : List Int} {j k : Nat} {zs : List Int} (h : Pl s x j k zs) : zs.length = x.length := by
  obtain ⟨h1, h2, rfl⟩ := h
  have hl : (maskL (s.take k) ((x.drop j).take k)).length = k := by
    rw [mask_len _ (by simp; omega)]; simp; omega
  simp [hl]; omega
theorem pend {s x : List Int} {j k : Nat} {zs : List Int} (h : Pl s x j k zs) (hk : ¬ k < s.length) : zs.drop j = maskL s (x.drop j) := by
  obtain ⟨h1, h2, rfl⟩ := h
  obtain rfl : k = s.length := by omega
  have e0 : (x.take j).length = j := by simp; omega
  have e1 : x.drop (j + s.length) = [] := List.drop_eq_nil_of_le (by omega)
  have e2 : (x.drop j).take s.length = x.drop j := List.take_of_length_le (by simp; omega)
  rw [List.drop_left' e0, e1, List.take_length, e2, List.append_nil]
end TnF

end Go.Proofs.Ytdcpekkkenckeaa

/- Sums of layer 1, and the document's; an append as one step of a region that draws; plain facts of what is stretched and folded. -/
namespace Go.Proofs.Ytdcpekkkenckeaa
open Go.RowKit Go.Proofs.ShM Go.Proofs.FixM

namespace TnAdd
theorem add_over {a b : Int} (ha : I64 a) (hb : I64 b) (h : (!(decide (wrap64 (a + b) < a) == decide (b < 0))) = true) : addV a b = (0, 10) := by
  unfold I64 at ha hb
  by_cases c : b < 0 <;> by_cases d : wrap64 (a + b) < a <;> simp [c, d] at h <;> (unfold wrap64 at d; exact put_out (by omega))
theorem add_fits {a b : Int} (ha : I64 a) (hb : I64 b) (h : (!(decide (wrap64 (a + b) < a) == decide (b < 0))) = false) : addV a b = (wrap64 (a + b), 0) := by
  unfold I64 at ha hb
  by_cases c : b < 0 <;> by_cases d : wrap64 (a + b) < a <;> simp [c, d] at h <;> (unfold wrap64 at d ⊢; unfold addV; rw [put_in (by omega) (by omega)]; congr 1; omega)
end TnAdd

/-- append, as one step of a region that draws its order. -/
theorem step_app {w : World} {B : Nat} {ops : Array Oper} {o : Oper} {a : Act} {K : Act → World → Prop} {Q : Exit → Act → World → Prop} {E : Prop} (hgd : o.guard = none) (s x : Operand)
    (hop : o.op = .call { callee := .builtin .append, args := #[s, x], argTypes := #[23, 23] })
    (v : Value) (xs : List Int) (hs : a.eval s = v) (ho : Own B w v xs) (A : Option Addr) (c : Nat) (ys : List Int) (n : Nat) (hx : a.eval x = .slice A n c) (hn : n = ys.length) (hr : Rd w A ys)
    (hl : xs.length + ys.length ≤ 1000000) (hB : B ≤ w.heap.size)
    (h : ∀ zs A' c' w', Hid (zs = xs ++ ys) → Own B w' (.slice A' zs.length c') zs → Below B w w' → K (a.put o.dst (.slice A' zs.length c')) w') :
    if Region.wanted o (yielded ops a.tmps) = true then Oper.wp Try.prog o a w K Q else E := by
  have hw : Region.wanted o (yielded ops a.tmps) = true := by simp [Region.wanted, hgd]
  rw [if_pos hw]
  subst hn
  obtain ⟨zs, A', c', w', e, hrun, h1, h2⟩ := run_app ho c hr hl hB o.type
  unfold Oper.wp execOp
  simp only [hop, resolve, invoke, builtin, Sem.run_bind, Sem.run_pure, Result.andThen_ok, List.map_toArray, List.map_cons, List.map_nil, hs, hx, hrun]
  exact h zs A' c' w' e h1 h2

namespace TnG
/-! ### Stretched, place by place -/
theorem spread_succ (s d g : List Int) (k : Nat) : spreadL s d g (k + 1) = spreadL s d g k ++ [d.getD (srcI s g k).toNat 0] := by
  unfold spreadL; rw [List.range_succ, List.map_append]; rfl
def Sp (s d g : List Int) (N k : Nat) (zs : List Int) : Prop := k ≤ N ∧ zs = spreadL s d g k
theorem sp_len {s d g : List Int} {N k : Nat} {zs : List Int} (h : Sp s d g N k zs) : zs.length = k := by rw [h.2, spread_len]
theorem sp_step {s d g : List Int} {N k m : Nat} {zs ys : List Int} {x : Int} (h : Sp s d g N k zs) (hk : k < N) (hm : srcI s g k = (m : Int)) (hx : d[m]? = some x) (hy : ys = zs ++ [x]) : Sp s d g N (k + 1) ys := by
  refine ⟨hk, ?_⟩
  rw [spread_succ, ← h.2, hy, hm, Int.toNat_natCast, List.getD_eq_getElem?_getD, hx]; rfl
theorem sp_end {s d g : List Int} {N k : Nat} {zs : List Int} (h : Sp s d g N k zs) (hk : ¬ k < N) : zs = spreadL s d g N := by
  obtain ⟨h1, h2⟩ := h
  rw [h2, show k = N by omega]
theorem spread_no {s d : List Int} (g : List Int) (h : tokV s d = false) : spreadV s d g = ([], [], 30) := by unfold spreadV; rw [h]; rfl
theorem spread_misfit {s d g : List Int} (h : tokV s d = true) (k : fitsV s g = false) : spreadV s d g = ([], [], 20) := by unfold spreadV; rw [h, k]; rfl
theorem spread_yes {s d g : List Int} (h : tokV s d = true) (k : fitsV s g = true) : spreadV s d g = (g, spreadL s d g (sizeV g).toNat, 0) := by unfold spreadV; rw [h, k]; rfl
/-- Each place comes from one of the numbers. -/
theorem src_nat {s d g : List Int} (h : tokV s d = true) (k : fitsV s g = true) {N : Nat} (hN : sizeV g = N) {p : Nat} (hp : p < N) : ∃ m : Nat, srcI s g p = (m : Int) ∧ m < d.length := by
  obtain ⟨a, b⟩ := tok_iff.1 h
  have hg := (fits_al k).2.1
  obtain ⟨i1, i2⟩ := src_in k (p := (p : Int)) (by omega) (by rw [← size_ok hg]; omega)
  exact ⟨(srcI s g p).toNat, by omega, by omega⟩

/-! ### Folded, place by place -/
def Fd (f : Nat → Nat) (d : List Int) (M k : Nat) (zs : List Int) (r : List Int × Int) : Prop := k ≤ d.length ∧ zs.length = M ∧ I64s zs ∧ r = foldG f zs k (d.drop k)
theorem fd_start (f : Nat → Nat) (d : List Int) (M : Nat) : Fd f d M 0 (List.replicate M 0) (foldG f (List.replicate M 0) 0 d) := ⟨Nat.zero_le _, by simp, I64s.rep (by omega), rfl⟩
theorem fd_step {f : Nat → Nat} {d : List Int} {M k : Nat} {zs : List Int} {r : List Int × Int} {x y v : Int} (h : Fd f d M k zs r) (hx : d[k]? = some x) (hy : zs[f k]? = some y) (hv : addV y x = (v, 0)) : Fd f d M (k + 1) (zs.set (f k) v) r := by
  obtain ⟨h1, h2, h3, h4⟩ := h
  refine ⟨(List.getElem?_eq_some_iff.1 hx).1, by simpa using h2, h3.set_ _ (by have := add_in (a := y) (b := x); rw [hv] at this; exact this), ?_⟩
  rw [h4, drop_of hx]
  simp only [foldG, List.getD_eq_getElem?_getD, hy, Option.getD_some, hv, if_true]
theorem fd_err {f : Nat → Nat} {d : List Int} {M k : Nat} {zs : List Int} {r : List Int × Int} {x y : Int} (h : Fd f d M k zs r) (hx : d[k]? = some x) (hy : zs[f k]? = some y) (hv : addV y x = (0, 10)) : r = ([], 10) := by
  obtain ⟨h1, h2, h3, h4⟩ := h
  rw [h4, drop_of hx]
  simp only [foldG, List.getD_eq_getElem?_getD, hy, Option.getD_some, hv]
  rfl
theorem fd_end {f : Nat → Nat} {d : List Int} {M k : Nat} {zs : List Int} {r : List Int × Int} (h : Fd f d M k zs r) (hk : ¬ k < d.length) : r = (zs, 0) := by
  obtain ⟨h1, h2, h3, h4⟩ := h
  rw [h4, show k = d.length by omega, List.drop_length]; rfl
theorem add_two (a b : Int) : (∃ v, addV a b = (v, 0)) ∨ addV a b = (0, 10) := by
  unfold addV
  rcases put_cases (a + b) with ⟨_, _, e⟩ | ⟨_, e⟩
  · exact .inl ⟨_, e⟩
  · exact .inr e
theorem fold_no {g d : List Int} (s : List Int) (h : tokV g d = false) : foldV g d s = ([], [], 30) := by unfold foldV; rw [h]; rfl
theorem fold_misfit {g d s : List Int} (h : tokV g d = true) (k : fitsV s g = false) : foldV g d s = ([], [], 20) := by unfold foldV; rw [h, k]; rfl
theorem fold_yes {g d s zs : List Int} (h : tokV g d = true) (k : fitsV s g = true) (r : foldL s g d = (zs, 0)) : foldV g d s = (s, zs, 0) := by unfold foldV; rw [h, k, r]; rfl
theorem fold_err {g d s : List Int} (h : tokV g d = true) (k : fitsV s g = true) (r : foldL s g d = ([], 10)) : foldV g d s = ([], [], 10) := by unfold foldV; rw [h, k, r]; rfl
/-- Each of the numbers goes to a place. -/
theorem dst_nat {g d s : List Int} (h : tokV g d = true) (k : fitsV s g = true) {M : Nat} (hM : sizeV s = M) {p : Nat} (hp : p < d.length) : ∃ m : Nat, srcI s g p = (m : Int) ∧ m < M := by
  obtain ⟨a, b⟩ := tok_iff.1 h
  have hs := (fits_al k).1
  have := size_ok hs
  obtain ⟨i1, i2⟩ := src_in k (p := (p : Int)) (by omega) (by omega)
  exact ⟨(srcI s g p).toNat, by omega, by omega⟩
end TnG
end Go.Proofs.Ytdcpekkkenckeaa

/- The document's stretching and folding: what each answers. -/
namespace Go.Proofs.Ytdcpekkkenckeaa
open Go.RowKit Go.Proofs.ShM Go.Proofs.FixM

theorem Fr.tb {w : World} {A : Option Addr} {n c : Nat} {B : Option Addr} {m d : Nat} {a b : World} (h : Fr w A n c B m d a) (k : Below (w.heap.size + 2) a b) : Fr w A n c B m d b where
  kp := h.kp.trans (k.mono (by omega))
  b0 := (k.cell (p := ⟨w.heap.size, 0, none⟩) (by show w.heap.size < _; omega)).trans h.b0
  b1 := (k.cell (p := ⟨w.heap.size, 1, none⟩) (by show w.heap.size < _; omega)).trans h.b1
  r0 := (k.cell (p := ⟨w.heap.size + 1, 0, none⟩) (by show w.heap.size + 1 < _; omega)).trans h.r0
  r1 := (k.cell (p := ⟨w.heap.size + 1, 1, none⟩) (by show w.heap.size + 1 < _; omega)).trans h.r1
  f0 := (k.frozen (p := ⟨w.heap.size + 1, 0, none⟩) (by show w.heap.size + 1 < _; omega)).trans h.f0
  f1 := (k.frozen (p := ⟨w.heap.size + 1, 1, none⟩) (by show w.heap.size + 1 < _; omega)).trans h.f1
  sz := Nat.le_trans h.sz k.size

end Go.Proofs.Ytdcpekkkenckeaa

/- The places of a shape, each with the place it comes from: what the range over a function hands on. -/
namespace Go.Proofs.Ytdcpekkkenckeaa
open Go.RowKit Go.Shelf Go.Proofs.ShM Go.Proofs.FixM
attribute [local go_sem] Oper.semAt_some

theorem Kp.grown {w w' : World} (k : Kp w w') : w.grownBy w' none := ⟨k.os, k.tape, k.output, k.size, fun j hj _ => k.block j hj⟩
/-- The two shapes' boxes, and the shapes. -/
structure Qp (w : World) (Bs Bf : Nat) (C : Option Addr) (gl e : Nat) (A : Option Addr) (sl c : Nat) (W : World) : Prop where
  bs : W.cell? ⟨Bs, 0, none⟩ = some (.slice C gl e)
  bf : W.cell? ⟨Bf, 0, none⟩ = some (.slice A sl c)
  kp : Kp w W
  ls : Bs < W.heap.size
  lf : Bf < W.heap.size
theorem Qp.tb {w : World} {Bs Bf : Nat} {C : Option Addr} {gl e : Nat} {A : Option Addr} {sl c B : Nat} {W W' : World} (h : Qp w Bs Bf C gl e A sl c W) (k : Below B W W') (hs : Bs < B) (hf : Bf < B) (hw : w.heap.size ≤ B) : Qp w Bs Bf C gl e A sl c W' where
  bs := (k.cell (p := ⟨Bs, 0, none⟩) hs).trans h.bs
  bf := (k.cell (p := ⟨Bf, 0, none⟩) hf).trans h.bf
  kp := h.kp.trans (k.mono hw)
  ls := Nat.lt_of_lt_of_le h.ls k.size
  lf := Nat.lt_of_lt_of_le h.lf k.size
theorem Qp.tr {w : World} {Bs Bf : Nat} {C : Option Addr} {gl e : Nat} {A : Option Addr} {sl c : Nat} {W W' : World} (h : Qp w Bs Bf C gl e A sl c W) (k : Kp W W') : Qp w Bs Bf C gl e A sl c W' :=
  h.tb k h.ls h.lf h.kp.size
/-- A place, with the place that it comes from. -/
abbrev Pl (N : Nat) := { k : Nat // k < N }
abbrev plEnc (s g : List Int) (N : Nat) (x : Pl N) : Array Value := #[.int .i64 (x.1 : Int), .int .i64 (srcI s g x.1)]

end Go.Proofs.Ytdcpekkkenckeaa

/- A region that draws its order, in a round of a range over a function: its operations read, in the order of the text, and the last ones write. -/
namespace Go.Proofs.Ytdcpekkkenckeaa
open Go.RowKit Go.Shelf

section
variable {P : Program} {ops : Array Oper} {md : Region.Mode} {Q : Exit → Act → World → Prop}
theorem uponIn_of_upon {l n : Nat} {o : Oper} {a : Act} {next : Act → World → Prop} {r : Result Next} (h : o.upon P a next Q r) : o.uponIn (Fence.wide.inRound l) n P a next Q r := by
  cases r with
  | ok nx w' =>
    cases nx with
    | value v => exact h
    | skip => exact h
    | defer d => exact h
    | enter f args => exact ⟨fun h => (by cases h), CallsIn.inRound l (callsIn_wide.2 h)⟩
    | row row args => exact ⟨fun h => (by cases h), fun c cs _ => let ⟨v, w', r, s⟩ := h c cs; ⟨v, w', r, stepsIn_wide.2 s⟩⟩
    | _ => exact h.elim
  | halt hh w' =>
    cases hh with
    | panic v => exact h
    | _ => exact h.elim
/-- No operation is a defer statement. -/
def noDefer (ops : Array Oper) : Bool := ops.all fun o => match o.op with | .defer _ => false | _ => true
theorem noDefer_spec {ops : Array Oper} (h : noDefer ops = true) {i : Nat} {o : Oper} (ho : ops[i]? = some o) : ∀ c, o.op ≠ .defer c := by
  intro c e
  unfold noDefer at h
  rw [Array.all_eq_true] at h
  obtain ⟨hi, rfl⟩ := Array.getElem?_eq_some_iff.1 ho
  have := h i hi
  rw [e] at this
  cases this
theorem wpAnyIn_of_wpAny {l n : Nat} (hd : noDefer ops = true) (hL : ¬ LetsOut Q) : ∀ (fuel : Nat) (listed : Array Bool) (a : Act) (w : World), wpAny P md ops Q fuel listed a w → wpAnyIn (Fence.wide.inRound l) n P md ops Q fuel listed a w := by
  intro fuel
  induction fuel with
  | zero => intro listed a w h; exact h
  | succ fuel ih =>
    intro listed a w h
    refine ⟨h.1, fun i hi => ?_⟩
    have := wpOp_mono (fun a w => ih _ a w) (h.2 i hi)
    unfold wpOp at this
    unfold wpOpIn
    cases ho : ops[i]? with
    | none => rw [ho] at this; exact this
    | some o =>
      rw [ho] at this
      simp only at this ⊢
      split
      · rename_i hw
        rw [if_pos hw] at this
        rcases this with h1 | ⟨_, h2⟩
        · refine ⟨fun _ _ => trivial, ?_⟩
          have e : (Oper.semAt (Fence.wide.inRound l).round a.eval o) = execOp a.eval o := Oper.semAt_some l a.eval o (noDefer_spec hd ho)
          rw [e]
          exact uponIn_of_upon h1
        · exact absurd h2 hL
      · rename_i hw
        rw [if_neg hw] at this
        exact ⟨fun _ _ => trivial, this⟩

/-- Its operations but the last ones only read; those come in their order. -/
theorem round_tail {id l m : Nat} {a : Act} {w : World} {os : List Oper} (n : Nat) (hm : P.follows .mixedOrders = true) (hB : Region.lexTailB .any os.toArray n = true) (hd : noDefer os.toArray = true) (hL : ¬ LetsOut Q)
    (h : wpStill P os.toArray { w with drawn := w.drawn + 1 } (fun a' => wpList P os.toArray Q (os.drop n) a' { w with drawn := w.drawn + 1 }) (os.take n) a) : (Code.region id os.toArray true).wpIn (Fence.wide.inRound l) m P Q a w := by
  simp only [Region.lexTailB, Bool.and_eq_true, decide_eq_true_eq] at hB
  obtain ⟨⟨⟨⟨hsel, hn⟩, hs⟩, hc⟩, hlex⟩ := hB
  have hn' : n < os.length := by simpa using hn
  have htl : (os.take n).length = n := by simp; omega
  have hdl : (os.drop n).length = os.toArray.size - n := by simp
  have inv0 : HeadInv .any os.toArray n (Array.replicate os.toArray.size false) :=
    ⟨by simp, fun j oj _ hl => (by rw [getD_replicate_false] at hl; cases hl), fun t _ ht => getD_in (by simpa using ht) (getD_replicate_false _ _)⟩
  have H := wpAnyL_lex (md := .any) (g := os.toArray.size - n) hsel hs hc hn (os.take n) 0 _ a (fun j hj => by
    have hj' : j < n := by rw [htl] at hj; exact hj
    simp [hj']) (by simpa using htl) inv0 (by rw [htl]; exact hlex) h
  refine wpIn_region_any hm (wpAnyIn_of_wpAny hd hL _ _ _ _ ?_)
  have := wpAny_of_head (Q' := Q) (g := os.toArray.size - n) (fun listed a' hL => by
    have := wpAny_of_seq (md := .any) (Q' := Q) (os.drop n) n listed a' { w with drawn := w.drawn + 1 } (fun j => by simp [List.getElem?_drop]) (by rw [hdl]; exact hL.1) hL.2
    rwa [hdl] at this) _ _ _ H
  rw [htl, show n + (os.toArray.size - n) = os.toArray.size by omega] at this
  exact this
/-- Its operations, and what they call, only read. -/
theorem round_quiet {id l m : Nat} {a : Act} {w : World} {os : List Oper} (hm : P.follows .mixedOrders = true) (hB : Region.lexB .any os.toArray = true) (hd : noDefer os.toArray = true) (hL : ¬ LetsOut Q)
    (h : wpQuiet P os.toArray (fun w' => ∃ n, w' = w.drewN n) (fun a' => ∀ w', (∃ n, w' = w.drewN n) → Q .normal a' w') os a) : (Code.region id os.toArray true).wpIn (Fence.wide.inRound l) m P Q a w := by
  simp only [Region.lexB, Bool.and_eq_true] at hB
  refine wpIn_region_any hm (wpAnyIn_of_wpAny hd hL _ _ _ _ (wpAny_of_quiet (C := fun w' => ∃ n, w' = w.drewN n) (Q := fun a' => ∀ w', (∃ n, w' = w.drewN n) → Q .normal a' w') (fun _ w' hw' h => h w' hw') _ _ _ _ ⟨1, rfl⟩ ?_))
  have := wpAnyQ_lex (C := fun w' => ∃ n, w' = w.drewN n) (md := .any) hB.1 os 0 (Array.replicate os.toArray.size false) a (by simp) (by simpa using hB.2) h
  simpa using this
end

theorem wpIn_calm {F : Fence} {n : Nat} {P : Program} {c : Code} {K : Act → World → Prop} {Q : Exit → Act → World → Prop} {a : Act} {w : World} (h : c.wpIn F n P (Exit.then K (fun _ _ _ => False)) a w) : c.wpIn F n P (Exit.then K Q) a w :=
  wpIn_mono h fun e _ _ hq => by
    cases e with
    | normal => exact hq
    | _ => exact hq.elim
/-- The return of a function with a range over a function. -/
theorem ret_marks {F : Fence} {n : Nat} {P : Program} {fn : Func} {R : Ending → World → Prop} {tmps : Array Value} {D : Nat} {W : World} {v : Value} (hK : W.heap[D]? = some (.deferred (some [])))
    (hres : (results fn tmps).run P (W.putObj D (.deferred none)) = .ok v (W.putObj D (.deferred none))) (hR : R (.returned v) (W.putObj D (.deferred none))) :
    bodyPostM F n P fn R .ret { tmps := tmps, defers := [{ target := .collected D, args := #[] }] } W :=
  ⟨by simp, .inl ⟨_, _, rfl, run_takeDeferred hK, v, hres, hR⟩⟩

section
variable {w a : World} {A B : Option Addr} {n c m d D : Nat}
/-- The world at the return. -/
def finW (w a : World) (x y : Value) : World := (a.setCell ⟨w.heap.size + 1, 0, none⟩ x).setCell ⟨w.heap.size + 1, 1, none⟩ y
theorem fin_K (hD : a.heap[D]? = some (.deferred (some []))) (hne : w.heap.size + 1 < D) (x y : Value) : (finW w a x y).heap[D]? = some (.deferred (some [])) := by
  unfold finW
  rw [Below.heap_setCell _ _ _ D (by show D ≠ w.heap.size + 1; omega), Below.heap_setCell _ _ _ D (by show D ≠ w.heap.size + 1; omega)]
  exact hD
theorem fin_B (hD : a.heap[D]? = some (.deferred (some []))) (hne : w.heap.size + 1 < D) (x y : Value) : Below D (finW w a x y) ((finW w a x y).putObj D (.deferred none)) := by
  have hK := fin_K (w := w) hD hne x y
  exact (Below.refl D _).grown (grownBy_putObj' _ D _) (Nat.le_of_lt (Array.getElem?_eq_some_iff.1 hK).1) (fun k e => by cases e; exact Nat.le_refl _)
theorem Fr.fin_0 (h : Fr w A n c B m d a) (hD : a.heap[D]? = some (.deferred (some []))) (hne : w.heap.size + 1 < D) (x y : Value) : ((finW w a x y).putObj D (.deferred none)).cell? ⟨w.heap.size + 1, 0, none⟩ = some x := by
  rw [(fin_B hD hne x y).cell (p := ⟨w.heap.size + 1, 0, none⟩) hne]
  exact cell_ne (by simp) (World.cell?_setCell_same' _ _ _ (by rw [h.r0]; rfl))
theorem Fr.fin_1 (h : Fr w A n c B m d a) (hD : a.heap[D]? = some (.deferred (some []))) (hne : w.heap.size + 1 < D) (x y : Value) : ((finW w a x y).putObj D (.deferred none)).cell? ⟨w.heap.size + 1, 1, none⟩ = some y := by
  rw [(fin_B hD hne x y).cell (p := ⟨w.heap.size + 1, 1, none⟩) hne]
  exact World.cell?_setCell_same' _ _ _ (some_ne (by simp) (by rw [h.r1]; rfl))
theorem Fr.fin_kp (h : Fr w A n c B m d a) (hD : a.heap[D]? = some (.deferred (some []))) (hne : w.heap.size + 1 < D) (x y : Value) : Kp w ((finW w a x y).putObj D (.deferred none)) :=
  (h.end_ x y).trans ((fin_B hD hne x y).mono (by omega))
theorem Own.fin {b : Nat} {v : Value} {xs : List Int} (h : Own b a v xs) (hb : w.heap.size + 1 < b) (hD : a.heap[D]? = some (.deferred (some []))) (hne : w.heap.size + 1 < D) (x y : Value) : Own b ((finW w a x y).putObj D (.deferred none)) v xs :=
  ownsRow_putObj ((h.put_ (p := ⟨w.heap.size + 1, 0, none⟩) hb x).put_ (p := ⟨w.heap.size + 1, 1, none⟩) hb y) _ (fin_K hD hne x y) rfl
end
end Go.Proofs.Ytdcpekkkenckeaa

/- Stretching: what it answers. -/
namespace Go.Proofs.Ytdcpekkkenckeaa
open Go.RowKit Go.Shelf Go.Proofs.ShM Go.Proofs.FixM
attribute [local go_sem] Oper.semAt_some

namespace TnI
def setP (val : Nat → Int) (pre : List Nat) (zs : List Int) : List Int := pre.foldl (fun z k => z.set k (val k)) zs
theorem setP_snoc (val : Nat → Int) (pre : List Nat) (k : Nat) (zs : List Int) : setP val (pre ++ [k]) zs = (setP val pre zs).set k (val k) := by simp [setP]
theorem setP_len (val : Nat → Int) (pre : List Nat) : ∀ zs : List Int, (setP val pre zs).length = zs.length := by
  induction pre with
  | nil => intro zs; rfl
  | cons k pre ih => intro zs; show (setP val pre (zs.set k (val k))).length = _; rw [ih]; simp
theorem setP_range (val : Nat → Int) (N : Nat) : ∀ k, k ≤ N → setP val (List.range k) (List.replicate N 0) = (List.range k).map val ++ List.replicate (N - k) 0 := by
  intro k
  induction k with
  | zero => intro _; simp [setP]
  | succ k ih =>
    intro hk
    rw [List.range_succ, setP_snoc, ih (by omega), List.set_append_right _ _ (by simp)]
    obtain ⟨j, hj⟩ : ∃ j, N - k = j + 1 := ⟨N - k - 1, by omega⟩
    rw [hj, show N - (k + 1) = j by omega]
    simp [List.replicate_succ]
theorem setP_spread (s xs g : List Int) (N : Nat) : setP (fun i => xs.getD (srcI s g i).toNat 0) (List.range N) (List.replicate N 0) = spreadL s xs g N := by
  rw [setP_range _ _ _ (Nat.le_refl _)]; simp [spreadL]
end TnI

theorem below_grown {B : Nat} {W W' : World} {row : Option Nat} (hB : B ≤ W.heap.size) (hg : W.grownBy W' row) (hr : ∀ r, row = some r → B ≤ r ∧ ∃ o : Obj, W.heap[r]? = some o ∧ o.isCells = false) : Below B W W' :=
  (Below.refl B W).grown hg hB (fun k e => (hr k e).1)
theorem Own.tb {b B g n c : Nat} {W W' : World} {xs : List Int} (h : Own b W (.slice (some ⟨g, 0, none⟩) n c) xs) (k : Below B W W') (hg : g < B) : Own b W' (.slice (some ⟨g, 0, none⟩) n c) xs :=
  h.of_block fun j hj => by
    injection hj with hj
    subst hj
    exact k.block g hg
theorem Qp.put {w : World} {Bs Bf : Nat} {C : Option Addr} {gl e : Nat} {A : Option Addr} {sl c : Nat} {W : World} (h : Qp w Bs Bf C gl e A sl c W) {p : Addr} (h1 : p.block ≠ Bs) (h2 : p.block ≠ Bf) (h3 : w.heap.size ≤ p.block) (u : Value) : Qp w Bs Bf C gl e A sl c (W.setCell p u) where
  bs := cell_ne (fun e => h1 (congrArg Addr.block e)) h.bs
  bf := cell_ne (fun e => h2 (congrArg Addr.block e)) h.bf
  kp := h.kp.setCell h3 u
  ls := by rw [World.size_setCell]; exact h.ls
  lf := by rw [World.size_setCell]; exact h.lf

end Go.Proofs.Ytdcpekkkenckeaa

/- Folding: what it answers. -/
namespace Go.Proofs.Ytdcpekkkenckeaa
open Go.RowKit Go.Shelf Go.Proofs.ShM Go.Proofs.FixM
attribute [local go_sem] Oper.semAt_some

namespace TnJ
def stepP (f : Nat → Nat) (d : List Int) (k : Nat) (zs : List Int) : Option (List Int) :=
  if (addV (zs.getD (f k) 0) (d.getD k 0)).2 = 0 then some (zs.set (f k) (addV (zs.getD (f k) 0) (d.getD k 0)).1) else none
/-- Each of these, added at its place. -/
def foldP (f : Nat → Nat) (d : List Int) : List Nat → List Int → Option (List Int)
  | [], zs => some zs
  | k :: ks, zs => (stepP f d k zs).bind (foldP f d ks)
theorem foldP_append (f : Nat → Nat) (d : List Int) (b : List Nat) : ∀ (a : List Nat) (zs : List Int), foldP f d (a ++ b) zs = (foldP f d a zs).bind (foldP f d b) := by
  intro a
  induction a with
  | nil => intro zs; rfl
  | cons k ks ih =>
    intro zs
    simp only [List.cons_append, foldP]
    cases stepP f d k zs with
    | none => rfl
    | some z => exact ih z
theorem foldP_snoc {f : Nat → Nat} {d : List Int} {pre : List Nat} {k : Nat} {zs ys : List Int} (h : foldP f d pre zs = some ys) : foldP f d (pre ++ [k]) zs = stepP f d k ys := by
  rw [foldP_append, h]
  show (stepP f d k ys).bind (foldP f d []) = _
  cases stepP f d k ys <;> rfl
theorem step_inv {f : Nat → Nat} {d : List Int} {k : Nat} {zs ys : List Int} (h : stepP f d k zs = some ys) (hz : I64s zs) : I64s ys ∧ ys.length = zs.length := by
  unfold stepP at h
  split at h
  · injection h with h
    subst h
    exact ⟨hz.set_ _ add_in, by simp⟩
  · cases h
theorem foldP_inv {f : Nat → Nat} {d : List Int} : ∀ {pre : List Nat} {zs ys : List Int}, foldP f d pre zs = some ys → I64s zs → I64s ys ∧ ys.length = zs.length := by
  intro pre
  induction pre with
  | nil => intro zs ys h hz; injection h with h; subst h; exact ⟨hz, rfl⟩
  | cons k ks ih =>
    intro zs ys h hz
    simp only [foldP, Option.bind_eq_some_iff] at h
    obtain ⟨z, h1, h2⟩ := h
    obtain ⟨a, b⟩ := step_inv h1 hz
    obtain ⟨a', b'⟩ := ih h2 a
    exact ⟨a', b'.trans b⟩
theorem fold_form (f : Nat → Nat) (d : List Int) : ∀ (zs : List Int) (k : Nat), (foldG f zs k d).2 = 0 ∨ foldG f zs k d = ([], 10) := by
  induction d with
  | nil => intro zs k; exact .inl rfl
  | cons x d ih =>
    intro zs k
    simp only [foldG]
    split
    · exact ih _ _
    · rename_i hne
      rcases TnG.add_two (zs.getD (f k) 0) x with ⟨v, hv⟩ | hv
      · rw [hv] at hne; exact absurd rfl hne
      · rw [hv]; exact .inr rfl
theorem foldP_range' (f : Nat → Nat) (d : List Int) : ∀ (e : List Int) (k : Nat) (zs : List Int), d.drop k = e → foldP f d (List.range' k e.length) zs = if (foldG f zs k e).2 = 0 then some (foldG f zs k e).1 else none := by
  intro e
  induction e with
  | nil => intro k zs _; rfl
  | cons x e ih =>
    intro k zs h
    have hx : d[k]? = some x := by have := congrArg (·[0]?) h; simpa using this
    have he : d.drop (k + 1) = e := by rw [← List.drop_drop, h]; rfl
    rw [List.length_cons, List.range'_succ]
    simp only [foldP, stepP, foldG, List.getD_eq_getElem?_getD, hx, Option.getD_some]
    split
    · exact ih (k + 1) _ he
    · rename_i hne
      rfl
theorem foldP_all (f : Nat → Nat) (d zs : List Int) : foldP f d (List.range d.length) zs = if (foldG f zs 0 d).2 = 0 then some (foldG f zs 0 d).1 else none := by
  rw [List.range_eq_range']; exact foldP_range' f d d 0 zs rfl
theorem fold_done {f : Nat → Nat} {d zs ys : List Int} (h : foldP f d (List.range d.length) zs = some ys) : foldG f zs 0 d = (ys, 0) := by
  rw [foldP_all] at h
  split at h
  · rename_i h0
    injection h with h
    exact Prod.ext h h0
  · cases h
theorem fold_over {f : Nat → Nat} {d zs : List Int} {k : Nat} (hk : k ≤ d.length) (h : foldP f d (List.range k) zs = none) : foldG f zs 0 d = ([], 10) := by
  have e : List.range d.length = List.range k ++ (List.range d.length).drop k := by
    have := List.take_append_drop k (List.range d.length)
    rw [List.take_range, show min k d.length = k by omega] at this
    exact this.symm
  have h2 : foldP f d (List.range d.length) zs = none := by rw [e, foldP_append, h]; rfl
  rw [foldP_all] at h2
  rcases fold_form f d zs 0 with h0 | h0
  · rw [if_pos h0] at h2; cases h2
  · exact h0
theorem step_yes {f : Nat → Nat} {d zs : List Int} {k m : Nat} {x y v : Int} (hf : f k = m) (hx : d[k]? = some x) (hy : zs[m]? = some y) (hv : addV y x = (v, 0)) : stepP f d k zs = some (zs.set m v) := by
  unfold stepP
  rw [hf, List.getD_eq_getElem?_getD, List.getD_eq_getElem?_getD, hx, hy]
  simp [hv]
theorem step_no {f : Nat → Nat} {d zs : List Int} {k m : Nat} {x y : Int} (hf : f k = m) (hx : d[k]? = some x) (hy : zs[m]? = some y) (hv : addV y x = (0, 10)) : stepP f d k zs = none := by
  unfold stepP
  rw [hf, List.getD_eq_getElem?_getD, List.getD_eq_getElem?_getD, hx, hy]
  simp [hv]
end TnJ

theorem keeps_drewN (W : World) (n : Nat) : KeepsOthers W (W.drewN n) := ⟨Nat.le_refl _, fun _ _ h _ => h⟩
/-- The tensor handed in, its answer's block, and the error's. -/
structure Fe (w : World) (A : Option Addr) (n c : Nat) (B : Option Addr) (m d : Nat) (er : Int) (w' : World) : Prop where
  fr : Fr w A n c B m d w'
  e0 : w'.cell? ⟨w.heap.size + 1 + 1, 0, none⟩ = some (.int .i64 er)
  ef : w'.frozen? ⟨w.heap.size + 1 + 1, 0, none⟩ = false
  sz : w.heap.size + 3 ≤ w'.heap.size
section
variable {w a b : World} {A B : Option Addr} {n c m d : Nat} {er : Int}
theorem Fe.tb (h : Fe w A n c B m d er a) (k : Below (w.heap.size + 3) a b) : Fe w A n c B m d er b where
  fr := h.fr.tb (k.mono (by omega))
  e0 := (k.cell (p := ⟨w.heap.size + 1 + 1, 0, none⟩) (by show w.heap.size + 1 + 1 < _; omega)).trans h.e0
  ef := (k.frozen (p := ⟨w.heap.size + 1 + 1, 0, none⟩) (by show w.heap.size + 1 + 1 < _; omega)).trans h.ef
  sz := Nat.le_trans h.sz k.size
theorem Fe.tr (h : Fe w A n c B m d er a) (k : Kp a b) : Fe w A n c B m d er b := h.tb (k.mono h.sz)
theorem Fe.mk_ (w : World) (A : Option Addr) (n c : Nat) (B : Option Addr) (m d : Nat) (t u : TypeId) : Fe w A n c B m d 0 (((w.alloc (.cells #[.slice A n c, .slice B m d] t)).alloc (.cells #[.slice none 0 0, .slice none 0 0] t)).alloc (.cells #[.int .i64 0] u)) where
  fr := (Fr.mk_ w A n c B m d t).tr (Kp.alloc_ _ _)
  e0 := by simp [go_sem]
  ef := by simp [go_sem]
  sz := by simp
end

section
variable {w a : World} {A B : Option Addr} {n c m d D : Nat} {er : Int}
/-- The world at the return. -/
def finE (w a : World) (x y z : Value) : World := (finW w a x y).setCell ⟨w.heap.size + 1 + 1, 0, none⟩ z
theorem finE_K (hD : a.heap[D]? = some (.deferred (some []))) (hne : w.heap.size + 2 < D) (x y z : Value) : (finE w a x y z).heap[D]? = some (.deferred (some [])) := by
  unfold finE
  rw [Below.heap_setCell _ _ _ D (by show D ≠ w.heap.size + 1 + 1; omega)]
  exact fin_K hD (by omega) x y
theorem put_B {W : World} (hK : W.heap[D]? = some (.deferred (some []))) : Below D W (W.putObj D (.deferred none)) :=
  (Below.refl D _).grown (grownBy_putObj' _ D _) (Nat.le_of_lt (Array.getElem?_eq_some_iff.1 hK).1) (fun k e => by cases e; exact Nat.le_refl _)
theorem Fe.finE_fe (h : Fe w A n c B m d er a) (x y : Value) (z : Int) : (finE w a x y (.int .i64 z)).cell? ⟨w.heap.size + 1, 0, none⟩ = some x ∧ (finE w a x y (.int .i64 z)).cell? ⟨w.heap.size + 1, 1, none⟩ = some y ∧ (finE w a x y (.int .i64 z)).cell? ⟨w.heap.size + 1 + 1, 0, none⟩ = some (.int .i64 z) := by
  unfold finE finW
  refine ⟨cell_ne (by simp) (cell_ne (by simp) (World.cell?_setCell_same' _ _ _ (by rw [h.fr.r0]; rfl))), cell_ne (by simp) (World.cell?_setCell_same' _ _ _ (some_ne (by simp) (by rw [h.fr.r1]; rfl))), ?_⟩
  exact World.cell?_setCell_same' _ _ _ (some_ne (by simp) (some_ne (by simp) (by rw [h.e0]; rfl)))
theorem Fe.finE_kp (h : Fe w A n c B m d er a) (x y z : Value) : Kp w (finE w a x y z) := (h.fr.end_ x y).setCell (p := ⟨w.heap.size + 1 + 1, 0, none⟩) (by show w.heap.size ≤ w.heap.size + 1 + 1; omega) z
theorem Fe.to_err (h : Fe w A n c B m d er a) (z : Int) : Fe w A n c B m d z (finE w a (.slice none 0 0) (.slice none 0 0) (.int .i64 z)) := by
  obtain ⟨q0, q1, q2⟩ := h.finE_fe (.slice none 0 0) (.slice none 0 0) z
  have hs : (finE w a (.slice none 0 0) (.slice none 0 0) (.int .i64 z)).heap.size = a.heap.size := by unfold finE finW; rw [World.size_setCell, World.size_setCell, World.size_setCell]
  refine ⟨⟨h.finE_kp _ _ _, ?_, ?_, q0, q1, ?_, ?_, by rw [hs]; exact h.fr.sz⟩, q2, ?_, by rw [hs]; exact h.sz⟩
  · unfold finE finW; exact cell_ne (by simp) (cell_ne (by simp) (cell_ne (by simp) h.fr.b0))
  · unfold finE finW; exact cell_ne (by simp) (cell_ne (by simp) (cell_ne (by simp) h.fr.b1))
  · unfold finE finW; rw [World.frozen?_setCell, World.frozen?_setCell, World.frozen?_setCell]; exact h.fr.f0
  · unfold finE finW; rw [World.frozen?_setCell, World.frozen?_setCell, World.frozen?_setCell]; exact h.fr.f1
  · unfold finE finW; rw [World.frozen?_setCell, World.frozen?_setCell, World.frozen?_setCell]; exact h.ef
theorem Own.finE {b : Nat} {v : Value} {xs : List Int} (h : Own b a v xs) (hb : w.heap.size + 2 < b) (hD : a.heap[D]? = some (.deferred (some []))) (hne : w.heap.size + 2 < D) (x y z : Value) : Own b ((finE w a x y z).putObj D (.deferred none)) v xs :=
  ownsRow_putObj (((h.put_ (p := ⟨w.heap.size + 1, 0, none⟩) (by show w.heap.size + 1 < b; omega) x).put_ (p := ⟨w.heap.size + 1, 1, none⟩) (by show w.heap.size + 1 < b; omega) y).put_ (p := ⟨w.heap.size + 1 + 1, 0, none⟩) hb z) _ (finE_K hD hne x y z) rfl
end

end Go.Proofs.Ytdcpekkkenckeaa

/- The calls of layer 3 at any lengths, the answers written out; those whose answers the document fixes are as it says (awake). -/
namespace Go.Proofs.Ytdcpekkkenckeaa
open Go.RowKit Go.Proofs.ShM

/-- A tensor that is there. -/
structure TR (w : World) (A : Option Addr) (l : List Int) (B : Option Addr) (m : List Int) : Prop where
  s : Rd w A l
  d : Rd w B m
theorem TR.kp {w w' : World} {A B : Option Addr} {l m : List Int} (h : TR w A l B m) (k : Kp w w') : TR w' A l B m := ⟨h.s.kp k, h.d.kp k⟩
theorem TR.alloc_ {w : World} {A B : Option Addr} {l m : List Int} (h : TR w A l B m) (o : Obj) : TR (w.alloc o) A l B m := h.kp (Kp.alloc_ w o)
/-- The answer is the tensor, so many sides and numbers, and the error. -/
def RetU (l m : List Int) (a b : Nat) (err : Int) (w : World) (e : Ending) (w' : World) : Prop :=
  ∃ A c B d, e = .returned (.tuple #[.agg #[.slice A a c, .slice B b d], .int .i64 err]) ∧ TR w' A l B m ∧ Kp w w'
theorem RetT.u {r : Tn} {l m : List Int} {a b : Nat} {err : Int} {w : World} {e : Ending} {w' : World} (h : RetT r w e w') (hr : r = (l, m, err)) (ha : l.length = a) (hb : m.length = b) : RetU l m a b err w e w' := by
  subst hr ha hb
  obtain ⟨A, c, B, d, h1, h2, h3, h4⟩ := h
  exact ⟨A, c, B, d, h1, ⟨h2.rd, h3.rd⟩, h4⟩

section
variable {A B C : Option Addr} {c d e n m o a b : Nat} {l k : List Int} {err : Int} {w : World}
theorem tcheck_u (s xs : List Int) (h : TR w A s B xs) (hn : n = s.length) (hm : m = xs.length) {r : Bool} (hr : tokV s xs = r) :
    Calls Try.prog 35 #[.agg #[.slice A n c, .slice B m d]] w fun e w' => e = .returned (.bool r) ∧ Kp w w' := by
  subst hn hm hr
  exact tcheck_any A B c d s xs w h.s h.d
end
theorem Rd.three_ {w : World} {x y z : Int} {t : TypeId} {g : Nat} (hg : g = w.heap.size) : Rd (w.alloc (.cells #[.int .i64 x, .int .i64 y, .int .i64 z] t)) (some ⟨g, 0, none⟩) [x, y, z] := Rd.litg w [x, y, z] (by simp) t g hg

/-- A tensor's box. -/
structure Bx (W : World) (b : Nat) (A : Option Addr) (n c : Nat) (B : Option Addr) (m d : Nat) : Prop where
  c0 : W.cell? ⟨b, 0, none⟩ = some (.slice A n c)
  c1 : W.cell? ⟨b, 1, none⟩ = some (.slice B m d)
  lt : b < W.heap.size
theorem Bx.kp {W W' : World} {b n c m d : Nat} {A B : Option Addr} (h : Bx W b A n c B m d) (k : Kp W W') : Bx W' b A n c B m d :=
  ⟨(k.cell (p := ⟨b, 0, none⟩) h.lt).trans h.c0, (k.cell (p := ⟨b, 1, none⟩) h.lt).trans h.c1, Nat.lt_of_lt_of_le h.lt k.size⟩
theorem Bx.alloc_ {W : World} {b n c m d : Nat} {A B : Option Addr} (h : Bx W b A n c B m d) (o : Obj) : Bx (W.alloc o) b A n c B m d := h.kp (Kp.alloc_ W o)
theorem Bx.new {W : World} {b n c m d : Nat} {A B : Option Addr} {t : TypeId} (h : b = W.heap.size) : Bx (W.alloc (.cells #[.slice A n c, .slice B m d] t)) b A n c B m d := by
  subst h; exact ⟨by simp, by simp, by simp⟩

end Go.Proofs.Ytdcpekkkenckeaa

/- A tensor's block, known whole; two tensors that are the same; at most a hundred of each. -/
namespace Go.Proofs.Ytdcpekkkenckeaa
open Go.RowKit Go.Proofs.ShM

/-- A tensor's block, known whole. -/
def Bk (W : World) (b : Nat) (A : Option Addr) (n c : Nat) (B : Option Addr) (m d : Nat) : Prop := W.heap[b]? = some (.cells #[.slice A n c, .slice B m d] 25 (0, 0))
section
variable {W W' : World} {b b' n c m d n' c' m' d' : Nat} {A B C D : Option Addr}
theorem Bk.lt (h : Bk W b A n c B m d) : b < W.heap.size := (Array.getElem?_eq_some_iff.1 h).1
theorem Bk.c0 (h : Bk W b A n c B m d) : W.cell? ⟨b, 0, none⟩ = some (.slice A n c) := by simp [World.cell?, show W.heap[b]? = _ from h]
theorem Bk.c1 (h : Bk W b A n c B m d) : W.cell? ⟨b, 1, none⟩ = some (.slice B m d) := by simp [World.cell?, show W.heap[b]? = _ from h]
theorem Bk.f0 (h : Bk W b A n c B m d) (i : Nat) : W.frozen? ⟨b, i, none⟩ = false := by simp [World.frozen?, show W.heap[b]? = _ from h]
theorem Bk.kp (h : Bk W b A n c B m d) (k : Kp W W') : Bk W' b A n c B m d := (k.block b h.lt).trans h
theorem Bk.alloc_ (h : Bk W b A n c B m d) (o : Obj) : Bk (W.alloc o) b A n c B m d := h.kp (Kp.alloc_ W o)
theorem Bk.new (h : b = W.heap.size) : Bk (W.alloc (.cells #[.slice A n c, .slice B m d] 25)) b A n c B m d := by
  subst h
  show (W.heap.push _)[W.heap.size]? = some _
  simp
theorem Bk.other (h : Bk W b A n c B m d) (hne : b ≠ b') (x y : Value) : Bk ((W.setCell ⟨b', 0, none⟩ x).setCell ⟨b', 1, none⟩ y) b A n c B m d := by
  unfold Bk
  rw [Below.heap_setCell _ _ _ b hne, Below.heap_setCell _ _ _ b hne]; exact h
theorem heap_set {cs : Array Value} {t : TypeId} (h : W.heap[b]? = some (.cells cs t (0, 0))) (i : Nat) (x : Value) : (W.setCell ⟨b, i, none⟩ x).heap[b]? = some (.cells (cs.setIfInBounds i x) t (0, 0)) := by
  obtain ⟨hlt, hk⟩ := Array.getElem?_eq_some_iff.1 h
  show (W.heap.modify b _)[b]? = _
  rw [Array.getElem?_eq_getElem (by rw [Array.size_modify]; exact hlt), Array.getElem_modify_self, hk]
  rfl
theorem Bk.put (h : Bk W b A n c B m d) : Bk ((W.setCell ⟨b, 0, none⟩ (.slice C n' c')).setCell ⟨b, 1, none⟩ (.slice D m' d')) b C n' c' D m' d' :=
  heap_set (heap_set h 0 _) 1 _
theorem Rd.past {A0 : Option Addr} {xs : List Int} (r : Rd W A0 xs) (h : Bk W b A n c B m d) (x y : Value) : Rd ((W.setCell ⟨b, 0, none⟩ x).setCell ⟨b, 1, none⟩ y) A0 xs := by
  cases xs with
  | nil => exact Rd.nil _ _
  | cons z zs =>
    have hne : ∀ ad, A0 = some ad → ad.block ≠ b := by
      rintro ad rfl e
      obtain ⟨ad', e', hb, hc⟩ := r.2 (by simp)
      injection e' with e'
      subst e'
      have h0 := hc 0 z rfl
      have e1 : ad.add 0 = ad := by unfold Addr.add; simp
      rw [e1] at h0
      unfold World.cell? at h0
      rw [e, show W.heap[b]? = _ from h] at h0
      obtain ⟨_, off, spot⟩ := ad
      match off, h0 with
      | 0, h0 => cases spot <;> simp at h0
      | 1, h0 => cases spot <;> simp at h0
      | k + 2, h0 => cases spot <;> simp at h0
    exact (r.put_ hne x).put_ hne y
theorem Sl.past {A0 : Option Addr} {c0 : Nat} {xs : List Int} (r : Sl W A0 c0 xs) (h : Bk W b A n c B m d) (x y : Value) : Sl ((W.setCell ⟨b, 0, none⟩ x).setCell ⟨b, 1, none⟩ y) A0 c0 xs := ⟨r.rd.past h x y, r.le, r.cap⟩
theorem TR.past {A0 B0 : Option Addr} {l k : List Int} (r : TR W A0 l B0 k) (h : Bk W b A n c B m d) (x y : Value) : TR ((W.setCell ⟨b, 0, none⟩ x).setCell ⟨b, 1, none⟩ y) A0 l B0 k := ⟨r.s.past h x y, r.d.past h x y⟩
end
theorem TR.nil_ {w : World} {A B : Option Addr} : TR w A [] B [] := ⟨Rd.nil _ _, Rd.nil _ _⟩

theorem tsame_u {W : World} {A B C D : Option Addr} {l k : List Int} {a b c d g h : Nat} (r : TR W A l B k) (q : TR W C l D k) (ha : l.length = a) (hb : k.length = b) :
    Calls Try.prog 15 #[.agg #[.slice A a c, .slice B b d], .agg #[.slice C a g, .slice D b h]] W fun e w' => e = .returned (.bool true) ∧ Kp W w' := by
  subst ha hb
  have hh := tsame_any A B C D c d g h l k l k W r.s r.d q.s q.d
  simpa using hh
theorem few_yes {A B : Option Addr} {c d n m : Nat} {W : World} (hn : n ≤ 100) (hm : m ≤ 100) : Calls Try.prog 10 #[.agg #[.slice A n c, .slice B m d]] W fun e w' => e = .returned (.bool true) ∧ Kp W w' := by
  have hh := few_any A B c d n m W (by omega) (by omega)
  rw [show fewV n m = true by unfold fewV; simp [hn, hm]] at hh
  exact hh
theorem few_no {A B : Option Addr} {c d n m : Nat} {W : World} (hn : n ≤ 9223372036854775807) (hm : m ≤ 9223372036854775807) (h : 100 < n ∨ 100 < m) : Calls Try.prog 10 #[.agg #[.slice A n c, .slice B m d]] W fun e w' => e = .returned (.bool false) ∧ Kp W w' := by
  have hh := few_any A B c d n m W hn hm
  rw [show fewV n m = false by unfold fewV; rcases h with h | h <;> simp <;> omega] at hh
  exact hh

end Go.Proofs.Ytdcpekkkenckeaa

/- From a law's walk to its row: an argument []int opened, all arguments read as they did. -/
namespace Go.Proofs.Ytdcpekkkenckeaa
open Go.ChangeShapes Go.WideShapes Go.ChangeAt Go.RowKit Go.Proofs.ShM

theorem laid_out : laidOutB Try.prog = true := by kernel_rfl
theorem int_cells : Try.prog.cellsOf 3 = 1 := by kernel_rfl

section
variable {H : Type} {enc : TypeId × Value → H}
theorem lt_of_cell {w : World} {a : Addr} {v : Value} (h : w.cell? a = some v) : a.block < w.heap.size := by
  rcases Nat.lt_or_ge a.block w.heap.size with hl | hl
  · exact hl
  · simp [World.cell?, Array.getElem?_eq_none hl] at h

/-- An argument []int is there, as a list of numbers. -/
theorem rd_of {W : World} {a : Option Addr} {n c : Nat} {d : DataW H} {p : List MemPlace} (h : DataW.Trod enc Try.prog W 0 (fun _ => true) true 23 (.slice a n c) d p) :
    ∃ xs : List Int, n = xs.length ∧ Rd W a xs ∧ xs.length ≤ c ∧ c ≤ 9223372036854775807 := by
  obtain ⟨fuel, hf⟩ := h
  rcases open_ints Try.underlying23 Try.underlying3 int_cells hf with ⟨hcs, _⟩ | ⟨a', len, cap, zs, hcs, _, hl, hm, hz, _, hcell, _⟩
  · simp [Value.cells] at hcs
    obtain ⟨rfl, rfl, rfl⟩ := hcs
    exact ⟨[], rfl, Rd.nil _ _, by simp, by omega⟩
  · simp [Value.cells] at hcs
    obtain ⟨rfl, rfl, rfl⟩ := hcs
    simp only [if_true] at hz
    have ln : (zs.take n).length = n := by simp; omega
    have hm' : c ≤ 9223372036854775807 := by unfold maxLen at hm; omega
    refine ⟨zs.take n, ln.symm, ⟨by omega, fun hp => ⟨a', rfl, ?_, fun j u hj => ?_⟩⟩, by omega, hm'⟩
    · have := lt_of_cell (hcell 0 (by omega))
      rwa [block_of_add] at this
    · have hj' : j < n := by have := (List.getElem?_eq_some_iff.1 hj).1; omega
      rw [hcell j (by omega)]
      rw [List.getElem?_take, if_pos hj'] at hj
      simp [List.getD, hj]

/-- All arguments read as they did, through the same places. -/
theorem all_stays {W W' : World} (hb : Below W.heap.size W W') : ∀ (ts : List TypeId) (vs : List Value) (ds : List (DataW H)) (ps : List MemPlace), (ts.all fun t => Try.prog.readableRec t && decide (t < Try.prog.types.size)) = true →
    DataW.TrodAll enc Try.prog W 0 (fun _ => true) true ts vs ds ps → (∀ x ∈ ps, x.block < W.heap.size) → DataW.TrodAll enc Try.prog W' 0 (fun b => decide (b < W.heap.size)) true ts vs ds ps := by
  intro ts
  induction ts with
  | nil =>
    intro vs ds ps _ h _
    obtain ⟨rfl, rfl, rfl⟩ := trodAll_nil h
    exact trodAll_mk0
  | cons t ts ih =>
    intro vs ds ps hr h hlt
    obtain ⟨v, vs', d, ds', p, q, rfl, rfl, rfl, h1, h2⟩ := trodAll_cons h
    simp only [List.all_cons, Bool.and_eq_true, decide_eq_true_eq] at hr
    exact trodAll_cons_mk (Below.trod laid_out hr.1.1 hr.1.2 h1 hb fun x hx => hlt x (by simp [hx])) (ih _ _ _ hr.2 h2 fun x hx => hlt x (by simp [hx]))
end
end Go.Proofs.Ytdcpekkkenckeaa

/- From a law's walk to its row: a tensor opened. -/
namespace Go.Proofs.Ytdcpekkkenckeaa
open Go.ChangeShapes Go.WideShapes Go.ChangeAt Go.RowKit Go.Proofs.ShM

section
variable {H : Type} {enc : TypeId × Value → H}
theorem i64_of {n : Int} (h : (Lit.int .i64 n).wf = true) : -9223372036854775808 ≤ n ∧ n ≤ 9223372036854775807 := by
  simp [Lit.wf, IntKind.min, IntKind.max, IntKind.signed, IntKind.bits] at h
  omega
/-- A field []int is there, as a list of numbers. -/
theorem rd_cells {W : World} {v : Value} {n : Nat} {y : DataW H × List MemPlace} (h : DataW.trod enc Try.prog W 0 (fun _ => true) true n 23 [v] = some y) :
    ∃ A m c, v = .slice A m c ∧ ∃ xs : List Int, m = xs.length ∧ Rd W A xs ∧ I64s xs := by
  rcases open_ints Try.underlying23 Try.underlying3 int_cells h with ⟨hcs, _⟩ | ⟨a', len, cap, zs, hcs, _, hl, hm, hz, _, hcell, hwf⟩
  · injection hcs with hcs _
    exact ⟨none, 0, 0, hcs, [], rfl, Rd.nil _ _, I64s.nil_⟩
  · injection hcs with hcs _
    simp only [if_true] at hz
    have ln : (zs.take len).length = len := by simp; omega
    refine ⟨some a', len, cap, hcs, zs.take len, ln.symm, ⟨by unfold maxLen at hm; omega, fun hp => ⟨a', rfl, ?_, fun j u hj => ?_⟩⟩, fun x hx => i64_of (hwf x (List.mem_of_mem_take hx))⟩
    · have := lt_of_cell (hcell 0 (by omega))
      rwa [block_of_add] at this
    · have hj' : j < len := by have := (List.getElem?_eq_some_iff.1 hj).1; omega
      rw [hcell j (by omega)]
      rw [List.getElem?_take, if_pos hj'] at hj
      simp [List.getD, hj]
/-- An argument tensor is there. -/
theorem tn_of {W : World} {r : Reach} {b : Nat} {v : Value} {d : DataW H} {p : List MemPlace} (hv : Value.okWide Try.prog W r b 25 v) (h : DataW.Trod enc Try.prog W 0 (fun _ => true) true 25 v d p) :
    ∃ A n c B m e, v = .agg #[.slice A n c, .slice B m e] ∧ ∃ s xs : List Int, n = s.length ∧ m = xs.length ∧ TR W A s B xs ∧ I64s xs := by
  obtain ⟨v0, v1, y0, y1, n, rfl, _, _, h0, h1⟩ := Go.Joins.open_agg2 Try.underlying25 (by kernel_rfl) (by kernel_rfl) hv h
  obtain ⟨A, n0, c, rfl, s, e1, r1, _⟩ := rd_cells h0
  obtain ⟨B, m0, e, rfl, xs, e2, r2, i2⟩ := rd_cells h1
  exact ⟨A, n0, c, B, m0, e, rfl, s, xs, e1, e2, ⟨r1, r2⟩, i2⟩
end
end Go.Proofs.Ytdcpekkkenckeaa
