/- Plain arithmetic under layer 3 (tensor): what the document says each call answers, and what follows of it. No program stands here. -/
import Derived.Test.YtdekchfapblgeaaShLawM
import Derived.Test.YtdekchfapblgeaaFixMath
namespace Go.Proofs.ShM
open Go.Proofs.FixM (addV put_in put_out put_cases)

/-! ### What is answered -/
/-- An index, each number 0 where the side is 1. -/
def maskL : List Int → List Int → List Int
  | x :: s, i :: t => (if x = 1 then 0 else i) :: maskL s t
  | _, _ => []
/-- The place, in s, that a place of g comes from. -/
def srcI (s g : List Int) (p : Int) : Int := plc s (maskL s ((digs g p).drop (g.length - s.length)))
def tokV (s d : List Int) : Bool := okS s && decide ((d.length : Int) = sizeV s)
/-- Shape, numbers, error. -/
abbrev Tn := List Int × List Int × Int
def fullV (s : List Int) (n : Int) : Tn := if okS s = true then (s, List.replicate (sizeV s).toNat n, 0) else ([], [], 20)
def pinV (s d t : List Int) : Int × Int := if tokV s d = true then placeV s t else (0, 30)
def atV (s d t : List Int) : Int × Int := if (pinV s d t).2 = 0 then (d.getD (pinV s d t).1.toNat 0, 0) else (0, (pinV s d t).2)
def withV (s d t : List Int) (n : Int) : Tn := if (pinV s d t).2 = 0 then (s, d.set (pinV s d t).1.toNat n, 0) else ([], [], (pinV s d t).2)
/-- What is stretched: so many of it. -/
def spreadL (s d g : List Int) (k : Nat) : List Int := (List.range k).map fun i : Nat => d.getD (srcI s g i).toNat 0
def spreadV (s d g : List Int) : Tn :=
  if tokV s d = true then (if fitsV s g = true then (g, spreadL s d g (sizeV g).toNat, 0) else ([], [], 20)) else ([], [], 30)
/-- Added, each at its place, from the k-th on. -/
def foldG (f : Nat → Nat) : List Int → Nat → List Int → List Int × Int
  | zs, _, [] => (zs, 0)
  | zs, k, x :: d => if (addV (zs.getD (f k) 0) x).2 = 0 then foldG f (zs.set (f k) (addV (zs.getD (f k) 0) x).1) (k + 1) d else ([], (addV (zs.getD (f k) 0) x).2)
def foldL (s g d : List Int) : List Int × Int := foldG (fun i => (srcI s g i).toNat) (List.replicate (sizeV s).toNat 0) 0 d
def foldV (g d s : List Int) : Tn :=
  if tokV g d = true then (if fitsV s g = true then (if (foldL s g d).2 = 0 then (s, (foldL s g d).1, 0) else ([], [], (foldL s g d).2)) else ([], [], 20)) else ([], [], 30)

/-! ### Shapes side by side -/
/-- Each side is 1 or the other's. -/
def AL : List Int → List Int → Prop
  | x :: s, y :: g => (x = 1 ∨ x = y) ∧ AL s g
  | [], [] => True
  | _, _ => False
def srcP : List Int → List Int → Int → Int
  | x :: s, _ :: g, p => (if x = 1 then 0 else p / prodS g) * prodS s + srcP s g (p % prodS g)
  | _, _, _ => 0
theorem al_len {s : List Int} : ∀ {g : List Int}, AL s g → s.length = g.length := by
  induction s with
  | nil => intro g h; cases g with
    | nil => rfl
    | cons _ _ => exact h.elim
  | cons x s ih => intro g h; cases g with
    | nil => exact h.elim
    | cons y g => simp [ih h.2]
theorem jn_al {x y : Int} (h : jn x y = some y) : x = 1 ∨ x = y := by
  unfold jn at h
  split at h
  · injection h with h; exact .inr h
  · split at h
    · exact .inl (by assumption)
    · cases h
theorem joinL_al {s : List Int} : ∀ {g : List Int}, s.length = g.length → joinL s g = some g → AL s g := by
  induction s with
  | nil => intro g h _; cases g with
    | nil => trivial
    | cons _ _ => simp at h
  | cons x s ih =>
    intro g h hj
    cases g with
    | nil => simp at h
    | cons y g =>
      simp only [joinL, Option.bind_eq_some_iff, Option.map_eq_some_iff] at hj
      obtain ⟨z, hz, l, hl, e⟩ := hj
      injection e with e1 e2
      subst e1 e2
      exact ⟨jn_al hz, ih (by simpa using h) hl⟩
theorem pad_self {n : Nat} {s : List Int} (h : n ≤ s.length) : pad n s = s := by unfold pad; rw [show n - s.length = 0 by omega]; rfl
theorem pad_prod (n : Nat) (s : List Int) : prodS (pad n s) = prodS s := by
  unfold pad
  generalize n - s.length = k
  induction k with
  | zero => rfl
  | succ k ih => rw [List.replicate_succ, List.cons_append]; simp [prodS, ih]
/-- What fitting is. -/
theorem fits_al {s g : List Int} (h : fitsV s g = true) : okS s = true ∧ okS g = true ∧ s.length ≤ g.length ∧ AL (pad g.length s) g := by
  have j := fits_iff.1 h
  have hl := j.sizes.2
  refine ⟨j.1, j.2.1, hl, ?_⟩
  have e : joinV s g = (g, 0) := join_iff.2 j
  unfold joinV at e
  rw [if_pos (by simp [j.1, j.2.1])] at e
  cases hj : joinO s g with
  | none => rw [hj] at e; simp at e
  | some l =>
    rw [hj] at e
    simp only at e
    split at e
    · injection e with e1 _
      subst e1
      unfold joinO at hj
      rw [show max s.length l.length = l.length by omega, pad_self (s := l) (Nat.le_refl _)] at hj
      exact joinL_al (padl hl) hj
    · simp at e
/-- The place by sides laid beside each other. -/
theorem srcP_eq (s : List Int) : ∀ (g : List Int) (p : Int), s.length = g.length → srcP s g p = plc s (maskL s (digs g p)) := by
  induction s with
  | nil => intro g p h; cases g <;> simp [srcP, plc]
  | cons x s ih =>
    intro g p h
    cases g with
    | nil => simp at h
    | cons y g => simp only [srcP, digs, maskL, plc]; rw [ih g _ (by simpa using h)]
theorem srcP_pad (s : List Int) (k : Nat) : ∀ (g : List Int) (p : Int), s.length + k = g.length → srcP (List.replicate k 1 ++ s) g p = plc s (maskL s ((digs g p).drop k)) := by
  induction k with
  | zero => intro g p h; exact srcP_eq s g p h
  | succ k ih =>
    intro g p h
    cases g with
    | nil => simp at h
    | cons y g =>
      rw [List.replicate_succ, List.cons_append]
      simp only [srcP, if_true, digs, List.drop_succ_cons, Int.zero_mul, Int.zero_add]
      exact ih g _ (by simp at h; omega)
theorem src_eq {s g : List Int} (h : s.length ≤ g.length) (p : Int) : srcI s g p = srcP (pad g.length s) g p := by
  unfold srcI pad
  rw [srcP_pad s _ g p (by omega)]
theorem pos_of {y P p : Int} (hP : 1 ≤ P) (h0 : 0 ≤ p) (h1 : p < y * P) : 0 ≤ p / P ∧ p / P < y ∧ 0 ≤ p % P ∧ p % P < P :=
  ⟨Int.ediv_nonneg h0 (by omega), Int.ediv_lt_of_lt_mul (by omega) h1, Int.emod_nonneg _ (by omega), Int.emod_lt_of_pos _ (by omega)⟩
theorem lin_lt {q r x P : Int} (hP : 1 ≤ P) (h0 : 0 ≤ q) (h1 : q < x) (h2 : 0 ≤ r) (h3 : r < P) : 0 ≤ q * P + r ∧ q * P + r < x * P ∧ (q * P + r) / P = q ∧ (q * P + r) % P = r := by
  have a := Int.mul_nonneg h0 (show 0 ≤ P by omega)
  have b := Int.mul_le_mul_of_nonneg_right (show q + 1 ≤ x by omega) (show 0 ≤ P by omega)
  rw [Int.add_mul, Int.one_mul] at b
  refine ⟨by omega, by omega, ?_, ?_⟩
  · rw [Int.add_comm, Int.add_mul_ediv_right _ _ (by omega), Int.ediv_eq_zero_of_lt h2 h3]; omega
  · rw [Int.add_comm, Int.add_mul_emod_self_right, Int.emod_eq_of_lt h2 h3]
theorem srcP_in {s : List Int} : ∀ {g : List Int} {p : Int}, AL s g → g.all sideB = true → 0 ≤ p → p < prodS g → 0 ≤ srcP s g p ∧ srcP s g p < prodS s ∧ 1 ≤ prodS s := by
  induction s with
  | nil => intro g p h _ _ _; cases g with
    | nil => simp [srcP, prodS]
    | cons _ _ => exact h.elim
  | cons x s ih =>
    intro g p h hg h0 h1
    cases g with
    | nil => exact h.elim
    | cons y g =>
      simp only [List.all_cons, Bool.and_eq_true] at hg
      have hp := prod_pos hg.2
      have hy := sideB_iff.1 hg.1
      obtain ⟨a, b, c, d⟩ := pos_of hp h0 (by simpa [prodS] using h1)
      obtain ⟨i1, i2, i3⟩ := ih h.2 hg.2 c d
      simp only [srcP, prodS]
      have hx : 1 ≤ x := by rcases h.1 with e | e <;> omega
      have hq : 0 ≤ (if x = 1 then 0 else p / prodS g) ∧ (if x = 1 then 0 else p / prodS g) < x := by
        split
        · omega
        · rcases h.1 with e | e
          · contradiction
          · omega
      obtain ⟨l1, l2, _, _⟩ := lin_lt i3 hq.1 hq.2 i1 i2
      have := Int.mul_le_mul hx i3 (by omega) (by omega)
      exact ⟨l1, l2, by omega⟩
theorem srcP_self {s : List Int} : ∀ {p : Int}, s.all sideB = true → 0 ≤ p → p < prodS s → srcP s s p = p := by
  induction s with
  | nil => intro p _ h0 h1; simp [prodS] at h1; show (0 : Int) = p; omega
  | cons x s ih =>
    intro p hs h0 h1
    simp only [List.all_cons, Bool.and_eq_true] at hs
    have hp := prod_pos hs.2
    obtain ⟨a, b, c, d⟩ := pos_of hp h0 (by simpa [prodS] using h1)
    simp only [srcP, ih hs.2 c d]
    have e := Int.mul_ediv_add_emod p (prodS s)
    rw [Int.mul_comm] at e
    split
    · have : p / prodS s = 0 := by omega
      rw [this] at e; omega
    · exact e
/-- From a greater one's place to a middle one's to a lesser one's is as at once. -/
theorem srcP_comp {s : List Int} : ∀ {g u : List Int} {p : Int}, AL s g → AL g u → u.all sideB = true → 0 ≤ p → p < prodS u → srcP s g (srcP g u p) = srcP s u p := by
  induction s with
  | nil => intro g u p h _ _ _ _; cases g with
    | nil => cases u <;> simp [srcP]
    | cons _ _ => exact h.elim
  | cons x s ih =>
    intro g u p h k hu h0 h1
    cases g with
    | nil => exact h.elim
    | cons y g =>
      cases u with
      | nil => exact k.elim
      | cons z u =>
        simp only [List.all_cons, Bool.and_eq_true] at hu
        have hp := prod_pos hu.2
        obtain ⟨a, b, c, d⟩ := pos_of hp h0 (by simpa [prodS] using h1)
        obtain ⟨i1, i2, i3⟩ := srcP_in k.2 hu.2 c d
        have hq : 0 ≤ (if y = 1 then 0 else p / prodS u) := by split <;> omega
        obtain ⟨_, _, l3, l4⟩ := lin_lt i3 hq (Int.lt_add_one_of_le (Int.le_refl _)) i1 i2
        simp only [srcP, l3, l4, ih h.2 k.2 hu.2 c d]
        congr 2
        split
        · rfl
        · rw [if_neg]; rcases h.1 with e | e
          · contradiction
          · rw [← e]; assumption
theorem srcP_ones (k : Nat) : ∀ {s g : List Int} {p : Int}, 0 ≤ p → p < prodS g → srcP (List.replicate k 1 ++ s) (List.replicate k 1 ++ g) p = srcP s g p := by
  induction k with
  | zero => intros; rfl
  | succ k ih =>
    intro s g p h0 h1
    rw [List.replicate_succ, List.cons_append, List.cons_append]
    have e : prodS (List.replicate k 1 ++ g) = prodS g := by
      have := pad_prod (g.length + k) g
      unfold pad at this
      rwa [show g.length + k - g.length = k by omega] at this
    simp only [srcP, if_true, Int.zero_mul, Int.zero_add, e]
    rw [Int.emod_eq_of_lt h0 h1, ih h0 h1]
theorem al_pad {s g : List Int} (k : Nat) (h : AL s g) : AL (List.replicate k 1 ++ s) (List.replicate k 1 ++ g) := by
  induction k with
  | zero => exact h
  | succ k ih => exact ⟨.inl rfl, ih⟩
theorem pad_pad {s : List Int} {n m : Nat} (h : s.length ≤ n) (k : n ≤ m) : pad m s = List.replicate (m - n) 1 ++ pad n s := by
  unfold pad
  rw [← List.append_assoc, List.replicate_append_replicate]
  congr 2; omega
theorem ok_all {s : List Int} (h : okS s = true) : s.all sideB = true := (ok_iff.1 h).2.1

/-! ### Where a place comes from -/
theorem src_in {s g : List Int} (h : fitsV s g = true) {p : Int} (h0 : 0 ≤ p) (h1 : p < prodS g) : 0 ≤ srcI s g p ∧ srcI s g p < prodS s := by
  obtain ⟨_, b, c, d⟩ := fits_al h
  rw [src_eq c]
  obtain ⟨e, f, _⟩ := srcP_in d (ok_all b) h0 h1
  rw [pad_prod] at f
  exact ⟨e, f⟩
theorem src_self {s : List Int} (h : okS s = true) {p : Int} (h0 : 0 ≤ p) (h1 : p < prodS s) : srcI s s p = p := by
  rw [src_eq (Nat.le_refl _), pad_self (Nat.le_refl _), srcP_self (ok_all h) h0 h1]
theorem src_comp {s g u : List Int} (h : fitsV s g = true) (k : fitsV g u = true) {p : Int} (h0 : 0 ≤ p) (h1 : p < prodS u) : srcI s g (srcI g u p) = srcI s u p := by
  have hr := src_in k h0 h1
  obtain ⟨_, b, c, d⟩ := fits_al h
  obtain ⟨_, b', c', d'⟩ := fits_al k
  have e := al_pad (u.length - g.length) d
  have e1 := pad_pad c c'
  have e2 : pad u.length g = List.replicate (u.length - g.length) 1 ++ g := rfl
  rw [← e1, ← e2] at e
  rw [src_eq c, src_eq (Nat.le_trans c c'), ← srcP_comp e d' (ok_all b') h0 h1, ← src_eq c', e1, e2, srcP_ones _ hr.1 hr.2]
theorem mask_in {s : List Int} : ∀ {g : List Int} {t : List Int}, AL s g → g.all sideB = true → inIdx g t = true → inIdx s (maskL s t) = true := by
  induction s with
  | nil => intro g t _ _ _; cases t <;> rfl
  | cons x s ih =>
    intro g t h hg ht
    cases g with
    | nil => exact h.elim
    | cons y g =>
      cases t with
      | nil => simp [inIdx] at ht
      | cons i t =>
        simp only [List.all_cons, Bool.and_eq_true] at hg
        simp only [inIdx, Bool.and_eq_true, decide_eq_true_eq] at ht
        have hy := sideB_iff.1 hg.1
        simp only [maskL, inIdx, Bool.and_eq_true, decide_eq_true_eq]
        refine ⟨?_, ih h.2 hg.2 ht.2⟩
        split
        · omega
        · rcases h.1 with e | e
          · contradiction
          · omega
theorem al_drop (k : Nat) : ∀ {s g : List Int}, AL (List.replicate k 1 ++ s) g → AL s (g.drop k) := by
  induction k with
  | zero => intro s g h; exact h
  | succ k ih => intro s g h; cases g with
    | nil => exact h.elim
    | cons y g => exact ih h.2
theorem in_drop {g : List Int} (k : Nat) : ∀ {t : List Int}, k ≤ g.length → inIdx g t = true → inIdx (g.drop k) (t.drop k) = true := by
  induction k generalizing g with
  | zero => intro t _ h; exact h
  | succ k ih => intro t hk h; cases g with
    | nil => simp at hk
    | cons y g => cases t with
      | nil => simp [inIdx] at h
      | cons i t =>
        simp only [inIdx, Bool.and_eq_true] at h
        exact ih (by simpa using hk) h.2
/-- What is left of an index is one of what fits. -/
theorem from_in {s g t : List Int} (h : fitsV s g = true) (ht : inIdx g t = true) : inIdx s (maskL s (t.drop (g.length - s.length))) = true := by
  obtain ⟨a, b, c, d⟩ := fits_al h
  exact mask_in (al_drop _ d) (all_drop (ok_all b) _) (in_drop _ (by omega) ht)
theorem src_place {s g : List Int} (h : fitsV s g = true) {p : Int} (h0 : 0 ≤ p) (h1 : p < prodS g) : placeV s (maskL s ((digs g p).drop (g.length - s.length))) = (srcI s g p, 0) := by
  obtain ⟨a, b, c, d⟩ := fits_al h
  exact place_yes a (from_in h (digs_in (ok_all b) h0 h1).1)

/-! ### Sums -/
def sg : Nat → (Nat → Int) → Int
  | 0, _ => 0
  | n + 1, F => sg n F + F n
theorem sg_congr {n : Nat} {F G : Nat → Int} (h : ∀ i, i < n → F i = G i) : sg n F = sg n G := by
  induction n with
  | zero => rfl
  | succ n ih => simp only [sg]; rw [ih fun i hi => h i (by omega), h n (by omega)]
theorem sg_add (n : Nat) (F G : Nat → Int) : sg n (fun i => F i + G i) = sg n F + sg n G := by
  induction n with
  | zero => rfl
  | succ n ih => simp only [sg, ih]; omega
theorem sg_zero (n : Nat) : sg n (fun _ => 0) = 0 := by
  induction n with
  | zero => rfl
  | succ n ih => simp only [sg, ih]; omega
theorem sg_mul (n : Nat) (F : Nat → Int) (c : Int) : sg n (fun i => F i * c) = sg n F * c := by
  induction n with
  | zero => simp [sg]
  | succ n ih => simp only [sg, ih]; rw [Int.add_mul]
theorem sg_swap (n m : Nat) (F : Nat → Nat → Int) : sg n (fun i => sg m fun j => F i j) = sg m fun j => sg n fun i => F i j := by
  induction n with
  | zero => simp [sg, sg_zero]
  | succ n ih => simp only [sg, ih, sg_add]
theorem sg_one {n k : Nat} (hk : k < n) (c : Int) : sg n (fun j => if k = j then c else 0) = c := by
  induction n with
  | zero => omega
  | succ n ih =>
    simp only [sg]
    by_cases h : k = n
    · subst h
      rw [sg_congr (G := fun _ => 0) fun i hi => if_neg (by omega), sg_zero]; simp
    · rw [ih (by omega), if_neg h]; omega
theorem sg_split (a b : Nat) (F : Nat → Int) : sg (a + b) F = sg a F + sg b fun i => F (a + i) := by
  induction b with
  | zero => simp [sg]
  | succ b ih => rw [← Nat.add_assoc]; simp only [sg, ih]; omega
theorem sg_rows (y P : Nat) (F : Nat → Int) : sg (y * P) F = sg y fun q => sg P fun r => F (q * P + r) := by
  induction y with
  | zero => simp [sg]
  | succ y ih => rw [Nat.succ_mul, sg_split, ih]; rfl

/-- How many of a greater one's places come from a place. -/
theorem src_count {s : List Int} : ∀ {g : List Int} {p : Int}, AL s g → g.all sideB = true → 0 ≤ p → p < prodS s → sg (prodS g).toNat (fun i => if srcP s g i = p then 1 else 0) * prodS s = prodS g := by
  induction s with
  | nil =>
    intro g p h _ h0 h1
    cases g with
    | nil => simp [prodS] at h1 ⊢; have : p = 0 := by omega
             subst this; simp [sg, srcP]
    | cons _ _ => exact h.elim
  | cons x s ih =>
    intro g p h hg h0 h1
    cases g with
    | nil => exact h.elim
    | cons y g =>
      simp only [List.all_cons, Bool.and_eq_true] at hg
      have hP := prod_pos hg.2
      have hy := sideB_iff.1 hg.1
      have hQ : 1 ≤ prodS s := (srcP_in h.2 hg.2 (Int.le_refl 0) (by omega)).2.2
      have e1 : (prodS (y :: g)).toNat = y.toNat * (prodS g).toNat := by simp only [prodS]; rw [Int.toNat_mul (by omega) (by omega)]
      rw [e1, sg_rows]
      have hd : ∀ q r : Nat, r < (prodS g).toNat → ((q * (prodS g).toNat + r : Nat) : Int) / prodS g = q ∧ ((q * (prodS g).toNat + r : Nat) : Int) % prodS g = r := by
        intro q r hr
        have := lin_lt (P := prodS g) (q := q) (r := r) (x := (q : Int) + 1) hP (by omega) (by omega) (by omega) (by omega)
        have e : ((q * (prodS g).toNat + r : Nat) : Int) = (q : Int) * prodS g + r := by
          rw [Int.natCast_add, Int.natCast_mul, Int.toNat_of_nonneg (by omega)]
        rw [e]; exact ⟨this.2.2.1, this.2.2.2⟩
      obtain ⟨a, b, c, d⟩ := pos_of hQ h0 (by simpa [prodS] using h1)
      have hp := Int.mul_ediv_add_emod p (prodS s)
      rw [Int.mul_comm] at hp
      have hin := ih h.2 hg.2 c d
      by_cases hx : x = 1
      · subst hx
        have hp0 : p / prodS s = 0 := by omega
        have e2 : (sg y.toNat fun q => sg (prodS g).toNat fun r => if srcP (1 :: s) (y :: g) ((q * (prodS g).toNat + r : Nat) : Int) = p then 1 else 0) =
            sg y.toNat fun _ => sg (prodS g).toNat fun r => if srcP s g r = p % prodS s then 1 else 0 := by
          refine sg_congr fun q _ => sg_congr fun r hr => ?_
          simp only [srcP, (hd q r hr).2, if_true, Int.zero_mul, Int.zero_add]
          rw [show p % prodS s = p by rw [hp0] at hp; omega]
        rw [e2]
        have e3 : ∀ (n : Nat) (c : Int), sg n (fun _ => c) = n * c := by
          intro n c
          induction n with
          | zero => simp [sg]
          | succ n ih => simp only [sg, ih, Int.natCast_succ, Int.add_mul, Int.one_mul]
        rw [e3]
        simp only [prodS, Int.one_mul]
        rw [Int.mul_assoc, hin, Int.toNat_of_nonneg (by omega)]
      · have hxy : x = y := by rcases h.1 with e | e
                               · contradiction
                               · exact e
        subst hxy
        have e2 : (sg x.toNat fun q => sg (prodS g).toNat fun r => if srcP (x :: s) (x :: g) ((q * (prodS g).toNat + r : Nat) : Int) = p then 1 else 0) =
            sg x.toNat fun q => if (p / prodS s).toNat = q then (sg (prodS g).toNat fun r => if srcP s g r = p % prodS s then 1 else 0) else 0 := by
          refine sg_congr fun q hq => ?_
          have hs : ∀ r : Nat, r < (prodS g).toNat → srcP (x :: s) (x :: g) ((q * (prodS g).toNat + r : Nat) : Int) = q * prodS s + srcP s g r := by
            intro r hr
            simp only [srcP, (hd q r hr).1, (hd q r hr).2, if_neg hx]
          split
          · refine sg_congr fun r hr => ?_
            rw [hs r hr]
            have hq' : (q : Int) = p / prodS s := by omega
            rw [hq']
            by_cases e : srcP s g r = p % prodS s
            · rw [if_pos (by rw [e]; exact hp), if_pos e]
            · rw [if_neg (by omega), if_neg e]
          · rename_i hne
            refine (sg_congr (G := fun _ => 0) fun r hr => ?_).trans (sg_zero _)
            rw [hs r hr, if_neg]
            intro e
            obtain ⟨i1, i2, _⟩ := srcP_in (p := (r : Int)) h.2 hg.2 (by omega) (by omega)
            have := (lin_lt (q := (q : Int)) (x := (q : Int) + 1) hQ (by omega) (by omega) i1 i2).2.2.1
            rw [e] at this
            omega
        rw [e2, sg_one (by omega)]
        simp only [prodS]
        rw [Int.mul_comm x, ← Int.mul_assoc, hin, Int.mul_comm]
theorem count_src {s g : List Int} (h : fitsV s g = true) {p : Int} (h0 : 0 ≤ p) (h1 : p < prodS s) : sg (prodS g).toNat (fun i => if srcI s g i = p then 1 else 0) * prodS s = prodS g := by
  obtain ⟨a, b, c, d⟩ := fits_al h
  have := src_count d (ok_all b) h0 (by rw [pad_prod]; exact h1)
  rw [pad_prod] at this
  rw [sg_congr (G := fun i => if srcP (pad g.length s) g i = p then 1 else 0) fun i _ => by rw [src_eq c]]
  exact this

/-! ### What is folded -/
/-- So many, from the k-th on. -/
theorem fold_sum (f : Nat → Nat) (d : List Int) : ∀ (zs : List Int) (k : Nat) (ys : List Int), foldG f zs k d = (ys, 0) → ys.length = zs.length ∧
    ∀ p, p < zs.length → ys.getD p 0 = zs.getD p 0 + sg d.length fun i => if f (k + i) = p then d.getD i 0 else 0 := by
  induction d with
  | nil => intro zs k ys h; simp only [foldG] at h; injection h with h _; subst h; exact ⟨rfl, fun p _ => by simp [sg]⟩
  | cons x d ih =>
    intro zs k ys h
    simp only [foldG] at h
    split at h
    · rename_i he
      obtain ⟨h1, h2⟩ := ih _ _ _ h
      have hsum : (addV (zs.getD (f k) 0) x).1 = zs.getD (f k) 0 + x := by
        rcases put_cases (zs.getD (f k) 0 + x) with ⟨_, _, e⟩ | ⟨_, e⟩
        · unfold addV; rw [e]
        · unfold addV at he; rw [e] at he; simp at he
      refine ⟨by simpa using h1, fun p hp => ?_⟩
      rw [h2 p (by simpa using hp), hsum]
      have e : sg (d.length + 1) (fun i => if f (k + i) = p then (x :: d).getD i 0 else 0) = (if f k = p then x else 0) + sg d.length fun i => if f (k + 1 + i) = p then d.getD i 0 else 0 := by
        rw [Nat.add_comm d.length 1, sg_split]
        simp only [sg, Nat.add_zero, List.getD_cons_zero, Int.zero_add]
        congr 1
        exact sg_congr fun i _ => by rw [show k + (1 + i) = k + 1 + i by omega, Nat.add_comm 1 i, List.getD_cons_succ]
      rw [List.length_cons, e]
      by_cases hf : f k = p
      · subst hf
        rw [if_pos rfl]
        simp only [List.getD_eq_getElem?_getD, List.getElem?_set_self hp, Option.getD_some]
        omega
      · rw [if_neg hf]
        simp only [List.getD_eq_getElem?_getD, List.getElem?_set_ne hf]
        omega
    · rename_i he
      injection h with _ h2
      exact absurd h2 he
/-- No sum is too great. -/
theorem fold_small (f : Nat → Nat) (d : List Int) : ∀ (zs : List Int) (k : Nat) (c : Int), 0 ≤ c → (∀ p, p < zs.length → -(c * k) ≤ zs.getD p 0 ∧ zs.getD p 0 ≤ c * k) → (∀ i, i < d.length → -c ≤ d.getD i 0 ∧ d.getD i 0 ≤ c) →
    (∀ i, i < d.length → f (k + i) < zs.length) → c * (k + d.length : Nat) ≤ 9223372036854775807 → (foldG f zs k d).2 = 0 := by
  induction d with
  | nil => intros; rfl
  | cons x d ih =>
    intro zs k c hc hz hd hf hb
    have hfk := hf 0 (by simp)
    rw [Nat.add_zero] at hfk
    have h1 := hz (f k) hfk
    have h2 := hd 0 (by simp)
    rw [List.getD_cons_zero] at h2
    have e1 : c * ((k + 1 : Nat) : Int) = c * k + c := by rw [Int.natCast_add, Int.mul_add]; simp
    have hmon : c * ((k + 1 : Nat) : Int) ≤ c * (k + (x :: d).length : Nat) := Int.mul_le_mul_of_nonneg_left (by simp; omega) hc
    have e : addV (zs.getD (f k) 0) x = (zs.getD (f k) 0 + x, 0) := put_in (by omega) (by omega)
    simp only [foldG, e, if_true]
    refine ih _ (k + 1) c hc (fun p hp => ?_) (fun i hi => ?_) (fun i hi => ?_) (by rw [show k + 1 + d.length = k + (x :: d).length by simp; omega]; exact hb)
    · rw [List.length_set] at hp
      by_cases hfp : f k = p
      · subst hfp
        simp only [List.getD_eq_getElem?_getD, List.getElem?_set_self hp, Option.getD_some] at h1 ⊢
        omega
      · have := hz p hp
        simp only [List.getD_eq_getElem?_getD, List.getElem?_set_ne hfp] at this ⊢
        omega
    · have := hd (i + 1) (by simpa using hi)
      simpa using this
    · have := hf (i + 1) (by simpa using hi)
      rw [show k + (i + 1) = k + 1 + i by omega] at this
      simpa using this
end Go.Proofs.ShM
