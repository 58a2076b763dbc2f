import Derived.Test.YtdbncanedokinaaGreatShAll
import Derived.Test.YtdbncanedokinaaGreatFixMath
import Derived.Deep.RegionWith
import Derived.Deep.DeepCutAuto
import Derived.Deep.RegionHeld3
import Derived.Lib.Mul64
import Derived.Lib.BitFns
import Derived.Laws.CopyOwn
import Derived.Deep.RegionLaw
import Derived.RangeFuncNested
import Derived.RangeFuncBound
import Derived.RangeFuncCalls
import Derived.RangeFuncLeaves
import Derived.Shelf.Abstract
import Derived.Shelf.RegionOpen
import Derived.OwnWalkIn
import Derived.TacticsInMore
import Derived.LoopNIn
import Derived.LoopIn
import Derived.RangeFuncBox
import Derived.StillTailTactics
import Derived.BigQuiet
import Derived.Deep.QuietTactic
import Derived.ProofKit
import Derived.OpenShut
import Derived.Carry
import Derived.Lib.SmallJoins
set_option maxRecDepth 100000
/- Plain arithmetic under layer 3 (tensor): what the document says each call answers, and what follows of it. No program stands here. -/
namespace Go.Proofs.ShM
open Go.Proofs.FixM (addV put_in put_out put_cases)

/-! ### What is answered -/
/-- An index, each number 0 where the side is 1. -/
def maskL : List Int → List Int → List Int
  | x :: s, i :: t => (if x = 1 then 0 else i) :: maskL s t
  | _, _ => []
/-- The place, in s, that a place of g comes from. -/
def srcI (s g : List Int) (p : Int) : Int := plc s (maskL s ((digs g p).drop (g.length - s.length)))
def tokV (s d : List Int) : Bool := okS s && decide ((d.length : Int) = sizeV s)
/-- Shape, numbers, error. -/
abbrev Tn := List Int × List Int × Int
def fullV (s : List Int) (n : Int) : Tn := if okS s = true then (s, List.replicate (sizeV s).toNat n, 0) else ([], [], 20)
def pinV (s d t : List Int) : Int × Int := if tokV s d = true then placeV s t else (0, 30)
def atV (s d t : List Int) : Int × Int := if (pinV s d t).2 = 0 then (d.getD (pinV s d t).1.toNat 0, 0) else (0, (pinV s d t).2)
/-- What is stretched: so many of it. -/
def spreadL (s d g : List Int) (k : Nat) : List Int := (List.range k).map fun i : Nat => d.getD (srcI s g i).toNat 0
def spreadV (s d g : List Int) : Tn :=
  if tokV s d = true then (if fitsV s g = true then (g, spreadL s d g (sizeV g).toNat, 0) else ([], [], 20)) else ([], [], 30)
/-! ### Shapes side by side -/
/-- Each side is 1 or the other's. -/
def AL : List Int → List Int → Prop
  | x :: s, y :: g => (x = 1 ∨ x = y) ∧ AL s g
  | [], [] => True
  | _, _ => False
def srcP : List Int → List Int → Int → Int
  | x :: s, _ :: g, p => (if x = 1 then 0 else p / prodS g) * prodS s + srcP s g (p % prodS g)
  | _, _, _ => 0
theorem jn_al {x y : Int} (h : jn x y = some y) : x = 1 ∨ x = y := by
  unfold jn at h
  split at h
  · injection h with h; exact .inr h
  · split at h
    · exact .inl (by assumption)
    · cases h
theorem joinL_al {s : List Int} : ∀ {g : List Int}, s.length = g.length → joinL s g = some g → AL s g := by
  induction s with
  | nil => intro g h _; cases g with
    | nil => trivial
    | cons _ _ => simp at h
  | cons x s ih =>
    intro g h hj
    cases g with
    | nil => simp at h
    | cons y g =>
      simp only [joinL, Option.bind_eq_some_iff, Option.map_eq_some_iff] at hj
      obtain ⟨z, hz, l, hl, e⟩ := hj
      injection e with e1 e2
      subst e1 e2
      exact ⟨jn_al hz, ih (by simpa using h) hl⟩
theorem pad_self {n : Nat} {s : List Int} (h : n ≤ s.length) : pad n s = s := by unfold pad; rw [show n - s.length = 0 by omega]; rfl
theorem pad_prod (n : Nat) (s : List Int) : prodS (pad n s) = prodS s := by
  unfold pad
  generalize n - s.length = k
  induction k with
  | zero => rfl
  | succ k ih => rw [List.replicate_succ, List.cons_append]; simp [prodS, ih]
/-- What fitting is. -/
theorem fits_al {s g : List Int} (h : fitsV s g = true) : okS s = true ∧ okS g = true ∧ s.length ≤ g.length ∧ AL (pad g.length s) g := by
  have j := fits_iff.1 h
  have hl := j.sizes.2
  refine ⟨j.1, j.2.1, hl, ?_⟩
  have e : joinV s g = (g, 0) := join_iff.2 j
  unfold joinV at e
  rw [if_pos (by simp [j.1, j.2.1])] at e
  cases hj : joinO s g with
  | none => rw [hj] at e; simp at e
  | some l =>
    rw [hj] at e
    simp only at e
    split at e
    · injection e with e1 _
      subst e1
      unfold joinO at hj
      rw [show max s.length l.length = l.length by omega, pad_self (s := l) (Nat.le_refl _)] at hj
      exact joinL_al (padl hl) hj
    · simp at e
/-- The place by sides laid beside each other. -/
theorem srcP_eq (s : List Int) : ∀ (g : List Int) (p : Int), s.length = g.length → srcP s g p = plc s (maskL s (digs g p)) := by
  induction s with
  | nil => intro g p h; cases g <;> simp [srcP, plc]
  | cons x s ih =>
    intro g p h
    cases g with
    | nil => simp at h
    | cons y g => simp only [srcP, digs, maskL, plc]; rw [ih g _ (by simpa using h)]
theorem srcP_pad (s : List Int) (k : Nat) : ∀ (g : List Int) (p : Int), s.length + k = g.length → srcP (List.replicate k 1 ++ s) g p = plc s (maskL s ((digs g p).drop k)) := by
  induction k with
  | zero => intro g p h; exact srcP_eq s g p h
  | succ k ih =>
    intro g p h
    cases g with
    | nil => simp at h
    | cons y g =>
      rw [List.replicate_succ, List.cons_append]
      simp only [srcP, if_true, digs, List.drop_succ_cons, Int.zero_mul, Int.zero_add]
      exact ih g _ (by simp at h; omega)
theorem src_eq {s g : List Int} (h : s.length ≤ g.length) (p : Int) : srcI s g p = srcP (pad g.length s) g p := by
  unfold srcI pad
  rw [srcP_pad s _ g p (by omega)]
theorem pos_of {y P p : Int} (hP : 1 ≤ P) (h0 : 0 ≤ p) (h1 : p < y * P) : 0 ≤ p / P ∧ p / P < y ∧ 0 ≤ p % P ∧ p % P < P :=
  ⟨Int.ediv_nonneg h0 (by omega), Int.ediv_lt_of_lt_mul (by omega) h1, Int.emod_nonneg _ (by omega), Int.emod_lt_of_pos _ (by omega)⟩
theorem lin_lt {q r x P : Int} (hP : 1 ≤ P) (h0 : 0 ≤ q) (h1 : q < x) (h2 : 0 ≤ r) (h3 : r < P) : 0 ≤ q * P + r ∧ q * P + r < x * P ∧ (q * P + r) / P = q ∧ (q * P + r) % P = r := by
  have a := Int.mul_nonneg h0 (show 0 ≤ P by omega)
  have b := Int.mul_le_mul_of_nonneg_right (show q + 1 ≤ x by omega) (show 0 ≤ P by omega)
  rw [Int.add_mul, Int.one_mul] at b
  refine ⟨by omega, by omega, ?_, ?_⟩
  · rw [Int.add_comm, Int.add_mul_ediv_right _ _ (by omega), Int.ediv_eq_zero_of_lt h2 h3]; omega
  · rw [Int.add_comm, Int.add_mul_emod_self_right, Int.emod_eq_of_lt h2 h3]
theorem srcP_in {s : List Int} : ∀ {g : List Int} {p : Int}, AL s g → g.all sideB = true → 0 ≤ p → p < prodS g → 0 ≤ srcP s g p ∧ srcP s g p < prodS s ∧ 1 ≤ prodS s := by
  induction s with
  | nil => intro g p h _ _ _; cases g with
    | nil => simp [srcP, prodS]
    | cons _ _ => exact h.elim
  | cons x s ih =>
    intro g p h hg h0 h1
    cases g with
    | nil => exact h.elim
    | cons y g =>
      simp only [List.all_cons, Bool.and_eq_true] at hg
      have hp := prod_pos hg.2
      have hy := sideB_iff.1 hg.1
      obtain ⟨a, b, c, d⟩ := pos_of hp h0 (by simpa [prodS] using h1)
      obtain ⟨i1, i2, i3⟩ := ih h.2 hg.2 c d
      simp only [srcP, prodS]
      have hx : 1 ≤ x := by rcases h.1 with e | e <;> omega
      have hq : 0 ≤ (if x = 1 then 0 else p / prodS g) ∧ (if x = 1 then 0 else p / prodS g) < x := by
        split
        · omega
        · rcases h.1 with e | e
          · contradiction
          · omega
      obtain ⟨l1, l2, _, _⟩ := lin_lt i3 hq.1 hq.2 i1 i2
      have := Int.mul_le_mul hx i3 (by omega) (by omega)
      exact ⟨l1, l2, by omega⟩
theorem srcP_self {s : List Int} : ∀ {p : Int}, s.all sideB = true → 0 ≤ p → p < prodS s → srcP s s p = p := by
  induction s with
  | nil => intro p _ h0 h1; simp [prodS] at h1; show (0 : Int) = p; omega
  | cons x s ih =>
    intro p hs h0 h1
    simp only [List.all_cons, Bool.and_eq_true] at hs
    have hp := prod_pos hs.2
    obtain ⟨a, b, c, d⟩ := pos_of hp h0 (by simpa [prodS] using h1)
    simp only [srcP, ih hs.2 c d]
    have e := Int.mul_ediv_add_emod p (prodS s)
    rw [Int.mul_comm] at e
    split
    · have : p / prodS s = 0 := by omega
      rw [this] at e; omega
    · exact e
theorem ok_all {s : List Int} (h : okS s = true) : s.all sideB = true := (ok_iff.1 h).2.1

/-! ### Where a place comes from -/
theorem src_in {s g : List Int} (h : fitsV s g = true) {p : Int} (h0 : 0 ≤ p) (h1 : p < prodS g) : 0 ≤ srcI s g p ∧ srcI s g p < prodS s := by
  obtain ⟨_, b, c, d⟩ := fits_al h
  rw [src_eq c]
  obtain ⟨e, f, _⟩ := srcP_in d (ok_all b) h0 h1
  rw [pad_prod] at f
  exact ⟨e, f⟩
theorem src_self {s : List Int} (h : okS s = true) {p : Int} (h0 : 0 ≤ p) (h1 : p < prodS s) : srcI s s p = p := by
  rw [src_eq (Nat.le_refl _), pad_self (Nat.le_refl _), srcP_self (ok_all h) h0 h1]
theorem mask_in {s : List Int} : ∀ {g : List Int} {t : List Int}, AL s g → g.all sideB = true → inIdx g t = true → inIdx s (maskL s t) = true := by
  induction s with
  | nil => intro g t _ _ _; cases t <;> rfl
  | cons x s ih =>
    intro g t h hg ht
    cases g with
    | nil => exact h.elim
    | cons y g =>
      cases t with
      | nil => simp [inIdx] at ht
      | cons i t =>
        simp only [List.all_cons, Bool.and_eq_true] at hg
        simp only [inIdx, Bool.and_eq_true, decide_eq_true_eq] at ht
        have hy := sideB_iff.1 hg.1
        simp only [maskL, inIdx, Bool.and_eq_true, decide_eq_true_eq]
        refine ⟨?_, ih h.2 hg.2 ht.2⟩
        split
        · omega
        · rcases h.1 with e | e
          · contradiction
          · omega
theorem al_drop (k : Nat) : ∀ {s g : List Int}, AL (List.replicate k 1 ++ s) g → AL s (g.drop k) := by
  induction k with
  | zero => intro s g h; exact h
  | succ k ih => intro s g h; cases g with
    | nil => exact h.elim
    | cons y g => exact ih h.2
theorem in_drop {g : List Int} (k : Nat) : ∀ {t : List Int}, k ≤ g.length → inIdx g t = true → inIdx (g.drop k) (t.drop k) = true := by
  induction k generalizing g with
  | zero => intro t _ h; exact h
  | succ k ih => intro t hk h; cases g with
    | nil => simp at hk
    | cons y g => cases t with
      | nil => simp [inIdx] at h
      | cons i t =>
        simp only [inIdx, Bool.and_eq_true] at h
        exact ih (by simpa using hk) h.2
/-- What is left of an index is one of what fits. -/
theorem from_in {s g t : List Int} (h : fitsV s g = true) (ht : inIdx g t = true) : inIdx s (maskL s (t.drop (g.length - s.length))) = true := by
  obtain ⟨a, b, c, d⟩ := fits_al h
  exact mask_in (al_drop _ d) (all_drop (ok_all b) _) (in_drop _ (by omega) ht)
theorem src_place {s g : List Int} (h : fitsV s g = true) {p : Int} (h0 : 0 ≤ p) (h1 : p < prodS g) : placeV s (maskL s ((digs g p).drop (g.length - s.length))) = (srcI s g p, 0) := by
  obtain ⟨a, b, c, d⟩ := fits_al h
  exact place_yes a (from_in h (digs_in (ok_all b) h0 h1).1)

/-! ### Sums -/
/-! ### What is folded -/
end Go.Proofs.ShM

/- Plain arithmetic under the laws of layer 3. No program stands here. -/
namespace Go.Proofs.ShM
open Go.Proofs.FixM (addV put_in put_out put_cases)

def I64s (xs : List Int) : Prop := ∀ x ∈ xs, -9223372036854775808 ≤ x ∧ x ≤ 9223372036854775807
theorem I64s.nil_ : I64s [] := fun x h => by cases h
theorem I64s.get {xs : List Int} (h : I64s xs) {i : Nat} {x : Int} (hx : xs[i]? = some x) : -9223372036854775808 ≤ x ∧ x ≤ 9223372036854775807 := h x (List.mem_of_getElem? hx)
theorem I64s.set_ {xs : List Int} (h : I64s xs) (j : Nat) {x : Int} (hx : -9223372036854775808 ≤ x ∧ x ≤ 9223372036854775807) : I64s (xs.set j x) := fun y hy => by
  rcases List.mem_or_eq_of_mem_set hy with h' | rfl
  · exact h y h'
  · exact hx
theorem tok_iff {s d : List Int} : tokV s d = true ↔ okS s = true ∧ (d.length : Int) = prodS s := by
  unfold tokV
  simp only [Bool.and_eq_true, decide_eq_true_eq]
  exact ⟨fun ⟨a, b⟩ => ⟨a, by rw [← size_ok a]; exact b⟩, fun ⟨a, b⟩ => ⟨a, by rw [size_ok a]; exact b⟩⟩
theorem tok_len {s d : List Int} (h : tokV s d = true) : okS s = true ∧ (sizeV s).toNat = d.length ∧ 1 ≤ d.length ∧ d.length ≤ 64 := by
  obtain ⟨a, b⟩ := tok_iff.1 h
  have := ok_prod a
  rw [size_ok a]
  exact ⟨a, by omega, by omega, by omega⟩

/-! ### Stretched -/
theorem spread_len (s d g : List Int) (k : Nat) : (spreadL s d g k).length = k := by simp [spreadL]
theorem size_nat {g : List Int} (h : okS g = true) : ((sizeV g).toNat : Int) = prodS g := by
  have := ok_prod h
  rw [size_ok h]; omega
theorem ext0 {a b : List Int} (h : a.length = b.length) (k : ∀ i, i < a.length → a.getD i 0 = b.getD i 0) : a = b := by
  refine List.ext_getElem h fun i h1 h2 => ?_
  have := k i h1
  simpa [List.getD_eq_getElem?_getD, h1, h2] using this
/-! ### Folded -/
/-! ### All the same -/
theorem rep_getD (n : Nat) (x : Int) (i : Nat) (h : i < n) : (List.replicate n x).getD i 0 = x := by
  rw [List.getD_eq_getElem?_getD, List.getElem?_replicate, if_pos h]; rfl
/-! ### At an index -/
theorem at_no {g d t : List Int} (h : tokV g d = true) (hp : inIdx g t = false) : atV g d t = (0, 20) := by
  have e1 : pinV g d t = (0, 20) := by unfold pinV; rw [if_pos h]; exact place_no (.inr hp)
  unfold atV; rw [e1]; rfl
end Go.Proofs.ShM

/- Check of layer 3, and the document's; Few; slices.Clone: what each answers. -/
namespace Go.Proofs.YtdbncanedokinaaGreat
open Go.RowKit Go.Proofs.ShM

namespace TnA
theorem tok_no {s d : List Int} (h : okS s = false) : tokV s d = false := by unfold tokV; rw [h]; rfl
theorem tok_is {s d : List Int} (h : okS s = true) : tokV s d = ((d.length : Int) == sizeV s) := by
  unfold tokV; rw [h, Bool.eq_iff_iff]; simp
end TnA

/-- A callee that leaves the world as it is, within a region that draws. -/
theorem quiet_same {f : FuncId} {args : Array Value} {w : World} {n : Nat} {v : Value} (h : Calls Tryz.prog f args (w.drewN n) fun e w' => e = .returned v ∧ w.drewN n = w') :
    Calls Tryz.prog f args (w.drewN n) fun e w'' => e = .returned v ∧ ∃ m, w'' = w.drewN m := h.mono fun _ _ ⟨he, hm⟩ => ⟨he, n, hm.symm⟩

set_option maxHeartbeats 1000000 in
theorem tcheck_any (A B : Option Addr) (c d : Nat) (s xs : List Int) (w : World) (h : Rd w A s) (g : Rd w B xs) :
    Calls Tryz.prog 32 #[.agg #[.slice A s.length c, .slice B xs.length d]] w fun e w' => e = .returned (.bool (tokV s xs)) ∧ Kp w w' := by
  have hl := h.len
  have gl := g.len
  have HC : Hid (∀ W, Kp w W → Calls Tryz.prog 64 #[.slice A s.length c] W fun e w' => e = .returned (.bool (okS s)) ∧ W = w') := fun W k => check_any A c s W (h.kp k)
  have HS : Hid (∀ W, Kp w W → Calls Tryz.prog 83 #[.slice A s.length c] W fun e w' => e = .returned (.int .i64 (sizeV s)) ∧ W = w') := fun W k => size_any A c s W (h.kp k)
  have K0 : Hid (Kp w (w.alloc (.cells #[.slice A s.length c, .slice B xs.length d] 25))) := Kp.alloc_ _ _
  cases ho : okS s with
  | false =>
    rw [ho] at HC
    have HF := Lib.hid (TnA.tok_no (d := xs) ho)
    clear ho
    go_enter Tryz.func32, Tryz.ntmps32
    go_wp2
    go_quiet ((go_at_call 64; exact quiet_same (HC.out _ (K0.out.tr (Kp.drewN_ _ _)))))
    go_wp2
    go_ret
    exact ⟨ret_bool HF.out.symm, K0.out.tr (Kp.drewN_ _ _)⟩
  | true =>
    rw [ho] at HC
    have HF := Lib.hid (TnA.tok_is (d := xs) ho)
    clear ho
    go_enter Tryz.func32, Tryz.ntmps32
    go_wp2
    go_quiet (first | (go_at_call 64; exact quiet_same (HC.out _ (K0.out.tr (Kp.drewN_ _ _)))) | (go_at_call 83; exact quiet_same (HS.out _ (K0.out.tr (Kp.drewN_ _ _)))))
    go_wp2
    go_ret
    exact ⟨ret_bool HF.out.symm, K0.out.tr (Kp.drewN_ _ _)⟩

/-- At most a hundred of each. -/
def fewV (n m : Nat) : Bool := decide (n ≤ 100) && decide (m ≤ 100)
set_option maxHeartbeats 400000 in
theorem few_any (A B : Option Addr) (c d n m : Nat) (w : World) (h : n ≤ 9223372036854775807) (g : m ≤ 9223372036854775807) :
    Calls Tryz.prog 20 #[.agg #[.slice A n c, .slice B m d]] w fun e w' => e = .returned (.bool (fewV n m)) ∧ Kp w w' := by
  have K0 : Hid (Kp w (w.alloc (.cells #[.slice A n c, .slice B m d] 25))) := Kp.alloc_ _ _
  by_cases h1 : n ≤ 100
  · have HF : Hid (decide ((m : Int) ≤ 100) = fewV n m) := by show _ = fewV n m; unfold fewV; simp [h1]; omega
    go_enter Tryz.func20, Tryz.ntmps20
    go_wp2
    go_ret
    exact ⟨ret_bool HF.out, K0.out⟩
  · have HF : Hid (fewV n m = false) := by show fewV n m = false; unfold fewV; simp [h1]
    go_enter Tryz.func20, Tryz.ntmps20
    go_wp2
    go_ret
    exact ⟨ret_bool HF.out.symm, K0.out⟩

/-- The answer is a list of the call's own. -/
def RetO (xs : List Int) (w : World) (e : Ending) (w' : World) : Prop := ∃ A c, e = .returned (.slice A xs.length c) ∧ Own w.heap.size w' (.slice A xs.length c) xs ∧ Kp w w'
set_option maxHeartbeats 1000000 in
theorem clone_any (A : Option Addr) (c : Nat) (xs : List Int) (w : World) (h : Rd w A xs) (hs : xs.length ≤ 1000000) :
    Calls Tryz.prog 29 #[.slice A xs.length c] w (RetO xs w) := by
  have qT : ∀ (w : World) (a : Option Addr) (n c : Nat), (binOp .eql 23 (.slice a n c) (.slice none 0 0)).run Tryz.prog w = .ok (.bool a.isNone) w := fun w a n c => Lib.run_eql_slice_nil w _ _ a n c 0 0 Tryz.underlying23
  cases A with
  | none =>
    obtain rfl : xs = [] := by
      cases xs with
      | nil => rfl
      | cons x xs => obtain ⟨ad, e, _⟩ := h.2 (by simp); cases e
    go_enter Tryz.func29, Tryz.ntmps29
    go_wp2
    go_ret
    exact ⟨none, 0, rfl, Own.nil_ _ _, Kp.refl _⟩
  | some ad =>
    go_enter Tryz.func29, Tryz.ntmps29
    go_wp2_with (at_builtin; refine wpList_app rfl (.tmp 5) (.tmp 6) rfl _ [] rfl (Own.zero w (Nat.le_refl _)) (some ad) c xs _ rfl rfl (h.alloc_ _) (by simpa using hs) (by simp) ?_; intro z1 A1 c1 w1 HZ o1 b1; have K1 := Lib.hid ((Kp.alloc_ w _).trans b1); have R1 := Lib.hid o1; clear o1 b1)
    go_ret
    have hz : z1 = xs := by have := HZ.out; simpa using this
    subst hz
    exact ⟨A1, c1, rfl, R1.out, K1.out⟩
end Go.Proofs.YtdbncanedokinaaGreat

/- The place of an index, the number there, and a tensor with another there: what each answers, and the document's. -/
namespace Go.Proofs.YtdbncanedokinaaGreat
open Go.RowKit Go.Proofs.ShM

namespace TnB
theorem pin_cases (s d t : List Int) : (∃ e : Int, (e = 30 ∨ e = 20) ∧ pinV s d t = (0, e)) ∨ ∃ k : Nat, k < d.length ∧ pinV s d t = ((k : Int), 0) ∧ tokV s d = true := by
  cases h : tokV s d with
  | false => exact .inl ⟨30, .inl rfl, by unfold pinV; rw [h]; rfl⟩
  | true =>
    obtain ⟨a, b⟩ := tok_iff.1 h
    have e : pinV s d t = placeV s t := by unfold pinV; rw [if_pos h]
    cases ht : inIdx s t with
    | false => exact .inl ⟨20, .inr rfl, by rw [e]; exact place_no (.inr ht)⟩
    | true =>
      obtain ⟨p0, p1, _⟩ := plc_in (ok_all a) ht
      refine .inr ⟨(plc s t).toNat, by omega, ?_, rfl⟩
      rw [e, place_yes a ht, Int.toNat_of_nonneg p0]
theorem at_yes {s d t : List Int} {k : Nat} {x : Int} (h : pinV s d t = ((k : Int), 0)) (hx : d[k]? = some x) : atV s d t = (x, 0) := by
  unfold atV; rw [h]; simp [hx]
theorem at_err {s d t : List Int} {e : Int} (h : pinV s d t = (0, e)) (he : e = 30 ∨ e = 20) : atV s d t = (0, e) := by
  unfold atV; rw [h]; rcases he with rfl | rfl <;> rfl
theorem pin_no {s d : List Int} (t : List Int) (h : tokV s d = false) : pinV s d t = (0, 30) := by unfold pinV; rw [h]; rfl
theorem pin_is {s d : List Int} (t : List Int) (h : tokV s d = true) : pinV s d t = placeV s t := by unfold pinV; rw [h]; rfl
end TnB
/-- The number and the error, the answer being that. -/
theorem RetK.of {r : Int × Int} {n err : Int} {w w' : World} (h : r = (n, err)) (k : Kp w w') : RetK r.1 r.2 w (.returned (.tuple #[.int .i64 n, .int .i64 err])) w' := ⟨by rw [h], k⟩

set_option maxHeartbeats 1000000 in
theorem pin_any (A B C : Option Addr) (c d g : Nat) (s xs t : List Int) (w : World) (hA : Rd w A s) (hB : Rd w B xs) (hC : Rd w C t) :
    Calls Tryz.prog 137 #[.agg #[.slice A s.length c, .slice B xs.length d], .slice C t.length g] w (RetK (pinV s xs t).1 (pinV s xs t).2 w) := by
  have hl := hA.len
  have gl := hB.len
  have kl := hC.len
  have K0 : Hid (Kp w (w.alloc (.cells #[.slice A s.length c, .slice B xs.length d] 25))) := Kp.alloc_ _ _
  have HT := Lib.hid (tcheck_any A B c d s xs _ (hA.kp K0.out) (hB.kp K0.out))
  cases ht : tokV s xs with
  | false =>
    rw [ht] at HT
    have HF := Lib.hid (TnB.pin_no t ht)
    clear ht
    go_enter Tryz.func137, Tryz.ntmps137
    go_wp2_with fail
    refine (Calls.mono (Hid.out HT)) ?_; rintro e w1 ⟨rfl, k1⟩
    go_wp2
    go_ret2
    exact RetK.of HF.out (K0.out.tr k1)
  | true =>
    rw [ht] at HT
    have HF := Lib.hid (TnB.pin_is t ht)
    clear ht
    obtain ⟨p, hp⟩ : ∃ p, p = placeV s t := ⟨_, rfl⟩
    have HP : Hid (∀ W, Kp w W → Calls Tryz.prog 145 #[.slice A s.length c, .slice C t.length g] W (RetN p W)) := fun W k => by rw [hp]; exact place_any A C c g s t W (hA.kp k) (hC.kp k)
    rw [← hp] at HF
    clear hp
    go_enter Tryz.func137, Tryz.ntmps137
    go_wp2_with fail
    refine (Calls.mono (Hid.out HT)) ?_; rintro e w1 ⟨rfl, k1⟩
    have c0 : w1.cell? ⟨w.heap.size, 0, none⟩ = some (.slice A s.length c) := (k1.cell (p := ⟨w.heap.size, 0, none⟩) (by simp)).trans (World.cell?_alloc_at _ _ _ 0 rfl)
    have K1 := Lib.hid (K0.out.tr k1)
    clear k1
    go_wp2_with fail
    refine (Calls.mono (HP.out _ K1.out)) ?_; rintro e w2 ⟨rfl, n, rfl⟩
    go_wp2
    go_ret2
    exact RetK.of HF.out (K1.out.tr (Kp.drewN_ _ _))

set_option maxHeartbeats 1000000 in
theorem at_any (A B C : Option Addr) (c d g : Nat) (s xs t : List Int) (w : World) (hA : Rd w A s) (hB : Rd w B xs) (hC : Rd w C t) :
    Calls Tryz.prog 123 #[.agg #[.slice A s.length c, .slice B xs.length d], .slice C t.length g] w (RetK (atV s xs t).1 (atV s xs t).2 w) := by
  have hl := hA.len
  have gl := hB.len
  have kl := hC.len
  have K0 : Hid (Kp w (w.alloc (.cells #[.slice A s.length c, .slice B xs.length d] 25))) := Kp.alloc_ _ _
  have HT := Lib.hid (pin_any A B C c d g s xs t _ (hA.kp K0.out) (hB.kp K0.out) (hC.kp K0.out))
  rcases TnB.pin_cases s xs t with ⟨e, he, hp⟩ | ⟨k, hk, hp, _⟩
  · rw [hp] at HT
    have HF := Lib.hid (TnB.at_err hp he)
    clear hp
    rcases he with rfl | rfl
    all_goals
      go_enter Tryz.func123, Tryz.ntmps123
      go_wp2_with fail
      refine (Calls.mono (Hid.out HT)) ?_; rintro e w1 ⟨rfl, k1⟩
      go_wp2
      go_ret2
      exact RetK.of HF.out (K0.out.tr k1)
  · rw [hp] at HT
    obtain ⟨bd, x, rfl, hlt, hx, hc⟩ := hB.at_ hk
    have HF := Lib.hid (TnB.at_yes hp hx)
    clear hp hx
    go_enter Tryz.func123, Tryz.ntmps123
    go_wp2_with fail
    refine (Calls.mono (Hid.out HT)) ?_; rintro e w1 ⟨rfl, k1⟩
    have c0 : w1.cell? ⟨w.heap.size, 1, none⟩ = some (.slice (some bd) xs.length d) := (k1.cell (p := ⟨w.heap.size, 1, none⟩) (by simp)).trans (World.cell?_alloc_at _ _ _ 1 rfl)
    have c1 : w1.cell? (bd.add k) = some (.int .i64 x) := ((K0.out.tr k1).cell (by rw [block_of_add]; exact hlt)).trans hc
    have K1 := Lib.hid (K0.out.tr k1)
    clear k1 hc
    go_wp2
    go_ret2
    exact RetK.of HF.out K1.out

end Go.Proofs.YtdbncanedokinaaGreat

/- A tensor with another number at an index: what it answers, and the document's. -/
namespace Go.Proofs.YtdbncanedokinaaGreat
open Go.RowKit Go.Proofs.ShM

section
variable {w w' : World} {A B : Option Addr} {xs : List Int} {v : Value} {b n c : Nat}
theorem Rd.put_ (h : Rd w A xs) {p : Addr} (hp : ∀ ad, A = some ad → ad.block ≠ p.block) (u : Value) : Rd (w.setCell p u) A xs :=
  ⟨h.1, fun hn => by
    obtain ⟨ad, e, hb, hc⟩ := h.2 hn
    refine ⟨ad, e, by rw [World.size_setCell]; exact hb, fun j x hx => ?_⟩
    rw [World.cell?_setCell_other]
    · exact hc j x hx
    · intro e'
      exact hp ad e (by rw [e', block_of_add])⟩
theorem Own.put_ (h : Own b w v xs) {p : Addr} (hp : p.block < b) (u : Value) : Own b (w.setCell p u) v xs :=
  h.of_block fun g hg => by
    have := h.from_ hg
    exact Below.heap_setCell _ _ _ g (by omega)
/-- A list of the call's own that is not empty. -/
theorem Own.addr (h : Own b w (.slice A n c) xs) (hx : 0 < xs.length) : ∃ g, A = some ⟨g, 0, none⟩ ∧ b ≤ g ∧ g < w.heap.size := by
  rcases h.2 with ⟨e, h0⟩ | ⟨g, cap, cur, e, hb, hh, _⟩
  · omega
  · injection e with e1 _ _
    exact ⟨g, e1, hb, (Array.getElem?_eq_some_iff.1 hh).1⟩
theorem Own.where_ (h : Own b w v xs) {g : Nat} (hg : v.ownBlock = some g) : b ≤ g ∧ g < w.heap.size := by
  rcases h.2 with ⟨rfl, _⟩ | ⟨g', cap, cur, rfl, hb, hh, _⟩
  · cases hg
  · injection hg with hg
    subst hg
    exact ⟨hb, (Array.getElem?_eq_some_iff.1 hh).1⟩
theorem Own.ad (h : Own b w (.slice A n c) xs) {ad : Addr} (hA : A = some ad) : b ≤ ad.block ∧ ad.block < w.heap.size := by
  subst hA
  exact h.where_ rfl
theorem Sl.put_ (h : Sl w A c xs) {p : Addr} (hp : ∀ ad, A = some ad → ad.block ≠ p.block) (u : Value) : Sl (w.setCell p u) A c xs := ⟨h.rd.put_ hp u, h.le, h.cap⟩
theorem Sl.of (h : Rd w A xs) (hc : xs.length ≤ c ∧ c ≤ 9223372036854775807) : Sl w A c xs := ⟨h, hc.1, hc.2⟩
theorem Sl.room (h : Sl w A c xs) : xs.length ≤ c ∧ c ≤ 9223372036854775807 := ⟨h.le, h.cap⟩
theorem Sl.drew (h : Sl w A c xs) : Sl w.drew A c xs := ⟨h.rd, h.le, h.cap⟩
theorem Sl.drewN (h : Sl w A c xs) (k : Nat) : Sl (w.drewN k) A c xs := ⟨h.rd, h.le, h.cap⟩
theorem Sl.alloc_ (h : Sl w A c xs) (o : Obj) : Sl (w.alloc o) A c xs := h.kp (Kp.alloc_ _ _)
theorem Kp.al (h : Kp w w') (o : Obj) : Kp w (w'.alloc o) := h.tr (Kp.alloc_ _ _)
theorem Own.mono (h : Own b w v xs) {b' : Nat} (hb : b' ≤ b) : Own b' w v xs := by
  refine ⟨h.1, ?_⟩
  rcases h.2 with h0 | ⟨g, cap, cur, e, hg, r⟩
  · exact .inl h0
  · exact .inr ⟨g, cap, cur, e, Nat.le_trans hb hg, r⟩
end

/-- The answer is the tensor and the error; nothing that was there has changed. -/
def RetT (r : Tn) (w : World) (e : Ending) (w' : World) : Prop :=
  ∃ A c B d, e = .returned (.tuple #[.agg #[.slice A r.1.length c, .slice B r.2.1.length d], .int .i64 r.2.2]) ∧ Sl w' A c r.1 ∧ Sl w' B d r.2.1 ∧ Kp w w'
theorem RetT.of {r : Tn} {l m : List Int} {err : Int} {w w' : World} {A B : Option Addr} {c d : Nat} (h : r = (l, m, err)) (hA : Sl w' A c l) (hB : Sl w' B d m) (k : Kp w w') :
    RetT r w (.returned (.tuple #[.agg #[.slice A l.length c, .slice B m.length d], .int .i64 err])) w' := by
  subst h; exact ⟨A, c, B, d, rfl, hA, hB, k⟩
theorem RetT.on {r : Tn} {l m : List Int} {a b : Nat} {err : Int} {w w' : World} {A B : Option Addr} {c d : Nat} (h : r = (l, m, err)) (ha : a = l.length) (hb : b = m.length) (hA : Sl w' A c l) (hB : Sl w' B d m) (k : Kp w w') :
    RetT r w (.returned (.tuple #[.agg #[.slice A a c, .slice B b d], .int .i64 err])) w' := by
  subst ha hb; exact RetT.of h hA hB k
theorem RetT.err {r : Tn} {err : Int} {w w' : World} (h : r = ([], [], err)) (k : Kp w w') : RetT r w (.returned (.tuple #[.agg #[.slice none 0 0, .slice none 0 0], .int .i64 err])) w' :=
  RetT.of (A := none) (B := none) h (Sl.nil_ _) (Sl.nil_ _) k

/-- The tensor handed in lies in a block, its answer's block behind it. -/
structure Fr (w : World) (A : Option Addr) (n c : Nat) (B : Option Addr) (m d : Nat) (w' : World) : Prop where
  kp : Kp w w'
  b0 : w'.cell? ⟨w.heap.size, 0, none⟩ = some (.slice A n c)
  b1 : w'.cell? ⟨w.heap.size, 1, none⟩ = some (.slice B m d)
  r0 : w'.cell? ⟨w.heap.size + 1, 0, none⟩ = some (.slice none 0 0)
  r1 : w'.cell? ⟨w.heap.size + 1, 1, none⟩ = some (.slice none 0 0)
  f0 : w'.frozen? ⟨w.heap.size + 1, 0, none⟩ = false
  f1 : w'.frozen? ⟨w.heap.size + 1, 1, none⟩ = false
  sz : w.heap.size + 2 ≤ w'.heap.size
theorem Fr.tr {w : World} {A : Option Addr} {n c : Nat} {B : Option Addr} {m d : Nat} {a b : World} (h : Fr w A n c B m d a) (k : Kp a b) : Fr w A n c B m d b where
  kp := h.kp.tr k
  b0 := (k.cell (p := ⟨w.heap.size, 0, none⟩) (by have := h.sz; show w.heap.size < _; omega)).trans h.b0
  b1 := (k.cell (p := ⟨w.heap.size, 1, none⟩) (by have := h.sz; show w.heap.size < _; omega)).trans h.b1
  r0 := (k.cell (p := ⟨w.heap.size + 1, 0, none⟩) (by have := h.sz; show w.heap.size + 1 < _; omega)).trans h.r0
  r1 := (k.cell (p := ⟨w.heap.size + 1, 1, none⟩) (by have := h.sz; show w.heap.size + 1 < _; omega)).trans h.r1
  f0 := (k.frozen (p := ⟨w.heap.size + 1, 0, none⟩) (by have := h.sz; show w.heap.size + 1 < _; omega)).trans h.f0
  f1 := (k.frozen (p := ⟨w.heap.size + 1, 1, none⟩) (by have := h.sz; show w.heap.size + 1 < _; omega)).trans h.f1
  sz := Nat.le_trans h.sz k.size
theorem Fr.mk_ (w : World) (A : Option Addr) (n c : Nat) (B : Option Addr) (m d : Nat) (t : TypeId) : Fr w A n c B m d ((w.alloc (.cells #[.slice A n c, .slice B m d] t)).alloc (.cells #[.slice none 0 0, .slice none 0 0] t)) where
  kp := (Kp.alloc_ _ _).tr (Kp.alloc_ _ _)
  b0 := by simp
  b1 := by simp
  r0 := by simp
  r1 := by simp
  f0 := by simp
  f1 := by simp
  sz := by simp
theorem Fr.end_ {w : World} {A : Option Addr} {n c : Nat} {B : Option Addr} {m d : Nat} {a : World} (h : Fr w A n c B m d a) (x y : Value) : Kp w ((a.setCell ⟨w.heap.size + 1, 0, none⟩ x).setCell ⟨w.heap.size + 1, 1, none⟩ y) :=
  (h.kp.setCell (p := ⟨w.heap.size + 1, 0, none⟩) (by simp) x).setCell (p := ⟨w.heap.size + 1, 1, none⟩) (by simp) y

/-- A new tensor of the call's own. -/
def WR (w1 : World) (s xs : List Int) (v : Value) (wx : World) : Prop :=
  ∃ g AS cS gd cd, v = .pointer (some ⟨g, 0, none⟩) ∧ w1.heap.size ≤ g ∧ w1.heap.size ≤ gd ∧ g ≠ gd ∧ Kp w1 wx ∧ wx.cell? ⟨g, 0, none⟩ = some (.slice AS s.length cS) ∧ wx.cell? ⟨g, 1, none⟩ = some (.slice (some ⟨gd, 0, none⟩) xs.length cd) ∧
    Sl wx AS cS s ∧ Own w1.heap.size wx (.slice (some ⟨gd, 0, none⟩) xs.length cd) xs ∧ ∀ ad, AS = some ad → ad.block ≠ gd ∧ w1.heap.size ≤ ad.block

theorem cell_ne {w : World} {p q : Addr} {u v : Value} (h : p ≠ q) (hc : w.cell? q = some v) : (w.setCell p u).cell? q = some v := by
  rw [World.cell?_setCell_other]
  · exact hc
  · exact h
theorem some_ne {w : World} {p q : Addr} {u : Value} (h : p ≠ q) (hc : (w.cell? q).isSome = true) : ((w.setCell p u).cell? q).isSome = true := by
  rw [World.cell?_setCell_other]
  · exact hc
  · exact h
theorem WR.set_ {w1 w2 w3 : World} {s xs : List Int} {AS AD : Option Addr} {cS cD bS bD g : Nat} (hx : 0 < xs.length) (oS : Own bS w2 (.slice AS s.length cS) s) (k23 : Kp w2 w3) (oD : Own bD w3 (.slice AD xs.length cD) xs) (hS : w1.heap.size ≤ bS) (hD : w2.heap.size ≤ bD)
    (k13 : Kp w1 w3) (hg : w1.heap.size ≤ g) (gD : g < bD) (gS : g < bS ∨ w2.heap.size ≤ g) (c0 : (w3.cell? ⟨g, 0, none⟩).isSome = true) (c1 : (w3.cell? ⟨g, 1, none⟩).isSome = true) :
    WR w1 s xs (.pointer (some ⟨g, 0, none⟩)) ((w3.setCell ⟨g, 0, none⟩ (.slice AS s.length cS)).setCell ⟨g, 1, none⟩ (.slice AD xs.length cD)) := by
  obtain ⟨gd, rfl, hd1, hd2⟩ := oD.addr hx
  have c1' : ((w3.setCell ⟨g, 0, none⟩ (.slice AS s.length cS)).cell? ⟨g, 1, none⟩).isSome = true := some_ne (by simp) c1
  refine ⟨g, AS, cS, gd, cD, rfl, hg, by omega, by omega, (k13.setCell (p := ⟨g, 0, none⟩) hg _).setCell (p := ⟨g, 1, none⟩) hg _, ?_, World.cell?_setCell_same' _ _ _ c1', ?_, ?_, ?_⟩
  · exact cell_ne (by simp) (World.cell?_setCell_same' _ _ _ c0)
  · have hne : ∀ ad, AS = some ad → ad.block ≠ g := fun ad e => by have := oS.ad e; omega
    exact ((oS.sl.kp k23).put_ hne _).put_ hne _
  · exact (((oD.put_ (p := ⟨g, 0, none⟩) gD _).put_ (p := ⟨g, 1, none⟩) gD _)).mono (by omega)
  · exact fun ad e => by have := oS.ad e; omega
end Go.Proofs.YtdbncanedokinaaGreat

/- The document's tensor with another number at an index, one of one number, and whether two are the same: what each answers. -/
namespace Go.Proofs.YtdbncanedokinaaGreat
open Go.RowKit Go.Proofs.ShM

namespace TnD
end TnD

end Go.Proofs.YtdbncanedokinaaGreat

/- What math/bits answers of a product of two words. -/
namespace Go.Proofs.YtdbncanedokinaaGreat
open Go.RowKit

namespace FixB
theorem mask (a : Nat) (ha : a < 18446744073709551616) : bits .and .u64 (a : Int) 4294967295 = ((a % 4294967296 : Nat) : Int) := by
  have h := bits_and_u64_nat a 4294967295 ha (by omega)
  rw [show a &&& 4294967295 = a % 4294967296 from Nat.and_two_pow_sub_one_eq_mod a 32] at h
  exact h
theorem divc (a : Nat) : (a : Int) / 4294967296 = ((a / 4294967296 : Nat) : Int) := by omega
theorem mulc (a b : Nat) : (a : Int) * (b : Int) = ((a * b : Nat) : Int) := (Int.natCast_mul a b).symm
theorem addc (a b : Nat) : (a : Int) + (b : Int) = ((a + b : Nat) : Int) := (Int.natCast_add a b).symm
theorem wrapc (a : Nat) (ha : a < 18446744073709551616) : IntKind.u64.wrap (a : Int) = (a : Int) := by rw [IntKind.wrap_u64]; omega
theorem wrapm (a : Nat) : IntKind.u64.wrap (a : Int) = ((a % 18446744073709551616 : Nat) : Int) := by rw [IntKind.wrap_u64]; omega
end FixB

set_option maxHeartbeats 1000000 in
theorem mul64_any (x y : Nat) (hx : x < 18446744073709551616) (hy : y < 18446744073709551616) (w : World) :
    Calls Tryz.prog 134 #[.int .u64 x, .int .u64 y] w fun e w' => e = .returned (.tuple #[.int .u64 ((x * y / 18446744073709551616 : Nat) : Int), .int .u64 ((x * y % 18446744073709551616 : Nat) : Int)]) ∧ w = w' := by
  obtain ⟨bd, bt, bw, hhi⟩ := Lib.mul64_hi x y hx hy
  have ba := Lib.half_mul_le (a := x / 4294967296) (b := y / 4294967296) (by omega) (by omega)
  have bb := Lib.half_mul_le (a := x / 4294967296) (b := y % 4294967296) (by omega) (by omega)
  have bc := Lib.half_mul_le (a := x % 4294967296) (b := y / 4294967296) (by omega) (by omega)
  have ba' : x / 4294967296 * (y / 4294967296) < 18446744073709551616 := by omega
  have bb' : x / 4294967296 * (y % 4294967296) < 18446744073709551616 := by omega
  have bc' : x % 4294967296 * (y / 4294967296) < 18446744073709551616 := by omega
  have b1 : x / 4294967296 * (y / 4294967296) + (x / 4294967296 * (y % 4294967296) + x % 4294967296 * (y % 4294967296) / 4294967296) / 4294967296 < 18446744073709551616 := by omega
  have b2 : x / 4294967296 * (y / 4294967296) + (x / 4294967296 * (y % 4294967296) + x % 4294967296 * (y % 4294967296) / 4294967296) / 4294967296 + ((x / 4294967296 * (y % 4294967296) + x % 4294967296 * (y % 4294967296) / 4294967296) % 4294967296 + x % 4294967296 * (y / 4294967296)) / 4294967296 < 18446744073709551616 := by omega
  go_enter Tryz.func134, Tryz.ntmps134
  go_wp2
  simp only [FixB.mask x hx, FixB.mask y hy, FixB.divc, FixB.mulc, FixB.addc, FixB.wrapc _ bd, FixB.wrapc _ bb', FixB.wrapc _ bt, FixB.mask _ bt, FixB.wrapc _ bc', FixB.wrapc _ bw, FixB.wrapc _ ba', FixB.wrapc _ b1, FixB.wrapc _ b2, FixB.wrapm (x * y)]
  rw [hhi]
  go_ret2
  exact ⟨rfl, rfl⟩


set_option maxHeartbeats 400000 in
theorem mul_any (x y : Nat) (hx : x < 18446744073709551616) (hy : y < 18446744073709551616) (w : World) :
    Calls Tryz.prog 120 #[.int .u64 x, .int .u64 y] w fun e w' => e = .returned (.tuple #[.int .u64 ((x * y / 18446744073709551616 : Nat) : Int), .int .u64 ((x * y % 18446744073709551616 : Nat) : Int)]) ∧ w = w' := by
  have HC := Lib.hid (mul64_any x y hx hy w)
  generalize ((x * y / 18446744073709551616 : Nat) : Int) = p at *
  generalize ((x * y % 18446744073709551616 : Nat) : Int) = q at *
  clear hx hy
  go_enter Tryz.func120, Tryz.ntmps120
  go_wp2_with fail
  refine (Calls.mono (Hid.out HC)) ?_; rintro e w1 ⟨rfl, rfl⟩
  go_wp2
  go_ret2
  exact ⟨rfl, rfl⟩
end Go.Proofs.YtdbncanedokinaaGreat

/- slices.Repeat of one number: what it answers. -/
namespace Go.Proofs.YtdbncanedokinaaGreat
open Go.RowKit Go.Proofs.ShM

/-- m numbers n, then noughts, k cells. -/
def repL (n : Int) (m k : Nat) : List Int := List.replicate m n ++ List.replicate (k - m) 0
theorem repL_len {n : Int} {m k : Nat} (h : m ≤ k) : (repL n m k).length = k := by unfold repL; simp; omega
theorem repL_end (n : Int) (k : Nat) : repL n k k = List.replicate k n := by unfold repL; simp
/-- The row, as cells. -/
def repC (n : Int) (m k : Nat) : List Value := (repL n m k).map (Value.int .i64)
theorem repC_len {n : Int} {m k : Nat} (h : m ≤ k) : (repC n m k).length = k := by unfold repC; rw [List.length_map, repL_len h]
theorem repC_zero (n : Int) (k : Nat) : List.replicate k (Value.int .i64 0) = repC n 0 k := by unfold repC repL; simp
theorem rep_splice (n : Int) (m k c : Nat) : splice (repC n m k) m (List.replicate c (Value.int .i64 n)) = repC n (m + c) k := by
  unfold splice repC repL
  simp only [List.map_append, List.map_replicate, List.length_replicate]
  rw [List.take_append_of_le_length (by simp), List.take_of_length_le (by simp), List.drop_append]
  simp only [List.length_replicate, List.drop_replicate]
  rw [show m - (m + c) = 0 by omega, show m + c - m = c by omega, show k - m - c = k - (m + c) by omega, ← List.append_assoc, List.replicate_append_replicate]
  rfl
theorem repC_at {n : Int} {m k j : Nat} (h : j < m) : (repC n m k)[j]? = some (Value.int .i64 n) := by
  unfold repC repL
  rw [List.getElem?_map, List.getElem?_append_left (by simpa using h), List.getElem?_replicate, if_pos h]; rfl
theorem alloc_new (w : World) (o : Obj) : (w.alloc o).heap[w.heap.size]? = some o := by
  show (w.heap.push o)[w.heap.size]? = some o
  simp
theorem cell_of_row {w : World} {g : Nat} {cs : List Value} {t : TypeId} (h : w.heap[g]? = some (.cells cs.toArray t (0, 0))) (j : Nat) {v : Value} (hv : cs[j]? = some v) : w.cell? ⟨g, j, none⟩ = some v := by
  simp [World.cell?, h, hv]
theorem Own.of_row {B g k : Nat} {w : World} {xs : List Int} (hg : w.heap[g]? = some (.cells (xs.map (Value.int .i64)).toArray 3 (0, 0))) (hB : B ≤ g) (hk : xs.length = k) (hm : k ≤ 1000000) : Own B w (.slice (some ⟨g, 0, none⟩) k k) xs := by
  subst hk
  exact ⟨by simp, .inr ⟨g, xs.length, _, rfl, hB, hg, Nat.le_refl _, by unfold maxLen; omega, by simp, by rw [Nat.mul_one]; exact List.take_of_length_le (by simp)⟩⟩

theorem RetO.on {xs : List Int} {n c : Nat} {A : Option Addr} {w w' : World} (hn : n = xs.length) (h : Own w.heap.size w' (.slice A n c) xs) (k : Kp w w') : RetO xs w (.returned (.slice A n c)) w' := by
  subst hn; exact ⟨A, c, rfl, h, k⟩

set_option maxHeartbeats 2000000 in
theorem repeat_any (n : Int) (k : Nat) (b : Nat) (w : World) (h0 : 0 < k) (hk : k ≤ 64) (hb : b < w.heap.size) (hc : w.cell? ⟨b, 0, none⟩ = some (.int .i64 n)) :
    Calls Tryz.prog 90 #[.slice (some ⟨b, 0, none⟩) 1 1, .int .i64 (k : Int)] w (RetO (List.replicate k n) w) := by
  have HM : Hid (Calls Tryz.prog 120 #[.int .u64 1, .int .u64 (k : Int)] w fun e w' => e = .returned (.tuple #[.int .u64 0, .int .u64 (k : Int)]) ∧ w = w') := by
    have hh := mul_any 1 k (by omega) (by omega) w
    rw [show 1 * k / 18446744073709551616 = 0 by omega, show 1 * k % 18446744073709551616 = k by omega] at hh
    exact hh
  have e1 : IntKind.u64.wrap (k : Int) = k := IntWalk.u64_in _ (by omega)
  have e2 : IntKind.i64.wrap (k : Int) = k := IntWalk.i64_in _ (by omega)
  have d1 : decide ((9223372036854775807 : Int) < (k : Int)) = false := by simp; omega
  have hmk := fun W => run_mk W k (by omega)
  obtain ⟨cs, hcs⟩ : ∃ cs, cs = (List.replicate k (Value.int .i64 0)).toArray := ⟨_, rfl⟩
  rw [← hcs] at hmk
  have HCS := Lib.hid hcs
  have HC := Lib.hid hc
  clear hcs hc
  go_enter Tryz.func90, Tryz.ntmps90
  go_wp2_with fail
  refine (Calls.mono (Hid.out HM)) ?_; rintro e w1 ⟨rfl, rfl⟩
  go_upto_region 7 with fail
  have hs1 : (Tryz.prog.info? 3).map (·.size) = some 1 := by kernel_rfl
  have hrow : (w.alloc (.cells cs 3)).heap[w.heap.size]? = some (.cells (repC n 0 k).toArray 3 (0, 0)) := by rw [HCS.out, repC_zero n]; exact alloc_new w _
  have hsrc : (w.alloc (.cells cs 3)).cell? ⟨b, 0, none⟩ = some (.int .i64 n) := ((Kp.alloc_ w _).cell (p := ⟨b, 0, none⟩) hb).trans HC.out
  have hpos : 0 < (List.replicate 1 (Value.int .i64 n)).length → some (⟨w.heap.size, 0, none⟩ : Addr) = some ⟨w.heap.size, 0, none⟩ ∧ ∃ ad, some (⟨b, 0, none⟩ : Addr) = some ad ∧ ∀ j v, (List.replicate 1 (Value.int .i64 n))[j]? = some v → (w.alloc (.cells cs 3)).cell? (ad.add j) = some v := fun _ => ⟨rfl, ⟨b, 0, none⟩, rfl, fun j v hv => by
    cases j with
    | zero => injection hv with hv; rw [← hv]; exact hsrc
    | succ j => simp at hv⟩
  go_wp2_with (refine wpList_copy_splice rfl (.tmp 31) (.tmp 32) 23 23 rfl 3 Tryz.underlying23 hs1 _ _ _ _ _ _ rfl rfl w.heap.size 0 (repC n 0 k) 3 hrow (List.replicate 1 (Value.int .i64 n)) (by show 1 = min 1 k; omega) hpos (by rw [repC_len (Nat.zero_le _)]; simp; omega) (by simp [Value.oneCell']) w.heap.size w (Kp.alloc_ w _) (Nat.le_refl _) ?_; intro w2 HR hB)
  clear hpos hrow hsrc d1 e1 e2 hmk
  go_loopw [8] (fun i wr => ∃ m : Nat, i = .int .i64 m ∧ m ≤ k ∧ 1 ≤ m ∧ Hid (wr.heap[w.heap.size]? = some (.cells (repC n m k).toArray 3 (0, 0))) ∧ Hid (Below w.heap.size w wr)) (fun i _ => k - (intOf i).toNat)
  case atStart => exact ⟨1, rfl, h0, Nat.le_refl _, by have := HR.out; rw [rep_splice n 0 k 1] at this; exact this, hB⟩
  case round =>
    obtain ⟨m, rfl, hm, hm1, hr, hbl⟩ := hrel
    by_cases hlt : m < k
    · obtain ⟨c, hcn⟩ : ∃ c, c = min m (k - m) := ⟨_, rfl⟩
      have hc1 : c ≤ m := by omega
      have hc2 : m + c ≤ k := by omega
      have hc3 : 1 ≤ c := by omega
      have HCN := Lib.hid hcn
      have hne : ¬ k = m := by omega
      clear hcn
      have hone : ∀ v ∈ List.replicate c (Value.int .i64 n), v.oneCell' = true := fun v hv => by obtain ⟨_, rfl⟩ := List.mem_replicate.1 hv; rfl
      have hsrc : ∀ j v, (List.replicate c (Value.int .i64 n))[j]? = some v → wr.drew.cell? ((⟨w.heap.size, 0, none⟩ : Addr).add j) = some v := fun j v hv => by
        rw [Go.WideShapes.add_plain, Nat.zero_add]
        have hj : j < c := by simpa using (List.getElem?_eq_some_iff.1 hv).1
        rw [List.getElem?_replicate, if_pos hj] at hv
        exact (cell_of_row hr.out j (repC_at (by omega))).trans hv
      have HO := Lib.hid (And.intro hone hsrc)
      clear hone hsrc
      go_wp2
      go_region_law (refine step_copy_splice rfl (.tmp 41) (.tmp 44) 23 23 rfl 3 Tryz.underlying23 hs1 (some ⟨w.heap.size, m, none⟩) (some ⟨w.heap.size, 0, none⟩) (k - m) (k - m) m k (by simp [Act.eval, Act.put]) (by simp [Act.eval, Act.put]) w.heap.size m (repC n m k) 3 hr.out (List.replicate c (Value.int .i64 n)) (by simpa using HCN.out) (fun _ => ⟨rfl, _, rfl, HO.out.2⟩) (by rw [repC_len hm]; simpa using hc2) HO.out.1 w.heap.size w hbl.out.drew (Nat.le_refl _) ?_; intro w4 HG4 hb4)
      have HB := Lib.hid hb4
      clear hb4
      have e1 : IntKind.i64.wrap ((m : Int) + (c : Int)) = (m : Int) + (c : Int) := IntWalk.i64_in _ (by omega)
      go_wp2
      go_roundw
      case rel =>
        repeat apply Exists.intro
        refine ⟨⟨m + c, ?_, hc2, by omega, by have := HG4.out; rw [rep_splice n m k c] at this; exact this, HB.out⟩, rfl⟩
        simp [e1]
      case measure => simp [intOf, Act.put, e1]; omega
    · obtain rfl : m = k := by omega
      have HR2 := Lib.hid hr.out
      go_wp2
      go_ret
      have hrow := hr.out
      unfold repC at hrow
      rw [repL_end] at hrow
      exact RetO.on (by simp) (Own.of_row hrow (Nat.le_refl _) (by simp) (by omega)) hbl.out
end Go.Proofs.YtdbncanedokinaaGreat

/- The tensor of one number, the document's too, and whether two tensors are the same: what each answers. -/
namespace Go.Proofs.YtdbncanedokinaaGreat
open Go.RowKit Go.Proofs.ShM

namespace TnE
theorem full_no {s : List Int} (n : Int) (h : okS s = false) : fullV s n = ([], [], 20) := by unfold fullV; rw [h]; rfl
theorem full_yes {s : List Int} (n : Int) (h : okS s = true) : fullV s n = (s, List.replicate (sizeV s).toNat n, 0) := by unfold fullV; rw [if_pos h]
end TnE

/-- The answer's block. -/
structure Fs (w : World) (w' : World) : Prop where
  kp : Kp w w'
  r0 : w'.cell? ⟨w.heap.size, 0, none⟩ = some (.slice none 0 0)
  r1 : w'.cell? ⟨w.heap.size, 1, none⟩ = some (.slice none 0 0)
  f0 : w'.frozen? ⟨w.heap.size, 0, none⟩ = false
  f1 : w'.frozen? ⟨w.heap.size, 1, none⟩ = false
  sz : w.heap.size < w'.heap.size
theorem Fs.tb {w a b : World} (h : Fs w a) (k : Below (w.heap.size + 1) a b) : Fs w b where
  kp := h.kp.trans (k.mono (Nat.le_succ _))
  r0 := (k.cell (p := ⟨w.heap.size, 0, none⟩) (Nat.lt_succ_self _)).trans h.r0
  r1 := (k.cell (p := ⟨w.heap.size, 1, none⟩) (Nat.lt_succ_self _)).trans h.r1
  f0 := (k.frozen (p := ⟨w.heap.size, 0, none⟩) (Nat.lt_succ_self _)).trans h.f0
  f1 := (k.frozen (p := ⟨w.heap.size, 1, none⟩) (Nat.lt_succ_self _)).trans h.f1
  sz := Nat.lt_of_lt_of_le h.sz k.size
theorem Fs.tr {w a b : World} (h : Fs w a) (k : Kp a b) : Fs w b := h.tb (k.mono h.sz)
theorem Fs.mk_ (w : World) (t : TypeId) : Fs w (w.alloc (.cells #[.slice none 0 0, .slice none 0 0] t)) where
  kp := Kp.alloc_ _ _
  r0 := by simp
  r1 := by simp
  f0 := by simp
  f1 := by simp
  sz := by simp
theorem Fs.end_ {w a : World} (h : Fs w a) (x y : Value) : Kp w ((a.setCell ⟨w.heap.size, 0, none⟩ x).setCell ⟨w.heap.size, 1, none⟩ y) :=
  (h.kp.setCell (p := ⟨w.heap.size, 0, none⟩) (Nat.le_refl _) x).setCell (p := ⟨w.heap.size, 1, none⟩) (Nat.le_refl _) y

set_option maxHeartbeats 2000000 in
theorem full_any (A : Option Addr) (c : Nat) (s : List Int) (n : Int) (w : World) (hA : Rd w A s) :
    Calls Tryz.prog 44 #[.slice A s.length c, .int .i64 n] w (RetT (fullV s n) w) := by
  have hl := hA.len
  have F0 := Lib.hid (Fs.mk_ w 25)
  have HC := Lib.hid (check_any A c s _ (hA.kp F0.out.kp))
  cases ho : okS s with
  | false =>
    rw [ho] at HC
    have HF := Lib.hid (TnE.full_no n ho)
    clear ho
    go_enter Tryz.func44, Tryz.ntmps44
    go_wp2_with fail
    refine (Calls.mono (Hid.out HC)) ?_; rintro e w1 ⟨rfl, rfl⟩
    obtain ⟨_, r0, r1, f0, f1, _⟩ := F0.out
    go_wp2
    refine bodyPost_ret (by simp [results, Tryz.results44, go_sem, r0, r1]; try rfl) rfl ?_
    exact RetT.err HF.out F0.out.kp
  | true =>
    rw [ho] at HC
    have hp := ok_prod ho
    have hz := size_ok ho
    have hs3 : s.length ≤ 1000000 := by have := (ok_iff.1 ho).1; omega
    obtain ⟨k, hk⟩ : ∃ k : Nat, sizeV s = k := ⟨(sizeV s).toNat, by omega⟩
    have HF := Lib.hid (TnE.full_yes n ho)
    rw [hk, Int.toNat_natCast] at HF
    have HS : Hid (∀ W, Kp w W → Calls Tryz.prog 83 #[.slice A s.length c] W fun e w' => e = .returned (.int .i64 (k : Int)) ∧ W = w') := fun W kk => by
      have hh := size_any A c s W (hA.kp kk)
      rw [hk] at hh
      exact hh
    have k1 : 0 < k := by omega
    have k2 : k ≤ 64 := by omega
    have HL : Hid (∀ W, Kp w W → Calls Tryz.prog 29 #[.slice A s.length c] W (RetO s W)) := fun W kk => clone_any A c s W (hA.kp kk) hs3
    have G0 := Lib.hid (F0.out.kp.tr (Kp.alloc_ _ (.cells #[.int .i64 n] 3)))
    clear ho hp hz hs3 hk
    go_enter Tryz.func44, Tryz.ntmps44
    go_wp2_with fail
    refine (Calls.mono (Hid.out HC)) ?_; rintro e w1 ⟨rfl, rfl⟩
    go_wp2_with fail
    refine (Calls.mono (HS.out _ G0.out)) ?_; rintro e w1 ⟨rfl, rfl⟩
    go_wp2_with fail
    refine (repeat_any n k _ _ k1 k2 (by simp) (by simp)).mono ?_; rintro e w1 ⟨A1, c1, rfl, o1, kk1⟩
    rw [List.length_replicate] at o1 ⊢
    have F1 := Lib.hid ((F0.out.tr (Kp.alloc_ _ _)).tr kk1)
    have O1 := Lib.hid o1
    clear o1 kk1
    go_wp2_with fail
    refine (Calls.mono (HL.out _ F1.out.kp)) ?_; rintro e w2 ⟨A2, c2, rfl, o2, kk2⟩
    have F2 := Lib.hid (F1.out.tr kk2)
    have O2 := Lib.hid (And.intro o2 (And.intro (O1.out.kp kk2) F1.out.sz))
    clear o2 kk2
    obtain ⟨_, r0, r1, f0, f1, _⟩ := F2.out
    go_wp2
    refine bodyPost_ret (by simp [results, Tryz.results44, go_sem, r0, r1]; try rfl) rfl ?_
    exact RetT.on HF.out rfl (List.length_replicate ..).symm ((O2.out.1.put_ (p := ⟨w.heap.size, 0, none⟩) O2.out.2.2 _).put_ (p := ⟨w.heap.size, 1, none⟩) O2.out.2.2 _).sl
      ((O2.out.2.1.put_ (p := ⟨w.heap.size, 0, none⟩) (by simp; omega) _).put_ (p := ⟨w.heap.size, 1, none⟩) (by simp; omega) _).sl (F2.out.end_ _ _)

namespace TnE
end TnE

end Go.Proofs.YtdbncanedokinaaGreat

/- Whether two tensors are the same; the place that a place comes from, and the document's: what each answers. -/
namespace Go.Proofs.YtdbncanedokinaaGreat
open Go.RowKit Go.Proofs.ShM

set_option maxHeartbeats 2000000 in
theorem tsame_any (A B C D : Option Addr) (c d g h : Nat) (s xs t ys : List Int) (w : World) (hA : Rd w A s) (hB : Rd w B xs) (hC : Rd w C t) (hD : Rd w D ys) :
    Calls Tryz.prog 15 #[.agg #[.slice A s.length c, .slice B xs.length d], .agg #[.slice C t.length g, .slice D ys.length h]] w fun e w' => e = .returned (.bool ((s == t) && (xs == ys))) ∧ Kp w w' := by
  have l1 := hA.len
  have l2 := hB.len
  have l3 := hC.len
  have l4 := hD.len
  have K0 : Hid (Kp w ((w.alloc (.cells #[.slice A s.length c, .slice B xs.length d] 25)).alloc (.cells #[.slice C t.length g, .slice D ys.length h] 25))) := (Kp.alloc_ _ _).tr (Kp.alloc_ _ _)
  have H1 : Hid (∀ W, Kp w W → Calls Tryz.prog 13 #[.slice A s.length c, .slice C t.length g] W fun e w' => e = .returned (.bool (s == t)) ∧ ∃ n, w' = W.drewN n) := fun W k => same_any A C c g s t W (hA.kp k) (hC.kp k)
  have H2 : Hid (∀ W, Kp w W → Calls Tryz.prog 13 #[.slice B xs.length d, .slice D ys.length h] W fun e w' => e = .returned (.bool (xs == ys)) ∧ ∃ n, w' = W.drewN n) := fun W k => same_any B D d h xs ys W (hB.kp k) (hD.kp k)
  clear hA hB hC hD
  cases e1 : (s == t) with
  | false =>
    rw [e1] at H1
    clear e1
    go_enter Tryz.func15, Tryz.ntmps15
    go_wp2_with fail
    refine (Calls.mono (H1.out _ K0.out)) ?_; rintro e w1 ⟨rfl, n, rfl⟩
    go_wp2
    go_ret
    exact ⟨rfl, K0.out.tr (Kp.drewN_ _ _)⟩
  | true =>
    rw [e1] at H1
    clear e1
    obtain ⟨b, hb⟩ : ∃ b, b = (xs == ys) := ⟨_, rfl⟩
    rw [← hb] at H2 ⊢
    clear hb
    go_enter Tryz.func15, Tryz.ntmps15
    go_wp2_with fail
    refine (Calls.mono (H1.out _ K0.out)) ?_; rintro e w1 ⟨rfl, n, rfl⟩
    go_wp2_with fail
    refine (Calls.mono (H2.out _ (K0.out.tr (Kp.drewN_ _ _)))) ?_; rintro e w2 ⟨rfl, m, rfl⟩
    go_wp2
    go_ret
    exact ⟨by simp, K0.out.tr (Kp.drewN_ _ _)⟩

section
variable {w : World} {A : Option Addr} {x : List Int}
/-- What is left of a list behind its first j numbers. -/
def cutA (A : Option Addr) (c j : Nat) : Option Addr := if c = j then A else A.map (·.add j)
theorem Rd.cut (h : Rd w A x) {c j : Nat} (hc : x.length ≤ c) : Rd w (cutA A c j) (x.drop j) := by
  unfold cutA
  split
  · rename_i e
    rw [List.drop_eq_nil_of_le (by omega)]; exact Rd.nil _ _
  · refine ⟨by have := h.1; simp; omega, fun hp => ?_⟩
    obtain ⟨ad, rfl, hb, hcs⟩ := h.2 (by simp at hp; omega)
    refine ⟨ad.add j, rfl, by rw [block_of_add]; exact hb, fun i u hu => ?_⟩
    rw [List.getElem?_drop] at hu
    rw [add_of_add]
    exact hcs _ _ hu
/-- A slice of all from the j-th on. -/
theorem run_cut (W : World) (A : Option Addr) (n c j : Nat) (hj : j ≤ n) : (Instr.sliceAt 23 (.slice A n c) (some (.int .i64 (j : Int))) none none).run Tryz.prog W = .ok (.slice (cutA A c j) (n - j) (c - j)) W := by
  have hu : Tryz.prog.underlying 23 = some (.slice (Tryz.prog.elem 23)) := by kernel_rfl
  have hsz : ((sizeOf (Tryz.prog.elem 23)).run Tryz.prog W) = .ok 1 W := by
    obtain ⟨i, hi, _, h1, _⟩ := info_parts int_info
    simp [sizeOf, typeInfo, show Tryz.prog.elem 23 = 3 by kernel_rfl, hi, h1]
  rw [run_sliceAt_slice W _ _ _ _ _ hu, run_slice_l W _ A n c hu .i64 j (by omega) (by omega), hsz]
  simp [Result.andThen, sliced, cutA]
end

namespace TnF
/-- The masked index, so far: its first k numbers. -/
def Rel (s y : List Int) (k : Nat) (zs : List Int) : Prop := k ≤ s.length ∧ s.length ≤ y.length ∧ zs = maskL (s.take k) (y.take k)
theorem mask_snoc (s : List Int) : ∀ {y : List Int} {x z : Int}, s.length = y.length → maskL (s ++ [x]) (y ++ [z]) = maskL s y ++ [if x = 1 then 0 else z] := by
  induction s with
  | nil => intro y x z h; cases y with
    | nil => rfl
    | cons _ _ => simp at h
  | cons a s ih =>
    intro y x z h
    cases y with
    | nil => simp at h
    | cons b y => simp only [List.cons_append, maskL]; rw [ih (by simpa using h)]
theorem mask_len (s : List Int) : ∀ {y : List Int}, s.length ≤ y.length → (maskL s y).length = s.length := by
  induction s with
  | nil => intro y _; cases y <;> rfl
  | cons a s ih =>
    intro y h
    cases y with
    | nil => simp at h
    | cons b y => simp only [maskL, List.length_cons]; rw [ih (by simpa using h)]
theorem start {s y : List Int} (h : s.length ≤ y.length) : Rel s y 0 [] := ⟨Nat.zero_le _, h, by simp [maskL]⟩
theorem len {s y : List Int} {k : Nat} {zs : List Int} (h : Rel s y k zs) : zs.length = k := by
  obtain ⟨h1, h2, rfl⟩ := h
  rw [mask_len _ (by simp; omega)]
  simp; omega
theorem step {s y : List Int} {k : Nat} {zs ws : List Int} {x z v : Int} (h : Rel s y k zs) (hx : s[k]? = some x) (hz : y[k]? = some z) (hv : v = if x = 1 then 0 else z) (hw : ws = zs ++ [v]) : Rel s y (k + 1) ws := by
  obtain ⟨h1, h2, rfl⟩ := h
  have hk := (List.getElem?_eq_some_iff.1 hx).1
  refine ⟨hk, h2, ?_⟩
  rw [take_of hx, take_of hz, mask_snoc _ (by simp; omega), hw, hv]
theorem end_ {s y : List Int} {k : Nat} {zs : List Int} (h : Rel s y k zs) (hk : ¬ k < s.length) : zs = maskL s y := by
  obtain ⟨h1, h2, rfl⟩ := h
  obtain rfl : k = s.length := by omega
  rw [List.take_length]
  clear h1 hk
  induction s generalizing y with
  | nil => cases y <;> simp [maskL]
  | cons a s ih => cases y with
    | nil => simp at h2
    | cons b y =>
      simp only [List.length_cons, List.take_succ_cons, maskL]
      rw [ih (by simpa using h2)]
end TnF

namespace TnF
/-- The index in place, so far: its first k numbers behind j. -/
def Pl (s x : List Int) (j k : Nat) (zs : List Int) : Prop := k ≤ s.length ∧ s.length + j = x.length ∧ zs = x.take j ++ (maskL (s.take k) ((x.drop j).take k) ++ x.drop (j + k))
theorem pstart {s x : List Int} {j : Nat} (h : s.length + j = x.length) : Pl s x j 0 x := ⟨Nat.zero_le _, h, by simp [maskL]⟩
theorem pstep {s x : List Int} {j k : Nat} {zs ws : List Int} {a : Int} (h : Pl s x j k zs) (ha : s[k]? = some a) (hw : ws = if a = 1 then zs.set (j + k) 0 else zs) : Pl s x j (k + 1) ws := by
  obtain ⟨h1, h2, rfl⟩ := h
  have hk := (List.getElem?_eq_some_iff.1 ha).1
  obtain ⟨z, hz⟩ : ∃ z, x[j + k]? = some z := ⟨x[j + k], List.getElem?_eq_getElem (by omega)⟩
  have hz' : (x.drop j)[k]? = some z := by rw [List.getElem?_drop]; exact hz
  have e2 : x.drop (j + k) = z :: x.drop (j + (k + 1)) := drop_of hz
  have hl : (maskL (s.take k) ((x.drop j).take k)).length = k := by
    rw [mask_len _ (by simp; omega)]; simp; omega
  refine ⟨hk, h2, ?_⟩
  rw [take_of ha, take_of hz', mask_snoc _ (by simp; omega), hw, e2]
  split
  · rw [List.set_append_right _ _ (by simp; omega), List.set_append_right _ _ (by simp; omega)]
    have e3 : j + k - (x.take j).length - (maskL (s.take k) ((x.drop j).take k)).length = 0 := by simp [hl]; omega
    rw [e3]; simp
  · simp
theorem plen {s x : List Int} {j k : Nat} {zs : List Int} (h : Pl s x j k zs) : zs.length = x.length := by
  obtain ⟨h1, h2, rfl⟩ := h
  have hl : (maskL (s.take k) ((x.drop j).take k)).length = k := by
    rw [mask_len _ (by simp; omega)]; simp; omega
  simp [hl]; omega
theorem pend {s x : List Int} {j k : Nat} {zs : List Int} (h : Pl s x j k zs) (hk : ¬ k < s.length) : zs.drop j = maskL s (x.drop j) := by
  obtain ⟨h1, h2, rfl⟩ := h
  obtain rfl : k = s.length := by omega
  have e0 : (x.take j).length = j := by simp; omega
  have e1 : x.drop (j + s.length) = [] := List.drop_eq_nil_of_le (by omega)
  have e2 : (x.drop j).take s.length = x.drop j := List.take_of_length_le (by simp; omega)
  rw [List.drop_left' e0, e1, List.take_length, e2, List.append_nil]
end TnF

set_option maxHeartbeats 2000000 in
theorem source_any (A B : Option Addr) (c d : Nat) (s g : List Int) (p : Int) (w : World) (hA : Rd w A s) (hB : Rd w B g) (hf : fitsV s g = true) (p0 : 0 ≤ p) (p1 : p < sizeV g) :
    Calls Tryz.prog 132 #[.slice B g.length d, .int .i64 p, .slice A s.length c] w fun e w' => e = .returned (.int .i64 (srcI s g p)) ∧ Kp w w' := by
  obtain ⟨ok1, ok2, hle, _⟩ := fits_al hf
  have hs3 := (ok_iff.1 ok1).1
  have hg3 := (ok_iff.1 ok2).1
  have hsp := src_place hf p0 (by rw [← size_ok ok2]; exact p1)
  have hdl := digs_len g p
  obtain ⟨x, hx⟩ : ∃ x, x = digs g p := ⟨_, rfl⟩
  rw [← hx] at hsp hdl
  have HI : Hid (Calls Tryz.prog 136 #[.slice B g.length d, .int .i64 p] w (RetP (x, 0) w)) := by
    have hh := index_own B d g p w hB
    rw [index_yes p0 p1, ← hx] at hh
    exact hh
  obtain ⟨j, hj⟩ : ∃ j, g.length = s.length + j := ⟨g.length - s.length, by omega⟩
  rw [show g.length - s.length = j by omega] at hsp
  have HSP := Lib.hid hsp
  have HX := Lib.hid hdl
  clear hx hsp hdl hf p0 p1 ok1 ok2
  have HS := Lib.hid hA
  have HP : Hid (∀ W A1 n1 c1 y, Kp w W → Rd W A1 y → y = maskL s (x.drop j) → n1 = y.length → Calls Tryz.prog 145 #[.slice A s.length c, .slice A1 n1 c1] W (RetN (srcI s g p, 0) W)) := fun W A1 n1 c1 y k r e en => by
    have hh := place_any A A1 c c1 s y W (HS.out.kp k) r
    rw [e, HSP.out] at hh
    rw [en, e]
    exact hh
  obtain ⟨q, hq⟩ : ∃ q, q = srcI s g p := ⟨_, rfl⟩
  rw [← hq] at HP ⊢
  clear HSP hq hB
  obtain ⟨gl, hgl⟩ : ∃ gl, gl = g.length := ⟨_, rfl⟩
  rw [← hgl] at HI HX hj hg3 hle ⊢
  clear hgl
  have e1 : IntKind.i64.wrap ((gl : Int) - (s.length : Int)) = (j : Int) := by rw [IntWalk.i64_in _ (by omega)]; omega
  have HJ := Lib.hid hj
  have hjl : j ≤ gl := by omega
  have hsl3 : s.length ≤ 3 := hs3
  clear hj hle hA
  go_enter Tryz.func132, Tryz.ntmps132
  go_wp2_with fail
  refine (Calls.mono (Hid.out HI)) ?_; rintro e w1 ⟨A1, c1, rfl, o1, k1⟩
  have hz1 : ((x, (0 : Int)) : List Int × Int).1.length = gl := HX.out
  rw [hz1] at o1 ⊢
  obtain ⟨A3, hA3⟩ : ∃ A3, A3 = cutA A1 c1 j := ⟨_, rfl⟩
  obtain ⟨c3, hc3⟩ : ∃ c3, c3 = c1 - j := ⟨_, rfl⟩
  have hcut : ∀ W, (Instr.sliceAt 23 (.slice A1 gl c1) (some (.int .i64 (j : Int))) none none).run Tryz.prog W = .ok (.slice A3 s.length c3) W := fun W => by
    rw [hA3, hc3, run_cut W A1 gl c1 j hjl, show gl - j = s.length by have := HJ.out; omega]
  have K1 := Lib.hid k1
  have O1 := Lib.hid o1
  have HC := Lib.hid hA3
  have HR0 := Lib.hid (TnF.pstart (s := s) (x := x) (j := j) (by have := HJ.out; have := HX.out; omega))
  have HLE : Hid (gl ≤ c1) := by have := o1.sl.le; rw [← HX.out]; exact this
  clear o1 k1 hc3 hA3 HI hz1
  go_wp2
  go_loopw [9, 10, 28] (fun _ _ i wr => ∃ (k : Nat) (zs : List Int), i = .int .i64 k ∧ Hid (TnF.Pl s x j k zs) ∧ Hid (Own w.heap.size wr (.slice A1 gl c1) zs) ∧ Hid (Kp w wr)) (fun _ _ i _ => s.length - (intOf i).toNat)
  case atStart => exact ⟨0, x, rfl, HR0.out, O1.out, K1.out⟩
  case round =>
    obtain ⟨k, zs, rfl, hr, hown, hk⟩ := hrel
    by_cases hlt : k < s.length
    · obtain ⟨ad, x0, rfl, hbl, hx, hc⟩ := HS.out.at_ hlt
      have hc' : wr.cell? (ad.add k) = some (.int .i64 x0) := (hk.out.cell (by rw [block_of_add]; exact hbl)).trans hc
      have HX0 := Lib.hid hx
      clear hx hc hbl
      by_cases h1 : x0 = 1
      · subst h1
        have hzl : zs.length = gl := (TnF.plen hr.out).trans HX.out
        obtain ⟨gd, hA1, hg1, hg2⟩ := hown.out.addr (by have := HJ.out; omega)
        subst hA1
        obtain ⟨u, hu⟩ : ∃ u, zs[j + k]? = some u := ⟨zs[j + k]'(by have := HJ.out; omega), List.getElem?_eq_getElem _⟩
        have hne : c1 ≠ j := by have := HJ.out; have := HLE.out; omega
        have hA3 : A3 = some ⟨gd, j, none⟩ := by rw [HC.out]; unfold cutA; rw [if_neg hne]; simp [Go.WideShapes.add_plain]
        have hcz := hown.out.cell_ hu
        have hfz := hown.out.froz_ (j + k)
        have HN : Hid (zs.set (j + k) 0 = if (1 : Int) = 1 then zs.set (j + k) 0 else zs) := by show _ = _; rw [if_pos rfl]
        clear hu hzl hne
        subst hA3
        go_wp2
        go_roundw
        case rel => exact ⟨k + 1, zs.set (j + k) 0, by go_num, TnF.pstep hr.out HX0.out HN.out, hown.out.set_ _ _, hk.out.setCell (p := ⟨gd, j + k, none⟩) hg1 _⟩
        case measure => simp [intOf]; omega
      · have h2 : (x0 == 1) = false := by simpa using h1
        have HN : Hid (zs = if x0 = 1 then zs.set (j + k) 0 else zs) := by show zs = _; rw [if_neg h1]
        clear h1
        go_wp2
        go_roundw
        case rel => exact ⟨k + 1, zs, by go_num, TnF.pstep hr.out HX0.out HN.out, hown.out, hk.out⟩
        case measure => simp [intOf]; omega
    · have HZ := Lib.hid (TnF.pend hr.out hlt)
      have RZ : Hid (Rd wr A3 (zs.drop j)) := by
        show Rd wr A3 _
        rw [HC.out]
        exact hown.out.sl.rd.cut (by have := TnF.plen hr.out; have := HX.out; have := HLE.out; omega)
      have HLN : Hid (s.length = (zs.drop j).length) := by show s.length = _; have := TnF.plen hr.out; have := HX.out; have := HJ.out; simp; omega
      go_wp2_with fail
      refine (Calls.mono (HP.out _ _ _ _ _ hk.out RZ.out HZ.out HLN.out)) ?_; rintro e w3 ⟨rfl, n3, rfl⟩
      go_wp2
      go_ret
      exact ⟨rfl, hk.out.tr (Kp.drewN_ _ _)⟩
end Go.Proofs.YtdbncanedokinaaGreat

/- Sums of layer 1, and the document's; an append as one step of a region that draws; plain facts of what is stretched and folded. -/
namespace Go.Proofs.YtdbncanedokinaaGreat
open Go.RowKit Go.Proofs.ShM Go.Proofs.FixM

namespace TnAdd
theorem add_over {a b : Int} (ha : I64 a) (hb : I64 b) (h : (!(decide (wrap64 (a + b) < a) == decide (b < 0))) = true) : addV a b = (0, 10) := by
  unfold I64 at ha hb
  by_cases c : b < 0 <;> by_cases d : wrap64 (a + b) < a <;> simp [c, d] at h <;> (unfold wrap64 at d; exact put_out (by omega))
theorem add_fits {a b : Int} (ha : I64 a) (hb : I64 b) (h : (!(decide (wrap64 (a + b) < a) == decide (b < 0))) = false) : addV a b = (wrap64 (a + b), 0) := by
  unfold I64 at ha hb
  by_cases c : b < 0 <;> by_cases d : wrap64 (a + b) < a <;> simp [c, d] at h <;> (unfold wrap64 at d ⊢; unfold addV; rw [put_in (by omega) (by omega)]; congr 1; omega)
end TnAdd

set_option maxHeartbeats 400000 in
theorem add_any (a b : Int) (ha : I64 a) (hb : I64 b) (w : World) :
    Calls Tryz.prog 103 #[.int .i64 a, .int .i64 b] w fun e w' => e = .returned (.tuple #[.int .i64 (addV a b).1, .int .i64 (addV a b).2]) ∧ w = w' := by
  go_enter Tryz.func103, Tryz.ntmps103
  go_wp2
  all_goals go_ret2
  · exact ⟨ret_ints (TnAdd.add_over ha hb (by assumption)), rfl⟩
  · exact ⟨ret_ints (TnAdd.add_fits ha hb (by assumption)), rfl⟩

namespace TnG
/-! ### Stretched, place by place -/
theorem spread_no {s d : List Int} (g : List Int) (h : tokV s d = false) : spreadV s d g = ([], [], 30) := by unfold spreadV; rw [h]; rfl
theorem spread_misfit {s d g : List Int} (h : tokV s d = true) (k : fitsV s g = false) : spreadV s d g = ([], [], 20) := by unfold spreadV; rw [h, k]; rfl
theorem spread_yes {s d g : List Int} (h : tokV s d = true) (k : fitsV s g = true) : spreadV s d g = (g, spreadL s d g (sizeV g).toNat, 0) := by unfold spreadV; rw [h, k]; rfl
/-- Each place comes from one of the numbers. -/
theorem src_nat {s d g : List Int} (h : tokV s d = true) (k : fitsV s g = true) {N : Nat} (hN : sizeV g = N) {p : Nat} (hp : p < N) : ∃ m : Nat, srcI s g p = (m : Int) ∧ m < d.length := by
  obtain ⟨a, b⟩ := tok_iff.1 h
  have hg := (fits_al k).2.1
  obtain ⟨i1, i2⟩ := src_in k (p := (p : Int)) (by omega) (by rw [← size_ok hg]; omega)
  exact ⟨(srcI s g p).toNat, by omega, by omega⟩

/-! ### Folded, place by place -/
end TnG
end Go.Proofs.YtdbncanedokinaaGreat

/- The document's stretching and folding: what each answers. -/
namespace Go.Proofs.YtdbncanedokinaaGreat
open Go.RowKit Go.Proofs.ShM Go.Proofs.FixM

theorem Fr.tb {w : World} {A : Option Addr} {n c : Nat} {B : Option Addr} {m d : Nat} {a b : World} (h : Fr w A n c B m d a) (k : Below (w.heap.size + 2) a b) : Fr w A n c B m d b where
  kp := h.kp.trans (k.mono (by omega))
  b0 := (k.cell (p := ⟨w.heap.size, 0, none⟩) (by show w.heap.size < _; omega)).trans h.b0
  b1 := (k.cell (p := ⟨w.heap.size, 1, none⟩) (by show w.heap.size < _; omega)).trans h.b1
  r0 := (k.cell (p := ⟨w.heap.size + 1, 0, none⟩) (by show w.heap.size + 1 < _; omega)).trans h.r0
  r1 := (k.cell (p := ⟨w.heap.size + 1, 1, none⟩) (by show w.heap.size + 1 < _; omega)).trans h.r1
  f0 := (k.frozen (p := ⟨w.heap.size + 1, 0, none⟩) (by show w.heap.size + 1 < _; omega)).trans h.f0
  f1 := (k.frozen (p := ⟨w.heap.size + 1, 1, none⟩) (by show w.heap.size + 1 < _; omega)).trans h.f1
  sz := Nat.le_trans h.sz k.size

end Go.Proofs.YtdbncanedokinaaGreat

/- The places of a shape, each with the place it comes from: what the range over a function hands on. -/
namespace Go.Proofs.YtdbncanedokinaaGreat
open Go.RowKit Go.Shelf Go.Proofs.ShM Go.Proofs.FixM
attribute [local go_sem] Oper.semAt_some

theorem Kp.grown {w w' : World} (k : Kp w w') : w.grownBy w' none := ⟨k.os, k.tape, k.output, k.size, fun j hj _ => k.block j hj⟩
/-- The two shapes' boxes, and the shapes. -/
structure Qp (w : World) (Bs Bf : Nat) (C : Option Addr) (gl e : Nat) (A : Option Addr) (sl c : Nat) (W : World) : Prop where
  bs : W.cell? ⟨Bs, 0, none⟩ = some (.slice C gl e)
  bf : W.cell? ⟨Bf, 0, none⟩ = some (.slice A sl c)
  kp : Kp w W
  ls : Bs < W.heap.size
  lf : Bf < W.heap.size
theorem Qp.tb {w : World} {Bs Bf : Nat} {C : Option Addr} {gl e : Nat} {A : Option Addr} {sl c B : Nat} {W W' : World} (h : Qp w Bs Bf C gl e A sl c W) (k : Below B W W') (hs : Bs < B) (hf : Bf < B) (hw : w.heap.size ≤ B) : Qp w Bs Bf C gl e A sl c W' where
  bs := (k.cell (p := ⟨Bs, 0, none⟩) hs).trans h.bs
  bf := (k.cell (p := ⟨Bf, 0, none⟩) hf).trans h.bf
  kp := h.kp.trans (k.mono hw)
  ls := Nat.lt_of_lt_of_le h.ls k.size
  lf := Nat.lt_of_lt_of_le h.lf k.size
theorem Qp.tr {w : World} {Bs Bf : Nat} {C : Option Addr} {gl e : Nat} {A : Option Addr} {sl c : Nat} {W W' : World} (h : Qp w Bs Bf C gl e A sl c W) (k : Kp W W') : Qp w Bs Bf C gl e A sl c W' :=
  h.tb k h.ls h.lf h.kp.size
/-- A place, with the place that it comes from. -/
abbrev Pl (N : Nat) := { k : Nat // k < N }
abbrev plEnc (s g : List Int) (N : Nat) (x : Pl N) : Array Value := #[.int .i64 (x.1 : Int), .int .i64 (srcI s g x.1)]

set_option maxHeartbeats 1000000 in
theorem places_any (A C : Option Addr) (c e n m : Nat) (w : World) :
    Calls Tryz.prog 119 #[.slice C n e, .slice A m c] w fun en w' => en = .returned (.func (.func 131) #[] #[.pointer (some ⟨w.heap.size, 0, none⟩), .pointer (some ⟨w.heap.size + 1, 0, none⟩)]) ∧
      w' = (w.alloc (.cells #[.slice C n e] 23)).alloc (.cells #[.slice A m c] 23) := by
  go_enter Tryz.func119, Tryz.ntmps119
  go_wp2
  go_ret
  exact ⟨rfl, rfl⟩

set_option maxRecDepth 100000 in
set_option maxHeartbeats 2000000 in
theorem places_stops (A C : Option Addr) (c e : Nat) (s g : List Int) (N Bs Bf n : Nat) (w w0 : World) (hA : Rd w A s) (hC : Rd w C g) (hf : fitsV s g = true) (hN : sizeV g = N) (hn : 1 ≤ n) (hQ : Qp w Bs Bf C g.length e A s.length c w0) :
    SeqStopsK Fence.wide n Tryz.prog 131 #[.pointer (some ⟨Bs, 0, none⟩), .pointer (some ⟨Bf, 0, none⟩)] (plEnc s g N) (fun W W' => Qp w Bs Bf C g.length e A s.length c W → Qp w Bs Bf C g.length e A s.length c W')
      (fun xs => xs.map (·.1) = List.range N) (fun pre => ∃ k, k ≤ N ∧ pre.map (·.1) = List.range k) N w0 := fun l J Jx W hW hJ hJx hY h0 => by
  have hQW := hQ.tr hW
  have n2 : N ≤ 64 := by have := size_le g; omega
  have HS : Hid (∀ W', Kp w W' → Calls Tryz.prog 83 #[.slice C g.length e] W' fun en w' => en = .returned (.int .i64 (N : Int)) ∧ W' = w') := fun W' kk => by
    have hh := size_any C e g W' (hC.kp kk)
    rw [hN] at hh
    exact hh
  have HQ1 : Hid (∀ W' (k : Nat), Kp w W' → k < N → Calls Tryz.prog 132 #[.slice C g.length e, .int .i64 (k : Int), .slice A s.length c] W' fun en w' => en = .returned (.int .i64 (srcI s g k)) ∧ Kp W' w') := fun W' k kk hk => source_any A C c e s g k W' (hA.kp kk) (hC.kp kk) hf (by omega) (by omega)
  have HJ := Lib.hid hJ
  have HY := Lib.hid hY
  obtain ⟨gl, hgl⟩ : ∃ gl, gl = g.length := ⟨_, rfl⟩
  rw [← hgl] at HS HQ1 hQW HY
  clear hgl hJx hJ hY hA hC hf hN hQ hW
  refine callsIn_of_wp Tryz.func131 rfl trivial ?_ rfl
  simp only [Tryz.ntmps131, List.size_toArray, List.length_cons, List.length_nil, Nat.reduceAdd, Nat.reduceSub, Array.replicate_succ, Array.replicate_zero, List.push_toArray, List.append_toArray, List.nil_append, List.cons_append]
  have hbs := hQW.bs
  gi_wp2_with (refine ⟨trivial, ?_⟩; gi_at_call 83; refine (callsIn_wide.2 (HS.out _ hQW.kp)).mono ?_; rintro en w2 ⟨rfl, rfl⟩)
  gi_loopw [4, 7] (fun _ i wr => ∃ (pre : List (Pl N)) (k : Nat), i = .int .i64 k ∧ k ≤ N ∧ Hid (pre.map (·.1) = List.range k) ∧ Hid (J pre wr) ∧ Hid (Qp w Bs Bf C gl e A s.length c wr)) (fun _ i _ => N - (intOf i).toNat)
  case atStart => exact ⟨[], 0, rfl, Nat.zero_le _, rfl, h0, hQW⟩
  case round =>
    clear hbs
    obtain ⟨pre, k, rfl, hkN, hpre, hJp, hQr⟩ := hrel
    have hb1 := hQr.out.bs
    have hb2 := hQr.out.bf
    by_cases hlt : k < N
    · have HL : Hid (pre.length < N) := by show _ < N; have := congrArg List.length hpre.out; simp at this; omega
      gi_wp2_with (refine ⟨trivial, ?_⟩; gi_at_call 132; refine (callsIn_wide.2 (HQ1.out _ k hQr.out.kp hlt)).mono ?_; rintro en w2 ⟨rfl, k2⟩; have hJ2 := HJ.out pre _ _ none hJp.out k2.grown (fun r e => by cases e); obtain ⟨fn, tmps, assign, body, hy, hR⟩ := HY.out pre ⟨k, hlt⟩ w2 hJ2 HL.out; dsimp only [plEnc] at hy; have HQ2 := Lib.hid (hQr.out.tr k2); clear k2 hJ2)
      have hmap : Hid ((pre ++ [(⟨k, hlt⟩ : Pl N)]).map (·.1) = List.range (k + 1)) := by show _ = _; rw [List.map_append, hpre.out, List.range_succ]; rfl
      refine hR.mono ?_
      rintro en W3 (⟨rfl, hJ3, hk3⟩ | ⟨rfl, hJx3⟩)
      · have H3 := Lib.hid (And.intro hJ3 (hk3 HQ2.out))
        clear hJ3 hk3
        gi_wp2
        go_roundw
        case rel => exact ⟨pre ++ [⟨k, hlt⟩], k + 1, by go_num, hlt, hmap, Lib.hid H3.out.1, Lib.hid H3.out.2⟩
        case measure => simp [intOf]; omega
      · gi_wp2
        refine bodyPost_ret (results_none rfl _ _ _) rfl ?_
        exact ⟨⟨_, rfl⟩, .inr ⟨_, ⟨k + 1, hlt, hmap.out⟩, hJx3⟩⟩
    · obtain rfl : k = N := by omega
      gi_wp2
      go_end0
      exact ⟨⟨_, rfl⟩, .inl ⟨pre, hpre.out, hJp.out⟩⟩
end Go.Proofs.YtdbncanedokinaaGreat

/- A region that draws its order, in a round of a range over a function: its operations read, in the order of the text, and the last ones write. -/
namespace Go.Proofs.YtdbncanedokinaaGreat
open Go.RowKit Go.Shelf

section
variable {P : Program} {ops : Array Oper} {md : Region.Mode} {Q : Exit → Act → World → Prop}
theorem uponIn_of_upon {l n : Nat} {o : Oper} {a : Act} {next : Act → World → Prop} {r : Result Next} (h : o.upon P a next Q r) : o.uponIn (Fence.wide.inRound l) n P a next Q r := by
  cases r with
  | ok nx w' =>
    cases nx with
    | value v => exact h
    | skip => exact h
    | defer d => exact h
    | enter f args => exact ⟨fun h => (by cases h), CallsIn.inRound l (callsIn_wide.2 h)⟩
    | row row args => exact ⟨fun h => (by cases h), fun c cs _ => let ⟨v, w', r, s⟩ := h c cs; ⟨v, w', r, stepsIn_wide.2 s⟩⟩
    | _ => exact h.elim
  | halt hh w' =>
    cases hh with
    | panic v => exact h
    | _ => exact h.elim
/-- No operation is a defer statement. -/
def noDefer (ops : Array Oper) : Bool := ops.all fun o => match o.op with | .defer _ => false | _ => true
theorem noDefer_spec {ops : Array Oper} (h : noDefer ops = true) {i : Nat} {o : Oper} (ho : ops[i]? = some o) : ∀ c, o.op ≠ .defer c := by
  intro c e
  unfold noDefer at h
  rw [Array.all_eq_true] at h
  obtain ⟨hi, rfl⟩ := Array.getElem?_eq_some_iff.1 ho
  have := h i hi
  rw [e] at this
  cases this
theorem wpAnyIn_of_wpAny {l n : Nat} (hd : noDefer ops = true) (hL : ¬ LetsOut Q) : ∀ (fuel : Nat) (listed : Array Bool) (a : Act) (w : World), wpAny P md ops Q fuel listed a w → wpAnyIn (Fence.wide.inRound l) n P md ops Q fuel listed a w := by
  intro fuel
  induction fuel with
  | zero => intro listed a w h; exact h
  | succ fuel ih =>
    intro listed a w h
    refine ⟨h.1, fun i hi => ?_⟩
    have := wpOp_mono (fun a w => ih _ a w) (h.2 i hi)
    unfold wpOp at this
    unfold wpOpIn
    cases ho : ops[i]? with
    | none => rw [ho] at this; exact this
    | some o =>
      rw [ho] at this
      simp only at this ⊢
      split
      · rename_i hw
        rw [if_pos hw] at this
        rcases this with h1 | ⟨_, h2⟩
        · refine ⟨fun _ _ => trivial, ?_⟩
          have e : (Oper.semAt (Fence.wide.inRound l).round a.eval o) = execOp a.eval o := Oper.semAt_some l a.eval o (noDefer_spec hd ho)
          rw [e]
          exact uponIn_of_upon h1
        · exact absurd h2 hL
      · rename_i hw
        rw [if_neg hw] at this
        exact ⟨fun _ _ => trivial, this⟩

/-- Its operations but the last ones only read; those come in their order. -/
theorem round_tail {id l m : Nat} {a : Act} {w : World} {os : List Oper} (n : Nat) (hm : P.follows .mixedOrders = true) (hB : Region.lexTailB .any os.toArray n = true) (hd : noDefer os.toArray = true) (hL : ¬ LetsOut Q)
    (h : wpStill P os.toArray { w with drawn := w.drawn + 1 } (fun a' => wpList P os.toArray Q (os.drop n) a' { w with drawn := w.drawn + 1 }) (os.take n) a) : (Code.region id os.toArray true).wpIn (Fence.wide.inRound l) m P Q a w := by
  simp only [Region.lexTailB, Bool.and_eq_true, decide_eq_true_eq] at hB
  obtain ⟨⟨⟨⟨hsel, hn⟩, hs⟩, hc⟩, hlex⟩ := hB
  have hn' : n < os.length := by simpa using hn
  have htl : (os.take n).length = n := by simp; omega
  have hdl : (os.drop n).length = os.toArray.size - n := by simp
  have inv0 : HeadInv .any os.toArray n (Array.replicate os.toArray.size false) :=
    ⟨by simp, fun j oj _ hl => (by rw [getD_replicate_false] at hl; cases hl), fun t _ ht => getD_in (by simpa using ht) (getD_replicate_false _ _)⟩
  have H := wpAnyL_lex (md := .any) (g := os.toArray.size - n) hsel hs hc hn (os.take n) 0 _ a (fun j hj => by
    have hj' : j < n := by rw [htl] at hj; exact hj
    simp [hj']) (by simpa using htl) inv0 (by rw [htl]; exact hlex) h
  refine wpIn_region_any hm (wpAnyIn_of_wpAny hd hL _ _ _ _ ?_)
  have := wpAny_of_head (Q' := Q) (g := os.toArray.size - n) (fun listed a' hL => by
    have := wpAny_of_seq (md := .any) (Q' := Q) (os.drop n) n listed a' { w with drawn := w.drawn + 1 } (fun j => by simp [List.getElem?_drop]) (by rw [hdl]; exact hL.1) hL.2
    rwa [hdl] at this) _ _ _ H
  rw [htl, show n + (os.toArray.size - n) = os.toArray.size by omega] at this
  exact this
end

theorem wpIn_calm {F : Fence} {n : Nat} {P : Program} {c : Code} {K : Act → World → Prop} {Q : Exit → Act → World → Prop} {a : Act} {w : World} (h : c.wpIn F n P (Exit.then K (fun _ _ _ => False)) a w) : c.wpIn F n P (Exit.then K Q) a w :=
  wpIn_mono h fun e _ _ hq => by
    cases e with
    | normal => exact hq
    | _ => exact hq.elim
/-- The return of a function with a range over a function. -/
theorem ret_marks {F : Fence} {n : Nat} {P : Program} {fn : Func} {R : Ending → World → Prop} {tmps : Array Value} {D : Nat} {W : World} {v : Value} (hK : W.heap[D]? = some (.deferred (some [])))
    (hres : (results fn tmps).run P (W.putObj D (.deferred none)) = .ok v (W.putObj D (.deferred none))) (hR : R (.returned v) (W.putObj D (.deferred none))) :
    bodyPostM F n P fn R .ret { tmps := tmps, defers := [{ target := .collected D, args := #[] }] } W :=
  ⟨by simp, .inl ⟨_, _, rfl, run_takeDeferred hK, v, hres, hR⟩⟩

section
variable {w a : World} {A B : Option Addr} {n c m d D : Nat}
/-- The world at the return. -/
def finW (w a : World) (x y : Value) : World := (a.setCell ⟨w.heap.size + 1, 0, none⟩ x).setCell ⟨w.heap.size + 1, 1, none⟩ y
theorem fin_K (hD : a.heap[D]? = some (.deferred (some []))) (hne : w.heap.size + 1 < D) (x y : Value) : (finW w a x y).heap[D]? = some (.deferred (some [])) := by
  unfold finW
  rw [Below.heap_setCell _ _ _ D (by show D ≠ w.heap.size + 1; omega), Below.heap_setCell _ _ _ D (by show D ≠ w.heap.size + 1; omega)]
  exact hD
theorem fin_B (hD : a.heap[D]? = some (.deferred (some []))) (hne : w.heap.size + 1 < D) (x y : Value) : Below D (finW w a x y) ((finW w a x y).putObj D (.deferred none)) := by
  have hK := fin_K (w := w) hD hne x y
  exact (Below.refl D _).grown (grownBy_putObj' _ D _) (Nat.le_of_lt (Array.getElem?_eq_some_iff.1 hK).1) (fun k e => by cases e; exact Nat.le_refl _)
theorem Fr.fin_0 (h : Fr w A n c B m d a) (hD : a.heap[D]? = some (.deferred (some []))) (hne : w.heap.size + 1 < D) (x y : Value) : ((finW w a x y).putObj D (.deferred none)).cell? ⟨w.heap.size + 1, 0, none⟩ = some x := by
  rw [(fin_B hD hne x y).cell (p := ⟨w.heap.size + 1, 0, none⟩) hne]
  exact cell_ne (by simp) (World.cell?_setCell_same' _ _ _ (by rw [h.r0]; rfl))
theorem Fr.fin_1 (h : Fr w A n c B m d a) (hD : a.heap[D]? = some (.deferred (some []))) (hne : w.heap.size + 1 < D) (x y : Value) : ((finW w a x y).putObj D (.deferred none)).cell? ⟨w.heap.size + 1, 1, none⟩ = some y := by
  rw [(fin_B hD hne x y).cell (p := ⟨w.heap.size + 1, 1, none⟩) hne]
  exact World.cell?_setCell_same' _ _ _ (some_ne (by simp) (by rw [h.r1]; rfl))
theorem Fr.fin_kp (h : Fr w A n c B m d a) (hD : a.heap[D]? = some (.deferred (some []))) (hne : w.heap.size + 1 < D) (x y : Value) : Kp w ((finW w a x y).putObj D (.deferred none)) :=
  (h.end_ x y).trans ((fin_B hD hne x y).mono (by omega))
theorem Own.fin {b : Nat} {v : Value} {xs : List Int} (h : Own b a v xs) (hb : w.heap.size + 1 < b) (hD : a.heap[D]? = some (.deferred (some []))) (hne : w.heap.size + 1 < D) (x y : Value) : Own b ((finW w a x y).putObj D (.deferred none)) v xs :=
  ownsRow_putObj ((h.put_ (p := ⟨w.heap.size + 1, 0, none⟩) hb x).put_ (p := ⟨w.heap.size + 1, 1, none⟩) hb y) _ (fin_K hD hne x y) rfl
end
end Go.Proofs.YtdbncanedokinaaGreat

/- Stretching: what it answers. -/
namespace Go.Proofs.YtdbncanedokinaaGreat
open Go.RowKit Go.Shelf Go.Proofs.ShM Go.Proofs.FixM
attribute [local go_sem] Oper.semAt_some

namespace TnI
def setP (val : Nat → Int) (pre : List Nat) (zs : List Int) : List Int := pre.foldl (fun z k => z.set k (val k)) zs
theorem setP_snoc (val : Nat → Int) (pre : List Nat) (k : Nat) (zs : List Int) : setP val (pre ++ [k]) zs = (setP val pre zs).set k (val k) := by simp [setP]
theorem setP_len (val : Nat → Int) (pre : List Nat) : ∀ zs : List Int, (setP val pre zs).length = zs.length := by
  induction pre with
  | nil => intro zs; rfl
  | cons k pre ih => intro zs; show (setP val pre (zs.set k (val k))).length = _; rw [ih]; simp
theorem setP_range (val : Nat → Int) (N : Nat) : ∀ k, k ≤ N → setP val (List.range k) (List.replicate N 0) = (List.range k).map val ++ List.replicate (N - k) 0 := by
  intro k
  induction k with
  | zero => intro _; simp [setP]
  | succ k ih =>
    intro hk
    rw [List.range_succ, setP_snoc, ih (by omega), List.set_append_right _ _ (by simp)]
    obtain ⟨j, hj⟩ : ∃ j, N - k = j + 1 := ⟨N - k - 1, by omega⟩
    rw [hj, show N - (k + 1) = j by omega]
    simp [List.replicate_succ]
theorem setP_spread (s xs g : List Int) (N : Nat) : setP (fun i => xs.getD (srcI s g i).toNat 0) (List.range N) (List.replicate N 0) = spreadL s xs g N := by
  rw [setP_range _ _ _ (Nat.le_refl _)]; simp [spreadL]
end TnI

theorem below_grown {B : Nat} {W W' : World} {row : Option Nat} (hB : B ≤ W.heap.size) (hg : W.grownBy W' row) (hr : ∀ r, row = some r → B ≤ r ∧ ∃ o : Obj, W.heap[r]? = some o ∧ o.isCells = false) : Below B W W' :=
  (Below.refl B W).grown hg hB (fun k e => (hr k e).1)
theorem Own.tb {b B g n c : Nat} {W W' : World} {xs : List Int} (h : Own b W (.slice (some ⟨g, 0, none⟩) n c) xs) (k : Below B W W') (hg : g < B) : Own b W' (.slice (some ⟨g, 0, none⟩) n c) xs :=
  h.of_block fun j hj => by
    injection hj with hj
    subst hj
    exact k.block g hg
theorem Qp.put {w : World} {Bs Bf : Nat} {C : Option Addr} {gl e : Nat} {A : Option Addr} {sl c : Nat} {W : World} (h : Qp w Bs Bf C gl e A sl c W) {p : Addr} (h1 : p.block ≠ Bs) (h2 : p.block ≠ Bf) (h3 : w.heap.size ≤ p.block) (u : Value) : Qp w Bs Bf C gl e A sl c (W.setCell p u) where
  bs := cell_ne (fun e => h1 (congrArg Addr.block e)) h.bs
  bf := cell_ne (fun e => h2 (congrArg Addr.block e)) h.bf
  kp := h.kp.setCell h3 u
  ls := by rw [World.size_setCell]; exact h.ls
  lf := by rw [World.size_setCell]; exact h.lf

set_option maxRecDepth 100000 in
set_option maxHeartbeats 4000000 in
theorem spread_true (A B C : Option Addr) (c d e : Nat) (s xs g : List Int) (w : World) (hA : Rd w A s) (hB : Rd w B xs) (hC : Rd w C g) (ht : tokV s xs = true) (hf : fitsV s g = true) :
    Calls Tryz.prog 87 #[.agg #[.slice A s.length c, .slice B xs.length d], .slice C g.length e] w (RetT (spreadV s xs g) w) := by
  have hl := hA.len
  have gl := hB.len
  have kl := hC.len
  have F0 := Lib.hid (Fr.mk_ w A s.length c B xs.length d 25)
  have HT := Lib.hid (tcheck_any A B c d s xs _ (hA.kp F0.out.kp) (hB.kp F0.out.kp))
  rw [ht] at HT
  have HG : Hid (∀ W, Kp w W → Calls Tryz.prog 118 #[.slice A s.length c, .slice C g.length e] W fun e w' => e = .returned (.bool true) ∧ Kp W w') := fun W k => by rw [← hf]; exact fits_any A C c e s g W (hA.kp k) (hC.kp k)
  have hg := (fits_al hf).2.1
  have hp := ok_prod hg
  have hz := size_ok hg
  obtain ⟨N, hN⟩ : ∃ N : Nat, sizeV g = N := ⟨(sizeV g).toNat, by omega⟩
  have HF := Lib.hid (TnG.spread_yes ht hf)
  rw [hN, Int.toNat_natCast, ← TnI.setP_spread] at HF
  have HS : Hid (∀ W, Kp w W → Calls Tryz.prog 83 #[.slice C g.length e] W fun e w' => e = .returned (.int .i64 (N : Int)) ∧ W = w') := fun W kk => by
    have hh := size_any C e g W (hC.kp kk)
    rw [hN] at hh
    exact hh
  have HM : Hid (∀ k : Nat, k < N → ∃ m : Nat, srcI s g k = (m : Int) ∧ m < xs.length) := fun k hk => TnG.src_nat ht hf hN hk
  have HPS : Hid (∀ (n Bs Bf : Nat) (w0 : World), 1 ≤ n → Qp w Bs Bf C g.length e A s.length c w0 → SeqStopsK Fence.wide n Tryz.prog 131 #[.pointer (some ⟨Bs, 0, none⟩), .pointer (some ⟨Bf, 0, none⟩)] (plEnc s g N) (fun W W' => Qp w Bs Bf C g.length e A s.length c W → Qp w Bs Bf C g.length e A s.length c W')
      (fun xs => xs.map (·.1) = List.range N) (fun pre => ∃ k, k ≤ N ∧ pre.map (·.1) = List.range k) N w0) := fun n Bs Bf w0 hn hq => places_stops A C c e s g N Bs Bf n w w0 hA hC hf hN hn hq
  have n1 : 0 < N := by omega
  have n2 : N ≤ 64 := by omega
  have hg3 : g.length ≤ 1000000 := by have := (ok_iff.1 hg).1; omega
  have HCL : Hid (∀ W, Kp w W → Calls Tryz.prog 29 #[.slice C g.length e] W (RetO g W)) := fun W kk => clone_any C e g W (hC.kp kk) hg3
  obtain ⟨cs, hmk, hown0⟩ := mk_ N (by omega)
  have HOW := Lib.hid hown0
  have HBX := Lib.hid hB
  clear ht hf hg hp hz hN hown0 hg3
  refine (callsIn_wide (n := 4)).1 ?_
  refine callsIn_of_wp_marks Tryz.func87 rfl trivial ?_ rfl
  simp only [Tryz.ntmps87, List.size_toArray, List.length_cons, List.length_nil, Nat.reduceAdd, Nat.reduceSub, Array.replicate_succ, Array.replicate_zero, List.push_toArray, List.append_toArray, List.nil_append, List.cons_append]
  gi_wp2_with fail
  refine ⟨trivial, (callsIn_wide.2 HT.out).mono ?_⟩; rintro en w1 ⟨rfl, k1⟩
  have F1 := Lib.hid (F0.out.tr k1)
  have b0 := F1.out.b0
  have b1 := F1.out.b1
  clear k1
  gi_wp2_with fail
  refine ⟨trivial, (callsIn_wide.2 (HG.out _ F1.out.kp)).mono ?_⟩; rintro en w2 ⟨rfl, k2⟩
  have F2 := Lib.hid (F1.out.tr k2)
  clear k2 b0 b1
  gi_wp2_with fail
  refine ⟨trivial, (callsIn_wide.2 (HS.out _ F2.out.kp)).mono ?_⟩; rintro en w3 ⟨rfl, rfl⟩
  have b0 := F2.out.b0
  have y1 : w.heap.size < w2.heap.size := by have := F2.out.sz; omega
  have y2 : w.heap.size < w2.heap.size + 1 := by omega
  gi_wp2_with fail
  refine ⟨trivial, (callsIn_wide.2 (places_any _ _ _ _ _ _ _)).mono ?_⟩; rintro en w4 ⟨rfl, rfl⟩
  gi_wp2_with fail
  have hmx : Tryz.prog.follows .mixedOrders = true := by kernel_rfl
  obtain ⟨W1, hW1⟩ : ∃ W1, ((((w2.alloc (.cells cs 3)).alloc (.cells #[.slice (some ⟨w2.heap.size, 0, none⟩) N N] 23)).alloc (.cells #[.slice C g.length e] 23)).alloc (.cells #[.slice A s.length c] 23)) = W1 := ⟨_, rfl⟩
  have FW : Hid (Fr w A s.length c B xs.length d W1) := by show Fr w A s.length c B xs.length d W1; rw [← hW1]; exact (((F2.out.tr (Kp.alloc_ _ _)).tr (Kp.alloc_ _ _)).tr (Kp.alloc_ _ _)).tr (Kp.alloc_ _ _)
  have SW : Hid (W1.heap.size = w2.heap.size + 4 ∧ w.heap.size + 2 ≤ w2.heap.size) := ⟨by rw [← hW1]; simp, F2.out.sz⟩
  have OW : Hid (Own (w.heap.size + 2) W1 (.slice (some ⟨w2.heap.size, 0, none⟩) N N) (List.replicate N 0)) := by
    show Own (w.heap.size + 2) W1 _ _; rw [← hW1]; exact (((HOW.out w2 (w.heap.size + 2) F2.out.sz).kp (Kp.alloc_ _ _)).kp (Kp.alloc_ _ _)).kp (Kp.alloc_ _ _)
  have BW : Hid (W1.cell? ⟨w2.heap.size + 1, 0, none⟩ = some (.slice (some ⟨w2.heap.size, 0, none⟩) N N)) := by show W1.cell? _ = _; rw [← hW1]; simp [go_sem]
  have QW : Hid (Qp w (w2.heap.size + 1 + 1) (w2.heap.size + 1 + 1 + 1) C g.length e A s.length c W1) := by
    refine Lib.hid ⟨by rw [← hW1]; simp [go_sem], by rw [← hW1]; simp [go_sem], FW.out.kp, ?_, ?_⟩
    · have := SW.out.1; omega
    · have := SW.out.1; omega
  rw [hW1]
  clear hW1 b0 y1 y2 hmk
  have hw1 : w.heap.size ≤ W1.heap.size := FW.out.kp.size
  refine wpIn_rangeFunc_ownF rfl (by omega) (gf := 131) (lb := #[.pointer (some ⟨w2.heap.size + 1 + 1, 0, none⟩), .pointer (some ⟨w2.heap.size + 1 + 1 + 1, 0, none⟩)]) rfl trivial (enters_of Tryz.func131 (by kernel_rfl) rfl)
    (HPS.out _ _ _ W1 (by omega) QW.out) (fun h k q => k (h q))
    (fun W l o o' hl h ho hw q => q.tb (belowK_b (w := W1) (Nat.le_refl _) W l o o' hl h ho hw) (by have := SW.out.1; omega) (by have := SW.out.1; omega) hw1)
    (Below.refl _ _) (fun _ => rfl)
    (fun pre W => W1.heap.size ≤ W.heap.size ∧ Fr w A s.length c B xs.length d W ∧ W.cell? ⟨w2.heap.size + 1, 0, none⟩ = some (.slice (some ⟨w2.heap.size, 0, none⟩) N N) ∧ Own (w.heap.size + 2) W (.slice (some ⟨w2.heap.size, 0, none⟩) N N) (TnI.setP (fun i => xs.getD (srcI s g i).toNat 0) (pre.map (·.1)) (List.replicate N 0)))
    (fun _ _ _ => False)
    (fun pre W W' row hs hg hr => by
      have hb := below_grown hs.1 hg hr
      have := SW.out
      exact ⟨Nat.le_trans hs.1 hb.size, hs.2.1.tb (hb.mono (by omega)), (hb.cell (p := ⟨w2.heap.size + 1, 0, none⟩) (by show w2.heap.size + 1 < _; omega)).trans hs.2.2.1, hs.2.2.2.tb hb (by omega)⟩)
    (fun _ _ _ _ _ hs _ _ => hs)
    ⟨Nat.le_refl _, FW.out, BW.out, OW.out⟩
    (fun x => { tmps := #[.agg #[.slice A s.length c, .slice B xs.length d], .slice C g.length e, .pointer (some ⟨w.heap.size, 0, none⟩), undef, .pointer (some ⟨w.heap.size + 1, 0, none⟩), .int .i64 0, .pointer (some ⟨w2.heap.size + 1, 0, none⟩), .int .i64 (x.1 : Int), .int .i64 (srcI s g x.1),
      .agg #[.slice A s.length c, .slice B xs.length d], .bool true, .bool false, undef, .pointer (some ⟨w.heap.size, 0, none⟩), .slice A s.length c, .slice C g.length e, .bool true, .bool false, undef, .slice C g.length e, .int .i64 (N : Int), .slice (some ⟨w2.heap.size, 0, none⟩) N N, .slice C g.length e, .pointer (some ⟨w.heap.size, 0, none⟩), .slice A s.length c,
      .func (.func 131) #[] #[.pointer (some ⟨w2.heap.size + 1 + 1, 0, none⟩), .pointer (some ⟨w2.heap.size + 1 + 1 + 1, 0, none⟩)], .int .i64 (x.1 : Int), .int .i64 (srcI s g x.1), undef, undef, undef, undef, undef, undef, undef, undef, undef, undef, undef, undef], defers := [] }) ?assign ?body ?done ?stop
  case assign =>
    intro l x W K hK
    gi_wp2
    exact hK
  case body =>
    rintro l pre ⟨k, hk⟩ W ⟨hsz, hfr, hbx, hown⟩ _
    obtain ⟨m, hm, hmx2⟩ := HM.out k hk
    obtain ⟨bd, x0, rfl, hbl, hx, hc⟩ := HBX.out.at_ hmx2
    dsimp only
    rw [hm]
    have b1 := hfr.b1
    have c1 : W.cell? (bd.add m) = some (.int .i64 x0) := (hfr.kp.cell (by rw [block_of_add]; exact hbl)).trans hc
    have HLN : Hid ((TnI.setP (fun i => xs.getD (srcI s g i).toNat 0) (pre.map (·.1)) (List.replicate N 0)).length = N) := by show List.length _ = N; rw [TnI.setP_len]; simp
    have e1 := hown.cell_ (j := k) (List.getElem?_eq_getElem (by rw [HLN.out]; exact hk))
    have e2 := hown.froz_ k
    have HO := Lib.hid hown
    have HFR := Lib.hid hfr
    have HV : Hid (xs.getD (srcI s g k).toNat 0 = x0) := by show List.getD _ _ _ = x0; rw [hm, Int.toNat_natCast, List.getD_eq_getElem?_getD, hx]; rfl
    have i1 : (0 : Int) ≤ (m : Int) := by omega
    have i2 : (m : Int) < (xs.length : Int) := by omega
    have i3 : (k : Int) < (N : Int) := by omega
    have i4 : (0 : Int) ≤ (k : Int) := by omega
    have HSW := Lib.hid SW.out
    clear hm hx hc hown hbl
    gi_wp2
    refine round_tail 8 hmx (by kernel_rfl) (by kernel_rfl) (fun ⟨_, _, h⟩ => h) ?_
    simp only [List.take_succ_cons, List.take_zero, List.drop_succ_cons, List.drop_zero]
    repeat still_step
    try refine wpStill_nil ?_
    change wpList _ _ _ _ _ W.drew
    go_wp2
    have hne : w2.heap.size ≠ w2.heap.size + 1 := by omega
    refine ⟨(KeepsOthers.drew _).trans (KeepsOthers.setCell _ _ _), fun q => (q.tr (Below.drew (Kp.refl _))).put (p := ⟨w2.heap.size, k, none⟩) (by show w2.heap.size ≠ _; omega) (by show w2.heap.size ≠ _; omega) (by show w.heap.size ≤ w2.heap.size; have := HSW.out.2; omega) _, ?_, ?_, ?_, ?_⟩
    · show W1.heap.size ≤ (W.setCell ⟨w2.heap.size, k, none⟩ (.int .i64 x0)).heap.size
      rw [World.size_setCell]; exact hsz
    · exact (HFR.out.tr (Below.drew (Kp.refl _))).tb ((Below.refl _ _).setCell (p := ⟨w2.heap.size, k, none⟩) HSW.out.2 _)
    · exact cell_ne (fun e => hne (congrArg Addr.block e)) hbx
    · rw [List.map_append, List.map_cons, List.map_nil, TnI.setP_snoc]
      show Own _ _ _ (List.set _ k (xs.getD (srcI s g k).toNat 0))
      rw [HV.out]
      exact (HO.out.set_ k x0).drew
  case done =>
    rintro D ys W hD hS ⟨hsz, hfr, hbx, hown⟩ hK
    have hDl : D < W.heap.size := (Array.getElem?_eq_some_iff.1 hK).1
    rw [hS] at hown
    have HO := Lib.hid hown
    have HFR := Lib.hid hfr
    have HBC := Lib.hid hbx
    have HKD := Lib.hid hK
    have y1 : w2.heap.size + 1 < W.heap.size := by have := SW.out.1; omega
    have HCW : Hid (Kp w W.drew) := hfr.kp.drew
    clear hown hK
    obtain ⟨_, b0, b1, r0, r1, f0, f1, hfs⟩ := hfr
    have y2 : w.heap.size + 1 < W.heap.size := by omega
    gi_wp2
    refine wpIn_calm ?_
    gi_region_with_o (refine ⟨trivial, ?_⟩; gi_at_call 29; refine (callsIn_wide.2 (HCL.out _ HCW.out)).mono ?_; rintro en w5 ⟨AS, cS, rfl, oS, kS⟩; have cellF : ∀ p : Addr, p.block < W.heap.size → w5.cell? p = W.cell? p := fun p hp => kS.cell hp; have frozF : ∀ p : Addr, p.block < W.heap.size → w5.frozen? p = W.frozen? p := fun p hp => kS.frozen hp; have HOS := Lib.hid oS; have HKS : Hid (Kp W w5) := ⟨kS.os, kS.tape, kS.output, kS.size, kS.block⟩; clear oS kS)
    all_goals gi_wp2
    all_goals
      have hK5 : w5.heap[D]? = some (.deferred (some [])) := (HKS.out.block D hDl).trans HKD.out
      have hD2 : w.heap.size + 1 < D := by have := SW.out.1; have := SW.out.2; omega
      have hF5 := HFR.out.tr HKS.out
      refine ret_marks (v := .tuple #[.agg #[.slice AS g.length cS, .slice (some ⟨w2.heap.size, 0, none⟩) N N], .int .i64 0]) (fin_K hK5 hD2 _ _) (by
        have q0 := hF5.fin_0 hK5 hD2 (.slice AS g.length cS) (.slice (some ⟨w2.heap.size, 0, none⟩) N N)
        have q1 := hF5.fin_1 hK5 hD2 (.slice AS g.length cS) (.slice (some ⟨w2.heap.size, 0, none⟩) N N)
        unfold finW at q0 q1
        simp [results, Tryz.results87, go_sem, q0, q1]) ?_
      exact RetT.on HF.out rfl (by rw [TnI.setP_len]; simp) (HOS.out.fin (by show _ < W.heap.size; omega) hK5 hD2 _ _).sl ((HO.out.kp HKS.out).fin (Nat.lt_succ_self _) hK5 hD2 _ _).sl (hF5.fin_kp hK5 hD2 _ _)
  case stop =>
    rintro D c pre W _ _ h _
    exact h.elim

set_option maxHeartbeats 2000000 in
theorem spread_any (A B C : Option Addr) (c d e : Nat) (s xs g : List Int) (w : World) (hA : Rd w A s) (hB : Rd w B xs) (hC : Rd w C g) :
    Calls Tryz.prog 87 #[.agg #[.slice A s.length c, .slice B xs.length d], .slice C g.length e] w (RetT (spreadV s xs g) w) := by
  have hl := hA.len
  have gl := hB.len
  have kl := hC.len
  cases ht : tokV s xs with
  | false =>
    have F0 := Lib.hid (Fr.mk_ w A s.length c B xs.length d 25)
    have HT := Lib.hid (tcheck_any A B c d s xs _ (hA.kp F0.out.kp) (hB.kp F0.out.kp))
    rw [ht] at HT
    have HF := Lib.hid (TnG.spread_no g ht)
    clear ht
    go_enter Tryz.func87, Tryz.ntmps87
    go_wp2_with fail
    refine (Calls.mono (Hid.out HT)) ?_; rintro e w1 ⟨rfl, k1⟩
    have F1 := Lib.hid (F0.out.tr k1)
    obtain ⟨_, b0, b1, r0, r1, f0, f1, _⟩ := F1.out
    clear k1
    go_wp2
    refine bodyPost_ret (by simp [results, Tryz.results87, go_sem, r0, r1]; try rfl) rfl ?_
    exact RetT.err HF.out (F1.out.end_ _ _)
  | true =>
    cases hf : fitsV s g with
    | true => exact spread_true A B C c d e s xs g w hA hB hC ht hf
    | false =>
      have F0 := Lib.hid (Fr.mk_ w A s.length c B xs.length d 25)
      have HT := Lib.hid (tcheck_any A B c d s xs _ (hA.kp F0.out.kp) (hB.kp F0.out.kp))
      rw [ht] at HT
      have HG : Hid (∀ W, Kp w W → Calls Tryz.prog 118 #[.slice A s.length c, .slice C g.length e] W fun e w' => e = .returned (.bool false) ∧ Kp W w') := fun W k => by rw [← hf]; exact fits_any A C c e s g W (hA.kp k) (hC.kp k)
      have HF := Lib.hid (TnG.spread_misfit ht hf)
      clear ht hf
      go_enter Tryz.func87, Tryz.ntmps87
      go_wp2_with fail
      refine (Calls.mono (Hid.out HT)) ?_; rintro e w1 ⟨rfl, k1⟩
      have F1 := Lib.hid (F0.out.tr k1)
      obtain ⟨_, b0, b1, _, _, _, _, _⟩ := F1.out
      clear k1
      go_wp2_with fail
      refine (Calls.mono (HG.out _ F1.out.kp)) ?_; rintro e w2 ⟨rfl, k2⟩
      have F2 := Lib.hid (F1.out.tr k2)
      clear b0 b1 k2
      obtain ⟨_, b0, b1, r0, r1, f0, f1, _⟩ := F2.out
      go_wp2
      refine bodyPost_ret (by simp [results, Tryz.results87, go_sem, r0, r1]; try rfl) rfl ?_
      exact RetT.err HF.out (F2.out.end_ _ _)
end Go.Proofs.YtdbncanedokinaaGreat

/- Folding: what it answers. -/
namespace Go.Proofs.YtdbncanedokinaaGreat
open Go.RowKit Go.Shelf Go.Proofs.ShM Go.Proofs.FixM
attribute [local go_sem] Oper.semAt_some

namespace TnJ
end TnJ

/-- The tensor handed in, its answer's block, and the error's. -/
structure Fe (w : World) (A : Option Addr) (n c : Nat) (B : Option Addr) (m d : Nat) (er : Int) (w' : World) : Prop where
  fr : Fr w A n c B m d w'
  e0 : w'.cell? ⟨w.heap.size + 1 + 1, 0, none⟩ = some (.int .i64 er)
  ef : w'.frozen? ⟨w.heap.size + 1 + 1, 0, none⟩ = false
  sz : w.heap.size + 3 ≤ w'.heap.size
section
variable {w a b : World} {A B : Option Addr} {n c m d : Nat} {er : Int}
theorem Fe.tb (h : Fe w A n c B m d er a) (k : Below (w.heap.size + 3) a b) : Fe w A n c B m d er b where
  fr := h.fr.tb (k.mono (by omega))
  e0 := (k.cell (p := ⟨w.heap.size + 1 + 1, 0, none⟩) (by show w.heap.size + 1 + 1 < _; omega)).trans h.e0
  ef := (k.frozen (p := ⟨w.heap.size + 1 + 1, 0, none⟩) (by show w.heap.size + 1 + 1 < _; omega)).trans h.ef
  sz := Nat.le_trans h.sz k.size
theorem Fe.tr (h : Fe w A n c B m d er a) (k : Kp a b) : Fe w A n c B m d er b := h.tb (k.mono h.sz)
theorem Fe.mk_ (w : World) (A : Option Addr) (n c : Nat) (B : Option Addr) (m d : Nat) (t u : TypeId) : Fe w A n c B m d 0 (((w.alloc (.cells #[.slice A n c, .slice B m d] t)).alloc (.cells #[.slice none 0 0, .slice none 0 0] t)).alloc (.cells #[.int .i64 0] u)) where
  fr := (Fr.mk_ w A n c B m d t).tr (Kp.alloc_ _ _)
  e0 := by simp [go_sem]
  ef := by simp [go_sem]
  sz := by simp
end

section
variable {w a : World} {A B : Option Addr} {n c m d D : Nat} {er : Int}
end

end Go.Proofs.YtdbncanedokinaaGreat

/- The calls of layer 3 at any lengths, the answers written out; those whose answers the document fixes are as it says (awake). -/
namespace Go.Proofs.YtdbncanedokinaaGreat
open Go.RowKit Go.Proofs.ShM

/-- A tensor that is there. -/
structure TR (w : World) (A : Option Addr) (l : List Int) (B : Option Addr) (m : List Int) : Prop where
  s : Rd w A l
  d : Rd w B m
theorem TR.kp {w w' : World} {A B : Option Addr} {l m : List Int} (h : TR w A l B m) (k : Kp w w') : TR w' A l B m := ⟨h.s.kp k, h.d.kp k⟩
theorem TR.alloc_ {w : World} {A B : Option Addr} {l m : List Int} (h : TR w A l B m) (o : Obj) : TR (w.alloc o) A l B m := h.kp (Kp.alloc_ w o)
/-- The answer is the tensor, so many sides and numbers, and the error. -/
def RetU (l m : List Int) (a b : Nat) (err : Int) (w : World) (e : Ending) (w' : World) : Prop :=
  ∃ A c B d, e = .returned (.tuple #[.agg #[.slice A a c, .slice B b d], .int .i64 err]) ∧ TR w' A l B m ∧ Kp w w'
theorem RetT.u {r : Tn} {l m : List Int} {a b : Nat} {err : Int} {w : World} {e : Ending} {w' : World} (h : RetT r w e w') (hr : r = (l, m, err)) (ha : l.length = a) (hb : m.length = b) : RetU l m a b err w e w' := by
  subst hr ha hb
  obtain ⟨A, c, B, d, h1, h2, h3, h4⟩ := h
  exact ⟨A, c, B, d, h1, ⟨h2.rd, h3.rd⟩, h4⟩

section
variable {A B C : Option Addr} {c d e n m o a b : Nat} {l k : List Int} {err : Int} {w : World}
theorem spread_u (s xs g : List Int) (h : TR w A s B xs) (hC : Rd w C g) (hn : n = s.length) (hm : m = xs.length) (ho : o = g.length) (hr : spreadV s xs g = (l, k, err)) (ha : l.length = a) (hb : k.length = b) :
    Calls Tryz.prog 87 #[.agg #[.slice A n c, .slice B m d], .slice C o e] w (RetU l k a b err w) := by
  subst hn hm ho
  exact (spread_any A B C c d e s xs g w h.s h.d hC).mono fun _ _ r => r.u hr ha hb
theorem full_u (s : List Int) (x : Int) (h : Rd w A s) (hn : n = s.length) (hr : fullV s x = (l, k, err)) (ha : l.length = a) (hb : k.length = b) :
    Calls Tryz.prog 44 #[.slice A n c, .int .i64 x] w (RetU l k a b err w) := by
  subst hn
  exact (full_any A c s x w h).mono fun _ _ r => r.u hr ha hb
theorem tcheck_u (s xs : List Int) (h : TR w A s B xs) (hn : n = s.length) (hm : m = xs.length) {r : Bool} (hr : tokV s xs = r) :
    Calls Tryz.prog 32 #[.agg #[.slice A n c, .slice B m d]] w fun e w' => e = .returned (.bool r) ∧ Kp w w' := by
  subst hn hm hr
  exact tcheck_any A B c d s xs w h.s h.d
end
/-- A tensor's box. -/
structure Bx (W : World) (b : Nat) (A : Option Addr) (n c : Nat) (B : Option Addr) (m d : Nat) : Prop where
  c0 : W.cell? ⟨b, 0, none⟩ = some (.slice A n c)
  c1 : W.cell? ⟨b, 1, none⟩ = some (.slice B m d)
  lt : b < W.heap.size
theorem Bx.kp {W W' : World} {b n c m d : Nat} {A B : Option Addr} (h : Bx W b A n c B m d) (k : Kp W W') : Bx W' b A n c B m d :=
  ⟨(k.cell (p := ⟨b, 0, none⟩) h.lt).trans h.c0, (k.cell (p := ⟨b, 1, none⟩) h.lt).trans h.c1, Nat.lt_of_lt_of_le h.lt k.size⟩
theorem Bx.alloc_ {W : World} {b n c m d : Nat} {A B : Option Addr} (h : Bx W b A n c B m d) (o : Obj) : Bx (W.alloc o) b A n c B m d := h.kp (Kp.alloc_ W o)
theorem Bx.new {W : World} {b n c m d : Nat} {A B : Option Addr} {t : TypeId} (h : b = W.heap.size) : Bx (W.alloc (.cells #[.slice A n c, .slice B m d] t)) b A n c B m d := by
  subst h; exact ⟨by simp, by simp, by simp⟩

end Go.Proofs.YtdbncanedokinaaGreat

/- A tensor's block, known whole; two tensors that are the same; at most a hundred of each. -/
namespace Go.Proofs.YtdbncanedokinaaGreat
open Go.RowKit Go.Proofs.ShM

/-- A tensor's block, known whole. -/
def Bk (W : World) (b : Nat) (A : Option Addr) (n c : Nat) (B : Option Addr) (m d : Nat) : Prop := W.heap[b]? = some (.cells #[.slice A n c, .slice B m d] 25 (0, 0))
section
variable {W W' : World} {b b' n c m d n' c' m' d' : Nat} {A B C D : Option Addr}
theorem Bk.lt (h : Bk W b A n c B m d) : b < W.heap.size := (Array.getElem?_eq_some_iff.1 h).1
theorem Bk.c0 (h : Bk W b A n c B m d) : W.cell? ⟨b, 0, none⟩ = some (.slice A n c) := by simp [World.cell?, show W.heap[b]? = _ from h]
theorem Bk.c1 (h : Bk W b A n c B m d) : W.cell? ⟨b, 1, none⟩ = some (.slice B m d) := by simp [World.cell?, show W.heap[b]? = _ from h]
theorem Bk.f0 (h : Bk W b A n c B m d) (i : Nat) : W.frozen? ⟨b, i, none⟩ = false := by simp [World.frozen?, show W.heap[b]? = _ from h]
theorem Bk.kp (h : Bk W b A n c B m d) (k : Kp W W') : Bk W' b A n c B m d := (k.block b h.lt).trans h
theorem Bk.alloc_ (h : Bk W b A n c B m d) (o : Obj) : Bk (W.alloc o) b A n c B m d := h.kp (Kp.alloc_ W o)
theorem Bk.new (h : b = W.heap.size) : Bk (W.alloc (.cells #[.slice A n c, .slice B m d] 25)) b A n c B m d := by
  subst h
  show (W.heap.push _)[W.heap.size]? = some _
  simp
theorem Bk.other (h : Bk W b A n c B m d) (hne : b ≠ b') (x y : Value) : Bk ((W.setCell ⟨b', 0, none⟩ x).setCell ⟨b', 1, none⟩ y) b A n c B m d := by
  unfold Bk
  rw [Below.heap_setCell _ _ _ b hne, Below.heap_setCell _ _ _ b hne]; exact h
theorem heap_set {cs : Array Value} {t : TypeId} (h : W.heap[b]? = some (.cells cs t (0, 0))) (i : Nat) (x : Value) : (W.setCell ⟨b, i, none⟩ x).heap[b]? = some (.cells (cs.setIfInBounds i x) t (0, 0)) := by
  obtain ⟨hlt, hk⟩ := Array.getElem?_eq_some_iff.1 h
  show (W.heap.modify b _)[b]? = _
  rw [Array.getElem?_eq_getElem (by rw [Array.size_modify]; exact hlt), Array.getElem_modify_self, hk]
  rfl
theorem Bk.put (h : Bk W b A n c B m d) : Bk ((W.setCell ⟨b, 0, none⟩ (.slice C n' c')).setCell ⟨b, 1, none⟩ (.slice D m' d')) b C n' c' D m' d' :=
  heap_set (heap_set h 0 _) 1 _
theorem Rd.past {A0 : Option Addr} {xs : List Int} (r : Rd W A0 xs) (h : Bk W b A n c B m d) (x y : Value) : Rd ((W.setCell ⟨b, 0, none⟩ x).setCell ⟨b, 1, none⟩ y) A0 xs := by
  cases xs with
  | nil => exact Rd.nil _ _
  | cons z zs =>
    have hne : ∀ ad, A0 = some ad → ad.block ≠ b := by
      rintro ad rfl e
      obtain ⟨ad', e', hb, hc⟩ := r.2 (by simp)
      injection e' with e'
      subst e'
      have h0 := hc 0 z rfl
      have e1 : ad.add 0 = ad := by unfold Addr.add; simp
      rw [e1] at h0
      unfold World.cell? at h0
      rw [e, show W.heap[b]? = _ from h] at h0
      obtain ⟨_, off, spot⟩ := ad
      match off, h0 with
      | 0, h0 => cases spot <;> simp at h0
      | 1, h0 => cases spot <;> simp at h0
      | k + 2, h0 => cases spot <;> simp at h0
    exact (r.put_ hne x).put_ hne y
theorem Sl.past {A0 : Option Addr} {c0 : Nat} {xs : List Int} (r : Sl W A0 c0 xs) (h : Bk W b A n c B m d) (x y : Value) : Sl ((W.setCell ⟨b, 0, none⟩ x).setCell ⟨b, 1, none⟩ y) A0 c0 xs := ⟨r.rd.past h x y, r.le, r.cap⟩
theorem TR.past {A0 B0 : Option Addr} {l k : List Int} (r : TR W A0 l B0 k) (h : Bk W b A n c B m d) (x y : Value) : TR ((W.setCell ⟨b, 0, none⟩ x).setCell ⟨b, 1, none⟩ y) A0 l B0 k := ⟨r.s.past h x y, r.d.past h x y⟩
end
theorem TR.nil_ {w : World} {A B : Option Addr} : TR w A [] B [] := ⟨Rd.nil _ _, Rd.nil _ _⟩

theorem tsame_u {W : World} {A B C D : Option Addr} {l k : List Int} {a b c d g h : Nat} (r : TR W A l B k) (q : TR W C l D k) (ha : l.length = a) (hb : k.length = b) :
    Calls Tryz.prog 15 #[.agg #[.slice A a c, .slice B b d], .agg #[.slice C a g, .slice D b h]] W fun e w' => e = .returned (.bool true) ∧ Kp W w' := by
  subst ha hb
  have hh := tsame_any A B C D c d g h l k l k W r.s r.d q.s q.d
  simpa using hh
end Go.Proofs.YtdbncanedokinaaGreat

/- From a law's walk to its row: an argument []int opened, all arguments read as they did. -/
namespace Go.Proofs.YtdbncanedokinaaGreat
open Go.ChangeShapes Go.WideShapes Go.ChangeAt Go.RowKit Go.Proofs.ShM

theorem int_cells : Tryz.prog.cellsOf 3 = 1 := by kernel_rfl

section
variable {H : Type} {enc : TypeId × Value → H}
theorem lt_of_cell {w : World} {a : Addr} {v : Value} (h : w.cell? a = some v) : a.block < w.heap.size := by
  rcases Nat.lt_or_ge a.block w.heap.size with hl | hl
  · exact hl
  · simp [World.cell?, Array.getElem?_eq_none hl] at h

end
end Go.Proofs.YtdbncanedokinaaGreat

/- From a law's walk to its row: a tensor opened. -/
namespace Go.Proofs.YtdbncanedokinaaGreat
open Go.ChangeShapes Go.WideShapes Go.ChangeAt Go.RowKit Go.Proofs.ShM

section
variable {H : Type} {enc : TypeId × Value → H}
end
end Go.Proofs.YtdbncanedokinaaGreat
