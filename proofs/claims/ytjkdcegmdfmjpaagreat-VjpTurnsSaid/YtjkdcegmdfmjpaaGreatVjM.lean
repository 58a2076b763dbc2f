import Derived.Test.YtjkdcegmdfmjpaaGreatTk
import Derived.Test.YtjkdcegmdfmjpaaGreatEvN
set_option maxHeartbeats 16000000
set_option maxRecDepth 100000
set_option linter.unusedVariables false
set_option linter.unusedSimpArgs false
namespace Go.Proofs.EvM
open Go.Proofs.ShM Go.Proofs.FixM Go.Proofs.GrM Go.Proofs.InM Go.Proofs.ImM
def foldR (r : Tn) (s : List Int) : Tn := if r.2.2 = 0 then foldV r.1 r.2.1 s else ([], [], r.2.2)
def reluG (a g : List Int) : List Int := (a.zip g).map fun p => if 0 < p.1 then p.2 else 0
def slopesR (a : T) : Tn := if (mapE slopeV a.2).2 = 0 then (a.1, (mapE slopeV a.2).1, 0) else ([], [], (mapE slopeV a.2).2)
def thenR (op : Int) (a : T) (r : Tn) : Tn := if r.2.2 = 0 then twoV op a.1 a.2 r.1 r.2.1 else ([], [], r.2.2)
def andR (op : Int) (r : Tn) (a : T) : Tn := if r.2.2 = 0 then twoV op r.1 r.2.1 a.1 a.2 else ([], [], r.2.2)
def oneR (op : Int) (r : Tn) : Tn := if r.2.2 = 0 then oneV op r.1 r.2.1 else ([], [], r.2.2)
def growR (r : Tn) (axis n : Int) : Tn := if r.2.2 = 0 then growV r.1 r.2.1 axis n else ([], [], r.2.2)
def firstT (a : T) (axis : Int) : T := ((firstV a.1 a.2 axis).1, (firstV a.1 a.2 axis).2.1)
def vjB (op : Int) (nums : List Int) (a b out g : T) : Tn :=
 if op = 10 then foldV g.1 g.2 b.1 else if op = 11 then foldR (oneV 20 g.1 g.2) b.1 else if op = 12 then foldR (twoV 12 g.1 g.2 a.1 a.2) b.1 else
 if op = 13 then foldR (oneR 20 (andR 13 (twoV 12 g.1 g.2 out.1 out.2) b)) b.1 else if op = 30 then rightV a.1 a.2 g.1 g.2 else
 sliceV g.1 g.2 (nums.getD 0 0) (a.1.getD (nums.getD 0 0).toNat 0) (a.1.getD (nums.getD 0 0).toNat 0 + b.1.getD (nums.getD 0 0).toNat 0)
def vjX (op : Int) (at_ : Int) (nums : List Int) (a g : T) : Tn :=
 if op = 42 then padV g.1 g.2 at_ (nums.getD 1 0) (a.1.getD at_.toNat 0) else if op = 43 then sliceV g.1 g.2 at_ 0 (a.1.getD at_.toNat 0) else
 if op = 50 then growV g.1 g.2 at_ (a.1.getD at_.toNat 0) else if op = 51 then growR (twoV 13 g.1 g.2 [] [4294967296 * a.1.getD at_.toNat 0]) at_ (a.1.getD at_.toNat 0) else
 andR 12 (growV g.1 g.2 at_ (a.1.getD at_.toNat 0)) (firstT a at_)
def vjA (op : Int) (nums : List Int) (a b out g : T) : Tn :=
 if op = 10 ∨ op = 11 then foldV g.1 g.2 a.1 else if op = 12 ∨ op = 13 then foldR (twoV op g.1 g.2 b.1 b.2) a.1 else if op = 20 then oneV 20 g.1 g.2 else
 if op = 21 then (g.1, reluG a.2 g.2, 0) else if op = 22 then thenR 12 g (slopesR a) else if op = 23 then thenR 13 g (twoV 10 out.1 out.2 out.1 out.2) else
 if op = 30 then leftV g.1 g.2 b.1 b.2 else if op = 40 then reshapeV g.1 g.2 a.1 else if op = 41 then turnV g.1 g.2 else vjX op (nums.getD 0 0) nums a g
def backV (op : Int) (nums : List Int) (args : List T) (out g : T) : List T × Int :=
 if args.all tokT = false ∨ tokT out = false ∨ tokT g = false then ([], 30) else
 if (nodeV op nums (shT args)).2 ≠ 0 then ([], (nodeV op nums (shT args)).2) else
 if out.1 ≠ (nodeV op nums (shT args)).1 ∨ g.1 ≠ (nodeV op nums (shT args)).1 then ([], 20) else
 if args.length = 0 then ([], 0) else
 if (vjA op nums (args.getD 0 eT) (args.getD 1 eT) out g).2.2 ≠ 0 then ([], (vjA op nums (args.getD 0 eT) (args.getD 1 eT) out g).2.2) else
 if args.length = 1 then ([(tnE (vjA op nums (args.getD 0 eT) (args.getD 1 eT) out g)).1], 0) else
 if (vjB op nums (args.getD 0 eT) (args.getD 1 eT) out g).2.2 ≠ 0 then ([], (vjB op nums (args.getD 0 eT) (args.getD 1 eT) out g).2.2) else
 ([(tnE (vjA op nums (args.getD 0 eT) (args.getD 1 eT) out g)).1, (tnE (vjB op nums (args.getD 0 eT) (args.getD 1 eT) out g)).1], 0)
def Fit (r : Tn) (s : List Int) : Prop := r.2.2 = 0 → r.1 = s ∧ tokV s r.2.1 = true
theorem fit_err {e : Int} {s : List Int} (h : e ≠ 0) : Fit ([], [], e) s := fun h' => absurd h' h
theorem fit_mat (s xs t ys : List Int) : Fit (matV s xs t ys) [s.getD 0 0, t.getD 1 0] := by
 unfold matV
 split
 ·exact fit_err (by decide)
 ·split
  ·exact fit_err (by decide)
  ·rename_i h1
   split
   ·rename_i h2
    refine fun _ => ⟨rfl, ?_⟩
    have ho : okS [s.getD 0 0, t.getD 1 0] = true := by
     cases h : okS [s.getD 0 0, t.getD 1 0] with
     | true => rfl
     | false => exact absurd (.inr (.inr (.inr h))) h1
    refine Go.Proofs.ShM.tok_iff.2 ⟨ho, ?_⟩
    have ha := (ok_iff.1 ho).2.1
    have h3 := (getD_side ha (a := 0) (by simp)).1
    have h4 := (getD_side ha (a := 1) (by simp)).1
    have h3 : 1 ≤ s.getD 0 0 := h3
    have h4 : 1 ≤ t.getD 1 0 := h4
    show (((matL xs ys (s.getD 0 0).toNat (s.getD 1 0).toNat (t.getD 1 0).toNat).1.length : Nat) : Int) = s.getD 0 0 * (t.getD 1 0 * 1)
    unfold matL at h2 ⊢
    rw [mapE_len h2, List.length_range, Int.natCast_mul, Int.toNat_of_nonneg (by omega), Int.toNat_of_nonneg (by omega), Int.mul_one]
   ·rename_i h2; exact fit_err h2
theorem fit_reshape (s xs g : List Int) (h : okS g = true) : Fit (reshapeV s xs g) g := by
 unfold reshapeV
 split
 ·exact fit_err (by decide)
 ·split
  ·rename_i h1
   exact fun _ => ⟨rfl, Go.Proofs.ImM.tok_iff (t := (g, xs)).2 ⟨h, h1.symm⟩⟩
  ·exact fit_err (by decide)
theorem fit_turn {s xs : List Int} : Fit (turnV s xs) s.reverse := by
 unfold turnV
 split
 ·exact fit_err (by decide)
 ·rename_i h
  refine fun _ => ⟨rfl, ?_⟩
  have h : tokV s xs = true := by simpa using h
  have ho := ok_rev' (tok_len h).1
  refine Go.Proofs.ShM.tok_iff.2 ⟨ho, ?_⟩
  show ((((List.range xs.length).map _).length : Nat) : Int) = _
  rw [List.length_map, List.length_range, prod_rev]
  exact (Go.Proofs.ShM.tok_iff.1 h).2
theorem tok_moved {s xs g : List Int} {k : Nat} {m : Int} (h : okS g = true) : tokV g (movedL s xs g k m) = true := Go.Proofs.ShM.tok_iff.2 ⟨h, by rw [moved_len, size_nat h]⟩
theorem fit_slice (s xs : List Int) (axis a b : Int) (h : okS (s.set axis.toNat (b - a)) = true) : Fit (sliceV s xs axis a b) (s.set axis.toNat (b - a)) := by
 unfold sliceV
 split
 ·exact fit_err (by decide)
 ·split
  ·exact fit_err (by decide)
  ·exact fun _ => ⟨rfl, tok_moved h⟩
theorem inL_erase : ∀ {s : List Int} {k : Nat}, k < s.length → inL (s.eraseIdx k) k (s.getD k 0) = s
 | x :: s, 0, _ => rfl
 | x :: s, k + 1, h => by
  rw [List.eraseIdx_cons_succ, inL_succ]
  show x :: inL (s.eraseIdx k) k (s.getD k 0) = _
  rw [inL_erase (by simpa using h)]
theorem kind_one {op : Int} {nums a b s : List Int} (h : kindV op nums a b = (s, 0)) (hop : 20 ≤ op ∧ op ≤ 23) : s = a := by
 unfold kindV at h
 rw [if_neg (by omega), if_neg (by omega), if_neg (by omega), if_neg (by omega), if_pos hop] at h
 injection h with h; exact h.symm
theorem kind_more {op : Int} {nums a b s : List Int} (h : kindV op nums a b = (s, 0)) (hop : op = 30 ∨ op = 42 ∨ op = 43 ∨ 44 ≤ op) : moreV op nums a b = (s, 0) := by
 unfold kindV at h
 rwa [if_neg (by omega), if_neg (by omega), if_neg (by omega), if_neg (by omega), if_neg (by omega), if_neg (by omega), if_neg (by omega)] at h
theorem kind_axis {op : Int} {nums a b s : List Int} (h : kindV op nums a b = (s, 0)) (hop : op = 42 ∨ op = 43 ∨ 44 ≤ op) : (nums.getD 0 0).toNat < a.length ∧ 0 ≤ nums.getD 0 0 ∧
  (if op = 42 then partV a (nums.getD 0 0) (nums.getD 1 0) (nums.getD 2 0) else if op = 43 then glueS a b (nums.getD 0 0) else (a.eraseIdx (nums.getD 0 0).toNat, 0)) = (s, 0) := by
 have h := kind_more h (by omega)
 unfold moreV at h
 rw [if_neg (by omega)] at h
 split at h
 ·injection h with _ h; cases h
 ·rename_i h1
  have h2 : axisB a (nums.getD 0 0) = true := by simpa using h1
  obtain ⟨h3, h4⟩ := axis_iff.1 h2
  exact ⟨by omega, h3, h⟩
end Go.Proofs.EvM
