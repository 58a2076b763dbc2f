/- Plain facts of layer 4's laws: twice a tensor, a difference turned, roots squared. -/
import Derived.Test.YtofolfnnjdccgaaElN
namespace Go.Proofs.ShM
open Go.Proofs.FixM

theorem double_two {s xs : List Int} (h : tokV s xs = true) : twoV 10 s xs s xs = twoV 12 s xs [] [8589934592] := by
  obtain ⟨ho, hn, _, _⟩ := tok_len h
  refine two_alike (j := s) (by omega) (by omega) h h h rfl (join_self ho) (join_iff.2 (Jn.nil_ ho).comm) fun i hi => ?_
  unfold atN
  rw [src_id h hi, src_one ho hi]
  rw [show ∀ a b, numsV 10 a b = addV a b from fun a b => rfl, show ∀ a b, numsV 12 a b = mulV a b from fun a b => rfl]
  unfold addV mulV
  congr 1
  show _ = xs.getD i 0 * 8589934592 / 4294967296
  omega
theorem sub_turn {s xs t ys : List Int} (h : (twoV 11 s xs t ys).2.2 = 0) (g : (twoV 11 t ys s xs).2.2 = 0) : oneV 20 (twoV 11 t ys s xs).1 (twoV 11 t ys s xs).2.1 = ((twoV 11 s xs t ys).1, (twoV 11 s xs t ys).2.1, 0) := by
  obtain ⟨j, Z, h1, h2, hj, e, hl, hk, hz⟩ := two_zero (by omega) h
  obtain ⟨j', Y, _, _, hj', e', hl', hk', hz'⟩ := two_zero (by omega) g
  rw [join_comm, hj] at hj'
  obtain ⟨rfl⟩ : j = j' := by injection hj'
  rw [e, e']
  dsimp only
  refine one_is (by omega) hk' (by rw [hl, hl']) fun i hi => ?_
  have g1 := hz i (by omega)
  have g2 := hz' i (by omega)
  unfold atN at g1 g2
  rw [show ∀ a b, numsV 11 a b = subV a b from fun a b => rfl] at g1 g2
  rw [show ∀ a, numV 20 a = subV 0 a from fun a => rfl]
  obtain ⟨p1, p2⟩ := put_ok g1
  obtain ⟨q1, _⟩ := put_ok g2
  rw [p1, q1]
  unfold subV
  rw [show ∀ a b : Int, 0 - (a - b) = b - a from fun a b => by omega]
  exact put_zero _ p2
theorem root_two {s xs : List Int} (hx : I64s xs) (h : (oneV 23 s xs).2.2 = 0) :
    ∃ rs, oneV 23 s xs = (s, rs, 0) ∧ ∃ Q, twoV 12 s rs s rs = (s, Q, 0) ∧ Q.length = xs.length ∧ ∀ (k : Nat) (x : Int), xs[k]? = some x → 0 ≤ x ∧ ∃ y, Q[k]? = some y ∧ y ≤ x := by
  obtain ⟨rs, h1, e, hl, hk, hz⟩ := one_zero (op := 23) (by omega) h
  obtain ⟨ho, hn, _, _⟩ := tok_len h1
  have key : ∀ i, i < xs.length → 0 ≤ xs.getD i 0 ∧ 0 ≤ rs.getD i 0 ∧ rs.getD i 0 * rs.getD i 0 / 4294967296 ≤ xs.getD i 0 := by
    intro i hi
    have g1 := hz i hi
    have gx := getD_i64 hx i
    rw [show ∀ a, numV 23 a = sqrtV a from fun a => rfl] at g1
    generalize xs.getD i 0 = x at g1 gx ⊢
    generalize rs.getD i 0 = r at g1 ⊢
    unfold sqrtV at g1
    by_cases hn0 : x < 0
    · rw [if_pos hn0] at g1; injection g1 with _ g1; cases g1
    · rw [if_neg hn0] at g1
      injection g1 with g1 _
      have hb : x.natAbs * 4294967296 < 79228162514264337593543950336 := by omega
      have hs := (sqR_is hb).1
      have hc : ((sqR (x.natAbs * 4294967296) : Nat) : Int) * ((sqR (x.natAbs * 4294967296) : Nat) : Int) ≤ ((x.natAbs * 4294967296 : Nat) : Int) := by
        rw [← Int.natCast_mul]; exact Int.ofNat_le.2 hs
      rw [← g1]
      refine ⟨by omega, by omega, ?_⟩
      generalize ((sqR (x.natAbs * 4294967296) : Nat) : Int) * ((sqR (x.natAbs * 4294967296) : Nat) : Int) = p at hc
      omega
  refine ⟨rs, e, (List.range xs.length).map (fun i => rs.getD i 0 * rs.getD i 0 / 4294967296), ?_, by simp, fun k x hxk => ?_⟩
  · refine two_is (by omega) hk hk (join_self ho) (by simp [hn]) fun i hi => ?_
    unfold atN
    rw [src_id hk hi]
    rw [show ∀ a b, numsV 12 a b = mulV a b from fun a b => rfl]
    have hi' : i < xs.length := by omega
    obtain ⟨g1, g2, g3⟩ := key i hi'
    have gx := getD_i64 hx i
    have g4 : 0 ≤ rs.getD i 0 * rs.getD i 0 / 4294967296 := Int.ediv_nonneg (Int.mul_nonneg g2 g2) (by omega)
    unfold mulV
    rw [put_zero _ ⟨by omega, by omega⟩]
    simp [List.getD, List.getElem?_map, List.getElem?_range hi']
  · have hk' := (List.getElem?_eq_some_iff.1 hxk).1
    obtain ⟨g1, g2, g3⟩ := key k hk'
    have ex : xs.getD k 0 = x := by simp [List.getD, hxk]
    rw [ex] at g1 g3
    exact ⟨g1, _, by simp [List.getElem?_map, List.getElem?_range hk'], g3⟩
end Go.Proofs.ShM
