/- The landed graph: whether two nodes agree. -/
import Derived.Test.YtnkkkpanlnencaaGrZa
namespace Go.Proofs.Ytnkkkpanlnencaa.Gz
open Go.RowKit Go.Proofs.ShM Go.Proofs.GrM
set_option linter.unusedVariables false
set_option linter.unusedSimpArgs false
set_option maxHeartbeats 2000000

theorem agree_ne (x y : Int) (n m n2 m2 c d e f : Nat) (P R Q S : Option Addr) (w : World) (e1 : (x != y) = true) :
    Calls Try.prog 60 #[.agg #[.int .i64 x, .slice P n c, .slice Q m d], .agg #[.int .i64 y, .slice R n2 e, .slice S m2 f]] w fun e w' => e = .returned (.bool true) ∧ Kp w w' := by
  have F0 : Hid (Nb ((w.alloc (.cells #[.int .i64 x, .slice P n c, .slice Q m d] 25)).alloc (.cells #[.int .i64 y, .slice R n2 e, .slice S m2 f] 25)) w.heap.size x P n c Q m d) := (Nb.new rfl).alloc_ _
  have F1 : Hid (Nb ((w.alloc (.cells #[.int .i64 x, .slice P n c, .slice Q m d] 25)).alloc (.cells #[.int .i64 y, .slice R n2 e, .slice S m2 f] 25)) (w.heap.size + 1) y R n2 e S m2 f) := Nb.new (by simp)
  have K0 : Hid (Kp w ((w.alloc (.cells #[.int .i64 x, .slice P n c, .slice Q m d] 25)).alloc (.cells #[.int .i64 y, .slice R n2 e, .slice S m2 f] 25))) := (Kp.alloc_ _ _).tr (Kp.alloc_ _ _)
  have p0 := F0.out.c0
  have p2 := F0.out.c2
  have q0 := F1.out.c0
  have q2 := F1.out.c2
  go_enter Try.func60, Try.ntmps60
  go_wp2
  go_ret
  exact ⟨rfl, K0.out⟩
theorem agree_gt (x : Int) (n m n2 m2 c d e f : Nat) (P R Q S : Option Addr) (w : World) (h1 : (x == 1) = false) (h2 : (x == 2) = false) :
    Calls Try.prog 60 #[.agg #[.int .i64 x, .slice P n c, .slice Q m d], .agg #[.int .i64 x, .slice R n2 e, .slice S m2 f]] w fun e w' => e = .returned (.bool true) ∧ Kp w w' := by
  have F0 : Hid (Nb ((w.alloc (.cells #[.int .i64 x, .slice P n c, .slice Q m d] 25)).alloc (.cells #[.int .i64 x, .slice R n2 e, .slice S m2 f] 25)) w.heap.size x P n c Q m d) := (Nb.new rfl).alloc_ _
  have F1 : Hid (Nb ((w.alloc (.cells #[.int .i64 x, .slice P n c, .slice Q m d] 25)).alloc (.cells #[.int .i64 x, .slice R n2 e, .slice S m2 f] 25)) (w.heap.size + 1) x R n2 e S m2 f) := Nb.new (by simp)
  have K0 : Hid (Kp w ((w.alloc (.cells #[.int .i64 x, .slice P n c, .slice Q m d] 25)).alloc (.cells #[.int .i64 x, .slice R n2 e, .slice S m2 f] 25))) := (Kp.alloc_ _ _).tr (Kp.alloc_ _ _)
  have p0 := F0.out.c0
  have p2 := F0.out.c2
  have q0 := F1.out.c0
  have q2 := F1.out.c2
  have e1 : (x != x) = false := by simp
  go_enter Try.func60, Try.ntmps60
  go_wp2
  go_ret
  exact ⟨rfl, K0.out⟩
theorem agree_1 (n m n2 m2 c d e f : Nat) (P R Q S : Option Addr) (w : World) (s : Bool) (HS : Hid (∀ W, Kp w W → Calls Try.prog 67 #[.slice Q m d, .slice S m2 f] W fun e w' => e = .returned (.bool s) ∧ ∃ n, w' = W.drewN n)) :
    Calls Try.prog 60 #[.agg #[.int .i64 1, .slice P n c, .slice Q m d], .agg #[.int .i64 1, .slice R n2 e, .slice S m2 f]] w fun e w' => e = .returned (.bool s) ∧ Kp w w' := by
  have F0 : Hid (Nb ((w.alloc (.cells #[.int .i64 1, .slice P n c, .slice Q m d] 25)).alloc (.cells #[.int .i64 1, .slice R n2 e, .slice S m2 f] 25)) w.heap.size 1 P n c Q m d) := (Nb.new rfl).alloc_ _
  have F1 : Hid (Nb ((w.alloc (.cells #[.int .i64 1, .slice P n c, .slice Q m d] 25)).alloc (.cells #[.int .i64 1, .slice R n2 e, .slice S m2 f] 25)) (w.heap.size + 1) 1 R n2 e S m2 f) := Nb.new (by simp)
  have K0 : Hid (Kp w ((w.alloc (.cells #[.int .i64 1, .slice P n c, .slice Q m d] 25)).alloc (.cells #[.int .i64 1, .slice R n2 e, .slice S m2 f] 25))) := (Kp.alloc_ _ _).tr (Kp.alloc_ _ _)
  have p0 := F0.out.c0
  have p2 := F0.out.c2
  have q0 := F1.out.c0
  have q2 := F1.out.c2
  go_enter Try.func60, Try.ntmps60
  go_wp2_with fail
  refine (HS.out _ K0.out).mono ?_; rintro e0 w1 ⟨rfl, k1, rfl⟩
  go_wp2
  go_ret
  exact ⟨rfl, K0.out.tr (Kp.drewN_ _ _)⟩
theorem agree_un (n m n2 m2 c d e f : Nat) (P R : Option Addr) (ad ae : Addr) (u v : Int) (w : World) (hb : ad.block < w.heap.size) (hb2 : ae.block < w.heap.size) (hc : w.cell? ad = some (.int .i64 u)) (hc2 : w.cell? ae = some (.int .i64 v)) (i1 : (0 : Int) < (m : Int)) (i2 : (0 : Int) < (m2 : Int)) (e4 : (u != v) = true) :
    Calls Try.prog 60 #[.agg #[.int .i64 2, .slice P n c, .slice (some ad) m d], .agg #[.int .i64 2, .slice R n2 e, .slice (some ae) m2 f]] w fun e w' => e = .returned (.bool true) ∧ Kp w w' := by
  have F0 : Hid (Nb ((w.alloc (.cells #[.int .i64 2, .slice P n c, .slice (some ad) m d] 25)).alloc (.cells #[.int .i64 2, .slice R n2 e, .slice (some ae) m2 f] 25)) w.heap.size 2 P n c (some ad) m d) := (Nb.new rfl).alloc_ _
  have F1 : Hid (Nb ((w.alloc (.cells #[.int .i64 2, .slice P n c, .slice (some ad) m d] 25)).alloc (.cells #[.int .i64 2, .slice R n2 e, .slice (some ae) m2 f] 25)) (w.heap.size + 1) 2 R n2 e (some ae) m2 f) := Nb.new (by simp)
  have K0 : Hid (Kp w ((w.alloc (.cells #[.int .i64 2, .slice P n c, .slice (some ad) m d] 25)).alloc (.cells #[.int .i64 2, .slice R n2 e, .slice (some ae) m2 f] 25))) := (Kp.alloc_ _ _).tr (Kp.alloc_ _ _)
  have p0 := F0.out.c0
  have p2 := F0.out.c2
  have q0 := F1.out.c0
  have q2 := F1.out.c2
  have p3 := (K0.out.cell (p := ad) hb).trans hc
  have q3 := (K0.out.cell (p := ae) hb2).trans hc2
  clear hb hb2 hc hc2
  go_enter Try.func60, Try.ntmps60
  go_wp2_with fail
  go_quiet (fail)
  go_wp2
  go_ret
  exact ⟨rfl, K0.out.tr (Kp.drewN_ _ _)⟩
theorem agree_eq (n m n2 m2 c d e f : Nat) (P R : Option Addr) (ad ae : Addr) (u v : Int) (w : World) (hb : ad.block < w.heap.size) (hb2 : ae.block < w.heap.size) (hc : w.cell? ad = some (.int .i64 u)) (hc2 : w.cell? ae = some (.int .i64 v)) (i1 : (0 : Int) < (m : Int)) (i2 : (0 : Int) < (m2 : Int)) (e4 : (u != v) = false) (s : Bool) (HS : Hid (∀ W, Kp w W → Calls Try.prog 67 #[.slice (some ad) m d, .slice (some ae) m2 f] W fun e w' => e = .returned (.bool s) ∧ ∃ n, w' = W.drewN n)) :
    Calls Try.prog 60 #[.agg #[.int .i64 2, .slice P n c, .slice (some ad) m d], .agg #[.int .i64 2, .slice R n2 e, .slice (some ae) m2 f]] w fun e w' => e = .returned (.bool s) ∧ Kp w w' := by
  have F0 : Hid (Nb ((w.alloc (.cells #[.int .i64 2, .slice P n c, .slice (some ad) m d] 25)).alloc (.cells #[.int .i64 2, .slice R n2 e, .slice (some ae) m2 f] 25)) w.heap.size 2 P n c (some ad) m d) := (Nb.new rfl).alloc_ _
  have F1 : Hid (Nb ((w.alloc (.cells #[.int .i64 2, .slice P n c, .slice (some ad) m d] 25)).alloc (.cells #[.int .i64 2, .slice R n2 e, .slice (some ae) m2 f] 25)) (w.heap.size + 1) 2 R n2 e (some ae) m2 f) := Nb.new (by simp)
  have K0 : Hid (Kp w ((w.alloc (.cells #[.int .i64 2, .slice P n c, .slice (some ad) m d] 25)).alloc (.cells #[.int .i64 2, .slice R n2 e, .slice (some ae) m2 f] 25))) := (Kp.alloc_ _ _).tr (Kp.alloc_ _ _)
  have p0 := F0.out.c0
  have p2 := F0.out.c2
  have q0 := F1.out.c0
  have q2 := F1.out.c2
  have p3 := (K0.out.cell (p := ad) hb).trans hc
  have q3 := (K0.out.cell (p := ae) hb2).trans hc2
  clear hb hb2 hc hc2
  go_enter Try.func60, Try.ntmps60
  go_wp2_with fail
  go_quiet (fail)
  go_wp2_with fail
  refine (HS.out _ (K0.out.tr (Kp.drewN_ _ _))).mono ?_; rintro e0 w1 ⟨rfl, k1, rfl⟩
  go_wp2
  go_ret
  exact ⟨rfl, K0.out.tr (Kp.drewN_ _ _)⟩
theorem like_comm (a b : Nd) : likeB a b = likeB b a := by
  rw [Bool.eq_iff_iff]
  exact ⟨like_symm, like_symm⟩
theorem agree_any (a b : Nd) (P Q R S : Option Addr) (c d e f : Nat) (w : World) (hQ : Rd w Q a.2.2) (hS : Rd w S b.2.2) (hop : 1 ≤ a.1) (ha : a.1 = 2 → a.2.2 ≠ []) (hb : b.1 = 2 → b.2.2 ≠ []) :
    Calls Try.prog 60 #[ndV a P c Q d, ndV b R e S f] w fun e w' => e = .returned (.bool (likeB a b)) ∧ Kp w w' := by
  obtain ⟨x, la, na⟩ := a
  obtain ⟨y, lb, nb⟩ := b
  have HS : Hid (∀ W, Kp w W → Calls Try.prog 67 #[.slice Q na.length d, .slice S nb.length f] W fun e w' => e = .returned (.bool (na == nb)) ∧ ∃ n, w' = W.drewN n) := fun W k => equal_any Q S d f na nb W (hQ.kp k) (hS.kp k)
  have hop : 1 ≤ x := hop
  by_cases h1 : x = y
  · subst h1
    by_cases h2 : 2 < x
    · have hv : likeB (x, la, na) (x, lb, nb) = true := like_other h2
      rw [hv]
      exact agree_gt x _ _ _ _ c d e f P R Q S w (by simp; omega) (by simp; omega)
    · by_cases h3 : x = 2
      · subst h3
        obtain ⟨ad, e1, hb1, hc1, hm1⟩ := first_cell hQ (ha rfl)
        obtain ⟨ae, e2, hb2, hc2, hm2⟩ := first_cell hS (hb rfl)
        subst e1 e2
        have hv : likeB (2, la, na) (2, lb, nb) = if na.getD 0 0 ≠ nb.getD 0 0 then true else na == nb := by
          unfold likeB
          by_cases g : na.getD 0 0 ≠ nb.getD 0 0
          · rw [if_pos (.inr (.inr ⟨rfl, g⟩)), if_pos g]
          · rw [if_neg, if_neg g]
            rintro (c | c | ⟨_, c⟩)
            · exact c rfl
            · exact absurd (show (2 : Int) < 2 from c) (by decide)
            · exact g c
        have hc1 : w.cell? ad = some (.int .i64 (na.getD 0 0)) := hc1
        have hc2 : w.cell? ae = some (.int .i64 (nb.getD 0 0)) := hc2
        generalize na.getD 0 0 = u at hv hc1
        generalize nb.getD 0 0 = v at hv hc2
        have hm1 : 0 < na.length := hm1
        have hm2 : 0 < nb.length := hm2
        by_cases h4 : u = v
        · rw [hv, if_neg (by simp [h4])]
          exact agree_eq _ _ _ _ c d e f P R ad ae u v w hb1 hb2 hc1 hc2 (by omega) (by omega) (by simpa using h4) _ HS
        · rw [hv, if_pos h4]
          exact agree_un _ _ _ _ c d e f P R ad ae u v w hb1 hb2 hc1 hc2 (by omega) (by omega) (by simpa using h4)
      · obtain rfl : x = 1 := by omega
        have hv : likeB (1, la, na) (1, lb, nb) = (na == nb) := by
          unfold likeB
          rw [if_neg]
          rintro (c | c | ⟨c, _⟩)
          · exact c rfl
          · exact h2 c
          · exact h3 c
        rw [hv]
        exact agree_1 _ _ _ _ c d e f P R Q S w _ HS
  · have hv : likeB (x, la, na) (y, lb, nb) = true := by unfold likeB; rw [if_pos (.inl h1)]
    rw [hv]
    exact agree_ne x y _ _ _ _ c d e f P R Q S w (by simpa using h1)
end Go.Proofs.Ytnkkkpanlnencaa.Gz
