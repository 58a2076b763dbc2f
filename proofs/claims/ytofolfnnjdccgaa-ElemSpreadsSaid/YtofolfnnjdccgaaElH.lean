/- The document's Two of layer 4 (fullerref04). -/
import Derived.Test.YtofolfnnjdccgaaElG
namespace Go.Proofs.Ytofolfnnjdccgaa
open Go.RowKit Go.Proofs.ShM Go.Proofs.FixM
set_option linter.unusedVariables false

theorem Own.kp0 {W0 w w' : World} {v : Value} {xs : List Int} (h : Own W0.heap.size w v xs) (k : Kp w w') : Own W0.heap.size w' v xs := h.kp k
/-- What stands since the loop's head. -/
theorem Tw.o_end {w W : World} {A B C D : Option Addr} {n c m d n' c' m' d' : Nat} (h : Tw w A n c B m d C n' c' D m' d' W) (x y : Value) : Kp w ((W.setCell ⟨w.heap.size + 1 + 1, 0, none⟩ x).setCell ⟨w.heap.size + 1 + 1, 1, none⟩ y) :=
  (h.k.setCell (p := ⟨w.heap.size + 1 + 1, 0, none⟩) (Nat.le_succ_of_le (Nat.le_succ _)) x).setCell (p := ⟨w.heap.size + 1 + 1, 1, none⟩) (Nat.le_succ_of_le (Nat.le_succ _)) y

set_option maxHeartbeats 2000000 in
theorem rtwo_op {op : Int} (A B C D : Option Addr) (c d c' d' : Nat) (s xs g ys : List Int) (w : World) (hop : op < 10 ∨ 13 < op) :
    Calls Try.prog 15 #[.int .i64 op, .agg #[.slice A s.length c, .slice B xs.length d], .agg #[.slice C g.length c', .slice D ys.length d']] w (RetT (twoV op s xs g ys) w) := by
  have HO : Hid (twoV op s xs g ys = ([], [], 1)) := by show twoV op s xs g ys = _; unfold twoV; rw [if_pos hop]
  by_cases h1 : op < 10
  all_goals
    first
    | (have h2 : 13 < op := by omega)
    | skip
    clear hop
    have TW := Lib.hid (Tw.mk_ w A s.length c B xs.length d C g.length c' D ys.length d')
    go_enter Try.func15, Try.ntmps15
    go_wp2
    refine bodyPost_ret (v := .tuple #[.agg #[.slice none 0 0, .slice none 0 0], .int .i64 1]) (by simp [results, Try.results15, go_sem]; try rfl) rfl ?_
    first
    | exact RetT.err HO.out (TW.out.o_end _ _)
    | exact RetT.err HO.out TW.out.k

set_option maxHeartbeats 2000000 in
theorem rtwo_tok {op : Int} (A B C D : Option Addr) (c d c' d' : Nat) (s xs g ys : List Int) (w : World) (hA : Rd w A s) (hB : Rd w B xs) (hC : Rd w C g) (hD : Rd w D ys) (hop : 10 ≤ op ∧ op ≤ 13) {t u : Bool} (ht : tokV s xs = t) (hu : tokV g ys = u) (hn : t = false ∨ u = false) :
    Calls Try.prog 15 #[.int .i64 op, .agg #[.slice A s.length c, .slice B xs.length d], .agg #[.slice C g.length c', .slice D ys.length d']] w (RetT (twoV op s xs g ys) w) := by
  have HO : Hid (twoV op s xs g ys = ([], [], 30)) := by show twoV op s xs g ys = _; unfold twoV; rw [if_neg (by omega), if_pos (by rw [ht, hu]; exact hn)]
  have HC := Lib.hid (fun W (k : Kp w W) => rtcheck_any A B c d s xs W (hA.kp k) (hB.kp k))
  rw [ht] at HC
  have HD := Lib.hid (fun W (k : Kp w W) => rtcheck_any C D c' d' g ys W (hC.kp k) (hD.kp k))
  rw [hu] at HD
  have q1 : (decide (op < 10)) = false := by simp; omega
  have q2 : (decide (13 < op)) = false := by simp; omega
  clear hA hB hC hD ht hu hop
  cases t with
  | false =>
    have TW0 := Lib.hid (Tw.mk_ w A s.length c B xs.length d C g.length c' D ys.length d')
    go_enter Try.func15, Try.ntmps15
    go_wp2_with fail
    refine (HC.out _ TW0.out.k).mono ?_; rintro e w2 ⟨rfl, k2⟩
    have TW := Lib.hid (TW0.out.tr k2)
    clear k2
    have b0 := TW.out.b.c0
    have b1 := TW.out.b.c1
    have b2 := TW.out.b.lt
    go_wp2_with fail
    refine (HD.out _ TW.out.k).mono ?_; rintro e w3 ⟨rfl, k3⟩
    have TW := Lib.hid (TW.out.tr k3)
    clear b0 b1 b2 k3
    have o0 := TW.out.o.c0
    have o1 := TW.out.o.c1
    have o2 := TW.out.o.lt
    have p0 := TW.out.o.f0 0
    have p1 := TW.out.o.f0 1
    go_wp2
    refine bodyPost_ret (v := .tuple #[.agg #[.slice none 0 0, .slice none 0 0], .int .i64 30]) (by simp [results, Try.results15, go_sem, o0, o1]) rfl ?_
    exact RetT.out_ HO.out (Nat.le_succ_of_le (Nat.le_succ _)) TW.out.k
  | true =>
    obtain rfl : u = false := by rcases hn with h | h; cases h; exact h
    have TW0 := Lib.hid (Tw.mk_ w A s.length c B xs.length d C g.length c' D ys.length d')
    go_enter Try.func15, Try.ntmps15
    go_wp2_with fail
    refine (HC.out _ TW0.out.k).mono ?_; rintro e w2 ⟨rfl, k2⟩
    have TW := Lib.hid (TW0.out.tr k2)
    clear k2
    have b0 := TW.out.b.c0
    have b1 := TW.out.b.c1
    have b2 := TW.out.b.lt
    go_wp2_with fail
    refine (HD.out _ TW.out.k).mono ?_; rintro e w3 ⟨rfl, k3⟩
    have TW := Lib.hid (TW.out.tr k3)
    clear b0 b1 b2 k3
    have o0 := TW.out.o.c0
    have o1 := TW.out.o.c1
    have o2 := TW.out.o.lt
    have p0 := TW.out.o.f0 0
    have p1 := TW.out.o.f0 1
    go_wp2
    refine bodyPost_ret (v := .tuple #[.agg #[.slice none 0 0, .slice none 0 0], .int .i64 30]) (by simp [results, Try.results15, go_sem, o0, o1]) rfl ?_
    exact RetT.out_ HO.out (Nat.le_succ_of_le (Nat.le_succ _)) TW.out.k

set_option maxHeartbeats 2000000 in
theorem rtwo_join {op : Int} (A B C D : Option Addr) (c d c' d' : Nat) (s xs g ys : List Int) (w : World) (hA : Rd w A s) (hB : Rd w B xs) (hC : Rd w C g) (hD : Rd w D ys) (hop : 10 ≤ op ∧ op ≤ 13) (ht : tokV s xs = true) (hu : tokV g ys = true) (hj : joinV s g = ([], 20)) :
    Calls Try.prog 15 #[.int .i64 op, .agg #[.slice A s.length c, .slice B xs.length d], .agg #[.slice C g.length c', .slice D ys.length d']] w (RetT (twoV op s xs g ys) w) := by
  have HO : Hid (twoV op s xs g ys = ([], [], 20)) := by show twoV op s xs g ys = _; unfold twoV; rw [if_neg (by omega), if_neg (by simp [ht, hu]), hj]; rfl
  have hl := hA.len
  have hl2 := hC.len
  have HC := Lib.hid (fun W (k : Kp w W) => rtcheck_any A B c d s xs W (hA.kp k) (hB.kp k))
  rw [ht] at HC
  have HD := Lib.hid (fun W (k : Kp w W) => rtcheck_any C D c' d' g ys W (hC.kp k) (hD.kp k))
  rw [hu] at HD
  have q1 : (decide (op < 10)) = false := by simp; omega
  have q2 : (decide (13 < op)) = false := by simp; omega
  have HJ := Lib.hid (fun W (k : Kp w W) => rjoin_any A C c c' s g W (hA.kp k) (hC.kp k))
  rw [hj] at HJ
  clear hA hB hC hD ht hu hop hj
  have TW0 := Lib.hid (Tw.mk_ w A s.length c B xs.length d C g.length c' D ys.length d')
  go_enter Try.func15, Try.ntmps15
  go_wp2_with fail
  refine (HC.out _ TW0.out.k).mono ?_; rintro e w2 ⟨rfl, k2⟩
  have TW := Lib.hid (TW0.out.tr k2)
  clear k2
  have b0 := TW.out.b.c0
  have b1 := TW.out.b.c1
  have b2 := TW.out.b.lt
  go_wp2_with fail
  refine (HD.out _ TW.out.k).mono ?_; rintro e w3 ⟨rfl, k3⟩
  have TW := Lib.hid (TW.out.tr k3)
  clear b0 b1 b2 k3
  have a0 := TW.out.a.c0
  have a1 := TW.out.a.c1
  have a2 := TW.out.a.lt
  have b0 := TW.out.b.c0
  have b1 := TW.out.b.c1
  have b2 := TW.out.b.lt
  go_wp2_with fail
  refine (HJ.out _ TW.out.k).mono ?_; rintro e w4 ⟨AJ, cJ, rfl, oJ, k4⟩
  have TW := Lib.hid (TW.out.tr k4)
  clear a0 a1 a2 b0 b1 b2 k4 oJ
  have o0 := TW.out.o.c0
  have o1 := TW.out.o.c1
  have o2 := TW.out.o.lt
  have p0 := TW.out.o.f0 0
  have p1 := TW.out.o.f0 1
  go_wp2
  refine bodyPost_ret (v := .tuple #[.agg #[.slice none 0 0, .slice none 0 0], .int .i64 20]) (by simp [results, Try.results15, go_sem, o0, o1]) rfl ?_
  exact RetT.out_ HO.out (Nat.le_succ_of_le (Nat.le_succ _)) TW.out.k

theorem rspread_u {A B C : Option Addr} {c d e n m o a b : Nat} {l k : List Int} {err : Int} {w : World} (s xs g : List Int) (h : TR w A s B xs) (hC : Rd w C g) (hn : n = s.length) (hm : m = xs.length) (ho : o = g.length) (hr : spreadV s xs g = (l, k, err)) (ha : l.length = a) (hb : k.length = b) :
    Calls Try.prog 31 #[.agg #[.slice A n c, .slice B m d], .slice C o e] w (RetU l k a b err w) := by
  subst hn hm ho
  exact (rspread_any A B C c d e s xs g w h.s h.d hC).mono fun _ _ r => r.u hr ha hb

end Go.Proofs.Ytofolfnnjdccgaa
