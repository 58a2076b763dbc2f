/- The closures of layer 5 (move): the number told for an index. -/
import Derived.Test.YtdjfjhanffliiaaPvC
namespace Go.Proofs.Ytdjfjhanffliiaa
open Go.RowKit Go.Shelf Go.Proofs.ShM
set_option linter.unusedVariables false

set_option maxHeartbeats 2000000 in
theorem turn1_any (A B D : Option Addr) (c d n bt : Nat) (s xs X : List Int) (W : World) (T : Bk W bt A s.length c B xs.length d) (hA : Rd W A s) (hB : Rd W B xs) (hX : Rd W D X) (hl : X.length ≤ 3) :
    Calls Try.prog 33 #[.slice D X.length n, .pointer (some ⟨bt, 0, none⟩)] W fun e W' => e = .returned (.int .i64 (atV s xs X.reverse).1) ∧ Kp W W' := by
  have t0 := T.c0
  have t1 := T.c1
  have TL := Lib.hid T
  have HT3 := Lib.hid (fun V (k : Kp W V) => pturned_any D n X V (hX.kp k) (by omega))
  have HA3 := Lib.hid (fun V Az cz (k : Kp W V) (r : Rd V Az X.reverse) => pat_any A B Az c d cz s xs X.reverse V (hA.kp k) (hB.kp k) r)
  generalize (atV s xs X.reverse).1 = y at HA3 ⊢
  generalize X.reverse = Y at HT3 HA3
  have hdr : Hid (Kp W W.drew) := Below.drew (Kp.refl W)
  have hK3 : Hid (∀ V, Kp W.drew V → Hid (Kp W V) ∧ V.cell? ⟨bt, 0, none⟩ = some (.slice A s.length c) ∧ V.cell? ⟨bt, 1, none⟩ = some (.slice B xs.length d)) := fun V kV => ⟨undrawn kV, (TL.out.kp (undrawn kV)).c0, (TL.out.kp (undrawn kV)).c1⟩
  clear T hA hB hX
  go_enter Try.func33, Try.ntmps33
  go_wp2
  go_region_held3 (fun V => V.cell? ⟨bt, 0, none⟩ = some (.slice A s.length c) ∧ V.cell? ⟨bt, 1, none⟩ = some (.slice B xs.length d)) (first | exact ⟨t0, t1⟩ | exact ⟨q3, q4⟩ | exact ⟨q5, q6⟩)
    (first
    | (go_at_call 32; refine (HT3.out _ hdr.out).mono ?_; rintro e0 w4 ⟨A4, c4, rfl, o4, k4⟩; obtain ⟨K4, q3, q4⟩ := hK3.out _ k4; have R4 : Hid (Rd w4 A4 Y) := o4.sl.rd; clear k4 o4)
    | (go_at_call 34; refine (HA3.out _ _ _ K4.out R4.out).mono ?_; rintro e0 w5 ⟨rfl, k5⟩; have K5 := Lib.hid (K4.out.tr k5); have q5 := (k5.cell (p := ⟨bt, 0, none⟩) (by have := TL.out.lt; have := K4.out.size; show bt < _; omega)).trans q3; have q6 := (k5.cell (p := ⟨bt, 1, none⟩) (by have := TL.out.lt; have := K4.out.size; show bt < _; omega)).trans q4; clear k5))
  all_goals go_wp2
  all_goals go_ret
  all_goals exact ⟨rfl, K5.out⟩

set_option maxHeartbeats 2000000 in
theorem slice1_any (A B AI : Option Addr) (c d n b b4 b5 b6 : Nat) (s xs X : List Int) (axis : Nat) (a x z : Int) (w0 W : World) (hk : Kp w0 W) (hb : w0.heap.size ≤ b) (T : Bk w0 b4 A s.length c B xs.length d)
    (X5 : Boxed w0 b5 3 (.int .i64 (axis : Int))) (X6 : Boxed w0 b6 3 (.int .i64 a)) (hA : Rd w0 A s) (hB : Rd w0 B xs) (hI : Own b W (.slice AI X.length n) X) (hx : X[axis]? = some x) (hz : IntKind.i64.wrap (x + a) = z) :
    Calls Try.prog 40 #[.slice AI X.length n, .pointer (some ⟨b5, 0, none⟩), .pointer (some ⟨b6, 0, none⟩), .pointer (some ⟨b4, 0, none⟩)] W fun e W' => e = .returned (.int .i64 (atV s xs (X.set axis z)).1) ∧ Below b W W' := by
  have hax : axis < X.length := (List.getElem?_eq_some_iff.1 hx).1
  obtain ⟨gi, rfl, hg1, hg2⟩ := hI.addr (by omega)
  have t0 := (T.kp hk).c0
  have t1 := (T.kp hk).c1
  have x5 : W.cell? ⟨b5, 0, none⟩ = some (.int .i64 (axis : Int)) := Boxed.cell (kp_heap hk X5)
  have x6 : W.cell? ⟨b6, 0, none⟩ = some (.int .i64 a) := Boxed.cell (kp_heap hk X6)
  have i1 := hI.cell_ hx
  have i2 := hI.froz_ axis
  have ne : gi ≠ b4 := by have := T.lt; omega
  have p0 : (W.setCell ⟨gi, axis, none⟩ (.int .i64 z)).cell? ⟨b4, 0, none⟩ = some (.slice A s.length c) := cell_ne (fun e => ne (congrArg Addr.block e)) t0
  have p1 : (W.setCell ⟨gi, axis, none⟩ (.int .i64 z)).cell? ⟨b4, 1, none⟩ = some (.slice B xs.length d) := cell_ne (fun e => ne (congrArg Addr.block e)) t1
  have KV : Kp w0 ((W.setCell ⟨gi, axis, none⟩ (.int .i64 z)).drew) := Below.drew (hk.setCell (p := ⟨gi, axis, none⟩) (by show w0.heap.size ≤ gi; omega) _)
  have BV : Hid (Below b W ((W.setCell ⟨gi, axis, none⟩ (.int .i64 z)).drew)) := Below.drew ((Below.refl b W).setCell (p := ⟨gi, axis, none⟩) hg1 _)
  have HC : Hid (Calls Try.prog 34 #[.agg #[.slice A s.length c, .slice B xs.length d], .slice (some ⟨gi, 0, none⟩) X.length n] ((W.setCell ⟨gi, axis, none⟩ (.int .i64 z)).drew) fun e w' => e = .returned (.int .i64 (atV s xs (X.set axis z)).1) ∧ Kp ((W.setCell ⟨gi, axis, none⟩ (.int .i64 z)).drew) w') := by
    have hh := pat_any A B (some ⟨gi, 0, none⟩) c d n s xs (X.set axis z) _ (hA.kp KV) (hB.kp KV) ((hI.set_ axis z).drew.sl.rd)
    rw [List.length_set] at hh
    exact hh
  have HB : Hid (b ≤ ((W.setCell ⟨gi, axis, none⟩ (.int .i64 z)).drew).heap.size) := by show _ ≤ (W.setCell _ _).heap.size; rw [World.size_setCell]; exact Nat.le_of_lt (Nat.lt_of_le_of_lt hg1 hg2)
  generalize (atV s xs (X.set axis z)).1 = y at HC ⊢
  have j1 : (0 : Int) ≤ (axis : Int) := by omega
  have j2 : (axis : Int) < (X.length : Int) := by omega
  clear T X5 X6 hA hB hI hx KV hk hb t0 t1
  go_enter Try.func40, Try.ntmps40
  go_wp2
  go_region
  all_goals
    go_wp2_with fail
    refine HC.out.mono ?_; rintro e0 w5 ⟨rfl, k5⟩
    have KB := Lib.hid (BV.out.trans (k5.mono HB.out))
    clear k5
    go_wp2
    go_ret
    exact ⟨rfl, KB.out⟩

set_option maxHeartbeats 2000000 in
theorem pad1_any (A B AI : Option Addr) (c d n b b4 b5 b6 : Nat) (s xs X : List Int) (axis : Nat) (a x z : Int) (w0 W : World) (hk : Kp w0 W) (hb : w0.heap.size ≤ b) (T : Bk w0 b4 A s.length c B xs.length d)
    (X5 : Boxed w0 b5 3 (.int .i64 (axis : Int))) (X6 : Boxed w0 b6 3 (.int .i64 a)) (hA : Rd w0 A s) (hB : Rd w0 B xs) (hI : Own b W (.slice AI X.length n) X) (hx : X[axis]? = some x) (hz : IntKind.i64.wrap (x - a) = z) :
    Calls Try.prog 44 #[.slice AI X.length n, .pointer (some ⟨b5, 0, none⟩), .pointer (some ⟨b6, 0, none⟩), .pointer (some ⟨b4, 0, none⟩)] W fun e W' => e = .returned (.int .i64 (atV s xs (X.set axis z)).1) ∧ Below b W W' := by
  have hax : axis < X.length := (List.getElem?_eq_some_iff.1 hx).1
  obtain ⟨gi, rfl, hg1, hg2⟩ := hI.addr (by omega)
  have t0 := (T.kp hk).c0
  have t1 := (T.kp hk).c1
  have x5 : W.cell? ⟨b5, 0, none⟩ = some (.int .i64 (axis : Int)) := Boxed.cell (kp_heap hk X5)
  have x6 : W.cell? ⟨b6, 0, none⟩ = some (.int .i64 a) := Boxed.cell (kp_heap hk X6)
  have i1 := hI.cell_ hx
  have i2 := hI.froz_ axis
  have ne : gi ≠ b4 := by have := T.lt; omega
  have p0 : (W.setCell ⟨gi, axis, none⟩ (.int .i64 z)).cell? ⟨b4, 0, none⟩ = some (.slice A s.length c) := cell_ne (fun e => ne (congrArg Addr.block e)) t0
  have p1 : (W.setCell ⟨gi, axis, none⟩ (.int .i64 z)).cell? ⟨b4, 1, none⟩ = some (.slice B xs.length d) := cell_ne (fun e => ne (congrArg Addr.block e)) t1
  have KV : Kp w0 ((W.setCell ⟨gi, axis, none⟩ (.int .i64 z)).drew) := Below.drew (hk.setCell (p := ⟨gi, axis, none⟩) (by show w0.heap.size ≤ gi; omega) _)
  have BV : Hid (Below b W ((W.setCell ⟨gi, axis, none⟩ (.int .i64 z)).drew)) := Below.drew ((Below.refl b W).setCell (p := ⟨gi, axis, none⟩) hg1 _)
  have HC : Hid (Calls Try.prog 34 #[.agg #[.slice A s.length c, .slice B xs.length d], .slice (some ⟨gi, 0, none⟩) X.length n] ((W.setCell ⟨gi, axis, none⟩ (.int .i64 z)).drew) fun e w' => e = .returned (.int .i64 (atV s xs (X.set axis z)).1) ∧ Kp ((W.setCell ⟨gi, axis, none⟩ (.int .i64 z)).drew) w') := by
    have hh := pat_any A B (some ⟨gi, 0, none⟩) c d n s xs (X.set axis z) _ (hA.kp KV) (hB.kp KV) ((hI.set_ axis z).drew.sl.rd)
    rw [List.length_set] at hh
    exact hh
  have HB : Hid (b ≤ ((W.setCell ⟨gi, axis, none⟩ (.int .i64 z)).drew).heap.size) := by show _ ≤ (W.setCell _ _).heap.size; rw [World.size_setCell]; exact Nat.le_of_lt (Nat.lt_of_le_of_lt hg1 hg2)
  generalize (atV s xs (X.set axis z)).1 = y at HC ⊢
  have j1 : (0 : Int) ≤ (axis : Int) := by omega
  have j2 : (axis : Int) < (X.length : Int) := by omega
  clear T X5 X6 hA hB hI hx KV hk hb t0 t1
  go_enter Try.func44, Try.ntmps44
  go_wp2
  go_region
  all_goals
    go_wp2_with fail
    refine HC.out.mono ?_; rintro e0 w5 ⟨rfl, k5⟩
    have KB := Lib.hid (BV.out.trans (k5.mono HB.out))
    clear k5
    go_wp2
    go_ret
    exact ⟨rfl, KB.out⟩

set_option maxHeartbeats 2000000 in
theorem join1_any (A B C D AI : Option Addr) (c d e f n b b3 b4 b5 b6 : Nat) (s xs t ys X : List Int) (axis : Nat) (side x z : Int) (w0 W : World) (hk : Kp w0 W) (hb : w0.heap.size ≤ b) (T : Bk w0 b3 A s.length c B xs.length d) (T2 : Bk w0 b4 C t.length e D ys.length f)
    (X5 : Boxed w0 b5 3 (.int .i64 (axis : Int))) (X6 : Boxed w0 b6 3 (.int .i64 side)) (hA : Rd w0 A s) (hB : Rd w0 B xs) (hC : Rd w0 C t) (hD : Rd w0 D ys) (hI : Own b W (.slice AI X.length n) X) (hx : X[axis]? = some x) (hz : IntKind.i64.wrap (x - side) = z) :
    Calls Try.prog 47 #[.slice AI X.length n, .pointer (some ⟨b5, 0, none⟩), .pointer (some ⟨b6, 0, none⟩), .pointer (some ⟨b3, 0, none⟩), .pointer (some ⟨b4, 0, none⟩)] W
      fun e W' => e = .returned (.int .i64 (if x < side then (atV s xs X).1 else (atV t ys (X.set axis z)).1)) ∧ Below b W W' := by
  have hax : axis < X.length := (List.getElem?_eq_some_iff.1 hx).1
  obtain ⟨gi, rfl, hg1, hg2⟩ := hI.addr (by omega)
  have x5 : W.cell? ⟨b5, 0, none⟩ = some (.int .i64 (axis : Int)) := Boxed.cell (kp_heap hk X5)
  have x6 : W.cell? ⟨b6, 0, none⟩ = some (.int .i64 side) := Boxed.cell (kp_heap hk X6)
  have i1 := hI.cell_ hx
  have i2 := hI.froz_ axis
  have j1 : (0 : Int) ≤ (axis : Int) := by omega
  have j2 : (axis : Int) < (X.length : Int) := by omega
  by_cases hlt : x < side
  · rw [if_pos hlt]
    have TT := Lib.hid (T.kp hk)
    have HC := Lib.hid (fun k => pat_any A B (some ⟨gi, 0, none⟩) c d n s xs X (W.drewN k) (hA.kp (hk.tr (Kp.drewN_ _ _))) (hB.kp (hk.tr (Kp.drewN_ _ _))) (hI.sl.rd.kp (Kp.drewN_ _ _)))
    have HB : Hid (b ≤ W.heap.size) := Nat.le_of_lt (Nat.lt_of_le_of_lt hg1 hg2)
    generalize (atV s xs X).1 = y at HC ⊢
    have hd : decide (x < side) = true := by simpa using hlt
    have t0 := TT.out.c0
    have t1 := TT.out.c1
    clear T T2 X5 X6 hA hB hC hD hI hx hk hb hz hlt
    go_enter Try.func47, Try.ntmps47
    go_wp2
    go_quiet (fail)
    go_wp2_with fail
    refine (HC.out _).mono ?_; rintro e0 w5 ⟨rfl, k5⟩
    have KB : Hid (Below b W w5) := ((Kp.drewN_ _ _).mono HB.out).trans (k5.mono HB.out)
    clear k5
    go_wp2
    go_ret
    exact ⟨rfl, KB.out⟩
  · rw [if_neg hlt]
    have hd : decide (x < side) = false := by simpa using hlt
    have t0 := (T2.kp hk).c0
    have t1 := (T2.kp hk).c1
    have ne : gi ≠ b4 := by have := T2.lt; omega
    have p0 : ∀ k, ((W.drewN k).setCell ⟨gi, axis, none⟩ (.int .i64 z)).cell? ⟨b4, 0, none⟩ = some (.slice C t.length e) := fun k => cell_ne (fun e => ne (congrArg Addr.block e)) t0
    have p1 : ∀ k, ((W.drewN k).setCell ⟨gi, axis, none⟩ (.int .i64 z)).cell? ⟨b4, 1, none⟩ = some (.slice D ys.length f) := fun k => cell_ne (fun e => ne (congrArg Addr.block e)) t1
    have KV : ∀ k, Kp w0 ((W.drewN k).setCell ⟨gi, axis, none⟩ (.int .i64 z)) := fun k => (hk.tr (Kp.drewN_ W k)).setCell (p := ⟨gi, axis, none⟩) (by show w0.heap.size ≤ gi; omega) _
    have HB0 : Hid (b ≤ W.heap.size) := Nat.le_of_lt (Nat.lt_of_le_of_lt hg1 hg2)
    have BV : Hid (∀ k, Below b W ((W.drewN k).setCell ⟨gi, axis, none⟩ (.int .i64 z))) := fun k => ((Kp.drewN_ W k).mono HB0.out).setCell (p := ⟨gi, axis, none⟩) hg1 _
    have HC : Hid (∀ k, Calls Try.prog 34 #[.agg #[.slice C t.length e, .slice D ys.length f], .slice (some ⟨gi, 0, none⟩) X.length n] ((W.drewN k).setCell ⟨gi, axis, none⟩ (.int .i64 z)) fun e w' => e = .returned (.int .i64 (atV t ys (X.set axis z)).1) ∧ Kp ((W.drewN k).setCell ⟨gi, axis, none⟩ (.int .i64 z)) w') := fun k => by
      have hh := pat_any C D (some ⟨gi, 0, none⟩) e f n t ys (X.set axis z) _ (hC.kp (KV k)) (hD.kp (KV k)) ((hI.drewN k).set_ axis z).sl.rd
      rw [List.length_set] at hh
      exact hh
    have HB : Hid (∀ k, b ≤ ((W.drewN k).setCell ⟨gi, axis, none⟩ (.int .i64 z)).heap.size) := fun k => by show _ ≤ ((W.drewN k).setCell _ _).heap.size; rw [World.size_setCell]; exact HB0.out
    generalize (atV t ys (X.set axis z)).1 = y at HC ⊢
    clear T T2 X5 X6 hA hB hC hD hI hx KV hk hb t0 t1 hlt
    go_enter Try.func47, Try.ntmps47
    go_wp2
    go_quiet (fail)
    go_wp2
    go_region
    all_goals
      go_wp2_with fail
      refine (HC.out _).mono ?_; rintro e0 w5 ⟨rfl, k5⟩
      have KB := Lib.hid ((BV.out _).trans (k5.mono (HB.out _)))
      clear k5
      go_wp2
      go_ret
      exact ⟨rfl, KB.out⟩
end Go.Proofs.Ytdjfjhanffliiaa
