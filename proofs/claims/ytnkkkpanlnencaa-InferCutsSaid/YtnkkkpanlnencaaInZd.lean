/- The landed infer: each op's rule, a closure over a node's numbers and the shapes of what it is reckoned of. -/
import Derived.Test.YtnkkkpanlnencaaInZc
import Derived.Test.YtnkkkpanlnencaaGrZa
import Derived.Conc.MuLone
namespace Go.Proofs.Ytnkkkpanlnencaa.Iz
open Go.RowKit Go.Shelf Go.Proofs.ShM Go.Proofs.GrM Go.Proofs.InM
set_option linter.unusedVariables false
set_option linter.unusedSimpArgs false
set_option maxHeartbeats 4000000

/-- Three boxes: a node's numbers, and two shapes that may be. -/
structure Ev (W : World) (bn ba bb : Nat) (Q A B : Option Addr) (d c e : Nat) (nums a b : List Int) : Prop where
  vn : W.cell? ⟨bn, 0, none⟩ = some (.slice Q nums.length d)
  va : W.cell? ⟨ba, 0, none⟩ = some (.slice A a.length c)
  vb : W.cell? ⟨bb, 0, none⟩ = some (.slice B b.length e)
  rn : Rd W Q nums
  ra : Rd W A a
  rb : Rd W B b
  dn : nums.length ≤ d ∧ d ≤ 9223372036854775807
  oa : okS a = true
  ob : okS b = true
  wn : W64 nums
  ln : nums.length ≤ 100
section
variable {W : World} {bn ba bb d c e : Nat} {Q A B : Option Addr} {nums a b : List Int}
theorem Ev.la (h : Ev W bn ba bb Q A B d c e nums a b) : a.length ≤ 3 := (ok_iff.1 h.oa).1
theorem ok_w64 {s : List Int} (h : okS s = true) : W64 s := fun x hx => by
  obtain ⟨i, hi⟩ := List.mem_iff_getElem?.1 hx
  have := side_of (ok_iff.1 h).2.1 hi
  exact ⟨by omega, by omega⟩
theorem one_list {l : List Int} (h : l.length = 1) : ∃ x, l = [x] := by
  match l, h with
  | [x], _ => exact ⟨x, rfl⟩
theorem lt_cell {p : Addr} {v : Value} (h : W.cell? p = some v) : p.block < W.heap.size := by
  rcases Nat.lt_or_ge p.block W.heap.size with g | g
  · exact g
  · simp [World.cell?, Array.getElem?_eq_none g] at h
theorem kp_cell {W' : World} {p : Addr} {v : Value} (h : W.cell? p = some v) (k : Kp W W') : W'.cell? p = some v := (k.cell (lt_cell h)).trans h
theorem three_list {l : List Int} (h : l.length = 3) : ∃ x y z, l = [x, y, z] := by
  match l, h with
  | [x, y, z], _ => exact ⟨x, y, z, rfl⟩

theorem joined_i (H : Ev W bn ba bb Q A B d c e nums a b) : Calls Try.prog 33 #[.pointer (some ⟨ba, 0, none⟩), .pointer (some ⟨bb, 0, none⟩)] W (RetI (joinV a b) W) := by
  have qva := H.va
  have qvb := H.vb
  have HC := Lib.hid (join_i A B c e a b W H.ra H.rb)
  obtain ⟨r, hr⟩ : ∃ r, r = (joinV a b) := ⟨_, rfl⟩
  try rw [← hr] at HC
  rw [← hr]
  clear H hr
  go_enter Try.func33, Try.ntmps33
  go_wp2_with fail
  refine HC.out.mono ?_; rintro e1 w1 ⟨A2, c2, rfl, S2, N2, K2⟩
  have S3 := Lib.hid S2; have N3 := Lib.hid N2; have K3 := Lib.hid K2
  clear S2 N2 K2
  go_wp2
  go_ret2
  exact ⟨A2, c2, rfl, S3.out, N3.out, K3.out⟩
theorem matmul_i (H : Ev W bn ba bb Q A B d c e nums a b) : Calls Try.prog 42 #[.pointer (some ⟨ba, 0, none⟩), .pointer (some ⟨bb, 0, none⟩)] W (RetI (tableV a b) W) := by
  have qva := H.va
  have qvb := H.vb
  have HC := Lib.hid (product_i A B a.length c b.length e a b _ W rfl rfl H.ra H.rb rfl)
  obtain ⟨r, hr⟩ : ∃ r, r = (tableV a b) := ⟨_, rfl⟩
  try rw [← hr] at HC
  rw [← hr]
  clear H hr
  go_enter Try.func42, Try.ntmps42
  go_wp2_with fail
  refine HC.out.mono ?_; rintro e1 w1 ⟨A2, c2, rfl, S2, N2, K2⟩
  have S3 := Lib.hid S2; have N3 := Lib.hid N2; have K3 := Lib.hid K2
  clear S2 N2 K2
  go_wp2
  go_ret2
  exact ⟨A2, c2, rfl, S3.out, N3.out, K3.out⟩
theorem reshape_i (H : Ev W bn ba bb Q A B d c e nums a b) : Calls Try.prog 44 #[.pointer (some ⟨ba, 0, none⟩), .pointer (some ⟨bn, 0, none⟩)] W (RetI (formV a nums) W) := by
  have qva := H.va
  have qvn := H.vn
  have HC := Lib.hid (reshaped_i A Q a.length c nums.length d a nums _ W rfl rfl H.ra H.rn (by have := H.ln; omega) rfl)
  obtain ⟨r, hr⟩ : ∃ r, r = (formV a nums) := ⟨_, rfl⟩
  try rw [← hr] at HC
  rw [← hr]
  clear H hr
  go_enter Try.func44, Try.ntmps44
  go_wp2_with fail
  refine HC.out.mono ?_; rintro e1 w1 ⟨A2, c2, rfl, S2, N2, K2⟩
  have S3 := Lib.hid S2; have N3 := Lib.hid N2; have K3 := Lib.hid K2
  clear S2 N2 K2
  go_wp2
  go_ret2
  exact ⟨A2, c2, rfl, S3.out, N3.out, K3.out⟩
theorem same_i (H : Ev W bn ba bb Q A B d c e nums a b) : Calls Try.prog 35 #[.pointer (some ⟨ba, 0, none⟩)] W (RetI (a, 0) W) := by
  have qva := H.va
  have HC := Lib.hid (clone_i A c a W H.ra (by have := H.la; omega))
  obtain ⟨r, hr⟩ : ∃ r : Sh, r = (a, 0) := ⟨_, rfl⟩
  have HR := Lib.hid hr
  rw [← hr]
  clear H hr
  go_enter Try.func35, Try.ntmps35
  go_wp2_with fail
  refine HC.out.mono ?_; rintro e1 w1 ⟨A2, c2, rfl, o2, K2⟩
  have O3 := Lib.hid o2; have K3 := Lib.hid K2
  clear o2 K2
  go_wp2
  go_ret2
  exact RetI.mk_ HR.out (by simp) (by simpa using O3.out) K3.out
theorem turn_i (H : Ev W bn ba bb Q A B d c e nums a b) : Calls Try.prog 46 #[.pointer (some ⟨ba, 0, none⟩)] W (RetI (a.reverse, 0) W) := by
  have qva := H.va
  have HC := Lib.hid (turned_i A c a W H.ra (by have := H.la; omega))
  obtain ⟨r, hr⟩ : ∃ r : Sh, r = (a.reverse, 0) := ⟨_, rfl⟩
  have HR := Lib.hid hr
  rw [← hr]
  clear H hr
  go_enter Try.func46, Try.ntmps46
  go_wp2_with fail
  refine HC.out.mono ?_; rintro e1 w1 ⟨A2, c2, rfl, o2, K2⟩
  have O3 := Lib.hid o2; have K3 := Lib.hid K2
  clear o2 K2
  go_wp2
  go_ret2
  exact RetI.mk_ HR.out (by simp) (by simpa using O3.out) K3.out
theorem input_i (H : Ev W bn ba bb Q A B d c e nums a b) : Calls Try.prog 39 #[.pointer (some ⟨bn, 0, none⟩)] W (RetI (nums, 0) W) := by
  have qvn := H.vn
  have HC := Lib.hid (clone_i Q d nums W H.rn (by have := H.ln; omega))
  obtain ⟨r, hr⟩ : ∃ r : Sh, r = (nums, 0) := ⟨_, rfl⟩
  have HR := Lib.hid hr
  rw [← hr]
  clear H hr
  go_enter Try.func39, Try.ntmps39
  go_wp2_with fail
  refine HC.out.mono ?_; rintro e1 w1 ⟨A2, c2, rfl, o2, K2⟩
  have O3 := Lib.hid o2; have K3 := Lib.hid K2
  clear o2 K2
  go_wp2
  go_ret2
  exact RetI.mk_ HR.out (by simp) (by simpa using O3.out) K3.out
theorem const_i : Calls Try.prog 41 #[] W (RetI ([], 0) W) := by
  go_enter Try.func41, Try.ntmps41
  go_wp2
  go_ret2
  exact RetI.err_ rfl (Kp.refl _)
theorem param_i (H : Ev W bn ba bb Q A B d c e nums a b) (h1 : 1 ≤ nums.length) : Calls Try.prog 40 #[.pointer (some ⟨bn, 0, none⟩)] W (RetI (nums.drop 1, 0) W) := by
  have qvn := H.vn
  have hcut : ∀ W, (Instr.sliceAt 23 (.slice Q nums.length d) (some (.int .i64 1)) none none).run Try.prog W = .ok (.slice (cutI Q d 1) (nums.length - 1) (d - 1)) W := fun W => run_cutI W Q nums.length d 1 h1
  obtain ⟨A3, hA3⟩ : ∃ A3, A3 = cutI Q d 1 := ⟨_, rfl⟩
  obtain ⟨c3, hc3⟩ : ∃ c3, c3 = d - 1 := ⟨_, rfl⟩
  obtain ⟨n3, hn3⟩ : ∃ n3, n3 = nums.length - 1 := ⟨_, rfl⟩
  obtain ⟨s, hs⟩ : ∃ s, s = nums.drop 1 := ⟨_, rfl⟩
  have HN : Hid (n3 = s.length) := by show n3 = _; rw [hn3, hs]; simp
  have RS : Rd W A3 s := by rw [hA3, hs]; exact H.rn.cutI H.dn.1
  have HC : Hid (Calls Try.prog 36 #[.slice A3 n3 c3] W (RetW s W)) := by
    rw [HN.out]
    exact clone_i A3 c3 s W RS (by rw [hs]; have := H.ln; simp; omega)
  rw [← hA3, ← hc3, ← hn3] at hcut
  rw [← hs]
  clear H hA3 hc3 hn3 hs h1 RS
  go_enter Try.func40, Try.ntmps40
  go_wp2_with fail
  refine HC.out.mono ?_; rintro e1 w1 ⟨A2, c2, rfl, o2, K2⟩
  have O3 := Lib.hid o2; have K3 := Lib.hid K2
  clear o2 K2
  go_wp2
  go_ret2
  exact RetI.mk_ rfl rfl O3.out K3.out
theorem together_i (H : Ev W bn ba bb Q A B d c e nums a b) (h1 : nums.length = 1) : Calls Try.prog 37 #[.pointer (some ⟨ba, 0, none⟩), .pointer (some ⟨bn, 0, none⟩)] W (RetI (lessV a (nums.getD 0 0)) W) := by
  obtain ⟨x, rfl⟩ := one_list h1
  obtain ⟨aq, rfl, hlt, hc⟩ := H.rn.2 (by simp)
  have q0 : W.cell? aq = some (.int .i64 x) := by simpa [Addr.add] using hc 0 x rfl
  have qvn : W.cell? ⟨bn, 0, none⟩ = some (.slice (some aq) 1 d) := H.vn
  have qva := H.va
  obtain ⟨r, hr⟩ : ∃ r, r = lessV a (([x] : List Int).getD 0 0) := ⟨_, rfl⟩
  have HC : Hid (∀ V, Kp W V → Calls Try.prog 38 #[.slice A a.length c, .int .i64 x] V (RetI r W)) := fun V kV =>
    (without_i A a.length c a x r V rfl (H.ra.kp kV) (by have := H.la; omega) hr.symm).mono fun _ _ g => g.back kV
  have K4 : Hid (Kp W W.drew) := Below.drew (Kp.refl W)
  rw [← hr]
  clear H hr hc h1
  go_enter Try.func37, Try.ntmps37
  go_wp2_with fail
  go_region_with (refine (HC.out _ K4.out).mono ?_; rintro e1 w2 ⟨A2, c2, rfl, S2, N2, K2⟩; have S3 := Lib.hid S2; have N3 := Lib.hid N2; have K3 := Lib.hid K2; clear S2 N2 K2)
  all_goals
    go_wp2
    go_ret2
    exact ⟨A2, c2, rfl, S3.out, N3.out, K3.out⟩
theorem part_i (H : Ev W bn ba bb Q A B d c e nums a b) (h1 : nums.length = 3) : Calls Try.prog 48 #[.pointer (some ⟨ba, 0, none⟩), .pointer (some ⟨bn, 0, none⟩)] W (RetI (cutV a (nums.getD 0 0) (nums.getD 1 0) (nums.getD 2 0)) W) := by
  obtain ⟨x, y, z, rfl⟩ := three_list h1
  obtain ⟨aq, rfl, hlt, hc⟩ := H.rn.2 (by simp)
  have q0 : W.cell? aq = some (.int .i64 x) := by simpa [Addr.add] using hc 0 x rfl
  have q1 : W.cell? ⟨aq.block, aq.off + 1, none⟩ = some (.int .i64 y) := hc 1 y rfl
  have q2 : W.cell? ⟨aq.block, aq.off + 2, none⟩ = some (.int .i64 z) := hc 2 z rfl
  have qvn : W.cell? ⟨bn, 0, none⟩ = some (.slice (some aq) 3 d) := H.vn
  have qva := H.va
  obtain ⟨r, hr⟩ : ∃ r, r = cutV a (([x, y, z] : List Int).getD 0 0) (([x, y, z] : List Int).getD 1 0) (([x, y, z] : List Int).getD 2 0) := ⟨_, rfl⟩
  have HC : Hid (∀ V, Kp W V → Calls Try.prog 49 #[.slice A a.length c, .int .i64 x, .int .i64 y, .int .i64 z] V (RetI r W)) := fun V kV =>
    (sliced_i A a.length c a x y z r V rfl (H.ra.kp kV) (by have := H.la; omega) (ok_w64 H.oa) hr.symm).mono fun _ _ g => g.back kV
  have HS : Hid (∀ V, Kp W V → V.cell? ⟨ba, 0, none⟩ = some (.slice A a.length c) ∧ V.cell? ⟨bn, 0, none⟩ = some (.slice (some aq) 3 d) ∧ V.cell? aq = some (.int .i64 x) ∧ V.cell? ⟨aq.block, aq.off + 1, none⟩ = some (.int .i64 y) ∧ V.cell? ⟨aq.block, aq.off + 2, none⟩ = some (.int .i64 z)) := fun V kV => ⟨kp_cell qva kV, kp_cell qvn kV, kp_cell q0 kV, kp_cell q1 kV, kp_cell q2 kV⟩
  have K4 : Hid (Kp W W.drew) := Below.drew (Kp.refl W)
  rw [← hr]
  clear H hr hc h1
  go_enter Try.func48, Try.ntmps48
  go_wp2_with fail
  go_region_held3 (fun V => V.cell? ⟨ba, 0, none⟩ = some (.slice A a.length c) ∧ V.cell? ⟨bn, 0, none⟩ = some (.slice (some aq) 3 d) ∧ V.cell? aq = some (.int .i64 x) ∧ V.cell? ⟨aq.block, aq.off + 1, none⟩ = some (.int .i64 y) ∧ V.cell? ⟨aq.block, aq.off + 2, none⟩ = some (.int .i64 z)) (first | exact ⟨qva, qvn, q0, q1, q2⟩ | exact qq)
    (first | (go_at_call 49; refine (HC.out _ K4.out).mono ?_; rintro e1 w2 ⟨A2, c2, rfl, S2, N2, K2⟩; have S3 := Lib.hid S2; have N3 := Lib.hid N2; have K3 := Lib.hid K2; have qq := HS.out _ K2; clear S2 N2 K2))
  all_goals
    go_wp2
    go_ret2
    exact ⟨A2, c2, rfl, S3.out, N3.out, K3.out⟩
theorem glue_i (H : Ev W bn ba bb Q A B d c e nums a b) (h1 : nums.length = 1) : Calls Try.prog 50 #[.pointer (some ⟨ba, 0, none⟩), .pointer (some ⟨bb, 0, none⟩), .pointer (some ⟨bn, 0, none⟩)] W (RetI (layV a b (nums.getD 0 0)) W) := by
  obtain ⟨x, rfl⟩ := one_list h1
  obtain ⟨aq, rfl, hlt, hc⟩ := H.rn.2 (by simp)
  have q0 : W.cell? aq = some (.int .i64 x) := by simpa [Addr.add] using hc 0 x rfl
  have qvn : W.cell? ⟨bn, 0, none⟩ = some (.slice (some aq) 1 d) := H.vn
  have qva := H.va
  have qvb := H.vb
  obtain ⟨r, hr⟩ : ∃ r, r = layV a b (([x] : List Int).getD 0 0) := ⟨_, rfl⟩
  have HC : Hid (∀ V, Kp W V → Calls Try.prog 51 #[.slice A a.length c, .slice B b.length e, .int .i64 x] V (RetI r W)) := fun V kV =>
    (laid_i A B a.length c b.length e a b x r V rfl rfl (H.ra.kp kV) (H.rb.kp kV) H.oa H.ob hr.symm).mono fun _ _ g => g.back kV
  have HS : Hid (∀ V, Kp W V → V.cell? ⟨ba, 0, none⟩ = some (.slice A a.length c) ∧ V.cell? ⟨bb, 0, none⟩ = some (.slice B b.length e) ∧ V.cell? ⟨bn, 0, none⟩ = some (.slice (some aq) 1 d) ∧ V.cell? aq = some (.int .i64 x)) := fun V kV => ⟨kp_cell qva kV, kp_cell qvb kV, kp_cell qvn kV, kp_cell q0 kV⟩
  have K4 : Hid (Kp W W.drew) := Below.drew (Kp.refl W)
  rw [← hr]
  clear H hr hc h1
  go_enter Try.func50, Try.ntmps50
  go_wp2_with fail
  go_region_held3 (fun V => V.cell? ⟨ba, 0, none⟩ = some (.slice A a.length c) ∧ V.cell? ⟨bb, 0, none⟩ = some (.slice B b.length e) ∧ V.cell? ⟨bn, 0, none⟩ = some (.slice (some aq) 1 d) ∧ V.cell? aq = some (.int .i64 x)) (first | exact ⟨qva, qvb, qvn, q0⟩ | exact qq)
    (first | (go_at_call 51; refine (HC.out _ K4.out).mono ?_; rintro e1 w2 ⟨A2, c2, rfl, S2, N2, K2⟩; have S3 := Lib.hid S2; have N3 := Lib.hid N2; have K3 := Lib.hid K2; have qq := HS.out _ K2; clear S2 N2 K2))
  all_goals
    go_wp2
    go_ret2
    exact ⟨A2, c2, rfl, S3.out, N3.out, K3.out⟩
end
end Go.Proofs.Ytnkkkpanlnencaa.Iz
