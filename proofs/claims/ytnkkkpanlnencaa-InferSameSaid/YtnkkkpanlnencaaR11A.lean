/- The document's layer 11: a list without a place, with another number there, whether there is such a side, a shape that may be. -/
import Derived.Test.YtnkkkpanlnencaaInMem
import Derived.BigQuiet
import Derived.Deep.RegionLaw
namespace Go.Proofs.Ytnkkkpanlnencaa
open Go.RowKit Go.Proofs.ShM Go.Proofs.GrM Go.Proofs.InM
set_option linter.unusedVariables false
set_option maxHeartbeats 4000000

/-- Numbers of the call's own. -/
def RetW (xs : List Int) (w : World) (e : Ending) (w' : World) : Prop := ∃ A c, e = .returned (.slice A xs.length c) ∧ Own w.heap.size w' (.slice A xs.length c) xs ∧ Kp w w'
theorem RetW.on {xs : List Int} {n c : Nat} {A : Option Addr} {w w' : World} (hn : n = xs.length) (h : Own w.heap.size w' (.slice A n c) xs) (k : Kp w w') : RetW xs w (.returned (.slice A n c)) w' := by
  subst hn; exact ⟨A, c, rfl, h, k⟩
section
variable {w : World} {A : Option Addr} {x : List Int}
/-- What is left of a list behind its first j numbers. -/
def cutI (A : Option Addr) (c j : Nat) : Option Addr := if c = j then A else A.map (·.add j)
theorem Rd.cutI (h : Rd w A x) {c j : Nat} (hc : x.length ≤ c) : Rd w (cutI A c j) (x.drop j) := by
  unfold Go.Proofs.Ytnkkkpanlnencaa.cutI
  split
  · rename_i e
    rw [List.drop_eq_nil_of_le (by omega)]; exact Rd.nil _ _
  · refine ⟨by have := h.1; simp; omega, fun hp => ?_⟩
    obtain ⟨ad, rfl, hb, hcs⟩ := h.2 (by simp at hp; omega)
    refine ⟨ad.add j, rfl, by rw [block_of_add]; exact hb, fun i u hu => ?_⟩
    rw [List.getElem?_drop] at hu
    rw [add_of_add]
    exact hcs _ _ hu
theorem Rd.takeI (h : Rd w A x) (k : Nat) : Rd w A (x.take k) :=
  ⟨by have := h.1; simp; omega, fun hp => by
    simp at hp
    obtain ⟨ad, e, hb, hc⟩ := h.2 (by omega)
    refine ⟨ad, e, hb, fun j u hu => hc j u ?_⟩
    rw [List.getElem?_take] at hu
    split at hu
    · exact hu
    · cases hu⟩
/-- A slice of all from the j-th on. -/
theorem run_cutI (W : World) (A : Option Addr) (n c j : Nat) (hj : j ≤ n) : (Instr.sliceAt 23 (.slice A n c) (some (.int .i64 (j : Int))) none none).run Try.prog W = .ok (.slice (cutI A c j) (n - j) (c - j)) W := by
  have hu : Try.prog.underlying 23 = some (.slice (Try.prog.elem 23)) := by kernel_rfl
  have hsz : ((sizeOf (Try.prog.elem 23)).run Try.prog W) = .ok 1 W := by
    obtain ⟨i, hi, _, h1, _⟩ := info_parts int_info
    simp [sizeOf, typeInfo, show Try.prog.elem 23 = 3 by kernel_rfl, hi, h1]
  rw [run_sliceAt_slice W _ _ _ _ _ hu, run_slice_l W _ A n c hu .i64 j (by omega) (by omega), hsz]
  simp [Result.andThen, sliced, cutI]
end
theorem Own.addrI {w : World} {A : Option Addr} {xs : List Int} {b n c : Nat} (h : Own b w (.slice A n c) xs) (hx : 0 < xs.length) : ∃ g, A = some ⟨g, 0, none⟩ ∧ b ≤ g ∧ g < w.heap.size := by
  rcases h.2 with ⟨e, h0⟩ | ⟨g, cap, cur, e, hb, hh, _⟩
  · omega
  · injection e with e1 _ _
    exact ⟨g, e1, hb, (Array.getElem?_eq_some_iff.1 hh).1⟩
/-- append, as one step of a region that draws its order. -/
theorem step_appI {w : World} {B : Nat} {ops : Array Oper} {o : Oper} {a : Act} {K : Act → World → Prop} {Q : Exit → Act → World → Prop} {E : Prop} (hgd : o.guard = none) (s x : Operand)
    (hop : o.op = .call { callee := .builtin .append, args := #[s, x], argTypes := #[23, 23] })
    (v : Value) (xs : List Int) (hs : a.eval s = v) (ho : Own B w v xs) (A : Option Addr) (c : Nat) (ys : List Int) (n : Nat) (hx : a.eval x = .slice A n c) (hn : n = ys.length) (hr : Rd w A ys)
    (hl : xs.length + ys.length ≤ 1000000) (hB : B ≤ w.heap.size)
    (h : ∀ zs A' c' w', Hid (zs = xs ++ ys) → Own B w' (.slice A' zs.length c') zs → Below B w w' → K (a.put o.dst (.slice A' zs.length c')) w') :
    if Region.wanted o (yielded ops a.tmps) = true then Oper.wp Try.prog o a w K Q else E := by
  have hw : Region.wanted o (yielded ops a.tmps) = true := by simp [Region.wanted, hgd]
  rw [if_pos hw]
  subst hn
  obtain ⟨zs, A', c', w', e, hrun, h1, h2⟩ := run_app ho c hr hl hB o.type
  unfold Oper.wp execOp
  simp only [hop, resolve, invoke, builtin, Sem.run_bind, Sem.run_pure, Result.andThen_ok, List.map_toArray, List.map_cons, List.map_nil, hs, hx, hrun]
  exact h zs A' c' w' e h1 h2

theorem rwithout11 (A : Option Addr) (c a : Nat) (l : List Int) (w : World) (h : Rd w A l) (hcl : l.length ≤ c) (hcc : c ≤ 9223372036854775807) (hl : l.length ≤ 1000) (ha : a < l.length) :
    Calls Try.prog 56 #[.slice A l.length c, .int .i64 (a : Int)] w (RetW (l.eraseIdx a) w) := by
  obtain ⟨k, hk⟩ : ∃ k : Nat, k = a + 1 := ⟨_, rfl⟩
  have w1 : IntKind.i64.wrap ((a : Int) + 1) = (k : Int) := by rw [IntWalk.i64_in _ (by omega)]; omega
  have hkl : k ≤ l.length := by omega
  obtain ⟨A3, hA3⟩ : ∃ A3, A3 = cutI A c k := ⟨_, rfl⟩
  obtain ⟨c3, hc3⟩ : ∃ c3, c3 = c - k := ⟨_, rfl⟩
  obtain ⟨n3, hn3⟩ : ∃ n3, n3 = l.length - k := ⟨_, rfl⟩
  have hcut : ∀ W, (Instr.sliceAt 23 (.slice A l.length c) (some (.int .i64 (k : Int))) none none).run Try.prog W = .ok (.slice A3 n3 c3) W := fun W => by
    rw [hA3, hc3, hn3, run_cutI W A l.length c k hkl]
  obtain ⟨ys, hy⟩ : ∃ ys, ys = l.drop k := ⟨_, rfl⟩
  obtain ⟨xs, hx⟩ : ∃ xs, xs = l.take a := ⟨_, rfl⟩
  have RY : Hid (Rd w A3 ys) := by show Rd w A3 ys; rw [hA3, hy]; exact h.cutI hcl
  have RX : Hid (Rd w A xs) := by show Rd w A xs; rw [hx]; exact h.takeI a
  have HNX : Hid (a = xs.length) := by show a = _; rw [hx]; simp; omega
  have HNY : Hid (n3 = ys.length) := by show n3 = _; rw [hn3, hy]; simp
  have HE : Hid (l.eraseIdx a = xs ++ ys) := by show l.eraseIdx a = _; rw [hx, hy, hk]; exact List.eraseIdx_eq_take_drop_succ ..
  have HL : Hid (xs.length + ys.length ≤ 1000) := by show _ ≤ _; rw [hx, hy]; simp; omega
  have j1 : (0 : Int) ≤ (a : Int) := by omega
  have j2 : (a : Int) ≤ (c : Int) := by omega
  have j3 : (a : Int) ≤ (l.length : Int) := by omega
  have j4 : a ≤ c := by omega
  clear h hk hA3 hc3 hn3 hy hx
  go_enter Try.func56, Try.ntmps56
  go_wp2
  go_region_law (first
    | (refine step_appI (B := w.heap.size) rfl (.tmp 5) (.tmp 8) rfl (.slice (some ⟨w.heap.size, 0, none⟩) 0 0) [] rfl (Own.zero w (Nat.le_refl _)).drew A c xs a rfl HNX.out (RX.out.alloc_ _) (by have := HL.out; simp; omega) (by simp) ?_; intro z1 A1 c1 w4 HZ1 o1 b1; have O1 := Lib.hid o1; have B1 : Hid (Kp w w4) := (Below.drew (Kp.alloc_ w _)).trans b1; clear o1 b1)
    | (refine step_appI (B := w.heap.size) rfl (.tmp 9) (.tmp 13) rfl (.slice A1 z1.length c1) z1 rfl O1.out A3 c3 ys n3 rfl HNY.out (RY.out.kp B1.out) (by have := HL.out; rw [HZ1.out]; simp; omega) B1.out.size ?_; intro z2 A2 c2 w5 HZ2 o2 b2; have O2 := Lib.hid o2; have B2 : Hid (Kp w w5) := B1.out.trans b2; clear o2 b2))
  all_goals
    go_wp2
    go_ret
    have hz : z2 = l.eraseIdx a := by rw [HZ2.out, HZ1.out, HE.out]; simp
    rw [← hz]
    exact RetW.on rfl O2.out B2.out

theorem rwith11 (A : Option Addr) (c : Nat) (l : List Int) (k : Nat) (n : Int) (w : World) (h : Rd w A l) (hl : l.length ≤ 1000) (hk : k < l.length) :
    Calls Try.prog 55 #[.slice A l.length c, .int .i64 (k : Int), .int .i64 n] w (RetW (l.set k n) w) := by
  have j1 : (0 : Int) ≤ (k : Int) := by omega
  have j2 : (k : Int) < (l.length : Int) := by omega
  go_enter Try.func55, Try.ntmps55
  go_wp2_with (at_builtin; refine wpList_app rfl (.tmp 8) (.tmp 9) rfl _ [] rfl (Own.zero _ (Nat.le_refl _)) A c l _ rfl rfl (h.alloc_ _) (by simp; omega) (by simp) ?_; intro zs' A' c' w1 HZ hown1 hb1; have HB := Lib.hid (((Below.refl _ _).alloc (Nat.le_refl _) _).trans hb1); have HW := Lib.hid hown1; have HP := Lib.hid (hown1.addrI (by have := HZ.out; rw [this, List.nil_append]; omega)); have hzl : Hid (zs'.length = l.length) := (by show zs'.length = _; rw [HZ.out, List.nil_append]); clear hown1 hb1; obtain ⟨g, rfl, hg1, hg2⟩ := HP.out; have e1 := HW.out.cell_ (List.getElem?_eq_getElem (show k < zs'.length by rw [hzl.out]; exact hk)); have e2 := HW.out.froz_ k; have j3 : (k : Int) < (zs'.length : Int) := (by rw [hzl.out]; exact j2))
  go_ret
  have hz : zs' = l := by rw [HZ.out]; simp
  subst hz
  exact RetW.on (by simp) (HW.out.set_ k n) (HB.out.setCell (p := ⟨g, k, none⟩) hg1 _)

theorem raxis11 (A : Option Addr) (c : Nat) (l : List Int) (x : Int) (w : World) (h : Rd w A l) :
    Calls Try.prog 54 #[.slice A l.length c, .int .i64 x] w fun e w' => e = .returned (.bool (axisB l x)) ∧ w' = w := by
  have hl := h.len
  obtain ⟨r, hr⟩ : ∃ r, r = axisB l x := ⟨_, rfl⟩
  rw [← hr]
  by_cases h1 : 0 ≤ x
  · by_cases h2 : x < (l.length : Int)
    · have hv : r = true := by rw [hr]; exact axis_iff.2 ⟨h1, h2⟩
      subst hv
      clear hr h
      go_enter Try.func54, Try.ntmps54
      go_wp2
      go_ret
      exact ⟨by simp [*], rfl⟩
    · have hv : r = false := by rw [hr]; unfold axisB; simp; omega
      subst hv
      clear hr h
      go_enter Try.func54, Try.ntmps54
      go_wp2
      go_ret
      exact ⟨by simp [*], rfl⟩
  · have hv : r = false := by rw [hr]; unfold axisB; simp; omega
    subst hv
    clear hr h
    go_enter Try.func54, Try.ntmps54
    go_wp2
    go_ret
    exact ⟨by simp [*], rfl⟩

/-- A shape that lies where it lay, or nothing. -/
def RetTo (A0 : Option Addr) (c0 : Nat) (r : Sh) (W : World) (e : Ending) (W' : World) : Prop :=
  ∃ A c, e = .returned (.tuple #[.slice A r.1.length c, .int .i64 r.2]) ∧ ((r.1 = [] ∧ A = none ∧ c = 0) ∨ (A = A0 ∧ c = c0)) ∧ W' = W
theorem rtold11 (A : Option Addr) (c : Nat) (s : List Int) (so : Bool) (w : World) (h : Rd w A s) :
    Calls Try.prog 26 #[.slice A s.length c, .bool so] w (RetTo A c (toldV s so) w) := by
  have HC := Lib.hid (rcheck_any A c s w h)
  obtain ⟨q, hq⟩ : ∃ q, q = okS s := ⟨_, rfl⟩
  rw [← hq] at HC
  obtain ⟨r, hr⟩ : ∃ r, r = toldV s so := ⟨_, rfl⟩
  rw [← hr]
  cases so with
  | false =>
    have hv : r = ([], 20) := by rw [hr]; unfold toldV; simp
    subst hv
    clear hr hq h
    cases q
    all_goals
      go_enter Try.func26, Try.ntmps26
      go_wp2_with fail
      refine (Hid.out HC).mono ?_; rintro e w1 ⟨rfl, rfl⟩
      go_wp2
      go_ret2
      exact ⟨none, 0, rfl, .inl ⟨rfl, rfl, rfl⟩, rfl⟩
  | true =>
    cases q with
    | false =>
      have hv : r = ([], 20) := by rw [hr]; unfold toldV; rw [← hq]; simp
      subst hv
      clear hr hq h
      go_enter Try.func26, Try.ntmps26
      go_wp2_with fail
      refine (Hid.out HC).mono ?_; rintro e w1 ⟨rfl, rfl⟩
      go_wp2
      go_ret2
      exact ⟨none, 0, rfl, .inl ⟨rfl, rfl, rfl⟩, rfl⟩
    | true =>
      have hv : r = (s, 0) := by rw [hr]; unfold toldV; rw [← hq]; simp
      subst hv
      clear hr hq h
      go_enter Try.func26, Try.ntmps26
      go_wp2_with fail
      refine (Hid.out HC).mono ?_; rintro e w1 ⟨rfl, rfl⟩
      go_wp2
      go_ret2
      exact ⟨A, c, rfl, .inr ⟨rfl, rfl⟩, rfl⟩
end Go.Proofs.Ytnkkkpanlnencaa
