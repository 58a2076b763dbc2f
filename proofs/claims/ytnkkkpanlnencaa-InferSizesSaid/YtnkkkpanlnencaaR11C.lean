/- The document's layer 11: products, parts, what is taken together. -/
import Derived.Test.YtnkkkpanlnencaaR11B
import Derived.Deep.RegionHeld3
import Derived.Deep.DeepCutAuto
namespace Go.Proofs.Ytnkkkpanlnencaa
open Go.RowKit Go.Proofs.ShM Go.Proofs.GrM Go.Proofs.InM
set_option linter.unusedVariables false
set_option linter.unusedSimpArgs false
set_option maxHeartbeats 8000000

/-- A shape and an error: the numbers lie in blocks of X, or are new. -/
def RetM (X : Nat → Prop) (r : Sh) (W : World) (e : Ending) (W' : World) : Prop :=
  ∃ A c, e = .returned (.tuple #[.slice A r.1.length c, .int .i64 r.2]) ∧ Hid (Rd W' A r.1) ∧ Hid (r.1.length ≤ c ∧ c ≤ 9223372036854775807) ∧ Hid (∀ ad, A = some ad → 0 < r.1.length → X ad.block ∨ W.heap.size ≤ ad.block) ∧ Kp W W'
theorem RetM.none_ {X : Nat → Prop} {W W' : World} (k : Kp W W') (e : Int) : RetM X ([], e) W (.returned (.tuple #[.slice none 0 0, .int .i64 e])) W' :=
  ⟨none, 0, rfl, Rd.nil _ _, ⟨by simp, by omega⟩, (fun ad h => by cases h), k⟩
theorem RetM.arg {X : Nat → Prop} {W W' : World} {A : Option Addr} {s : List Int} {n c : Nat} (hn : n = s.length) (h : Rd W' A s) (h1 : s.length ≤ c) (h2 : c ≤ 9223372036854775807) (x : ∀ ad, A = some ad → 0 < s.length → X ad.block) (k : Kp W W') (e : Int) :
    RetM X (s, e) W (.returned (.tuple #[.slice A n c, .int .i64 e])) W' := by
  subst hn; exact ⟨A, c, rfl, h, ⟨h1, h2⟩, fun ad e h => .inl (x ad e h), k⟩
theorem RetM.own {X : Nat → Prop} {W W' : World} {A : Option Addr} {s : List Int} {n c B : Nat} (hn : n = s.length) (h : Own B W' (.slice A n c) s) (hB : W.heap.size ≤ B) (k : Kp W W') (e : Int) :
    RetM X (s, e) W (.returned (.tuple #[.slice A n c, .int .i64 e])) W' := by
  subst hn
  refine ⟨A, c, rfl, h.sl.rd, ⟨h.sl.le, h.sl.cap⟩, (fun ad hA hp => .inr ?_), k⟩
  obtain ⟨g, e', hb, _⟩ := h.addrI hp
  rw [hA] at e'; injection e' with e'; rw [e']; show _ ≤ g; omega
/-- What told answers, of numbers that the call has made. -/
theorem RetM.told {X : Nat → Prop} {W W' : World} {A0 : Option Addr} {s : List Int} {c0 B : Nat} {so : Bool} {e : Ending} {n : Nat} (hn : n = s.length) (h : Own B W' (.slice A0 n c0) s) (hB : W.heap.size ≤ B) (k : Kp W W') {V : World} (g : RetTo A0 c0 (toldV s so) W' e V) : RetM X (toldV s so) W e V := by
  subst hn
  obtain ⟨A, c, rfl, h1, rfl⟩ := g
  rcases told_cases s so with ⟨q, _⟩ | q
  · rw [q] at h1 ⊢
    rcases h1 with ⟨h1, rfl, rfl⟩ | ⟨rfl, rfl⟩
    · have h1 : s = [] := h1
      subst h1
      exact RetM.none_ k 0
    · exact RetM.own rfl h hB k 0
  · rw [q] at h1 ⊢
    rcases h1 with ⟨_, rfl, rfl⟩ | ⟨rfl, rfl⟩
    · exact RetM.none_ k 20
    · exact ⟨_, _, rfl, Rd.nil _ _, ⟨by simp, h.sl.cap⟩, (fun ad _ h => by simp at h), k⟩

section
variable {w : World} {A : Option Addr} {x y z : Int}
theorem rd_1 {s : List Int} (h : Rd w A (x :: s)) : ∃ ad, A = some ad ∧ ad.block < w.heap.size ∧ w.cell? ad = some (.int .i64 x) := by
  obtain ⟨ad, x', rfl, hl, e, c⟩ := h.at_ (k := 0) (by simp)
  have e : x = x' := by simpa using e
  subst e
  exact ⟨ad, rfl, hl, by simpa [Addr.add] using c⟩
theorem rd_2 {s : List Int} (h : Rd w A (x :: y :: s)) : ∃ ad, A = some ad ∧ ad.block < w.heap.size ∧ w.cell? ad = some (.int .i64 x) ∧ w.cell? ⟨ad.block, ad.off + 1, none⟩ = some (.int .i64 y) := by
  obtain ⟨ad, rfl, hl, c0⟩ := rd_1 h
  obtain ⟨ad', y', e', _, e, c⟩ := h.at_ (k := 1) (by simp)
  injection e' with e'
  subst e'
  have e : y = y' := by simpa using e
  subst e
  exact ⟨ad, rfl, hl, c0, by simpa [Addr.add] using c⟩
theorem rd_3 {s : List Int} (h : Rd w A (x :: y :: z :: s)) : ∃ ad, A = some ad ∧ ad.block < w.heap.size ∧ w.cell? ad = some (.int .i64 x) ∧ w.cell? ⟨ad.block, ad.off + 1, none⟩ = some (.int .i64 y) ∧ w.cell? ⟨ad.block, ad.off + 2, none⟩ = some (.int .i64 z) := by
  obtain ⟨ad, rfl, hl, c0, c1⟩ := rd_2 h
  obtain ⟨ad', z', e', _, e, c⟩ := h.at_ (k := 2) (by simp)
  injection e' with e'
  subst e'
  have e : z = z' := by simpa using e
  subst e
  exact ⟨ad, rfl, hl, c0, c1, by simpa [Addr.add] using c⟩
end

set_option maxRecDepth 100000 in
theorem rmore_30 (X : Nat → Prop) (P Q : Option Addr) (n c m d : Nat) (A : Option Addr) (na e : Nat) (a b : List Int) (w : World) (ad : Addr) (hA : A = some ad) (hlt : ad.block < w.heap.size) (hna : (1 : Int) < (na : Int))
    (Pa Pb : Option Addr) (ca cb : Nat) (h0 : w.cell? ad = some (.slice Pa a.length ca)) (h1 : w.cell? ⟨ad.block, ad.off + 1, none⟩ = some (.slice Pb b.length cb)) (ra : Rd w Pa a) (rb : Rd w Pb b) (r : Sh) (hr : tableV a b = r) :
    Calls Try.prog 28 #[.agg #[.int .i64 30, .slice P n c, .slice Q m d], .slice A na e] w (RetM X r w) := by
  subst hA
  have F0 := Lib.hid (Nb.new (W := w) (b := w.heap.size) (op := 30) (P := P) (n := n) (c := c) (Q := Q) (m := m) (d := d) rfl)
  have K0 : Hid (Kp w (w.alloc (.cells #[.int .i64 30, .slice P n c, .slice Q m d] 25))) := Kp.alloc_ _ _
  have p0 := F0.out.c0
  have p2 := F0.out.c2
  have q0 : (w.alloc (.cells #[.int .i64 30, .slice P n c, .slice Q m d] 25)).cell? ad = some (.slice Pa a.length ca) := (K0.out.cell (p := ad) hlt).trans h0
  have q1 : (w.alloc (.cells #[.int .i64 30, .slice P n c, .slice Q m d] 25)).cell? ⟨ad.block, ad.off + 1, none⟩ = some (.slice Pb b.length cb) := (K0.out.cell (p := ⟨ad.block, ad.off + 1, none⟩) hlt).trans h1
  have RA := Lib.hid (ra.kp K0.out)
  have RB := Lib.hid (rb.kp K0.out)
  have hna0 : (0 : Int) < (na : Int) := by omega
  have hal := ra.len
  have hbl := rb.len
  clear h0 h1 ra rb hlt F0
  by_cases la : a.length = 2
  · by_cases lb : b.length = 2
    · obtain ⟨a0, a1, rfl⟩ : ∃ x y, a = [x, y] := by
        match a, la with
        | [x, y], _ => exact ⟨x, y, rfl⟩
      obtain ⟨b0, b1, rfl⟩ : ∃ x y, b = [x, y] := by
        match b, lb with
        | [x, y], _ => exact ⟨x, y, rfl⟩
      obtain ⟨aa, rfl, hla, ca0, ca1⟩ := rd_2 RA.out
      obtain ⟨ab, rfl, hlb, cb0, cb1⟩ := rd_2 RB.out
      have q0 : (w.alloc (.cells #[.int .i64 30, .slice P n c, .slice Q m d] 25)).cell? ad = some (.slice (some aa) 2 ca) := q0
      have q1 : (w.alloc (.cells #[.int .i64 30, .slice P n c, .slice Q m d] 25)).cell? ⟨ad.block, ad.off + 1, none⟩ = some (.slice (some ab) 2 cb) := q1
      clear la lb
      by_cases hab : a1 = b0
      · have hv : r = toldV [a0, b1] true := by rw [← hr]; unfold tableV; rw [if_pos ⟨rfl, rfl, hab⟩]; rfl
        have t1 : (a1 != b0) = false := by simpa using hab
        subst hv
        have HT : Hid (∀ V : World, Kp (w.alloc (.cells #[.int .i64 30, .slice P n c, .slice Q m d] 25)) V → V.heap.size = w.heap.size + 1 → Calls Try.prog 26 #[.slice (some ⟨w.heap.size + 1, 0, none⟩) 2 2, .bool true] (V.alloc (.cells #[.int .i64 a0, .int .i64 b1] 3)) (RetM X (toldV [a0, b1] true) w)) := fun V kV hV => by
          have o := Own.two (B := w.heap.size) V a0 b1 (by omega)
          rw [hV] at o
          exact (rtold11 _ 2 [a0, b1] true _ o.sl.rd).mono fun e V' g => RetM.told rfl o (Nat.le_refl _) (gal (K0.out.tr kV) _) g
        clear hr hab
        go_enter Try.func28, Try.ntmps28
        go_wp2_with fail
        go_quiet (fail)
        go_wp2_with fail
        go_region_with (refine (HT.out _ (Kp.drewN_ _ _) (by simp)).mono ?_; rintro e0 w6 ⟨A6, c6, rfl, r6, l6, x6, k6⟩)
        all_goals
          go_wp2
          go_ret2
          exact ⟨A6, c6, rfl, r6, l6, x6, k6⟩
      · have hv : r = ([], 20) := by rw [← hr]; unfold tableV; rw [if_neg (fun h => hab h.2.2)]
        have t1 : (a1 != b0) = true := by simpa using hab
        subst hv
        clear hr hab
        go_enter Try.func28, Try.ntmps28
        go_wp2_with fail
        go_quiet (fail)
        go_wp2
        go_ret2
        exact RetM.none_ (K0.out.tr (Kp.drewN_ _ _)) 20
    · have hv : r = ([], 20) := by rw [← hr]; unfold tableV; rw [if_neg (fun h => lb h.2.1)]
      obtain ⟨nb, hnb⟩ : ∃ nb, nb = b.length := ⟨_, rfl⟩
      rw [← hnb] at q1 lb hbl
      rw [la] at q0
      have t1 : ((nb : Int) != 2) = true := by simp; omega
      subst hv
      clear hr la lb hnb hal
      go_enter Try.func28, Try.ntmps28
      go_wp2_with fail
      go_quiet (fail)
      go_wp2
      go_ret2
      exact RetM.none_ (K0.out.tr (Kp.drewN_ _ _)) 20
  · have hv : r = ([], 20) := by rw [← hr]; unfold tableV; rw [if_neg (fun h => la h.1)]
    obtain ⟨nn, hnn⟩ : ∃ nn, nn = a.length := ⟨_, rfl⟩
    rw [← hnn] at q0 la hal
    have t1 : ((nn : Int) != 2) = true := by simp; omega
    subst hv
    clear hr la hnn hbl
    go_enter Try.func28, Try.ntmps28
    go_wp2_with fail
    go_quiet (fail)
    go_wp2
    go_ret2
    exact RetM.none_ (K0.out.tr (Kp.drewN_ _ _)) 20

set_option maxRecDepth 100000 in
theorem rmore_off (X : Nat → Prop) (P Q : Option Addr) (n c m d : Nat) (A : Option Addr) (na e : Nat) (a : List Int) (w : World) (ad : Addr) (hA : A = some ad) (hlt : ad.block < w.heap.size)
    (x : Int) (s : List Int) (HM : Hid (m = s.length + 1)) (hml : m ≤ 9223372036854775807) (rq : Rd w Q (x :: s)) (Pa : Option Addr) (ca : Nat) (hna0 : (0 : Int) < (na : Int)) (h0 : w.cell? ad = some (.slice Pa a.length ca)) (ra : Rd w Pa a) (op : Int) (e30 : (op == 30) = false) (hx : axisB a x = false) :
    Calls Try.prog 28 #[.agg #[.int .i64 op, .slice P n c, .slice Q m d], .slice A na e] w (RetM X ([], 20) w) := by
  subst hA
  have F0 := Lib.hid (Nb.new (W := w) (b := w.heap.size) (op := op) (P := P) (n := n) (c := c) (Q := Q) (m := m) (d := d) rfl)
  have K0 : Hid (Kp w (w.alloc (.cells #[.int .i64 op, .slice P n c, .slice Q m d] 25))) := Kp.alloc_ _ _
  have p0 := F0.out.c0
  have p2 := F0.out.c2
  have q0 : (w.alloc (.cells #[.int .i64 op, .slice P n c, .slice Q m d] 25)).cell? ad = some (.slice Pa a.length ca) := (K0.out.cell (p := ad) hlt).trans h0
  obtain ⟨aq, rfl, hlq, cq0⟩ := rd_1 rq
  have v0 : (w.alloc (.cells #[.int .i64 op, .slice P n c, .slice (some aq) m d] 25)).cell? aq = some (.int .i64 x) := (K0.out.cell (p := aq) hlq).trans cq0
  have hm0 : (0 : Int) < (m : Int) := by have := HM.out; omega
  have RA := Lib.hid (ra.kp K0.out)
  have hal := ra.len
  have HX : Hid (Calls Try.prog 54 #[.slice Pa a.length ca, .int .i64 x] (w.alloc (.cells #[.int .i64 op, .slice P n c, .slice (some aq) m d] 25)) fun e w' => e = .returned (.bool false) ∧ w' = (w.alloc (.cells #[.int .i64 op, .slice P n c, .slice (some aq) m d] 25))) := by
    have h := raxis11 Pa ca a x _ RA.out
    rw [hx] at h
    exact h
  clear h0 ra rq hlt cq0 hlq hx F0
  go_enter Try.func28, Try.ntmps28
  go_wp2_with fail
  refine (Hid.out HX).mono ?_; rintro e1 w5 ⟨rfl, rfl⟩
  go_wp2
  go_ret2
  exact RetM.none_ K0.out 20

set_option maxRecDepth 100000 in
theorem rmore_50 (X : Nat → Prop) (P Q : Option Addr) (n c m d : Nat) (A : Option Addr) (na e : Nat) (a : List Int) (w : World) (ad : Addr) (hA : A = some ad) (hlt : ad.block < w.heap.size)
    (x : Int) (s : List Int) (HM : Hid (m = s.length + 1)) (hml : m ≤ 9223372036854775807) (rq : Rd w Q (x :: s)) (Pa : Option Addr) (ca : Nat) (hna0 : (0 : Int) < (na : Int)) (h0 : w.cell? ad = some (.slice Pa a.length ca)) (ra : Rd w Pa a) (op : Int) (e30 : (op == 30) = false) (e42 : (op == 42) = false) (e43 : (op == 43) = false) (k : Nat) (hxk : x = (k : Int)) (hk : k < a.length) (ha3 : a.length ≤ 100) (hca : a.length ≤ ca ∧ ca ≤ 9223372036854775807) :
    Calls Try.prog 28 #[.agg #[.int .i64 op, .slice P n c, .slice Q m d], .slice A na e] w (RetM X (a.eraseIdx k, 0) w) := by
  subst hA
  have F0 := Lib.hid (Nb.new (W := w) (b := w.heap.size) (op := op) (P := P) (n := n) (c := c) (Q := Q) (m := m) (d := d) rfl)
  have K0 : Hid (Kp w (w.alloc (.cells #[.int .i64 op, .slice P n c, .slice Q m d] 25))) := Kp.alloc_ _ _
  have p0 := F0.out.c0
  have p2 := F0.out.c2
  have q0 : (w.alloc (.cells #[.int .i64 op, .slice P n c, .slice Q m d] 25)).cell? ad = some (.slice Pa a.length ca) := (K0.out.cell (p := ad) hlt).trans h0
  obtain ⟨aq, rfl, hlq, cq0⟩ := rd_1 rq
  have v0 : (w.alloc (.cells #[.int .i64 op, .slice P n c, .slice (some aq) m d] 25)).cell? aq = some (.int .i64 x) := (K0.out.cell (p := aq) hlq).trans cq0
  have hm0 : (0 : Int) < (m : Int) := by have := HM.out; omega
  have RA := Lib.hid (ra.kp K0.out)
  have hal := ra.len
  subst hxk
  have hx : axisB a (k : Int) = true := axis_iff.2 ⟨by omega, by omega⟩
  have HX : Hid (Calls Try.prog 54 #[.slice Pa a.length ca, .int .i64 (k : Int)] (w.alloc (.cells #[.int .i64 op, .slice P n c, .slice (some aq) m d] 25)) fun e w' => e = .returned (.bool true) ∧ w' = (w.alloc (.cells #[.int .i64 op, .slice P n c, .slice (some aq) m d] 25))) := by
    have h := raxis11 Pa ca a (k : Int) _ RA.out
    rw [hx] at h
    exact h
  have HWO : Hid (Calls Try.prog 56 #[.slice Pa a.length ca, .int .i64 (k : Int)] (w.alloc (.cells #[.int .i64 op, .slice P n c, .slice (some aq) m d] 25)) (RetW (a.eraseIdx k) (w.alloc (.cells #[.int .i64 op, .slice P n c, .slice (some aq) m d] 25)))) := rwithout11 Pa ca k a _ RA.out hca.1 hca.2 (by omega) hk
  have HB : Hid (w.heap.size ≤ (w.alloc (.cells #[.int .i64 op, .slice P n c, .slice (some aq) m d] 25)).heap.size) := K0.out.size
  clear h0 ra rq hlt cq0 hlq hx F0 hk ha3 hca
  go_enter Try.func28, Try.ntmps28
  go_wp2_with fail
  refine (Hid.out HX).mono ?_; rintro e1 w5 ⟨rfl, rfl⟩
  go_wp2_with fail
  refine (Hid.out HWO).mono ?_; rintro e1 w6 ⟨A6, c6, rfl, o6, k6⟩
  have O6 := Lib.hid o6
  have K6 := Lib.hid (K0.out.tr k6)
  clear o6 k6
  go_wp2
  go_ret2
  exact RetM.own rfl O6.out HB.out K6.out 0

set_option maxRecDepth 100000 in
theorem rmore_42 (X : Nat → Prop) (P Q : Option Addr) (n c m d : Nat) (A : Option Addr) (na e : Nat) (a : List Int) (w : World) (ad : Addr) (hA : A = some ad) (hlt : ad.block < w.heap.size)
    (x : Int) (s : List Int) (HM : Hid (m = s.length + 1)) (hml : m ≤ 9223372036854775807) (rq : Rd w Q (x :: s)) (Pa : Option Addr) (ca : Nat) (hna0 : (0 : Int) < (na : Int)) (h0 : w.cell? ad = some (.slice Pa a.length ca)) (ra : Rd w Pa a) (f t : Int) (hs : s = [f, t]) (ht : -9223372036854775808 ≤ t ∧ t ≤ 9223372036854775807) (hf : -9223372036854775808 ≤ f ∧ f ≤ 9223372036854775807) (k : Nat) (hxk : x = (k : Int)) (hk : k < a.length) (ha3 : a.length ≤ 100) (hca : a.length ≤ ca ∧ ca ≤ 9223372036854775807) (y : Int) (hy : a[k]? = some y) (hy16 : y ≤ 16) (r : Sh) (hr : partV a (k : Int) f t = r) :
    Calls Try.prog 28 #[.agg #[.int .i64 42, .slice P n c, .slice Q m d], .slice A na e] w (RetM X r w) := by
  subst hA
  have F0 := Lib.hid (Nb.new (W := w) (b := w.heap.size) (op := 42) (P := P) (n := n) (c := c) (Q := Q) (m := m) (d := d) rfl)
  have K0 : Hid (Kp w (w.alloc (.cells #[.int .i64 42, .slice P n c, .slice Q m d] 25))) := Kp.alloc_ _ _
  have p0 := F0.out.c0
  have p2 := F0.out.c2
  have q0 : (w.alloc (.cells #[.int .i64 42, .slice P n c, .slice Q m d] 25)).cell? ad = some (.slice Pa a.length ca) := (K0.out.cell (p := ad) hlt).trans h0
  obtain ⟨aq, rfl, hlq, cq0⟩ := rd_1 rq
  have v0 : (w.alloc (.cells #[.int .i64 42, .slice P n c, .slice (some aq) m d] 25)).cell? aq = some (.int .i64 x) := (K0.out.cell (p := aq) hlq).trans cq0
  have hm0 : (0 : Int) < (m : Int) := by have := HM.out; omega
  have RA := Lib.hid (ra.kp K0.out)
  have hal := ra.len
  subst hxk
  have hx : axisB a (k : Int) = true := axis_iff.2 ⟨by omega, by omega⟩
  have HX : Hid (Calls Try.prog 54 #[.slice Pa a.length ca, .int .i64 (k : Int)] (w.alloc (.cells #[.int .i64 42, .slice P n c, .slice (some aq) m d] 25)) fun e w' => e = .returned (.bool true) ∧ w' = (w.alloc (.cells #[.int .i64 42, .slice P n c, .slice (some aq) m d] 25))) := by
    have h := raxis11 Pa ca a (k : Int) _ RA.out
    rw [hx] at h
    exact h
  subst hs
  obtain ⟨aq', eaq, _, _, cq1, cq2⟩ := rd_3 rq
  injection eaq with eaq
  subst eaq
  have v1 : (w.alloc (.cells #[.int .i64 42, .slice P n c, .slice (some aq) m d] 25)).cell? ⟨aq.block, aq.off + 1, none⟩ = some (.int .i64 f) := (K0.out.cell (p := ⟨aq.block, aq.off + 1, none⟩) hlq).trans cq1
  have v2 : (w.alloc (.cells #[.int .i64 42, .slice P n c, .slice (some aq) m d] 25)).cell? ⟨aq.block, aq.off + 2, none⟩ = some (.int .i64 t) := (K0.out.cell (p := ⟨aq.block, aq.off + 2, none⟩) hlq).trans cq2
  have hm1 : (1 : Int) < (m : Int) := by have := HM.out; simp at this; omega
  have hm2 : (2 : Int) < (m : Int) := by have := HM.out; simp at this; omega
  obtain ⟨aa, y', rfl, hla, hy', ca0⟩ := RA.out.at_ hk
  rw [hy] at hy'
  injection hy' with hy'
  subst hy'
  have hka : (k : Int) < (a.length : Int) := by omega
  have hk0 : (0 : Int) ≤ (k : Int) := by omega
  have hgd : a.getD ((k : Int)).toNat 0 = y := by rw [Int.toNat_natCast, List.getD, hy]; rfl
  have HB : Hid (w.heap.size ≤ (w.alloc (.cells #[.int .i64 42, .slice P n c, .slice (some aq) m d] 25)).heap.size) := K0.out.size
  have HWI : Hid (∀ z, Calls Try.prog 55 #[.slice (some aa) a.length ca, .int .i64 (k : Int), .int .i64 z] (w.alloc (.cells #[.int .i64 42, .slice P n c, .slice (some aq) m d] 25)) (RetW (a.set k z) (w.alloc (.cells #[.int .i64 42, .slice P n c, .slice (some aq) m d] 25)))) := fun z => rwith11 (some aa) ca a k z _ RA.out (by omega) hk
  have hpv : r = (if 0 ≤ f ∧ f < t ∧ t ≤ y then (a.set k (t - f), 0) else ([], 20)) := by rw [← hr]; unfold partV; rw [hgd, Int.toNat_natCast]
  clear h0 ra rq hlt cq0 hlq hx F0 hk ha3 hca cq1 cq2 hy hr hgd
  by_cases h1 : f < 0
  · rw [if_neg (by omega)] at hpv
    subst hpv
    go_enter Try.func28, Try.ntmps28
    go_wp2_with fail
    refine (Hid.out HX).mono ?_; rintro e1 w5 ⟨rfl, rfl⟩
    go_wp2
    go_ret2
    exact RetM.none_ K0.out 20
  by_cases h2 : t ≤ f
  · rw [if_neg (by omega)] at hpv
    subst hpv
    go_enter Try.func28, Try.ntmps28
    go_wp2_with fail
    refine (Hid.out HX).mono ?_; rintro e1 w5 ⟨rfl, rfl⟩
    go_wp2
    go_ret2
    exact RetM.none_ K0.out 20
  by_cases h3 : y < t
  · rw [if_neg (by omega)] at hpv
    subst hpv
    go_enter Try.func28, Try.ntmps28
    go_wp2_with fail
    refine (Hid.out HX).mono ?_; rintro e1 w5 ⟨rfl, rfl⟩
    go_wp2
    go_ret2
    exact RetM.none_ K0.out 20
  · rw [if_pos (by omega)] at hpv
    obtain ⟨z, hz⟩ : ∃ z, z = t - f := ⟨_, rfl⟩
    rw [← hz] at hpv
    have hw : IntKind.i64.wrap (t - f) = z := by rw [IntKind.wrap_i64]; omega
    subst hpv
    clear hz
    go_enter Try.func28, Try.ntmps28
    go_wp2_with fail
    refine (Hid.out HX).mono ?_; rintro e1 w5 ⟨rfl, rfl⟩
    go_wp2_with fail
    refine (HWI.out z).mono ?_; rintro e1 w6 ⟨A6, c6, rfl, o6, k6⟩
    rw [List.length_set] at o6
    have O6 := Lib.hid o6
    have K6 := Lib.hid (K0.out.tr k6)
    clear o6 k6
    go_wp2
    go_ret2
    exact RetM.own (by simp) O6.out HB.out K6.out 0

set_option maxRecDepth 100000 in
theorem rmore_43 (X : Nat → Prop) (P Q : Option Addr) (n c m d : Nat) (A : Option Addr) (na e : Nat) (a b : List Int) (w : World) (ad : Addr) (hA : A = some ad) (hlt : ad.block < w.heap.size)
    (x : Int) (s : List Int) (HM : Hid (m = s.length + 1)) (hml : m ≤ 9223372036854775807) (rq : Rd w Q (x :: s)) (Pa : Option Addr) (ca : Nat) (hna0 : (0 : Int) < (na : Int)) (h0 : w.cell? ad = some (.slice Pa a.length ca)) (ra : Rd w Pa a) (k : Nat) (hxk : x = (k : Int)) (hk : k < a.length) (ha3 : a.length ≤ 100) (hca : a.length ≤ ca ∧ ca ≤ 9223372036854775807) (hna1 : (1 : Int) < (na : Int)) (Pb : Option Addr) (cb : Nat) (h1 : w.cell? ⟨ad.block, ad.off + 1, none⟩ = some (.slice Pb b.length cb)) (rb : Rd w Pb b) (hb3 : b.length ≤ 100) (hcb : b.length ≤ cb ∧ cb ≤ 9223372036854775807) (y : Int) (hy : a[k]? = some y) (hy16 : 1 ≤ y ∧ y ≤ 16) (hbs : ∀ u ∈ b, 1 ≤ u ∧ u ≤ 16) (r : Sh) (hr : glueS a b (k : Int) = r) :
    Calls Try.prog 28 #[.agg #[.int .i64 43, .slice P n c, .slice Q m d], .slice A na e] w (RetM X r w) := by
  subst hA
  have F0 := Lib.hid (Nb.new (W := w) (b := w.heap.size) (op := 43) (P := P) (n := n) (c := c) (Q := Q) (m := m) (d := d) rfl)
  have K0 : Hid (Kp w (w.alloc (.cells #[.int .i64 43, .slice P n c, .slice Q m d] 25))) := Kp.alloc_ _ _
  have p0 := F0.out.c0
  have p2 := F0.out.c2
  have q0 : (w.alloc (.cells #[.int .i64 43, .slice P n c, .slice Q m d] 25)).cell? ad = some (.slice Pa a.length ca) := (K0.out.cell (p := ad) hlt).trans h0
  obtain ⟨aq, rfl, hlq, cq0⟩ := rd_1 rq
  have v0 : (w.alloc (.cells #[.int .i64 43, .slice P n c, .slice (some aq) m d] 25)).cell? aq = some (.int .i64 x) := (K0.out.cell (p := aq) hlq).trans cq0
  have hm0 : (0 : Int) < (m : Int) := by have := HM.out; omega
  have RA := Lib.hid (ra.kp K0.out)
  have hal := ra.len
  subst hxk
  have hx : axisB a (k : Int) = true := axis_iff.2 ⟨by omega, by omega⟩
  have HX : Hid (Calls Try.prog 54 #[.slice Pa a.length ca, .int .i64 (k : Int)] (w.alloc (.cells #[.int .i64 43, .slice P n c, .slice (some aq) m d] 25)) fun e w' => e = .returned (.bool true) ∧ w' = (w.alloc (.cells #[.int .i64 43, .slice P n c, .slice (some aq) m d] 25))) := by
    have h := raxis11 Pa ca a (k : Int) _ RA.out
    rw [hx] at h
    exact h
  have q1 : (w.alloc (.cells #[.int .i64 43, .slice P n c, .slice (some aq) m d] 25)).cell? ⟨ad.block, ad.off + 1, none⟩ = some (.slice Pb b.length cb) := (K0.out.cell (p := ⟨ad.block, ad.off + 1, none⟩) hlt).trans h1
  have RB := Lib.hid (rb.kp K0.out)
  have hbl := rb.len
  have HB : Hid (w.heap.size ≤ (w.alloc (.cells #[.int .i64 43, .slice P n c, .slice (some aq) m d] 25)).heap.size) := K0.out.size
  have HWA : Hid (Calls Try.prog 56 #[.slice Pa a.length ca, .int .i64 (k : Int)] (w.alloc (.cells #[.int .i64 43, .slice P n c, .slice (some aq) m d] 25)) (RetW (a.eraseIdx k) (w.alloc (.cells #[.int .i64 43, .slice P n c, .slice (some aq) m d] 25)))) := rwithout11 Pa ca k a _ RA.out hca.1 hca.2 (by omega) hk
  by_cases hl : a.length = b.length
  · have hkb : k < b.length := by omega
    have HWB : Hid (∀ V, Kp (w.alloc (.cells #[.int .i64 43, .slice P n c, .slice (some aq) m d] 25)) V → Calls Try.prog 56 #[.slice Pb b.length cb, .int .i64 (k : Int)] V (RetW (b.eraseIdx k) V)) := fun V kV => rwithout11 Pb cb k b _ (RB.out.kp kV) hcb.1 hcb.2 (by omega) hkb
    have t1 : ((a.length : Int) != (b.length : Int)) = false := by simp; omega
    obtain ⟨ea, hea⟩ : ∃ ea, ea = a.eraseIdx k := ⟨_, rfl⟩
    obtain ⟨eb, heb⟩ : ∃ eb, eb = b.eraseIdx k := ⟨_, rfl⟩
    rw [← hea] at HWA
    rw [← heb] at HWB
    obtain ⟨q, hq⟩ : ∃ q, (ea == eb) = q := ⟨_, rfl⟩
    have HQ := Lib.hid hq
    cases q with
    | false =>
      have hv : r = ([], 20) := by
        rw [← hr]; unfold glueS
        rw [if_neg]
        rintro ⟨_, h⟩
        rw [Int.toNat_natCast, ← hea, ← heb] at h
        rw [h] at hq
        simp at hq
      subst hv
      clear hr hea heb hq h0 h1 ra rb rq hlt cq0 hlq hx F0 hk hkb ha3 hb3 hca hcb hl hy hbs
      go_enter Try.func28, Try.ntmps28
      go_wp2_with fail
      refine (Hid.out HX).mono ?_; rintro e1 w5 ⟨rfl, rfl⟩
      go_wp2_with fail
      refine (Hid.out HWA).mono ?_; rintro e1 w6 ⟨A6, c6, rfl, o6, k6⟩
      have K6 := Lib.hid k6
      have r6 := Lib.hid o6.sl.rd
      clear o6 k6
      go_wp2_with fail
      refine (HWB.out _ K6.out).mono ?_; rintro e1 w7 ⟨A7, c7, rfl, o7, k7⟩
      have K7 := Lib.hid (K6.out.tr k7)
      have r6 := Lib.hid (r6.out.kp k7)
      have r7 := Lib.hid o7.sl.rd
      clear o7 k7
      go_wp2_with fail
      refine (same_g ea eb r6.out r7.out rfl rfl HQ.out).mono ?_; rintro e1 w8 ⟨rfl, k8⟩
      have K8 := Lib.hid (K0.out.tr (K7.out.tr k8))
      clear k8
      go_wp2
      go_ret2
      exact RetM.none_ K8.out 20
    | true =>
      obtain ⟨aa, y', rfl, hla, hy', ca0⟩ := RA.out.at_ hk
      rw [hy] at hy'
      injection hy' with hy'
      subst hy'
      obtain ⟨ab, u, rfl, hlb, hu, cb0⟩ := RB.out.at_ hkb
      have hu16 := hbs u (List.mem_of_getElem? hu)
      have hga : a.getD ((k : Int)).toNat 0 = y := by rw [Int.toNat_natCast, List.getD, hy]; rfl
      have hgb : b.getD ((k : Int)).toNat 0 = u := by rw [Int.toNat_natCast, List.getD, hu]; rfl
      obtain ⟨z, hz⟩ : ∃ z, z = y + u := ⟨_, rfl⟩
      have hw : IntKind.i64.wrap (y + u) = z := by rw [IntKind.wrap_i64]; omega
      have hv : r = toldV (a.set k z) true := by
        rw [← hr]; unfold glueS
        rw [hga, hgb, Int.toNat_natCast, ← hea, ← heb, if_pos ⟨hl, by simpa using hq⟩, hz]
      have hka : (k : Int) < (a.length : Int) := by omega
      have hkb' : (k : Int) < (b.length : Int) := by omega
      have hk0 : (0 : Int) ≤ (k : Int) := by omega
      obtain ⟨g, hg⟩ : ∃ g, g = a.set k z := ⟨_, rfl⟩
      have hgl : g.length = a.length := by rw [hg]; simp
      have HGL := Lib.hid hgl
      have HWI : Hid (∀ V, Kp (w.alloc (.cells #[.int .i64 43, .slice P n c, .slice (some aq) m d] 25)) V → Calls Try.prog 55 #[.slice (some aa) a.length ca, .int .i64 (k : Int), .int .i64 z] V (RetW g V)) := fun V kV => by rw [hg]; exact rwith11 (some aa) ca a k z V (RA.out.kp kV) (by omega) hk
      rw [← hg] at hv
      have HKC : Hid (∀ V, Kp (w.alloc (.cells #[.int .i64 43, .slice P n c, .slice (some aq) m d] 25)) V → V.cell? (aa.add k) = some (.int .i64 y) ∧ V.cell? (ab.add k) = some (.int .i64 u)) := fun V kV => ⟨(kV.cell (by rw [block_of_add]; exact hla)).trans ca0, (kV.cell (by rw [block_of_add]; exact hlb)).trans cb0⟩
      subst hv
      clear hr hea heb hq h0 h1 ra rb rq hlt cq0 hlq hx F0 hk hkb ha3 hb3 hca hcb hl hy hbs hga hgb hu hz hg hgl ca0 cb0 hla hlb
      go_enter Try.func28, Try.ntmps28
      go_wp2_with fail
      refine (Hid.out HX).mono ?_; rintro e1 w5 ⟨rfl, rfl⟩
      go_wp2_with fail
      refine (Hid.out HWA).mono ?_; rintro e1 w6 ⟨A6, c6, rfl, o6, k6⟩
      have K6 := Lib.hid k6
      have r6 := Lib.hid o6.sl.rd
      clear o6 k6
      go_wp2_with fail
      refine (HWB.out _ K6.out).mono ?_; rintro e1 w7 ⟨A7, c7, rfl, o7, k7⟩
      have K7 := Lib.hid (K6.out.tr k7)
      have r6 := Lib.hid (r6.out.kp k7)
      have r7 := Lib.hid o7.sl.rd
      clear o7 k7
      go_wp2_with fail
      refine (same_g ea eb r6.out r7.out rfl rfl HQ.out).mono ?_; rintro e1 w8 ⟨rfl, k8⟩
      have K8 := Lib.hid (K7.out.tr k8)
      have K8w := Lib.hid (K0.out.tr K8.out)
      obtain ⟨ca8, cb8⟩ := HKC.out _ K8.out
      have ca9 : w8.drew.cell? (aa.add k) = some (.int .i64 y) := ca8
      have cb9 : w8.drew.cell? (ab.add k) = some (.int .i64 u) := cb8
      clear k8 r6 r7
      go_wp2_with fail
      go_region_with (first | (go_at_call 55; refine (HWI.out _ (K8.out.tr (Kp.drewN_ _ 1))).mono ?_; rintro e1 w9 ⟨A9, c9, rfl, o9, k9⟩; have O9 := Lib.hid o9; have K9 : Hid (Kp w w9) := (K8w.out.tr (Kp.drewN_ w8 1)).tr k9; clear o9 k9) | (go_at_call 26; refine ((rtold11 A9 c9 g true w9 O9.out.sl.rd).mono (fun e V' gg => RetM.told (X := X) (W := w) rfl O9.out K8w.out.size K9.out gg)).mono ?_; rintro e1 w10 ⟨A10, c10, rfl, r10, l10, x10, k10⟩))
      all_goals
        go_wp2
        go_ret2
        exact ⟨A10, c10, rfl, r10, l10, x10, k10⟩
  · have hv : r = ([], 20) := by rw [← hr]; unfold glueS; rw [if_neg (fun h => hl h.1)]
    subst hv
    have t1 : ((a.length : Int) != (b.length : Int)) = true := by simp; omega
    clear hr h0 h1 ra rb rq hlt cq0 hlq hx F0 hk ha3 hb3 hca hcb hl hy hbs HWA
    go_enter Try.func28, Try.ntmps28
    go_wp2_with fail
    refine (Hid.out HX).mono ?_; rintro e1 w5 ⟨rfl, rfl⟩
    go_wp2
    go_ret2
    exact RetM.none_ K0.out 20
end Go.Proofs.Ytnkkkpanlnencaa
