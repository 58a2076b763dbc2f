/- The document's layer 11: Node. -/
import Derived.Test.YtnkkkpanlnencaaR11C
import Derived.Test.YtnkkkpanlnencaaR11J
namespace Go.Proofs.Ytnkkkpanlnencaa
open Go.RowKit Go.Proofs.ShM Go.Proofs.GrM Go.Proofs.InM
set_option linter.unusedVariables false
set_option linter.unusedSimpArgs false
set_option maxHeartbeats 8000000

theorem RetM.up {X : Nat → Prop} {r : Sh} {W V W' : World} {e : Ending} (k : Kp W V) (h : RetM X r V e W') : RetM X r W e W' := by
  obtain ⟨A, c, h1, h2, h3, h4, h5⟩ := h
  exact ⟨A, c, h1, h2, h3, (fun ad h h' => (h4.out ad h h').imp id (fun g => Nat.le_trans k.size g)), k.tr h5⟩
theorem quiet11 {f : FuncId} {args : Array Value} {w : World} {n : Nat} {v : Value} (h : Calls Try.prog f args (w.drewN n) fun e w' => e = .returned v ∧ w' = w.drewN n) :
    Calls Try.prog f args (w.drewN n) fun e w'' => e = .returned v ∧ ∃ m, w'' = w.drewN m := h.mono fun _ _ ⟨he, hm⟩ => ⟨he, n, hm⟩
section
variable {w : World} {X : Nat → Prop} {A : Option Addr} {a b : List Int} {gs : List (List Int)}
theorem rdl_1 (h : RdLX w X A (a :: gs)) : ∃ ad P c, A = some ad ∧ ad.block < w.heap.size ∧ w.cell? ad = some (.slice P a.length c) ∧ Rd w P a ∧ a.length ≤ c ∧ c ≤ 9223372036854775807 ∧ ∀ ad, P = some ad → 0 < a.length → X ad.block := by
  obtain ⟨ad, a', P, c, rfl, hl, e, hc, r, l1, l2, x⟩ := h.at_ (k := 0) (by simp)
  have e : a = a' := by simpa using e
  subst e
  exact ⟨ad, P, c, rfl, hl, by simpa [Addr.add] using hc, r, l1, l2, x⟩
theorem rdl_2 (h : RdLX w X A (a :: b :: gs)) : ∃ ad P c Q d, A = some ad ∧ ad.block < w.heap.size ∧ w.cell? ad = some (.slice P a.length c) ∧ w.cell? ⟨ad.block, ad.off + 1, none⟩ = some (.slice Q b.length d) ∧ Rd w P a ∧ Rd w Q b ∧ a.length ≤ c ∧ c ≤ 9223372036854775807 ∧ b.length ≤ d ∧ d ≤ 9223372036854775807 := by
  obtain ⟨ad, P, c, rfl, hl, hc, r, l1, l2, _⟩ := rdl_1 h
  obtain ⟨ad', b', Q, d, e', _, e, hd, s, m1, m2, _⟩ := h.at_ (k := 1) (by simp)
  injection e' with e'
  subst e'
  have e : b = b' := by simpa using e
  subst e
  exact ⟨ad, P, c, Q, d, rfl, hl, hc, by simpa [Addr.add] using hd, r, s, l1, l2, m1, m2⟩
end
/-- What the calls inside answer. -/
structure NC (w : World) (op a0 : Int) (q : Bool) (P : Option Addr) (n c : Nat) (Q : Option Addr) (m d : Nat) : Prop where
  al : ∀ V, Kp w V → Calls Try.prog 22 #[.agg #[.int .i64 op, .slice P n c, .slice Q m d]] V fun e w' => e = .returned (.bool q) ∧ Kp V w'
  ar : ∀ V, Calls Try.prog 23 #[.int .i64 op] V fun e w' => e = .returned (.int .i64 a0) ∧ V = w'
theorem nc_mk {w : World} {op : Int} {nums : List Int} {P Q : Option Addr} {n c m d : Nat} (hQ : Rd w Q nums) (hm : m = nums.length) (hd : m ≤ d ∧ d ≤ 9223372036854775807) : NC w op (arityV op) (aloneB op nums) P n c Q m d := by
  subst hm
  refine ⟨fun V k => ?_, fun V => (rarity_any op V).mono fun _ _ ⟨h, g⟩ => ⟨h, g.symm⟩⟩
  have h := ralone11 (op, List.replicate n 0, nums) P Q c d V (hQ.kp k) hd
  have h' : Calls Try.prog 22 #[.agg #[.int .i64 op, .slice P (List.replicate n (0 : Int)).length c, .slice Q nums.length d]] V fun e w' => e = .returned (.bool (aloneB op nums)) ∧ Kp V w' := h
  rw [List.length_replicate] at h'
  exact h'

set_option maxRecDepth 100000 in
theorem rnode_b1 (X : Nat → Prop) (P Q : Option Addr) (n c m d : Nat) (A : Option Addr) (na e : Nat) (gs : List (List Int)) (w : World) (hml : m ≤ 9223372036854775807) (HG : Hid (RdLX w X A gs)) (HNG : Hid (na = gs.length)) (op a0 : Int) (HN : Hid (NC w op a0 false P n c Q m d)) :
    Calls Try.prog 12 #[.agg #[.int .i64 op, .slice P n c, .slice Q m d], .slice A na e] w (RetM X ([], 20) w) := by
  have F0 := Lib.hid (Nb.new (W := w) (b := w.heap.size) (op := op) (P := P) (n := n) (c := c) (Q := Q) (m := m) (d := d) rfl)
  have K0 : Hid (Kp w (w.alloc (.cells #[.int .i64 op, .slice P n c, .slice Q m d] 25))) := Kp.alloc_ _ _
  go_enter Try.func12, Try.ntmps12
  go_wp2_with fail
  refine (HN.out.al _ K0.out).mono ?_; rintro e1 w1 ⟨rfl, k1⟩
  have K1 := Lib.hid (K0.out.tr k1)
  have F1 := Lib.hid (F0.out.kp k1)
  have p0 := F1.out.c0
  have p1 := F1.out.c1
  have p2 := F1.out.c2
  clear k1
  go_wp2
  go_ret2
  exact RetM.none_ K1.out 20

set_option maxRecDepth 100000 in
theorem rnode_b2 (X : Nat → Prop) (P Q : Option Addr) (n c m d : Nat) (A : Option Addr) (na e : Nat) (gs : List (List Int)) (w : World) (hml : m ≤ 9223372036854775807) (HG : Hid (RdLX w X A gs)) (HNG : Hid (na = gs.length)) (op a0 : Int) (HN : Hid (NC w op a0 true P n c Q m d)) (hne : (na : Int) ≠ a0) :
    Calls Try.prog 12 #[.agg #[.int .i64 op, .slice P n c, .slice Q m d], .slice A na e] w (RetM X ([], 20) w) := by
  have t1 : ((na : Int) != a0) = true := by simpa using hne
  clear hne
  have F0 := Lib.hid (Nb.new (W := w) (b := w.heap.size) (op := op) (P := P) (n := n) (c := c) (Q := Q) (m := m) (d := d) rfl)
  have K0 : Hid (Kp w (w.alloc (.cells #[.int .i64 op, .slice P n c, .slice Q m d] 25))) := Kp.alloc_ _ _
  go_enter Try.func12, Try.ntmps12
  go_wp2_with fail
  refine (HN.out.al _ K0.out).mono ?_; rintro e1 w1 ⟨rfl, k1⟩
  have K1 := Lib.hid (K0.out.tr k1)
  have F1 := Lib.hid (F0.out.kp k1)
  have p0 := F1.out.c0
  have p1 := F1.out.c1
  have p2 := F1.out.c2
  clear k1
  go_wp2_with fail
  refine (HN.out.ar _).mono ?_; rintro e2 w2 ⟨rfl, rfl⟩
  go_wp2
  go_ret2
  exact RetM.none_ K1.out 20

set_option maxRecDepth 100000 in
theorem rnode_b3 (X : Nat → Prop) (P Q : Option Addr) (n c m d : Nat) (A : Option Addr) (na e : Nat) (gs : List (List Int)) (w : World) (hml : m ≤ 9223372036854775807) (HG : Hid (RdLX w X A gs)) (HNG : Hid (na = gs.length)) (op : Int) (HN : Hid (NC w op (na : Int) true P n c Q m d)) (hbad : gs.all okS = false) :
    Calls Try.prog 12 #[.agg #[.int .i64 op, .slice P n c, .slice Q m d], .slice A na e] w (RetM X ([], 20) w) := by
  have t1 : ((na : Int) != (na : Int)) = false := by simp
  have hnl : na ≤ 9223372036854775807 := by rw [HNG.out]; exact HG.out.len
  have HB0 : Hid ((gs.drop 0).all okS = false) := hbad
  clear hbad
  have F0 := Lib.hid (Nb.new (W := w) (b := w.heap.size) (op := op) (P := P) (n := n) (c := c) (Q := Q) (m := m) (d := d) rfl)
  have K0 : Hid (Kp w (w.alloc (.cells #[.int .i64 op, .slice P n c, .slice Q m d] 25))) := Kp.alloc_ _ _
  go_enter Try.func12, Try.ntmps12
  go_wp2_with fail
  refine (HN.out.al _ K0.out).mono ?_; rintro e1 w1 ⟨rfl, k1⟩
  have K1 := Lib.hid (K0.out.tr k1)
  have F1 := Lib.hid (F0.out.kp k1)
  have p0 := F1.out.c0
  have p1 := F1.out.c1
  have p2 := F1.out.c2
  clear k1
  go_wp2_with fail
  refine (HN.out.ar _).mono ?_; rintro e2 w2 ⟨rfl, rfl⟩
  go_wp2
  go_loopw [7, 8] (fun i _ wx => ∃ k : Nat, i = .int .i64 (k : Int) ∧ Hid (k ≤ na) ∧ Hid ((gs.drop k).all okS = false) ∧ wx = w1) (fun i _ _ => na - (intOf i).toNat)
  case atStart => exact ⟨0, rfl, Nat.zero_le _, HB0.out, rfl⟩
  case round =>
    obtain ⟨k, rfl, hk, hT, rfl⟩ := hrel
    by_cases hj : k < na
    · have hj' : (k : Int) < (na : Int) := by omega
      obtain ⟨ad, s, Pv, cv, rfl, hlt, hs, hc, hr, _, _, _⟩ := (HG.out.kp K1.out).at_ (k := k) (by rw [← HNG.out]; exact hj)
      have HCK := Lib.hid (rcheck_any Pv cv s wr hr)
      have hdr : (gs.drop k).all okS = (okS s && (gs.drop (k + 1)).all okS) := by rw [drop_of hs]; rfl
      cases ho : okS s with
      | true =>
        rw [ho] at HCK
        have HT2 : Hid ((gs.drop (k + 1)).all okS = false) := by have := hT.out; rw [hdr, ho, Bool.true_and] at this; exact this
        clear hs hdr ho hr
        go_wp2_with fail
        refine (Hid.out HCK).mono ?_; rintro e3 w3 ⟨rfl, rfl⟩
        go_wp2
        go_roundw
        case rel => exact ⟨k + 1, by go_num, (by show k + 1 ≤ na; omega), HT2.out, (by first | rfl | trivial)⟩
        case measure => simp [intOf]; omega
      | false =>
        rw [ho] at HCK
        clear hs hdr ho hr
        go_wp2_with fail
        refine (Hid.out HCK).mono ?_; rintro e3 w3 ⟨rfl, rfl⟩
        go_wp2
        go_ret2
        exact RetM.none_ K1.out 20
    · exfalso
      have h1 := hT.out
      rw [List.drop_eq_nil_of_le (by rw [← HNG.out]; omega)] at h1
      cases h1

set_option maxRecDepth 100000 in
theorem rnode_1 (X : Nat → Prop) (P Q : Option Addr) (n c m d : Nat) (A : Option Addr) (na e : Nat) (gs : List (List Int)) (w : World) (hml : m ≤ 9223372036854775807) (HG : Hid (RdLX w X A gs)) (HNG : Hid (na = gs.length)) (HN : Hid (NC w 1 (na : Int) true P n c Q m d)) (hok : gs.all okS = true) (nums : List Int) (HQ : Hid (Rd w Q nums)) (HM : Hid (m = nums.length)) (hd : m ≤ d ∧ d ≤ 9223372036854775807) (XQ : Hid (∀ ad, Q = some ad → 0 < nums.length → X ad.block)) :
    Calls Try.prog 12 #[.agg #[.int .i64 1, .slice P n c, .slice Q m d], .slice A na e] w (RetM X (nums, 0) w) := by
  have t1 : ((na : Int) != (na : Int)) = false := by simp
  have hnl : na ≤ 9223372036854775807 := by rw [HNG.out]; exact HG.out.len
  have HOK : Hid (∀ s ∈ gs, okS s = true) := fun s hs => List.all_eq_true.1 hok s hs
  clear hok
  have F0 := Lib.hid (Nb.new (W := w) (b := w.heap.size) (op := 1) (P := P) (n := n) (c := c) (Q := Q) (m := m) (d := d) rfl)
  have K0 : Hid (Kp w (w.alloc (.cells #[.int .i64 1, .slice P n c, .slice Q m d] 25))) := Kp.alloc_ _ _
  go_enter Try.func12, Try.ntmps12
  go_wp2_with fail
  refine (HN.out.al _ K0.out).mono ?_; rintro e1 w1 ⟨rfl, k1⟩
  have K1 := Lib.hid (K0.out.tr k1)
  have F1 := Lib.hid (F0.out.kp k1)
  have p0 := F1.out.c0
  have p1 := F1.out.c1
  have p2 := F1.out.c2
  clear k1
  go_wp2_with fail
  refine (HN.out.ar _).mono ?_; rintro e2 w2 ⟨rfl, rfl⟩
  go_wp2
  go_loopw [7, 8] (fun i _ wx => ∃ k : Nat, i = .int .i64 (k : Int) ∧ Hid (k ≤ na) ∧ wx = w1) (fun i _ _ => na - (intOf i).toNat)
  case atStart => exact ⟨0, rfl, Nat.zero_le _, rfl⟩
  case round =>
    obtain ⟨k, rfl, hk, rfl⟩ := hrel
    by_cases hj : k < na
    · have hj' : (k : Int) < (na : Int) := by omega
      obtain ⟨ad9, s9, Pv, cv, ea9, hlt9, hs, hc, hr, _, _, _⟩ := (HG.out.kp K1.out).at_ (k := k) (by rw [← HNG.out]; exact hj)
      have HCK := Lib.hid (rcheck_any Pv cv s9 wr hr)
      rw [HOK.out s9 (List.mem_of_getElem? hs)] at HCK
      clear hs hr
      subst ea9
      go_wp2_with fail
      refine (Hid.out HCK).mono ?_; rintro e3 w3 ⟨rfl, rfl⟩
      go_wp2
      go_roundw
      case rel => exact ⟨k + 1, by go_num, (by show k + 1 ≤ na; omega), (by first | rfl | trivial)⟩
      case measure => simp [intOf]; omega
    · have hj' : ¬ (k : Int) < (na : Int) := by omega
      go_wp2
      go_ret2
      exact RetM.arg HM.out (HQ.out.kp K1.out) (by rw [← HM.out]; exact hd.1) hd.2 XQ.out K1.out 0

set_option maxRecDepth 100000 in
theorem rnode_2 (X : Nat → Prop) (P Q : Option Addr) (n c m d : Nat) (A : Option Addr) (na e : Nat) (gs : List (List Int)) (w : World) (hml : m ≤ 9223372036854775807) (HG : Hid (RdLX w X A gs)) (HNG : Hid (na = gs.length)) (HN : Hid (NC w 2 (na : Int) true P n c Q m d)) (hok : gs.all okS = true) (s : List Int) (Q2 : Option Addr) (m2 d2 : Nat) (hcut : ∀ W, (Instr.sliceAt 23 (.slice Q m d) (some (.int .i64 1)) none none).run Try.prog W = .ok (.slice Q2 m2 d2) W) (HQ : Hid (Rd w Q2 s)) (HM : Hid (m2 = s.length)) (hd : m2 ≤ d2 ∧ d2 ≤ 9223372036854775807) (XQ : Hid (∀ ad, Q2 = some ad → 0 < s.length → X ad.block)) :
    Calls Try.prog 12 #[.agg #[.int .i64 2, .slice P n c, .slice Q m d], .slice A na e] w (RetM X (s, 0) w) := by
  have t1 : ((na : Int) != (na : Int)) = false := by simp
  have hnl : na ≤ 9223372036854775807 := by rw [HNG.out]; exact HG.out.len
  have HOK : Hid (∀ s ∈ gs, okS s = true) := fun s hs => List.all_eq_true.1 hok s hs
  clear hok
  have F0 := Lib.hid (Nb.new (W := w) (b := w.heap.size) (op := 2) (P := P) (n := n) (c := c) (Q := Q) (m := m) (d := d) rfl)
  have K0 : Hid (Kp w (w.alloc (.cells #[.int .i64 2, .slice P n c, .slice Q m d] 25))) := Kp.alloc_ _ _
  go_enter Try.func12, Try.ntmps12
  go_wp2_with fail
  refine (HN.out.al _ K0.out).mono ?_; rintro e1 w1 ⟨rfl, k1⟩
  have K1 := Lib.hid (K0.out.tr k1)
  have F1 := Lib.hid (F0.out.kp k1)
  have p0 := F1.out.c0
  have p1 := F1.out.c1
  have p2 := F1.out.c2
  clear k1
  go_wp2_with fail
  refine (HN.out.ar _).mono ?_; rintro e2 w2 ⟨rfl, rfl⟩
  go_wp2
  go_loopw [7, 8] (fun i _ wx => ∃ k : Nat, i = .int .i64 (k : Int) ∧ Hid (k ≤ na) ∧ wx = w1) (fun i _ _ => na - (intOf i).toNat)
  case atStart => exact ⟨0, rfl, Nat.zero_le _, rfl⟩
  case round =>
    obtain ⟨k, rfl, hk, rfl⟩ := hrel
    by_cases hj : k < na
    · have hj' : (k : Int) < (na : Int) := by omega
      obtain ⟨ad9, s9, Pv, cv, ea9, hlt9, hs, hc, hr, _, _, _⟩ := (HG.out.kp K1.out).at_ (k := k) (by rw [← HNG.out]; exact hj)
      have HCK := Lib.hid (rcheck_any Pv cv s9 wr hr)
      rw [HOK.out s9 (List.mem_of_getElem? hs)] at HCK
      clear hs hr
      subst ea9
      go_wp2_with fail
      refine (Hid.out HCK).mono ?_; rintro e3 w3 ⟨rfl, rfl⟩
      go_wp2
      go_roundw
      case rel => exact ⟨k + 1, by go_num, (by show k + 1 ≤ na; omega), (by first | rfl | trivial)⟩
      case measure => simp [intOf]; omega
    · have hj' : ¬ (k : Int) < (na : Int) := by omega
      go_wp2
      go_ret2
      exact RetM.arg HM.out (HQ.out.kp K1.out) (by rw [← HM.out]; exact hd.1) hd.2 XQ.out K1.out 0

set_option maxRecDepth 100000 in
theorem rnode_3 (X : Nat → Prop) (P Q : Option Addr) (n c m d : Nat) (A : Option Addr) (na e : Nat) (gs : List (List Int)) (w : World) (hml : m ≤ 9223372036854775807) (HG : Hid (RdLX w X A gs)) (HNG : Hid (na = gs.length)) (HN : Hid (NC w 3 (na : Int) true P n c Q m d)) (hok : gs.all okS = true) :
    Calls Try.prog 12 #[.agg #[.int .i64 3, .slice P n c, .slice Q m d], .slice A na e] w (RetM X ([], 0) w) := by
  have t1 : ((na : Int) != (na : Int)) = false := by simp
  have hnl : na ≤ 9223372036854775807 := by rw [HNG.out]; exact HG.out.len
  have HOK : Hid (∀ s ∈ gs, okS s = true) := fun s hs => List.all_eq_true.1 hok s hs
  clear hok
  have F0 := Lib.hid (Nb.new (W := w) (b := w.heap.size) (op := 3) (P := P) (n := n) (c := c) (Q := Q) (m := m) (d := d) rfl)
  have K0 : Hid (Kp w (w.alloc (.cells #[.int .i64 3, .slice P n c, .slice Q m d] 25))) := Kp.alloc_ _ _
  go_enter Try.func12, Try.ntmps12
  go_wp2_with fail
  refine (HN.out.al _ K0.out).mono ?_; rintro e1 w1 ⟨rfl, k1⟩
  have K1 := Lib.hid (K0.out.tr k1)
  have F1 := Lib.hid (F0.out.kp k1)
  have p0 := F1.out.c0
  have p1 := F1.out.c1
  have p2 := F1.out.c2
  clear k1
  go_wp2_with fail
  refine (HN.out.ar _).mono ?_; rintro e2 w2 ⟨rfl, rfl⟩
  go_wp2
  go_loopw [7, 8] (fun i _ wx => ∃ k : Nat, i = .int .i64 (k : Int) ∧ Hid (k ≤ na) ∧ wx = w1) (fun i _ _ => na - (intOf i).toNat)
  case atStart => exact ⟨0, rfl, Nat.zero_le _, rfl⟩
  case round =>
    obtain ⟨k, rfl, hk, rfl⟩ := hrel
    by_cases hj : k < na
    · have hj' : (k : Int) < (na : Int) := by omega
      obtain ⟨ad9, s9, Pv, cv, ea9, hlt9, hs, hc, hr, _, _, _⟩ := (HG.out.kp K1.out).at_ (k := k) (by rw [← HNG.out]; exact hj)
      have HCK := Lib.hid (rcheck_any Pv cv s9 wr hr)
      rw [HOK.out s9 (List.mem_of_getElem? hs)] at HCK
      clear hs hr
      subst ea9
      go_wp2_with fail
      refine (Hid.out HCK).mono ?_; rintro e3 w3 ⟨rfl, rfl⟩
      go_wp2
      go_roundw
      case rel => exact ⟨k + 1, by go_num, (by show k + 1 ≤ na; omega), (by first | rfl | trivial)⟩
      case measure => simp [intOf]; omega
    · have hj' : ¬ (k : Int) < (na : Int) := by omega
      go_wp2
      go_ret2
      exact RetM.none_ K1.out 0

set_option maxRecDepth 100000 in
theorem rnode_10 (X : Nat → Prop) (P Q : Option Addr) (n c m d : Nat) (A : Option Addr) (na e : Nat) (gs : List (List Int)) (w : World) (hml : m ≤ 9223372036854775807) (HG : Hid (RdLX w X A gs)) (HNG : Hid (na = gs.length)) (HN : Hid (NC w 10 (na : Int) true P n c Q m d)) (hok : gs.all okS = true) (ad : Addr) (hA : A = some ad) (hlt : ad.block < w.heap.size) (a b : List Int) (Pa Pb : Option Addr) (ca cb : Nat) (h0 : w.cell? ad = some (.slice Pa a.length ca)) (h1 : w.cell? ⟨ad.block, ad.off + 1, none⟩ = some (.slice Pb b.length cb)) (RA : Hid (Rd w Pa a)) (RB : Hid (Rd w Pb b)) (hna : na = 2) :
    Calls Try.prog 12 #[.agg #[.int .i64 10, .slice P n c, .slice Q m d], .slice A na e] w (RetM X (joinV a b) w) := by
  have t1 : ((na : Int) != (na : Int)) = false := by simp
  have hnl : na ≤ 9223372036854775807 := by rw [HNG.out]; exact HG.out.len
  have HOK : Hid (∀ s ∈ gs, okS s = true) := fun s hs => List.all_eq_true.1 hok s hs
  clear hok
  subst hA
  have hal := RA.out.len
  have hbl := RB.out.len
  have HKC : Hid (∀ V, Kp w V → V.cell? ad = some (.slice Pa a.length ca) ∧ V.cell? ⟨ad.block, ad.off + 1, none⟩ = some (.slice Pb b.length cb)) := fun V k => ⟨(k.cell hlt).trans h0, (k.cell (p := ⟨ad.block, ad.off + 1, none⟩) hlt).trans h1⟩
  have HJ : Hid (∀ V, Kp w V → Calls Try.prog 25 #[.slice Pa a.length ca, .slice Pb b.length cb] V (RetM X (joinV a b) w)) := fun V k => (rjoin_own Pa Pb ca cb a b V (RA.out.kp k) (RB.out.kp k)).mono fun e V' ⟨A, c, B, he, o, hB, k'⟩ => he ▸ RetM.own (s := (joinV a b).1) rfl o (Nat.le_trans k.size hB) (k.tr k') (joinV a b).2
  have i1 : (1 : Int) < (na : Int) := by omega
  have i0 : (0 : Int) < (na : Int) := by omega
  clear h0 h1 hna
  have F0 := Lib.hid (Nb.new (W := w) (b := w.heap.size) (op := 10) (P := P) (n := n) (c := c) (Q := Q) (m := m) (d := d) rfl)
  have K0 : Hid (Kp w (w.alloc (.cells #[.int .i64 10, .slice P n c, .slice Q m d] 25))) := Kp.alloc_ _ _
  go_enter Try.func12, Try.ntmps12
  go_wp2_with fail
  refine (HN.out.al _ K0.out).mono ?_; rintro e1 w1 ⟨rfl, k1⟩
  have K1 := Lib.hid (K0.out.tr k1)
  have F1 := Lib.hid (F0.out.kp k1)
  have p0 := F1.out.c0
  have p1 := F1.out.c1
  have p2 := F1.out.c2
  clear k1
  go_wp2_with fail
  refine (HN.out.ar _).mono ?_; rintro e2 w2 ⟨rfl, rfl⟩
  go_wp2
  go_loopw [7, 8] (fun i _ wx => ∃ k : Nat, i = .int .i64 (k : Int) ∧ Hid (k ≤ na) ∧ wx = w1) (fun i _ _ => na - (intOf i).toNat)
  case atStart => exact ⟨0, rfl, Nat.zero_le _, rfl⟩
  case round =>
    obtain ⟨k, rfl, hk, rfl⟩ := hrel
    by_cases hj : k < na
    · have hj' : (k : Int) < (na : Int) := by omega
      obtain ⟨ad9, s9, Pv, cv, ea9, hlt9, hs, hc, hr, _, _, _⟩ := (HG.out.kp K1.out).at_ (k := k) (by rw [← HNG.out]; exact hj)
      have HCK := Lib.hid (rcheck_any Pv cv s9 wr hr)
      rw [HOK.out s9 (List.mem_of_getElem? hs)] at HCK
      clear hs hr
      injection ea9 with ea9
      subst ea9
      go_wp2_with fail
      refine (Hid.out HCK).mono ?_; rintro e3 w3 ⟨rfl, rfl⟩
      go_wp2
      go_roundw
      case rel => exact ⟨k + 1, by go_num, (by show k + 1 ≤ na; omega), (by first | rfl | trivial)⟩
      case measure => simp [intOf]; omega
    · have hj' : ¬ (k : Int) < (na : Int) := by omega
      have q0 := (HKC.out _ K1.out).1
      have q1 := (HKC.out _ K1.out).2
      have q0' : wr.drew.cell? ad = _ := q0
      have q1' : wr.drew.cell? ⟨ad.block, ad.off + 1, none⟩ = _ := q1
      go_wp2_with fail
      go_region_with (refine (HJ.out _ (K1.out.tr (Kp.drewN_ _ 1))).mono ?_; rintro e3 w3 ⟨A3, c3, rfl, r3, l3, x3, k3⟩)
      all_goals
        go_wp2
        go_ret2
        exact ⟨A3, c3, rfl, r3, l3, x3, k3⟩

set_option maxRecDepth 100000 in
theorem rnode_11 (X : Nat → Prop) (P Q : Option Addr) (n c m d : Nat) (A : Option Addr) (na e : Nat) (gs : List (List Int)) (w : World) (hml : m ≤ 9223372036854775807) (HG : Hid (RdLX w X A gs)) (HNG : Hid (na = gs.length)) (HN : Hid (NC w 11 (na : Int) true P n c Q m d)) (hok : gs.all okS = true) (ad : Addr) (hA : A = some ad) (hlt : ad.block < w.heap.size) (a b : List Int) (Pa Pb : Option Addr) (ca cb : Nat) (h0 : w.cell? ad = some (.slice Pa a.length ca)) (h1 : w.cell? ⟨ad.block, ad.off + 1, none⟩ = some (.slice Pb b.length cb)) (RA : Hid (Rd w Pa a)) (RB : Hid (Rd w Pb b)) (hna : na = 2) :
    Calls Try.prog 12 #[.agg #[.int .i64 11, .slice P n c, .slice Q m d], .slice A na e] w (RetM X (joinV a b) w) := by
  have t1 : ((na : Int) != (na : Int)) = false := by simp
  have hnl : na ≤ 9223372036854775807 := by rw [HNG.out]; exact HG.out.len
  have HOK : Hid (∀ s ∈ gs, okS s = true) := fun s hs => List.all_eq_true.1 hok s hs
  clear hok
  subst hA
  have hal := RA.out.len
  have hbl := RB.out.len
  have HKC : Hid (∀ V, Kp w V → V.cell? ad = some (.slice Pa a.length ca) ∧ V.cell? ⟨ad.block, ad.off + 1, none⟩ = some (.slice Pb b.length cb)) := fun V k => ⟨(k.cell hlt).trans h0, (k.cell (p := ⟨ad.block, ad.off + 1, none⟩) hlt).trans h1⟩
  have HJ : Hid (∀ V, Kp w V → Calls Try.prog 25 #[.slice Pa a.length ca, .slice Pb b.length cb] V (RetM X (joinV a b) w)) := fun V k => (rjoin_own Pa Pb ca cb a b V (RA.out.kp k) (RB.out.kp k)).mono fun e V' ⟨A, c, B, he, o, hB, k'⟩ => he ▸ RetM.own (s := (joinV a b).1) rfl o (Nat.le_trans k.size hB) (k.tr k') (joinV a b).2
  have i1 : (1 : Int) < (na : Int) := by omega
  have i0 : (0 : Int) < (na : Int) := by omega
  clear h0 h1 hna
  have F0 := Lib.hid (Nb.new (W := w) (b := w.heap.size) (op := 11) (P := P) (n := n) (c := c) (Q := Q) (m := m) (d := d) rfl)
  have K0 : Hid (Kp w (w.alloc (.cells #[.int .i64 11, .slice P n c, .slice Q m d] 25))) := Kp.alloc_ _ _
  go_enter Try.func12, Try.ntmps12
  go_wp2_with fail
  refine (HN.out.al _ K0.out).mono ?_; rintro e1 w1 ⟨rfl, k1⟩
  have K1 := Lib.hid (K0.out.tr k1)
  have F1 := Lib.hid (F0.out.kp k1)
  have p0 := F1.out.c0
  have p1 := F1.out.c1
  have p2 := F1.out.c2
  clear k1
  go_wp2_with fail
  refine (HN.out.ar _).mono ?_; rintro e2 w2 ⟨rfl, rfl⟩
  go_wp2
  go_loopw [7, 8] (fun i _ wx => ∃ k : Nat, i = .int .i64 (k : Int) ∧ Hid (k ≤ na) ∧ wx = w1) (fun i _ _ => na - (intOf i).toNat)
  case atStart => exact ⟨0, rfl, Nat.zero_le _, rfl⟩
  case round =>
    obtain ⟨k, rfl, hk, rfl⟩ := hrel
    by_cases hj : k < na
    · have hj' : (k : Int) < (na : Int) := by omega
      obtain ⟨ad9, s9, Pv, cv, ea9, hlt9, hs, hc, hr, _, _, _⟩ := (HG.out.kp K1.out).at_ (k := k) (by rw [← HNG.out]; exact hj)
      have HCK := Lib.hid (rcheck_any Pv cv s9 wr hr)
      rw [HOK.out s9 (List.mem_of_getElem? hs)] at HCK
      clear hs hr
      injection ea9 with ea9
      subst ea9
      go_wp2_with fail
      refine (Hid.out HCK).mono ?_; rintro e3 w3 ⟨rfl, rfl⟩
      go_wp2
      go_roundw
      case rel => exact ⟨k + 1, by go_num, (by show k + 1 ≤ na; omega), (by first | rfl | trivial)⟩
      case measure => simp [intOf]; omega
    · have hj' : ¬ (k : Int) < (na : Int) := by omega
      have q0 := (HKC.out _ K1.out).1
      have q1 := (HKC.out _ K1.out).2
      have q0' : wr.drew.cell? ad = _ := q0
      have q1' : wr.drew.cell? ⟨ad.block, ad.off + 1, none⟩ = _ := q1
      go_wp2_with fail
      go_region_with (refine (HJ.out _ (K1.out.tr (Kp.drewN_ _ 1))).mono ?_; rintro e3 w3 ⟨A3, c3, rfl, r3, l3, x3, k3⟩)
      all_goals
        go_wp2
        go_ret2
        exact ⟨A3, c3, rfl, r3, l3, x3, k3⟩

set_option maxRecDepth 100000 in
theorem rnode_12 (X : Nat → Prop) (P Q : Option Addr) (n c m d : Nat) (A : Option Addr) (na e : Nat) (gs : List (List Int)) (w : World) (hml : m ≤ 9223372036854775807) (HG : Hid (RdLX w X A gs)) (HNG : Hid (na = gs.length)) (HN : Hid (NC w 12 (na : Int) true P n c Q m d)) (hok : gs.all okS = true) (ad : Addr) (hA : A = some ad) (hlt : ad.block < w.heap.size) (a b : List Int) (Pa Pb : Option Addr) (ca cb : Nat) (h0 : w.cell? ad = some (.slice Pa a.length ca)) (h1 : w.cell? ⟨ad.block, ad.off + 1, none⟩ = some (.slice Pb b.length cb)) (RA : Hid (Rd w Pa a)) (RB : Hid (Rd w Pb b)) (hna : na = 2) :
    Calls Try.prog 12 #[.agg #[.int .i64 12, .slice P n c, .slice Q m d], .slice A na e] w (RetM X (joinV a b) w) := by
  have t1 : ((na : Int) != (na : Int)) = false := by simp
  have hnl : na ≤ 9223372036854775807 := by rw [HNG.out]; exact HG.out.len
  have HOK : Hid (∀ s ∈ gs, okS s = true) := fun s hs => List.all_eq_true.1 hok s hs
  clear hok
  subst hA
  have hal := RA.out.len
  have hbl := RB.out.len
  have HKC : Hid (∀ V, Kp w V → V.cell? ad = some (.slice Pa a.length ca) ∧ V.cell? ⟨ad.block, ad.off + 1, none⟩ = some (.slice Pb b.length cb)) := fun V k => ⟨(k.cell hlt).trans h0, (k.cell (p := ⟨ad.block, ad.off + 1, none⟩) hlt).trans h1⟩
  have HJ : Hid (∀ V, Kp w V → Calls Try.prog 25 #[.slice Pa a.length ca, .slice Pb b.length cb] V (RetM X (joinV a b) w)) := fun V k => (rjoin_own Pa Pb ca cb a b V (RA.out.kp k) (RB.out.kp k)).mono fun e V' ⟨A, c, B, he, o, hB, k'⟩ => he ▸ RetM.own (s := (joinV a b).1) rfl o (Nat.le_trans k.size hB) (k.tr k') (joinV a b).2
  have i1 : (1 : Int) < (na : Int) := by omega
  have i0 : (0 : Int) < (na : Int) := by omega
  clear h0 h1 hna
  have F0 := Lib.hid (Nb.new (W := w) (b := w.heap.size) (op := 12) (P := P) (n := n) (c := c) (Q := Q) (m := m) (d := d) rfl)
  have K0 : Hid (Kp w (w.alloc (.cells #[.int .i64 12, .slice P n c, .slice Q m d] 25))) := Kp.alloc_ _ _
  go_enter Try.func12, Try.ntmps12
  go_wp2_with fail
  refine (HN.out.al _ K0.out).mono ?_; rintro e1 w1 ⟨rfl, k1⟩
  have K1 := Lib.hid (K0.out.tr k1)
  have F1 := Lib.hid (F0.out.kp k1)
  have p0 := F1.out.c0
  have p1 := F1.out.c1
  have p2 := F1.out.c2
  clear k1
  go_wp2_with fail
  refine (HN.out.ar _).mono ?_; rintro e2 w2 ⟨rfl, rfl⟩
  go_wp2
  go_loopw [7, 8] (fun i _ wx => ∃ k : Nat, i = .int .i64 (k : Int) ∧ Hid (k ≤ na) ∧ wx = w1) (fun i _ _ => na - (intOf i).toNat)
  case atStart => exact ⟨0, rfl, Nat.zero_le _, rfl⟩
  case round =>
    obtain ⟨k, rfl, hk, rfl⟩ := hrel
    by_cases hj : k < na
    · have hj' : (k : Int) < (na : Int) := by omega
      obtain ⟨ad9, s9, Pv, cv, ea9, hlt9, hs, hc, hr, _, _, _⟩ := (HG.out.kp K1.out).at_ (k := k) (by rw [← HNG.out]; exact hj)
      have HCK := Lib.hid (rcheck_any Pv cv s9 wr hr)
      rw [HOK.out s9 (List.mem_of_getElem? hs)] at HCK
      clear hs hr
      injection ea9 with ea9
      subst ea9
      go_wp2_with fail
      refine (Hid.out HCK).mono ?_; rintro e3 w3 ⟨rfl, rfl⟩
      go_wp2
      go_roundw
      case rel => exact ⟨k + 1, by go_num, (by show k + 1 ≤ na; omega), (by first | rfl | trivial)⟩
      case measure => simp [intOf]; omega
    · have hj' : ¬ (k : Int) < (na : Int) := by omega
      have q0 := (HKC.out _ K1.out).1
      have q1 := (HKC.out _ K1.out).2
      have q0' : wr.drew.cell? ad = _ := q0
      have q1' : wr.drew.cell? ⟨ad.block, ad.off + 1, none⟩ = _ := q1
      go_wp2_with fail
      go_region_with (refine (HJ.out _ (K1.out.tr (Kp.drewN_ _ 1))).mono ?_; rintro e3 w3 ⟨A3, c3, rfl, r3, l3, x3, k3⟩)
      all_goals
        go_wp2
        go_ret2
        exact ⟨A3, c3, rfl, r3, l3, x3, k3⟩

set_option maxRecDepth 100000 in
theorem rnode_13 (X : Nat → Prop) (P Q : Option Addr) (n c m d : Nat) (A : Option Addr) (na e : Nat) (gs : List (List Int)) (w : World) (hml : m ≤ 9223372036854775807) (HG : Hid (RdLX w X A gs)) (HNG : Hid (na = gs.length)) (HN : Hid (NC w 13 (na : Int) true P n c Q m d)) (hok : gs.all okS = true) (ad : Addr) (hA : A = some ad) (hlt : ad.block < w.heap.size) (a b : List Int) (Pa Pb : Option Addr) (ca cb : Nat) (h0 : w.cell? ad = some (.slice Pa a.length ca)) (h1 : w.cell? ⟨ad.block, ad.off + 1, none⟩ = some (.slice Pb b.length cb)) (RA : Hid (Rd w Pa a)) (RB : Hid (Rd w Pb b)) (hna : na = 2) :
    Calls Try.prog 12 #[.agg #[.int .i64 13, .slice P n c, .slice Q m d], .slice A na e] w (RetM X (joinV a b) w) := by
  have t1 : ((na : Int) != (na : Int)) = false := by simp
  have hnl : na ≤ 9223372036854775807 := by rw [HNG.out]; exact HG.out.len
  have HOK : Hid (∀ s ∈ gs, okS s = true) := fun s hs => List.all_eq_true.1 hok s hs
  clear hok
  subst hA
  have hal := RA.out.len
  have hbl := RB.out.len
  have HKC : Hid (∀ V, Kp w V → V.cell? ad = some (.slice Pa a.length ca) ∧ V.cell? ⟨ad.block, ad.off + 1, none⟩ = some (.slice Pb b.length cb)) := fun V k => ⟨(k.cell hlt).trans h0, (k.cell (p := ⟨ad.block, ad.off + 1, none⟩) hlt).trans h1⟩
  have HJ : Hid (∀ V, Kp w V → Calls Try.prog 25 #[.slice Pa a.length ca, .slice Pb b.length cb] V (RetM X (joinV a b) w)) := fun V k => (rjoin_own Pa Pb ca cb a b V (RA.out.kp k) (RB.out.kp k)).mono fun e V' ⟨A, c, B, he, o, hB, k'⟩ => he ▸ RetM.own (s := (joinV a b).1) rfl o (Nat.le_trans k.size hB) (k.tr k') (joinV a b).2
  have i1 : (1 : Int) < (na : Int) := by omega
  have i0 : (0 : Int) < (na : Int) := by omega
  clear h0 h1 hna
  have F0 := Lib.hid (Nb.new (W := w) (b := w.heap.size) (op := 13) (P := P) (n := n) (c := c) (Q := Q) (m := m) (d := d) rfl)
  have K0 : Hid (Kp w (w.alloc (.cells #[.int .i64 13, .slice P n c, .slice Q m d] 25))) := Kp.alloc_ _ _
  go_enter Try.func12, Try.ntmps12
  go_wp2_with fail
  refine (HN.out.al _ K0.out).mono ?_; rintro e1 w1 ⟨rfl, k1⟩
  have K1 := Lib.hid (K0.out.tr k1)
  have F1 := Lib.hid (F0.out.kp k1)
  have p0 := F1.out.c0
  have p1 := F1.out.c1
  have p2 := F1.out.c2
  clear k1
  go_wp2_with fail
  refine (HN.out.ar _).mono ?_; rintro e2 w2 ⟨rfl, rfl⟩
  go_wp2
  go_loopw [7, 8] (fun i _ wx => ∃ k : Nat, i = .int .i64 (k : Int) ∧ Hid (k ≤ na) ∧ wx = w1) (fun i _ _ => na - (intOf i).toNat)
  case atStart => exact ⟨0, rfl, Nat.zero_le _, rfl⟩
  case round =>
    obtain ⟨k, rfl, hk, rfl⟩ := hrel
    by_cases hj : k < na
    · have hj' : (k : Int) < (na : Int) := by omega
      obtain ⟨ad9, s9, Pv, cv, ea9, hlt9, hs, hc, hr, _, _, _⟩ := (HG.out.kp K1.out).at_ (k := k) (by rw [← HNG.out]; exact hj)
      have HCK := Lib.hid (rcheck_any Pv cv s9 wr hr)
      rw [HOK.out s9 (List.mem_of_getElem? hs)] at HCK
      clear hs hr
      injection ea9 with ea9
      subst ea9
      go_wp2_with fail
      refine (Hid.out HCK).mono ?_; rintro e3 w3 ⟨rfl, rfl⟩
      go_wp2
      go_roundw
      case rel => exact ⟨k + 1, by go_num, (by show k + 1 ≤ na; omega), (by first | rfl | trivial)⟩
      case measure => simp [intOf]; omega
    · have hj' : ¬ (k : Int) < (na : Int) := by omega
      have q0 := (HKC.out _ K1.out).1
      have q1 := (HKC.out _ K1.out).2
      have q0' : wr.drew.cell? ad = _ := q0
      have q1' : wr.drew.cell? ⟨ad.block, ad.off + 1, none⟩ = _ := q1
      go_wp2_with fail
      go_region_with (refine (HJ.out _ (K1.out.tr (Kp.drewN_ _ 1))).mono ?_; rintro e3 w3 ⟨A3, c3, rfl, r3, l3, x3, k3⟩)
      all_goals
        go_wp2
        go_ret2
        exact ⟨A3, c3, rfl, r3, l3, x3, k3⟩

set_option maxRecDepth 100000 in
theorem rnode_20 (X : Nat → Prop) (P Q : Option Addr) (n c m d : Nat) (A : Option Addr) (na e : Nat) (gs : List (List Int)) (w : World) (hml : m ≤ 9223372036854775807) (HG : Hid (RdLX w X A gs)) (HNG : Hid (na = gs.length)) (HN : Hid (NC w 20 (na : Int) true P n c Q m d)) (hok : gs.all okS = true) (ad : Addr) (hA : A = some ad) (hlt : ad.block < w.heap.size) (a : List Int) (Pa : Option Addr) (ca : Nat) (h0 : w.cell? ad = some (.slice Pa a.length ca)) (RA : Hid (Rd w Pa a)) (hca : a.length ≤ ca ∧ ca ≤ 9223372036854775807) (XA : Hid (∀ ad, Pa = some ad → 0 < a.length → X ad.block)) (i0 : (0 : Int) < (na : Int)) :
    Calls Try.prog 12 #[.agg #[.int .i64 20, .slice P n c, .slice Q m d], .slice A na e] w (RetM X (a, 0) w) := by
  have t1 : ((na : Int) != (na : Int)) = false := by simp
  have hnl : na ≤ 9223372036854775807 := by rw [HNG.out]; exact HG.out.len
  have HOK : Hid (∀ s ∈ gs, okS s = true) := fun s hs => List.all_eq_true.1 hok s hs
  clear hok
  subst hA
  have hal := RA.out.len
  have HKC : Hid (∀ V, Kp w V → V.cell? ad = some (.slice Pa a.length ca)) := fun V k => (k.cell hlt).trans h0
  clear h0
  have F0 := Lib.hid (Nb.new (W := w) (b := w.heap.size) (op := 20) (P := P) (n := n) (c := c) (Q := Q) (m := m) (d := d) rfl)
  have K0 : Hid (Kp w (w.alloc (.cells #[.int .i64 20, .slice P n c, .slice Q m d] 25))) := Kp.alloc_ _ _
  go_enter Try.func12, Try.ntmps12
  go_wp2_with fail
  refine (HN.out.al _ K0.out).mono ?_; rintro e1 w1 ⟨rfl, k1⟩
  have K1 := Lib.hid (K0.out.tr k1)
  have F1 := Lib.hid (F0.out.kp k1)
  have p0 := F1.out.c0
  have p1 := F1.out.c1
  have p2 := F1.out.c2
  clear k1
  go_wp2_with fail
  refine (HN.out.ar _).mono ?_; rintro e2 w2 ⟨rfl, rfl⟩
  go_wp2
  go_loopw [7, 8] (fun i _ wx => ∃ k : Nat, i = .int .i64 (k : Int) ∧ Hid (k ≤ na) ∧ wx = w1) (fun i _ _ => na - (intOf i).toNat)
  case atStart => exact ⟨0, rfl, Nat.zero_le _, rfl⟩
  case round =>
    obtain ⟨k, rfl, hk, rfl⟩ := hrel
    by_cases hj : k < na
    · have hj' : (k : Int) < (na : Int) := by omega
      obtain ⟨ad9, s9, Pv, cv, ea9, hlt9, hs, hc, hr, _, _, _⟩ := (HG.out.kp K1.out).at_ (k := k) (by rw [← HNG.out]; exact hj)
      have HCK := Lib.hid (rcheck_any Pv cv s9 wr hr)
      rw [HOK.out s9 (List.mem_of_getElem? hs)] at HCK
      clear hs hr
      injection ea9 with ea9
      subst ea9
      go_wp2_with fail
      refine (Hid.out HCK).mono ?_; rintro e3 w3 ⟨rfl, rfl⟩
      go_wp2
      go_roundw
      case rel => exact ⟨k + 1, by go_num, (by show k + 1 ≤ na; omega), (by first | rfl | trivial)⟩
      case measure => simp [intOf]; omega
    · have hj' : ¬ (k : Int) < (na : Int) := by omega
      have q0 := HKC.out _ K1.out
      go_wp2
      go_ret2
      exact RetM.arg rfl (RA.out.kp K1.out) hca.1 hca.2 XA.out K1.out 0

set_option maxRecDepth 100000 in
theorem rnode_21 (X : Nat → Prop) (P Q : Option Addr) (n c m d : Nat) (A : Option Addr) (na e : Nat) (gs : List (List Int)) (w : World) (hml : m ≤ 9223372036854775807) (HG : Hid (RdLX w X A gs)) (HNG : Hid (na = gs.length)) (HN : Hid (NC w 21 (na : Int) true P n c Q m d)) (hok : gs.all okS = true) (ad : Addr) (hA : A = some ad) (hlt : ad.block < w.heap.size) (a : List Int) (Pa : Option Addr) (ca : Nat) (h0 : w.cell? ad = some (.slice Pa a.length ca)) (RA : Hid (Rd w Pa a)) (hca : a.length ≤ ca ∧ ca ≤ 9223372036854775807) (XA : Hid (∀ ad, Pa = some ad → 0 < a.length → X ad.block)) (i0 : (0 : Int) < (na : Int)) :
    Calls Try.prog 12 #[.agg #[.int .i64 21, .slice P n c, .slice Q m d], .slice A na e] w (RetM X (a, 0) w) := by
  have t1 : ((na : Int) != (na : Int)) = false := by simp
  have hnl : na ≤ 9223372036854775807 := by rw [HNG.out]; exact HG.out.len
  have HOK : Hid (∀ s ∈ gs, okS s = true) := fun s hs => List.all_eq_true.1 hok s hs
  clear hok
  subst hA
  have hal := RA.out.len
  have HKC : Hid (∀ V, Kp w V → V.cell? ad = some (.slice Pa a.length ca)) := fun V k => (k.cell hlt).trans h0
  clear h0
  have F0 := Lib.hid (Nb.new (W := w) (b := w.heap.size) (op := 21) (P := P) (n := n) (c := c) (Q := Q) (m := m) (d := d) rfl)
  have K0 : Hid (Kp w (w.alloc (.cells #[.int .i64 21, .slice P n c, .slice Q m d] 25))) := Kp.alloc_ _ _
  go_enter Try.func12, Try.ntmps12
  go_wp2_with fail
  refine (HN.out.al _ K0.out).mono ?_; rintro e1 w1 ⟨rfl, k1⟩
  have K1 := Lib.hid (K0.out.tr k1)
  have F1 := Lib.hid (F0.out.kp k1)
  have p0 := F1.out.c0
  have p1 := F1.out.c1
  have p2 := F1.out.c2
  clear k1
  go_wp2_with fail
  refine (HN.out.ar _).mono ?_; rintro e2 w2 ⟨rfl, rfl⟩
  go_wp2
  go_loopw [7, 8] (fun i _ wx => ∃ k : Nat, i = .int .i64 (k : Int) ∧ Hid (k ≤ na) ∧ wx = w1) (fun i _ _ => na - (intOf i).toNat)
  case atStart => exact ⟨0, rfl, Nat.zero_le _, rfl⟩
  case round =>
    obtain ⟨k, rfl, hk, rfl⟩ := hrel
    by_cases hj : k < na
    · have hj' : (k : Int) < (na : Int) := by omega
      obtain ⟨ad9, s9, Pv, cv, ea9, hlt9, hs, hc, hr, _, _, _⟩ := (HG.out.kp K1.out).at_ (k := k) (by rw [← HNG.out]; exact hj)
      have HCK := Lib.hid (rcheck_any Pv cv s9 wr hr)
      rw [HOK.out s9 (List.mem_of_getElem? hs)] at HCK
      clear hs hr
      injection ea9 with ea9
      subst ea9
      go_wp2_with fail
      refine (Hid.out HCK).mono ?_; rintro e3 w3 ⟨rfl, rfl⟩
      go_wp2
      go_roundw
      case rel => exact ⟨k + 1, by go_num, (by show k + 1 ≤ na; omega), (by first | rfl | trivial)⟩
      case measure => simp [intOf]; omega
    · have hj' : ¬ (k : Int) < (na : Int) := by omega
      have q0 := HKC.out _ K1.out
      go_wp2
      go_ret2
      exact RetM.arg rfl (RA.out.kp K1.out) hca.1 hca.2 XA.out K1.out 0

set_option maxRecDepth 100000 in
theorem rnode_22 (X : Nat → Prop) (P Q : Option Addr) (n c m d : Nat) (A : Option Addr) (na e : Nat) (gs : List (List Int)) (w : World) (hml : m ≤ 9223372036854775807) (HG : Hid (RdLX w X A gs)) (HNG : Hid (na = gs.length)) (HN : Hid (NC w 22 (na : Int) true P n c Q m d)) (hok : gs.all okS = true) (ad : Addr) (hA : A = some ad) (hlt : ad.block < w.heap.size) (a : List Int) (Pa : Option Addr) (ca : Nat) (h0 : w.cell? ad = some (.slice Pa a.length ca)) (RA : Hid (Rd w Pa a)) (hca : a.length ≤ ca ∧ ca ≤ 9223372036854775807) (XA : Hid (∀ ad, Pa = some ad → 0 < a.length → X ad.block)) (i0 : (0 : Int) < (na : Int)) :
    Calls Try.prog 12 #[.agg #[.int .i64 22, .slice P n c, .slice Q m d], .slice A na e] w (RetM X (a, 0) w) := by
  have t1 : ((na : Int) != (na : Int)) = false := by simp
  have hnl : na ≤ 9223372036854775807 := by rw [HNG.out]; exact HG.out.len
  have HOK : Hid (∀ s ∈ gs, okS s = true) := fun s hs => List.all_eq_true.1 hok s hs
  clear hok
  subst hA
  have hal := RA.out.len
  have HKC : Hid (∀ V, Kp w V → V.cell? ad = some (.slice Pa a.length ca)) := fun V k => (k.cell hlt).trans h0
  clear h0
  have F0 := Lib.hid (Nb.new (W := w) (b := w.heap.size) (op := 22) (P := P) (n := n) (c := c) (Q := Q) (m := m) (d := d) rfl)
  have K0 : Hid (Kp w (w.alloc (.cells #[.int .i64 22, .slice P n c, .slice Q m d] 25))) := Kp.alloc_ _ _
  go_enter Try.func12, Try.ntmps12
  go_wp2_with fail
  refine (HN.out.al _ K0.out).mono ?_; rintro e1 w1 ⟨rfl, k1⟩
  have K1 := Lib.hid (K0.out.tr k1)
  have F1 := Lib.hid (F0.out.kp k1)
  have p0 := F1.out.c0
  have p1 := F1.out.c1
  have p2 := F1.out.c2
  clear k1
  go_wp2_with fail
  refine (HN.out.ar _).mono ?_; rintro e2 w2 ⟨rfl, rfl⟩
  go_wp2
  go_loopw [7, 8] (fun i _ wx => ∃ k : Nat, i = .int .i64 (k : Int) ∧ Hid (k ≤ na) ∧ wx = w1) (fun i _ _ => na - (intOf i).toNat)
  case atStart => exact ⟨0, rfl, Nat.zero_le _, rfl⟩
  case round =>
    obtain ⟨k, rfl, hk, rfl⟩ := hrel
    by_cases hj : k < na
    · have hj' : (k : Int) < (na : Int) := by omega
      obtain ⟨ad9, s9, Pv, cv, ea9, hlt9, hs, hc, hr, _, _, _⟩ := (HG.out.kp K1.out).at_ (k := k) (by rw [← HNG.out]; exact hj)
      have HCK := Lib.hid (rcheck_any Pv cv s9 wr hr)
      rw [HOK.out s9 (List.mem_of_getElem? hs)] at HCK
      clear hs hr
      injection ea9 with ea9
      subst ea9
      go_wp2_with fail
      refine (Hid.out HCK).mono ?_; rintro e3 w3 ⟨rfl, rfl⟩
      go_wp2
      go_roundw
      case rel => exact ⟨k + 1, by go_num, (by show k + 1 ≤ na; omega), (by first | rfl | trivial)⟩
      case measure => simp [intOf]; omega
    · have hj' : ¬ (k : Int) < (na : Int) := by omega
      have q0 := HKC.out _ K1.out
      go_wp2
      go_ret2
      exact RetM.arg rfl (RA.out.kp K1.out) hca.1 hca.2 XA.out K1.out 0

set_option maxRecDepth 100000 in
theorem rnode_23 (X : Nat → Prop) (P Q : Option Addr) (n c m d : Nat) (A : Option Addr) (na e : Nat) (gs : List (List Int)) (w : World) (hml : m ≤ 9223372036854775807) (HG : Hid (RdLX w X A gs)) (HNG : Hid (na = gs.length)) (HN : Hid (NC w 23 (na : Int) true P n c Q m d)) (hok : gs.all okS = true) (ad : Addr) (hA : A = some ad) (hlt : ad.block < w.heap.size) (a : List Int) (Pa : Option Addr) (ca : Nat) (h0 : w.cell? ad = some (.slice Pa a.length ca)) (RA : Hid (Rd w Pa a)) (hca : a.length ≤ ca ∧ ca ≤ 9223372036854775807) (XA : Hid (∀ ad, Pa = some ad → 0 < a.length → X ad.block)) (i0 : (0 : Int) < (na : Int)) :
    Calls Try.prog 12 #[.agg #[.int .i64 23, .slice P n c, .slice Q m d], .slice A na e] w (RetM X (a, 0) w) := by
  have t1 : ((na : Int) != (na : Int)) = false := by simp
  have hnl : na ≤ 9223372036854775807 := by rw [HNG.out]; exact HG.out.len
  have HOK : Hid (∀ s ∈ gs, okS s = true) := fun s hs => List.all_eq_true.1 hok s hs
  clear hok
  subst hA
  have hal := RA.out.len
  have HKC : Hid (∀ V, Kp w V → V.cell? ad = some (.slice Pa a.length ca)) := fun V k => (k.cell hlt).trans h0
  clear h0
  have F0 := Lib.hid (Nb.new (W := w) (b := w.heap.size) (op := 23) (P := P) (n := n) (c := c) (Q := Q) (m := m) (d := d) rfl)
  have K0 : Hid (Kp w (w.alloc (.cells #[.int .i64 23, .slice P n c, .slice Q m d] 25))) := Kp.alloc_ _ _
  go_enter Try.func12, Try.ntmps12
  go_wp2_with fail
  refine (HN.out.al _ K0.out).mono ?_; rintro e1 w1 ⟨rfl, k1⟩
  have K1 := Lib.hid (K0.out.tr k1)
  have F1 := Lib.hid (F0.out.kp k1)
  have p0 := F1.out.c0
  have p1 := F1.out.c1
  have p2 := F1.out.c2
  clear k1
  go_wp2_with fail
  refine (HN.out.ar _).mono ?_; rintro e2 w2 ⟨rfl, rfl⟩
  go_wp2
  go_loopw [7, 8] (fun i _ wx => ∃ k : Nat, i = .int .i64 (k : Int) ∧ Hid (k ≤ na) ∧ wx = w1) (fun i _ _ => na - (intOf i).toNat)
  case atStart => exact ⟨0, rfl, Nat.zero_le _, rfl⟩
  case round =>
    obtain ⟨k, rfl, hk, rfl⟩ := hrel
    by_cases hj : k < na
    · have hj' : (k : Int) < (na : Int) := by omega
      obtain ⟨ad9, s9, Pv, cv, ea9, hlt9, hs, hc, hr, _, _, _⟩ := (HG.out.kp K1.out).at_ (k := k) (by rw [← HNG.out]; exact hj)
      have HCK := Lib.hid (rcheck_any Pv cv s9 wr hr)
      rw [HOK.out s9 (List.mem_of_getElem? hs)] at HCK
      clear hs hr
      injection ea9 with ea9
      subst ea9
      go_wp2_with fail
      refine (Hid.out HCK).mono ?_; rintro e3 w3 ⟨rfl, rfl⟩
      go_wp2
      go_roundw
      case rel => exact ⟨k + 1, by go_num, (by show k + 1 ≤ na; omega), (by first | rfl | trivial)⟩
      case measure => simp [intOf]; omega
    · have hj' : ¬ (k : Int) < (na : Int) := by omega
      have q0 := HKC.out _ K1.out
      go_wp2
      go_ret2
      exact RetM.arg rfl (RA.out.kp K1.out) hca.1 hca.2 XA.out K1.out 0

end Go.Proofs.Ytnkkkpanlnencaa
