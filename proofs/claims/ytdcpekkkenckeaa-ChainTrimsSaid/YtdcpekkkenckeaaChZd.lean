/- The landed chain: Read, Trim. -/
import Derived.Test.YtdcpekkkenckeaaChZc
namespace Go.Proofs.Ytdcpekkkenckeaa.Cz
open Go.RowKit Go.Proofs.ShM Go.Proofs.GrM Go.Proofs.ImM Go.Proofs.ChM
set_option linter.unusedVariables false
set_option linter.unusedSimpArgs false
set_option maxRecDepth 100000
set_option maxHeartbeats 8000000

/-- Where the version at a stamp stands, by how many are not behind it. -/
theorem at_part {l : List Nd} {s : Int} {q : Nat} (hq : q ≤ l.length) (h1 : ∀ j, j < q → decide (s < (l.getD j nd0).1) = false) (h2 : q < l.length → decide (s < (l.getD q nd0).1) = true) (hc : chkV l = true) : atC l s = (q : Int) - 1 := by
  have up : ∀ j, q ≤ j → j < l.length → s < (l.getD j nd0).1 := fun j hj hl => by
    have h3 := of_decide_eq_true (h2 (by omega))
    rcases Nat.eq_or_lt_of_le hj with e | e
    · rw [← e]; exact h3
    · have := rises' hc e hl; omega
  rcases Nat.eq_zero_or_pos q with h0 | h0
  · subst h0
    rw [at_none fun j hj => up j (Nat.zero_le _) hj]; rfl
  · have e : ((q : Int) - 1) = ((q - 1 : Nat) : Int) := by omega
    rw [e]
    refine at_is (by omega) ?_ fun j hj hl => up j (by omega) hl
    have := of_decide_eq_false (h1 (q - 1) (by omega))
    omega
theorem read_none (A : Option Addr) (c n : Nat) (s : Int) (t : T) (b : Bool) (x y : Nat) (w : World) (ht : (cT, false) = (t, b)) (hx : t.1.length = x) (hy : t.2.length = y)
    (HP : Hid (∀ W, Kp w W → Calls Try.prog 24 #[.slice A n c, .int .i64 s] W fun e W' => (∃ C D m d f, e = .returned (.tuple #[.slice C 0 d, .slice D m f])) ∧ Kp W W')) :
    Calls Try.prog 11 #[.slice A n c, .int .i64 s] w (RetTB t b x y w) := by
  have F0 : Hid (Bk (w.alloc (.cells #[.slice none 0 0, .slice none 0 0] 25)) w.heap.size none 0 0 none 0 0) := Bk.new rfl
  have K0 : Hid (Kp w (w.alloc (.cells #[.slice none 0 0, .slice none 0 0] 25))) := Kp.alloc_ _ _
  injection ht with e1 e2
  subst e1 e2
  obtain rfl : 0 = x := hx
  obtain rfl : 0 = y := hy
  go_enter Try.func11, Try.ntmps11
  go_wp2_with fail
  refine (HP.out _ K0.out).mono ?_; rintro e w1 ⟨⟨C, D, m, d, f, rfl⟩, k1⟩
  have K1 := lH (K0.out.tr k1)
  have F1 := lH (F0.out.kp k1)
  have q0 := F1.out.c0
  have q1 := F1.out.c1
  have u0 := F1.out.f0 0
  have u1 := F1.out.f0 1
  clear k1
  go_wp2
  have HZ := F1.out.put (C := none) (n' := 0) (c' := 0) (D := none) (m' := 0) (d' := 0)
  have z0 := HZ.c0
  have z1 := HZ.c1
  refine bodyPost_ret (v := .tuple #[.agg #[.slice none 0 0, .slice none 0 0], .bool false]) (by simp [results, Try.results11, go_sem, z0, z1]; try rfl) rfl ?_
  exact ⟨none, 0, none, 0, rfl, (⟨TR.nil_, by decide, by decide⟩ : TRm _ none 0 none 0 cT), K1.out.set2 (Nat.le_refl _) _ _⟩
theorem read_v (A : Option Addr) (c n : Nat) (l : List Nd) (s : Int) (t : T) (b : Bool) (x y : Nat) (w : World) (h : RdG w A l) (hc : l.length ≤ c ∧ c ≤ 9223372036854775807) (hl : SmV l) (hn : n = l.length) (hq : readC l s = (t, b)) (hx : t.1.length = x) (hy : t.2.length = y) :
    Calls Try.prog 11 #[.slice A n c, .int .i64 s] w (RetTB t b x y w) := by
  cases hk : chkV l with
  | false =>
    refine read_none A c n s t b x y w (by rw [← hq]; unfold readC; rw [hk, if_neg (fun h => by cases h.1)]) hx hy fun W kW => (parted_no A c n l s W (h.kp kW) hc hn hk).mono fun e w' ⟨h1, h2⟩ => ⟨⟨none, none, 0, 0, 0, h1⟩, h2⟩
  | true =>
    obtain ⟨q, hq0, h1, h2⟩ := part_ex l s n
    have hat := at_part (l := l) (s := s) (by omega) h1 (by rw [← hn]; exact h2) hk
    unfold readC at hq
    rw [hat, hk] at hq
    cases q with
    | zero =>
      rw [if_neg (fun h => by have := h.2; omega)] at hq
      exact read_none A c n s t b x y w hq hx hy fun W kW => (parted_v A c n 0 l s W (h.kp kW) hc hn hk hq0 h1 h2).mono fun e w' ⟨h1, h2⟩ => ⟨⟨_, _, _, _, _, h1⟩, h2⟩
    | succ m =>
      rw [if_pos ⟨rfl, by omega⟩, show (((m + 1 : Nat) : Int) - 1).toNat = m by omega] at hq
      injection hq with e1 e2
      subst e2
      have hm : m < l.length := by omega
      obtain ⟨ad, P, a, Q, f, rfl, had, y0, y1, y2, hR⟩ := h.atv hm
      rw [e1] at y1 y2 hR
      have ht : SmVt t := by rw [← e1, List.getD_eq_getElem?_getD, List.getElem?_eq_getElem hm]; exact (hl.2 _ (List.getElem_mem hm)).2
      have HCo : Hid (∀ V, Kp w V → Calls Try.prog 25 #[.agg #[.slice P x a, .slice Q y f]] V (RetC t V)) := fun V kV => copied_v P Q x a y f t V (hR.r.kp kV) hx.symm hy.symm (by have := ht.1; omega) (by have := ht.2.1; omega)
      have HP : Hid (∀ W, Kp w W → Calls Try.prog 24 #[.slice (some ad) n c, .int .i64 s] W fun e W' => e = .returned (.tuple #[.slice (some ad) (m + 1) c, .slice (cutV (some ad) c (m + 1)) (n - (m + 1)) (c - (m + 1))]) ∧ Kp W W') := fun W kW => parted_v _ c n (m + 1) l s W (h.kp kW) hc hn hk hq0 h1 h2
      rw [hx] at y1
      rw [hy] at y2
      have HQ : Hid (∀ V, Kp w V → V.cell? ⟨(ad.add (m * 3)).block, (ad.add (m * 3)).off + 1, none⟩ = some (.slice P x a) ∧ V.cell? ⟨(ad.add (m * 3)).block, (ad.add (m * 3)).off + 1 + 1, none⟩ = some (.slice Q y f)) := fun V kV =>
        ⟨(kV.cell (show (⟨(ad.add (m * 3)).block, _, none⟩ : Addr).block < _ by show (ad.add (m * 3)).block < _; rw [block_of_add]; exact had)).trans y1, (kV.cell (show (⟨(ad.add (m * 3)).block, _, none⟩ : Addr).block < _ by show (ad.add (m * 3)).block < _; rw [block_of_add]; exact had)).trans y2⟩
      generalize cutV (some ad) c (m + 1) = C at HP
      generalize n - (m + 1) = k1 at HP
      generalize c - (m + 1) = k2 at HP
      have hm9 : m + 1 ≤ 9223372036854775807 := by omega
      have F0 : Hid (Bk (w.alloc (.cells #[.slice none 0 0, .slice none 0 0] 25)) w.heap.size none 0 0 none 0 0) := Bk.new rfl
      have K0 : Hid (Kp w (w.alloc (.cells #[.slice none 0 0, .slice none 0 0] 25))) := Kp.alloc_ _ _
      have HX := lH (And.intro hx hy)
      clear h hc hl hn hx hy hk h1 h2 hat e1 had y0 y1 y2 hR ht hq0 hm
      go_enter Try.func11, Try.ntmps11
      go_wp2_with fail
      refine (HP.out _ K0.out).mono ?_; rintro e w1 ⟨rfl, kk⟩
      have K1 := lH (K0.out.tr kk)
      have F1 := lH (F0.out.kp kk)
      obtain ⟨p1, p2⟩ := HQ.out _ K1.out
      clear kk
      go_wp2_with fail
      refine (HCo.out _ K1.out).mono ?_; rintro e w2 ⟨A2, a2, B2, b2, rfl, t2, _, kk⟩
      have K2 := lH (K1.out.tr kk)
      have F2 := lH (F1.out.kp kk)
      have q0 := F2.out.c0
      have q1 := F2.out.c1
      have u0 := F2.out.f0 0
      have u1 := F2.out.f0 1
      rw [HX.out.1, HX.out.2]
      clear kk p1 p2
      go_wp2
      have HZ := F2.out.put (C := A2) (n' := x) (c' := a2) (D := B2) (m' := y) (d' := b2)
      have z0 := HZ.c0
      have z1 := HZ.c1
      refine bodyPost_ret (v := .tuple #[.agg #[.slice A2 x a2, .slice B2 y b2], .bool true]) (by simp [results, Try.results11, go_sem, z0, z1]; try rfl) rfl ?_
      exact ⟨A2, a2, B2, b2, rfl, t2.out.set2 F2.out _ _, K2.out.set2 (Nat.le_refl _) _ _⟩

/-! ### Trim -/
theorem copies_c (A : Option Addr) (c n : Nat) (l : List Nd) (w : World) (h : RdG w A l) (hn : n = l.length) (hl : SmV l) :
    Calls Try.prog 28 #[.slice A n c] w fun e w' => ∃ A' c', e = .returned (.slice A' l.length c') ∧ Hid (OwnV w.heap.size w' (.slice A' l.length c') l) ∧ Kp w w' :=
  copies_v A c n l w h hn (by have := hl.1; omega) fun v hv => ⟨by have := (hl.2 v hv).2.1; omega, by have := (hl.2 v hv).2.2.1; omega⟩
theorem trim_by (A : Option Addr) (c n j k : Nat) (l m : List Nd) (s : Int) (w : World) (h : RdG w A l) (hc : l.length ≤ c ∧ c ≤ 9223372036854775807) (hl : SmV l) (hn : n = l.length) (hj : m.length = j) (hk : k ≤ n) (hm : l.drop k = m) (q : Nat) (hq9 : q ≤ 9223372036854775807)
    (hqk : q = k + 1 ∨ (q = 0 ∧ k = 0))
    (HP : Hid (Calls Try.prog 24 #[.slice A n c, .int .i64 s] w fun e W' => (∃ C D m d f, e = .returned (.tuple #[.slice C q d, .slice D m f])) ∧ Kp w W')) :
    Calls Try.prog 21 #[.slice A n c, .int .i64 s] w (RetV m j w) := by
  have hcut0 : ∀ W, (Instr.sliceAt 22 (.slice A n c) (some (.int .i64 (k : Int))) none none).run Try.prog W = .ok (.slice (cutV A c k) (n - k) (c - k)) W := fun W => run_lo W _ _ _ _ hk
  have HC : Hid (∀ W, Kp w W → Calls Try.prog 28 #[.slice (cutV A c k) (n - k) (c - k)] W fun e w' => ∃ A' c', e = .returned (.slice A' j c') ∧ Hid (RdG w' A' m ∧ m.length ≤ c' ∧ c' ≤ 9223372036854775807) ∧ Kp W w') := fun W kW => by
    have hd : RdG W (cutV A c k) m := by rw [← hm]; exact (rd_cutV h (by omega) hc.1).kp kW
    refine (copies_c _ (c - k) (n - k) m W hd (by rw [← hm, List.length_drop, hn]) (by rw [← hm]; exact sm_drop hl k)).mono ?_
    rintro e w' ⟨A', c', rfl, o, kk⟩
    exact ⟨A', c', by rw [hj], v_of_own o.out, kk⟩
  generalize cutV A c k = C at hcut0 HC
  generalize n - k = n1 at hcut0 HC
  generalize c - k = c1 at hcut0 HC
  have HJ := lH hj
  clear h hc hl hn hj hk hm
  rcases hqk with hqk | ⟨hqk, h0⟩
  · subst hqk
    have hmx : ∀ (W : World) (ts : Array TypeId) (t : TypeId), (Builtin.max_ ts t #[.int .i64 (k : Int), .int .i64 0]).run Try.prog W = .ok (.int .i64 (k : Int)) W := fun W ts t => by
      rw [run_max_int2]
      by_cases hc : (0 : Int) > (k : Int)
      · omega
      · rw [if_neg hc]
    go_enter Try.func21, Try.ntmps21
    go_wp2_with fail
    refine Calls.mono HP.out ?_; rintro e w1 ⟨⟨C1, D1, m1, d1, f1, rfl⟩, k1⟩
    have K1 := lH k1
    clear k1
    go_wp2_with fail
    refine (HC.out _ K1.out).mono ?_; rintro e w2 ⟨A2, c2, rfl, o2, k2⟩
    have K2 := lH (K1.out.tr k2)
    clear k2
    go_wp2
    go_ret
    exact ⟨A2, c2, rfl, o2.out.1, o2.out.2, K2.out⟩
  · subst hqk h0
    have hcut : ∀ W, (Instr.sliceAt 22 (.slice A n c) (some (.int .i64 0)) none none).run Try.prog W = .ok (.slice C n1 c1) W := hcut0
    have hmx : ∀ (W : World) (ts : Array TypeId) (t : TypeId), (Builtin.max_ ts t #[.int .i64 (-1), .int .i64 0]).run Try.prog W = .ok (.int .i64 0) W := fun W ts t => by
      rw [run_max_int2]; rfl
    clear hcut0
    go_enter Try.func21, Try.ntmps21
    go_wp2_with fail
    refine Calls.mono HP.out ?_; rintro e w1 ⟨⟨C1, D1, m1, d1, f1, rfl⟩, k1⟩
    have K1 := lH k1
    clear k1
    go_wp2_with fail
    refine (HC.out _ K1.out).mono ?_; rintro e w2 ⟨A2, c2, rfl, o2, k2⟩
    have K2 := lH (K1.out.tr k2)
    clear k2
    go_wp2
    go_ret
    exact ⟨A2, c2, rfl, o2.out.1, o2.out.2, K2.out⟩
theorem trim_v (A : Option Addr) (c n j : Nat) (l m : List Nd) (s : Int) (w : World) (h : RdG w A l) (hc : l.length ≤ c ∧ c ≤ 9223372036854775807) (hl : SmV l) (hn : n = l.length) (hq : trimC l s = m) (hj : m.length = j) :
    Calls Try.prog 21 #[.slice A n c, .int .i64 s] w (RetV m j w) := by
  unfold trimC at hq
  cases hk : chkV l with
  | false =>
    rw [hk, if_neg (fun h => by cases h.1)] at hq
    exact trim_by A c n j 0 l m s w h hc hl hn hj (Nat.zero_le _) hq 0 (by decide) (.inr ⟨rfl, rfl⟩) ((parted_no A c n l s w h hc hn hk).mono fun e w' ⟨h1, h2⟩ => ⟨⟨none, none, 0, 0, 0, h1⟩, h2⟩)
  | true =>
    obtain ⟨q, hq0, h1, h2⟩ := part_ex l s n
    have hat := at_part (l := l) (s := s) (by omega) h1 (by rw [← hn]; exact h2) hk
    rw [hat, hk] at hq
    have HP := (parted_v A c n q l s w h hc hn hk hq0 h1 h2)
    cases q with
    | zero =>
      rw [if_neg (fun h => by have := h.2; omega)] at hq
      exact trim_by A c n j 0 l m s w h hc hl hn hj (Nat.zero_le _) hq 0 (by decide) (.inr ⟨rfl, rfl⟩) (HP.mono fun e w' ⟨h1, h2⟩ => ⟨⟨_, _, _, _, _, h1⟩, h2⟩)
    | succ k =>
      rw [if_pos ⟨rfl, by omega⟩, show (((k + 1 : Nat) : Int) - 1).toNat = k by omega] at hq
      exact trim_by A c n j k l m s w h hc hl hn hj (by omega) hq (k + 1) (by omega) (.inl rfl) (HP.mono fun e w' ⟨h1, h2⟩ => ⟨⟨_, _, _, _, _, h1⟩, h2⟩)
end Go.Proofs.Ytdcpekkkenckeaa.Cz
