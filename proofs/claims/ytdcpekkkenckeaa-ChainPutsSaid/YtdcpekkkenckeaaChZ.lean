/- The landed chain: Put; all that the laws want of it. -/
import Derived.Test.YtdcpekkkenckeaaChZe
namespace Go.Proofs.Ytdcpekkkenckeaa
namespace Cz
open Go.RowKit Go.Proofs.ShM Go.Proofs.GrM Go.Proofs.ImM Go.Proofs.ChM
set_option linter.unusedVariables false
set_option linter.unusedSimpArgs false
set_option maxRecDepth 100000
set_option maxHeartbeats 8000000

theorem put_no (A P Q : Option Addr) (c n a e b f : Nat) (l : List Nd) (s err : Int) (w : World) (he : err = 170 ∨ err = 30 ∨ err = 20 ∨ err = 171)
    (HR : Hid (∀ W, Kp w W → Calls Try.prog 27 #[.slice A n c, .int .i64 s, .agg #[.slice P a e, .slice Q b f]] W fun x w' => x = .returned (.int .i64 err) ∧ Kp W w'))
    (HC : Hid (∀ W, Kp w W → Calls Try.prog 28 #[.slice A n c] W fun x w' => ∃ A' c', x = .returned (.slice A' l.length c') ∧ Hid (RdG w' A' l ∧ l.length ≤ c' ∧ c' ≤ 9223372036854775807) ∧ Kp W w')) :
    Calls Try.prog 13 #[.slice A n c, .int .i64 s, .agg #[.slice P a e, .slice Q b f]] w (RetVe l err l.length w) := by
  have F0 : Hid (Bk (w.alloc (.cells #[.slice P a e, .slice Q b f] 25)) w.heap.size P a e Q b f) := Bk.new rfl
  have K0 : Hid (Kp w (w.alloc (.cells #[.slice P a e, .slice Q b f] 25))) := Kp.alloc_ _ _
  rcases he with rfl | rfl | rfl | rfl <;>
  · go_enter Try.func13, Try.ntmps13
    go_wp2_with fail
    refine (HR.out _ K0.out).mono ?_; rintro e0 w1 ⟨rfl, k1⟩
    have K1 := lH (K0.out.tr k1)
    clear k1
    go_wp2_with fail
    refine (HC.out _ K1.out).mono ?_; rintro e0 w2 ⟨A2, c2, rfl, o2, k2⟩
    have K2 := lH (K1.out.tr k2)
    clear k2
    go_wp2
    go_ret2
    exact ⟨A2, c2, rfl, o2.out.1, o2.out.2, K2.out⟩
/-- A version that was just made, as a row. -/
theorem row18 {w : World} {b6 e f : Nat} {v : Value} {s : Int} {t : T} {P Q : Option Addr} (h6 : w.heap[b6]? = some (.cells #[.int .i64 s, .slice P t.1.length e, .slice Q t.2.length f] 41 (0, 0)))
    (nr : NR w (fun k => v.ownBlock ≠ some k) P t.1 Q t.2) (h1 : t.1.length ≤ e ∧ e ≤ 9223372036854775807) (h2 : t.2.length ≤ f ∧ f ≤ 9223372036854775807) : RdN w (fun k => v.ownBlock ≠ some k) (some ⟨b6, 0, none⟩) [(s, t.1, t.2)] := by
  refine ⟨by simp, [(.int .i64 s, .slice P t.1.length e, .slice Q t.2.length f)], ⟨rfl, fun j p u g1 g2 => ?_⟩, fun _ => ⟨_, rfl, heap_lt17 h6, fun j u hu => ?_⟩⟩
  · cases j with
    | zero =>
      have e1 : (Value.int .i64 s, Value.slice P t.1.length e, Value.slice Q t.2.length f) = p := by simpa using g1
      have e2 : (s, t.1, t.2) = u := by simpa using g2
      subst e1 e2
      exact ⟨P, e, Q, f, rfl, h1.1, h1.2, h2.1, h2.2, nr⟩
    | succ j => simp at g1
  · rw [Go.WideShapes.add_plain, Nat.zero_add]
    simp only [World.cell?, h6]
    have : (flatN [(Value.int .i64 s, Value.slice P t.1.length e, Value.slice Q t.2.length f)])[j]? = #[Value.int .i64 s, Value.slice P t.1.length e, Value.slice Q t.2.length f][j]? := by simp [flatN]
    rw [← this]; exact hu
theorem put_yes (A P Q : Option Addr) (c n a e b f : Nat) (l : List Nd) (s : Int) (t : T) (w : World) (hl : l.length ≤ 1000)
    (HR : Hid (∀ W, Kp w W → Calls Try.prog 27 #[.slice A n c, .int .i64 s, .agg #[.slice P a e, .slice Q b f]] W fun x w' => x = .returned (.int .i64 0) ∧ Kp W w'))
    (HC : Hid (∀ W, Kp w W → Calls Try.prog 28 #[.slice A n c] W fun x w' => ∃ A' c', x = .returned (.slice A' l.length c') ∧ Hid (OwnV W.heap.size w' (.slice A' l.length c') l) ∧ Kp W w'))
    (HT : Hid (∀ W, Kp w W → Calls Try.prog 25 #[.agg #[.slice P a e, .slice Q b f]] W (RetC t W))) :
    Calls Try.prog 13 #[.slice A n c, .int .i64 s, .agg #[.slice P a e, .slice Q b f]] w (RetVe (l ++ [(s, t.1, t.2)]) 0 (l.length + 1) w) := by
  have F0 : Hid (Bk (w.alloc (.cells #[.slice P a e, .slice Q b f] 25)) w.heap.size P a e Q b f) := Bk.new rfl
  have K0 : Hid (Kp w (w.alloc (.cells #[.slice P a e, .slice Q b f] 25))) := Kp.alloc_ _ _
  have HLL := lH hl
  clear hl
  go_enter Try.func13, Try.ntmps13
  go_wp2_with fail
  refine (HR.out _ K0.out).mono ?_; rintro e0 w1 ⟨rfl, k1⟩
  have K1 := lH (K0.out.tr k1)
  have F1 := lH (F0.out.kp k1)
  have HSS : Hid (∀ V, Kp w1 V → V.cell? ⟨w.heap.size, 0, none⟩ = some (.slice P a e) ∧ V.cell? ⟨w.heap.size, 1, none⟩ = some (.slice Q b f)) := fun V kV => ⟨(F1.out.kp kV).c0, (F1.out.kp kV).c1⟩
  clear k1
  go_wp2_with fail
  refine wp_region_held_drew (S := fun V => V.cell? ⟨w.heap.size, 0, none⟩ = some (.slice P a e) ∧ V.cell? ⟨w.heap.size, 1, none⟩ = some (.slice Q b f)) (by kernel_rfl) (HSS.out _ (Below.drew (Kp.refl _))) (fun hHeld => ?_)
  have X0 : Hid (Kp w1 w1.drew) := Below.drew (Kp.refl _)
  generalize w1.drew = V0 at X0 hHeld ⊢
  refine tK 0 (.slice A n c) rfl hHeld <| tK 2 (.int .i64 s) rfl hHeld <| tK 3 (.agg #[.slice P a e, .slice Q b f]) rfl hHeld ?_
  refine rD 1 rfl fun K9_ hK => ?_
  go_simp
  refine (HC.out _ (K1.out.tr X0.out)).mono ?_; rintro e2 w2 ⟨A2, c2, rfl, o2, k2⟩
  dsimp only
  have X2 : Hid (Kp w1 w2) := X0.out.tr k2
  have L2 : Hid (w1.heap.size ≤ V0.heap.size) := X0.out.size
  clear k2
  refine hK.out _ _ (HSS.out _ X2.out) fun hHeld => ?_
  clear hK
  refine rD 4 rfl fun K9_ hK => ?_
  go_simp
  refine (HT.out _ (K1.out.tr X2.out)).mono ?_; rintro e3 w3 ⟨P3, e3', Q3, f3, rfl, t3, n3, k3⟩
  dsimp only
  have X3 : Hid (Kp w1 w3) := X2.out.tr k3
  have O3 : Hid (OwnV w1.heap.size w3 (.slice A2 l.length c2) l) := by
    have := o2.out.kp k3
    obtain ⟨vs, ho, hv⟩ := this
    refine ⟨vs, ⟨ho.1, ho.2.imp id ?_⟩, hv⟩
    rintro ⟨g, cap, cur, h1, h2, h3⟩
    exact ⟨g, cap, cur, h1, Nat.le_trans L2.out h2, h3⟩
  have N3 : Hid (NR w3 (fun k => (Value.slice A2 l.length c2).ownBlock ≠ some k) P3 t.1 Q3 t.2) := n3.out.mono (Kp.refl _) fun k _ hk e => by
    have := o2.out.row_lt e
    omega
  have C3 : Hid ((t.1.length ≤ e3' ∧ e3' ≤ 9223372036854775807) ∧ t.2.length ≤ f3 ∧ f3 ≤ 9223372036854775807) := ⟨t3.out.c1, t3.out.c2⟩
  clear k3 t3 n3 o2
  refine hK.out _ _ (HSS.out _ X3.out) fun hHeld => ?_
  clear hK
  obtain ⟨m1, hm1⟩ := eX t.1.length
  obtain ⟨m2, hm2⟩ := eX t.2.length
  rw [← hm1, ← hm2]
  have HM := lH (And.intro hm1 hm2)
  clear hm1 hm2
  refine tK 5 (.agg #[.int .i64 s, .slice P3 m1 e3', .slice Q3 m2 f3]) rfl hHeld ?_
  refine rD 6 rfl fun K9_ hK => ?_
  go_simp
  obtain ⟨w4, hw4⟩ := eX (w3.alloc (.cells #[.int .i64 s, .slice P3 m1 e3', .slice Q3 m2 f3] 41))
  obtain ⟨b6, hb6⟩ := eX w3.heap.size
  rw [← hb6, ← hw4]
  have k4 : Kp w3 w4 := by rw [hw4]; exact Kp.alloc_ _ _
  have H6 : w4.heap[b6]? = some (.cells #[.int .i64 s, .slice P3 m1 e3', .slice Q3 m2 f3] 41 (0, 0)) := by rw [hw4, hb6]; exact heap_new17 _ _
  have X4 : Hid (Kp w1 w4) := X3.out.tr k4
  have O4 := lH (O3.out.kp k4)
  have R4 : Hid (RdN w4 (fun k => (Value.slice A2 l.length c2).ownBlock ≠ some k) (some ⟨b6, 0, none⟩) [(s, t.1, t.2)]) := by
    rw [HM.out.1, HM.out.2] at H6
    exact row18 H6 (N3.out.kp k4) C3.out.1 C3.out.2
  clear k4 H6 hw4 hb6
  refine hK.out _ _ (HSS.out _ X4.out) fun hHeld => ?_
  clear hK
  refine rD 7 rfl fun K9_ hK => ?_
  refine oper_appV (B := w1.heap.size) (.tmp 19) (.tmp 24) rfl (.slice A2 l.length c2) l rfl O4.out _ 1 [(s, t.1, t.2)] 1 rfl rfl R4.out (by have := HLL.out; simp; omega) X4.out.size ?_
  intro z7 A7 c7 w7 hz7 o7 bl7 _
  have X7 : Hid (Kp w1 w7) := X4.out.trans bl7
  have O7 := lH (v_of_own o7)
  clear o7 bl7
  refine hK.out _ _ (HSS.out _ X7.out) fun hHeld => ?_
  clear hK
  refine rD 8 rfl fun K9_ hK => ?_
  go_simp
  refine hK.out _ _ (HSS.out _ X7.out) fun hHeld => ?_
  clear hK
  refine rD 9 rfl fun K9_ hK => ?_
  go_simp
  refine hK.out _ _ (HSS.out _ X7.out) fun hHeld => ?_
  clear hK
  refine wpAnyH_done (by kernel_rfl) ?_ _
  clear hHeld HSS
  go_wp2
  go_ret2
  have hz := hz7.out
  subst hz
  exact ⟨A7, c7, by rw [List.length_append]; rfl, O7.out.1, O7.out.2, K1.out.tr X7.out⟩
theorem put_v (A P Q : Option Addr) (c n a e b f : Nat) (l m : List Nd) (s err : Int) (t : T) (j : Nat) (w : World) (h : RdG w A l) (hc : l.length ≤ c ∧ c ≤ 9223372036854775807) (hl : SmV l) (hn : n = l.length) (hs : In64 s) (hT : TRm w P e Q f t) (hst : SmVt t) (ha : a = t.1.length) (hb : b = t.2.length) (hq : putC l s t = (m, err)) (hj : m.length = j) :
    Calls Try.prog 13 #[.slice A n c, .int .i64 s, .agg #[.slice P a e, .slice Q b f]] w (RetVe m err j w) := by
  have HR : Hid (∀ W, Kp w W → Calls Try.prog 27 #[.slice A n c, .int .i64 s, .agg #[.slice P a e, .slice Q b f]] W fun x w' => x = .returned (.int .i64 err) ∧ Kp W w') := fun W kW => refused_v A P Q c n a e b f l s err t W (h.kp kW) hc hn hs (hT.kp kW) ha hb (by unfold errC; rw [hq])
  have HC := fun W (kW : Kp w W) => copies_c A c n l W (h.kp kW) hn hl
  by_cases he : err = 0
  · subst he
    obtain ⟨_, _, _, _, _, _, rfl⟩ := put_ok' hq
    rw [List.length_append, List.length_singleton] at hj
    subst hj
    exact put_yes A P Q c n a e b f l s t w (by have := hl.1; omega) HR HC fun W kW => copied_v P Q a e b f t W (hT.r.kp kW) ha hb (by have := hst.1; omega) (by have := hst.2.1; omega)
  · have hm : m = l := put_err' hq he
    subst hm
    subst hj
    refine put_no A P Q c n a e b f m s err w ?_ HR fun W kW => (HC W kW).mono fun x w' ⟨A', c', h1, o, k⟩ => ⟨A', c', h1, v_of_own o.out, k⟩
    unfold putC at hq
    split at hq
    · injection hq with _ h2; exact .inl h2.symm
    · split at hq
      · injection hq with _ h2; exact .inr (.inl h2.symm)
      · split at hq
        · injection hq with _ h2; exact .inr (.inr (.inl h2.symm))
        · split at hq
          · injection hq with _ h2; exact .inr (.inr (.inr h2.symm))
          · injection hq with _ h2; exact absurd h2.symm he
end Cz
open Go.Proofs.Ytdcpekkkenckeaa.Cz
set_option linter.unusedVariables false
theorem chc : ChC where
  check A c n l b W h hc hl hn hb := check_v A c n l b W h hc hn hb
  newer A c n l s b W h hc hl hn hs hb := newer_v A c n l s b W h hc hn hb
  read A c n l s t b x y W h hc hl hn hs hq hx hy := read_v A c n l s t b x y W h hc hl hn hq hx hy
  put A P Q c n a e b f l m s err t j W h hc hl hn hs hT hst ha hb hq hj := put_v A P Q c n a e b f l m s err t j W h hc hl hn hs hT hst ha hb hq hj
  trim A c n j l m s W h hc hl hn hs hq hj := trim_v A c n j l m s W h hc hl hn hq hj
end Go.Proofs.Ytdcpekkkenckeaa
