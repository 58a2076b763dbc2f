/- The document's small calls of layer 6 (fullerref06): a list without a place, a number put in, whether there is such a side, the numbers of an index, where the greatest one is. -/
import Derived.Test.YtpglchimghnpeaaRdM
import Derived.Test.YtpglchimghnpeaaPvAll
namespace Go.Proofs.Ytpglchimghnpeaa
open Go.RowKit Go.Proofs.ShM Go.Proofs.FixM
set_option linter.unusedVariables false

theorem Rd.take {w : World} {A : Option Addr} {x : List Int} (h : Rd w A x) (k : Nat) : Rd w A (x.take k) :=
  ⟨by have := h.1; simp; omega, fun hp => by
    simp at hp
    obtain ⟨ad, e, hb, hc⟩ := h.2 (by omega)
    refine ⟨ad, e, hb, fun j u hu => hc j u ?_⟩
    rw [List.getElem?_take] at hu
    split at hu
    · exact hu
    · cases hu⟩

set_option maxHeartbeats 2000000 in
theorem rwithout_any (A : Option Addr) (c a : Nat) (l : List Int) (w : World) (h : Sl w A c l) (hl : l.length ≤ 1000) (ha : a < l.length) :
    Calls Try.prog 26 #[.slice A l.length c, .int .i64 (a : Int)] w (RetO (l.eraseIdx a) w) := by
  obtain ⟨k, hk⟩ : ∃ k : Nat, k = a + 1 := ⟨_, rfl⟩
  have hcl := h.le
  have hcc := h.cap
  have w1 : IntKind.i64.wrap ((a : Int) + 1) = (k : Int) := by rw [IntWalk.i64_in _ (by omega)]; omega
  have hkl : k ≤ l.length := by omega
  obtain ⟨A3, hA3⟩ : ∃ A3, A3 = cutA A c k := ⟨_, rfl⟩
  obtain ⟨c3, hc3⟩ : ∃ c3, c3 = c - k := ⟨_, rfl⟩
  obtain ⟨n3, hn3⟩ : ∃ n3, n3 = l.length - k := ⟨_, rfl⟩
  have hcut : ∀ W, (Instr.sliceAt 22 (.slice A l.length c) (some (.int .i64 (k : Int))) none none).run Try.prog W = .ok (.slice A3 n3 c3) W := fun W => by
    rw [hA3, hc3, hn3, run_cut W A l.length c k hkl]
  obtain ⟨ys, hy⟩ : ∃ ys, ys = l.drop k := ⟨_, rfl⟩
  obtain ⟨xs, hx⟩ : ∃ xs, xs = l.take a := ⟨_, rfl⟩
  have RY : Hid (Rd w A3 ys) := by show Rd w A3 ys; rw [hA3, hy]; exact h.rd.cut h.le
  have RX : Hid (Rd w A xs) := by show Rd w A xs; rw [hx]; exact h.rd.take a
  have HNX : Hid (a = xs.length) := by show a = _; rw [hx]; simp; omega
  have HNY : Hid (n3 = ys.length) := by show n3 = _; rw [hn3, hy]; simp
  have HE : Hid (l.eraseIdx a = xs ++ ys) := by show l.eraseIdx a = _; rw [hx, hy, hk]; exact List.eraseIdx_eq_take_drop_succ ..
  have HL : Hid (xs.length + ys.length ≤ 1000) := by show _ ≤ _; rw [hx, hy]; simp; omega
  have j1 : (0 : Int) ≤ (a : Int) := by omega
  have j2 : (a : Int) ≤ (c : Int) := by omega
  have j3 : (a : Int) ≤ (l.length : Int) := by omega
  have j4 : a ≤ c := by omega
  clear h hk hA3 hc3 hn3 hy hx
  go_enter Try.func26, Try.ntmps26
  go_wp2
  go_region_law (first
    | (refine step_app (B := w.heap.size) rfl (.tmp 5) (.tmp 8) rfl (.slice (some ⟨w.heap.size, 0, none⟩) 0 0) [] rfl (Own.zero w (Nat.le_refl _)).drew A c xs a rfl HNX.out (RX.out.alloc_ _) (by have := HL.out; simp; omega) (by simp) ?_; intro z1 A1 c1 w4 HZ1 o1 b1; have O1 := Lib.hid o1; have B1 : Hid (Kp w w4) := (Below.drew (Kp.alloc_ w _)).trans b1; clear o1 b1)
    | (refine step_app (B := w.heap.size) rfl (.tmp 9) (.tmp 13) rfl (.slice A1 z1.length c1) z1 rfl O1.out A3 c3 ys n3 rfl HNY.out (RY.out.kp B1.out) (by have := HL.out; rw [HZ1.out]; simp; omega) B1.out.size ?_; intro z2 A2 c2 w5 HZ2 o2 b2; have O2 := Lib.hid o2; have B2 : Hid (Kp w w5) := B1.out.trans b2; clear o2 b2))
  all_goals
    go_wp2
    go_ret
    have hz : z2 = l.eraseIdx a := by rw [HZ2.out, HZ1.out, HE.out]; simp
    rw [← hz]
    exact RetO.on rfl O2.out B2.out

/-- What append leaves, all but the row's block as it was. -/
theorem run_app2 {w : World} {B : Nat} {v : Value} {xs ys : List Int} {A : Option Addr} (ho : Own B w v xs) (c : Nat) (hr : Rd w A ys) (hs : xs.length + ys.length ≤ 1000000) (hB : B ≤ w.heap.size) (ty : TypeId) :
    ∃ zs A' c' w', zs = xs ++ ys ∧ (Builtin.append_ #[22, 22] ty #[v, .slice A ys.length c]).run Try.prog w = .ok (.slice A' zs.length c') w' ∧ Own B w' (.slice A' zs.length c') zs ∧ Below B w w' ∧ (∀ k, k < w.heap.size → some k ≠ v.ownBlock → w'.heap[k]? = w.heap[k]?) := by
  by_cases hy : ys = []
  · subst hy
    obtain ⟨A', c', rfl, _⟩ := ho.form
    cases A with
    | none => exact ⟨xs, A', c', w, by simp, app_nil ho c ty, ho, Below.refl _ _, fun _ _ _ => rfl⟩
    | some ad =>
      obtain ⟨i, hi, hz, h1, h2⟩ := info_parts int_info
      obtain ⟨v', w', hrun, hown, hg, _, _⟩ := run_append_own_at (P := Try.prog) w B 22 ty 3 i _ 1 8 Try.underlying22 hi hz h1 h2 rfl (by omega) _ _ _ ho ad 0 c [] rfl (by simp) (by simp) (by unfold maxLen; omega) (by omega) hB
      have hown' : Own B w' v' xs := by simpa [Own] using hown
      obtain ⟨A2, c2, rfl, _⟩ := hown'.form
      refine ⟨xs, A2, c2, w', by simp, hrun, hown', (Below.refl _ _).grown hg hB (fun k hk => ho.from_ hk), fun k hk hne => hg.block k hk hne⟩
  · obtain ⟨ad, rfl, hlt, hc⟩ := hr.2 (List.length_pos_iff.2 hy)
    obtain ⟨i, hi, hz, h1, h2⟩ := info_parts int_info
    obtain ⟨v', w', hrun, hown, hg, _, _⟩ := run_append_own_at (P := Try.prog) w B 22 ty 3 i _ 1 8 Try.underlying22 hi hz h1 h2 rfl (by omega) _ _ _ ho ad ys.length c (ys.map (Value.int .i64)) (by simp)
      (fun j u hu => by
        rw [List.getElem?_map, Option.map_eq_some_iff] at hu
        obtain ⟨x, hx, rfl⟩ := hu
        exact hc j x hx) (fun v hv => by obtain ⟨x, _, rfl⟩ := List.mem_map.1 hv; rfl) (by unfold maxLen; omega) (by omega) hB
    have hown' : Own B w' v' (xs ++ ys) := by simpa [Own] using hown
    obtain ⟨A2, c2, rfl, _⟩ := hown'.form
    refine ⟨xs ++ ys, A2, c2, w', rfl, hrun, hown', (Below.refl _ _).grown hg hB (fun k hk => ho.from_ hk), fun k hk hne => hg.block k hk hne⟩
theorem step_app2 {w : World} {B : Nat} {ops : Array Oper} {o : Oper} {a : Act} {K : Act → World → Prop} {Q : Exit → Act → World → Prop} {E : Prop} (hgd : o.guard = none) (s x : Operand)
    (hop : o.op = .call { callee := .builtin .append, args := #[s, x], argTypes := #[22, 22] })
    (v : Value) (xs : List Int) (hs : a.eval s = v) (ho : Own B w v xs) (A : Option Addr) (c : Nat) (ys : List Int) (n : Nat) (hx : a.eval x = .slice A n c) (hn : n = ys.length) (hr : Rd w A ys)
    (hl : xs.length + ys.length ≤ 1000000) (hB : B ≤ w.heap.size)
    (h : ∀ zs A' c' w', Hid (zs = xs ++ ys) → Own B w' (.slice A' zs.length c') zs → Below B w w' → (∀ k, k < w.heap.size → some k ≠ v.ownBlock → w'.heap[k]? = w.heap[k]?) → K (a.put o.dst (.slice A' zs.length c')) w') :
    if Region.wanted o (yielded ops a.tmps) = true then Oper.wp Try.prog o a w K Q else E := by
  have hw : Region.wanted o (yielded ops a.tmps) = true := by simp [Region.wanted, hgd]
  rw [if_pos hw]
  subst hn
  obtain ⟨zs, A', c', w', e, hrun, h1, h2, h3⟩ := run_app2 ho c hr hl hB o.type
  unfold Oper.wp execOp
  simp only [hop, resolve, invoke, builtin, Sem.run_bind, Sem.run_pure, Result.andThen_ok, List.map_toArray, List.map_cons, List.map_nil, hs, hx, hrun]
  exact h zs A' c' w' e h1 h2 h3
theorem rd_block {w : World} {b : Nat} {x : Int} (h : w.heap[b]? = some (.cells #[.int .i64 x] 3 (0, 0))) : Rd w (some ⟨b, 0, none⟩) [x] :=
  ⟨by simp, fun _ => ⟨_, rfl, (Array.getElem?_eq_some_iff.1 h).1, fun j u hu => by
    cases j with
    | zero =>
      injection hu with hu
      subst hu
      rw [Go.WideShapes.add_plain, Nat.zero_add]
      simp [World.cell?, h]
    | succ j => simp at hu⟩⟩

set_option maxHeartbeats 2000000 in
theorem rin_any (A : Option Addr) (c a : Nat) (l : List Int) (x : Int) (w : World) (h : Sl w A c l) (hl : l.length ≤ 1000) (ha : a ≤ l.length) :
    Calls Try.prog 42 #[.slice A l.length c, .int .i64 (a : Int), .int .i64 x] w (RetO (inL l a x) w) := by
  have hcl := h.le
  have hcc := h.cap
  obtain ⟨A3, hA3⟩ : ∃ A3, A3 = cutA A c a := ⟨_, rfl⟩
  obtain ⟨c3, hc3⟩ : ∃ c3, c3 = c - a := ⟨_, rfl⟩
  obtain ⟨n3, hn3⟩ : ∃ n3, n3 = l.length - a := ⟨_, rfl⟩
  have hcut : ∀ W, (Instr.sliceAt 22 (.slice A l.length c) (some (.int .i64 (a : Int))) none none).run Try.prog W = .ok (.slice A3 n3 c3) W := fun W => by
    rw [hA3, hc3, hn3, run_cut W A l.length c a ha]
  obtain ⟨ys, hy⟩ : ∃ ys, ys = l.drop a := ⟨_, rfl⟩
  obtain ⟨xs, hx⟩ : ∃ xs, xs = l.take a := ⟨_, rfl⟩
  have RY : Hid (Rd w A3 ys) := by show Rd w A3 ys; rw [hA3, hy]; exact h.rd.cut h.le
  have RX : Hid (Rd w A xs) := by show Rd w A xs; rw [hx]; exact h.rd.take a
  have HNX : Hid (a = xs.length) := by show a = _; rw [hx]; simp; omega
  have HNY : Hid (n3 = ys.length) := by show n3 = _; rw [hn3, hy]; simp
  have HE : Hid (inL l a x = xs ++ x :: ys) := by show inL l a x = _; rw [hx, hy]; rfl
  have HL : Hid (xs.length + ys.length ≤ 1000) := by show _ ≤ _; rw [hx, hy]; simp; omega
  have j1 : (0 : Int) ≤ (a : Int) := by omega
  have j2 : (a : Int) ≤ (c : Int) := by omega
  have j3 : (a : Int) ≤ (l.length : Int) := by omega
  have j4 : a ≤ c := by omega
  clear h hA3 hc3 hn3 hy hx ha
  have OA : Hid (Own w.heap.size (w.alloc (.cells #[] 3)).drew (.slice (some ⟨w.heap.size, 0, none⟩) 0 0) []) := (Own.zero w (Nat.le_refl _)).drew
  have OB : Hid (Own w.heap.size ((w.alloc (.cells #[] 3)).alloc (.cells #[.int .i64 x] 3)).drew (.slice (some ⟨w.heap.size, 0, none⟩) 0 0) []) := ((Own.zero w (Nat.le_refl _)).kp (Kp.alloc_ _ _)).drew
  have OC : Hid (Own w.heap.size ((w.alloc (.cells #[.int .i64 x] 3)).alloc (.cells #[] 3)).drew (.slice (some ⟨w.heap.size + 1, 0, none⟩) 0 0) []) := by
    have hh := Own.zero (B := w.heap.size) (w.alloc (.cells #[.int .i64 x] 3)) (by simp)
    rw [World.size_alloc] at hh
    exact hh.drew
  have XB : Hid (((w.alloc (.cells #[] 3)).alloc (.cells #[.int .i64 x] 3)).drew.heap[w.heap.size + 1]? = some (.cells #[.int .i64 x] 3 (0, 0))) := by
    have hh := World.alloc_heap_new (w.alloc (.cells #[] 3)) (.cells #[.int .i64 x] 3)
    rw [World.size_alloc] at hh
    exact hh
  have XC : Hid (((w.alloc (.cells #[.int .i64 x] 3)).alloc (.cells #[] 3)).drew.heap[w.heap.size]? = some (.cells #[.int .i64 x] 3 (0, 0))) := kp_heap (Kp.alloc_ _ _) (World.alloc_heap_new w (.cells #[.int .i64 x] 3))
  have KA : Hid (Kp w (w.alloc (.cells #[] 3)).drew) := Below.drew (Kp.alloc_ _ _)
  have KB : Hid (Kp w ((w.alloc (.cells #[] 3)).alloc (.cells #[.int .i64 x] 3)).drew) := Below.drew ((Kp.alloc_ _ _).al _)
  have KC : Hid (Kp w ((w.alloc (.cells #[.int .i64 x] 3)).alloc (.cells #[] 3)).drew) := Below.drew ((Kp.alloc_ _ _).al _)
  have L1 : Hid (([] : List Int).length + xs.length ≤ 1000000) := by have := HL.out; show _ ≤ _; simp; omega
  go_enter Try.func42, Try.ntmps42
  go_wp2
  go_region_law (first
    | (refine step_app2 rfl (.tmp 7) (.tmp 10) rfl _ [] rfl OA.out A c xs a rfl HNX.out (RX.out.kp KA.out) L1.out KA.out.size ?_; intro z1 A1 c1 w4 HZ1 o1 b1 g1; have O1 := Lib.hid o1; have B1 : Hid (Kp w w4) := KA.out.trans b1; have X1 : Hid True := trivial; clear o1 b1 g1)
    | (refine step_app2 rfl (.tmp 7) (.tmp 10) rfl _ [] rfl OB.out A c xs a rfl HNX.out (RX.out.kp KB.out) L1.out KB.out.size ?_; intro z1 A1 c1 w4 HZ1 o1 b1 g1; have O1 := Lib.hid o1; have B1 : Hid (Kp w w4) := KB.out.trans b1; have X1 : Hid (Rd w4 (some ⟨w.heap.size + 1, 0, none⟩) [x]) := rd_block ((g1 _ (Array.getElem?_eq_some_iff.1 XB.out).1 (by intro e; injection e with e; exact absurd e (Nat.succ_ne_self _))).trans XB.out); clear o1 b1 g1)
    | (refine step_app2 rfl (.tmp 7) (.tmp 10) rfl _ [] rfl OC.out A c xs a rfl HNX.out (RX.out.kp KC.out) L1.out KC.out.size ?_; intro z1 A1 c1 w4 HZ1 o1 b1 g1; have O1 := Lib.hid o1; have B1 : Hid (Kp w w4) := KC.out.trans b1; have X1 : Hid (Rd w4 (some ⟨w.heap.size, 0, none⟩) [x]) := rd_block ((g1 _ (Array.getElem?_eq_some_iff.1 XC.out).1 (by intro e; injection e with e; exact absurd e.symm (Nat.succ_ne_self _))).trans XC.out); clear o1 b1 g1)
    | (refine step_app2 (B := w.heap.size) rfl (.tmp 11) (.tmp 13) rfl (.slice A1 z1.length c1) z1 rfl O1.out _ _ [x] 1 rfl rfl X1.out (by have := HL.out; rw [HZ1.out]; simp; omega) B1.out.size ?_; intro z2 A2 c2 w5 HZ2 o2 b2 g2; have O2 := Lib.hid o2; have B2 : Hid (Kp w w5) := B1.out.trans b2; clear o2 b2 g2)
    | (refine step_app2 (B := w.heap.size) rfl (.tmp 11) (.tmp 13) rfl (.slice A1 z1.length c1) z1 rfl (O1.out.kp (Kp.alloc_ _ _)) _ _ [x] 1 rfl rfl (Rd.one _ _ _) (by have := HL.out; rw [HZ1.out]; simp; omega) (B1.out.al _).size ?_; intro z2 A2 c2 w5 HZ2 o2 b2 g2; have O2 := Lib.hid o2; have B2 : Hid (Kp w w5) := (B1.out.al _).trans b2; clear o2 b2 g2)
    | (refine step_app2 (B := w.heap.size) rfl (.tmp 14) (.tmp 17) rfl (.slice A2 z2.length c2) z2 rfl O2.out A3 c3 ys n3 rfl HNY.out (RY.out.kp B2.out) (by have := HL.out; rw [HZ2.out, HZ1.out]; simp; omega) B2.out.size ?_; intro z3 A4 c4 w6 HZ3 o3 b3 g3; have O3 := Lib.hid o3; have B3 : Hid (Kp w w6) := B2.out.trans b3; clear o3 b3 g3))
  all_goals
    go_wp2
    go_ret
    have hz : z3 = inL l a x := by rw [HZ3.out, HZ2.out, HZ1.out, HE.out]; simp
    rw [← hz]
    exact RetO.on rfl O3.out B3.out

def sideV (s xs : List Int) (axis : Int) : Int := if tokV s xs = false then 30 else if axis < 0 ∨ (s.length : Int) ≤ axis then 20 else 0
set_option maxHeartbeats 2000000 in
theorem rside_any (A B : Option Addr) (c d : Nat) (s xs : List Int) (axis : Int) (w : World) (hA : Rd w A s) (hB : Rd w B xs) :
    Calls Try.prog 25 #[.agg #[.slice A s.length c, .slice B xs.length d], .int .i64 axis] w fun e w' => e = .returned (.int .i64 (sideV s xs axis)) ∧ Kp w w' := by
  have hl := hA.len
  have hlb := hB.len
  have K0 : Hid (Kp w (w.alloc (.cells #[.slice A s.length c, .slice B xs.length d] 24))) := Kp.alloc_ _ _
  have T0 : Hid (Bk (w.alloc (.cells #[.slice A s.length c, .slice B xs.length d] 24)) w.heap.size A s.length c B xs.length d) := Bk.new rfl
  have HT := Lib.hid (rtcheck_any A B c d s xs _ (hA.kp K0.out) (hB.kp K0.out))
  clear hA hB
  cases ht : tokV s xs with
  | false =>
    rw [ht] at HT
    have HF : Hid (sideV s xs axis = 30) := by show sideV s xs axis = 30; unfold sideV; rw [if_pos ht]
    clear ht
    go_enter Try.func25, Try.ntmps25
    go_wp2_with fail
    refine (Calls.mono (Hid.out HT)) ?_; rintro e0 w1 ⟨rfl, k1⟩
    have K1 := Lib.hid (K0.out.tr k1)
    clear k1
    go_wp2
    go_ret
    exact ⟨ret_int HF.out.symm, K1.out⟩
  | true =>
    rw [ht] at HT
    by_cases hx : axis < 0 ∨ (s.length : Int) ≤ axis
    · have HF : Hid (sideV s xs axis = 20) := by show sideV s xs axis = 20; unfold sideV; rw [if_neg (by simp [ht]), if_pos hx]
      clear ht
      by_cases h0 : axis < 0
      · clear hx
        go_enter Try.func25, Try.ntmps25
        go_wp2_with fail
        refine (Calls.mono (Hid.out HT)) ?_; rintro e0 w1 ⟨rfl, k1⟩
        have K1 := Lib.hid (K0.out.tr k1)
        have T1 := Lib.hid (T0.out.kp k1)
        have c0 := T1.out.c0
        have c1 := T1.out.c1
        clear k1
        go_wp2
        go_ret
        exact ⟨ret_int HF.out.symm, K1.out⟩
      · have h1 : (s.length : Int) ≤ axis := by omega
        clear hx
        go_enter Try.func25, Try.ntmps25
        go_wp2_with fail
        refine (Calls.mono (Hid.out HT)) ?_; rintro e0 w1 ⟨rfl, k1⟩
        have K1 := Lib.hid (K0.out.tr k1)
        have T1 := Lib.hid (T0.out.kp k1)
        have c0 := T1.out.c0
        have c1 := T1.out.c1
        clear k1
        go_wp2
        go_ret
        exact ⟨ret_int HF.out.symm, K1.out⟩
    · have HF : Hid (sideV s xs axis = 0) := by show sideV s xs axis = 0; unfold sideV; rw [if_neg (by simp [ht]), if_neg hx]
      have h0 : ¬ axis < 0 := by omega
      have h1 : ¬ (s.length : Int) ≤ axis := by omega
      clear ht hx
      go_enter Try.func25, Try.ntmps25
      go_wp2_with fail
      refine (Calls.mono (Hid.out HT)) ?_; rintro e0 w1 ⟨rfl, k1⟩
      have K1 := Lib.hid (K0.out.tr k1)
      have T1 := Lib.hid (T0.out.kp k1)
      have c0 := T1.out.c0
      have c1 := T1.out.c1
      clear k1
      go_wp2
      go_ret
      exact ⟨ret_int HF.out.symm, K1.out⟩

set_option maxHeartbeats 2000000 in
theorem rmost_any (A : Option Addr) (c : Nat) (l : List Int) (w : World) (h : Rd w A l) (hn : l ≠ []) (hl : l.length ≤ 1000) :
    Calls Try.prog 33 #[.slice A l.length c] w fun e w' => e = .returned (.int .i64 (fmI l : Int)) ∧ ∃ n, w' = w.drewN n := by
  have HN := Lib.hid hn
  have H0 := Lib.hid (fmr_start l)
  clear hn
  go_enter Try.func33, Try.ntmps33
  go_wp2
  go_loopw [3, 4] (fun v i wr => ∃ (k m n : Nat), i = .int .i64 k ∧ v = .int .i64 m ∧ wr = w.drewN n ∧ Hid (Fm l k m)) (fun _ i _ => l.length - (intOf i).toNat)
  case atStart => exact ⟨0, 0, 0, rfl, rfl, rfl, H0.out⟩
  case round =>
    obtain ⟨k, m, n, rfl, rfl, rfl, hr⟩ := hrel
    by_cases hk : k < l.length
    · obtain ⟨ad, x, rfl, _, hx, hc⟩ := h.at_ hk
      obtain ⟨y, hy, hm, hmk⟩ := fmr_at hr.out hk
      obtain ⟨ad', y', e', _, hy', hcy⟩ := h.at_ hm
      obtain rfl : ad = ad' := by injection e'
      obtain rfl : y = y' := by rw [hy] at hy'; exact Option.some.inj hy'
      have i1 : (0 : Int) ≤ (k : Int) := by omega
      have i2 : (k : Int) < (l.length : Int) := by omega
      have i3 : (0 : Int) ≤ (m : Int) := by omega
      have i4 : (m : Int) < (l.length : Int) := by omega
      by_cases hlt : y < x
      · have HR := Lib.hid (fmr_up hr.out hx hy hlt)
        clear hx hy hy' e'
        go_wp2
        go_quiet (fail)
        go_wp2
        go_roundw
        case rel => exact ⟨k + 1, k, _, by go_num, rfl, by first | rfl | exact World.drewN_drewN _ _ _, HR.out⟩
        case measure => simp [intOf]; omega
      · have HR := Lib.hid (fmr_stay hr.out hx hy hlt)
        clear hx hy hy' e'
        go_wp2
        go_quiet (fail)
        go_wp2
        go_roundw
        case rel => exact ⟨k + 1, m, _, by go_num, rfl, by first | rfl | exact World.drewN_drewN _ _ _, HR.out⟩
        case measure => simp [intOf]; omega
    · have HF := Lib.hid (fmr_end hr.out hk HN.out)
      go_wp2
      go_ret
      exact ⟨ret_int (by rw [HF.out]), _, rfl⟩

set_option maxHeartbeats 4000000 in
theorem rnumbers_any (A B : Option Addr) (c d a q : Nat) (s xs : List Int) (w : World) (hA : Sl w A c s) (hB : Rd w B xs) (ht : tokV s xs = true) (ha : a < s.length) (hq : (q : Int) < sizeV (s.eraseIdx a)) :
    Calls Try.prog 28 #[.agg #[.slice A s.length c, .slice B xs.length d], .int .i64 (a : Int), .int .i64 (q : Int)] w (RetO (lineL s xs a q) w) := by
  have ho := (tok_iff.1 ht).1
  have hs3 : s.length ≤ 3 := (ok_iff.1 ho).1
  have hsd := side_pos (ok_all ho) ha
  obtain ⟨N, hN⟩ : ∃ N : Nat, s.getD a 0 = (N : Int) := ⟨(s.getD a 0).toNat, by omega⟩
  obtain ⟨ad, x, hAe, hbx, hx, hc⟩ := hA.rd.at_ ha
  have hxN : x = (N : Int) := by rw [← hN, List.getD, hx]; rfl
  subst hxN
  have hN16 : N ≤ 16 := by omega
  have hel := List.length_eraseIdx_of_lt ha
  have hdl := digs_len (s.eraseIdx a) (q : Int)
  have K0 : Hid (Kp w (w.alloc (.cells #[.slice A s.length c, .slice B xs.length d] 24))) := Kp.alloc_ _ _
  have T0 : Hid (Bk (w.alloc (.cells #[.slice A s.length c, .slice B xs.length d] 24)) w.heap.size A s.length c B xs.length d) := Bk.new rfl
  have HW : Hid (∀ W, Kp w W → Calls Try.prog 26 #[.slice A s.length c, .int .i64 (a : Int)] W (RetO (s.eraseIdx a) W)) := fun W k => rwithout_any A c a s W (hA.kp k) (by omega) ha
  have HI : Hid (∀ W A1 c1, Rd W A1 (s.eraseIdx a) → Calls Try.prog 36 #[.slice A1 (s.eraseIdx a).length c1, .int .i64 (q : Int)] W (RetL (digs (s.eraseIdx a) q) 0 W)) := by
    intro W A1 c1 r
    have hh := rindex_any A1 c1 (s.eraseIdx a) (q : Int) W r
    rw [index_yes (by omega) hq] at hh
    exact hh
  obtain ⟨X, hX⟩ : ∃ X, X = digs (s.eraseIdx a) (q : Int) := ⟨_, rfl⟩
  rw [← hX] at HI hdl
  have hXl : a ≤ X.length := by omega
  have hX3 : X.length ≤ 3 := by omega
  have HIN : Hid (∀ W A1 c1 (i : Nat), Sl W A1 c1 X → Calls Try.prog 42 #[.slice A1 X.length c1, .int .i64 (a : Int), .int .i64 (i : Int)] W (RetO (inL X a i) W)) := fun W A1 c1 i r => rin_any A1 c1 a X i W r (by omega) hXl
  have HAT : Hid (∀ W A1 c1 (i : Nat), i < N → Kp w W → Rd W A1 (inL X a i) → Calls Try.prog 44 #[.agg #[.slice A s.length c, .slice B xs.length d], .slice A1 (inL X a i).length c1] W (RetK ((lineL s xs a q).getD i 0) 0 W)) := by
    intro W A1 c1 i hi k r
    have hh := rat_any A B A1 c d c1 s xs (inL X a i) W (hA.rd.kp k) (hB.kp k) r
    rw [hX, at_put ht ha hq (by rw [hN]; omega), ← hX] at hh
    exact hh
  have HLN : Hid (∀ i, i < N → (lineL s xs a q)[i]? = some ((lineL s xs a q).getD i 0)) := fun i hi => by
    rw [List.getD, line_get (by rw [hN]; omega)]; rfl
  have HLL : Hid ((lineL s xs a q).length = N) := by show _ = N; rw [line_len, hN]; rfl
  generalize lineL s xs a q = L at HAT HLN HLL ⊢
  have hel3 : (s.eraseIdx a).length ≤ 3 := by omega
  obtain ⟨S, hS⟩ : ∃ S, S = s.eraseIdx a := ⟨_, rfl⟩
  rw [← hS] at HI HW
  have HC : Hid (∀ W, Kp w W → W.cell? (ad.add a) = some (.int .i64 (N : Int))) := fun W k => (k.cell (p := ad.add a) (by rw [block_of_add]; exact hbx)).trans hc
  have j1 : (0 : Int) ≤ (a : Int) := by omega
  have j2 : (a : Int) < (s.length : Int) := by omega
  subst hAe
  clear hA hB ht ho hsd hN hx hc hbx hel hdl hX hq hXl hel3 hS
  go_enter Try.func28, Try.ntmps28
  go_wp2_with fail
  refine (HW.out _ K0.out).mono ?_; rintro e0 w1 ⟨A1, c1, rfl, o1, k1⟩
  have K1 := Lib.hid (K0.out.tr k1)
  have T1 := Lib.hid (T0.out.kp k1)
  have R1 := Lib.hid o1.sl.rd
  clear k1 o1
  go_wp2_with fail
  refine (HI.out _ _ _ R1.out).mono ?_; rintro e0 w2 ⟨A2, c2, rfl, s2, k2⟩
  have K2 := Lib.hid (K1.out.tr k2)
  have T2 := Lib.hid (T1.out.kp k2)
  have SX := Lib.hid s2
  clear k2 s2
  go_wp2
  go_loopw [9, 10] (fun v i wr => ∃ (k : Nat) (zs : List Int) (Az : Option Addr) (cz : Nat), i = .int .i64 k ∧ v = .slice Az zs.length cz ∧ Hid (k ≤ N) ∧ Hid (zs = L.take k) ∧ Hid (Own w2.heap.size wr (.slice Az zs.length cz) zs) ∧ Hid (Kp w2 wr)) (fun _ i _ => N - (intOf i).toNat)
  case atStart => exact ⟨0, [], none, 0, rfl, rfl, Lib.hid (Nat.zero_le _), Lib.hid (by simp), Own.nil_ _ _, Kp.refl _⟩
  case round =>
    obtain ⟨k, zs, Az, cz, rfl, rfl, hkl, hz, hown, hk⟩ := hrel
    have hkl' : k ≤ N := hkl.out
    have HZL : Hid (zs.length = k) := by show zs.length = k; rw [hz.out, List.length_take, HLL.out]; omega
    have K3 := Lib.hid (K2.out.tr hk.out)
    have T3 := Lib.hid (T2.out.kp hk.out)
    have t0 := T3.out.c0
    have t1 := T3.out.c1
    have hc1 := HC.out _ K3.out
    have hbl : (ad.add a).block < wr.heap.size := by
      unfold World.cell? at hc1
      rcases Nat.lt_or_ge (ad.add a).block wr.heap.size with h | h
      · exact h
      · rw [Array.getElem?_eq_none h] at hc1; cases hc1
    by_cases hlt : k < N
    · have HQ := Lib.hid (fun W A1 c1 => HAT.out W A1 c1 k hlt)
      have HX := Lib.hid (HLN.out k hlt)
      have HI2 := Lib.hid (fun W A1 c1 r => HIN.out W A1 c1 k r)
      generalize L.getD k 0 = y at HQ HX
      generalize inL X a (k : Int) = Y at HQ HI2
      have hlt' : (k : Int) < (N : Int) := by omega
      have SX3 := Lib.hid (SX.out.kp hk.out)
      go_wp2
      go_cut [11, 12] from 22 to 43 (fun n f wx => n = .int .i64 y ∧ f = .int .i64 0 ∧ Hid (Kp wr wx))
      case first =>
        have hdr : Hid (Kp wr wr.drew) := Below.drew (Kp.refl wr)
        have hK3 : Hid (∀ V, Kp wr.drew V → Hid (Kp wr V) ∧ V.cell? ⟨w.heap.size, 0, none⟩ = some (.slice (some ad) s.length c) ∧ V.cell? ⟨w.heap.size, 1, none⟩ = some (.slice B xs.length d)) := fun V kV => ⟨undrawn kV, (T3.out.kp (undrawn kV)).c0, (T3.out.kp (undrawn kV)).c1⟩
        go_region_held3 (fun V => V.cell? ⟨w.heap.size, 0, none⟩ = some (.slice (some ad) s.length c) ∧ V.cell? ⟨w.heap.size, 1, none⟩ = some (.slice B xs.length d)) (first | exact ⟨t0, t1⟩ | exact ⟨q3, q4⟩ | exact ⟨q5, q6⟩)
          (first
          | (go_at_call 42; refine (HI2.out _ _ _ (SX3.out.kp hdr.out)).mono ?_; rintro e0 w4 ⟨A4, c4, rfl, o4, k4⟩; obtain ⟨K4, q3, q4⟩ := hK3.out _ k4; have R4 : Hid (Rd w4 A4 Y) := o4.sl.rd; clear k4 o4)
          | (go_at_call 44; refine (HQ.out _ _ _ (K3.out.tr K4.out) R4.out).mono ?_; rintro e0 w5 ⟨rfl, k5⟩; have K5 := Lib.hid (K4.out.tr k5); have q5 := (k5.cell (p := ⟨w.heap.size, 0, none⟩) (by have := T3.out.lt; have := K4.out.size; show w.heap.size < _; omega)).trans q3; have q6 := (k5.cell (p := ⟨w.heap.size, 1, none⟩) (by have := T3.out.lt; have := K4.out.size; show w.heap.size < _; omega)).trans q4; clear k5))
        all_goals go_wp2
        all_goals go_meet
        all_goals exact ⟨rfl, rfl, K5⟩
      case rest =>
        obtain ⟨rfl, rfl, K5⟩ := hcut
        have HBs : Hid (w2.heap.size ≤ wc.heap.size) := (hk.out.tr K5.out).size
        have HOW := Lib.hid (hown.out.kp K5.out)
        have K6 := Lib.hid (hk.out.tr K5.out)
        clear t0 t1 hc1
        go_wp2_with (at_builtin; refine wpList_app rfl (.tmp 40) (.tmp 42) rfl _ zs rfl (HOW.out.kp (Kp.alloc_ _ _)) _ _ [y] _ rfl rfl (Rd.one _ _ _) (by have := HZL.out; simp; omega) (by have := HBs.out; simp; omega) ?_; intro zs2 A5 c5 w8 HZ hown2 hb2; have HB := Lib.hid ((K6.out.al _).trans hb2); have HO2 := Lib.hid hown2; clear hown2 hb2)
        go_roundw
        case rel => exact ⟨k + 1, zs2, A5, c5, by go_num, rfl, Lib.hid (by omega), Lib.hid (by rw [HZ.out, hz.out, take_of HX.out]), HO2.out, HB.out⟩
        case measure => simp [intOf]; omega
    · have hlt' : ¬ (k : Int) < (N : Int) := by omega
      have hzL : Hid (zs = L) := by show zs = L; rw [hz.out, List.take_of_length_le (by rw [HLL.out]; omega)]
      go_wp2
      go_ret
      rw [← hzL.out]
      exact RetO.on rfl (hown.out.mono K2.out.size) K3.out
end Go.Proofs.Ytpglchimghnpeaa
