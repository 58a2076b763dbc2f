/- The document's answers of layer 4 (fullerref04). -/
import Derived.Test.YtofolfnnjdccgaaElE
namespace Go.Proofs.Ytofolfnnjdccgaa
open Go.RowKit Go.Proofs.ShM Go.Proofs.FixM
set_option linter.unusedVariables false

theorem rnumber_any (op x : Int) (hx : I64 x) (W : World) : Calls Try.prog 28 #[.int .i64 op, .int .i64 x] W fun e W' => e = .returned (.tuple #[.int .i64 (numV op x).1, .int .i64 (numV op x).2]) ∧ Kp W W' := by
  have hmax : ∀ (W : World) (ts : Array TypeId) (t : TypeId), (Builtin.max_ ts t #[.int .i64 x, .int .i64 0]).run Try.prog W = .ok (.int .i64 (max x 0)) W := by
    intro W ts t
    by_cases h : 0 < x
    · have e : max x 0 = x := by omega
      rw [e]
      go_simp
      omega
    · have e : max x 0 = 0 := by omega
      rw [e]
      go_simp
      omega
  have HN := Lib.hid (Fx.rneg_any x hx W)
  have HP := Lib.hid (Fx.rpow_any x hx W)
  have HS := Lib.hid (Fx.rsqrt_any x hx W)
  by_cases h0 : op = 20
  · subst h0
    rw [show numV 20 x = subV 0 x from rfl]
    clear hmax hx
    go_enter Try.func28, Try.ntmps28
    go_wp2_with fail
    refine (Calls.mono HN.out) ?_; rintro e w1 ⟨rfl, rfl⟩
    go_wp2
    go_ret2
    exact ⟨rfl, Kp.refl _⟩
  by_cases h1 : op = 21
  · subst h1
    rw [show numV 21 x = (max x 0, 0) from rfl]
    clear hx h0 HN HP HS
    obtain ⟨y, hy⟩ : ∃ y, max x 0 = y := ⟨_, rfl⟩
    rw [hy] at hmax ⊢
    clear hy
    go_enter Try.func28, Try.ntmps28
    go_wp2
    go_ret2
    exact ⟨rfl, Kp.refl _⟩
  by_cases h2 : op = 22
  · subst h2
    rw [show numV 22 x = powV x from rfl]
    clear hmax hx h0 h1
    go_enter Try.func28, Try.ntmps28
    go_wp2_with fail
    refine (Calls.mono HP.out) ?_; rintro e w1 ⟨rfl, k1⟩
    have K1 : Hid (Kp W w1) := k1.below
    clear k1
    go_wp2
    go_ret2
    exact ⟨rfl, K1.out⟩
  by_cases h3 : op = 23
  · subst h3
    rw [show numV 23 x = sqrtV x from rfl]
    clear hmax hx h0 h1 h2
    go_enter Try.func28, Try.ntmps28
    go_wp2_with fail
    refine (Calls.mono HS.out) ?_; rintro e w1 ⟨rfl, k1⟩
    have K1 : Hid (Kp W w1) := k1.below
    clear k1
    go_wp2
    go_ret2
    exact ⟨rfl, K1.out⟩
  rw [show numV op x = (0, 1) by unfold numV; rw [if_neg h0, if_neg h1, if_neg h2, if_neg h3]]
  have g0 : (op == 20) = false := by simpa using h0
  have g1 : (op == 21) = false := by simpa using h1
  have g2 : (op == 22) = false := by simpa using h2
  have g3 : (op == 23) = false := by simpa using h3
  clear hmax hx h0 h1 h2 h3
  go_enter Try.func28, Try.ntmps28
  go_wp2
  go_ret2
  exact ⟨rfl, Kp.refl _⟩

theorem rnumbers_any (op x y : Int) (hx : I64 x) (hy : I64 y) (W : World) : Calls Try.prog 32 #[.int .i64 op, .int .i64 x, .int .i64 y] W fun e W' => e = .returned (.tuple #[.int .i64 (numsV op x y).1, .int .i64 (numsV op x y).2]) ∧ Kp W W' := by
  by_cases h0 : op = 10
  · subst h0
    rw [show numsV 10 x y = addV x y from rfl]
    have HC := Lib.hid (Fx.radd_any x y hx hy W)
    clear hx hy
    go_enter Try.func32, Try.ntmps32
    go_wp2_with fail
    refine (Calls.mono HC.out) ?_; rintro e w1 ⟨rfl, rfl⟩
    go_wp2
    go_ret2
    exact ⟨rfl, Kp.refl _⟩
  by_cases h1 : op = 11
  · subst h1
    rw [show numsV 11 x y = subV x y from rfl]
    have HC := Lib.hid (Fx.rsub_any x y hx hy W)
    clear hx hy
    go_enter Try.func32, Try.ntmps32
    go_wp2_with fail
    refine (Calls.mono HC.out) ?_; rintro e w1 ⟨rfl, rfl⟩
    go_wp2
    go_ret2
    exact ⟨rfl, Kp.refl _⟩
  by_cases h2 : op = 12
  · subst h2
    rw [show numsV 12 x y = mulV x y from rfl]
    have HC := Lib.hid (Fx.rmul_any x y hx hy W)
    clear hx hy
    go_enter Try.func32, Try.ntmps32
    go_wp2_with fail
    refine (Calls.mono HC.out) ?_; rintro e w1 ⟨rfl, k1⟩
    have K1 : Hid (Kp W w1) := k1.below
    clear k1
    go_wp2
    go_ret2
    exact ⟨rfl, K1.out⟩
  by_cases h3 : op = 13
  · subst h3
    rw [show numsV 13 x y = divV x y from rfl]
    have HC := Lib.hid (Fx.rdiv_any x y hx hy W)
    clear hx hy
    go_enter Try.func32, Try.ntmps32
    go_wp2_with fail
    refine (Calls.mono HC.out) ?_; rintro e w1 ⟨rfl, k1⟩
    have K1 : Hid (Kp W w1) := k1.below
    clear k1
    go_wp2
    go_ret2
    exact ⟨rfl, K1.out⟩
  rw [show numsV op x y = (0, 1) by unfold numsV; rw [if_neg h0, if_neg h1, if_neg h2, if_neg h3]]
  have g0 : (op == 10) = false := by simpa using h0
  have g1 : (op == 11) = false := by simpa using h1
  have g2 : (op == 12) = false := by simpa using h2
  have g3 : (op == 13) = false := by simpa using h3
  clear hx hy h0 h1 h2 h3
  go_enter Try.func32, Try.ntmps32
  go_wp2
  go_ret2
  exact ⟨rfl, Kp.refl _⟩

/-- A number's answer with an error is 0. -/
theorem put_err {n : Int} (h : (put n).2 ≠ 0) : put n = (0, (put n).2) := by
  rcases put_cases n with ⟨_, _, e⟩ | ⟨_, e⟩
  · rw [e] at h; exact absurd rfl h
  · rw [e]
theorem num_err {op x : Int} (h : (numV op x).2 ≠ 0) : numV op x = (0, (numV op x).2) := by
  unfold numV at *
  split at h
  · rename_i c; rw [if_pos c]; exact put_err h
  · rename_i c
    rw [if_neg c]
    split at h
    · exact absurd rfl h
    · rename_i c2
      rw [if_neg c2]
      split at h
      · rename_i c3
        rw [if_pos c3]
        unfold powV scaleV at *
        split at h
        · exact absurd rfl h
        · rename_i c4; rw [if_neg c4]; exact put_err h
      · rename_i c3
        rw [if_neg c3]
        split at h
        · rename_i c4
          rw [if_pos c4]
          unfold sqrtV at *
          split at h
          · rename_i c5; rw [if_pos c5]
          · exact absurd rfl h
        · rename_i c4; rw [if_neg c4]
theorem nums_err {op x y : Int} (h : (numsV op x y).2 ≠ 0) : numsV op x y = (0, (numsV op x y).2) := by
  unfold numsV at *
  by_cases c0 : op = 10
  · simp only [if_pos c0] at *; exact put_err h
  · simp only [if_neg c0] at *
    by_cases c1 : op = 11
    · simp only [if_pos c1] at *; exact put_err h
    · simp only [if_neg c1] at *
      by_cases c2 : op = 12
      · simp only [if_pos c2] at *; exact put_err h
      · simp only [if_neg c2] at *
        by_cases c3 : op = 13
        · simp only [if_pos c3] at *
          unfold divV at *
          by_cases c4 : y = 0
          · simp only [if_pos c4] at *
          · simp only [if_neg c4] at *; exact put_err h
        · simp only [if_neg c3] at *

set_option maxHeartbeats 4000000 in
theorem rone_ok {op : Int} (A B : Option Addr) (c d : Nat) (s xs : List Int) (w : World) (hA : Rd w A s) (hB : Rd w B xs) (hi : I64s xs) (hop : 20 ≤ op ∧ op ≤ 23) (ht : tokV s xs = true) :
    Calls Try.prog 13 #[.int .i64 op, .agg #[.slice A s.length c, .slice B xs.length d]] w (RetT (oneV op s xs) w) := by
  have hl := hA.len
  have hl2 := hB.len
  have F0 := Lib.hid (Fr.mk_ w A s.length c B xs.length d 24)
  have HT := Lib.hid (rtcheck_any A B c d s xs _ (hA.kp F0.out.kp) (hB.kp F0.out.kp))
  rw [ht] at HT
  have HO : Hid (oneV op s xs = if (mapE (numV op) xs).2 = 0 then (s, (mapE (numV op) xs).1, 0) else ([], [], (mapE (numV op) xs).2)) := by
    show oneV op s xs = _
    unfold oneV
    rw [if_neg (by omega), ht, if_neg (by simp)]
  have HM : Hid (∀ (k : Nat) (x : Int), xs[k]? = some x → ∀ W, Calls Try.prog 28 #[.int .i64 op, .int .i64 x] W fun e W' => e = .returned (.tuple #[.int .i64 (numV op x).1, .int .i64 (numV op x).2]) ∧ Kp W W') := fun k x hx W => rnumber_any op x (hi.get hx) W
  have HER : Hid (∀ x, (numV op x).2 ≠ 0 → numV op x = (0, (numV op x).2)) := fun x h => num_err h
  have hx64 : xs.length ≤ 64 := (tok_len ht).2.2.2
  have HR := Lib.hid (TR.mk hA hB)
  generalize hf : numV op = f at HO HM HER
  obtain ⟨r, hr⟩ : ∃ r, oneV op s xs = r := ⟨_, rfl⟩
  rw [hr] at HO ⊢
  have g1 : (decide (op < 20)) = false := by simpa using hop.1
  have g2 : (decide (23 < op)) = false := by simpa using hop.2
  clear hA hB hi hop ht hf hr
  go_enter Try.func13, Try.ntmps13
  go_wp2_with fail
  refine (Calls.mono (Hid.out HT)) ?_; rintro e w1 ⟨rfl, k1⟩
  have F1 := Lib.hid (F0.out.tr k1)
  clear k1
  go_wp2
  go_loopw [7, 8] (fun v i wr => ∃ (k : Nat) (zs : List Int) (Az : Option Addr) (cz : Nat), i = .int .i64 k ∧ v = .slice Az zs.length cz ∧ Hid (Ea f xs k zs) ∧ Hid (Own (w.heap.size + 2) wr (.slice Az zs.length cz) zs) ∧ Hid (Fr w A s.length c B xs.length d wr)) (fun _ i _ => xs.length - (intOf i).toNat)
  case atStart => exact ⟨0, [], none, 0, rfl, rfl, ea_start, Own.nil_ _ _, F1.out⟩
  case round =>
    obtain ⟨k, zs, Az, cz, rfl, rfl, hr, hown, hfr⟩ := hrel
    have HZL := Lib.hid (ea_len hr.out)
    have hkN := hr.out.1
    obtain ⟨_, b0, b1, r0, r1, f0, f1, _⟩ := hfr.out
    by_cases hlt : k < xs.length
    · obtain ⟨bd, x, rfl, hbl, hx, hc⟩ := HR.out.d.at_ hlt
      have c1 : wr.cell? (bd.add k) = some (.int .i64 x) := (hfr.out.kp.cell (by rw [block_of_add]; exact hbl)).trans hc
      have HQ := Lib.hid (HM.out k x hx)
      have HX := Lib.hid hx
      clear hx hc r0 r1 f0 f1 b0
      go_wp2_with fail
      by_cases he : (f x).2 = 0
      · have HFX : Hid (f x = ((f x).1, 0)) := Prod.ext rfl he
        rw [he] at HQ
        generalize (f x).1 = y at HQ HFX
        refine (HQ.out _).mono ?_; rintro e w2 ⟨rfl, k2⟩
        have HFR := Lib.hid (hfr.out.tr k2)
        have HW := Lib.hid (hown.out.kp k2)
        have HBs : Hid (w.heap.size + 2 ≤ w2.heap.size) := HFR.out.sz
        clear k2 b1 c1
        go_wp2_with (at_builtin; refine wpList_app rfl (.tmp 44) (.tmp 46) rfl _ zs rfl (HW.out.kp (Kp.alloc_ _ _)) _ _ [y] _ rfl rfl (Rd.one _ _ _) (by have := HZL.out; simp; omega) (by have := HBs.out; simp; omega) ?_; intro zs2 A2 c2 w3 HZ hown2 hb2; have HB := Lib.hid hb2; have HO2 := Lib.hid hown2; clear hown2 hb2)
        go_roundw
        case rel => exact ⟨k + 1, zs2, A2, c2, by go_num, rfl, ea_step hr.out HX.out HFX.out HZ.out, HO2.out, (HFR.out.tr (Kp.alloc_ _ _)).tb HB.out⟩
        case measure => simp [intOf]; omega
      · have HE := Lib.hid (ea_bad hr.out HX.out (HER.out x he) he)
        have HF : Hid (r = ([], [], (f x).2)) := by
          show r = _
          rw [HO.out, HE.out, if_neg he]
        have he' : ((f x).2 != 0) = true := by simpa using he
        generalize (f x).2 = er at HQ HF he'
        generalize (f x).1 = y at HQ
        clear he HE
        refine (HQ.out _).mono ?_; rintro e w2 ⟨rfl, k2⟩
        have HFR := Lib.hid (hfr.out.tr k2)
        clear k2 b1 c1
        obtain ⟨_, b0, b1, r0, r1, f0, f1, _⟩ := HFR.out
        go_wp2
        refine bodyPost_ret (v := .tuple #[.agg #[.slice none 0 0, .slice none 0 0], .int .i64 er]) (by simp [results, Try.results13, go_sem, r0, r1]; try rfl) rfl ?_
        exact RetT.err HF.out (HFR.out.end_ _ _)
    · have HE := Lib.hid (ea_end hr.out hlt)
      have HF : Hid (r = (s, zs, 0)) := by
        show r = _
        rw [HO.out, HE.out, if_pos rfl]
      go_wp2
      refine bodyPost_ret (v := .tuple #[.agg #[.slice A s.length c, .slice Az zs.length cz], .int .i64 0]) (by simp [results, Try.results13, go_sem, r0, r1]; try rfl) rfl ?_
      exact RetT.on HF.out rfl rfl (HR.out.s.kp (hfr.out.end_ _ _)) ((hown.out.put_ (p := ⟨w.heap.size + 1, 0, none⟩) (Nat.lt_succ_self _) _).put_ (p := ⟨w.heap.size + 1, 1, none⟩) (Nat.lt_succ_self _) _).sl.rd (hfr.out.end_ _ _)

set_option maxHeartbeats 2000000 in
theorem rone_any (op : Int) (A B : Option Addr) (c d : Nat) (s xs : List Int) (w : World) (hA : Rd w A s) (hB : Rd w B xs) (hi : I64s xs) :
    Calls Try.prog 13 #[.int .i64 op, .agg #[.slice A s.length c, .slice B xs.length d]] w (RetT (oneV op s xs) w) := by
  by_cases hop : op < 20 ∨ 23 < op
  · have HO : Hid (oneV op s xs = ([], [], 1)) := by show oneV op s xs = _; unfold oneV; rw [if_pos hop]
    have F0 := Lib.hid (Fr.mk_ w A s.length c B xs.length d 24)
    by_cases h1 : op < 20
    all_goals
      first
      | (have h2 : 23 < op := by omega)
      | skip
      clear hop hA hB hi
      go_enter Try.func13, Try.ntmps13
      go_wp2
      obtain ⟨_, b0, b1, r0, r1, f0, f1, _⟩ := F0.out
      refine bodyPost_ret (v := .tuple #[.agg #[.slice none 0 0, .slice none 0 0], .int .i64 1]) (by simp [results, Try.results13, go_sem]; try rfl) rfl ?_
      first
      | exact RetT.err HO.out (F0.out.end_ _ _)
      | exact RetT.err HO.out F0.out.kp
  · cases ht : tokV s xs with
    | true => exact rone_ok A B c d s xs w hA hB hi (by omega) ht
    | false =>
      have HO : Hid (oneV op s xs = ([], [], 30)) := by show oneV op s xs = _; unfold oneV; rw [if_neg hop, if_pos ht]
      have F0 := Lib.hid (Fr.mk_ w A s.length c B xs.length d 24)
      have HT := Lib.hid (rtcheck_any A B c d s xs _ (hA.kp F0.out.kp) (hB.kp F0.out.kp))
      rw [ht] at HT
      have g1 : (decide (op < 20)) = false := by simp; omega
      have g2 : (decide (23 < op)) = false := by simp; omega
      clear hop hA hB hi ht
      go_enter Try.func13, Try.ntmps13
      go_wp2_with fail
      refine (Calls.mono (Hid.out HT)) ?_; rintro e w1 ⟨rfl, k1⟩
      have F1 := Lib.hid (F0.out.tr k1)
      clear k1
      obtain ⟨_, b0, b1, r0, r1, f0, f1, _⟩ := F1.out
      go_wp2
      refine bodyPost_ret (v := .tuple #[.agg #[.slice none 0 0, .slice none 0 0], .int .i64 30]) (by simp [results, Try.results13, go_sem, r0, r1]; try rfl) rfl ?_
      exact RetT.err HO.out (F1.out.end_ _ _)
end Go.Proofs.Ytofolfnnjdccgaa
