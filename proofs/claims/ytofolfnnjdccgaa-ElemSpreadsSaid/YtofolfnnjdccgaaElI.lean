/- The document's Two of layer 4, its loop. -/
import Derived.Test.YtofolfnnjdccgaaElH
import Derived.Deep.CutRange
namespace Go.Proofs.Ytofolfnnjdccgaa
open Go.RowKit Go.Proofs.ShM Go.Proofs.FixM
set_option linter.unusedVariables false

set_option maxHeartbeats 8000000 in
theorem rtwo_ok {op : Int} (A B C D : Option Addr) (c d c' d' : Nat) (s xs g ys : List Int) (w : World) (hA : Rd w A s) (hB : Rd w B xs) (hC : Rd w C g) (hD : Rd w D ys) (hi : I64s xs) (hi2 : I64s ys) (hop : 10 ≤ op ∧ op ≤ 13) (ht : tokV s xs = true) (hu : tokV g ys = true) {j : List Int} (hj : joinV s g = (j, 0)) :
    Calls Try.prog 15 #[.int .i64 op, .agg #[.slice A s.length c, .slice B xs.length d], .agg #[.slice C g.length c', .slice D ys.length d']] w (RetT (twoV op s xs g ys) w) := by
  have hl := hA.len
  have hl2 := hC.len
  obtain ⟨e1, e2⟩ := join_spreads ht hu hj
  have HO : Hid (twoV op s xs g ys = if (two2 op (spreadL s xs j (sizeV j).toNat) (spreadL g ys j (sizeV j).toNat)).2 = 0 then (j, (two2 op (spreadL s xs j (sizeV j).toNat) (spreadL g ys j (sizeV j).toNat)).1, 0) else ([], [], (two2 op (spreadL s xs j (sizeV j).toNat) (spreadL g ys j (sizeV j).toNat)).2)) := by
    show twoV op s xs g ys = _
    unfold twoV
    rw [if_neg (by omega), if_neg (by simp [ht, hu]), hj]
    dsimp only
    rw [if_neg (by simp), e1, e2]
  have HC := Lib.hid (fun W (k : Kp w W) => rtcheck_any A B c d s xs W (hA.kp k) (hB.kp k))
  rw [ht] at HC
  have HD := Lib.hid (fun W (k : Kp w W) => rtcheck_any C D c' d' g ys W (hC.kp k) (hD.kp k))
  rw [hu] at HD
  have q1 : (decide (op < 10)) = false := by simp; omega
  have q2 : (decide (13 < op)) = false := by simp; omega
  have HJ := Lib.hid (fun W (k : Kp w W) => rjoin_any A C c c' s g W (hA.kp k) (hC.kp k))
  rw [hj] at HJ
  have i1 := spread_i64 (s := s) (g := j) hi (sizeV j).toNat
  have i2 := spread_i64 (s := g) (g := j) hi2 (sizeV j).toNat
  have l1 := spread_len s xs j (sizeV j).toNat
  have l2 := spread_len g ys j (sizeV j).toNat
  have hs := size_le j
  have HR := Lib.hid (And.intro (TR.mk hA hB) (TR.mk hC hD))
  unfold two2 at HO
  generalize hX : spreadL s xs j (sizeV j).toNat = X at HO e1 i1 l1
  generalize hY : spreadL g ys j (sizeV j).toNat = Y at HO e2 i2 l2
  have HN : Hid (∀ (k : Nat) (x y : Int), X[k]? = some x → Y[k]? = some y → ∀ W, Calls Try.prog 32 #[.int .i64 op, .int .i64 x, .int .i64 y] W fun e W' => e = .returned (.tuple #[.int .i64 (numsV op x y).1, .int .i64 (numsV op x y).2]) ∧ Kp W W') :=
    fun k x y hx hy W => rnumbers_any op x y (i1.get hx) (i2.get hy) W
  obtain ⟨f, hf⟩ : ∃ f : Int × Int → Int × Int, f = fun p => numsV op p.1 p.2 := ⟨_, rfl⟩
  have HN : Hid (∀ (k : Nat) (x y : Int), X[k]? = some x → Y[k]? = some y → ∀ W, Calls Try.prog 32 #[.int .i64 op, .int .i64 x, .int .i64 y] W fun e W' => e = .returned (.tuple #[.int .i64 (f (x, y)).1, .int .i64 (f (x, y)).2]) ∧ Kp W W') := by
    rw [hf]; exact HN
  have HER : Hid (∀ p, (f p).2 ≠ 0 → f p = (0, (f p).2)) := by rw [hf]; exact fun p h => nums_err h
  rw [← hf] at HO
  have HE := Lib.hid (And.intro e1 e2)
  have HLN : Hid (X.length = Y.length ∧ (X.zip Y).length = X.length) := by
    refine Lib.hid ⟨by rw [l1, l2], ?_⟩
    rw [List.length_zip, l1, l2, Nat.min_self]
  have hx64 : X.length ≤ 64 := by omega
  obtain ⟨r, hr⟩ : ∃ r, twoV op s xs g ys = r := ⟨_, rfl⟩
  rw [hr] at HO ⊢
  clear hX hY i1 i2 l1 l2 hf hA hB hC hD ht hu hop hj e1 e2 hi hi2 hr hs
  have TW0 := Lib.hid (Tw.mk_ w A s.length c B xs.length d C g.length c' D ys.length d')
  go_enter Try.func15, Try.ntmps15
  go_wp2_with fail
  refine (HC.out _ TW0.out.k).mono ?_; rintro e w2 ⟨rfl, k2⟩
  have TW := Lib.hid (TW0.out.tr k2)
  clear k2
  have b0 := TW.out.b.c0
  have b1 := TW.out.b.c1
  have b2 := TW.out.b.lt
  go_wp2_with fail
  refine (HD.out _ TW.out.k).mono ?_; rintro e w3 ⟨rfl, k3⟩
  have TW := Lib.hid (TW.out.tr k3)
  clear b0 b1 b2 k3
  have a0 := TW.out.a.c0
  have a1 := TW.out.a.c1
  have a2 := TW.out.a.lt
  have b0 := TW.out.b.c0
  have b1 := TW.out.b.c1
  have b2 := TW.out.b.lt
  go_wp2_with fail
  refine (HJ.out _ TW.out.k).mono ?_; rintro e w4 ⟨AJ, cJ, rfl, oJ, k4⟩
  have TW := Lib.hid (TW.out.tr k4)
  have OJ : Hid (Rd w4 AJ j) := oJ.rd
  clear a0 a1 a2 b0 b1 b2 k4 oJ
  have a0 := TW.out.a.c0
  have a1 := TW.out.a.c1
  have a2 := TW.out.a.lt
  go_wp2_with fail
  refine (rspread_u s xs j (HR.out.1.kp TW.out.k) OJ.out rfl rfl rfl HE.out.1 rfl rfl).mono ?_; rintro e w5 ⟨A5, c5, B5, d5, rfl, r5, k5⟩
  have TW := Lib.hid (TW.out.tr k5)
  have OJ := Lib.hid (OJ.out.kp k5)
  have R5 := Lib.hid r5
  clear a0 a1 a2 k5 r5
  have b0 := TW.out.b.c0
  have b1 := TW.out.b.c1
  have b2 := TW.out.b.lt
  go_wp2_with fail
  refine (rspread_u g ys j ((HR.out.2.kp TW.out.k).alloc_ _) (OJ.out.alloc_ _) rfl rfl rfl HE.out.2 rfl rfl).mono ?_; rintro e w6 ⟨A6, c6, B6, d6, rfl, r6, k6⟩
  have BX : Hid (Bk w6 w5.heap.size A5 j.length c5 B5 X.length d5) := (Bk.new rfl).kp k6
  have TW := Lib.hid ((TW.out.al _).tr k6)
  have OJ := Lib.hid ((OJ.out.alloc_ _).kp k6)
  have R5 := Lib.hid ((R5.out.alloc_ _).kp k6)
  have R6 := Lib.hid r6
  clear b0 b1 b2 k6 r6
  have hkx : Kp w6 (w6.alloc (.cells #[.slice A6 j.length c6, .slice B6 Y.length d6] 24)) := Kp.alloc_ _ _
  have BY : Hid (Bk (w6.alloc (.cells #[.slice A6 j.length c6, .slice B6 Y.length d6] 24)) w6.heap.size A6 j.length c6 B6 Y.length d6) := Bk.new rfl
  obtain ⟨W0, HW0⟩ : ∃ W0, Hid (W0 = w6.alloc (.cells #[.slice A6 j.length c6, .slice B6 Y.length d6] 24)) := ⟨_, rfl⟩
  rw [← HW0.out] at hkx BY
  have BX := Lib.hid (BX.out.kp hkx)
  have TW := Lib.hid (TW.out.tr hkx)
  have OJ := Lib.hid (OJ.out.kp hkx)
  have R5 := Lib.hid (R5.out.kp hkx)
  have R6 := Lib.hid (R6.out.kp hkx)
  clear hkx
  go_wp2
  rw [← HW0.out]
  go_loopw [16, 17] (fun v i wr => ∃ (k : Nat) (zs : List Int) (Az : Option Addr) (cz : Nat), i = .int .i64 k ∧ v = .slice Az zs.length cz ∧ Hid (Ea f (X.zip Y) k zs) ∧ Hid (Own W0.heap.size wr (.slice Az zs.length cz) zs) ∧ Hid (Kp W0 wr)) (fun _ i _ => X.length - (intOf i).toNat)
  case atStart => exact ⟨0, [], none, 0, rfl, rfl, ea_start, Own.nil_ _ _, Kp.refl _⟩
  case round =>
    obtain ⟨k, zs, Az, cz, rfl, rfl, hr, hown, hk0⟩ := hrel
    have HZL := Lib.hid (ea_len hr.out)
    have hkN : k ≤ X.length := by have := hr.out.1; rw [HLN.out.2] at this; exact this
    have BX := Lib.hid (BX.out.kp hk0.out)
    have BY := Lib.hid (BY.out.kp hk0.out)
    have TW := Lib.hid (TW.out.tr hk0.out)
    have x1 := BX.out.c1
    by_cases hlt : k < X.length
    · have hlt2 : k < Y.length := by rw [← HLN.out.1]; exact hlt
      obtain ⟨ad, x, rfl, hbl, hx, hc⟩ := (R5.out.kp hk0.out).d.at_ hlt
      obtain ⟨ae, y, rfl, hbl2, hy, hc2⟩ := (R6.out.kp hk0.out).d.at_ hlt2
      have y1 := BY.out.c1
      have HQ := Lib.hid (HN.out k x y hx hy)
      have HX : Hid ((X.zip Y)[k]? = some (x, y)) := List.getElem?_zip_eq_some.2 ⟨hx, hy⟩
      have j1 : (0 : Int) ≤ (k : Int) := by omega
      have j2 : (k : Int) < (X.length : Int) := by omega
      have j3 : (k : Int) < (Y.length : Int) := by omega
      have HL : Hid (w5.heap.size < wr.heap.size ∧ w6.heap.size < wr.heap.size) := ⟨BX.out.lt, BY.out.lt⟩
      have HKQ : Hid (∀ V, Kp wr.drew V → Hid (Kp wr V) ∧ V.cell? ⟨w5.heap.size, 1, none⟩ = some (.slice (some ad) X.length d5) ∧ V.cell? ⟨w6.heap.size, 1, none⟩ = some (.slice (some ae) Y.length d6) ∧ V.cell? (ad.add k) = some (.int .i64 x) ∧ V.cell? (ae.add k) = some (.int .i64 y)) := by
        intro V kV
        have k2 : Kp wr V := undrew kV
        exact ⟨k2, (BX.out.kp k2).c1, (BY.out.kp k2).c1, (k2.cell (by rw [block_of_add]; omega)).trans hc, (k2.cell (by rw [block_of_add]; omega)).trans hc2⟩
      clear hx hy
      go_wp2
      by_cases he : (f (x, y)).2 = 0
      · have HFX : Hid (f (x, y) = ((f (x, y)).1, 0)) := Prod.ext rfl he
        rw [he] at HQ
        generalize (f (x, y)).1 = z at HQ HFX
        clear he
        go_cut [18, 19] from 62 to 91 (fun n f wx => n = .int .i64 z ∧ f = .int .i64 0 ∧ Hid (Kp wr wx))
        case first =>
          go_region_held3 (fun V => V.cell? ⟨w5.heap.size, 1, none⟩ = some (.slice (some ad) X.length d5) ∧ V.cell? ⟨w6.heap.size, 1, none⟩ = some (.slice (some ae) Y.length d6) ∧ V.cell? (ad.add k) = some (.int .i64 x) ∧ V.cell? (ae.add k) = some (.int .i64 y)) (first | exact ⟨x1, y1, hc, hc2⟩ | exact ⟨q3, q4, q5, q6⟩)
            (first | (go_at_call 32; refine (HQ.out _).mono ?_; rintro e w7 ⟨rfl, k7⟩; obtain ⟨K7, q3, q4, q5, q6⟩ := HKQ.out _ k7; clear k7))
          all_goals go_wp2
          all_goals go_meet
          all_goals exact ⟨rfl, rfl, K7⟩
        case rest =>
          obtain ⟨rfl, rfl, K7⟩ := hcut
          have HW := Lib.hid (hown.out.kp K7.out)
          have HB7 := Lib.hid (hk0.out.tr K7.out)
          have HBs : Hid (W0.heap.size ≤ wc.heap.size) := HB7.out.size
          go_wp2_with (at_builtin; refine wpList_app rfl (.tmp 88) (.tmp 90) rfl _ zs rfl (HW.out.kp (Kp.alloc_ _ _)) _ _ [z] _ rfl rfl (Rd.one _ _ _) (by have := HZL.out; simp; omega) (by have := HBs.out; simp; omega) ?_; intro zs2 A2 c2 w8 HZ hown2 hb2; have HB := Lib.hid hb2; have HO2 := Lib.hid hown2; clear hown2 hb2)
          go_roundw
          case rel => exact ⟨k + 1, zs2, A2, c2, by go_num, rfl, ea_step hr.out HX.out HFX.out HZ.out, HO2.out, (HB7.out.al _).trans HB.out⟩
          case measure => simp [intOf]; omega
      · have HEB := Lib.hid (ea_bad hr.out HX.out (HER.out (x, y) he) he)
        have HF : Hid (r = ([], [], (f (x, y)).2)) := by
          show r = _
          rw [HO.out, HEB.out, if_neg he]
        have he' : ((f (x, y)).2 != 0) = true := by simpa using he
        generalize (f (x, y)).2 = er at HQ HF he'
        generalize (f (x, y)).1 = z at HQ
        clear he HEB
        go_cut [18, 19] from 62 to 91 (fun n f wx => n = .int .i64 z ∧ f = .int .i64 er ∧ Hid (Kp wr wx))
        case first =>
          go_region_held3 (fun V => V.cell? ⟨w5.heap.size, 1, none⟩ = some (.slice (some ad) X.length d5) ∧ V.cell? ⟨w6.heap.size, 1, none⟩ = some (.slice (some ae) Y.length d6) ∧ V.cell? (ad.add k) = some (.int .i64 x) ∧ V.cell? (ae.add k) = some (.int .i64 y)) (first | exact ⟨x1, y1, hc, hc2⟩ | exact ⟨q3, q4, q5, q6⟩)
            (first | (go_at_call 32; refine (HQ.out _).mono ?_; rintro e w7 ⟨rfl, k7⟩; obtain ⟨K7, q3, q4, q5, q6⟩ := HKQ.out _ k7; clear k7))
          all_goals go_wp2
          all_goals go_meet
          all_goals exact ⟨rfl, rfl, K7⟩
        case rest =>
          obtain ⟨rfl, rfl, K7⟩ := hcut
          have TW := Lib.hid (TW.out.tr K7.out)
          have o0 := TW.out.o.c0
          have o1 := TW.out.o.c1
          have p0 := TW.out.o.f0 0
          have p1 := TW.out.o.f0 1
          go_wp2
          refine bodyPost_ret (v := .tuple #[.agg #[.slice none 0 0, .slice none 0 0], .int .i64 er]) (by simp [results, Try.results15, go_sem, o0, o1]; try rfl) rfl ?_
          exact RetT.err HF.out (TW.out.o_end _ _)
    · have HEE := Lib.hid (ea_end hr.out (by rw [HLN.out.2]; exact hlt))
      have HF : Hid (r = (j, zs, 0)) := by
        show r = _
        rw [HO.out, HEE.out, if_pos rfl]
      have o0 := TW.out.o.c0
      have o1 := TW.out.o.c1
      have p0 := TW.out.o.f0 0
      have p1 := TW.out.o.f0 1
      go_wp2
      refine bodyPost_ret (v := .tuple #[.agg #[.slice AJ j.length cJ, .slice Az zs.length cz], .int .i64 0]) (by simp [results, Try.results15, go_sem, o0, o1]; try rfl) rfl ?_
      exact RetT.put_ HF.out (Nat.le_succ_of_le (Nat.le_succ _)) (OJ.out.kp hk0.out) hown.out.sl.rd TW.out.o TW.out.k

theorem rtwo_any (op : Int) (A B C D : Option Addr) (c d c' d' : Nat) (s xs g ys : List Int) (w : World) (hA : Rd w A s) (hB : Rd w B xs) (hC : Rd w C g) (hD : Rd w D ys) (hi : I64s xs) (hi2 : I64s ys) :
    Calls Try.prog 15 #[.int .i64 op, .agg #[.slice A s.length c, .slice B xs.length d], .agg #[.slice C g.length c', .slice D ys.length d']] w (RetT (twoV op s xs g ys) w) := by
  by_cases hop : op < 10 ∨ 13 < op
  · exact rtwo_op A B C D c d c' d' s xs g ys w hop
  · cases ht : tokV s xs with
    | false => exact rtwo_tok A B C D c d c' d' s xs g ys w hA hB hC hD (by omega) ht rfl (.inl rfl)
    | true =>
      cases hu : tokV g ys with
      | false => exact rtwo_tok A B C D c d c' d' s xs g ys w hA hB hC hD (by omega) ht hu (.inr rfl)
      | true =>
        rcases join_cases s g with ⟨j, hj, _⟩ | hj
        · exact rtwo_ok A B C D c d c' d' s xs g ys w hA hB hC hD hi hi2 (by omega) ht hu hj
        · exact rtwo_join A B C D c d c' d' s xs g ys w hA hB hC hD (by omega) ht hu hj
end Go.Proofs.Ytofolfnnjdccgaa
