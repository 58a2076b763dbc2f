/- The document's Sum and Max of layer 6 (fullerref06). -/
import Derived.Test.YtpglchimghnpeaaRdB
namespace Go.Proofs.Ytpglchimghnpeaa
open Go.RowKit Go.Proofs.ShM Go.Proofs.FixM
set_option linter.unusedVariables false

theorem side_err {s xs : List Int} {axis : Int} (h : sideV s xs axis ≠ 0) (f : Int → Int → Int × Int) (x0 : Int) : togV f x0 s xs axis = ([], [], sideV s xs axis) := by
  unfold sideV togV at *
  by_cases h1 : tokV s xs = false
  · rw [if_pos h1, if_pos h1]
  · rw [if_neg h1] at h ⊢
    rw [if_neg h1]
    by_cases h2 : axis < 0 ∨ (s.length : Int) ≤ axis
    · rw [if_pos h2, if_pos h2]
    · rw [if_neg h2] at h; exact absurd rfl h
theorem side_ok {s xs : List Int} {axis : Int} (h : sideV s xs axis = 0) : tokV s xs = true ∧ ∃ a : Nat, axis = (a : Int) ∧ a < s.length := by
  unfold sideV at h
  by_cases h1 : tokV s xs = false
  · rw [if_pos h1] at h; cases h
  · rw [if_neg h1] at h
    by_cases h2 : axis < 0 ∨ (s.length : Int) ≤ axis
    · rw [if_pos h2] at h; cases h
    · exact ⟨by simpa using h1, axis.toNat, by omega, by omega⟩
theorem ea_grow {f : Nat → Int × Int} {N k : Nat} {zs ys : List Int} {y : Int} (h : Ea f (List.range N) k zs) (hk : k < N) (hy : f k = (y, 0)) (e : ys = zs ++ [y]) : Ea f (List.range N) (k + 1) ys := ea_step h (List.getElem?_range hk) hy e

set_option maxHeartbeats 4000000 in
theorem rsum_side (A B : Option Addr) (c d : Nat) (s xs : List Int) (axis : Int) (w : World) (hA : Sl w A c s) (hB : Rd w B xs) (h : sideV s xs axis ≠ 0) :
    Calls Try.prog 9 #[.agg #[.slice A s.length c, .slice B xs.length d], .int .i64 axis] w (RetT (sumV s xs axis) w) := by
  have F0 := Lib.hid (Fr.mk_ w A s.length c B xs.length d 24)
  have HS := Lib.hid (fun W (k : Kp w W) => rside_any A B c d s xs axis W (hA.rd.kp k) (hB.kp k))
  have HF : Hid (sumV s xs axis = ([], [], sideV s xs axis)) := side_err h addV 0
  generalize sideV s xs axis = er at HS HF h
  have he : (er != 0) = true := by simpa using h
  clear hA hB h
  go_enter Try.func9, Try.ntmps9
  go_wp2_with fail
  refine (HS.out _ F0.out.kp).mono ?_; rintro e0 w1 ⟨rfl, k1⟩
  have F1 := Lib.hid (F0.out.tr k1)
  clear k1
  obtain ⟨_, b0, b1, r0, r1, f0, f1, _⟩ := F1.out
  go_wp2
  refine bodyPost_ret (v := .tuple #[.agg #[.slice none 0 0, .slice none 0 0], .int .i64 er]) (by simp [results, Try.results9, go_sem, r0, r1]; try rfl) rfl ?_
  exact RetT.err HF.out (F1.out.end_ _ _)

set_option maxHeartbeats 4000000 in
theorem rmax_side (A B : Option Addr) (c d : Nat) (s xs : List Int) (axis : Int) (w : World) (hA : Sl w A c s) (hB : Rd w B xs) (h : sideV s xs axis ≠ 0) :
    Calls Try.prog 14 #[.agg #[.slice A s.length c, .slice B xs.length d], .int .i64 axis] w (RetT (maxV s xs axis) w) := by
  have F0 := Lib.hid (Fr.mk_ w A s.length c B xs.length d 24)
  have HS := Lib.hid (fun W (k : Kp w W) => rside_any A B c d s xs axis W (hA.rd.kp k) (hB.kp k))
  have HF : Hid (maxV s xs axis = ([], [], sideV s xs axis)) := side_err h greatV _
  generalize sideV s xs axis = er at HS HF h
  have he : (er != 0) = true := by simpa using h
  clear hA hB h
  go_enter Try.func14, Try.ntmps14
  go_wp2_with fail
  refine (HS.out _ F0.out.kp).mono ?_; rintro e0 w1 ⟨rfl, k1⟩
  have F1 := Lib.hid (F0.out.tr k1)
  clear k1
  obtain ⟨_, b0, b1, r0, r1, f0, f1, _⟩ := F1.out
  go_wp2
  refine bodyPost_ret (v := .tuple #[.agg #[.slice none 0 0, .slice none 0 0], .int .i64 er]) (by simp [results, Try.results14, go_sem, r0, r1]; try rfl) rfl ?_
  exact RetT.err HF.out (F1.out.end_ _ _)

/-- What stands at the loops of the document's Sum, Max: the tensor's box, the answer's, the shape's own list, the box that grows. -/
structure Rg (w : World) (A : Option Addr) (n c : Nat) (B : Option Addr) (m d : Nat) (W : World) : Prop where
  kp : Kp w W
  t : Bk W w.heap.size A n c B m d
  o : Bk W (w.heap.size + 1) none 0 0 none 0 0
theorem Rg.tr {w W W' : World} {A B : Option Addr} {n c m d : Nat} (h : Rg w A n c B m d W) (k : Kp W W') : Rg w A n c B m d W' := ⟨h.kp.tr k, h.t.kp k, h.o.kp k⟩
theorem Rg.mk_ (w : World) (A : Option Addr) (n c : Nat) (B : Option Addr) (m d : Nat) : Rg w A n c B m d ((w.alloc (.cells #[.slice A n c, .slice B m d] 24)).alloc (.cells #[.slice none 0 0, .slice none 0 0] 24)) :=
  ⟨(Kp.alloc_ _ _).al _, (Bk.new rfl).alloc_ _, Bk.new (World.size_alloc _ _).symm⟩
theorem Rg.end_ {w W : World} {A B : Option Addr} {n c m d : Nat} (h : Rg w A n c B m d W) (x y : Value) : Kp w ((W.setCell ⟨w.heap.size + 1, 0, none⟩ x).setCell ⟨w.heap.size + 1, 1, none⟩ y) :=
  (h.kp.setCell (p := ⟨w.heap.size + 1, 0, none⟩) (Nat.le_succ _) x).setCell (p := ⟨w.heap.size + 1, 1, none⟩) (Nat.le_succ _) y

set_option maxHeartbeats 8000000 in
theorem rsum_ok (A B : Option Addr) (c d : Nat) (s xs : List Int) (a : Nat) (w : World) (hA : Sl w A c s) (hB : Rd w B xs) (hi : I64s xs) (ht : tokV s xs = true) (ha : a < s.length) :
    Calls Try.prog 9 #[.agg #[.slice A s.length c, .slice B xs.length d], .int .i64 (a : Int)] w (RetT (sumV s xs a) w) := by
  obtain ⟨ho, hxl⟩ := tok_iff.1 ht
  have hs3 := (ok_iff.1 ho).1
  have hsd := side_pos (ok_all ho) ha
  have hoe := ok_erase ho ha
  have hpe := ok_prod hoe
  have hsz := size_ok hoe
  have hel := List.length_eraseIdx_of_lt ha
  have F0 := Lib.hid (Rg.mk_ w A s.length c B xs.length d)
  have HS : Hid (∀ W, Kp w W → Calls Try.prog 25 #[.agg #[.slice A s.length c, .slice B xs.length d], .int .i64 (a : Int)] W fun e w' => e = .returned (.int .i64 0) ∧ Kp W w') := fun W k => by
    have hh := rside_any A B c d s xs a W (hA.rd.kp k) (hB.kp k)
    rw [show sideV s xs a = 0 by unfold sideV; rw [if_neg (by simp [ht]), if_neg (by omega)]] at hh
    exact hh
  have HW : Hid (∀ W, Kp w W → Calls Try.prog 26 #[.slice A s.length c, .int .i64 (a : Int)] W (RetO (s.eraseIdx a) W)) := fun W k => rwithout_any A c a s W (hA.kp k) (by omega) ha
  obtain ⟨N, hNN⟩ : ∃ N : Nat, sizeV (s.eraseIdx a) = (N : Int) := ⟨(sizeV (s.eraseIdx a)).toNat, by omega⟩
  have HSZ : Hid (∀ W A1 c1, Rd W A1 (s.eraseIdx a) → Calls Try.prog 27 #[.slice A1 (s.eraseIdx a).length c1] W fun e w' => e = .returned (.int .i64 (N : Int)) ∧ W = w') := fun W A1 c1 r => by
    have hh := rsize_any A1 c1 (s.eraseIdx a) W r
    rw [hNN] at hh
    exact hh
  have HNU : Hid (∀ (q : Nat) W, q < N → Kp w W → Calls Try.prog 28 #[.agg #[.slice A s.length c, .slice B xs.length d], .int .i64 (a : Int), .int .i64 (q : Int)] W (RetO (lineL s xs a q) W)) := fun q W hq k => rnumbers_any A B c d a q s xs W (hA.kp k) (hB.kp k) ht ha (by omega)
  have HAD : Hid (∀ x y W, I64 x → I64 y → Calls Try.prog 29 #[.int .i64 x, .int .i64 y] W fun e w' => e = .returned (.tuple #[.int .i64 (addV x y).1, .int .i64 (addV x y).2]) ∧ W = w') := fun x y W hx hy => radd_any x y hx hy W
  have HI : Hid (∀ q y, y ∈ lineL s xs a q → I64 y) := fun q y hy => by
    unfold lineL at hy
    obtain ⟨i, _, rfl⟩ := List.mem_map.1 hy
    exact getD_i64 hi _
  have HRES : Hid (sumV s xs a = if (mapE (fun q : Nat => tkL addV 0 (lineL s xs a q)) (List.range N)).2 = 0 then (s.eraseIdx a, (mapE (fun q : Nat => tkL addV 0 (lineL s xs a q)) (List.range N)).1, 0) else ([], [], (mapE (fun q : Nat => tkL addV 0 (lineL s xs a q)) (List.range N)).2)) := by
    show sumV s xs a = _
    unfold sumV togV togL
    rw [if_neg (by simp [ht]), if_neg (by omega), Int.toNat_natCast, hNN, Int.toNat_natCast]
  have HLL : Hid (∀ q, (lineL s xs a q).length ≤ 16) := fun q => by rw [line_len]; omega
  have HN64 : Hid (N ≤ 64) := by show N ≤ 64; omega
  obtain ⟨S, hS⟩ : ∃ S, S = s.eraseIdx a := ⟨_, rfl⟩
  rw [← hS] at HW HSZ HRES
  generalize sumV s xs a = R at HRES ⊢
  clear hA hB ht ho hsd hi hxl hoe hpe hsz hNN hS hel
  go_enter Try.func9, Try.ntmps9
  go_wp2_with fail
  refine (HS.out _ F0.out.kp).mono ?_; rintro e0 w1 ⟨rfl, k1⟩
  have F1 := Lib.hid (F0.out.tr k1)
  clear k1
  have t0 := F1.out.t.c0
  have t1 := F1.out.t.c1
  go_wp2_with fail
  refine (HW.out _ F1.out.kp).mono ?_; rintro e0 w2 ⟨A2, c2, rfl, o2, k2⟩
  have F2 := Lib.hid (F1.out.tr k2)
  have R2 := Lib.hid o2.sl.rd
  have HG := Lib.hid (Gw.start w2 A2 S.length c2)
  clear k2 o2 t0 t1
  go_wp2
  go_loopw [8] (fun i wr => ∃ (k : Nat) (zs : List Int) (Az : Option Addr) (cz : Nat), i = .int .i64 k ∧ Hid (Ea (fun q : Nat => tkL addV 0 (lineL s xs a q)) (List.range N) k zs) ∧ Hid (Gw w2 A2 S.length c2 zs Az cz wr)) (fun i _ => N - (intOf i).toNat)
  case atStart => exact ⟨0, [], none, 0, rfl, ea_start, HG.out⟩
  case round =>
    obtain ⟨k, zs, Az, cz, rfl, hr, hg⟩ := hrel
    obtain ⟨wo, hwo⟩ : ∃ wo : World, wo = wr := ⟨_, rfl⟩
    subst hwo
    have HZL := Lib.hid (ea_len hr.out)
    have hN64 : N ≤ 64 := HN64.out
    have hkN : k ≤ N := by have := hr.out.1; rwa [List.length_range] at this
    have F3 := Lib.hid (F2.out.tr hg.out.k)
    have R3 := Lib.hid (R2.out.kp hg.out.k)
    have g0 := hg.out.b.c0
    have g1 := hg.out.b.c1
    go_wp2_with fail
    refine (HSZ.out _ _ _ R3.out).mono ?_; rintro e0 w3 ⟨rfl, rfl⟩
    by_cases hlt : k < N
    · have hlt' : (k : Int) < (N : Int) := by omega
      have t0 := F3.out.t.c0
      have t1 := F3.out.t.c1
      clear g0 g1
      go_wp2_with fail
      refine (HNU.out k _ hlt F3.out.kp).mono ?_; rintro e0 w4 ⟨A4, c4, rfl, o4, k4⟩
      have G4 := Lib.hid (hg.out.tr k4)
      have F4 := Lib.hid (F3.out.tr k4)
      have R4 := Lib.hid o4.sl.rd
      clear k4 o4 t0 t1
      have hL16 := HLL.out k
      have HT0 := Lib.hid (tk_start addV 0 (lineL s xs a k))
      have HIL := Lib.hid (HI.out k)
      obtain ⟨r, hrr⟩ : ∃ r, r = tkL addV 0 (lineL s xs a k) := ⟨_, rfl⟩
      rw [← hrr] at HT0
      have hrk : (List.range N)[k]? = some k := List.getElem?_range hlt
      have HOKS : Hid (∀ y ys, r = (y, 0) → ys = zs ++ [y] → Ea (fun q : Nat => tkL addV 0 (lineL s xs a q)) (List.range N) (k + 1) ys) := fun y ys e e2 => ea_grow hr.out hlt (by show tkL addV 0 (lineL s xs a k) = _; rw [← hrr, e]) e2
      have HBAD : Hid (∀ er, r = (0, er) → er ≠ 0 → R = ([], [], er)) := fun er e he => by
        have hh := ea_bad hr.out hrk (by show tkL addV 0 (lineL s xs a k) = (0, er); rw [← hrr, e]) he
        rw [HRES.out, hh, if_neg he]
      obtain ⟨L, hL⟩ : ∃ L, L = lineL s xs a k := ⟨_, rfl⟩
      rw [← hL] at HT0 HIL R4 hL16 ⊢
      clear hrk hrr hL
      go_wp2
      go_loopw [10, 11] (fun v i wx => ∃ (j : Nat) (y : Int), v = .int .i64 y ∧ i = .int .i64 j ∧ Hid (Tk addV L r j y) ∧ Hid (I64 y) ∧ wx = w4) (fun _ i _ => L.length - (intOf i).toNat)
      case atStart => exact ⟨0, 0, rfl, rfl, HT0.out, (by show I64 0; unfold I64; omega), rfl⟩
      case round =>
        obtain ⟨j, y, rfl, rfl, hT, hy, hw4⟩ := hrel
        obtain rfl : w4 = wr := hw4.symm
        by_cases hj : j < L.length
        · have hj' : (j : Int) < (L.length : Int) := by omega
          obtain ⟨bd, v, rfl, hbv, hv, hcv⟩ := R4.out.at_ hj
          have hv64 := HIL.out v (List.mem_of_getElem? hv)
          have HG := Lib.hid (fun W => HAD.out y v W hy.out hv64)
          have i1 : (0 : Int) ≤ (j : Int) := by omega
          by_cases he : (addV y v).2 = 0
          · have HST := Lib.hid (tk_step hT.out hv he)
            have HI2 : Hid (I64 (addV y v).1) := put_i64 _
            rw [he] at HG
            generalize (addV y v).1 = z at HST HI2 HG
            clear hv he hbv
            go_wp2_with fail
            refine (HG.out _).mono ?_; rintro e0 w5 ⟨rfl, rfl⟩
            go_wp2
            go_roundw
            case rel => exact ⟨j + 1, z, rfl, by go_num, HST.out, HI2.out, by first | trivial | rfl⟩
            case measure => simp [intOf]; omega
          · have HBD := Lib.hid (HBAD.out _ (tk_bad hT.out hv he) he)
            have he' : ((addV y v).2 != 0) = true := by simpa using he
            generalize (addV y v).2 = er at HG HBD he'
            generalize (addV y v).1 = z at HG
            have r0 := F4.out.o.c0
            have r1 := F4.out.o.c1
            have u0 := F4.out.o.f0 0
            have u1 := F4.out.o.f0 1
            clear hv he hbv
            go_wp2_with fail
            refine (HG.out _).mono ?_; rintro e0 w5 ⟨rfl, rfl⟩
            go_wp2
            refine bodyPost_ret (v := .tuple #[.agg #[.slice none 0 0, .slice none 0 0], .int .i64 er]) (by simp [results, Try.results9, go_sem, r0, r1]; try rfl) rfl ?_
            exact RetT.err HBD.out (F4.out.end_ _ _)
        · have hj' : ¬ (j : Int) < (L.length : Int) := by omega
          have HEN := Lib.hid (fun ys => HOKS.out y ys (tk_end hT.out hj))
          have g1 := G4.out.b.c1
          have g2 := G4.out.b.f0 1
          have HSZ2 := Lib.hid G4.out.sz
          go_wp2_with (at_builtin; refine wpList_app (B := w2.heap.size + 1) rfl (.tmp 58) (.tmp 60) rfl _ zs rfl (G4.out.o.kp (Kp.alloc_ _ _)) _ _ [y] _ rfl rfl (Rd.one _ _ _) (by have := HZL.out; simp; omega) (by have := HSZ2.out; simp; omega) ?_; intro zs2 A5 c5 w8 HZ hown2 hb2; have HB : Hid (Below (w2.heap.size + 1) w4 w8) := (((Below.refl _ _).alloc HSZ2.out _).trans hb2); have HO2 := Lib.hid hown2; have g3 := (HB.out.cell (p := ⟨w2.heap.size, 1, none⟩) (Nat.lt_succ_self _)).trans g1; have g4 := (HB.out.frozen (p := ⟨w2.heap.size, 1, none⟩) (Nat.lt_succ_self _)).trans g2; clear hown2 hb2)
          go_roundw
          case rel => exact ⟨k + 1, zs2, A5, c5, by go_num, HEN.out zs2 HZ.out, G4.out.put HO2.out HB.out⟩
          case measure => simp [intOf]; omega
    · have hlt' : ¬ (k : Int) < (N : Int) := by omega
      have HE := Lib.hid (ea_end hr.out (by rw [List.length_range]; exact hlt))
      have HFR : Hid (R = (S, zs, 0)) := by show R = _; rw [HRES.out, HE.out, if_pos rfl]
      have r0 := F3.out.o.c0
      have r1 := F3.out.o.c1
      have u0 := F3.out.o.f0 0
      have u1 := F3.out.o.f0 1
      go_wp2
      refine bodyPost_ret (v := .tuple #[.agg #[.slice A2 S.length c2, .slice Az zs.length cz], .int .i64 0]) (by simp [results, Try.results9, go_sem, r0, r1]; try rfl) rfl ?_
      exact RetT.of HFR.out (R3.out.past F3.out.o _ _) (hg.out.o.sl.rd.past F3.out.o _ _) (F3.out.end_ _ _)

theorem rsum_any (A B : Option Addr) (c d : Nat) (s xs : List Int) (axis : Int) (w : World) (hA : Sl w A c s) (hB : Rd w B xs) (hi : I64s xs) :
    Calls Try.prog 9 #[.agg #[.slice A s.length c, .slice B xs.length d], .int .i64 axis] w (RetT (sumV s xs axis) w) := by
  by_cases h : sideV s xs axis = 0
  · obtain ⟨ht, a, rfl, ha⟩ := side_ok h
    exact rsum_ok A B c d s xs a w hA hB hi ht ha
  · exact rsum_side A B c d s xs axis w hA hB h
end Go.Proofs.Ytpglchimghnpeaa
