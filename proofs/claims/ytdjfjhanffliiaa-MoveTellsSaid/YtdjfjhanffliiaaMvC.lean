/- The document's moved of layer 5 (fullerref05). -/
import Derived.Test.YtdjfjhanffliiaaMvB
namespace Go.Proofs.Ytdjfjhanffliiaa
open Go.RowKit Go.Proofs.ShM
set_option linter.unusedVariables false

/-- The answer is a tensor. -/
def RetM (l k : List Int) (w : World) (e : Ending) (w' : World) : Prop := ∃ A c B d, e = .returned (.agg #[.slice A l.length c, .slice B k.length d]) ∧ Rd w' A l ∧ Rd w' B k ∧ Kp w w'

theorem digs_bnd {g : List Int} (h : okS g = true) {k : Nat} (hk : (k : Int) < sizeV g) {i : Nat} {x : Int} (hx : (digs g k)[i]? = some x) : 0 ≤ x ∧ x ≤ 16 := by
  have h1 := (digs_in (ok_all h) (p := (k : Int)) (by omega) (by rw [← size_ok h]; exact hk)).1
  clear hk
  generalize digs g k = t at h1 hx
  have hs := ok_all h
  clear h
  induction g generalizing t i with
  | nil =>
    cases t with
    | nil => simp at hx
    | cons a t => simp [inIdx] at h1
  | cons a g ih =>
    cases t with
    | nil => simp at hx
    | cons b t =>
      simp [inIdx] at h1
      simp only [List.all_cons, Bool.and_eq_true] at hs
      have ha := sideB_iff.1 hs.1
      cases i with
      | zero => simp at hx; subst hx; omega
      | succ i =>
        have hx' : t[i]? = some x := by simpa using hx
        first
        | exact ih t h1.2 hx' hs.2
        | exact ih t hx' h1.2 hs.2
        | exact ih _ hx' h1.2 hs.2
        | exact ih hs.2 _ h1.2 hx'
        | exact ih hx' _ h1.2 hs.2

set_option maxHeartbeats 4000000 in
theorem moved_any (A B C : Option Addr) (c d e : Nat) (s xs g : List Int) (axis : Nat) (more : Int) (w : World) (hA : Rd w A s) (hB : Rd w B xs) (hC : Rd w C g) (ht : tokV s xs = true) (ho : okS g = true) (hax : axis < g.length) (hm1 : -100 ≤ more) (hm2 : more ≤ 100) :
    Calls Try.prog 41 #[.agg #[.slice A s.length c, .slice B xs.length d], .slice C g.length e, .int .i64 (axis : Int), .int .i64 more] w (RetM g (movedL s xs g axis more) w) := by
  have hl := hB.len
  have hsz := size_le g
  obtain ⟨N, hN⟩ : ∃ N : Nat, sizeV g = (N : Int) := ⟨(sizeV g).toNat, by omega⟩
  have HSZ : Hid (∀ W, Kp w W → Calls Try.prog 30 #[.slice C g.length e] W fun e w' => e = .returned (.int .i64 (N : Int)) ∧ W = w') := fun W k => by
    have hh := rsize_any C e g W (hC.kp k)
    rw [hN] at hh
    exact hh
  have hN64 : N ≤ 64 := by omega
  have hg3 : g.length ≤ 3 := (ok_iff.1 ho).1
  have HI : Hid (∀ (k : Nat) W, Kp w W → k < N → Calls Try.prog 36 #[.slice C g.length e, .int .i64 (k : Int)] W (Ret (digs g k, 0) W)) := by
    intro k W kw hk
    have hh := rindex_any C e g (k : Int) W (hC.kp kw)
    rw [index_yes (by omega) (by omega)] at hh
    exact hh
  have HAT : Hid (∀ t W Az cz, Kp w W → Rd W Az t → Calls Try.prog 37 #[.agg #[.slice A s.length c, .slice B xs.length d], .slice Az t.length cz] W (RetK (atV s xs t).1 (atV s xs t).2 W)) := fun t W Az cz k hr => rat_any A B Az c d cz s xs t W (hA.kp k) (hB.kp k) hr
  have HTU : Hid (∀ t W Az cz (n : Int), t.length = g.length → Rd W Az t → Calls Try.prog 42 #[.slice Az t.length cz, .int .i64 (axis : Int), .int .i64 n] W (RetO (t.set axis n) W)) := fun t W Az cz n h hr => rset_any Az cz t axis n W hr (by omega) (by omega)
  have HR := Lib.hid hC
  have HBD : Hid (∀ (k : Nat) (x : Int), k < N → (digs g k)[axis]? = some x → 0 ≤ x ∧ x ≤ 16) := fun k x hk hx => digs_bnd ho (by omega) hx
  obtain ⟨w2, hw2⟩ : ∃ w2, w2 = (w.alloc (.cells #[.slice A s.length c, .slice B xs.length d] 24)).alloc (.cells #[.slice none 0 0, .slice none 0 0] 24) := ⟨_, rfl⟩
  have hz2 : w2.heap.size = w.heap.size + 1 + 1 := by rw [hw2]; simp
  have K : Hid (Kp w w2) := by show Kp w w2; rw [hw2]; exact (Kp.alloc_ _ _).al _
  have TB : Hid (Bk w2 w.heap.size A s.length c B xs.length d) := by show Bk _ _ _ _ _ _ _ _; rw [hw2]; exact (Bk.new rfl).alloc_ _
  have TO : Hid (Bk w2 (w.heap.size + 1) none 0 0 none 0 0) := by show Bk _ _ _ _ _ _ _ _; rw [hw2]; exact Bk.new (World.size_alloc _ _).symm
  have HG := Lib.hid (Gw.start w2 C g.length e)
  obtain ⟨W0, HW0⟩ : ∃ W0, Hid (W0 = w2.alloc (.cells #[.slice C g.length e, .slice none 0 0] 24)) := ⟨_, rfl⟩
  rw [← HW0.out] at HG
  have HRES : Hid (movedL s xs g axis more = (List.range N).map fun i : Nat => (atV s xs (upL (digs g i) axis more)).1) := by show movedL _ _ _ _ _ = _; unfold movedL; rw [hN, Int.toNat_natCast]
  have HWE : Hid (W0 = ((w.alloc (.cells #[.slice A s.length c, .slice B xs.length d] 24)).alloc (.cells #[.slice none 0 0, .slice none 0 0] 24)).alloc (.cells #[.slice C g.length e, .slice none 0 0] 24)) := by show W0 = _; rw [HW0.out, hw2]
  have HZ2 := Lib.hid hz2
  clear hA hB hC ht ho hN hsz hw2 HW0 hz2
  go_enter Try.func41, Try.ntmps41
  go_wp2
  rw [← HWE.out]
  go_loopw [10] (fun i wr => ∃ (k : Nat) (zs : List Int) (Az : Option Addr) (cz : Nat), i = .int .i64 k ∧ Hid (Ta (fun i : Nat => (atV s xs (upL (digs g i) axis more)).1) N k zs) ∧ Hid (Gw w2 C g.length e zs Az cz wr)) (fun i _ => N - (intOf i).toNat)
  case atStart => exact ⟨0, [], none, 0, rfl, ta_start _ _, HG.out⟩
  case round =>
    obtain ⟨k, zs, Az, cz, rfl, hr, hg⟩ := hrel
    have HZL := Lib.hid (ta_len hr.out)
    have hkN := hr.out.1
    have TO := Lib.hid (TO.out.kp hg.out.k)
    have TB := Lib.hid (TB.out.kp hg.out.k)
    have K := Lib.hid (K.out.tr hg.out.k)
    go_wp2_with fail
    refine (HSZ.out _ K.out).mono ?_; rintro e0 w3 ⟨rfl, rfl⟩
    by_cases hlt : k < N
    · have HIK := Lib.hid (fun W kw => HI.out k W kw hlt)
      go_wp2_with fail
      refine (HIK.out _ K.out).mono ?_; rintro e0 w3 ⟨A3, c3, rfl, o3, k3⟩
      have HG := Lib.hid (hg.out.tr k3)
      have K := Lib.hid (K.out.tr k3)
      have TB3 := Lib.hid (TB.out.kp k3)
      have HX3 : Hid (Rd w3 A3 (digs g k)) := o3.rd
      have hd3 : (digs g k).length = g.length := digs_len _ _
      have HD3 := Lib.hid hd3
      clear k3 o3
      have t0 := TB3.out.c0
      have t1 := TB3.out.c1
      dsimp only
      obtain ⟨X, hX⟩ : ∃ X, digs g k = X := ⟨_, rfl⟩
      rw [hX] at HX3 hd3 HD3 ⊢
      obtain ⟨ad, x, rfl, hbx, hx, hc⟩ := HX3.out.at_ (k := axis) (by omega)
      have hbd := HBD.out k x hlt (by rw [hX]; exact hx)
      have hup : X.set axis (x + more) = upL X axis more := by unfold upL; rw [List.getD, hx]; rfl
      obtain ⟨z, hz⟩ : ∃ z, x + more = z := ⟨_, rfl⟩
      have hwz : IntKind.i64.wrap (x + more) = z := by rw [IntWalk.i64_in _ (by omega)]; exact hz
      rw [hz] at hup
      have j1 : (0 : Int) ≤ (axis : Int) := by omega
      have j2 : (axis : Int) < (X.length : Int) := by omega
      have HT3 := Lib.hid (fun W (k : Kp w3 W) => HTU.out X W (some ad) c3 z HD3.out (HX3.out.kp k))
      have HA3 := Lib.hid (fun W Az cz (k : Kp w3 W) (r : Rd W Az (X.set axis z)) => HAT.out (X.set axis z) W Az cz (K.out.tr k) r)
      have HTX : Hid ((fun i : Nat => (atV s xs (upL (digs g i) axis more)).1) k = (atV s xs (X.set axis z)).1) := by show (atV s xs (upL (digs g k) axis more)).1 = _; rw [hX, hup]
      have HER : Hid ((atV s xs (X.set axis z)).2 ≠ 0 → (atV s xs (X.set axis z)).1 = 0) := at_zero
      generalize (atV s xs (X.set axis z)).1 = y at HA3 HTX HER
      generalize (atV s xs (X.set axis z)).2 = er at HA3 HER
      generalize X.set axis z = Y at HT3 HA3
      have hlx : X.length ≤ 3 := by omega
      clear hX hx hbd hup hz hd3
      go_wp2
      go_cut [13, 14] from 17 to 50 (fun n f wx => n = .int .i64 y ∧ f = .int .i64 er ∧ Hid (Kp w3 wx))
      case first =>
        have hdr : Hid (Kp w3 w3.drew) := Below.drew (Kp.refl w3)
        have hK3 : Hid (∀ V, Kp w3.drew V → Hid (Kp w3 V) ∧ V.cell? ⟨w.heap.size, 0, none⟩ = some (.slice A s.length c) ∧ V.cell? ⟨w.heap.size, 1, none⟩ = some (.slice B xs.length d) ∧ V.cell? (ad.add axis) = some (.int .i64 x)) := fun V kV => ⟨undrawn kV, (TB3.out.kp (undrawn kV)).c0, (TB3.out.kp (undrawn kV)).c1, ((undrawn kV).cell (by rw [block_of_add]; exact hbx)).trans hc⟩
        go_region_held3 (fun V => V.cell? ⟨w.heap.size, 0, none⟩ = some (.slice A s.length c) ∧ V.cell? ⟨w.heap.size, 1, none⟩ = some (.slice B xs.length d) ∧ V.cell? (ad.add axis) = some (.int .i64 x)) (first | exact ⟨t0, t1, hc⟩ | exact ⟨q3, q4, q7⟩ | exact ⟨q5, q6, q8⟩)
          (first
          | (go_at_call 42; refine (HT3.out _ hdr.out).mono ?_; rintro e0 w4 ⟨A4, c4, rfl, o4, k4⟩; obtain ⟨K4, q3, q4, q7⟩ := hK3.out _ k4; have R4 : Hid (Rd w4 A4 Y) := o4.sl.rd; clear k4 o4)
          | (go_at_call 37; refine (HA3.out _ _ _ K4.out R4.out).mono ?_; rintro e0 w5 ⟨rfl, k5⟩; have K5 := Lib.hid (K4.out.tr k5); have q5 := (k5.cell (p := ⟨w.heap.size, 0, none⟩) (by have := TB3.out.lt; have := K4.out.size; show w.heap.size < _; omega)).trans q3; have q6 := (k5.cell (p := ⟨w.heap.size, 1, none⟩) (by have := TB3.out.lt; have := K4.out.size; show w.heap.size < _; omega)).trans q4; have q8 := (k5.cell (p := ad.add axis) (by rw [block_of_add]; have := K4.out.size; omega)).trans q7; clear k5))
        all_goals go_wp2
        all_goals go_meet
        all_goals exact ⟨rfl, rfl, K5⟩
      case rest =>
        obtain ⟨rfl, rfl, K5⟩ := hcut
        have HG := Lib.hid (HG.out.tr K5.out)
        have g1 := HG.out.b.c1
        have g2 := HG.out.b.f0 1
        have HSZ := Lib.hid HG.out.sz
        have hh1 := HZ2.out
        have g1' : wc.cell? ⟨w.heap.size + 1 + 1, 1, none⟩ = some (.slice Az zs.length cz) := by rw [← hh1]; exact g1
        have g2' : wc.frozen? ⟨w.heap.size + 1 + 1, 1, none⟩ = false := by rw [← hh1]; exact g2
        have HSZ' : Hid (w.heap.size + 1 + 1 + 1 ≤ wc.heap.size) := by show _ ≤ _; rw [← hh1]; exact HSZ.out
        have HGO : Hid (Own (w.heap.size + 1 + 1 + 1) wc (.slice Az zs.length cz) zs) := by show Own _ _ _ _; rw [← hh1]; exact HG.out.o
        clear t0 t1 g1 g2 hh1 hc
        by_cases he : er = 0
        · subst he
          go_wp2_with (at_builtin; refine wpList_app rfl (.tmp 46) (.tmp 48) rfl _ zs rfl (HGO.out.kp (Kp.alloc_ _ _)) _ _ [y] _ rfl rfl (Rd.one _ _ _) (by have := HZL.out; simp; omega) (by have := HSZ'.out; simp; omega) ?_; intro zs2 A2 c2 w8 HZ hown2 hb2; have HB : Hid (Below (w.heap.size + 1 + 1 + 1) wc w8) := (((Below.refl _ _).alloc HSZ'.out _).trans hb2); have HO2 := Lib.hid hown2; have g3 := (HB.out.cell (p := ⟨w.heap.size + 1 + 1, 1, none⟩) (Nat.lt_succ_self _)).trans g1'; have g4 := (HB.out.frozen (p := ⟨w.heap.size + 1 + 1, 1, none⟩) (Nat.lt_succ_self _)).trans g2'; clear hown2 hb2)
          go_roundw
          case rel =>
            refine ⟨k + 1, zs2, A2, c2, by go_num, ta_step hr.out hlt HTX.out HZ.out, ?_⟩
            have hq := HG.out.put (zs2 := zs2) (A2 := A2) (c2 := c2) (w8 := w8) (by rw [HZ2.out]; exact HO2.out) (by rw [HZ2.out]; exact HB.out)
            rw [HZ2.out] at hq
            exact hq
          case measure => simp [intOf]; omega
        · obtain rfl : y = 0 := HER.out he
          have he' : (er != 0) = true := by simpa using he
          go_wp2_with (at_builtin; refine wpList_app rfl (.tmp 46) (.tmp 48) rfl _ zs rfl (HGO.out.kp (Kp.alloc_ _ _)) _ _ [0] _ rfl rfl (Rd.one _ _ _) (by have := HZL.out; simp; omega) (by have := HSZ'.out; simp; omega) ?_; intro zs2 A2 c2 w8 HZ hown2 hb2; have HB : Hid (Below (w.heap.size + 1 + 1 + 1) wc w8) := (((Below.refl _ _).alloc HSZ'.out _).trans hb2); have HO2 := Lib.hid hown2; have g3 := (HB.out.cell (p := ⟨w.heap.size + 1 + 1, 1, none⟩) (Nat.lt_succ_self _)).trans g1'; have g4 := (HB.out.frozen (p := ⟨w.heap.size + 1 + 1, 1, none⟩) (Nat.lt_succ_self _)).trans g2'; clear hown2 hb2)
          go_roundw
          case rel =>
            refine ⟨k + 1, zs2, A2, c2, by go_num, ta_step hr.out hlt HTX.out HZ.out, ?_⟩
            have hq := HG.out.put (zs2 := zs2) (A2 := A2) (c2 := c2) (w8 := w8) (by rw [HZ2.out]; exact HO2.out) (by rw [HZ2.out]; exact HB.out)
            rw [HZ2.out] at hq
            exact hq
          case measure => simp [intOf]; omega
    · have HE := Lib.hid (ta_end hr.out hlt)
      have o0 := TO.out.c0
      have o1 := TO.out.c1
      have p0 := TO.out.f0 0
      have p1 := TO.out.f0 1
      have g0 := hg.out.b.c0
      have g1 := hg.out.b.c1
      have hh1 := HZ2.out
      rw [hh1] at g0 g1
      clear hh1
      go_wp2
      refine bodyPost_ret (v := .agg #[.slice C g.length e, .slice Az zs.length cz]) (by simp [results, Try.results41, go_sem, o0, o1]; try rfl) rfl ?_
      have hz : zs = movedL s xs g axis more := by rw [HE.out, HRES.out]
      rw [← hz]
      exact ⟨C, e, Az, cz, rfl, (HR.out.kp K.out).past TO.out _ _, hg.out.o.sl.rd.past TO.out _ _, (K.out.setCell (p := ⟨w.heap.size + 1, 0, none⟩) (Nat.le_succ _) _).setCell (p := ⟨w.heap.size + 1, 1, none⟩) (Nat.le_succ _) _⟩
end Go.Proofs.Ytdjfjhanffliiaa
