/- The document's Turn and moved of layer 5 (fullerref05). -/
import Derived.Test.YtdjfjhanffliiaaMvA
import Derived.Deep.RegionHeld3
import Derived.Deep.CutRange
namespace Go.Proofs.Ytdjfjhanffliiaa
open Go.RowKit Go.Proofs.ShM
set_option linter.unusedVariables false

theorem undrawn {a b : World} (h : Kp a.drew b) : Kp a b := ⟨h.os, h.tape, h.output, h.size, h.block⟩
/-- A field of a box, stored into. -/
theorem Bk.set1 {W : World} {b n c m d m' d' : Nat} {A B D : Option Addr} (h : Bk W b A n c B m d) : Bk (W.setCell ⟨b, 1, none⟩ (.slice D m' d')) b A n c D m' d' := heap_set h 1 _
theorem Bk.tb {W W' : World} {B0 b n c m d : Nat} {A B : Option Addr} (h : Bk W b A n c B m d) (k : Below B0 W W') (hb : b < B0) : Bk W' b A n c B m d := (k.block b hb).trans h
/-- What a loop that appends to a field of a new box has made since w2: the box behind all that w2 has. -/
structure Gw (w2 : World) (A : Option Addr) (n c : Nat) (zs : List Int) (Az : Option Addr) (cz : Nat) (wr : World) : Prop where
  b : Bk wr w2.heap.size A n c Az zs.length cz
  o : Own (w2.heap.size + 1) wr (.slice Az zs.length cz) zs
  k : Kp w2 wr
section
variable {w2 wr w' : World} {A Az : Option Addr} {n c cz : Nat} {zs : List Int}
theorem Gw.start (w2 : World) (A : Option Addr) (n c : Nat) : Gw w2 A n c [] none 0 (w2.alloc (.cells #[.slice A n c, .slice none 0 0] 24)) := ⟨Bk.new rfl, Own.nil_ _ _, Kp.alloc_ _ _⟩
theorem Gw.tr (h : Gw w2 A n c zs Az cz wr) (k : Kp wr w') : Gw w2 A n c zs Az cz w' := ⟨h.b.kp k, h.o.kp k, h.k.tr k⟩
theorem Gw.sz (h : Gw w2 A n c zs Az cz wr) : w2.heap.size + 1 ≤ wr.heap.size := h.b.lt
/-- Appended to, and put back. -/
theorem Gw.put {zs2 : List Int} {A2 : Option Addr} {c2 : Nat} {w8 : World} (h : Gw w2 A n c zs Az cz wr) (o : Own (w2.heap.size + 1) w8 (.slice A2 zs2.length c2) zs2) (k : Below (w2.heap.size + 1) wr w8) :
    Gw w2 A n c zs2 A2 c2 (w8.setCell ⟨w2.heap.size, 1, none⟩ (.slice A2 zs2.length c2)) :=
  ⟨(h.b.tb k (Nat.lt_succ_self _)).set1, o.put_ (p := ⟨w2.heap.size, 1, none⟩) (Nat.lt_succ_self _) _, (h.k.trans (k.mono (Nat.le_succ _))).setCell (p := ⟨w2.heap.size, 1, none⟩) (Nat.le_refl _) _⟩
end

set_option maxHeartbeats 4000000 in
theorem rturn_yes (A B : Option Addr) (c d : Nat) (s xs : List Int) (w : World) (hA : Rd w A s) (hB : Rd w B xs) (ht : tokV s xs = true) :
    Calls Try.prog 15 #[.agg #[.slice A s.length c, .slice B xs.length d]] w (RetT (turnV s xs) w) := by
  have hl := hB.len
  have F0 := Lib.hid (Fr.mk_ w A s.length c B xs.length d 24)
  have HT := Lib.hid (rtcheck_any A B c d s xs _ (hA.kp F0.out.kp) (hB.kp F0.out.kp))
  rw [ht] at HT
  obtain ⟨ho, hn, hm1, hm64⟩ := tok_len ht
  have hs3 : s.length ≤ 3 := (ok_iff.1 ho).1
  have HV := Lib.hid (fun W (k : Kp w W) => turned_any A c s W (hA.kp k) (by omega))
  have HF : Hid (turnV s xs = (s.reverse, turnD s xs, 0)) := by show turnV s xs = _; unfold turnV; rw [if_neg (by simp [ht])]
  have hsr : sizeV s.reverse = (xs.length : Int) := by
    have h1 : okS s.reverse = true := by
      obtain ⟨g1, g2, g3⟩ := ok_iff.1 ho
      exact ok_iff.2 ⟨by simpa using g1, by rw [ok_rev]; exact g2, by rw [prod_rev]; exact g3⟩
    rw [size_ok h1, prod_rev, ← size_nat ho, hn]
  have HI : Hid (∀ (k : Nat) W Az cz, k < xs.length → Rd W Az s.reverse → Calls Try.prog 36 #[.slice Az s.length cz, .int .i64 (k : Int)] W (Ret (digs s.reverse k, 0) W)) := by
    intro k W Az cz hk hr
    have hh := rindex_any Az cz s.reverse (k : Int) W hr
    rw [index_yes (by omega) (by omega), List.length_reverse] at hh
    exact hh
  have HAT : Hid (∀ t W Az cz, Kp w W → Rd W Az t → Calls Try.prog 37 #[.agg #[.slice A s.length c, .slice B xs.length d], .slice Az t.length cz] W (RetK (atV s xs t).1 (atV s xs t).2 W)) := fun t W Az cz k hr => rat_any A B Az c d cz s xs t W (hA.kp k) (hB.kp k) hr
  have HTU : Hid (∀ t W Az cz, t.length ≤ 3 → Rd W Az t → Calls Try.prog 35 #[.slice Az t.length cz] W (RetO t.reverse W)) := fun t W Az cz h hr => turned_any Az cz t W hr (by omega)
  have HR := Lib.hid (And.intro hA hB)
  clear hA hB ht ho hn hsr
  go_enter Try.func15, Try.ntmps15
  go_wp2_with fail
  refine (Calls.mono (Hid.out HT)) ?_; rintro e0 w1 ⟨rfl, k1⟩
  have F1 := Lib.hid (F0.out.tr k1)
  have TO : Hid (Bk w1 (w.heap.size + 1) none 0 0 none 0 0) := (Bk.new (World.size_alloc _ _).symm).kp k1
  have TB : Hid (Bk w1 w.heap.size A s.length c B xs.length d) := ((Bk.new rfl).alloc_ _).kp k1
  clear k1
  have t0 := TB.out.c0
  go_wp2_with fail
  refine (HV.out _ F1.out.kp).mono ?_; rintro e0 w2 ⟨AS, cS, rfl, oS, k2⟩
  have TO := Lib.hid (TO.out.kp k2)
  have TB := Lib.hid (TB.out.kp k2)
  have K := Lib.hid (F1.out.kp.tr k2)
  have HS : Hid (Rd w2 AS s.reverse) := oS.sl.rd
  rw [List.length_reverse]
  clear t0 k2 oS
  have HG := Lib.hid (Gw.start w2 AS s.length cS)
  go_wp2
  obtain ⟨W0, HW0⟩ : ∃ W0, Hid (W0 = w2.alloc (.cells #[.slice AS s.length cS, .slice none 0 0] 24)) := ⟨_, rfl⟩
  rw [← HW0.out] at HG ⊢
  go_loopw [6] (fun i wr => ∃ (k : Nat) (zs : List Int) (Az : Option Addr) (cz : Nat), i = .int .i64 k ∧ Hid (Ta (fun i : Nat => (atV s xs (digs s.reverse i).reverse).1) xs.length k zs) ∧ Hid (Gw w2 AS s.length cS zs Az cz wr)) (fun i _ => xs.length - (intOf i).toNat)
  case atStart => exact ⟨0, [], none, 0, rfl, ta_start _ _, HG.out⟩
  case round =>
    obtain ⟨k, zs, Az, cz, rfl, hr, hg⟩ := hrel
    have HZL := Lib.hid (ta_len hr.out)
    have hkN := hr.out.1
    have TO := Lib.hid (TO.out.kp hg.out.k)
    have TB := Lib.hid (TB.out.kp hg.out.k)
    have K := Lib.hid (K.out.tr hg.out.k)
    have t0 := TB.out.c0
    have t1 := TB.out.c1
    have g0 := hg.out.b.c0
    by_cases hlt : k < xs.length
    · have HIK := Lib.hid (fun W Az cz => HI.out k W Az cz hlt)
      go_wp2_with fail
      refine (HIK.out _ _ _ (HS.out.kp hg.out.k)).mono ?_; rintro e0 w3 ⟨A3, c3, rfl, o3, k3⟩
      have HG := Lib.hid (hg.out.tr k3)
      have K := Lib.hid (K.out.tr k3)
      have TB3 := Lib.hid (TB.out.kp k3)
      have HX3 : Hid (Rd w3 A3 (digs s.reverse k)) := o3.rd
      have hd3 : (digs s.reverse k).length = s.length := by rw [digs_len, List.length_reverse]
      have HD3 := Lib.hid hd3
      clear t0 t1 g0 k3 o3
      have t0 := TB3.out.c0
      have t1 := TB3.out.c1
      dsimp only
      obtain ⟨X, hX⟩ : ∃ X, digs s.reverse k = X := ⟨_, rfl⟩
      rw [hX] at HX3 hd3 HD3 ⊢
      have HT3 := Lib.hid (fun W (k : Kp w3 W) => HTU.out X W A3 c3 (by rw [HD3.out]; exact hs3) (HX3.out.kp k))
      have HA3 := Lib.hid (fun W Az cz (k : Kp w3 W) (r : Rd W Az X.reverse) => HAT.out X.reverse W Az cz (K.out.tr k) r)
      have HTX : Hid ((fun i : Nat => (atV s xs (digs s.reverse i).reverse).1) k = (atV s xs X.reverse).1) := by show (atV s xs (digs s.reverse k).reverse).1 = _; rw [hX]
      generalize (atV s xs X.reverse).1 = y at HA3 HTX
      generalize (atV s xs X.reverse).2 = er at HA3
      have hxr : X.reverse.length = X.length := List.length_reverse ..
      generalize X.reverse = Y at HT3 HA3 hxr
      clear hX hxr hd3
      go_wp2
      go_cut [9] from 20 to 46 (fun n wx => n = .int .i64 y ∧ Hid (Kp w3 wx))
      case first =>
        have hdr : Hid (Kp w3 w3.drew) := Below.drew (Kp.refl w3)
        have hK3 : Hid (∀ V, Kp w3.drew V → Hid (Kp w3 V) ∧ V.cell? ⟨w.heap.size, 0, none⟩ = some (.slice A s.length c) ∧ V.cell? ⟨w.heap.size, 1, none⟩ = some (.slice B xs.length d)) := fun V kV => ⟨undrawn kV, (TB3.out.kp (undrawn kV)).c0, (TB3.out.kp (undrawn kV)).c1⟩
        go_region_held3 (fun V => V.cell? ⟨w.heap.size, 0, none⟩ = some (.slice A s.length c) ∧ V.cell? ⟨w.heap.size, 1, none⟩ = some (.slice B xs.length d)) (first | exact ⟨t0, t1⟩ | exact ⟨q3, q4⟩ | exact ⟨q5, q6⟩)
          (first
          | (go_at_call 35; refine (HT3.out _ hdr.out).mono ?_; rintro e0 w4 ⟨A4, c4, rfl, o4, k4⟩; obtain ⟨K4, q3, q4⟩ := hK3.out _ k4; have R4 : Hid (Rd w4 A4 Y) := o4.sl.rd; clear k4 o4)
          | (go_at_call 37; refine (HA3.out _ _ _ K4.out R4.out).mono ?_; rintro e0 w5 ⟨rfl, k5⟩; have K5 := Lib.hid (K4.out.tr k5); have q5 := (k5.cell (p := ⟨w.heap.size, 0, none⟩) (by have := TB3.out.lt; have := K4.out.size; show w.heap.size < _; omega)).trans q3; have q6 := (k5.cell (p := ⟨w.heap.size, 1, none⟩) (by have := TB3.out.lt; have := K4.out.size; show w.heap.size < _; omega)).trans q4; clear k5))
        all_goals go_wp2
        all_goals go_meet
        all_goals exact ⟨rfl, K5⟩
      case rest =>
        obtain ⟨rfl, K5⟩ := hcut
        have HG := Lib.hid (HG.out.tr K5.out)
        have g1 := HG.out.b.c1
        have g2 := HG.out.b.f0 1
        have HSZ := Lib.hid HG.out.sz
        clear t0 t1
        go_wp2_with (at_builtin; refine wpList_app rfl (.tmp 42) (.tmp 44) rfl _ zs rfl (HG.out.o.kp (Kp.alloc_ _ _)) _ _ [y] _ rfl rfl (Rd.one _ _ _) (by have := HZL.out; simp; omega) (by have := HSZ.out; simp; omega) ?_; intro zs2 A2 c2 w8 HZ hown2 hb2; have HB : Hid (Below (w2.heap.size + 1) wc w8) := (((Below.refl _ _).alloc HSZ.out _).trans hb2); have HO2 := Lib.hid hown2; have g3 := (HB.out.cell (p := ⟨w2.heap.size, 1, none⟩) (Nat.lt_succ_self _)).trans g1; have g4 := (HB.out.frozen (p := ⟨w2.heap.size, 1, none⟩) (Nat.lt_succ_self _)).trans g2; clear hown2 hb2)
        go_roundw
        case rel => exact ⟨k + 1, zs2, A2, c2, by go_num, ta_step hr.out hlt HTX.out HZ.out, HG.out.put HO2.out HB.out⟩
        case measure => simp [intOf]; omega
    · have HE := Lib.hid (ta_end hr.out hlt)
      have o0 := TO.out.c0
      have o1 := TO.out.c1
      have p0 := TO.out.f0 0
      have p1 := TO.out.f0 1
      have g1 := hg.out.b.c1
      go_wp2
      refine bodyPost_ret (v := .tuple #[.agg #[.slice AS s.length cS, .slice Az zs.length cz], .int .i64 0]) (by simp [results, Try.results15, go_sem, o0, o1]; try rfl) rfl ?_
      have hz : zs = turnD s xs := HE.out
      have hrr : s.length = s.reverse.length := (List.length_reverse ..).symm
      have hres : turnV s xs = (s.reverse, zs, 0) := by rw [HF.out, hz]
      have hrd := (HS.out.kp hg.out.k).past TO.out (.slice AS s.length cS) (.slice Az zs.length cz)
      have hrz := hg.out.o.sl.rd.past TO.out (.slice AS s.length cS) (.slice Az zs.length cz)
      exact RetT.on hres hrr rfl hrd hrz ((K.out.setCell (p := ⟨w.heap.size + 1, 0, none⟩) (Nat.le_succ _) _).setCell (p := ⟨w.heap.size + 1, 1, none⟩) (Nat.le_succ _) _)
end Go.Proofs.Ytdjfjhanffliiaa
