/- Layer 9 of the program: ahead, slices.Grow and slices.Concat of bytes, bytesOf: what each answers. -/
import Derived.Test.YtlbnbamgfffahaaImO
import Derived.Test.YtlbnbamgfffahaaImMem
import Derived.Test.YtlbnbamgfffahaaImP
import Derived.Lib.AppendZerosOnto
import Derived.Lib.SliceRun
namespace Go.Proofs.Ytlbnbamgfffahaa
open Go.RowKit Go.Proofs.ShM Go.Proofs.PkM Go.Proofs.ImM
set_option linter.unusedVariables false
set_option maxHeartbeats 4000000

theorem ahead_any (A : Option Addr) (c n k q : Nat) (w : World) (hn : n ≤ c) (hc : c ≤ 9223372036854775807) (hk : k ≤ 9223372036854775807) (hq : q = min n k) :
    Calls Try.prog 42 #[.slice A n c, .int .i64 (k : Int)] w fun e w' => e = .returned (.slice A q c) ∧ w = w' := by
  have hmn : ∀ (W : World) (ts : Array TypeId) (t : TypeId), (Builtin.min_ ts t #[.int .i64 (n : Int), .int .i64 (k : Int)]).run Try.prog W = .ok (.int .i64 (q : Int)) W := fun W ts t => by
    rw [run_min_int2]
    by_cases h : (k : Int) < (n : Int)
    · rw [if_pos h, show (k : Int) = (q : Int) by omega]
    · rw [if_neg h, show (n : Int) = (q : Int) by omega]
  have hqc : q ≤ c := by omega
  clear hq
  go_enter Try.func42, Try.ntmps42
  go_wp2
  go_ret
  exact ⟨rfl, rfl⟩

set_option maxRecDepth 100000 in
theorem grow8_any (n : Nat) (w : World) (hn : n ≤ 1000000) : Calls Try.prog 36 #[.slice none 0 0, .int .i64 (n : Int)] w (RetBO [] w) := by
  rcases Nat.eq_zero_or_pos n with rfl | h0
  · go_enter Try.func36, Try.ntmps36
    go_wp2
    go_ret
    exact ⟨none, 0, rfl, B8.Own.nil_ _ _, Kp.refl _⟩
  · obtain ⟨i, hi, hz, h1, h2⟩ := info_parts B8.u8_info
    have hold : (Builtin.firstCells i.size 0 (.slice none 0 0)).run Try.prog w.drew = .ok (([] : List Value).toArray) w.drew := run_firstCells_none w.drew i.size 0 0 0
    have hrz : ∀ ty, ∃ A c w', (Builtin.append_ #[22, 3] ty #[.slice none 0 0, .int .i64 (n : Int)]).run Try.prog w = .ok (.slice (some A) n c) w' ∧ n ≤ c ∧ c ≤ 9223372036854775807 ∧ B8.Own w.heap.size w' (.slice (some A) 0 c) [] ∧ Kp w w' := fun ty => by
      have h := Lib.run_append_grow_zeros w 22 3 ty 5 i _ .i64 .i64 Try.underlying22 Try.underlying3 hi hz none 0 0 [] hold n h0 (by omega) (by omega) (by omega) (by rw [h2]; omega) (growslice_fits (by omega) (by rw [h2]; omega))
      have g1 := grownCap_ge w (0 + n) 0 5
      have g2 := grownCap_le_maxLen w (0 + n) 0 5 (by unfold maxLen; omega)
      rw [Nat.zero_add] at h g1 g2
      refine ⟨_, _, _, h, g1, by unfold maxLen at g2; omega, ?_, (Kp.drewN_ _ 1).tr (Kp.alloc_ _ _)⟩
      have := World.ownsRow_made (base := w.heap.size) (e := 5) (size := 1) w.drew ((([] : List Value).toArray ++ Builtin.zeroCells (Value.int IntKind.u8 0).cells n) ++ Builtin.zeroCells (Value.int IntKind.u8 0).cells (grownCap w n 0 5 - n)) (grownCap w n 0 5) (by exact Nat.le_refl _) g2 (by simp [size_zeroCells, show (Value.int IntKind.u8 0).cells.size = 1 from rfl]; omega)
      simpa [B8.Own] using this
    have hlt : (0 : Int) < (n : Int) := by omega
    have hnn : ¬ ((n : Int) < 0) := by omega
    go_enter Try.func36, Try.ntmps36
    obtain ⟨A, c, w', hr, hc1, hc2, ho, hk⟩ := hrz 22
    have HO := Lib.hid ho
    have HK := Lib.hid hk
    clear hrz hold hi hz h1 h2 ho hk
    go_wp2_with (at_builtin; refine Lib.wpList_append_run _ rfl _ _ _ _ rfl _ _ rfl rfl _ _ hr ?_)
    go_ret
    exact ⟨some A, c, rfl, HO.out, HK.out⟩

theorem concat8_any (A B : Option Addr) (c d G : Nat) (xs ys : List Int) (w : World) (hx : B8.Rd w A xs) (hy : B8.Rd w B ys) (hxl : xs.length ≤ 200000) (hyl : ys.length ≤ 200000)
    (h0 : w.cell? ⟨G, 0, none⟩ = some (.slice A xs.length c)) (h1 : w.cell? ⟨G, 1, none⟩ = some (.slice B ys.length d)) (hG : G < w.heap.size) :
    Calls Try.prog 22 #[.slice (some ⟨G, 0, none⟩) 2 2] w (RetBO (xs ++ ys) w) := by
  have HX := Lib.hid hx
  have HY := Lib.hid hy
  have HG := Lib.hid hG
  have HGR := Lib.hid (grow8_any (xs.length + ys.length) w (by omega))
  have HC : Hid (∀ W, Kp w W → W.cell? ⟨G, 0, none⟩ = some (.slice A xs.length c) ∧ W.cell? ⟨G, 1, none⟩ = some (.slice B ys.length d)) := fun W k => ⟨(k.cell (p := ⟨G, 0, none⟩) hG).trans h0, (k.cell (p := ⟨G, 1, none⟩) hG).trans h1⟩
  clear hx hy hG h0 h1
  go_enter Try.func22, Try.ntmps22
  go_wp2
  go_loopw [3, 11] (fun s i wx => wx = w ∧ ((s = .int .i64 0 ∧ i = .int .i64 0) ∨ (s = .int .i64 (xs.length : Int) ∧ i = .int .i64 1) ∨ (s = .int .i64 ((xs.length + ys.length : Nat) : Int) ∧ i = .int .i64 2))) (fun _ i _ => 2 - (intOf i).toNat)
  case atStart => exact ⟨rfl, .inl ⟨rfl, rfl⟩⟩
  case round =>
    obtain ⟨hwr, hrel⟩ := hrel
    have hwr2 := hwr.symm
    subst hwr2
    obtain ⟨c0, c1⟩ := HC.out _ (Kp.refl _)
    rcases hrel with ⟨rfl, rfl⟩ | ⟨rfl, rfl⟩ | ⟨rfl, rfl⟩
    · clear c1
      go_wp2
      go_roundw
      case rel => exact ⟨by first | rfl | trivial, .inr (.inl ⟨by go_num, rfl⟩)⟩
      case measure => simp [intOf]
    · clear c0
      go_wp2
      go_roundw
      case rel => exact ⟨by first | rfl | trivial, .inr (.inr ⟨by go_num, rfl⟩)⟩
      case measure => simp [intOf]
    · clear c0 c1
      go_wp2_with fail
      refine (Hid.out HGR).mono ?_; rintro e w1 ⟨E, f, rfl, o1, k1⟩
      have O1 := Lib.hid o1
      have K1 := Lib.hid k1
      clear o1 k1 HGR
      go_wp2
      go_loopw [6, 27] (fun v i wx => ∃ (E : Option Addr) (f : Nat) (cur : List Int), v = .slice E cur.length f ∧ ((Hid (cur = []) ∧ i = .int .i64 0) ∨ (Hid (cur = xs) ∧ i = .int .i64 1) ∨ (Hid (cur = xs ++ ys) ∧ i = .int .i64 2)) ∧ Hid (B8.Own w.heap.size wx (.slice E cur.length f) cur) ∧ Hid (Kp w wx)) (fun _ i _ => 2 - (intOf i).toNat)
      case atStart => exact ⟨E, f, [], rfl, .inl ⟨rfl, rfl⟩, O1.out, K1.out⟩
      case round =>
        obtain ⟨E2, f2, cur, rfl, hcase, hO, hK⟩ := hrel
        obtain ⟨c0, c1⟩ := HC.out _ hK.out
        have hX := Lib.hid (HX.out.kp hK.out)
        have hY := Lib.hid (HY.out.kp hK.out)
        have hsz := Lib.hid hK.out.size
        rcases hcase with ⟨hcur, rfl⟩ | ⟨hcur, rfl⟩ | ⟨hcur, rfl⟩
        · clear c1
          go_wp2_with (at_builtin; refine B8.wpList_app rfl (.tmp 31) (.tmp 32) rfl _ cur rfl hO.out A c xs _ rfl rfl hX.out (by rw [hcur.out]; simp; omega) hsz.out ?_; intro z1 A1 d1 w5 HZ o5 b5; have O5 := Lib.hid o5; have K5 := Lib.hid (hK.out.trans b5); clear o5 b5)
          go_roundw
          case rel => exact ⟨A1, d1, z1, rfl, .inr (.inl ⟨by show z1 = xs; rw [HZ.out, hcur.out]; rfl, rfl⟩), O5.out, K5.out⟩
          case measure => simp [intOf]
        · clear c0
          go_wp2_with (at_builtin; refine B8.wpList_app rfl (.tmp 31) (.tmp 32) rfl _ cur rfl hO.out B d ys _ rfl rfl hY.out (by rw [hcur.out]; omega) hsz.out ?_; intro z1 A1 d1 w5 HZ o5 b5; have O5 := Lib.hid o5; have K5 := Lib.hid (hK.out.trans b5); clear o5 b5)
          go_roundw
          case rel => exact ⟨A1, d1, z1, rfl, .inr (.inr ⟨by show z1 = xs ++ ys; rw [HZ.out, hcur.out], rfl⟩), O5.out, K5.out⟩
          case measure => simp [intOf]
        · clear c0 c1
          go_wp2
          go_ret
          have hc := hcur.out
          subst hc
          exact ⟨E2, f2, rfl, hO.out, hK.out⟩

theorem bytesOf_any (P Q : Option Addr) (e f : Nat) (t : T) (w : World) (hT : TR w P t.1 Q t.2) (htok : tokT t = true) (hn : N64 t.2) :
    Calls Try.prog 23 #[.agg #[.slice P t.1.length e, .slice Q t.2.length f]] w (RetBO (tnB t) w) := by
  have F0 := Lib.hid (Bk.new (W := w) (b := w.heap.size) (A := P) (n := t.1.length) (c := e) (B := Q) (m := t.2.length) (d := f) rfl)
  have HT := Lib.hid (hT.alloc_ (.cells #[.slice P t.1.length e, .slice Q t.2.length f] 26))
  have K0 : Hid (Kp w (w.alloc (.cells #[.slice P t.1.length e, .slice Q t.2.length f] 26))) := Kp.alloc_ _ _
  obtain ⟨W0, hW0⟩ : ∃ W0, W0 = w.alloc (.cells #[.slice P t.1.length e, .slice Q t.2.length f] 26) := ⟨_, rfl⟩
  rw [← hW0] at F0 HT K0
  obtain ⟨hz1, hz2, hz3⟩ := tok_size htok
  have htk := (ImM.tok_iff.1 htok).1
  obtain ⟨r, hr⟩ : ∃ r, r = tnB t := ⟨_, rfl⟩
  obtain ⟨cur0, hc0⟩ : ∃ cur0, cur0 = [(t.1.length : Int)] ++ allB t.1 1 := ⟨_, rfl⟩
  have HL : Hid (Calls Try.prog 37 #[.slice none 0 0, .slice P t.1.length e, .int .i64 1] W0 (RetBO2 cur0 W0)) := by
    have h := list_yes P e t.1 W0 HT.out.s (by omega) (ok_may htk)
    rw [← hc0] at h
    exact h
  have H0 : Hid (Wl r cur0 t.2 0 8) := by show r = cur0 ++ allB (t.2.drop 0) 8; rw [hr, hc0]; unfold tnB; simp
  have hrl : Hid (r.length ≤ 1000) := by show r.length ≤ 1000; rw [hr, tn_len]; omega
  have HPW : Hid (∀ (x : Int) (W : World), x ∈ t.2 → Calls Try.prog 38 #[.slice none 0 0, .int .i64 x, .int .i64 8] W (RetB (byteL x 8) 0 8 W)) := fun x W hx =>
    pkc.put none 0 0 [] x 8 (byteL x 8) 0 8 W (B8.Rd.nil _ _) (by simp) (by simp) (by simp) (fun _ h => by cases h) (hn x hx) (by unfold I64; omega) rfl (by unfold putV; rw [if_pos (may_8 x)]; rfl) (byte_len 8 x)
  rw [← hr]
  have HW0 := Lib.hid hW0
  clear htok hT hr hc0 htk hz3 hn
  have p0 := F0.out.c0
  have p1 := F0.out.c1
  go_enter Try.func23, Try.ntmps23
  rw [hW0] at p0 p1
  go_wp2_with fail
  rw [← HW0.out]
  refine (Hid.out HL).mono ?_; rintro e0 w1 ⟨E1, f1, rfl, o1, k1⟩
  have K1 := Lib.hid k1
  have O1 := Lib.hid o1
  have p0 := (F0.out.kp k1).c0
  have p1 := (F0.out.kp k1).c1
  clear o1 k1 HL hW0
  go_wp2
  go_loopw [3, 18] (fun v i wx => ∃ (k : Nat) (E : Option Addr) (f : Nat) (cur : List Int), v = .slice E cur.length f ∧ i = .int .i64 (k : Int) ∧ Hid (k ≤ t.2.length) ∧ Hid (Wl r cur t.2 k 8) ∧ Hid (B8.Own W0.heap.size wx (.slice E cur.length f) cur) ∧ Hid (Kp W0 wx)) (fun _ i _ => t.2.length - (intOf i).toNat)
  case atStart => exact ⟨0, E1, f1, cur0, rfl, rfl, Nat.zero_le _, H0.out, O1.out, K1.out⟩
  case round =>
    obtain ⟨k, E, g, cur, rfl, rfl, hk, hT, hO, hK⟩ := hrel
    by_cases hj : k < t.2.length
    · have hj' : (k : Int) < (t.2.length : Int) := by omega
      obtain ⟨ad, x, rfl, hlt, hx, hc⟩ := (HT.out.d.kp hK.out).at_ hj
      have HC := Lib.hid (HPW.out x wr (List.mem_of_getElem? hx))
      have HT2 := Lib.hid (wl_step hT.out hx)
      obtain ⟨bx, hbx⟩ : ∃ bx, bx = byteL x 8 := ⟨_, rfl⟩
      have hbl : bx.length = 8 := by rw [hbx]; exact byte_len 8 x
      rw [← hbx] at HC HT2
      have hlen := Lib.hid (wl_len HT2.out)
      have hbl := Lib.hid hbl
      clear hx hbx
      go_wp2_with fail
      refine (Hid.out HC).mono ?_; rintro e0 w5 ⟨A5, c5, rfl, r5, _, k5⟩
      have O5 := Lib.hid (hO.out.kp k5)
      have K5 := Lib.hid (hK.out.tr k5)
      have hs5 : Hid (W0.heap.size ≤ w5.heap.size) := K5.out.size
      clear k5 HC
      go_wp2_with (at_builtin; refine B8.wpList_app rfl (.tmp 27) (.tmp 28) rfl _ cur rfl O5.out A5 c5 bx _ rfl (by rw [hbl.out]) r5.out (by have := hlen.out; have := hrl.out; have := hbl.out; rw [List.length_append] at *; omega) hs5.out ?_; intro z1 A1 d1 w6 HZ o6 b6; have O6 := Lib.hid o6; have K6 := Lib.hid (K5.out.trans b6); clear o6 b6)
      go_roundw
      case rel => exact ⟨k + 1, A1, d1, z1, rfl, by go_num, (by show k + 1 ≤ t.2.length; omega), (by rw [HZ.out]; exact HT2.out), O6.out, K6.out⟩
      case measure => simp [intOf]; omega
    · have hj' : ¬ (k : Int) < (t.2.length : Int) := by omega
      obtain rfl := wl_end hT.out (by omega)
      go_wp2
      go_ret
      exact ⟨E, g, rfl, hO.out.weak2 K0.out.size, K0.out.tr hK.out⟩
end Go.Proofs.Ytlbnbamgfffahaa
