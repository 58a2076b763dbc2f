/- The program's Sum, Max and Mean of layer 6 (reduce). -/
import Derived.Test.YtpglchimghnpeaaRdC
import Derived.Test.YtpglchimghnpeaaRdD
namespace Go.Proofs.Ytpglchimghnpeaa
open Go.RowKit Go.Proofs.ShM Go.Proofs.FixM
set_option linter.unusedVariables false

theorem call_add : ∀ args W, (callFunc 24 args).run Try.prog W = .ok (.enter 24 args) W := fun args W => MuLone.run_callFunc_enter Try.func24 (by kernel_rfl) rfl args W
theorem call_great : ∀ args W, (callFunc 32 args).run Try.prog W = .ok (.enter 32 args) W := fun args W => MuLone.run_callFunc_enter Try.func32 (by kernel_rfl) rfl args W
theorem i64_zero : I64 0 := by unfold I64; omega
theorem i64_least : I64 (-9223372036854775808) := by unfold I64; omega
theorem tog_add (A B : Option Addr) (c d : Nat) (s xs : List Int) (axis : Int) (w : World) (hA : Sl w A c s) (hB : Rd w B xs) (hi : I64s xs) :
    Calls Try.prog 23 #[.agg #[.slice A s.length c, .slice B xs.length d], .int .i64 axis, .agg #[.int .i64 0, .func (.func 24) #[] #[]]] w (RetS (sumV s xs axis) w) :=
  together_any addV 0 24 A B c d s xs axis w hA hB hi i64_zero (fun _ _ _ _ _ => put_i64 _) call_add (fun x y hx hy W => add_any x y hx hy W)
theorem tog_great (A B : Option Addr) (c d : Nat) (s xs : List Int) (axis : Int) (w : World) (hA : Sl w A c s) (hB : Rd w B xs) (hi : I64s xs) :
    Calls Try.prog 23 #[.agg #[.slice A s.length c, .slice B xs.length d], .int .i64 axis, .agg #[.int .i64 (-9223372036854775808), .func (.func 32) #[] #[]]] w (RetS (maxV s xs axis) w) :=
  together_any greatV _ 32 A B c d s xs axis w hA hB hi i64_least (fun x y hx hy _ => by unfold greatV I64 at *; show _ ≤ max x y ∧ max x y ≤ _; omega) call_great (fun x y _ _ W => greater_any x y W)

theorem RetS.box {r : Tn} {w W' : World} {A B A2 B2 : Option Addr} {n c m d c2 d2 b : Nat} {l k : List Int} {e : Int} (hr : r = (l, k, e)) (F : Rg w A n c B m d W') (hs : Sl W' A2 c2 l) (hb : w.heap.size + 1 < b) (o : Own b W' (.slice B2 k.length d2) k) (ha : ∀ ad, A2 = some ad → ad.block < b) :
    RetS r w (.returned (.tuple #[.agg #[.slice A2 l.length c2, .slice B2 k.length d2], .int .i64 e])) ((W'.setCell ⟨w.heap.size + 1, 0, none⟩ (.slice A2 l.length c2)).setCell ⟨w.heap.size + 1, 1, none⟩ (.slice B2 k.length d2)) := by
  subst hr
  exact ⟨A2, c2, B2, d2, b, rfl, ⟨hs.rd.past F.o _ _, hs.le, hs.cap⟩, by omega, (o.put_ (p := ⟨w.heap.size + 1, 0, none⟩) hb _).put_ (p := ⟨w.heap.size + 1, 1, none⟩) hb _, ha, F.end_ _ _⟩

set_option maxHeartbeats 2000000 in
theorem psum_any (A B : Option Addr) (c d : Nat) (s xs : List Int) (axis : Int) (w : World) (hA : Sl w A c s) (hB : Rd w B xs) (hi : I64s xs) :
    Calls Try.prog 8 #[.agg #[.slice A s.length c, .slice B xs.length d], .int .i64 axis] w (RetS (sumV s xs axis) w) := by
  have F0 := Lib.hid (Rg.mk_ w A s.length c B xs.length d)
  have HT := Lib.hid (fun W (k : Kp w W) => tog_add A B c d s xs axis W (hA.kp k) (hB.kp k) hi)
  obtain ⟨l, k, er, hr⟩ : ∃ l k er, sumV s xs axis = (l, k, er) := ⟨_, _, _, rfl⟩
  rw [hr] at HT
  have HR := Lib.hid hr
  clear hA hB hi hr
  go_enter Try.func8, Try.ntmps8
  go_wp2_with fail
  refine (HT.out _ F0.out.kp).mono ?_; rintro e0 w1 ⟨A2, c2, B2, d2, b, rfl, s2, hb, o2, ha, k1⟩
  have F1 := Lib.hid (F0.out.tr k1)
  have HB : Hid (w.heap.size + 1 < b) := by
    show _ < _
    rw [World.size_alloc, World.size_alloc] at hb; omega
  have H2 := Lib.hid (And.intro s2 (And.intro o2 ha))
  clear k1 s2 hb o2 ha
  have r0 := F1.out.o.c0
  have r1 := F1.out.o.c1
  have u0 := F1.out.o.f0 0
  have u1 := F1.out.o.f0 1
  dsimp only
  go_wp2
  refine bodyPost_ret (v := .tuple #[.agg #[.slice A2 l.length c2, .slice B2 k.length d2], .int .i64 er]) (by simp [results, Try.results8, go_sem, r0, r1]; try rfl) rfl ?_
  exact RetS.box HR.out F1.out H2.out.1 HB.out H2.out.2.1 H2.out.2.2

set_option maxHeartbeats 2000000 in
theorem pmax_any (A B : Option Addr) (c d : Nat) (s xs : List Int) (axis : Int) (w : World) (hA : Sl w A c s) (hB : Rd w B xs) (hi : I64s xs) :
    Calls Try.prog 13 #[.agg #[.slice A s.length c, .slice B xs.length d], .int .i64 axis] w (RetS (maxV s xs axis) w) := by
  have F0 := Lib.hid (Rg.mk_ w A s.length c B xs.length d)
  have HT := Lib.hid (fun W (k : Kp w W) => tog_great A B c d s xs axis W (hA.kp k) (hB.kp k) hi)
  obtain ⟨l, k, er, hr⟩ : ∃ l k er, maxV s xs axis = (l, k, er) := ⟨_, _, _, rfl⟩
  rw [hr] at HT
  have HR := Lib.hid hr
  clear hA hB hi hr
  go_enter Try.func13, Try.ntmps13
  go_wp2_with fail
  refine (HT.out _ F0.out.kp).mono ?_; rintro e0 w1 ⟨A2, c2, B2, d2, b, rfl, s2, hb, o2, ha, k1⟩
  have F1 := Lib.hid (F0.out.tr k1)
  have HB : Hid (w.heap.size + 1 < b) := by
    show _ < _
    rw [World.size_alloc, World.size_alloc] at hb; omega
  have H2 := Lib.hid (And.intro s2 (And.intro o2 ha))
  clear k1 s2 hb o2 ha
  have r0 := F1.out.o.c0
  have r1 := F1.out.o.c1
  have u0 := F1.out.o.f0 0
  have u1 := F1.out.o.f0 1
  dsimp only
  go_wp2
  refine bodyPost_ret (v := .tuple #[.agg #[.slice A2 l.length c2, .slice B2 k.length d2], .int .i64 er]) (by simp [results, Try.results13, go_sem, r0, r1]; try rfl) rfl ?_
  exact RetS.box HR.out F1.out H2.out.1 HB.out H2.out.2.1 H2.out.2.2

/-- Each number turned, one by one. -/
def Mdn (g : Int → Int) (xs : List Int) (k : Nat) (zs : List Int) : Prop := k ≤ xs.length ∧ zs = (xs.take k).map g ++ xs.drop k
theorem md_start (g : Int → Int) (xs : List Int) : Mdn g xs 0 xs := ⟨Nat.zero_le _, by simp⟩
theorem md_len {g : Int → Int} {xs zs : List Int} {k : Nat} (h : Mdn g xs k zs) : zs.length = xs.length := by obtain ⟨h1, rfl⟩ := h; simp; omega
theorem md_at {g : Int → Int} {xs zs : List Int} {k : Nat} {x : Int} (h : Mdn g xs k zs) (hx : xs[k]? = some x) : zs[k]? = some x := by
  obtain ⟨h1, rfl⟩ := h
  rw [List.getElem?_append_right (by simp; omega)]
  simp only [List.length_map, List.length_take, Nat.min_eq_left h1, Nat.sub_self, List.getElem?_drop, Nat.add_zero]
  exact hx
theorem md_step {g : Int → Int} {xs zs : List Int} {k : Nat} {x : Int} (h : Mdn g xs k zs) (hx : xs[k]? = some x) : Mdn g xs (k + 1) (zs.set k (g x)) := by
  obtain ⟨h1, rfl⟩ := h
  have hk := (List.getElem?_eq_some_iff.1 hx).1
  refine ⟨hk, ?_⟩
  rw [take_of hx, List.map_append, List.set_append_right _ _ (by simp; omega), drop_of hx]
  simp [Nat.min_eq_left h1]
theorem md_end {g : Int → Int} {xs zs : List Int} {k : Nat} (h : Mdn g xs k zs) (hk : ¬ k < xs.length) : zs = xs.map g := by
  obtain ⟨h1, rfl⟩ := h
  rw [List.take_of_length_le (by omega), List.drop_eq_nil_of_le (by omega), List.append_nil]

theorem sum_ok {s xs : List Int} {axis : Int} (h : (sumV s xs axis).2.2 = 0) : tokV s xs = true ∧ ∃ a : Nat, axis = (a : Int) ∧ a < s.length := by
  by_cases g : sideV s xs axis = 0
  · exact side_ok g
  · have e := side_err g addV 0
    unfold sumV at h
    rw [e] at h
    exact absurd h g
theorem tog_form {f : Int → Int → Int × Int} {x0 : Int} {s xs : List Int} {a : Nat} (ht : tokV s xs = true) (ha : a < s.length) : togV f x0 s xs a = if (togL f x0 s xs a).2 = 0 then (s.eraseIdx a, (togL f x0 s xs a).1, 0) else ([], [], (togL f x0 s xs a).2) := by
  unfold togV
  rw [if_neg (by simp [ht]), if_neg (by omega), Int.toNat_natCast]
theorem tog_zero {f : Int → Int → Int × Int} {x0 : Int} {s xs : List Int} {a : Nat} (ht : tokV s xs = true) (ha : a < s.length) (h : (togV f x0 s xs a).2.2 = 0) : ∃ k, togV f x0 s xs a = (s.eraseIdx a, k, 0) ∧ (k.length : Int) = sizeV (s.eraseIdx a) ∧ 0 < k.length := by
  rw [tog_form ht ha] at h ⊢
  by_cases e : (togL f x0 s xs a).2 = 0
  · rw [if_pos e]
    have ho := ok_erase (tok_iff.1 ht).1 ha
    have hl : (togL f x0 s xs a).1.length = (sizeV (s.eraseIdx a)).toNat := by
      unfold togL at e ⊢
      rw [mapE_len e]; simp
    have := ok_prod ho
    have := size_ok ho
    exact ⟨_, rfl, by omega, by omega⟩
  · rw [if_neg e] at h; exact absurd h e
theorem tog_i64 {f : Int → Int → Int × Int} {x0 : Int} {s xs : List Int} {axis : Int} (hi : I64s xs) (h0 : I64 x0) (hf : ∀ x y, I64 x → I64 y → (f x y).2 = 0 → I64 (f x y).1) : I64s (togV f x0 s xs axis).2.1 := by
  by_cases g : sideV s xs axis = 0
  · obtain ⟨ht, a, rfl, ha⟩ := side_ok g
    rw [tog_form ht ha]
    by_cases e : (togL f x0 s xs a).2 = 0
    · rw [if_pos e]
      intro y hy
      unfold togL at e hy
      obtain ⟨e1, e2⟩ := mapE_ok e
      rw [e2] at hy
      obtain ⟨q, hq, rfl⟩ := List.mem_map.1 hy
      refine tk_inv hf h0 (fun z hz => ?_) (firstE_zero.1 e1 q hq)
      unfold lineL at hz
      obtain ⟨i, _, rfl⟩ := List.mem_map.1 hz
      exact getD_i64 hi _
    · rw [if_neg e]; exact I64s.nil_
  · rw [side_err g f x0]; exact I64s.nil_
theorem sum_i64 {s xs : List Int} {axis : Int} (hi : I64s xs) : I64s (sumV s xs axis).2.1 := tog_i64 hi i64_zero fun _ _ _ _ _ => put_i64 _

theorem Rg.tb {w W W' : World} {A B : Option Addr} {n c m d b : Nat} (h : Rg w A n c B m d W) (k : Below b W W') (hb : w.heap.size + 1 < b) : Rg w A n c B m d W' := ⟨h.kp.trans (k.mono (by omega)), h.t.tb k (by omega), h.o.tb k hb⟩
theorem rd_below {b : Nat} {W W' : World} {A : Option Addr} {xs : List Int} (h : Rd W A xs) (k : Below b W W') (ha : ∀ ad, A = some ad → ad.block < b) : Rd W' A xs :=
  ⟨h.1, fun hn => by
    obtain ⟨ad, e, hb, hc⟩ := h.2 hn
    exact ⟨ad, e, Nat.lt_of_lt_of_le hb k.size, fun j u hu => (k.cell (by rw [block_of_add]; exact ha ad e)).trans (hc j u hu)⟩⟩

set_option maxHeartbeats 4000000 in
theorem pmean_any (A B : Option Addr) (c d : Nat) (s xs : List Int) (axis : Int) (w : World) (hA : Sl w A c s) (hB : Rd w B xs) (hi : I64s xs) :
    Calls Try.prog 11 #[.agg #[.slice A s.length c, .slice B xs.length d], .int .i64 axis] w (RetT (meanV s xs axis) w) := by
  have F0 := Lib.hid (Rg.mk_ w A s.length c B xs.length d)
  have HT := Lib.hid (fun W (k : Kp w W) => psum_any A B c d s xs axis W (hA.kp k) (hB.kp k) hi)
  by_cases hz : (sumV s xs axis).2.2 = 0
  · obtain ⟨ht, a, rfl, ha⟩ := sum_ok hz
    obtain ⟨k, hr, hkl, hk0⟩ := tog_zero (f := addV) (x0 := 0) ht ha hz
    have hk64 : I64s k := by
      have := sum_i64 (axis := (a : Int)) (s := s) hi
      unfold sumV at this
      rw [hr] at this; exact this
    have ho := (tok_iff.1 ht).1
    have hsd := side_pos (ok_all ho) ha
    obtain ⟨ad, x, hAe, hbx, hx, hc⟩ := hA.rd.at_ ha
    have hxD : s.getD a 0 = x := by rw [List.getD, hx]; rfl
    rw [hxD] at hsd
    have HF : Hid (meanV s xs a = (s.eraseIdx a, k.map fun y => (divV y (x * 4294967296)).1, 0)) := by
      show meanV s xs a = _
      unfold meanV
      rw [if_pos hz]
      unfold sumV
      rw [hr, Int.toNat_natCast, hxD]
    have hr' : sumV s xs a = (s.eraseIdx a, k, 0) := hr
    rw [hr'] at HT
    have HX : Hid (∀ W, Kp w W → W.cell? (ad.add a) = some (.int .i64 x)) := fun W k => (k.cell (p := ad.add a) (by rw [block_of_add]; exact hbx)).trans hc
    have hby : I64 (x * 4294967296) := by unfold I64; omega
    have HDV : Hid (∀ y W, I64 y → Calls Try.prog 30 #[.int .i64 y, .int .i64 (x * 4294967296)] W fun e W' => e = .returned (.tuple #[.int .i64 (divV y (x * 4294967296)).1, .int .i64 (divV y (x * 4294967296)).2]) ∧ Kp W W') := fun y W hy => (Fx.div_any y (x * 4294967296) hy hby W).mono fun e w' ⟨h1, h2⟩ => ⟨h1, h2.below⟩
    obtain ⟨by_, hbyE⟩ : ∃ z, z = x * 4294967296 := ⟨_, rfl⟩
    rw [← hbyE] at HF HDV
    have w1a : IntKind.i64.wrap (x * 4294967296) = by_ := by rw [hbyE]; exact IntWalk.i64_in _ (by omega)
    have HS0 := Lib.hid (md_start (fun y => (divV y by_).1) k)
    have hk64n : k.length ≤ 64 := by have := size_le (s.eraseIdx a); omega
    have HK := Lib.hid (And.intro hk64 hk0)
    obtain ⟨S, hS⟩ : ∃ S, S = s.eraseIdx a := ⟨_, rfl⟩
    rw [← hS] at HT HF
    generalize meanV s xs a = R at HF ⊢
    have j1 : (0 : Int) ≤ (a : Int) := by omega
    have j2 : (a : Int) < (s.length : Int) := by omega
    subst hAe
    clear hA hB hi hz ht hr hr' hkl hk0 hk64 ho hsd hx hc hxD hbyE hby hS hbx
    go_enter Try.func11, Try.ntmps11
    go_wp2_with fail
    refine (HT.out _ F0.out.kp).mono ?_; rintro e0 w1 ⟨A2, c2, B2, d2, b, rfl, s2, hb, o2, ha2, k1⟩
    have F1 := Lib.hid (F0.out.tr k1)
    have HB : Hid (w.heap.size + 1 < b) := by
      show _ < _
      rw [World.size_alloc, World.size_alloc] at hb; omega
    obtain ⟨g, rfl, hg1, hg2⟩ := o2.addr HK.out.2
    have HGB := Lib.hid (And.intro hg1 hg2)
    have S2 := Lib.hid s2.rd
    have O2 := Lib.hid o2
    have HA2 := Lib.hid ha2
    clear k1 s2 hb o2 ha2 hg1 hg2
    have t0 := F1.out.t.c0
    have t1 := F1.out.t.c1
    have hx1 := HX.out _ F1.out.kp
    have hbl : (ad.add a).block < w1.heap.size := by
      unfold World.cell? at hx1
      rcases Nat.lt_or_ge (ad.add a).block w1.heap.size with h | h
      · exact h
      · rw [Array.getElem?_eq_none h] at hx1; cases hx1
    have htl : w.heap.size < w1.heap.size := F1.out.t.lt
    dsimp only
    go_wp2
    go_loopw [30] (fun i wr => ∃ (j : Nat) (zs : List Int), i = .int .i64 j ∧ Hid (Mdn (fun y => (divV y by_).1) k j zs) ∧ Hid (Own b wr (.slice (some ⟨g, 0, none⟩) k.length d2) zs) ∧ Hid (Bk wr w1.heap.size A2 S.length c2 (some ⟨g, 0, none⟩) k.length d2) ∧ Hid (Below b w1 wr)) (fun i _ => k.length - (intOf i).toNat)
    case atStart => exact ⟨0, k, rfl, HS0.out, O2.out.kp (Kp.alloc_ _ _), Bk.new rfl, (Below.refl _ _).alloc (Nat.le_of_lt (Nat.lt_of_le_of_lt HGB.out.1 HGB.out.2)) _⟩
    case round =>
      obtain ⟨j, zs, rfl, hr, hown, hbk, hbel⟩ := hrel
      clear t0 t1 hx1 hbl htl
      have hjl := hr.out.1
      have b0 := hbk.out.c0
      have b1 := hbk.out.c1
      have F2 : Hid (Rg w (some ad) s.length c B xs.length d wr) := F1.out.tb hbel.out HB.out
      by_cases hj : j < k.length
      · have hj' : (j : Int) < (k.length : Int) := by omega
        have i1 : (0 : Int) ≤ (j : Int) := by omega
        obtain ⟨y, hy⟩ : ∃ y, k[j]? = some y := ⟨k[j], List.getElem?_eq_getElem hj⟩
        have hzy := md_at hr.out hy
        have hyc := hown.out.cell_ hzy
        have hyf := hown.out.froz_ j
        have HST := Lib.hid (md_step hr.out hy)
        have HDY := Lib.hid (fun W => HDV.out y W (HK.out.1.get hy))
        have hzl := md_len hr.out
        have gl : g < wr.heap.size := (hown.out.where_ rfl).2
        have ml : w1.heap.size < wr.heap.size := hbk.out.lt
        generalize (divV y by_).2 = e2 at HDY
        generalize (divV y by_).1 = z at HDY HST
        have HKX : Hid (∀ V, Kp wr.drew V → Hid (Kp wr V) ∧ V.cell? ⟨w1.heap.size, 1, none⟩ = some (.slice (some ⟨g, 0, none⟩) k.length d2) ∧ V.cell? ⟨g, j, none⟩ = some (.int .i64 y) ∧ V.frozen? ⟨g, j, none⟩ = false) := fun V kV =>
          ⟨undrawn kV, (hbk.out.kp (undrawn kV)).c1, ((undrawn kV).cell (p := ⟨g, j, none⟩) gl).trans hyc, ((undrawn kV).frozen (p := ⟨g, j, none⟩) gl).trans hyf⟩
        clear hy hzy
        go_wp2
        go_region_with (refine (HDY.out _).mono ?_; rintro e0 w9 ⟨rfl, k9⟩; obtain ⟨K9, q1, q2, q3⟩ := HKX.out _ k9; clear k9)
        all_goals
          go_wp2
          go_roundw
          case rel =>
            have hw : ∀ V, Hid (Kp wr V) → Own b (V.setCell ⟨g, j, none⟩ (.int .i64 z)) (.slice (some ⟨g, 0, none⟩) k.length d2) (zs.set j z) ∧ Bk (V.setCell ⟨g, j, none⟩ (.int .i64 z)) w1.heap.size A2 S.length c2 (some ⟨g, 0, none⟩) k.length d2 ∧ Below b w1 (V.setCell ⟨g, j, none⟩ (.int .i64 z)) := fun V KV =>
              ⟨(hown.out.kp KV.out).set_ j z, (Below.heap_setCell _ _ _ w1.heap.size (by show w1.heap.size ≠ g; have := HGB.out.2; omega)).trans (hbk.out.kp KV.out), (hbel.out.trans (KV.out.mono (by have := HGB.out; have := hbel.out.size; omega))).setCell (p := ⟨g, j, none⟩) HGB.out.1 _⟩
            obtain ⟨h1, h2, h3⟩ := hw _ K9
            exact ⟨j + 1, _, by go_num, HST.out, h1, h2, h3⟩
          case measure => simp [intOf]; omega
      · have hj' : ¬ (j : Int) < (k.length : Int) := by omega
        have HE := Lib.hid (md_end hr.out hj)
        have HZL := Lib.hid (md_len hr.out)
        have r0 := F2.out.o.c0
        have r1 := F2.out.o.c1
        have u0 := F2.out.o.f0 0
        have u1 := F2.out.o.f0 1
        have hne : ¬ w1.heap.size = w.heap.size + 1 := by have := HGB.out; have := HB.out; omega
        go_wp2
        refine bodyPost_ret (v := .tuple #[.agg #[.slice A2 S.length c2, .slice (some ⟨g, 0, none⟩) k.length d2], .int .i64 0]) (by simp [results, Try.results11, go_sem, r0, r1]; try rfl) rfl ?_
        refine RetT.on (by rw [HF.out, ← HE.out]) rfl HZL.out.symm ?_ ?_ (F2.out.end_ _ _)
        · exact (rd_below S2.out hbel.out HA2.out).past F2.out.o _ _
        · exact (hown.out.sl.rd.past F2.out.o _ _)
  · have HF : Hid (meanV s xs axis = ([], [], (sumV s xs axis).2.2)) := by show meanV s xs axis = _; unfold meanV; rw [if_neg hz]
    obtain ⟨l, k, er, hr⟩ : ∃ l k er, sumV s xs axis = (l, k, er) := ⟨_, _, _, rfl⟩
    rw [hr] at HT HF hz
    have he : (er != 0) = true := by simpa using hz
    clear hA hB hi hr hz
    go_enter Try.func11, Try.ntmps11
    go_wp2_with fail
    refine (HT.out _ F0.out.kp).mono ?_; rintro e0 w1 ⟨A2, c2, B2, d2, b, rfl, s2, hb, o2, ha2, k1⟩
    have F1 := Lib.hid (F0.out.tr k1)
    clear k1 s2 hb o2 ha2
    have rl := F1.out.o.lt
    have F9 : Hid (Rg w A s.length c B xs.length d (w1.alloc (.cells #[.slice A2 l.length c2, .slice B2 k.length d2] 24))) := F1.out.tr (Kp.alloc_ _ _)
    have v0 := F1.out.o.c0
    have v1 := F1.out.o.c1
    have v2 := F1.out.o.f0 0
    have v3 := F1.out.o.f0 1
    have r0 := F9.out.o.c0
    have r1 := F9.out.o.c1
    have rne : ¬ w.heap.size + 1 = w1.heap.size := by omega
    dsimp only
    go_wp2
    refine bodyPost_ret (v := .tuple #[.agg #[.slice none 0 0, .slice none 0 0], .int .i64 er]) (by simp [results, Try.results11, go_sem, v0, v1, rl]; try rfl) rfl ?_
    exact RetT.err HF.out ((F1.out.end_ _ _).al _)
end Go.Proofs.Ytpglchimghnpeaa
