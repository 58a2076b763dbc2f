/- The program's together of layer 6 (reduce): a side's numbers, taken together one way; Sum and Max. -/
import Derived.Test.YtpglchimghnpeaaRdA
import Derived.Conc.MuLone
import Derived.Deep.RegionHeld3
namespace Go.Proofs.Ytpglchimghnpeaa
open Go.RowKit Go.Proofs.ShM Go.Proofs.FixM
set_option linter.unusedVariables false

/-- The tensor's box, the way's, the answer's. -/
structure Tg (w : World) (A : Option Addr) (n c : Nat) (B : Option Addr) (m d : Nat) (x0 : Int) (F : Nat) (W : World) : Prop where
  kp : Kp w W
  t : Bk W w.heap.size A n c B m d
  y : W.heap[w.heap.size + 1]? = some (.cells #[.int .i64 x0, .func (.func F) #[] #[]] 40 (0, 0))
  r : Bk W (w.heap.size + 1 + 1) none 0 0 none 0 0
section
variable {w W W' : World} {A B : Option Addr} {n c m d : Nat} {x0 : Int} {F : Nat}
theorem Tg.tr (h : Tg w A n c B m d x0 F W) (k : Kp W W') : Tg w A n c B m d x0 F W' := ⟨h.kp.tr k, h.t.kp k, kpH k h.y, h.r.kp k⟩
theorem Tg.mk_ (w : World) (A : Option Addr) (n c : Nat) (B : Option Addr) (m d : Nat) (x0 : Int) (F : Nat) :
    Tg w A n c B m d x0 F (((w.alloc (.cells #[.slice A n c, .slice B m d] 24)).alloc (.cells #[.int .i64 x0, .func (.func F) #[] #[]] 40)).alloc (.cells #[.slice none 0 0, .slice none 0 0] 24)) where
  kp := ((Kp.alloc_ _ _).al _).al _
  t := ((Bk.new rfl).alloc_ _).alloc_ _
  y := by
    have h := kpH (Kp.alloc_ _ (.cells #[.slice none 0 0, .slice none 0 0] 24)) (World.alloc_heap_new (w.alloc (.cells #[.slice A n c, .slice B m d] 24)) (.cells #[.int .i64 x0, .func (.func F) #[] #[]] 40))
    rw [World.size_alloc] at h
    exact h
  r := Bk.new (by simp)
theorem Tg.y0 (h : Tg w A n c B m d x0 F W) : W.cell? ⟨w.heap.size + 1, 0, none⟩ = some (.int .i64 x0) := by simp [World.cell?, h.y]
theorem Tg.y1 (h : Tg w A n c B m d x0 F W) : W.cell? ⟨w.heap.size + 1, 1, none⟩ = some (.func (.func F) #[] #[]) := by simp [World.cell?, h.y]
theorem Tg.end_ (h : Tg w A n c B m d x0 F W) (x y : Value) : Kp w ((W.setCell ⟨w.heap.size + 1 + 1, 0, none⟩ x).setCell ⟨w.heap.size + 1 + 1, 1, none⟩ y) :=
  (h.kp.setCell (p := ⟨w.heap.size + 1 + 1, 0, none⟩) (by show w.heap.size ≤ w.heap.size + 1 + 1; omega) x).setCell (p := ⟨w.heap.size + 1 + 1, 1, none⟩) (by show w.heap.size ≤ w.heap.size + 1 + 1; omega) y
end

/-- The answer is the tensor and the error; its numbers lie in memory of the call's own, its shape ahead of them. -/
def RetS (r : Tn) (w : World) (e : Ending) (w' : World) : Prop :=
  ∃ A c B d b, e = .returned (.tuple #[.agg #[.slice A r.1.length c, .slice B r.2.1.length d], .int .i64 r.2.2]) ∧ Sl w' A c r.1 ∧ w.heap.size ≤ b ∧ Own b w' (.slice B r.2.1.length d) r.2.1 ∧ (∀ ad, A = some ad → ad.block < b) ∧ Kp w w'
theorem RetS.err {r : Tn} {err : Int} {w w' : World} (h : r = ([], [], err)) (k : Kp w w') : RetS r w (.returned (.tuple #[.agg #[.slice none 0 0, .slice none 0 0], .int .i64 err])) w' := by
  subst h
  exact ⟨none, 0, none, 0, w.heap.size, rfl, Sl.nil_ _, Nat.le_refl _, Own.nil_ _ _, fun _ h => by (cases h), k⟩

theorem quiet_of {f : FuncId} {args : Array Value} {w : World} {n : Nat} {v : Value} (h : Calls Try.prog f args (w.drewN n) fun e w' => e = .returned v ∧ ∃ m, w' = (w.drewN n).drewN m) :
    Calls Try.prog f args (w.drewN n) fun e w'' => e = .returned v ∧ ∃ m, w'' = w.drewN m := h.mono fun _ _ ⟨he, m, hm⟩ => ⟨he, n + m, by rw [hm]; exact World.drewN_drewN _ _ _⟩

set_option maxHeartbeats 4000000 in
theorem tog_tok (f : Int → Int → Int × Int) (x0 : Int) (F : Nat) (A B : Option Addr) (c d : Nat) (s xs : List Int) (axis : Int) (w : World) (hA : Sl w A c s) (hB : Rd w B xs) (ht : tokV s xs = false) :
    Calls Try.prog 23 #[.agg #[.slice A s.length c, .slice B xs.length d], .int .i64 axis, .agg #[.int .i64 x0, .func (.func F) #[] #[]]] w (RetS (togV f x0 s xs axis) w) := by
  have hlA := hA.rd.len
  have hlB := hB.len
  have F0 := Lib.hid (Tg.mk_ w A s.length c B xs.length d x0 F)
  have HT := Lib.hid (tcheck_any A B c d s xs _ (hA.rd.kp F0.out.kp) (hB.kp F0.out.kp))
  rw [ht] at HT
  have HF : Hid (togV f x0 s xs axis = ([], [], 30)) := by show togV f x0 s xs axis = _; unfold togV; rw [if_pos ht]
  clear hA hB ht
  go_enter Try.func23, Try.ntmps23
  go_wp2_with fail
  refine (Calls.mono (Hid.out HT)) ?_; rintro e0 w1 ⟨rfl, k1⟩
  have F1 := Lib.hid (F0.out.tr k1)
  clear k1
  have r0 := F1.out.r.c0
  have r1 := F1.out.r.c1
  have u0 := F1.out.r.f0 0
  have u1 := F1.out.r.f0 1
  go_wp2
  refine bodyPost_ret (v := .tuple #[.agg #[.slice none 0 0, .slice none 0 0], .int .i64 30]) (by simp [results, Try.results23, go_sem, r0, r1]; try rfl) rfl ?_
  exact RetS.err HF.out (F1.out.end_ _ _)

set_option maxHeartbeats 4000000 in
theorem tog_side (f : Int → Int → Int × Int) (x0 : Int) (F : Nat) (A B : Option Addr) (c d : Nat) (s xs : List Int) (axis : Int) (w : World) (hA : Sl w A c s) (hB : Rd w B xs) (ht : tokV s xs = true) (hx : axis < 0 ∨ (s.length : Int) ≤ axis) :
    Calls Try.prog 23 #[.agg #[.slice A s.length c, .slice B xs.length d], .int .i64 axis, .agg #[.int .i64 x0, .func (.func F) #[] #[]]] w (RetS (togV f x0 s xs axis) w) := by
  have hlA := hA.rd.len
  have hlB := hB.len
  have F0 := Lib.hid (Tg.mk_ w A s.length c B xs.length d x0 F)
  have HT := Lib.hid (tcheck_any A B c d s xs _ (hA.rd.kp F0.out.kp) (hB.kp F0.out.kp))
  rw [ht] at HT
  have HF : Hid (togV f x0 s xs axis = ([], [], 20)) := by show togV f x0 s xs axis = _; unfold togV; rw [if_neg (by simp [ht]), if_pos hx]
  clear hA hB ht
  by_cases h0 : axis < 0
  · clear hx
    go_enter Try.func23, Try.ntmps23
    go_wp2_with fail
    refine (Calls.mono (Hid.out HT)) ?_; rintro e0 w1 ⟨rfl, k1⟩
    have F1 := Lib.hid (F0.out.tr k1)
    clear k1
    have t0 := F1.out.t.c0
    have t1 := F1.out.t.c1
    have r0 := F1.out.r.c0
    have r1 := F1.out.r.c1
    have u0 := F1.out.r.f0 0
    have u1 := F1.out.r.f0 1
    go_wp2
    refine bodyPost_ret (v := .tuple #[.agg #[.slice none 0 0, .slice none 0 0], .int .i64 20]) (by simp [results, Try.results23, go_sem, r0, r1]; try rfl) rfl ?_
    exact RetS.err HF.out (F1.out.end_ _ _)
  · have h1 : (s.length : Int) ≤ axis := by omega
    clear hx
    go_enter Try.func23, Try.ntmps23
    go_wp2_with fail
    refine (Calls.mono (Hid.out HT)) ?_; rintro e0 w1 ⟨rfl, k1⟩
    have F1 := Lib.hid (F0.out.tr k1)
    clear k1
    have t0 := F1.out.t.c0
    have t1 := F1.out.t.c1
    have r0 := F1.out.r.c0
    have r1 := F1.out.r.c1
    have u0 := F1.out.r.f0 0
    have u1 := F1.out.r.f0 1
    go_wp2
    refine bodyPost_ret (v := .tuple #[.agg #[.slice none 0 0, .slice none 0 0], .int .i64 20]) (by simp [results, Try.results23, go_sem, r0, r1]; try rfl) rfl ?_
    exact RetS.err HF.out (F1.out.end_ _ _)

set_option maxHeartbeats 8000000 in
theorem tog_ok (f : Int → Int → Int × Int) (x0 : Int) (F : Nat) (A B : Option Addr) (c d : Nat) (s xs : List Int) (a : Nat) (w : World) (hA : Sl w A c s) (hB : Rd w B xs) (hi : I64s xs) (h0 : I64 x0) (hf : ∀ x y, I64 x → I64 y → (f x y).2 = 0 → I64 (f x y).1)
    (HF : ∀ args W, (callFunc F args).run Try.prog W = .ok (.enter F args) W)
    (hN : ∀ x y, I64 x → I64 y → ∀ W, Calls Try.prog F #[.int .i64 x, .int .i64 y] W fun e W' => e = .returned (.tuple #[.int .i64 (f x y).1, .int .i64 (f x y).2]) ∧ W = W')
    (ht : tokV s xs = true) (ha : a < s.length) :
    Calls Try.prog 23 #[.agg #[.slice A s.length c, .slice B xs.length d], .int .i64 (a : Int), .agg #[.int .i64 x0, .func (.func F) #[] #[]]] w (RetS (togV f x0 s xs a) w) := by
  have hlA := hA.rd.len
  have hlB := hB.len
  obtain ⟨ho, hxl⟩ := tok_iff.1 ht
  have hs3 := (ok_iff.1 ho).1
  have hsd := side_pos (ok_all ho) ha
  have hel := List.length_eraseIdx_of_lt ha
  have hoe := ok_erase ho ha
  have hpe := ok_prod hoe
  have hsz := size_ok hoe
  have F0 := Lib.hid (Tg.mk_ w A s.length c B xs.length d x0 F)
  have HT := Lib.hid (tcheck_any A B c d s xs _ (hA.rd.kp F0.out.kp) (hB.kp F0.out.kp))
  rw [ht] at HT
  have HCL : Hid (∀ W, Kp w W → Calls Try.prog 35 #[.slice A s.length c] W (RetO s W)) := fun W k => clone_any A c s W (hA.rd.kp k) (by omega)
  have HDE : Hid (∀ W A1 c1 b, Own b W (.slice A1 s.length c1) s → Calls Try.prog 55 #[.slice A1 s.length c1, .int .i64 (a : Int), .int .i64 ((a : Int) + 1)] W fun e w' => e = .returned (.slice A1 (s.eraseIdx a).length c1) ∧ Sl w' A1 c1 (s.eraseIdx a) ∧ Below b W w') := fun W A1 c1 b h => pdelete_any A1 c1 b a s W h ha (by omega)
  have HPL : Hid (∀ W, Kp w W → Calls Try.prog 34 #[.slice A s.length c, .int .i64 (a : Int)] W fun e w' => ∃ b1 b2, e = .returned (.func (.func 63) #[] #[.pointer (some ⟨b1, 0, none⟩), .pointer (some ⟨b2, 0, none⟩)]) ∧ Plc s a b1 b2 w' ∧ Kp W w') := fun W k => placer_any A c s a W (hA.rd.kp k) hA.le ho ha
  obtain ⟨N, hNN⟩ : ∃ N : Nat, sizeV (s.eraseIdx a) = (N : Int) := ⟨(sizeV (s.eraseIdx a)).toNat, by omega⟩
  have HSZ : Hid (∀ W A1 c1, Rd W A1 (s.eraseIdx a) → Calls Try.prog 40 #[.slice A1 (s.eraseIdx a).length c1] W fun e w' => e = .returned (.int .i64 (N : Int)) ∧ W = w') := fun W A1 c1 r => by
    have hh := size_any A1 c1 (s.eraseIdx a) W r
    rw [hNN] at hh
    exact hh
  have HP1 : Hid (∀ (q i : Nat) W b1 b2, q < N → (i : Int) < s.getD a 0 → Plc s a b1 b2 W → Calls Try.prog 63 #[.int .i64 (q : Int), .int .i64 (i : Int), .pointer (some ⟨b1, 0, none⟩), .pointer (some ⟨b2, 0, none⟩)] W fun e W' => e = .returned (.int .i64 (putP s a q i)) ∧ ∃ n, W' = W.drewN n) :=
    fun q i W b1 b2 hq hi h => placer1_any s a b1 b2 q i W ho ha (by omega) hi h
  have HPN : Hid (∀ (q i : Nat), q < N → (i : Int) < s.getD a 0 → ∃ m : Nat, putP s a q i = (m : Int) ∧ m < xs.length ∧ (lineL s xs a q)[i]? = some (xs.getD m 0) ∧ xs[m]? = some (xs.getD m 0)) := fun q i hq hi => put_nat ht ha (by omega) hi
  have HLL : Hid (∀ q, (lineL s xs a q).length = (s.getD a 0).toNat) := fun q => line_len s xs a q
  obtain ⟨D, hD⟩ : ∃ D : Nat, s.getD a 0 = (D : Int) := ⟨(s.getD a 0).toNat, by omega⟩
  rw [hD] at HP1 HPN HLL
  obtain ⟨ad, x, hAe, hbx, hx, hc⟩ := hA.rd.at_ ha
  have hxD : x = (D : Int) := by rw [← hD, List.getD, hx]; rfl
  subst hxD
  have HAX : Hid (∀ W, Kp w W → W.cell? (ad.add a) = some (.int .i64 (D : Int))) := fun W k => (k.cell (p := ad.add a) (by rw [block_of_add]; exact hbx)).trans hc
  have HRB : Hid (Rd w B xs) := hB
  have HII : Hid (I64s xs) := hi
  have HX0 : Hid (I64 x0) := h0
  have HFF := Lib.hid hf
  have HNF := Lib.hid hN
  have HN64 : Hid (N ≤ 64) := by show N ≤ 64; omega
  have HD16 : Hid (D ≤ 16) := by show D ≤ 16; omega
  have HRES : Hid (togV f x0 s xs a = if (mapE (fun q : Nat => tkL f x0 (lineL s xs a q)) (List.range N)).2 = 0 then (s.eraseIdx a, (mapE (fun q : Nat => tkL f x0 (lineL s xs a q)) (List.range N)).1, 0) else ([], [], (mapE (fun q : Nat => tkL f x0 (lineL s xs a q)) (List.range N)).2)) := by
    show togV f x0 s xs a = _
    unfold togV togL
    rw [if_neg (by simp [ht]), if_neg (by omega), Int.toNat_natCast, hNN, Int.toNat_natCast]
  obtain ⟨cs, hmk, hown⟩ := mk_ N (by omega)
  have HO := Lib.hid hown
  have HS := Lib.hid (ee_start (f := fun q : Nat => tkL f x0 (lineL s xs a q)) (l := List.range N))
  obtain ⟨S, hS⟩ : ∃ S, S = s.eraseIdx a := ⟨_, rfl⟩
  rw [← hS] at HDE HSZ HRES
  have w1a : IntKind.i64.wrap ((a : Int) + 1) = (a : Int) + 1 := by rw [IntWalk.i64_in _ (by omega)]
  have j0 : ¬ (a : Int) < 0 := by omega
  have j1 : (0 : Int) ≤ (a : Int) := by omega
  have j2 : (a : Int) < (s.length : Int) := by omega
  have j3 : ¬ (s.length : Int) ≤ (a : Int) := by omega
  subst hAe
  generalize togV f x0 s xs a = R at HRES ⊢
  clear hA hB ht ho hsd hx hc hbx hel hi h0 hf hN hxl hoe hpe hsz hNN hD hown hS
  go_enter Try.func23, Try.ntmps23
  go_wp2_with fail
  refine (Calls.mono (Hid.out HT)) ?_; rintro e0 w1 ⟨rfl, k1⟩
  have F1 := Lib.hid (F0.out.tr k1)
  clear k1
  have t0 := F1.out.t.c0
  have t1 := F1.out.t.c1
  go_wp2_with fail
  refine (HCL.out _ F1.out.kp).mono ?_; rintro e0 w2 ⟨A2, c2, rfl, o2, k2⟩
  have K2 := Lib.hid k2
  have F2 := Lib.hid (F1.out.tr k2)
  have O2 := Lib.hid o2
  have HAD : Hid (∀ ad, A2 = some ad → ad.block < w2.heap.size) := fun ad h => (o2.ad h).2
  clear k2 o2 t0 t1
  have t0 := F2.out.t.c0
  have t1 := F2.out.t.c1
  go_wp2_with fail
  refine (HDE.out _ _ _ _ O2.out).mono ?_; rintro e0 w3 ⟨rfl, s3, k3⟩
  have F3 := Lib.hid (F1.out.tr (K2.out.trans k3))
  have S3 := Lib.hid s3
  have HAD : Hid (∀ ad, A2 = some ad → ad.block < w3.heap.size) := fun ad h => Nat.lt_of_lt_of_le (HAD.out ad h) k3.size
  clear k3 s3 t0 t1
  have t0 := F3.out.t.c0
  have t1 := F3.out.t.c1
  go_wp2_with fail
  refine (HPL.out _ F3.out.kp).mono ?_; rintro e0 w4 ⟨b1, b2, rfl, p4, k4⟩
  have F4 := Lib.hid (F3.out.tr k4)
  have S4 := Lib.hid (S3.out.kp k4)
  have P4 := Lib.hid p4
  have HAD : Hid (∀ ad, A2 = some ad → ad.block < w4.heap.size) := fun ad h => Nat.lt_of_lt_of_le (HAD.out ad h) k4.size
  clear k4 p4 t0 t1
  go_wp2_with (go_at_call 40; refine (HSZ.out _ _ _ (by first | exact S4.out.rd | exact S4.out.rd.alloc_ _)).mono ?_; rintro e0 w5 ⟨rfl, rfl⟩)
  go_loopw [45] (fun i wr => ∃ (k : Nat) (zs : List Int), i = .int .i64 k ∧ Hid (Ee (fun q : Nat => tkL f x0 (lineL s xs a q)) (List.range N) k zs) ∧ Hid (Own w4.heap.size wr (.slice (some ⟨w4.heap.size, 0, none⟩) N N) zs) ∧ Hid (Kp w4 wr)) (fun i _ => N - (intOf i).toNat)
  case atStart =>
    refine ⟨0, _, rfl, HS.out, ?_, Kp.alloc_ _ _⟩
    have hh := HO.out w4 w4.heap.size (Nat.le_refl _)
    have e : (List.range N).length = N := by simp
    rw [e]
    exact hh
  case round =>
    obtain ⟨k, zs, rfl, hr, hown, hk⟩ := hrel
    obtain ⟨wo, hwo⟩ : ∃ wo : World, wo = wr := ⟨_, rfl⟩
    subst hwo
    have F5 := Lib.hid (F4.out.tr hk.out)
    have P5 := Lib.hid (P4.out.kp hk.out)
    have hN64 : N ≤ 64 := HN64.out
    have hD16 : D ≤ 16 := HD16.out
    have hkl : k ≤ N := by have := hr.out.1; rwa [List.length_range] at this
    by_cases hlt : k < N
    · have hlt' : (k : Int) < (N : Int) := by omega
      have hx := HAX.out _ F5.out.kp
      have t0 := F5.out.t.c0
      have t1 := F5.out.t.c1
      have y0 := F5.out.y0
      have y1 := F5.out.y1
      have HT0 := Lib.hid (tk_start f x0 (lineL s xs a k))
      have HLK : Hid ((lineL s xs a k).length = D) := by show _ = D; rw [HLL.out]; rfl
      have hrk : (List.range N)[k]? = some k := List.getElem?_range hlt
      have hzk : k < zs.length := by have := hr.out.2.1; rw [List.length_range] at this; omega
      have HP2 : Hid (∀ (i : Nat) W, i < D → Kp wo W → Calls Try.prog 63 #[.int .i64 (k : Int), .int .i64 (i : Int), .pointer (some ⟨b1, 0, none⟩), .pointer (some ⟨b2, 0, none⟩)] W fun e W' => e = .returned (.int .i64 (putP s a k i)) ∧ ∃ n, W' = W.drewN n) :=
        fun i W hi kw => HP1.out k i W b1 b2 hlt (by omega) (P5.out.kp kw)
      have HPK : Hid (∀ (i : Nat), i < D → ∃ m : Nat, putP s a k i = (m : Int) ∧ m < xs.length ∧ (lineL s xs a k)[i]? = some (xs.getD m 0) ∧ xs[m]? = some (xs.getD m 0)) := fun i hi => HPN.out k i hlt (by omega)
      obtain ⟨r, hrr⟩ : ∃ r, r = tkL f x0 (lineL s xs a k) := ⟨_, rfl⟩
      rw [← hrr] at HT0
      have HOKS : Hid (∀ y, r = (y, 0) → Ee (fun q : Nat => tkL f x0 (lineL s xs a q)) (List.range N) (k + 1) (zs.set k y)) := fun y e => by
        have hh := ee_step hr.out hrk (by show (tkL f x0 (lineL s xs a k)).2 = 0; rw [← hrr, e])
        have e2 : (tkL f x0 (lineL s xs a k)).1 = y := by rw [← hrr, e]
        simp only [e2] at hh
        exact hh
      have HBAD : Hid (∀ er, r = (0, er) → er ≠ 0 → R = ([], [], er)) := fun er e he => by
        have hh := ee_bad hr.out hrk (by show (tkL f x0 (lineL s xs a k)).2 ≠ 0; rw [← hrr, e]; exact he)
        have e2 : (tkL f x0 (lineL s xs a k)).2 = er := by rw [← hrr, e]
        simp only [e2] at hh
        rw [HRES.out, hh, if_neg he]
      obtain ⟨L, hL⟩ : ∃ L, L = lineL s xs a k := ⟨_, rfl⟩
      rw [← hL] at HT0 HLK HPK
      clear hrk hrr hL
      go_wp2
      go_loopw [12, 13, 55] (fun v e i wx => ∃ (j : Nat) (y : Int), v = .int .i64 y ∧ e = .int .i64 0 ∧ i = .int .i64 j ∧ Hid (Tk f L r j y) ∧ Hid (I64 y) ∧ Hid (∃ n, wx = wo.drewN n)) (fun _ _ i _ => D - (intOf i).toNat)
      case atStart => exact ⟨0, x0, rfl, rfl, rfl, HT0.out, HX0.out, ⟨0, rfl⟩⟩
      case round =>
        obtain ⟨j, y, rfl, rfl, rfl, hT, hy, hn⟩ := hrel
        have KX : Hid (Kp wo wr) := by obtain ⟨n, e⟩ := hn.out; show Kp wo wr; rw [e]; exact Kp.drewN_ _ _
        have F6 := Lib.hid (F5.out.tr KX.out)
        clear t0 t1 y0 y1 hx
        have t0 := F6.out.t.c0
        have t1 := F6.out.t.c1
        have y1 := F6.out.y1
        by_cases hj : j < D
        · have hj' : (j : Int) < (D : Int) := by omega
          obtain ⟨m, hm1, hm2, hm3, hm4⟩ := HPK.out j hj
          obtain ⟨bd, v, hBe, hbv, hv, hcv⟩ := HRB.out.at_ hm2
          have hvv : xs.getD m 0 = v := by rw [hv] at hm4; injection hm4 with e; exact e.symm
          rw [hvv] at hm3 hm4
          have hcv' : wr.cell? (bd.add m) = some (.int .i64 v) := (F6.out.kp.cell (p := bd.add m) (by rw [block_of_add]; exact hbv)).trans hcv
          have hv64 : I64 v := HII.out.get hm4
          have HQ2 : Hid (∀ m', Calls Try.prog 63 #[.int .i64 (k : Int), .int .i64 (j : Int), .pointer (some ⟨b1, 0, none⟩), .pointer (some ⟨b2, 0, none⟩)] (wr.drewN m') fun e W' => e = .returned (.int .i64 (m : Int)) ∧ ∃ n', W' = (wr.drewN m').drewN n') := fun m' => by
            have hh := HP2.out j (wr.drewN m') hj (KX.out.tr (Kp.drewN_ _ _))
            rw [hm1] at hh
            exact hh
          have HG := Lib.hid (fun W => HNF.out y v hy.out hv64 W)
          have i1 : (0 : Int) ≤ (m : Int) := by omega
          have i2 : (m : Int) < (xs.length : Int) := by omega
          subst hBe
          by_cases he : (f y v).2 = 0
          · have HST := Lib.hid (tk_step hT.out hm3 he)
            have HI2 : Hid (I64 (f y v).1) := HFF.out y v hy.out hv64 he
            rw [he] at HG
            generalize (f y v).1 = z at HST HI2 HG
            clear hm1 hm3 hm4 hv hcv hvv he
            go_wp2
            go_quiet (first | (go_at_call 63; exact quiet_of (HQ2.out _)) | (exact quiet_same (HG.out _)))
            go_wp2
            go_roundw
            case rel => exact ⟨j + 1, z, rfl, rfl, by go_num, HST.out, HI2.out, by obtain ⟨n, e⟩ := hn.out; exact ⟨_, by rw [e]; exact World.drewN_drewN _ _ _⟩⟩
            case measure => simp [intOf]; omega
          · have HBD := Lib.hid (HBAD.out _ (tk_bad hT.out hm3 he) he)
            have he' : ((f y v).2 != 0) = true := by simpa using he
            generalize (f y v).2 = er at HG HBD he'
            generalize (f y v).1 = z at HG
            have r0 := F6.out.r.c0
            have r1 := F6.out.r.c1
            have u0 := F6.out.r.f0 0
            have u1 := F6.out.r.f0 1
            clear hm1 hm3 hm4 hv hcv hvv he
            go_wp2
            go_quiet (first | (go_at_call 63; exact quiet_of (HQ2.out _)) | (exact quiet_same (HG.out _)))
            go_wp2
            refine bodyPost_ret (v := .tuple #[.agg #[.slice none 0 0, .slice none 0 0], .int .i64 er]) (by simp [results, Try.results23, go_sem, r0, r1]; try rfl) rfl ?_
            exact RetS.err HBD.out ((F6.out.tr (Kp.drewN_ _ _)).end_ _ _)
        · have hj' : ¬ (j : Int) < (D : Int) := by omega
          have HEN := Lib.hid (HOKS.out y (tk_end hT.out (by rw [HLK.out]; exact hj)))
          have HW := Lib.hid (hown.out.kp KX.out)
          have hcz := HW.out.cell_ (j := k) (List.getElem?_eq_getElem hzk)
          have hfz := HW.out.froz_ k
          have HK5 := Lib.hid (hk.out.tr KX.out)
          clear t0 t1 y1
          go_wp2
          go_roundw
          case rel => exact ⟨k + 1, _, by go_num, HEN.out, HW.out.set_ _ _, HK5.out.setCell (p := ⟨w4.heap.size, k, none⟩) (Nat.le_refl _) _⟩
          case measure => simp [intOf]; omega
    · have hlt' : ¬ (k : Int) < (N : Int) := by omega
      have HE := Lib.hid (ee_end hr.out (by rw [List.length_range]; exact hlt))
      have HFR : Hid (R = (S, zs, 0)) := by show R = _; rw [HRES.out, HE.out, if_pos rfl]
      have hzl : zs.length = N := by have := hr.out.2.1; rwa [List.length_range] at this
      have HZL := Lib.hid hzl
      have r0 := F5.out.r.c0
      have r1 := F5.out.r.c1
      have u0 := F5.out.r.f0 0
      have u1 := F5.out.r.f0 1
      clear hzl
      go_wp2
      refine bodyPost_ret (v := .tuple #[.agg #[.slice A2 S.length c2, .slice (some ⟨w4.heap.size, 0, none⟩) N N], .int .i64 0]) (by simp [results, Try.results23, go_sem, r0, r1]; try rfl) rfl ?_
      have hlt4 : w.heap.size + 1 + 1 < w4.heap.size := F4.out.r.lt
      have hS := (S4.out.kp hk.out)
      rw [HFR.out]
      refine ⟨A2, c2, some ⟨w4.heap.size, 0, none⟩, N, w4.heap.size, ?_, ⟨(hS.rd.past F5.out.r _ _), hS.le, hS.cap⟩, F4.out.kp.size, ?_, HAD.out, F5.out.end_ _ _⟩
      · rw [HZL.out]
      · rw [HZL.out]
        exact (hown.out.put_ (p := ⟨w.heap.size + 1 + 1, 0, none⟩) hlt4 _).put_ (p := ⟨w.heap.size + 1 + 1, 1, none⟩) hlt4 _

theorem together_any (f : Int → Int → Int × Int) (x0 : Int) (F : Nat) (A B : Option Addr) (c d : Nat) (s xs : List Int) (axis : Int) (w : World) (hA : Sl w A c s) (hB : Rd w B xs) (hi : I64s xs) (h0 : I64 x0) (hf : ∀ x y, I64 x → I64 y → (f x y).2 = 0 → I64 (f x y).1)
    (HF : ∀ args W, (callFunc F args).run Try.prog W = .ok (.enter F args) W)
    (hN : ∀ x y, I64 x → I64 y → ∀ W, Calls Try.prog F #[.int .i64 x, .int .i64 y] W fun e W' => e = .returned (.tuple #[.int .i64 (f x y).1, .int .i64 (f x y).2]) ∧ W = W') :
    Calls Try.prog 23 #[.agg #[.slice A s.length c, .slice B xs.length d], .int .i64 axis, .agg #[.int .i64 x0, .func (.func F) #[] #[]]] w (RetS (togV f x0 s xs axis) w) := by
  cases ht : tokV s xs with
  | false => exact tog_tok f x0 F A B c d s xs axis w hA hB ht
  | true =>
    by_cases hx : axis < 0 ∨ (s.length : Int) ≤ axis
    · exact tog_side f x0 F A B c d s xs axis w hA hB ht hx
    · obtain ⟨a, rfl⟩ : ∃ a : Nat, axis = (a : Int) := ⟨axis.toNat, by omega⟩
      exact tog_ok f x0 F A B c d s xs a w hA hB hi h0 hf HF hN ht (by omega)

end Go.Proofs.Ytpglchimghnpeaa
