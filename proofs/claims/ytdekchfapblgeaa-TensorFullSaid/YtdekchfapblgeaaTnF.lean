/- Whether two tensors are the same; the place that a place comes from, and the document's: what each answers. -/
import Derived.Test.YtdekchfapblgeaaTnE
namespace Go.Proofs.Ytdekchfapblgeaa
open Go.RowKit Go.Proofs.ShM

set_option maxHeartbeats 2000000 in
theorem tsame_any (A B C D : Option Addr) (c d g h : Nat) (s xs t ys : List Int) (w : World) (hA : Rd w A s) (hB : Rd w B xs) (hC : Rd w C t) (hD : Rd w D ys) :
    Calls Try.prog 13 #[.agg #[.slice A s.length c, .slice B xs.length d], .agg #[.slice C t.length g, .slice D ys.length h]] w fun e w' => e = .returned (.bool ((s == t) && (xs == ys))) ∧ Kp w w' := by
  have l1 := hA.len
  have l2 := hB.len
  have l3 := hC.len
  have l4 := hD.len
  have K0 : Hid (Kp w ((w.alloc (.cells #[.slice A s.length c, .slice B xs.length d] 24)).alloc (.cells #[.slice C t.length g, .slice D ys.length h] 24))) := (Kp.alloc_ _ _).tr (Kp.alloc_ _ _)
  have H1 : Hid (∀ W, Kp w W → Calls Try.prog 27 #[.slice A s.length c, .slice C t.length g] W fun e w' => e = .returned (.bool (s == t)) ∧ ∃ n, w' = W.drewN n) := fun W k => same_any A C c g s t W (hA.kp k) (hC.kp k)
  have H2 : Hid (∀ W, Kp w W → Calls Try.prog 27 #[.slice B xs.length d, .slice D ys.length h] W fun e w' => e = .returned (.bool (xs == ys)) ∧ ∃ n, w' = W.drewN n) := fun W k => same_any B D d h xs ys W (hB.kp k) (hD.kp k)
  clear hA hB hC hD
  cases e1 : (s == t) with
  | false =>
    rw [e1] at H1
    clear e1
    go_enter Try.func13, Try.ntmps13
    go_wp2_with fail
    refine (Calls.mono (H1.out _ K0.out)) ?_; rintro e w1 ⟨rfl, n, rfl⟩
    go_wp2
    go_ret
    exact ⟨rfl, K0.out.tr (Kp.drewN_ _ _)⟩
  | true =>
    rw [e1] at H1
    clear e1
    obtain ⟨b, hb⟩ : ∃ b, b = (xs == ys) := ⟨_, rfl⟩
    rw [← hb] at H2 ⊢
    clear hb
    go_enter Try.func13, Try.ntmps13
    go_wp2_with fail
    refine (Calls.mono (H1.out _ K0.out)) ?_; rintro e w1 ⟨rfl, n, rfl⟩
    go_wp2_with fail
    refine (Calls.mono (H2.out _ (K0.out.tr (Kp.drewN_ _ _)))) ?_; rintro e w2 ⟨rfl, m, rfl⟩
    go_wp2
    go_ret
    exact ⟨by simp, K0.out.tr (Kp.drewN_ _ _)⟩

section
variable {w : World} {A : Option Addr} {x : List Int}
/-- What is left of a list behind its first j numbers. -/
def cutA (A : Option Addr) (c j : Nat) : Option Addr := if c = j then A else A.map (·.add j)
theorem Rd.cut (h : Rd w A x) {c j : Nat} (hc : x.length ≤ c) : Rd w (cutA A c j) (x.drop j) := by
  unfold cutA
  split
  · rename_i e
    rw [List.drop_eq_nil_of_le (by omega)]; exact Rd.nil _ _
  · refine ⟨by have := h.1; simp; omega, fun hp => ?_⟩
    obtain ⟨ad, rfl, hb, hcs⟩ := h.2 (by simp at hp; omega)
    refine ⟨ad.add j, rfl, by rw [block_of_add]; exact hb, fun i u hu => ?_⟩
    rw [List.getElem?_drop] at hu
    rw [add_of_add]
    exact hcs _ _ hu
/-- A slice of all from the j-th on. -/
theorem run_cut (W : World) (A : Option Addr) (n c j : Nat) (hj : j ≤ n) : (Instr.sliceAt 22 (.slice A n c) (some (.int .i64 (j : Int))) none none).run Try.prog W = .ok (.slice (cutA A c j) (n - j) (c - j)) W := by
  have hu : Try.prog.underlying 22 = some (.slice (Try.prog.elem 22)) := by kernel_rfl
  have hsz : ((sizeOf (Try.prog.elem 22)).run Try.prog W) = .ok 1 W := by
    obtain ⟨i, hi, _, h1, _⟩ := info_parts int_info
    simp [sizeOf, typeInfo, show Try.prog.elem 22 = 3 by kernel_rfl, hi, h1]
  rw [run_sliceAt_slice W _ _ _ _ _ hu, run_slice_l W _ A n c hu .i64 j (by omega) (by omega), hsz]
  simp [Result.andThen, sliced, cutA]
end

namespace TnF
/-- The masked index, so far: its first k numbers. -/
def Rel (s y : List Int) (k : Nat) (zs : List Int) : Prop := k ≤ s.length ∧ s.length ≤ y.length ∧ zs = maskL (s.take k) (y.take k)
theorem mask_snoc (s : List Int) : ∀ {y : List Int} {x z : Int}, s.length = y.length → maskL (s ++ [x]) (y ++ [z]) = maskL s y ++ [if x = 1 then 0 else z] := by
  induction s with
  | nil => intro y x z h; cases y with
    | nil => rfl
    | cons _ _ => simp at h
  | cons a s ih =>
    intro y x z h
    cases y with
    | nil => simp at h
    | cons b y => simp only [List.cons_append, maskL]; rw [ih (by simpa using h)]
theorem mask_len (s : List Int) : ∀ {y : List Int}, s.length ≤ y.length → (maskL s y).length = s.length := by
  induction s with
  | nil => intro y _; cases y <;> rfl
  | cons a s ih =>
    intro y h
    cases y with
    | nil => simp at h
    | cons b y => simp only [maskL, List.length_cons]; rw [ih (by simpa using h)]
theorem start {s y : List Int} (h : s.length ≤ y.length) : Rel s y 0 [] := ⟨Nat.zero_le _, h, by simp [maskL]⟩
theorem len {s y : List Int} {k : Nat} {zs : List Int} (h : Rel s y k zs) : zs.length = k := by
  obtain ⟨h1, h2, rfl⟩ := h
  rw [mask_len _ (by simp; omega)]
  simp; omega
theorem step {s y : List Int} {k : Nat} {zs ws : List Int} {x z v : Int} (h : Rel s y k zs) (hx : s[k]? = some x) (hz : y[k]? = some z) (hv : v = if x = 1 then 0 else z) (hw : ws = zs ++ [v]) : Rel s y (k + 1) ws := by
  obtain ⟨h1, h2, rfl⟩ := h
  have hk := (List.getElem?_eq_some_iff.1 hx).1
  refine ⟨hk, h2, ?_⟩
  rw [take_of hx, take_of hz, mask_snoc _ (by simp; omega), hw, hv]
theorem end_ {s y : List Int} {k : Nat} {zs : List Int} (h : Rel s y k zs) (hk : ¬ k < s.length) : zs = maskL s y := by
  obtain ⟨h1, h2, rfl⟩ := h
  obtain rfl : k = s.length := by omega
  rw [List.take_length]
  clear h1 hk
  induction s generalizing y with
  | nil => cases y <;> simp [maskL]
  | cons a s ih => cases y with
    | nil => simp at h2
    | cons b y =>
      simp only [List.length_cons, List.take_succ_cons, maskL]
      rw [ih (by simpa using h2)]
end TnF

set_option maxHeartbeats 2000000 in
/-- The document's. -/
theorem from_any (A B : Option Addr) (c d : Nat) (s g : List Int) (p : Int) (w : World) (hA : Rd w A s) (hB : Rd w B g) (hf : fitsV s g = true) (p0 : 0 ≤ p) (p1 : p < sizeV g) :
    Calls Try.prog 37 #[.slice A s.length c, .slice B g.length d, .int .i64 p] w fun e w' => e = .returned (.int .i64 (srcI s g p)) ∧ Kp w w' := by
  obtain ⟨ok1, ok2, hle, _⟩ := fits_al hf
  have hs3 := (ok_iff.1 ok1).1
  have hg3 := (ok_iff.1 ok2).1
  have hsp := src_place hf p0 (by rw [← size_ok ok2]; exact p1)
  have hdl := digs_len g p
  obtain ⟨x, hx⟩ : ∃ x, x = digs g p := ⟨_, rfl⟩
  rw [← hx] at hsp hdl
  have HI : Hid (Calls Try.prog 45 #[.slice B g.length d, .int .i64 p] w (RetL x 0 w)) := by
    have hh := rindex_any B d g p w hB
    rw [index_yes p0 p1, ← hx] at hh
    exact hh
  obtain ⟨j, hj⟩ : ∃ j, g.length = s.length + j := ⟨g.length - s.length, by omega⟩
  rw [show g.length - s.length = j by omega] at hsp
  have hyl : s.length ≤ (x.drop j).length := by simp; omega
  have HSP := Lib.hid hsp
  have HX := Lib.hid hdl
  clear hx hsp hdl hf p0 p1 ok1 ok2
  have HS := Lib.hid hA
  have HP : Hid (∀ W A1 c1, Kp w W → Rd W A1 (maskL s (x.drop j)) → Calls Try.prog 34 #[.slice A s.length c, .slice A1 (maskL s (x.drop j)).length c1] W (RetK (srcI s g p) 0 W)) := fun W A1 c1 k r => by
    have hh := rplace_any A A1 c c1 s _ W (HS.out.kp k) r
    rw [HSP.out] at hh
    exact hh
  obtain ⟨q, hq⟩ : ∃ q, q = srcI s g p := ⟨_, rfl⟩
  rw [← hq] at HP ⊢
  clear HSP hq hB
  obtain ⟨gl, hgl⟩ : ∃ gl, gl = g.length := ⟨_, rfl⟩
  rw [← hgl] at HI HX hj hg3 hle ⊢
  clear hgl
  have e1 : IntKind.i64.wrap ((gl : Int) - (s.length : Int)) = (j : Int) := by rw [IntWalk.i64_in _ (by omega)]; omega
  have HJ := Lib.hid (And.intro hj hyl)
  have hjl : j ≤ gl := by omega
  clear hj hyl hle hA
  go_enter Try.func37, Try.ntmps37
  go_wp2_with fail
  refine (Calls.mono (Hid.out HI)) ?_; rintro e w1 ⟨A1, c1, rfl, r1, k1⟩
  rw [HX.out]
  obtain ⟨A3, hA3⟩ : ∃ A3, A3 = cutA A1 c1 j := ⟨_, rfl⟩
  obtain ⟨c3, hc3⟩ : ∃ c3, c3 = c1 - j := ⟨_, rfl⟩
  have hcut : ∀ W, (Instr.sliceAt 22 (.slice A1 gl c1) (some (.int .i64 (j : Int))) none none).run Try.prog W = .ok (.slice A3 s.length c3) W := fun W => by
    rw [hA3, hc3, run_cut W A1 gl c1 j hjl, show gl - j = s.length by have := HJ.out.1; omega]
  have K1 := Lib.hid k1
  obtain ⟨y, hy⟩ : ∃ y, y = x.drop j := ⟨_, rfl⟩
  have RY : Hid (Rd w1 A3 y) := by show Rd w1 A3 y; rw [hA3, hy]; exact r1.rd.cut r1.le
  rw [← hy] at HP HJ
  have HR0 := Lib.hid (TnF.start HJ.out.2)
  clear r1 k1 hA3 hc3 hy HX HI
  go_wp2
  go_loopw [9, 10] (fun v i wr => ∃ (k : Nat) (zs : List Int) (Az : Option Addr) (cz : Nat), i = .int .i64 k ∧ v = .slice Az zs.length cz ∧ Hid (TnF.Rel s y k zs) ∧ Hid (Own w1.heap.size wr (.slice Az zs.length cz) zs) ∧ Hid (Kp w1 wr)) (fun _ i _ => s.length - (intOf i).toNat)
  case atStart => exact ⟨0, [], none, 0, rfl, rfl, HR0.out, Own.nil_ _ _, Kp.refl _⟩
  case round =>
    obtain ⟨k, zs, Az, cz, rfl, rfl, hr, hown, hk⟩ := hrel
    by_cases hlt : k < s.length
    · obtain ⟨ad, x0, rfl, hbl, hx, hc⟩ := HS.out.at_ hlt
      obtain ⟨bd, z, rfl, hbz, hz, hcz⟩ := RY.out.at_ (k := k) (by have := HJ.out.2; omega)
      have hc' : wr.cell? (ad.add k) = some (.int .i64 x0) := ((K1.out.tr hk.out).cell (by rw [block_of_add]; exact hbl)).trans hc
      have hcz' : wr.cell? (bd.add k) = some (.int .i64 z) := (hk.out.cell (by rw [block_of_add]; exact hbz)).trans hcz
      have HZL := Lib.hid (TnF.len hr.out)
      have HBs := Lib.hid hk.out.size
      have HX := Lib.hid (And.intro hx hz)
      have hsl : k ≤ 3 := by omega
      clear hx hz hc hcz hbl hbz
      by_cases h1 : x0 = 1
      · subst h1
        have HV : Hid ((0 : Int) = if (1 : Int) = 1 then 0 else z) := by show (0 : Int) = _; simp
        go_wp2_with (at_builtin; refine wpList_app rfl (.tmp 37) (.tmp 38) rfl _ zs rfl (hown.out.kp (Kp.alloc_ _ _)) (some ⟨wr.heap.size, 0, none⟩) 1 [0] _ rfl rfl (Rd.one_ rfl) (by have := HZL.out; simp; omega) (by have := HBs.out; simp; omega) ?_; intro ys A2 c2 w2 HZ o2 b2; have HO := Lib.hid o2; have HB := Lib.hid b2; clear o2 b2)
        go_roundw
        case rel => exact ⟨k + 1, ys, A2, c2, by go_num, rfl, TnF.step hr.out HX.out.1 HX.out.2 HV.out HZ.out, HO.out, (hk.out.al _).trans HB.out⟩
        case measure => simp [intOf]; omega
      · have h2 : (x0 == 1) = false := by simpa using h1
        have HV : Hid (z = if x0 = 1 then 0 else z) := by show z = _; rw [if_neg h1]
        clear h1
        go_wp2_with (at_builtin; refine wpList_app rfl (.tmp 40) (.tmp 45) rfl _ zs rfl (hown.out.kp (Kp.alloc_ _ _)) (some ⟨wr.heap.size, 0, none⟩) 1 [z] _ rfl rfl (Rd.one_ rfl) (by have := HZL.out; simp; omega) (by have := HBs.out; simp; omega) ?_; intro ys A2 c2 w2 HZ o2 b2; have HO := Lib.hid o2; have HB := Lib.hid b2; clear o2 b2)
        go_roundw
        case rel => exact ⟨k + 1, ys, A2, c2, by go_num, rfl, TnF.step hr.out HX.out.1 HX.out.2 HV.out HZ.out, HO.out, (hk.out.al _).trans HB.out⟩
        case measure => simp [intOf]; omega
    · have HZ := Lib.hid (TnF.end_ hr.out hlt)
      obtain rfl : zs = maskL s y := HZ.out
      have K2 := Lib.hid (K1.out.tr hk.out)
      go_wp2_with fail
      refine (Calls.mono (HP.out _ _ _ K2.out hown.out.sl.rd)) ?_; rintro e w3 ⟨rfl, k3⟩
      go_wp2
      go_ret
      exact ⟨rfl, K2.out.tr k3⟩

namespace TnF
/-- The index in place, so far: its first k numbers behind j. -/
def Pl (s x : List Int) (j k : Nat) (zs : List Int) : Prop := k ≤ s.length ∧ s.length + j = x.length ∧ zs = x.take j ++ (maskL (s.take k) ((x.drop j).take k) ++ x.drop (j + k))
theorem pstart {s x : List Int} {j : Nat} (h : s.length + j = x.length) : Pl s x j 0 x := ⟨Nat.zero_le _, h, by simp [maskL]⟩
theorem pstep {s x : List Int} {j k : Nat} {zs ws : List Int} {a : Int} (h : Pl s x j k zs) (ha : s[k]? = some a) (hw : ws = if a = 1 then zs.set (j + k) 0 else zs) : Pl s x j (k + 1) ws := by
  obtain ⟨h1, h2, rfl⟩ := h
  have hk := (List.getElem?_eq_some_iff.1 ha).1
  obtain ⟨z, hz⟩ : ∃ z, x[j + k]? = some z := ⟨x[j + k], List.getElem?_eq_getElem (by omega)⟩
  have hz' : (x.drop j)[k]? = some z := by rw [List.getElem?_drop]; exact hz
  have e2 : x.drop (j + k) = z :: x.drop (j + (k + 1)) := drop_of hz
  have hl : (maskL (s.take k) ((x.drop j).take k)).length = k := by
    rw [mask_len _ (by simp; omega)]; simp; omega
  refine ⟨hk, h2, ?_⟩
  rw [take_of ha, take_of hz', mask_snoc _ (by simp; omega), hw, e2]
  split
  · rw [List.set_append_right _ _ (by simp; omega), List.set_append_right _ _ (by simp; omega)]
    have e3 : j + k - (x.take j).length - (maskL (s.take k) ((x.drop j).take k)).length = 0 := by simp [hl]; omega
    rw [e3]; simp
  · simp
theorem plen {s x : List Int} {j k : Nat} {zs : List Int} (h : Pl s x j k zs) : zs.length = x.length := by
  obtain ⟨h1, h2, rfl⟩ := h
  have hl : (maskL (s.take k) ((x.drop j).take k)).length = k := by
    rw [mask_len _ (by simp; omega)]; simp; omega
  simp [hl]; omega
theorem pend {s x : List Int} {j k : Nat} {zs : List Int} (h : Pl s x j k zs) (hk : ¬ k < s.length) : zs.drop j = maskL s (x.drop j) := by
  obtain ⟨h1, h2, rfl⟩ := h
  obtain rfl : k = s.length := by omega
  have e0 : (x.take j).length = j := by simp; omega
  have e1 : x.drop (j + s.length) = [] := List.drop_eq_nil_of_le (by omega)
  have e2 : (x.drop j).take s.length = x.drop j := List.take_of_length_le (by simp; omega)
  rw [List.drop_left' e0, e1, List.take_length, e2, List.append_nil]
end TnF

set_option maxHeartbeats 2000000 in
theorem source_any (A B : Option Addr) (c d : Nat) (s g : List Int) (p : Int) (w : World) (hA : Rd w A s) (hB : Rd w B g) (hf : fitsV s g = true) (p0 : 0 ≤ p) (p1 : p < sizeV g) :
    Calls Try.prog 47 #[.slice B g.length d, .int .i64 p, .slice A s.length c] w fun e w' => e = .returned (.int .i64 (srcI s g p)) ∧ Kp w w' := by
  obtain ⟨ok1, ok2, hle, _⟩ := fits_al hf
  have hs3 := (ok_iff.1 ok1).1
  have hg3 := (ok_iff.1 ok2).1
  have hsp := src_place hf p0 (by rw [← size_ok ok2]; exact p1)
  have hdl := digs_len g p
  obtain ⟨x, hx⟩ : ∃ x, x = digs g p := ⟨_, rfl⟩
  rw [← hx] at hsp hdl
  have HI : Hid (Calls Try.prog 24 #[.slice B g.length d, .int .i64 p] w (RetP (x, 0) w)) := by
    have hh := index_own B d g p w hB
    rw [index_yes p0 p1, ← hx] at hh
    exact hh
  obtain ⟨j, hj⟩ : ∃ j, g.length = s.length + j := ⟨g.length - s.length, by omega⟩
  rw [show g.length - s.length = j by omega] at hsp
  have HSP := Lib.hid hsp
  have HX := Lib.hid hdl
  clear hx hsp hdl hf p0 p1 ok1 ok2
  have HS := Lib.hid hA
  have HP : Hid (∀ W A1 n1 c1 y, Kp w W → Rd W A1 y → y = maskL s (x.drop j) → n1 = y.length → Calls Try.prog 44 #[.slice A s.length c, .slice A1 n1 c1] W (RetN (srcI s g p, 0) W)) := fun W A1 n1 c1 y k r e en => by
    have hh := place_any A A1 c c1 s y W (HS.out.kp k) r
    rw [e, HSP.out] at hh
    rw [en, e]
    exact hh
  obtain ⟨q, hq⟩ : ∃ q, q = srcI s g p := ⟨_, rfl⟩
  rw [← hq] at HP ⊢
  clear HSP hq hB
  obtain ⟨gl, hgl⟩ : ∃ gl, gl = g.length := ⟨_, rfl⟩
  rw [← hgl] at HI HX hj hg3 hle ⊢
  clear hgl
  have e1 : IntKind.i64.wrap ((gl : Int) - (s.length : Int)) = (j : Int) := by rw [IntWalk.i64_in _ (by omega)]; omega
  have HJ := Lib.hid hj
  have hjl : j ≤ gl := by omega
  have hsl3 : s.length ≤ 3 := hs3
  clear hj hle hA
  go_enter Try.func47, Try.ntmps47
  go_wp2_with fail
  refine (Calls.mono (Hid.out HI)) ?_; rintro e w1 ⟨A1, c1, rfl, o1, k1⟩
  have hz1 : ((x, (0 : Int)) : List Int × Int).1.length = gl := HX.out
  rw [hz1] at o1 ⊢
  obtain ⟨A3, hA3⟩ : ∃ A3, A3 = cutA A1 c1 j := ⟨_, rfl⟩
  obtain ⟨c3, hc3⟩ : ∃ c3, c3 = c1 - j := ⟨_, rfl⟩
  have hcut : ∀ W, (Instr.sliceAt 22 (.slice A1 gl c1) (some (.int .i64 (j : Int))) none none).run Try.prog W = .ok (.slice A3 s.length c3) W := fun W => by
    rw [hA3, hc3, run_cut W A1 gl c1 j hjl, show gl - j = s.length by have := HJ.out; omega]
  have K1 := Lib.hid k1
  have O1 := Lib.hid o1
  have HC := Lib.hid hA3
  have HR0 := Lib.hid (TnF.pstart (s := s) (x := x) (j := j) (by have := HJ.out; have := HX.out; omega))
  have HLE : Hid (gl ≤ c1) := by have := o1.sl.le; rw [← HX.out]; exact this
  clear o1 k1 hc3 hA3 HI hz1
  go_wp2
  go_loopw [9, 10, 28] (fun _ _ i wr => ∃ (k : Nat) (zs : List Int), i = .int .i64 k ∧ Hid (TnF.Pl s x j k zs) ∧ Hid (Own w.heap.size wr (.slice A1 gl c1) zs) ∧ Hid (Kp w wr)) (fun _ _ i _ => s.length - (intOf i).toNat)
  case atStart => exact ⟨0, x, rfl, HR0.out, O1.out, K1.out⟩
  case round =>
    obtain ⟨k, zs, rfl, hr, hown, hk⟩ := hrel
    by_cases hlt : k < s.length
    · obtain ⟨ad, x0, rfl, hbl, hx, hc⟩ := HS.out.at_ hlt
      have hc' : wr.cell? (ad.add k) = some (.int .i64 x0) := (hk.out.cell (by rw [block_of_add]; exact hbl)).trans hc
      have HX0 := Lib.hid hx
      clear hx hc hbl
      by_cases h1 : x0 = 1
      · subst h1
        have hzl : zs.length = gl := (TnF.plen hr.out).trans HX.out
        obtain ⟨gd, hA1, hg1, hg2⟩ := hown.out.addr (by have := HJ.out; omega)
        subst hA1
        obtain ⟨u, hu⟩ : ∃ u, zs[j + k]? = some u := ⟨zs[j + k]'(by have := HJ.out; omega), List.getElem?_eq_getElem _⟩
        have hne : c1 ≠ j := by have := HJ.out; have := HLE.out; omega
        have hA3 : A3 = some ⟨gd, j, none⟩ := by rw [HC.out]; unfold cutA; rw [if_neg hne]; simp [Go.WideShapes.add_plain]
        have hcz := hown.out.cell_ hu
        have hfz := hown.out.froz_ (j + k)
        have HN : Hid (zs.set (j + k) 0 = if (1 : Int) = 1 then zs.set (j + k) 0 else zs) := by show _ = _; rw [if_pos rfl]
        clear hu hzl hne
        subst hA3
        go_wp2
        go_roundw
        case rel => exact ⟨k + 1, zs.set (j + k) 0, by go_num, TnF.pstep hr.out HX0.out HN.out, hown.out.set_ _ _, hk.out.setCell (p := ⟨gd, j + k, none⟩) hg1 _⟩
        case measure => simp [intOf]; omega
      · have h2 : (x0 == 1) = false := by simpa using h1
        have HN : Hid (zs = if x0 = 1 then zs.set (j + k) 0 else zs) := by show zs = _; rw [if_neg h1]
        clear h1
        go_wp2
        go_roundw
        case rel => exact ⟨k + 1, zs, by go_num, TnF.pstep hr.out HX0.out HN.out, hown.out, hk.out⟩
        case measure => simp [intOf]; omega
    · have HZ := Lib.hid (TnF.pend hr.out hlt)
      have RZ : Hid (Rd wr A3 (zs.drop j)) := by
        show Rd wr A3 _
        rw [HC.out]
        exact hown.out.sl.rd.cut (by have := TnF.plen hr.out; have := HX.out; have := HLE.out; omega)
      have HLN : Hid (s.length = (zs.drop j).length) := by show s.length = _; have := TnF.plen hr.out; have := HX.out; have := HJ.out; simp; omega
      go_wp2_with fail
      refine (Calls.mono (HP.out _ _ _ _ _ hk.out RZ.out HZ.out HLN.out)) ?_; rintro e w3 ⟨rfl, n3, rfl⟩
      go_wp2
      go_ret
      exact ⟨rfl, hk.out.tr (Kp.drewN_ _ _)⟩
end Go.Proofs.Ytdekchfapblgeaa
