/- The landed infer: its small calls: a list cloned, turned, with another side, without one, whether it may be, whether there is such a side; two shapes joined. -/
import Derived.Test.YtnkkkpanlnencaaR11A
import Derived.Deep.LoopGhost
import Derived.Shelf.Slices.Delete
import Derived.Outline
import Derived.WalkMore
namespace Go.Proofs.Ytnkkkpanlnencaa.Iz
open Go.RowKit Go.Shelf Go.Proofs.ShM Go.Proofs.GrM Go.Proofs.InM
set_option linter.unusedVariables false
set_option linter.unusedSimpArgs false

/-- A list of the call's own, and an error. -/
def RetI (r : List Int × Int) (w : World) (e : Ending) (w' : World) : Prop := ∃ A c, e = .returned (.tuple #[.slice A r.1.length c, .int .i64 r.2]) ∧ Sl w' A c r.1 ∧ (∀ ad, A = some ad → 0 < r.1.length → w.heap.size ≤ ad.block) ∧ Kp w w'
theorem RetI.mk_ {r : List Int × Int} {zs : List Int} {err : Int} {w w' : World} {A : Option Addr} {n c : Nat} (hr : r = (zs, err)) (hn : n = zs.length) (hs : Own w.heap.size w' (.slice A n c) zs) (hk : Kp w w') :
    RetI r w (.returned (.tuple #[.slice A n c, .int .i64 err])) w' := by
  subst hr hn
  exact ⟨A, c, rfl, hs.sl, fun ad e hp => by
    obtain ⟨g, e2, hb, _⟩ := hs.addrI hp
    rw [e] at e2; injection e2 with e2; subst e2; exact hb, hk⟩
theorem RetI.err_ {r : List Int × Int} {err : Int} {w w' : World} (hr : r = ([], err)) (hk : Kp w w') : RetI r w (.returned (.tuple #[.slice none 0 0, .int .i64 err])) w' :=
  RetI.mk_ hr rfl (Own.nil_ _ _) hk
theorem Own.monoI {w : World} {v : Value} {xs : List Int} {b b' : Nat} (h : Own b w v xs) (hb : b' ≤ b) : Own b' w v xs := by
  refine ⟨h.1, ?_⟩
  rcases h.2 with h0 | ⟨g, cap, cur, e, hg, r⟩
  · exact .inl h0
  · exact .inr ⟨g, cap, cur, e, Nat.le_trans hb hg, r⟩
/-- The same answer, of a world ahead. -/
theorem RetI.back {r : List Int × Int} {w w1 : World} {e : Ending} {w' : World} (h : RetI r w1 e w') (hk : Kp w w1) : RetI r w e w' := by
  obtain ⟨A, c, e, o, n, k⟩ := h
  exact ⟨A, c, e, o, fun ad h1 h2 => Nat.le_trans hk.size (n ad h1 h2), hk.tr k⟩

set_option maxHeartbeats 1000000 in
theorem join_i (A B : Option Addr) (c d : Nat) (a b : List Int) (w : World) (h : Rd w A a) (g : Rd w B b) :
    Calls Try.prog 34 #[.slice A a.length c, .slice B b.length d] w (RetI (joinV a b) w) := by
  have HA := Lib.hid (check_any A c a w h)
  have HB := Lib.hid (check_any B d b w g)
  have H := Lib.hid h
  have G := Lib.hid g
  clear h g
  cases ha : okS a with
  | false =>
    rw [ha] at HA
    have HF := Lib.hid (join_no (b := b) (.inl ha))
    clear ha HB
    go_enter Try.func34, Try.ntmps34
    go_wp2_with fail
    go_step3
    go_wp2_with (go_at_call 18; refine (Calls.mono (Hid.out HA)) ?_; rintro e w' ⟨rfl, rfl⟩)
    try rw [Exit.noGoto_ret]
    go_ret2
    exact RetI.err_ HF.out (Kp.refl _)
  | true =>
    rw [ha] at HA
    cases hb : okS b with
    | false =>
      rw [hb] at HB
      have HF := Lib.hid (join_no (a := a) (.inr hb))
      clear ha hb
      go_enter Try.func34, Try.ntmps34
      go_wp2_with fail
      go_step3
      go_wp2_with (go_at_call 18; first | ((with_reducible refine (Calls.mono (Hid.out HA)) ?_); rintro e w' ⟨rfl, rfl⟩) | ((with_reducible refine (Calls.mono (Hid.out HB)) ?_); rintro e w' ⟨rfl, rfl⟩))
      try rw [Exit.noGoto_ret]
      go_ret2
      exact RetI.err_ HF.out (Kp.refl _)
    | true =>
      rw [hb] at HB
      have la := (ok_iff.1 ha).1
      have lb := (ok_iff.1 hb).1
      have HO := Lib.hid (And.intro ha hb)
      clear ha hb
      obtain ⟨n, hn⟩ : ∃ n, n = max a.length b.length := ⟨_, rfl⟩
      have n1 : a.length ≤ n := by omega
      have n2 : b.length ≤ n := by omega
      have n3 : n ≤ 3 := by omega
      have hmx : ∀ (W : World) (ts : Array TypeId) (t : TypeId), (Builtin.max_ ts t #[.int .i64 (a.length : Int), .int .i64 (b.length : Int)]).run Try.prog W = .ok (.int .i64 (n : Int)) W := fun W ts t => by
        rw [run_max_int2]
        by_cases hc : (b.length : Int) > (a.length : Int)
        · rw [if_pos hc, show (b.length : Int) = (n : Int) by omega]
        · rw [if_neg hc, show (a.length : Int) = (n : Int) by omega]
      have HN := Lib.hid hn
      obtain ⟨cs, hmk, hown⟩ := mk0_ n (by omega)
      have H0 := Lib.hid (hown w w.heap.size (Nat.le_refl _))
      have HS := Lib.hid (j_start (P := pad n a) (Q := pad n b) (by rw [padl n1, padl n2]))
      clear hn hown
      go_enter Try.func34, Try.ntmps34
      go_wp2_with fail
      go_step3
      go_wp2_with (go_at_call 18; first | ((with_reducible refine (Calls.mono (Hid.out HA)) ?_); rintro e w' ⟨rfl, rfl⟩) | ((with_reducible refine (Calls.mono (Hid.out HB)) ?_); rintro e w' ⟨rfl, rfl⟩))
      clear HA HB hmk hmx
      go_step3
      go_wp2
      go_loopw [7, 27] (fun v i wr => ∃ (k : Nat) (zs : List Int) (Az : Option Addr) (cz : Nat), i = .int .i64 k ∧ v = .slice Az zs.length cz ∧ Hid (JRel (pad n a) (pad n b) k zs) ∧
        Hid (Own w.heap.size wr (.slice Az zs.length cz) zs) ∧ Hid (Below w.heap.size w wr)) (fun _ i _ => n - (intOf i).toNat)
      case atStart => exact ⟨0, [], _, _, rfl, rfl, HS.out, H0.out, (Below.refl _ _).alloc (Nat.le_refl _) _⟩
      case round =>
        obtain ⟨k, zs, Az, cz, rfl, rfl, hr, hown, hb⟩ := hrel
        have hzl : zs.length = k := hr.out.2.2.1
        have HZL := Lib.hid hzl
        by_cases hk : k < n
        · have hz3 : zs.length < n := by omega
          clear hzl
          go_wp2_with fail
          refine (sideof_any _ _ _ _ (H.out.kp hb.out) k n n1 hk (by omega)).mono ?_; rintro e w1 ⟨x, rfl, hx, rfl⟩
          have HX := Lib.hid hx; clear hx
          go_wp2_with fail
          refine (sideof_any _ _ _ _ (G.out.kp hb.out) k n n2 hk (by omega)).mono ?_; rintro e w2 ⟨y, rfl, hy, rfl⟩
          have HY := Lib.hid hy; clear hy
          have HBs := Lib.hid hb.out.size
          by_cases hxy : x = y
          · have HJ := Lib.hid (jn_same hxy)
            subst hxy
            go_wp2_with (at_builtin; refine wpList_app rfl (.tmp 44) (.tmp 46) rfl _ zs rfl (hown.out.kp (Kp.alloc_ _ _)) _ _ [x] _ rfl rfl (Rd.one _ _ _) (by simp; omega) (by have := HBs.out; simp; omega) ?_; intro zs2 A2 c2 w2 HZ hown2 hb2; have HB := Lib.hid ((hb.out.alloc HBs.out _).trans hb2); have HW := Lib.hid hown2; clear hown2 hb2)
            go_roundw
            case rel => exact ⟨k + 1, zs2, A2, c2, by go_num, rfl, j_step hr.out HX.out HY.out HJ.out HZ.out, HW.out, HB.out⟩
            case measure => simp [intOf]; omega
          · have e1 : (x == y) = false := by simpa using hxy
            by_cases hy1 : y = 1
            · have HJ := Lib.hid (jn_right (x := x) hy1)
              subst hy1
              clear hxy
              go_wp2_with (at_builtin; refine wpList_app rfl (.tmp 44) (.tmp 46) rfl _ zs rfl (hown.out.kp (Kp.alloc_ _ _)) _ _ [x] _ rfl rfl (Rd.one _ _ _) (by simp; omega) (by have := HBs.out; simp; omega) ?_; intro zs2 A2 c2 w2 HZ hown2 hb2; have HB := Lib.hid ((hb.out.alloc HBs.out _).trans hb2); have HW := Lib.hid hown2; clear hown2 hb2)
              go_roundw
              case rel => exact ⟨k + 1, zs2, A2, c2, by go_num, rfl, j_step hr.out HX.out HY.out HJ.out HZ.out, HW.out, HB.out⟩
              case measure => simp [intOf]; omega
            · have e2 : (y == 1) = false := by simpa using hy1
              by_cases hx1 : x = 1
              · have HJ := Lib.hid (jn_left (y := y) hx1)
                subst hx1
                clear hxy hy1
                go_wp2_with (at_builtin; refine wpList_app rfl (.tmp 51) (.tmp 53) rfl _ zs rfl (hown.out.kp (Kp.alloc_ _ _)) _ _ [y] _ rfl rfl (Rd.one _ _ _) (by simp; omega) (by have := HBs.out; simp; omega) ?_; intro zs2 A2 c2 w2 HZ hown2 hb2; have HB := Lib.hid ((hb.out.alloc HBs.out _).trans hb2); have HW := Lib.hid hown2; clear hown2 hb2)
                go_roundw
                case rel => exact ⟨k + 1, zs2, A2, c2, by go_num, rfl, j_step hr.out HX.out HY.out HJ.out HZ.out, HW.out, HB.out⟩
                case measure => simp [intOf]; omega
              · have e3 : (x == 1) = false := by simpa using hx1
                have HF := Lib.hid (join_none HO.out.1 HO.out.2 (by unfold joinO; rw [← HN.out]; exact j_stop hr.out HX.out HY.out (jn_none hxy hy1 hx1)))
                clear hxy hy1 hx1
                go_wp2
                try rw [Exit.noGoto_ret]
                go_ret2
                exact RetI.err_ HF.out hb.out
        · have hz3 : ¬ zs.length < n := by omega
          have hk2 : k = n := by have := hr.out.1; rw [padl n1] at this; omega
          have HJ := Lib.hid (show joinO a b = some zs by unfold joinO; rw [← HN.out]; exact j_end hr.out (by rw [padl n1]; exact hk2))
          clear hzl hk2
          cases hz : okS zs with
          | true =>
            have HC : Hid (Calls Try.prog 18 #[.slice Az zs.length cz] wr fun e w' => e = .returned (.bool true) ∧ wr = w') := by
              have hh := check_any Az cz zs wr hown.out.sl.rd
              rw [hz] at hh
              exact hh
            have HF := Lib.hid (join_yes HO.out.1 HO.out.2 HJ.out hz)
            clear hz
            go_wp2_with (go_at_call 18; refine (Calls.mono (Hid.out HC)) ?_; rintro e w' ⟨rfl, rfl⟩)
            try rw [Exit.noGoto_ret]
            go_ret2
            exact RetI.mk_ HF.out rfl hown.out hb.out
          | false =>
            have HC : Hid (Calls Try.prog 18 #[.slice Az zs.length cz] wr fun e w' => e = .returned (.bool false) ∧ wr = w') := by
              have hh := check_any Az cz zs wr hown.out.sl.rd
              rw [hz] at hh
              exact hh
            have HF := Lib.hid (join_big HO.out.1 HO.out.2 HJ.out hz)
            clear hz
            go_wp2_with (go_at_call 18; refine (Calls.mono (Hid.out HC)) ?_; rintro e w' ⟨rfl, rfl⟩)
            try rw [Exit.noGoto_ret]
            go_ret2
            exact RetI.err_ HF.out hb.out

end Go.Proofs.Ytnkkkpanlnencaa.Iz
namespace Go.Proofs.ShM
/-- The first k and the last k of a list have changed places. -/
def Rv (xs : List Int) (k : Nat) (zs : List Int) : Prop := zs.length = xs.length ∧ 2 * k ≤ xs.length + 1 ∧ ∀ i, i < xs.length → zs[i]? = if i < k ∨ xs.length ≤ i + k then xs[xs.length - 1 - i]? else xs[i]?
theorem rv_start (xs : List Int) : Rv xs 0 xs := ⟨rfl, by omega, fun i hi => by rw [if_neg (by omega)]⟩
theorem rv_get {xs zs : List Int} {k m : Nat} (h : Rv xs k zs) (hm : k + m + 1 = xs.length) (hk : k < m) : ∃ a b, xs[k]? = some a ∧ xs[m]? = some b ∧ zs[k]? = some a ∧ zs[m]? = some b := by
  obtain ⟨h1, h2, h3⟩ := h
  refine ⟨xs[k]'(by omega), xs[m]'(by omega), List.getElem?_eq_getElem _, List.getElem?_eq_getElem _, ?_, ?_⟩
  · rw [h3 k (by omega), if_neg (by omega)]; exact List.getElem?_eq_getElem _
  · rw [h3 m (by omega), if_neg (by omega)]; exact List.getElem?_eq_getElem _
theorem rv_step {xs zs : List Int} {k m : Nat} {a b : Int} (h : Rv xs k zs) (hm : k + m + 1 = xs.length) (hk : k < m) (ha : xs[k]? = some a) (hb : xs[m]? = some b) : Rv xs (k + 1) ((zs.set k b).set m a) := by
  obtain ⟨h1, h2, h3⟩ := h
  refine ⟨by simpa using h1, by omega, fun i hi => ?_⟩
  by_cases e1 : i = m
  · subst e1
    rw [List.getElem?_set_self (by simp; omega), if_pos (by omega), ← ha]
    congr 1; omega
  · rw [List.getElem?_set_ne (by omega)]
    by_cases e2 : i = k
    · subst e2
      rw [List.getElem?_set_self (by omega), if_pos (by omega), ← hb]
      congr 1; omega
    · rw [List.getElem?_set_ne (by omega), h3 i hi]
      by_cases e3 : i < k ∨ xs.length ≤ i + k
      · rw [if_pos e3, if_pos (by omega)]
      · rw [if_neg e3, if_neg (by omega)]
theorem rv_end {xs zs : List Int} {k : Nat} (h : Rv xs k zs) (hk : ¬ (k : Int) < (xs.length : Int) - 1 - k) : zs = xs.reverse := by
  obtain ⟨h1, h2, h3⟩ := h
  apply List.ext_getElem?
  intro i
  by_cases hi : i < xs.length
  · rw [h3 i hi, List.getElem?_reverse hi]
    split
    · rfl
    · rename_i e
      congr 1; omega
  · rw [List.getElem?_eq_none (by omega), List.getElem?_eq_none (by simp; omega)]
end Go.Proofs.ShM
namespace Go.Proofs.Ytnkkkpanlnencaa.Iz
open Go.RowKit Go.Shelf Go.Proofs.ShM Go.Proofs.GrM Go.Proofs.InM
set_option linter.unusedVariables false
set_option linter.unusedSimpArgs false
/-- The list has been turned in its place. -/
def RetRv (B : Nat) (A : Option Addr) (n c : Nat) (xs : List Int) (w : World) (e : Ending) (w' : World) : Prop := (∃ v, e = .returned v) ∧ Own B w' (.slice A n c) xs.reverse ∧ Below B w w'

set_option maxHeartbeats 2000000 in
theorem rev_i (A : Option Addr) (c B : Nat) (xs : List Int) (w : World) (h : Own B w (.slice A xs.length c) xs) (hl : xs.length ≤ 1000) :
    Calls Try.prog 65 #[.slice A xs.length c] w (RetRv B A xs.length c xs w) := by
  by_cases h0 : xs.length = 0
  · obtain rfl : xs = [] := List.eq_nil_of_length_eq_zero h0
    have HO := Lib.hid h
    clear h h0 hl
    go_enter Try.func65, Try.ntmps65
    go_wp2
    go_loopw [2, 3] (fun i j wr => i = .int .i64 0 ∧ j = .int .i64 (-1) ∧ wr = w) (fun _ _ _ => 0)
    case atStart => exact ⟨rfl, rfl, rfl⟩
    case round =>
      obtain ⟨rfl, rfl, rfl⟩ := hrel
      go_wp2
      go_end0
      exact ⟨⟨_, rfl⟩, HO.out, Below.refl _ _⟩
  · obtain ⟨g, rfl, hg1, hg2⟩ := h.addrI (by omega)
    have HO := Lib.hid h
    have HS := Lib.hid (rv_start xs)
    have hn : 1 ≤ xs.length := by omega
    clear h h0
    go_enter Try.func65, Try.ntmps65
    go_wp2
    go_loopw [2, 3] (fun i j wr => ∃ (k : Nat) (zs : List Int), i = .int .i64 k ∧ j = .int .i64 ((xs.length : Int) - 1 - k) ∧ Hid (Rv xs k zs) ∧ Hid (Own B wr (.slice (some ⟨g, 0, none⟩) xs.length c) zs) ∧ Hid (Below B w wr)) (fun i _ _ => xs.length - (intOf i).toNat)
    case atStart => exact ⟨0, xs, rfl, by go_num, HS.out, HO.out, Below.refl _ _⟩
    case round =>
      obtain ⟨k, zs, rfl, rfl, hr, hown, hb⟩ := hrel
      have hk2 : 2 * k ≤ xs.length + 1 := hr.out.2.1
      by_cases hlt : (k : Int) < (xs.length : Int) - 1 - k
      · obtain ⟨m, hm⟩ : ∃ m : Nat, (xs.length : Int) - 1 - k = m := ⟨((xs.length : Int) - 1 - k).toNat, by omega⟩
        rw [hm] at hlt ⊢
        have hkm : k < m := by omega
        have hkm' : k + m + 1 = xs.length := by omega
        obtain ⟨a, b, ha, hbb, hza, hzb⟩ := rv_get hr.out hkm' hkm
        have HR2 := Lib.hid (rv_step hr.out hkm' hkm ha hbb)
        have e1 := hown.out.cell_ hza
        have e2 := hown.out.cell_ hzb
        have e3 := hown.out.froz_ k
        have e4 := hown.out.froz_ m
        have j1 : (0 : Int) ≤ (k : Int) := by omega
        have j2 : (k : Int) < (xs.length : Int) := by omega
        have j3 : (0 : Int) ≤ (m : Int) := by omega
        have j4 : (m : Int) < (xs.length : Int) := by omega
        have HM := Lib.hid hm
        clear ha hbb hza hzb hkm' hm
        have hne : ¬ k = m := by omega
        go_wp2
        go_region
        all_goals
          go_wp2
          go_roundw
          case rel =>
            have hmm := HM.out
            refine ⟨k + 1, (zs.set k b).set m a, by go_num, by go_num, HR2.out, ?_, ?_⟩
            · exact ((hown.out.drew).set_ k b).set_ m a
            · exact ((hb.out.drew).setCell (p := ⟨g, k, none⟩) hg1 _).setCell (p := ⟨g, m, none⟩) hg1 _
          case measure => simp [intOf]; omega
      · have HE := Lib.hid (rv_end hr.out hlt)
        go_wp2
        go_end0
        exact ⟨⟨_, rfl⟩, by rw [← HE.out]; exact hown.out, hb.out⟩


set_option maxHeartbeats 1000000 in
theorem clone_i (A : Option Addr) (c : Nat) (xs : List Int) (w : World) (h : Rd w A xs) (hs : xs.length ≤ 1000000) :
    Calls Try.prog 36 #[.slice A xs.length c] w (RetW xs w) := by
  have qT : ∀ (w : World) (a : Option Addr) (n c : Nat), (binOp .eql 23 (.slice a n c) (.slice none 0 0)).run Try.prog w = .ok (.bool a.isNone) w := fun w a n c => Lib.run_eql_slice_nil w _ _ a n c 0 0 Try.underlying23
  cases A with
  | none =>
    obtain rfl : xs = [] := by
      cases xs with
      | nil => rfl
      | cons x xs => obtain ⟨ad, e, _⟩ := h.2 (by simp); cases e
    go_enter Try.func36, Try.ntmps36
    go_wp2
    go_ret
    exact ⟨none, 0, rfl, Own.nil_ _ _, Kp.refl _⟩
  | some ad =>
    go_enter Try.func36, Try.ntmps36
    go_wp2_with (at_builtin; refine wpList_app rfl (.tmp 5) (.tmp 6) rfl _ [] rfl (Own.zero w (Nat.le_refl _)) (some ad) c xs _ rfl rfl (h.alloc_ _) (by simpa using hs) (by simp) ?_; intro z1 A1 c1 w1 HZ o1 b1; have K1 := Lib.hid ((Kp.alloc_ w _).trans b1); have R1 := Lib.hid o1; clear o1 b1)
    go_ret
    have hz : z1 = xs := by have := HZ.out; simpa using this
    subst hz
    exact ⟨A1, c1, rfl, R1.out, K1.out⟩

def rofD : Nat → Nat
  | 23 => 63
  | n => n
def rot : Nat → Nat
  | 0 => 0
  | 3 => 3
  | 4 => 4
  | 22 => 23
  | n => n
def roD : Ren := ⟨rofD, rot, fun g => g⟩

theorem lays23 : Lays2.n23 Try.prog roD where
  mixed := by kernel_rfl
  f23 := Try.func63.trans (congrArg some (by kernel_rfl))
  t0 := Try.underlying0
  a0 := Try.isAgg0
  z0 := Try.sizeOf0
  v0 := Try.zeroValue0
  t3 := Try.underlying3
  a3 := Try.isAgg3
  z3 := Try.sizeOf3
  v3 := Try.zeroValue3
  t4 := Try.underlying4
  a4 := Try.isAgg4
  z4 := Try.sizeOf4
  v4 := Try.zeroValue4
  t22 := Try.underlying23
  a22 := Try.isAgg23
  z22 := Try.sizeOf23
  v22 := Try.zeroValue23
  i3 := by kernel_rfl

/-- A row of the call's own, its block laid open. -/
theorem _root_.Go.Proofs.Ytnkkkpanlnencaa.Own.rowI {B n c : Nat} {A : Option Addr} {xs : List Int} {w : World} (h : Own B w (.slice A n c) xs) (hn : 0 < xs.length) :
    ∃ g cur, A = some ⟨g, 0, none⟩ ∧ n = xs.length ∧ B ≤ g ∧ w.heap[g]? = some (.cells cur 3 (0, 0)) ∧ n ≤ c ∧ c ≤ maxLen ∧ cur.size = c ∧ cur.toList.take n = xs.map (Value.int .i64) := by
  obtain ⟨A', c', e, _⟩ := h.form
  injection e with e1 e2 e3
  obtain ⟨h1, h2⟩ := h
  rcases h2 with ⟨e, h0⟩ | ⟨g, cap, cur, e, hb, hh, hnc, hc, hs, ht⟩
  · omega
  · injection e with f1 f2 f3
    subst f1 f3
    refine ⟨g, cur, rfl, e2, hb, hh, by omega, hc, by simpa using hs, by simpa [e2] using ht⟩

theorem below_putRow {B g q : Nat} {w : World} (d : Array Int) (hb : B ≤ g) : Below B w (Go.Sort.putRow (Value.int .i64) (Go.Sort.ahead w q) g 0 d) where
  os := rfl
  tape := rfl
  output := rfl
  size := by rw [Go.Sort.size_putRow]; exact Nat.le_refl _
  block := fun k hk => by
    show (Array.modify _ g _)[k]? = _
    rw [Array.getElem?_modify, if_neg (by omega)]
    rfl

theorem delete_i (A : Option Addr) (c B k : Nat) (xs : List Int) (w : World) (h : Own B w (.slice A xs.length c) xs) (hk : k < xs.length) (hl : xs.length ≤ 1000) :
    Calls Try.prog 63 #[.slice A xs.length c, .int .i64 (k : Int), .int .i64 ((k : Int) + 1)] w fun e w' => e = .returned (.slice A (xs.eraseIdx k).length c) ∧ Sl w' A c (xs.eraseIdx k) ∧ Below B w w' := by
  obtain ⟨g, cur, rfl, _, hB, hh, h1, h2, h3, h4⟩ := h.rowI (by omega)
  have hm : c ≤ 9223372036854775807 := by unfold maxLen at h2; omega
  have hH : Go.Sort.Holds (Value.int .i64) w g 0 xs.toArray := fun j hj => by
    have hj' : j < xs.length := by simpa using hj
    rw [Nat.zero_add]
    refine ⟨?_, h.froz_ j⟩
    rw [h.cell_ (u := xs[j]) (List.getElem?_eq_getElem hj')]
    simp [hj']
  have hd := Any.slices_Delete_int lays23 g 0 c k (k + 1) xs w hH h1 hm (by omega) (by omega)
  have hel : (xs.eraseIdx k).length = xs.length - 1 := List.length_eraseIdx_of_lt hk
  refine hd.mono ?_
  rintro e w' ⟨rfl, q, rfl⟩
  have hlen : (xs.take k ++ xs.drop (k + 1) ++ List.replicate (k + 1 - k) (0 : Int)).length = xs.length := by simp; omega
  have hP := Go.Sort.holds_putRow (Value.int .i64) (Go.Sort.ahead w q) g 0 xs.toArray (xs.take k ++ xs.drop (k + 1) ++ List.replicate (k + 1 - k) 0).toArray (Go.Sort.holds_ahead _ w q g 0 _ hH) (by simp only [List.size_toArray]; exact hlen)
  have hbl := below_putRow (w := w) (q := q) (xs.take k ++ xs.drop (k + 1) ++ List.replicate (k + 1 - k) (0 : Int)).toArray hB
  refine ⟨by rw [hel, show k + 1 - k = 1 by omega], ⟨⟨by rw [hel]; omega, fun hn => ⟨⟨g, 0, none⟩, rfl, ?_, fun j u hu => ?_⟩⟩, by rw [hel]; omega, hm⟩, hbl⟩
  · rw [Go.Sort.size_putRow]
    exact (Array.getElem?_eq_some_iff.1 hh).1
  · have hj : j < xs.length - 1 := by rw [← hel]; exact (List.getElem?_eq_some_iff.1 hu).1
    have := (hP j (by simp only [List.size_toArray]; rw [hlen]; omega)).1
    rw [Go.WideShapes.add_plain, this]
    congr 2
    have e1 : xs.eraseIdx k = xs.take k ++ xs.drop (k + 1) := List.eraseIdx_eq_take_drop_succ ..
    rw [e1] at hu
    have hj2 : j < (xs.take k ++ xs.drop (k + 1)).length := (List.getElem?_eq_some_iff.1 hu).1
    rw [getElem!_pos _ j (by simp only [List.size_toArray]; rw [hlen]; omega)]
    simp only [List.getElem_toArray]
    rw [List.getElem_append_left hj2]
    exact (List.getElem?_eq_some_iff.1 hu).2


set_option maxHeartbeats 1000000 in
theorem turned_i (A : Option Addr) (c : Nat) (l : List Int) (w : World) (h : Rd w A l) (hl : l.length ≤ 1000) :
    Calls Try.prog 47 #[.slice A l.length c] w (RetW l.reverse w) := by
  have HC := Lib.hid (clone_i A c l w h (by omega))
  have HL : Hid (l.length ≤ 1000) := hl
  clear h
  go_enter Try.func47, Try.ntmps47
  go_wp2_with fail
  refine HC.out.mono ?_; rintro e w1 ⟨A1, c1, rfl, o1, k1⟩
  have HK := Lib.hid k1
  have HR := Lib.hid (rev_i A1 c1 w.heap.size l w1 o1 HL.out)
  clear k1 o1
  go_wp2_with fail
  refine HR.out.mono ?_; rintro e w2 ⟨⟨v, rfl⟩, o2, b2⟩
  have HO := Lib.hid o2
  have HB := Lib.hid b2
  clear o2 b2
  go_wp2
  go_ret
  exact RetW.on (by simp) HO.out (HK.out.trans HB.out)

set_option maxHeartbeats 1000000 in
theorem hasside_i (A : Option Addr) (n c : Nat) (l : List Int) (x : Int) (w : World) (hn : n = l.length) (hl : l.length ≤ 9223372036854775807) :
    Calls Try.prog 62 #[.slice A n c, .int .i64 x] w fun e w' => e = .returned (.bool (axisB l x)) ∧ w' = w := by
  obtain ⟨r, hr⟩ : ∃ r, r = axisB l x := ⟨_, rfl⟩
  rw [← hr]
  rw [← hn] at hl
  by_cases h1 : 0 ≤ x
  · by_cases h2 : x < (n : Int)
    · have hv : r = true := by rw [hr]; exact axis_iff.2 ⟨h1, by omega⟩
      subst hv
      clear hr hn
      go_enter Try.func62, Try.ntmps62
      go_wp2
      go_ret
      exact ⟨by simp [*], rfl⟩
    · have hv : r = false := by rw [hr]; unfold axisB; simp; omega
      subst hv
      clear hr hn
      go_enter Try.func62, Try.ntmps62
      go_wp2
      go_ret
      exact ⟨by simp [*], rfl⟩
  · have hv : r = false := by rw [hr]; unfold axisB; simp; omega
    subst hv
    clear hr hn
    go_enter Try.func62, Try.ntmps62
    go_wp2
    go_ret
    exact ⟨by simp [*], rfl⟩

set_option maxHeartbeats 1000000 in
theorem with_i (A : Option Addr) (c : Nat) (l : List Int) (k : Nat) (n : Int) (w : World) (h : Rd w A l) (hl : l.length ≤ 1000) (hk : k < l.length) :
    Calls Try.prog 66 #[.slice A l.length c, .int .i64 (k : Int), .int .i64 n] w fun e w' => ∃ A' c', e = .returned (.slice A' l.length c') ∧ Own w.heap.size w' (.slice A' l.length c') (l.set k n) ∧ Kp w w' := by
  have HC := Lib.hid (clone_i A c l w h (by omega))
  have j1 : (0 : Int) ≤ (k : Int) := by omega
  have j2 : (k : Int) < (l.length : Int) := by omega
  clear h
  go_enter Try.func66, Try.ntmps66
  go_wp2_with fail
  refine HC.out.mono ?_; rintro e w1 ⟨A1, c1, rfl, o1, k1⟩
  obtain ⟨g, rfl, hg1, hg2⟩ := o1.addrI (by omega)
  have HK := Lib.hid k1
  have HO := Lib.hid o1
  have e1 := HO.out.cell_ (List.getElem?_eq_getElem hk)
  have e2 := HO.out.froz_ k
  clear k1 o1
  go_wp2
  go_ret
  exact ⟨_, c1, rfl, HO.out.set_ k n, HK.out.setCell (p := ⟨g, k, none⟩) hg1 _⟩

set_option maxHeartbeats 1000000 in
/-- What it is told of lies where it lay, or is nothing. -/
theorem checked_i (A : Option Addr) (n c B : Nat) (s : List Int) (w : World) (hn : n = s.length) (h : Own B w (.slice A n c) s) :
    Calls Try.prog 64 #[.slice A n c] w fun e w' => (∃ A' c', e = .returned (.tuple #[.slice A' (toldV s true).1.length c', .int .i64 (toldV s true).2]) ∧ Own B w (.slice A' (toldV s true).1.length c') (toldV s true).1) ∧ w' = w := by
  subst hn
  have HC := Lib.hid (check_any A c s w h.sl.rd)
  have HO := Lib.hid h
  clear h
  cases ho : okS s with
  | false =>
    rw [ho] at HC
    have hv : toldV s true = ([], 20) := by unfold toldV; rw [if_neg (by simp [ho])]
    rw [hv]
    clear ho hv
    go_enter Try.func64, Try.ntmps64
    go_wp2_with fail
    refine HC.out.mono ?_; rintro e w1 ⟨rfl, rfl⟩
    go_wp2
    go_ret2
    exact ⟨⟨none, 0, rfl, Own.nil_ _ _⟩, rfl⟩
  | true =>
    rw [ho] at HC
    have hv : toldV s true = (s, 0) := by unfold toldV; rw [if_pos ⟨rfl, ho⟩]
    rw [hv]
    clear ho hv
    go_enter Try.func64, Try.ntmps64
    go_wp2_with fail
    refine HC.out.mono ?_; rintro e w1 ⟨rfl, rfl⟩
    go_wp2
    go_ret2
    exact ⟨⟨A, c, rfl, HO.out⟩, rfl⟩
end Go.Proofs.Ytnkkkpanlnencaa.Iz
