/- Join of layer 2: what it answers. -/
import Derived.Test.YtdekchfapblgeaaShapeF
import Derived.Test.YtdekchfapblgeaaShapeJoinM
import Derived.Outline
import Derived.WalkMore
import Derived.Deep.LoopGhost
namespace Go.Proofs.Ytdekchfapblgeaa
open Go.RowKit Go.Proofs.ShM

namespace ShG
theorem out_len {P Q : List Int} {k : Nat} {zs : List Int} (h : JRel P Q k zs) : zs.length = k := h.2.2.1
end ShG

set_option maxHeartbeats 1000000 in
theorem join_any (A B : Option Addr) (c d : Nat) (a b : List Int) (w : World) (h : Rd w A a) (g : Rd w B b) :
    Calls Try.prog 40 #[.slice A a.length c, .slice B b.length d] w (Ret (joinV a b) w) := by
  have HA := Lib.hid (check_any A c a w h)
  have HB := Lib.hid (check_any B d b w g)
  have H := Lib.hid h
  have G := Lib.hid g
  clear h g
  cases ha : okS a with
  | false =>
    rw [ha] at HA
    have HF := Lib.hid (join_no (b := b) (.inl ha))
    clear ha HB
    go_enter Try.func40, Try.ntmps40
    go_wp2_with fail
    go_step3
    go_wp2_with (go_at_call 25; refine (Calls.mono (Hid.out HA)) ?_; rintro e w' ⟨rfl, rfl⟩)
    try rw [Exit.noGoto_ret]
    go_ret2
    exact Ret.err_ HF.out (Kp.refl _)
  | true =>
    rw [ha] at HA
    cases hb : okS b with
    | false =>
      rw [hb] at HB
      have HF := Lib.hid (join_no (a := a) (.inr hb))
      clear ha hb
      go_enter Try.func40, Try.ntmps40
      go_wp2_with fail
      go_step3
      go_wp2_with (go_at_call 25; first | ((with_reducible refine (Calls.mono (Hid.out HA)) ?_); rintro e w' ⟨rfl, rfl⟩) | ((with_reducible refine (Calls.mono (Hid.out HB)) ?_); rintro e w' ⟨rfl, rfl⟩))
      try rw [Exit.noGoto_ret]
      go_ret2
      exact Ret.err_ HF.out (Kp.refl _)
    | true =>
      rw [hb] at HB
      have la := (ok_iff.1 ha).1
      have lb := (ok_iff.1 hb).1
      have HO := Lib.hid (And.intro ha hb)
      clear ha hb
      obtain ⟨n, hn⟩ : ∃ n, n = max a.length b.length := ⟨_, rfl⟩
      have n1 : a.length ≤ n := by omega
      have n2 : b.length ≤ n := by omega
      have n3 : n ≤ 3 := by omega
      have hmx : ∀ (W : World) (ts : Array TypeId) (t : TypeId), (Builtin.max_ ts t #[.int .i64 (a.length : Int), .int .i64 (b.length : Int)]).run Try.prog W = .ok (.int .i64 (n : Int)) W := fun W ts t => by
        rw [run_max_int2]
        by_cases hc : (b.length : Int) > (a.length : Int)
        · rw [if_pos hc, show (b.length : Int) = (n : Int) by omega]
        · rw [if_neg hc, show (a.length : Int) = (n : Int) by omega]
      have HN := Lib.hid hn
      obtain ⟨cs, hmk, hown⟩ := mk0_ n (by omega)
      have H0 := Lib.hid (hown w w.heap.size (Nat.le_refl _))
      have HS := Lib.hid (j_start (P := pad n a) (Q := pad n b) (by rw [padl n1, padl n2]))
      clear hn hown
      go_enter Try.func40, Try.ntmps40
      go_wp2_with fail
      go_step3
      go_wp2_with (go_at_call 25; first | ((with_reducible refine (Calls.mono (Hid.out HA)) ?_); rintro e w' ⟨rfl, rfl⟩) | ((with_reducible refine (Calls.mono (Hid.out HB)) ?_); rintro e w' ⟨rfl, rfl⟩))
      clear HA HB hmk hmx
      go_step3
      go_wp2
      go_loopw [7, 27] (fun v i wr => ∃ (k : Nat) (zs : List Int) (Az : Option Addr) (cz : Nat), i = .int .i64 k ∧ v = .slice Az zs.length cz ∧ Hid (JRel (pad n a) (pad n b) k zs) ∧
        Hid (Own w.heap.size wr (.slice Az zs.length cz) zs) ∧ Hid (Below w.heap.size w wr)) (fun _ i _ => n - (intOf i).toNat)
      case atStart => exact ⟨0, [], _, _, rfl, rfl, HS.out, H0.out, (Below.refl _ _).alloc (Nat.le_refl _) _⟩
      case round =>
        obtain ⟨k, zs, Az, cz, rfl, rfl, hr, hown, hb⟩ := hrel
        have hzl : zs.length = k := hr.out.2.2.1
        have HZL := Lib.hid hzl
        by_cases hk : k < n
        · have hz3 : zs.length < n := by omega
          clear hzl
          go_wp2_with fail
          refine (sideof_any _ _ _ _ (H.out.kp hb.out) k n n1 hk (by omega)).mono ?_; rintro e w1 ⟨x, rfl, hx, rfl⟩
          have HX := Lib.hid hx; clear hx
          go_wp2_with fail
          refine (sideof_any _ _ _ _ (G.out.kp hb.out) k n n2 hk (by omega)).mono ?_; rintro e w2 ⟨y, rfl, hy, rfl⟩
          have HY := Lib.hid hy; clear hy
          have HBs := Lib.hid hb.out.size
          by_cases hxy : x = y
          · have HJ := Lib.hid (jn_same hxy)
            subst hxy
            go_wp2_with (at_builtin; refine wpList_app rfl (.tmp 44) (.tmp 46) rfl _ zs rfl (hown.out.kp (Kp.alloc_ _ _)) _ _ [x] _ rfl rfl (Rd.one _ _ _) (by simp; omega) (by have := HBs.out; simp; omega) ?_; intro zs2 A2 c2 w2 HZ hown2 hb2; have HB := Lib.hid ((hb.out.alloc HBs.out _).trans hb2); have HW := Lib.hid hown2; clear hown2 hb2)
            go_roundw
            case rel => exact ⟨k + 1, zs2, A2, c2, by go_num, rfl, j_step hr.out HX.out HY.out HJ.out HZ.out, HW.out, HB.out⟩
            case measure => simp [intOf]; omega
          · have e1 : (x == y) = false := by simpa using hxy
            by_cases hy1 : y = 1
            · have HJ := Lib.hid (jn_right (x := x) hy1)
              subst hy1
              clear hxy
              go_wp2_with (at_builtin; refine wpList_app rfl (.tmp 44) (.tmp 46) rfl _ zs rfl (hown.out.kp (Kp.alloc_ _ _)) _ _ [x] _ rfl rfl (Rd.one _ _ _) (by simp; omega) (by have := HBs.out; simp; omega) ?_; intro zs2 A2 c2 w2 HZ hown2 hb2; have HB := Lib.hid ((hb.out.alloc HBs.out _).trans hb2); have HW := Lib.hid hown2; clear hown2 hb2)
              go_roundw
              case rel => exact ⟨k + 1, zs2, A2, c2, by go_num, rfl, j_step hr.out HX.out HY.out HJ.out HZ.out, HW.out, HB.out⟩
              case measure => simp [intOf]; omega
            · have e2 : (y == 1) = false := by simpa using hy1
              by_cases hx1 : x = 1
              · have HJ := Lib.hid (jn_left (y := y) hx1)
                subst hx1
                clear hxy hy1
                go_wp2_with (at_builtin; refine wpList_app rfl (.tmp 51) (.tmp 53) rfl _ zs rfl (hown.out.kp (Kp.alloc_ _ _)) _ _ [y] _ rfl rfl (Rd.one _ _ _) (by simp; omega) (by have := HBs.out; simp; omega) ?_; intro zs2 A2 c2 w2 HZ hown2 hb2; have HB := Lib.hid ((hb.out.alloc HBs.out _).trans hb2); have HW := Lib.hid hown2; clear hown2 hb2)
                go_roundw
                case rel => exact ⟨k + 1, zs2, A2, c2, by go_num, rfl, j_step hr.out HX.out HY.out HJ.out HZ.out, HW.out, HB.out⟩
                case measure => simp [intOf]; omega
              · have e3 : (x == 1) = false := by simpa using hx1
                have HF := Lib.hid (join_none HO.out.1 HO.out.2 (by unfold joinO; rw [← HN.out]; exact j_stop hr.out HX.out HY.out (jn_none hxy hy1 hx1)))
                clear hxy hy1 hx1
                go_wp2
                try rw [Exit.noGoto_ret]
                go_ret2
                exact Ret.err_ HF.out hb.out
        · have hz3 : ¬ zs.length < n := by omega
          have hk2 : k = n := by have := hr.out.1; rw [padl n1] at this; omega
          have HJ := Lib.hid (show joinO a b = some zs by unfold joinO; rw [← HN.out]; exact j_end hr.out (by rw [padl n1]; exact hk2))
          clear hzl hk2
          cases hz : okS zs with
          | true =>
            have HC : Hid (Calls Try.prog 25 #[.slice Az zs.length cz] wr fun e w' => e = .returned (.bool true) ∧ wr = w') := by
              have hh := check_any Az cz zs wr hown.out.sl.rd
              rw [hz] at hh
              exact hh
            have HF := Lib.hid (join_yes HO.out.1 HO.out.2 HJ.out hz)
            clear hz
            go_wp2_with (go_at_call 25; refine (Calls.mono (Hid.out HC)) ?_; rintro e w' ⟨rfl, rfl⟩)
            try rw [Exit.noGoto_ret]
            go_ret2
            exact Ret.mk_ HF.out rfl hown.out.sl hb.out
          | false =>
            have HC : Hid (Calls Try.prog 25 #[.slice Az zs.length cz] wr fun e w' => e = .returned (.bool false) ∧ wr = w') := by
              have hh := check_any Az cz zs wr hown.out.sl.rd
              rw [hz] at hh
              exact hh
            have HF := Lib.hid (join_big HO.out.1 HO.out.2 HJ.out hz)
            clear hz
            go_wp2_with (go_at_call 25; refine (Calls.mono (Hid.out HC)) ?_; rintro e w' ⟨rfl, rfl⟩)
            try rw [Exit.noGoto_ret]
            go_ret2
            exact Ret.err_ HF.out hb.out
end Go.Proofs.Ytdekchfapblgeaa
