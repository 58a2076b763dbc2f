/- The document's tensor with another number at an index, one of one number, and whether two are the same: what each answers. -/
import Derived.Test.YtdekchfapblgeaaTnC
namespace Go.Proofs.Ytdekchfapblgeaa
open Go.RowKit Go.Proofs.ShM

namespace TnD
theorem at_of {s d t : List Int} {e : Int} (h : pinV s d t = (0, e)) (he : e = 30 ∨ e = 20) : atV s d t = (0, e) := TnB.at_err h he
end TnD

set_option maxHeartbeats 2000000 in
theorem rwith_any (A B C : Option Addr) (c d g : Nat) (s xs t : List Int) (n : Int) (w : World) (hA : Rd w A s) (hB : Rd w B xs) (hC : Rd w C t) :
    Calls Try.prog 15 #[.agg #[.slice A s.length c, .slice B xs.length d], .slice C t.length g, .int .i64 n] w (RetT (withV s xs t n) w) := by
  have hl := hA.len
  have gl := hB.len
  have kl := hC.len
  have F0 := Lib.hid (Fr.mk_ w A s.length c B xs.length d 24)
  have HT := Lib.hid (rat_any A B C c d g s xs t _ (hA.kp F0.out.kp) (hB.kp F0.out.kp) (hC.kp F0.out.kp))
  rcases TnB.pin_cases s xs t with ⟨e, he, hp⟩ | ⟨k, hk, hp, ht⟩
  · rw [TnB.at_err hp he] at HT
    have HF := Lib.hid (TnB.with_err n hp he)
    clear hp
    rcases he with rfl | rfl
    all_goals
      go_enter Try.func15, Try.ntmps15
      go_wp2_with fail
      refine (Calls.mono (Hid.out HT)) ?_; rintro e w1 ⟨rfl, k1⟩
      have F1 := Lib.hid (F0.out.tr k1)
      obtain ⟨_, b0, b1, r0, r1, f0, f1, _⟩ := F1.out
      clear k1
      go_wp2
      refine bodyPost_ret (by simp [results, Try.results15, go_sem, r0, r1]; try rfl) rfl ?_
      exact RetT.err HF.out (F1.out.end_ _ _)
  · obtain ⟨x, hx⟩ : ∃ x, xs[k]? = some x := ⟨xs[k], List.getElem?_eq_getElem hk⟩
    rw [TnB.at_yes hp hx] at HT
    have HF := Lib.hid (TnB.with_yes n hp)
    have HP : Hid (∀ W, Kp w W → Calls Try.prog 34 #[.slice A s.length c, .slice C t.length g] W (RetK k 0 W)) := fun W kk => by
      have hh := rplace_any A C c g s t W (hA.kp kk) (hC.kp kk)
      rw [← TnB.pin_is t ht, hp] at hh
      exact hh
    have hx3 : xs.length ≤ 64 := (tok_len ht).2.2.2
    have HX := Lib.hid hx
    clear hp ht hx
    go_enter Try.func15, Try.ntmps15
    go_wp2_with fail
    refine (Calls.mono (Hid.out HT)) ?_; rintro e w1 ⟨rfl, k1⟩
    have F1 := Lib.hid (F0.out.tr k1)
    obtain ⟨_, b0, _, _, _, _, _, _⟩ := F1.out
    clear k1
    go_wp2_with fail
    refine (Calls.mono (HP.out _ F1.out.kp)) ?_; rintro e w2 ⟨rfl, k2⟩
    have F2 := Lib.hid (F1.out.tr k2)
    clear k2 b0
    obtain ⟨_, b0, b1, _, _, _, _, z2⟩ := F2.out
    have HB2 := Lib.hid (hB.kp F2.out.kp)
    have y1 : w.heap.size < w2.heap.size := by omega
    have y2 : w.heap.size ≠ w2.heap.size := by omega
    go_upto_region 6 with (at_builtin; refine wpList_app rfl (.tmp 30) (.tmp 32) rfl _ [] rfl (Own.zero w2 (Nat.le_refl _)) B d xs _ rfl rfl (HB2.out.alloc_ _) (Nat.le_trans (by simp) (Nat.le_trans hx3 (by omega))) (by simp) ?_; intro zs A3 c3 w3 HZ o3 b3)
    have hz := HZ.out
    simp only [List.nil_append] at hz
    subst hz
    have F3 := Lib.hid (F2.out.tr ((Kp.alloc_ w2 _).trans b3))
    have O3 := Lib.hid o3
    obtain ⟨gd, rfl, hg1, hg2⟩ := o3.addr (Nat.lt_of_le_of_lt (Nat.zero_le _) hk)
    have e1 := o3.cell_ HX.out
    have e2 := o3.froz_ k
    clear b0 b1 o3 b3
    obtain ⟨_, b0, b1, r0, r1, f0, f1, _⟩ := F3.out
    have hr : gd ≠ w.heap.size + 1 := by omega
    have hq : gd ≠ w.heap.size := by omega
    have s0 : ∀ v, (w3.setCell ⟨gd, k, none⟩ v).cell? ⟨w.heap.size + 1, 0, none⟩ = some (.slice none 0 0) := fun v => cell_ne (fun e => hr (congrArg Addr.block e)) r0
    have s1 : ∀ v, (w3.setCell ⟨gd, k, none⟩ v).cell? ⟨w.heap.size + 1, 1, none⟩ = some (.slice none 0 0) := fun v => cell_ne (fun e => hr (congrArg Addr.block e)) r1
    have s2 : ∀ v, (w3.setCell ⟨gd, k, none⟩ v).cell? ⟨w.heap.size, 0, none⟩ = some (.slice A s.length c) := fun v => cell_ne (fun e => hq (congrArg Addr.block e)) b0
    go_wp2
    refine bodyPost_ret (by simp [results, Try.results15, go_sem, s0, s1]; try rfl) rfl ?_
    have hkp := ((F3.out.kp.setCell (p := ⟨gd, k, none⟩) (by show w.heap.size ≤ gd; omega) (.int .i64 n)).setCell (p := ⟨w.heap.size + 1, 0, none⟩) (by simp) (.slice A s.length c)).setCell (p := ⟨w.heap.size + 1, 1, none⟩) (by simp) (.slice (some ⟨gd, 0, none⟩) zs.length c3)
    exact RetT.on HF.out rfl (List.length_set ..).symm (hA.kp hkp) (((O3.out.set_ k n).put_ (p := ⟨w.heap.size + 1, 0, none⟩) (by show w.heap.size + 1 < _; omega) _).put_ (p := ⟨w.heap.size + 1, 1, none⟩) (by show w.heap.size + 1 < _; omega) _).sl.rd hkp
end Go.Proofs.Ytdekchfapblgeaa
