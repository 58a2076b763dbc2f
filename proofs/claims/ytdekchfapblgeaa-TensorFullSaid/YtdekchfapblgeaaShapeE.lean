/- Index of layer 2: what it answers. -/
import Derived.Test.YtdekchfapblgeaaShapeD
namespace Go.Proofs.Ytdekchfapblgeaa
open Go.RowKit Go.Proofs.ShM

theorem Ret.mk_ {r : List Int × Int} {zs : List Int} {err : Int} {w w' : World} {A : Option Addr} {n c : Nat} (hr : r = (zs, err)) (hn : n = zs.length) (hs : Sl w' A c zs) (hk : Kp w w') :
    Ret r w (.returned (.tuple #[.slice A n c, .int .i64 err])) w' := by
  subst hr hn
  exact ⟨A, c, rfl, hs, hk⟩
theorem Ret.err_ {r : List Int × Int} {err : Int} {w w' : World} (hr : r = ([], err)) (hk : Kp w w') : Ret r w (.returned (.tuple #[.slice none 0 0, .int .i64 err])) w' :=
  Ret.mk_ hr rfl (Sl.nil_ _) hk

namespace ShE
def Rel (s : List Int) (p0 : Int) (k : Nat) (p q : Int) (zs : List Int) : Prop :=
  k ≤ s.length ∧ zs.length = s.length ∧ zs.take k ++ digs (s.drop k) p = digs s p0 ∧ 0 ≤ p ∧ p < q ∧ q = prodS (s.drop k)
theorem start {s : List Int} {p : Int} (h0 : 0 ≤ p) (h1 : p < sizeV s) : Rel s p 0 p (sizeV s) (List.replicate s.length 0) :=
  ⟨Nat.zero_le _, by simp, by simp, h0, h1, size_ok (ok_of_lt h0 h1)⟩
theorem bnd {s : List Int} {p0 p q : Int} {k : Nat} {zs : List Int} (h : Rel s p0 k p q zs) (hs : okS s = true) : 0 ≤ p ∧ p < q ∧ 1 ≤ q ∧ q ≤ 4096 := by
  obtain ⟨_, _, _, h0, h1, rfl⟩ := h
  have := prod_le3 (all_drop (ok_iff.1 hs).2.1 k) (by have := (ok_iff.1 hs).1; simp; omega)
  exact ⟨h0, h1, by omega, this⟩
theorem step {s : List Int} {p0 p q x : Int} {k : Nat} {zs : List Int} (h : Rel s p0 k p q zs) (hs : okS s = true) (hx : s[k]? = some x) :
    Rel s p0 (k + 1) (p % (q / x)) (q / x) (zs.set k (p / (q / x))) ∧ 1 ≤ x ∧ 1 ≤ q / x ∧ q / x ≤ 4096 := by
  obtain ⟨_, h2, h3, h0, h1, rfl⟩ := h
  obtain ⟨d1, d2, d3, d4, d5, _, _⟩ := digs_drop (ok_iff.1 hs).2.1 hx p h0 h1
  have hk := (List.getElem?_eq_some_iff.1 hx).1
  have := prod_le3 (all_drop (ok_iff.1 hs).2.1 (k + 1)) (by have := (ok_iff.1 hs).1; simp; omega)
  rw [d2]
  refine ⟨⟨hk, by simpa using h2, ?_, d4, d5, rfl⟩, (side_of (ok_iff.1 hs).2.1 hx).1, d3, this⟩
  rw [← h3, d1, take_of (x := p / prodS (s.drop (k + 1))) (by rw [List.getElem?_set_self (by omega)]), List.take_set_of_le (by omega)]
  simp
theorem end_ {s : List Int} {p0 p q : Int} {k : Nat} {zs : List Int} (h : Rel s p0 k p q zs) (hk : k = s.length) (h0 : 0 ≤ p0) (h1 : p0 < sizeV s) : indexV s p0 = (zs, 0) ∧ s.length = zs.length := by
  obtain ⟨_, h2, h3, _⟩ := h
  subst hk
  rw [List.drop_length, ← h2, List.take_length] at h3
  simp only [digs, List.append_nil] at h3
  rw [index_yes h0 h1, ← h3]
  exact ⟨rfl, h2.symm⟩
end ShE

/-- The answer is a list of the call's own and the error. -/
def RetP (r : List Int × Int) (w : World) (e : Ending) (w' : World) : Prop := ∃ A c, e = .returned (.tuple #[.slice A r.1.length c, .int .i64 r.2]) ∧ Own w.heap.size w' (.slice A r.1.length c) r.1 ∧ Kp w w'
theorem RetP.err_ {r : List Int × Int} {err : Int} {w w' : World} (h : r = ([], err)) (k : Kp w w') : RetP r w (.returned (.tuple #[.slice none 0 0, .int .i64 err])) w' := by
  subst h; exact ⟨none, 0, rfl, Own.nil_ _ _, k⟩
theorem RetP.mk_ {r : List Int × Int} {n c : Nat} {err : Int} {xs : List Int} {A : Option Addr} {w w' : World} (h : r = (xs, err)) (hn : n = xs.length) (o : Own w.heap.size w' (.slice A n c) xs) (k : Kp w w') : RetP r w (.returned (.tuple #[.slice A n c, .int .i64 err])) w' := by
  subst h hn; exact ⟨A, c, rfl, o, k⟩
theorem RetP.ret {r : List Int × Int} {w w' : World} {e : Ending} (h : RetP r w e w') : Ret r w e w' := by
  obtain ⟨A, c, e1, o, k⟩ := h
  exact ⟨A, c, e1, o.sl, k⟩

set_option maxHeartbeats 1000000 in
theorem index_own (A : Option Addr) (c : Nat) (s : List Int) (p' : Int) (w : World) (h : Rd w A s) :
    Calls Try.prog 24 #[.slice A s.length c, .int .i64 p'] w (RetP (indexV s p') w) := by
  have hl := h.len
  have HC := Lib.hid (size_any A c s w h)
  by_cases hp : p' < 0 ∨ sizeV s ≤ p'
  · have HF := Lib.hid (index_no hp)
    rcases hp with hp | hp
    all_goals
      by_cases hp' : p' < 0
      all_goals
        go_enter Try.func24, Try.ntmps24
        go_wp2_with fail
        refine (Calls.mono (Hid.out HC)) ?_; rintro e w' ⟨rfl, rfl⟩
        go_wp2
        first | exact absurd hp hp' | (go_ret2; exact RetP.err_ HF.out (Kp.refl _))
  · have h0 : 0 ≤ p' := by omega
    have h1 : p' < sizeV s := by omega
    have HO := Lib.hid (ok_of_lt h0 h1)
    have h3 : s.length ≤ 3 := (ok_iff.1 HO.out).1
    obtain ⟨cs, hmk, hown⟩ := mk_ s.length (by omega)
    have H0 := Lib.hid (hown w w.heap.size (Nat.le_refl _))
    have HS := Lib.hid (ShE.start h0 h1)
    have HP := Lib.hid (And.intro h0 h1)
    clear hp hown
    go_enter Try.func24, Try.ntmps24
    go_wp2_with fail
    refine (Calls.mono (Hid.out HC)) ?_; rintro e w' ⟨rfl, rfl⟩
    go_wp2
    go_loopw [1, 6, 8, 23] (fun p q _ i wr => ∃ (k : Nat) (pv qv : Int) (zs : List Int), i = .int .i64 k ∧ p = .int .i64 pv ∧ q = .int .i64 qv ∧ Hid (ShE.Rel s p' k pv qv zs) ∧
      Own w.heap.size wr (.slice (some ⟨w.heap.size, 0, none⟩) s.length s.length) zs ∧ Below w.heap.size w wr) (fun _ _ _ i _ => s.length - (intOf i).toNat)
    case atStart => exact ⟨0, _, _, _, rfl, rfl, rfl, HS.out, H0.out, (Below.refl _ _).alloc (Nat.le_refl _) _⟩
    case round =>
      obtain ⟨k, pv, qv, zs, rfl, rfl, rfl, hr, hown, hb⟩ := hrel
      by_cases hk : k < s.length
      · obtain ⟨ad, x, rfl, hlt, hx, hc⟩ := h.at_ hk
        have hc' : wr.cell? (ad.add k) = some (.int .i64 x) := (hb.cell (by rw [block_of_add]; exact hlt)).trans hc
        obtain ⟨b1, b2, b3, b4⟩ := ShE.bnd hr.out HO.out
        obtain ⟨r1, r2, r3, r4⟩ := ShE.step hr.out HO.out hx
        have HR := Lib.hid r1
        have hz : k < zs.length := by have := hr.out.2.1; omega
        have hcz := hown.cell_ (j := k) (List.getElem?_eq_getElem hz)
        have hfz := hown.froz_ k
        have HW := Lib.hid hown
        have HB := Lib.hid hb
        clear r1 hx hc hown hb hmk
        go_wp2
        go_roundw
        case rel => exact ⟨k + 1, _, _, _, by go_num, rfl, rfl, HR.out, HW.out.set_ _ _, HB.out.setCell (Nat.le_refl _) _⟩
        case measure => simp [intOf]; omega
      · have hk' : k = s.length := by have := hr.out.1; omega
        have HF := Lib.hid (ShE.end_ hr.out hk' HP.out.1 HP.out.2)
        clear hk'
        go_wp2
        go_ret2
        exact RetP.mk_ HF.out.1 HF.out.2 hown hb
theorem index_any (A : Option Addr) (c : Nat) (s : List Int) (p' : Int) (w : World) (h : Rd w A s) :
    Calls Try.prog 24 #[.slice A s.length c, .int .i64 p'] w (Ret (indexV s p') w) :=
  (index_own A c s p' w h).mono fun _ _ r => r.ret
end Go.Proofs.Ytdekchfapblgeaa
