/- Place and Index of layer 2: what each answers. -/
import Derived.Test.YtdekchfapblgeaaShOwn
import Derived.Test.YtdekchfapblgeaaShapeC
namespace Go.Proofs.Ytdekchfapblgeaa
open Go.RowKit Go.Proofs.ShM

/-- A []int that is there, with its capacity. -/
structure Sl (w : World) (A : Option Addr) (c : Nat) (xs : List Int) : Prop where
  rd : Rd w A xs
  le : xs.length ≤ c
  cap : c ≤ 9223372036854775807
theorem Sl.kp {w w' : World} {A : Option Addr} {c : Nat} {xs : List Int} (h : Sl w A c xs) (k : Kp w w') : Sl w' A c xs := ⟨h.rd.kp k, h.le, h.cap⟩
theorem Sl.nil_ (w : World) : Sl w none 0 [] := ⟨Rd.nil _ _, by simp, by omega⟩
theorem Own.sl {B : Nat} {w : World} {A : Option Addr} {n c : Nat} {xs : List Int} (h : Own B w (.slice A n c) xs) : Sl w A c xs := by
  obtain ⟨A', c', e, h1, h2, h3⟩ := h.ints
  injection e with e1 e2 e3
  subst e1 e3
  exact ⟨h3, h1, by unfold maxLen at h2; omega⟩
/-- The answer is the list and the error; nothing that was there has changed. -/
def RetL (xs : List Int) (err : Int) (w : World) (e : Ending) (w' : World) : Prop := ∃ A c, e = .returned (.tuple #[.slice A xs.length c, .int .i64 err]) ∧ Sl w' A c xs ∧ Kp w w'
abbrev Ret (r : List Int × Int) (w : World) (e : Ending) (w' : World) : Prop := RetL r.1 r.2 w e w'
/-- The answer is the number and the error; nothing that was there has changed. -/
def RetK (n err : Int) (w : World) (e : Ending) (w' : World) : Prop := e = .returned (.tuple #[.int .i64 n, .int .i64 err]) ∧ Kp w w'
theorem Kp.drewN_ (w : World) (n : Nat) : Kp w (w.drewN n) := ⟨rfl, rfl, rfl, Nat.le_refl _, fun _ _ => rfl⟩
/-- The answer is the number and the error; the world is as it was, but for draws. -/
def RetN (r : Int × Int) (w : World) (e : Ending) (w' : World) : Prop := e = .returned (.tuple #[.int .i64 r.1, .int .i64 r.2]) ∧ ∃ n, w' = w.drewN n

namespace ShD
/-- What holds at the head of each round of Place. -/
def Rel (s t : List Int) (k : Nat) (a : Int) : Prop := k ≤ s.length ∧ inIdx (s.drop k) (t.drop k) = inIdx s t ∧ plc s t = a * prodS (s.drop k) + plc (s.drop k) (t.drop k) ∧ 0 ≤ a ∧ a < prodS (s.take k)
theorem start (s t : List Int) : Rel s t 0 0 := ⟨Nat.zero_le _, rfl, by simp, Int.le_refl _, by simp [prodS]⟩
theorem bnd {s t : List Int} {k : Nat} {a : Int} (h : Rel s t k a) (hs : okS s = true) : 0 ≤ a ∧ a ≤ 4096 := by
  obtain ⟨_, _, _, h0, h1⟩ := h
  have := prod_le3 (all_take (ok_iff.1 hs).2.1 k) (by have := List.length_take_le k s; have := (ok_iff.1 hs).1; omega)
  omega
theorem step {s t : List Int} {k : Nat} {a x y : Int} (h : Rel s t k a) (hs : okS s = true) (hx : s[k]? = some x) (hy : t[k]? = some y) (hy0 : 0 ≤ y) (hy1 : y < x) :
    Rel s t (k + 1) (a * x + y) ∧ 0 ≤ a * x ∧ a * x ≤ 4096 ∧ 0 ≤ a * x + y ∧ a * x + y ≤ 4096 := by
  obtain ⟨_, h2, h3, h0, h1⟩ := h
  obtain ⟨r1, r2, r3, r4⟩ := plc_round (ok_iff.1 hs).2.1 hx hy h2 h3 h0 h1 hy0 hy1
  have hk := (List.getElem?_eq_some_iff.1 hx).1
  have := prod_le3 (all_take (ok_iff.1 hs).2.1 (k + 1)) (by have := List.length_take_le (k + 1) s; have := (ok_iff.1 hs).1; omega)
  exact ⟨⟨hk, r1, r2, by omega, r4⟩, r3, by omega, by omega, by omega⟩
theorem bad {s t : List Int} {k : Nat} {a x y : Int} (h : Rel s t k a) (hx : s[k]? = some x) (hy : t[k]? = some y) (hb : y < 0 ∨ x ≤ y) : placeV s t = (0, 20) :=
  place_no (.inr (in_out hx hy h.2.1 hb))
theorem end_ {s t : List Int} {a : Int} {k : Nat} (h : Rel s t k a) (hk : k = s.length) (hs : okS s = true) (hl : t.length = s.length) : placeV s t = (a, 0) := by
  obtain ⟨_, h2, h3, _, _⟩ := h
  subst hk
  rw [List.drop_length, ← hl, List.drop_length] at h2
  rw [List.drop_length, ← hl, List.drop_length] at h3
  rw [place_yes hs h2.symm, h3]
  simp [prodS, plc]
end ShD

set_option maxHeartbeats 1000000 in
theorem place_any (A B : Option Addr) (c d : Nat) (s t : List Int) (w : World) (h : Rd w A s) (g : Rd w B t) :
    Calls Try.prog 44 #[.slice A s.length c, .slice B t.length d] w (RetN (placeV s t) w) := by
  have hl := h.len
  have gl := g.len
  have HC := Lib.hid (check_any A c s w h)
  cases ho : okS s with
  | false =>
    rw [ho] at HC
    have HF := Lib.hid (place_no (s := s) (t := t) (.inl ho))
    clear ho
    go_enter Try.func44, Try.ntmps44
    go_wp2_with fail
    refine (Calls.mono (Hid.out HC)) ?_; rintro e w' ⟨rfl, rfl⟩
    go_wp2
    go_ret2
    exact ⟨ret_ints HF.out, 0, rfl⟩
  | true =>
    rw [ho] at HC
    have HO := Lib.hid ho
    clear ho
    by_cases hn : t.length = s.length
    · have e1 : ((t.length : Int) != (s.length : Int)) = false := by simp [hn]
      have HN := Lib.hid hn
      clear hn
      go_enter Try.func44, Try.ntmps44
      go_wp2_with fail
      refine (Calls.mono (Hid.out HC)) ?_; rintro e w' ⟨rfl, rfl⟩
      go_wp2
      go_loopw [6, 20] (fun p i wr => ∃ (k n : Nat) (a : Int), i = .int .i64 k ∧ p = .int .i64 a ∧ wr = w.drewN n ∧ Hid (ShD.Rel s t k a)) (fun _ i _ => s.length - (intOf i).toNat)
      case atStart => exact ⟨0, 0, 0, rfl, rfl, rfl, ShD.start _ _⟩
      case round =>
        obtain ⟨k, n, a, rfl, rfl, rfl, hr⟩ := hrel
        by_cases hk : k < s.length
        · obtain ⟨ad, x, rfl, _, hx, hc⟩ := h.at_ hk
          obtain ⟨bd, y, rfl, _, hy, hcy⟩ := g.at_ (k := k) (by have := HN.out; omega)
          have HX := Lib.hid hx
          have HY := Lib.hid hy
          have hkt : k < t.length := by have := HN.out; omega
          have i1 : (0 : Int) ≤ (k : Int) := by omega
          have i2 : (k : Int) < (s.length : Int) := by omega
          have i3 : (k : Int) < (t.length : Int) := by omega
          clear hx hy e1
          by_cases hy0 : y < 0
          · have HF := Lib.hid (ShD.bad hr.out HX.out HY.out (.inl hy0))
            have d1 : decide (y < 0) = true := by simpa using hy0
            go_wp2
            go_quiet (fail)
            go_wp2
            go_ret2
            exact ⟨ret_ints HF.out, _, by first | rfl | exact World.drewN_drewN _ _ _⟩
          · have d1 : decide (y < 0) = false := by simpa using hy0
            by_cases hy1 : x ≤ y
            · have HF := Lib.hid (ShD.bad hr.out HX.out HY.out (.inr hy1))
              have d2 : decide (x ≤ y) = true := by simpa using hy1
              go_wp2
              go_quiet (fail)
              go_wp2
              go_ret2
              exact ⟨ret_ints HF.out, _, by first | rfl | exact World.drewN_drewN _ _ _⟩
            · have d2 : decide (x ≤ y) = false := by simpa using hy1
              have hb := ShD.bnd hr.out HO.out
              obtain ⟨hs, b1, b2, b3, b4⟩ := ShD.step hr.out HO.out HX.out HY.out (by omega) (by omega)
              have HS := Lib.hid hs; clear hs
              have i4 : IntKind.i64.wrap (a * x) = a * x := IntWalk.i64_in _ (by omega)
              have i5 : IntKind.i64.wrap (a * x + y) = a * x + y := IntWalk.i64_in _ (by omega)
              go_wp2
              go_quiet (fail)
              go_wp2
              go_quiet (fail)
              go_wp2
              go_roundw
              case rel => exact ⟨k + 1, _, a * x + y, by go_num, rfl, by first | rfl | exact World.drewN_drewN _ _ _, HS⟩
              case measure => simp [intOf]; omega
        · have hk' : k = s.length := by have := hr.out.1; omega
          have HF := Lib.hid (ShD.end_ hr.out hk' HO.out HN.out)
          clear hk' e1
          go_wp2
          go_ret2
          exact ⟨ret_ints HF.out, _, rfl⟩
    · have e1 : ((t.length : Int) != (s.length : Int)) = true := by simp; omega
      have HF := Lib.hid (place_no (s := s) (t := t) (.inr (in_len_no hn)))
      clear hn
      go_enter Try.func44, Try.ntmps44
      go_wp2_with fail
      refine (Calls.mono (Hid.out HC)) ?_; rintro e w' ⟨rfl, rfl⟩
      go_wp2
      go_ret2
      exact ⟨ret_ints HF.out, 0, rfl⟩
end Go.Proofs.Ytdekchfapblgeaa
