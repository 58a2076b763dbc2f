/- slices.Equal at []int, a side of a shape as if sides of 1 stood ahead, and Place: what each answers. -/
import Derived.Test.YtdekchfapblgeaaShapeB
namespace Go.Proofs.Ytdekchfapblgeaa
open Go.RowKit Go.Proofs.ShM

set_option maxHeartbeats 400000 in
theorem equal_any (A B : Option Addr) (c d : Nat) (xs ys : List Int) (w : World) (h : Rd w A xs) (g : Rd w B ys) :
    Calls Try.prog 41 #[.slice A xs.length c, .slice B ys.length d] w fun e w' => e = .returned (.bool (xs == ys)) ∧ ∃ n, w' = w.drewN n := by
  have hl := h.len
  by_cases hn : xs.length = ys.length
  · have HN := Lib.hid hn
    have hle : ys.length ≤ 9223372036854775807 := by omega
    have e1 : ((xs.length : Int) != (ys.length : Int)) = false := by simp [hn]
    clear hn
    go_enter Try.func41, Try.ntmps41
    go_wp2
    go_loopw [5, 13] (fun _ i wr => ∃ (k n : Nat), i = .int .i64 k ∧ wr = w.drewN n ∧ Hid (ShB.Eqd xs ys k)) (fun _ i _ => xs.length - (intOf i).toNat)
    case atStart => exact ⟨0, 0, rfl, rfl, ShB.eq_start _ _⟩
    case round =>
      obtain ⟨k, n, rfl, rfl, hr⟩ := hrel
      by_cases hk : k < xs.length
      · obtain ⟨ad, x, rfl, _, hx, hc⟩ := h.at_ hk
        obtain ⟨bd, y, rfl, _, hy, hcy⟩ := g.at_ (k := k) (by have := HN.out; omega)
        have HX := Lib.hid hx
        have HY := Lib.hid hy
        have hky : k < ys.length := by have := HN.out; omega
        have i1 : (0 : Int) ≤ (k : Int) := by omega
        have i2 : (k : Int) < (xs.length : Int) := by omega
        have i3 : (k : Int) < (ys.length : Int) := by omega
        clear hx hy e1
        by_cases hxy : x = y
        · subst hxy
          go_wp2
          go_quiet (fail)
          go_wp2
          go_roundw
          case rel => exact ⟨k + 1, _, by go_num, by first | rfl | exact World.drewN_drewN _ _ _, ShB.eq_step hr.out HX.out HY.out⟩
          case measure => simp [intOf]; omega
        · have e2 : (x != y) = true := by simpa using hxy
          have HF := Lib.hid (ShB.eq_bad HX.out HY.out hxy)
          clear hxy
          go_wp2
          go_quiet (fail)
          go_wp2
          go_ret
          exact ⟨ret_bool HF.out.symm, _, by first | rfl | exact World.drewN_drewN _ _ _⟩
      · have hk' : k = xs.length := by have := hr.out.1; omega
        have HF := Lib.hid (ShB.eq_end (hk' ▸ hr.out) HN.out)
        clear hk' e1
        go_wp2
        go_ret
        exact ⟨ret_bool HF.out.symm, _, rfl⟩
  · have HF := Lib.hid (ShB.eq_len hn)
    have e1 : ((xs.length : Int) != (ys.length : Int)) = true := by simp; omega
    clear hn
    go_enter Try.func41, Try.ntmps41
    go_wp2
    go_ret
    exact ⟨ret_bool HF.out.symm, 0, rfl⟩

/-- The side is the padded shape's. -/
theorem pad_len {n : Nat} {s : List Int} (h : s.length ≤ n) : (pad n s).length = n := by unfold pad; simp; omega
theorem pad_one {n k : Nat} {s : List Int} (h : k < n - s.length) : (pad n s)[k]? = some 1 := by
  unfold pad; rw [List.getElem?_append_left (by simpa using h)]; simp [h]
theorem pad_at {n k : Nat} {s : List Int} (h : n - s.length ≤ k) : (pad n s)[k]? = s[k - (n - s.length)]? := by
  unfold pad; rw [List.getElem?_append_right (by simpa using h)]; simp

set_option maxHeartbeats 400000 in
theorem sideof_any (A : Option Addr) (c : Nat) (xs : List Int) (w : World) (h : Rd w A xs) (k n : Nat) (h1 : xs.length ≤ n) (h2 : k < n) (h3 : n ≤ 1000) :
    Calls Try.prog 49 #[.slice A xs.length c, .int .i64 k, .int .i64 n] w fun e w' => ∃ x, e = .returned (.int .i64 x) ∧ (pad n xs)[k]? = some x ∧ w = w' := by
  by_cases hk : k < n - xs.length
  · have HF := Lib.hid (pad_one hk)
    go_enter Try.func49, Try.ntmps49
    go_wp2
    go_ret
    exact ⟨_, rfl, HF.out, rfl⟩
  · obtain ⟨ad, x, rfl, _, hx, hc⟩ := h.at_ (k := k - (n - xs.length)) (by omega)
    have HF := Lib.hid ((pad_at (s := xs) (n := n) (k := k) (by omega)).trans hx)
    clear hx
    obtain ⟨d, rfl⟩ : ∃ d, n = xs.length + d := ⟨n - xs.length, by omega⟩
    obtain ⟨j, rfl⟩ : ∃ j, k = j + d := ⟨k - d, by omega⟩
    rw [show j + d - (xs.length + d - xs.length) = j by omega] at hc
    go_enter Try.func49, Try.ntmps49
    go_wp2
    go_ret
    exact ⟨_, rfl, HF.out, rfl⟩
end Go.Proofs.Ytdekchfapblgeaa
