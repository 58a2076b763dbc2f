/- The numbers told of layer 4 (closures): what they answer. -/
import Derived.Test.YtofolfnnjdccgaaElB
import Derived.Deep.RegionHeld3
namespace Go.Proofs.Ytofolfnnjdccgaa
open Go.RowKit Go.Proofs.ShM

theorem undrew {a b : World} (h : Kp a.drew b) : Kp a b := ⟨h.os, h.tape, h.output, h.size, h.block⟩

set_option maxHeartbeats 2000000 in
theorem one1_tells (f : Int → Int × Int) (xs : List Int) (n : Nat) (bf bt d : Nat) (B : Option Addr) (w : World) (hB : Rd w B xs)
    (hf : w.cell? ⟨bf, 0, none⟩ = some (.func (.func n) #[] #[])) (ht : w.cell? ⟨bt, 1, none⟩ = some (.slice B xs.length d)) (lf : bf < w.heap.size) (lt : bt < w.heap.size)
    (HF : ∀ args W, (callFunc n args).run Try.prog W = .ok (.enter n args) W)
    (HN : ∀ x ∈ xs, ∀ W, Calls Try.prog n #[.int .i64 x] W fun e W' => e = .returned (.tuple #[.int .i64 (f x).1, .int .i64 (f x).2]) ∧ Kp W W') :
    Tells f xs 26 [.pointer (some ⟨bf, 0, none⟩), .pointer (some ⟨bt, 0, none⟩)] w := by
  intro k x hx W hk
  have hlen := hB.len
  have hkl := (List.getElem?_eq_some_iff.1 hx).1
  obtain ⟨ad, x', rfl, hlt, hx', hc⟩ := hB.at_ hkl
  obtain rfl : x = x' := by rw [hx] at hx'; exact Option.some.inj hx'
  have hc' : W.cell? (ad.add k) = some (.int .i64 x) := (hk.cell (by rw [block_of_add]; exact hlt)).trans hc
  have hf' : W.cell? ⟨bf, 0, none⟩ = some (.func (.func n) #[] #[]) := (hk.cell (p := ⟨bf, 0, none⟩) lf).trans hf
  have ht' : W.cell? ⟨bt, 1, none⟩ = some (.slice (some ad) xs.length d) := (hk.cell (p := ⟨bt, 1, none⟩) lt).trans ht
  have HX := Lib.hid (HN x (List.mem_of_getElem? hx))
  generalize (f x).1 = y at HX
  generalize (f x).2 = z at HX
  clear hx hx' hc hf ht HN hB
  show Calls _ _ #[.int .i64 (k : Int), .pointer (some ⟨bf, 0, none⟩), .pointer (some ⟨bt, 0, none⟩)] _ _
  go_enter Try.func26, Try.ntmps26
  go_wp2
  go_region_with (refine (HX.out _).mono ?_; rintro e w1 ⟨rfl, k1⟩; have K1 := Lib.hid k1; clear k1)
  all_goals
    go_wp2
    go_ret2
    exact ⟨rfl, undrew K1.out⟩

set_option maxHeartbeats 8000000 in
theorem two1_tells (f : Int × Int → Int × Int) (xs ys : List Int) (n : Nat) (bf bt bu d e0 : Nat) (B C : Option Addr) (w : World) (hB : Rd w B xs) (hC : Rd w C ys) (hxy : xs.length = ys.length)
    (hf : w.cell? ⟨bf, 0, none⟩ = some (.func (.func n) #[] #[])) (ht : w.cell? ⟨bt, 1, none⟩ = some (.slice B xs.length d)) (hu : w.cell? ⟨bu, 1, none⟩ = some (.slice C ys.length e0)) (lf : bf < w.heap.size) (lt : bt < w.heap.size) (lu : bu < w.heap.size)
    (HF : ∀ args W, (callFunc n args).run Try.prog W = .ok (.enter n args) W)
    (HN : ∀ x y, x ∈ xs → y ∈ ys → ∀ W, Calls Try.prog n #[.int .i64 x, .int .i64 y] W fun e W' => e = .returned (.tuple #[.int .i64 (f (x, y)).1, .int .i64 (f (x, y)).2]) ∧ Kp W W') :
    Tells f (xs.zip ys) 29 [.pointer (some ⟨bf, 0, none⟩), .pointer (some ⟨bt, 0, none⟩), .pointer (some ⟨bu, 0, none⟩)] w := by
  intro k xy hxy' W hk
  have hlen := hB.len
  obtain ⟨x, y⟩ := xy
  obtain ⟨hx, hy⟩ := List.getElem?_zip_eq_some.1 hxy'
  have hkl := (List.getElem?_eq_some_iff.1 hx).1
  have hkm := (List.getElem?_eq_some_iff.1 hy).1
  obtain ⟨ad, x', rfl, hlt, hx', hc⟩ := hB.at_ hkl
  obtain ⟨ae, y', rfl, hlt2, hy', hc2⟩ := hC.at_ hkm
  obtain rfl : x = x' := by rw [hx] at hx'; exact Option.some.inj hx'
  obtain rfl : y = y' := by rw [hy] at hy'; exact Option.some.inj hy'
  have hc' : W.cell? (ad.add k) = some (.int .i64 x) := (hk.cell (by rw [block_of_add]; exact hlt)).trans hc
  have hd' : W.cell? (ae.add k) = some (.int .i64 y) := (hk.cell (by rw [block_of_add]; exact hlt2)).trans hc2
  have hf' : W.cell? ⟨bf, 0, none⟩ = some (.func (.func n) #[] #[]) := (hk.cell (p := ⟨bf, 0, none⟩) lf).trans hf
  have ht' : W.cell? ⟨bt, 1, none⟩ = some (.slice (some ad) xs.length d) := (hk.cell (p := ⟨bt, 1, none⟩) lt).trans ht
  have hu' : W.cell? ⟨bu, 1, none⟩ = some (.slice (some ae) ys.length e0) := (hk.cell (p := ⟨bu, 1, none⟩) lu).trans hu
  have HX := Lib.hid (HN x y (List.mem_of_getElem? hx) (List.mem_of_getElem? hy))
  generalize (f (x, y)).1 = r at HX
  generalize (f (x, y)).2 = z at HX
  have i1 : (0 : Int) ≤ (k : Int) := by omega
  have i2 : (k : Int) < (xs.length : Int) := by omega
  have i3 : (k : Int) < (ys.length : Int) := by omega
  clear hx hx' hc hf ht hu HN hB hC hxy' hy hy' hc2
  have HQ : Hid (∀ w1, Kp W.drew w1 → Hid (Kp W.drew w1) ∧ w1.cell? ⟨bf, 0, none⟩ = some (.func (.func n) #[] #[]) ∧ w1.cell? ⟨bt, 1, none⟩ = some (.slice (some ad) xs.length d) ∧ w1.cell? ⟨bu, 1, none⟩ = some (.slice (some ae) ys.length e0) ∧ w1.cell? (ad.add k) = some (.int .i64 x) ∧ w1.cell? (ae.add k) = some (.int .i64 y)) := by
    intro w1 k1
    have l := hk.size
    have k2 : Kp W w1 := undrew k1
    exact ⟨k1, (k2.cell (p := ⟨bf, 0, none⟩) (by show bf < _; omega)).trans hf', (k2.cell (p := ⟨bt, 1, none⟩) (by show bt < _; omega)).trans ht', (k2.cell (p := ⟨bu, 1, none⟩) (by show bu < _; omega)).trans hu',
      (k2.cell (by rw [block_of_add]; omega)).trans hc', (k2.cell (by rw [block_of_add]; omega)).trans hd'⟩
  show Calls _ _ #[.int .i64 (k : Int), .pointer (some ⟨bf, 0, none⟩), .pointer (some ⟨bt, 0, none⟩), .pointer (some ⟨bu, 0, none⟩)] _ _
  go_enter Try.func29, Try.ntmps29
  go_wp2
  go_region_held3 (fun V => V.cell? ⟨bf, 0, none⟩ = some (.func (.func n) #[] #[]) ∧ V.cell? ⟨bt, 1, none⟩ = some (.slice (some ad) xs.length d) ∧ V.cell? ⟨bu, 1, none⟩ = some (.slice (some ae) ys.length e0) ∧ V.cell? (ad.add k) = some (.int .i64 x) ∧ V.cell? (ae.add k) = some (.int .i64 y)) (first | exact ⟨hf', ht', hu', hc', hd'⟩ | exact ⟨q1, q2, q3, q4, q5⟩)
    (first | (refine (HX.out _).mono ?_; rintro e w1 ⟨rfl, k1⟩; obtain ⟨K1, q1, q2, q3, q4, q5⟩ := HQ.out _ k1; clear k1))
  all_goals
    go_wp2
    go_ret2
    exact ⟨rfl, undrew K1.out⟩
end Go.Proofs.Ytofolfnnjdccgaa
