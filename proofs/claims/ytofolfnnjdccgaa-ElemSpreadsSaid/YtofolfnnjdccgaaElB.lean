/- each of layer 4: the tensor of the number told for each place; the first error ends it. -/
import Derived.Test.YtofolfnnjdccgaaElA
import Derived.Test.YtofolfnnjdccgaaElM
namespace Go.Proofs.Ytofolfnnjdccgaa
open Go.RowKit Go.Proofs.ShM

/-- What a number told answers. -/
def Tells {α : Type} (f : α → Int × Int) (l : List α) (c : Nat) (caps : List Value) (w : World) : Prop :=
  ∀ (k : Nat) (x : α), l[k]? = some x → ∀ W, Kp w W → Calls Try.prog c (Value.int .i64 (k : Int) :: caps).toArray W fun e W' => e = .returned (.tuple #[.int .i64 (f x).1, .int .i64 (f x).2]) ∧ Kp W W'

/-- The answer's block, and what else stands since w. -/
structure Rs (w W : World) : Prop where
  kp : Kp w W
  r0 : W.cell? ⟨w.heap.size, 0, none⟩ = some (.slice none 0 0)
  r1 : W.cell? ⟨w.heap.size, 1, none⟩ = some (.slice none 0 0)
  f0 : W.frozen? ⟨w.heap.size, 0, none⟩ = false
  f1 : W.frozen? ⟨w.heap.size, 1, none⟩ = false
  sz : w.heap.size + 1 ≤ W.heap.size
theorem Rs.tb {w a b : World} (h : Rs w a) (k : Below (w.heap.size + 1) a b) : Rs w b where
  kp := h.kp.trans (k.mono (by omega))
  r0 := (k.cell (p := ⟨w.heap.size, 0, none⟩) (by show w.heap.size < _; omega)).trans h.r0
  r1 := (k.cell (p := ⟨w.heap.size, 1, none⟩) (by show w.heap.size < _; omega)).trans h.r1
  f0 := (k.frozen (p := ⟨w.heap.size, 0, none⟩) (by show w.heap.size < _; omega)).trans h.f0
  f1 := (k.frozen (p := ⟨w.heap.size, 1, none⟩) (by show w.heap.size < _; omega)).trans h.f1
  sz := Nat.le_trans h.sz k.size
theorem Rs.tr {w a b : World} (h : Rs w a) (k : Kp a b) : Rs w b := h.tb (k.mono h.sz)
theorem Rs.mk_ (w : World) (t : TypeId) : Rs w (w.alloc (.cells #[.slice none 0 0, .slice none 0 0] t)) where
  kp := Kp.alloc_ _ _
  r0 := by simp
  r1 := by simp
  f0 := by simp
  f1 := by simp
  sz := by simp
theorem Rs.end_ {w a : World} (h : Rs w a) (x y : Value) : Kp w ((a.setCell ⟨w.heap.size, 0, none⟩ x).setCell ⟨w.heap.size, 1, none⟩ y) :=
  (h.kp.setCell (p := ⟨w.heap.size, 0, none⟩) (by simp) x).setCell (p := ⟨w.heap.size, 1, none⟩) (by simp) y

set_option maxHeartbeats 2000000 in
theorem each_two {α : Type} (f : α → Int × Int) (l : List α) (A : Option Addr) (cc : Nat) (s : List Int) (c : Nat) (p q : Addr) (w : World) (hA : Rd w A s) (hs : (sizeV s).toNat = l.length)
    (HT : Tells f l c [.pointer (some p), .pointer (some q)] w) (HF : ∀ args W, (callFunc c args).run Try.prog W = .ok (.enter c args) W) :
    Calls Try.prog 24 #[.slice A s.length cc, .func (.func c) #[] #[.pointer (some p), .pointer (some q)]] w (RetT (if (mapE f l).2 = 0 then (s, (mapE f l).1, 0) else ([], [], (mapE f l).2)) w) := by
  have hl := hA.len
  have hsz := size_le s
  have HC := Lib.hid (fun W (k : Kp w W) => size_any A cc s W (hA.kp k))
  have hn : sizeV s = (l.length : Int) := by omega
  rw [hn] at HC
  obtain ⟨cs, hmk, hown⟩ := mk_ l.length (by omega)
  have HS := Lib.hid (ee_start (f := f) (l := l))
  have HO := Lib.hid hown
  have HL : Hid (l.length ≤ 64) := by show l.length ≤ 64; omega
  generalize hr : (if (mapE f l).2 = 0 then (s, (mapE f l).1, (0 : Int)) else ([], [], (mapE f l).2)) = r
  have HR := Lib.hid hr
  have HTT := Lib.hid HT
  have HA := Lib.hid hA
  clear hn hsz hs hown hr HT hA
  go_enter Try.func24, Try.ntmps24
  go_wp2_with fail
  refine (HC.out _ (Kp.alloc_ _ _)).mono ?_; rintro e w' ⟨rfl, rfl⟩
  go_wp2
  go_loopw [15] (fun i wr => ∃ (k : Nat) (zs : List Int), i = .int .i64 k ∧ Hid (Ee f l k zs) ∧ Own (w.heap.size + 1) wr (.slice (some ⟨w.heap.size + 1, 0, none⟩) l.length l.length) zs ∧ Rs w wr) (fun i _ => l.length - (intOf i).toNat)
  case atStart =>
    refine ⟨0, _, rfl, HS.out, ?_, (Rs.mk_ w _).tr (Kp.alloc_ _ _)⟩
    have h := HO.out (w.alloc (.cells #[.slice none 0 0, .slice none 0 0] 24)) (w.heap.size + 1) (Nat.le_of_eq (World.size_alloc _ _).symm)
    rw [World.size_alloc] at h
    exact h
  case round =>
    obtain ⟨k, zs, rfl, hr, hown, hb⟩ := hrel
    have hk0 := hr.out.1
    have hL : l.length ≤ 64 := HL.out
    by_cases hk : k < l.length
    · obtain ⟨x, hx⟩ : ∃ x, l[k]? = some x := ⟨l[k], List.getElem?_eq_getElem hk⟩
      have HTK := Lib.hid (HTT.out k x hx)
      have hz : k < zs.length := by have := hr.out.2.1; omega
      have HW := Lib.hid hown
      have HB := Lib.hid hb
      clear hown hb
      by_cases he : (f x).2 = 0
      · have HE := Lib.hid (ee_step hr.out hx he)
        rw [he] at HTK
        generalize (f x).1 = y at HTK HE
        clear hx he
        go_wp2_with fail
        refine (HTK.out _ HB.out.kp).mono ?_; rintro e w1 ⟨rfl, k1⟩
        have HW := Lib.hid (HW.out.kp k1)
        have HB := Lib.hid (HB.out.tr k1)
        have hcz := HW.out.cell_ (j := k) (List.getElem?_eq_getElem hz)
        have hfz := HW.out.froz_ k
        clear k1
        go_wp2
        go_roundw
        case rel =>
          exact ⟨k + 1, _, by go_num, HE.out, HW.out.set_ _ _, HB.out.tb ((Below.refl _ _).setCell (p := ⟨w.heap.size + 1, k, none⟩) (Nat.le_refl _) _)⟩
        case measure =>
          simp [intOf]; omega
      · have HE := Lib.hid (ee_bad hr.out hx he)
        have HF : Hid (r = ([], [], (f x).2)) := by
          show r = _
          rw [← HR.out, HE.out, if_neg he]
        have he' : ((f x).2 != 0) = true := by simpa using he
        generalize (f x).2 = er at HTK HF he'
        generalize (f x).1 = y at HTK
        clear hx he HE
        go_wp2_with fail
        refine (HTK.out _ HB.out.kp).mono ?_; rintro e w1 ⟨rfl, k1⟩
        have HB := Lib.hid (HB.out.tr k1)
        obtain ⟨_, r0, r1, f0, f1, _⟩ := HB.out
        clear k1
        go_wp2
        refine bodyPost_ret (v := .tuple #[.agg #[.slice none 0 0, .slice none 0 0], .int .i64 er]) (by simp [results, Try.results24, go_sem, r0, r1]; try rfl) rfl ?_
        exact RetT.err HF.out (HB.out.end_ _ _)
    · have HE := Lib.hid (ee_end hr.out hk)
      have hz : zs.length = l.length := hr.out.2.1
      have HF : Hid (r = (s, zs, 0)) := by
        show r = _
        rw [← HR.out, HE.out, if_pos rfl]
      have HW := Lib.hid hown
      have HB := Lib.hid hb
      obtain ⟨_, r0, r1, f0, f1, _⟩ := hb
      clear hown
      go_wp2
      refine bodyPost_ret (v := .tuple #[.agg #[.slice A s.length cc, .slice (some ⟨w.heap.size + 1, 0, none⟩) l.length l.length], .int .i64 0]) (by simp [results, Try.results24, go_sem, r0, r1]; try rfl) rfl ?_
      have hA := HA.out.kp (HB.out.end_ (.slice A s.length cc) (.slice (some ⟨w.heap.size + 1, 0, none⟩) l.length l.length))
      exact RetT.on HF.out rfl hz.symm hA ((HW.out.put_ (p := ⟨w.heap.size, 0, none⟩) (Nat.lt_succ_self _) _).put_ (p := ⟨w.heap.size, 1, none⟩) (Nat.lt_succ_self _) _).sl.rd (HB.out.end_ _ _)

set_option maxHeartbeats 2000000 in
theorem each_three {α : Type} (f : α → Int × Int) (l : List α) (A : Option Addr) (cc : Nat) (s : List Int) (c : Nat) (p q u : Addr) (w : World) (hA : Rd w A s) (hs : (sizeV s).toNat = l.length)
    (HT : Tells f l c [.pointer (some p), .pointer (some q), .pointer (some u)] w) (HF : ∀ args W, (callFunc c args).run Try.prog W = .ok (.enter c args) W) :
    Calls Try.prog 24 #[.slice A s.length cc, .func (.func c) #[] #[.pointer (some p), .pointer (some q), .pointer (some u)]] w (RetT (if (mapE f l).2 = 0 then (s, (mapE f l).1, 0) else ([], [], (mapE f l).2)) w) := by
  have hl := hA.len
  have hsz := size_le s
  have HC := Lib.hid (fun W (k : Kp w W) => size_any A cc s W (hA.kp k))
  have hn : sizeV s = (l.length : Int) := by omega
  rw [hn] at HC
  obtain ⟨cs, hmk, hown⟩ := mk_ l.length (by omega)
  have HS := Lib.hid (ee_start (f := f) (l := l))
  have HO := Lib.hid hown
  have HL : Hid (l.length ≤ 64) := by show l.length ≤ 64; omega
  generalize hr : (if (mapE f l).2 = 0 then (s, (mapE f l).1, (0 : Int)) else ([], [], (mapE f l).2)) = r
  have HR := Lib.hid hr
  have HTT := Lib.hid HT
  have HA := Lib.hid hA
  clear hn hsz hs hown hr HT hA
  go_enter Try.func24, Try.ntmps24
  go_wp2_with fail
  refine (HC.out _ (Kp.alloc_ _ _)).mono ?_; rintro e w' ⟨rfl, rfl⟩
  go_wp2
  go_loopw [15] (fun i wr => ∃ (k : Nat) (zs : List Int), i = .int .i64 k ∧ Hid (Ee f l k zs) ∧ Own (w.heap.size + 1) wr (.slice (some ⟨w.heap.size + 1, 0, none⟩) l.length l.length) zs ∧ Rs w wr) (fun i _ => l.length - (intOf i).toNat)
  case atStart =>
    refine ⟨0, _, rfl, HS.out, ?_, (Rs.mk_ w _).tr (Kp.alloc_ _ _)⟩
    have h := HO.out (w.alloc (.cells #[.slice none 0 0, .slice none 0 0] 24)) (w.heap.size + 1) (Nat.le_of_eq (World.size_alloc _ _).symm)
    rw [World.size_alloc] at h
    exact h
  case round =>
    obtain ⟨k, zs, rfl, hr, hown, hb⟩ := hrel
    have hk0 := hr.out.1
    have hL : l.length ≤ 64 := HL.out
    by_cases hk : k < l.length
    · obtain ⟨x, hx⟩ : ∃ x, l[k]? = some x := ⟨l[k], List.getElem?_eq_getElem hk⟩
      have HTK := Lib.hid (HTT.out k x hx)
      have hz : k < zs.length := by have := hr.out.2.1; omega
      have HW := Lib.hid hown
      have HB := Lib.hid hb
      clear hown hb
      by_cases he : (f x).2 = 0
      · have HE := Lib.hid (ee_step hr.out hx he)
        rw [he] at HTK
        generalize (f x).1 = y at HTK HE
        clear hx he
        go_wp2_with fail
        refine (HTK.out _ HB.out.kp).mono ?_; rintro e w1 ⟨rfl, k1⟩
        have HW := Lib.hid (HW.out.kp k1)
        have HB := Lib.hid (HB.out.tr k1)
        have hcz := HW.out.cell_ (j := k) (List.getElem?_eq_getElem hz)
        have hfz := HW.out.froz_ k
        clear k1
        go_wp2
        go_roundw
        case rel =>
          exact ⟨k + 1, _, by go_num, HE.out, HW.out.set_ _ _, HB.out.tb ((Below.refl _ _).setCell (p := ⟨w.heap.size + 1, k, none⟩) (Nat.le_refl _) _)⟩
        case measure =>
          simp [intOf]; omega
      · have HE := Lib.hid (ee_bad hr.out hx he)
        have HF : Hid (r = ([], [], (f x).2)) := by
          show r = _
          rw [← HR.out, HE.out, if_neg he]
        have he' : ((f x).2 != 0) = true := by simpa using he
        generalize (f x).2 = er at HTK HF he'
        generalize (f x).1 = y at HTK
        clear hx he HE
        go_wp2_with fail
        refine (HTK.out _ HB.out.kp).mono ?_; rintro e w1 ⟨rfl, k1⟩
        have HB := Lib.hid (HB.out.tr k1)
        obtain ⟨_, r0, r1, f0, f1, _⟩ := HB.out
        clear k1
        go_wp2
        refine bodyPost_ret (v := .tuple #[.agg #[.slice none 0 0, .slice none 0 0], .int .i64 er]) (by simp [results, Try.results24, go_sem, r0, r1]; try rfl) rfl ?_
        exact RetT.err HF.out (HB.out.end_ _ _)
    · have HE := Lib.hid (ee_end hr.out hk)
      have hz : zs.length = l.length := hr.out.2.1
      have HF : Hid (r = (s, zs, 0)) := by
        show r = _
        rw [← HR.out, HE.out, if_pos rfl]
      have HW := Lib.hid hown
      have HB := Lib.hid hb
      obtain ⟨_, r0, r1, f0, f1, _⟩ := hb
      clear hown
      go_wp2
      refine bodyPost_ret (v := .tuple #[.agg #[.slice A s.length cc, .slice (some ⟨w.heap.size + 1, 0, none⟩) l.length l.length], .int .i64 0]) (by simp [results, Try.results24, go_sem, r0, r1]; try rfl) rfl ?_
      have hA := HA.out.kp (HB.out.end_ (.slice A s.length cc) (.slice (some ⟨w.heap.size + 1, 0, none⟩) l.length l.length))
      exact RetT.on HF.out rfl hz.symm hA ((HW.out.put_ (p := ⟨w.heap.size, 0, none⟩) (Nat.lt_succ_self _) _).put_ (p := ⟨w.heap.size, 1, none⟩) (Nat.lt_succ_self _) _).sl.rd (HB.out.end_ _ _)
end Go.Proofs.Ytofolfnnjdccgaa
