/- The tensor of one number, the document's too, and whether two tensors are the same: what each answers. -/
import Derived.Test.YtdekchfapblgeaaTnD
import Derived.Test.YtdekchfapblgeaaTnRep
namespace Go.Proofs.Ytdekchfapblgeaa
open Go.RowKit Go.Proofs.ShM

namespace TnE
theorem full_no {s : List Int} (n : Int) (h : okS s = false) : fullV s n = ([], [], 20) := by unfold fullV; rw [h]; rfl
theorem full_yes {s : List Int} (n : Int) (h : okS s = true) : fullV s n = (s, List.replicate (sizeV s).toNat n, 0) := by unfold fullV; rw [if_pos h]
end TnE

/-- The answer's block. -/
structure Fs (w : World) (w' : World) : Prop where
  kp : Kp w w'
  r0 : w'.cell? ⟨w.heap.size, 0, none⟩ = some (.slice none 0 0)
  r1 : w'.cell? ⟨w.heap.size, 1, none⟩ = some (.slice none 0 0)
  f0 : w'.frozen? ⟨w.heap.size, 0, none⟩ = false
  f1 : w'.frozen? ⟨w.heap.size, 1, none⟩ = false
  sz : w.heap.size < w'.heap.size
theorem Fs.tb {w a b : World} (h : Fs w a) (k : Below (w.heap.size + 1) a b) : Fs w b where
  kp := h.kp.trans (k.mono (Nat.le_succ _))
  r0 := (k.cell (p := ⟨w.heap.size, 0, none⟩) (Nat.lt_succ_self _)).trans h.r0
  r1 := (k.cell (p := ⟨w.heap.size, 1, none⟩) (Nat.lt_succ_self _)).trans h.r1
  f0 := (k.frozen (p := ⟨w.heap.size, 0, none⟩) (Nat.lt_succ_self _)).trans h.f0
  f1 := (k.frozen (p := ⟨w.heap.size, 1, none⟩) (Nat.lt_succ_self _)).trans h.f1
  sz := Nat.lt_of_lt_of_le h.sz k.size
theorem Fs.tr {w a b : World} (h : Fs w a) (k : Kp a b) : Fs w b := h.tb (k.mono h.sz)
theorem Fs.mk_ (w : World) (t : TypeId) : Fs w (w.alloc (.cells #[.slice none 0 0, .slice none 0 0] t)) where
  kp := Kp.alloc_ _ _
  r0 := by simp
  r1 := by simp
  f0 := by simp
  f1 := by simp
  sz := by simp
theorem Fs.end_ {w a : World} (h : Fs w a) (x y : Value) : Kp w ((a.setCell ⟨w.heap.size, 0, none⟩ x).setCell ⟨w.heap.size, 1, none⟩ y) :=
  (h.kp.setCell (p := ⟨w.heap.size, 0, none⟩) (Nat.le_refl _) x).setCell (p := ⟨w.heap.size, 1, none⟩) (Nat.le_refl _) y

set_option maxHeartbeats 2000000 in
theorem full_any (A : Option Addr) (c : Nat) (s : List Int) (n : Int) (w : World) (hA : Rd w A s) :
    Calls Try.prog 11 #[.slice A s.length c, .int .i64 n] w (RetT (fullV s n) w) := by
  have hl := hA.len
  have F0 := Lib.hid (Fs.mk_ w 24)
  have HC := Lib.hid (check_any A c s _ (hA.kp F0.out.kp))
  cases ho : okS s with
  | false =>
    rw [ho] at HC
    have HF := Lib.hid (TnE.full_no n ho)
    clear ho
    go_enter Try.func11, Try.ntmps11
    go_wp2_with fail
    refine (Calls.mono (Hid.out HC)) ?_; rintro e w1 ⟨rfl, rfl⟩
    obtain ⟨_, r0, r1, f0, f1, _⟩ := F0.out
    go_wp2
    refine bodyPost_ret (by simp [results, Try.results11, go_sem, r0, r1]; try rfl) rfl ?_
    exact RetT.err HF.out F0.out.kp
  | true =>
    rw [ho] at HC
    have hp := ok_prod ho
    have hz := size_ok ho
    have hs3 : s.length ≤ 1000000 := by have := (ok_iff.1 ho).1; omega
    obtain ⟨k, hk⟩ : ∃ k : Nat, sizeV s = k := ⟨(sizeV s).toNat, by omega⟩
    have HF := Lib.hid (TnE.full_yes n ho)
    rw [hk, Int.toNat_natCast] at HF
    have HS : Hid (∀ W, Kp w W → Calls Try.prog 29 #[.slice A s.length c] W fun e w' => e = .returned (.int .i64 (k : Int)) ∧ W = w') := fun W kk => by
      have hh := size_any A c s W (hA.kp kk)
      rw [hk] at hh
      exact hh
    have k1 : 0 < k := by omega
    have k2 : k ≤ 64 := by omega
    have HL : Hid (∀ W, Kp w W → Calls Try.prog 30 #[.slice A s.length c] W (RetO s W)) := fun W kk => clone_any A c s W (hA.kp kk) hs3
    have G0 := Lib.hid (F0.out.kp.tr (Kp.alloc_ _ (.cells #[.int .i64 n] 3)))
    clear ho hp hz hs3 hk
    go_enter Try.func11, Try.ntmps11
    go_wp2_with fail
    refine (Calls.mono (Hid.out HC)) ?_; rintro e w1 ⟨rfl, rfl⟩
    go_wp2_with fail
    refine (Calls.mono (HS.out _ G0.out)) ?_; rintro e w1 ⟨rfl, rfl⟩
    go_wp2_with fail
    refine (repeat_any n k _ _ k1 k2 (by simp) (by simp)).mono ?_; rintro e w1 ⟨A1, c1, rfl, o1, kk1⟩
    rw [List.length_replicate] at o1 ⊢
    have F1 := Lib.hid ((F0.out.tr (Kp.alloc_ _ _)).tr kk1)
    have O1 := Lib.hid o1
    clear o1 kk1
    go_wp2_with fail
    refine (Calls.mono (HL.out _ F1.out.kp)) ?_; rintro e w2 ⟨A2, c2, rfl, o2, kk2⟩
    have F2 := Lib.hid (F1.out.tr kk2)
    have O2 := Lib.hid (And.intro o2 (And.intro (O1.out.kp kk2) F1.out.sz))
    clear o2 kk2
    obtain ⟨_, r0, r1, f0, f1, _⟩ := F2.out
    go_wp2
    refine bodyPost_ret (by simp [results, Try.results11, go_sem, r0, r1]; try rfl) rfl ?_
    exact RetT.on HF.out rfl (List.length_replicate ..).symm ((O2.out.1.put_ (p := ⟨w.heap.size, 0, none⟩) O2.out.2.2 _).put_ (p := ⟨w.heap.size, 1, none⟩) O2.out.2.2 _).sl.rd
      ((O2.out.2.1.put_ (p := ⟨w.heap.size, 0, none⟩) (by simp; omega) _).put_ (p := ⟨w.heap.size, 1, none⟩) (by simp; omega) _).sl.rd (F2.out.end_ _ _)

namespace TnE
def Fl (n : Int) (k : Nat) (j : Nat) (zs : List Int) : Prop := j ≤ k ∧ zs = List.replicate j n
theorem fl_step {n : Int} {k j : Nat} {zs ys : List Int} (h : Fl n k j zs) (hj : j < k) (hy : ys = zs ++ [n]) : Fl n k (j + 1) ys := by
  obtain ⟨_, rfl⟩ := h
  exact ⟨hj, by rw [hy, List.replicate_succ']⟩
theorem fl_len {n : Int} {k j : Nat} {zs : List Int} (h : Fl n k j zs) : zs.length = j := by rw [h.2]; simp
theorem fl_end {n : Int} {k j : Nat} {zs : List Int} (h : Fl n k j zs) (hj : ¬ j < k) : List.replicate k n = zs := by
  obtain ⟨h1, rfl⟩ := h
  rw [show k = j by omega]
end TnE

set_option maxHeartbeats 2000000 in
theorem rfull_any (A : Option Addr) (c : Nat) (s : List Int) (n : Int) (w : World) (hA : Rd w A s) :
    Calls Try.prog 12 #[.slice A s.length c, .int .i64 n] w (RetT (fullV s n) w) := by
  have hl := hA.len
  have F0 := Lib.hid (Fs.mk_ w 24)
  have HC := Lib.hid (rcheck_any A c s _ (hA.kp F0.out.kp))
  cases ho : okS s with
  | false =>
    rw [ho] at HC
    have HF := Lib.hid (TnE.full_no n ho)
    clear ho
    go_enter Try.func12, Try.ntmps12
    go_wp2_with fail
    refine (Calls.mono (Hid.out HC)) ?_; rintro e w1 ⟨rfl, rfl⟩
    obtain ⟨_, r0, r1, f0, f1, _⟩ := F0.out
    go_wp2
    refine bodyPost_ret (by simp [results, Try.results12, go_sem, r0, r1]; try rfl) rfl ?_
    exact RetT.err HF.out F0.out.kp
  | true =>
    rw [ho] at HC
    have hp := ok_prod ho
    have hz := size_ok ho
    obtain ⟨k, hk⟩ : ∃ k : Nat, sizeV s = k := ⟨(sizeV s).toNat, by omega⟩
    have HF := Lib.hid (TnE.full_yes n ho)
    rw [hk, Int.toNat_natCast] at HF
    have HS : Hid (∀ W, Kp w W → Calls Try.prog 32 #[.slice A s.length c] W fun e w' => e = .returned (.int .i64 (k : Int)) ∧ W = w') := fun W kk => by
      have hh := rsize_any A c s W (hA.kp kk)
      rw [hk] at hh
      exact hh
    have k2 : k ≤ 64 := by omega
    clear ho hp hz hk
    go_enter Try.func12, Try.ntmps12
    go_wp2_with fail
    refine (Calls.mono (Hid.out HC)) ?_; rintro e w1 ⟨rfl, rfl⟩
    go_wp2
    go_loopw [7, 8] (fun v i wr => ∃ (j : Nat) (zs : List Int) (Az : Option Addr) (cz : Nat), i = .int .i64 j ∧ v = .slice Az zs.length cz ∧ Hid (TnE.Fl n k j zs) ∧ Hid (Own (w.heap.size + 1) wr (.slice Az zs.length cz) zs) ∧ Hid (Fs w wr)) (fun _ i _ => k - (intOf i).toNat)
    case atStart => exact ⟨0, [], none, 0, rfl, rfl, ⟨Nat.zero_le _, rfl⟩, Own.nil_ _ _, F0.out⟩
    case round =>
      obtain ⟨j, zs, Az, cz, rfl, rfl, hr, hown, hfs⟩ := hrel
      have HZL := Lib.hid (TnE.fl_len hr.out)
      have hj := hr.out.1
      go_wp2_with fail
      refine (Calls.mono (HS.out _ hfs.out.kp)) ?_; rintro e w1 ⟨rfl, rfl⟩
      by_cases hlt : j < k
      · have hBs := Lib.hid (show w.heap.size + 1 ≤ wr.heap.size from hfs.out.sz)
        go_wp2_with (at_builtin; refine wpList_app rfl (.tmp 20) (.tmp 22) rfl _ zs rfl (hown.out.kp (Kp.alloc_ _ _)) (some ⟨wr.heap.size, 0, none⟩) 1 [n] _ rfl rfl (Rd.one_ rfl) (by have := HZL.out; simp; omega) (by have := hBs.out; simp; omega) ?_; intro ys A2 c2 w2 HZ o2 b2; have HO := Lib.hid o2; have HB := Lib.hid b2; clear o2 b2)
        go_roundw
        case rel => exact ⟨j + 1, ys, A2, c2, by go_num, rfl, TnE.fl_step hr.out hlt HZ.out, HO.out, (hfs.out.tr (Kp.alloc_ _ _)).tb HB.out⟩
        case measure => simp [intOf]; omega
      · have HE := Lib.hid (TnE.fl_end hr.out hlt)
        obtain ⟨_, r0, r1, f0, f1, _⟩ := hfs.out
        go_wp2
        refine bodyPost_ret (by simp [results, Try.results12, go_sem, r0, r1]; try rfl) rfl ?_
        exact RetT.on HF.out rfl (by rw [HE.out]) (hA.kp (hfs.out.end_ _ _)) (by rw [HE.out]; exact ((hown.out.put_ (p := ⟨w.heap.size, 0, none⟩) (Nat.lt_succ_self _) _).put_ (p := ⟨w.heap.size, 1, none⟩) (Nat.lt_succ_self _) _).sl.rd) (hfs.out.end_ _ _)
end Go.Proofs.Ytdekchfapblgeaa
