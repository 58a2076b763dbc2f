/- The document's layer 11: whether a node, alone, may be. -/
import Derived.Test.YtnkkkpanlnencaaR11A
namespace Go.Proofs.Ytnkkkpanlnencaa
open Go.RowKit Go.Proofs.ShM Go.Proofs.GrM Go.Proofs.InM
set_option linter.unusedVariables false
set_option maxHeartbeats 4000000

/-- A node behind a number, with so many Args. -/
def pairN (op : Int) (n : Nat) (nums : List Int) : List Nd := [(3, [], [0]), (op, List.replicate n 0, nums)]
theorem pair_check {op : Int} {n : Nat} {nums : List Int} (hn : (n : Int) = if 0 ≤ arityV op then arityV op else 0) : checkB (pairN op n nums) = aloneB op nums := by
  rw [Bool.eq_iff_iff, alone_iff, check_iff]
  have hone : nodeB (pairN op n nums) 0 (3, [], [0]) = true := node_iff.2 ⟨by show (0 : Int) ≤ arityV 3; decide, by show (0 : Int) = arityV 3; decide, by decide, fun a ha => (by cases ha), fun m hm => by simp at hm⟩
  constructor
  · rintro ⟨_, _, h⟩
    obtain ⟨g1, _, g3, _⟩ := node_iff.1 (h 1 _ rfl)
    exact ⟨g1, g3⟩
  · rintro ⟨g1, g2⟩
    rw [if_pos g1] at hn
    refine ⟨by show 1 ≤ 2; omega, by show 2 ≤ 24; omega, fun i m hm => ?_⟩
    match i with
    | 0 =>
      have : ((3 : Int), ([] : List Int), [(0 : Int)]) = m := by simpa [pairN] using hm
      rw [← this]; exact hone
    | 1 =>
      have e : (op, List.replicate n (0 : Int), nums) = m := by simpa [pairN] using hm
      rw [← e]
      refine node_iff.2 ⟨g1, ?_, g2, fun a ha => ?_, fun u hu => ?_⟩
      · show ((List.replicate n (0 : Int)).length : Int) = arityV op
        rw [List.length_replicate]; exact hn
      · have ha' : a ∈ List.replicate n (0 : Int) := ha
        rw [(List.mem_replicate.1 ha').2]; omega
      · have hu' : u = (3, [], [0]) := by simpa [pairN] using hu
        rw [hu']
        unfold likeB
        by_cases h3 : (3 : Int) = op
        · rw [if_pos (.inr (.inl (by show (2 : Int) < 3; decide)))]
        · rw [if_pos (.inl h3)]
    | i + 2 => simp [pairN] at hm
set_option maxRecDepth 100000 in
theorem ralone11 (t : Nd) (P Q : Option Addr) (c d : Nat) (w : World) (hQ : Rd w Q t.2.2) (hd : t.2.2.length ≤ d ∧ d ≤ 9223372036854775807) :
    Calls Try.prog 22 #[ndV t P c Q d] w fun e w' => e = .returned (.bool (aloneB t.1 t.2.2)) ∧ Kp w w' := by
  obtain ⟨op, la, nums⟩ := t
  have hQ : Rd w Q nums := hQ
  have hd : nums.length ≤ d ∧ d ≤ 9223372036854775807 := hd
  show Calls Try.prog 22 #[.agg #[.int .i64 op, .slice P la.length c, .slice Q nums.length d]] w fun e w' => e = .returned (.bool (aloneB op nums)) ∧ Kp w w'
  obtain ⟨a0, ha0⟩ : ∃ a0, a0 = arityV op := ⟨_, rfl⟩
  have hle := arity_le op
  rw [← ha0] at hle
  have HAR : Hid (∀ W, Calls Try.prog 23 #[.int .i64 op] W fun e w' => e = .returned (.int .i64 a0) ∧ w' = W) := fun W => by rw [ha0]; exact rarity_any op W
  obtain ⟨N, hN⟩ : ∃ N : Nat, (N : Int) = if 0 ≤ a0 then a0 else 0 := by
    by_cases h : 0 ≤ a0
    · exact ⟨a0.toNat, by rw [if_pos h]; omega⟩
    · exact ⟨0, by rw [if_neg h]; rfl⟩
  have hN2 : N ≤ 2 := by split at hN <;> omega
  obtain ⟨r, hr⟩ : ∃ r, r = aloneB op nums := ⟨_, rfl⟩
  have HR : Hid (checkB (pairN op N nums) = r) := by show _ = _; rw [hr]; exact pair_check (by rw [← ha0]; exact hN)
  rw [← hr]
  have HNN : Hid ((N : Int) = if 0 ≤ a0 then a0 else 0) := hN
  obtain ⟨n0, hn0⟩ : ∃ n0, n0 = la.length := ⟨_, rfl⟩
  rw [← hn0]
  have HQ := Lib.hid hQ
  obtain ⟨m0, hm0⟩ : ∃ m0, m0 = nums.length := ⟨_, rfl⟩
  have HM := Lib.hid hm0
  rw [← hm0] at hd ⊢
  clear hr ha0 hN hn0 hQ hm0
  obtain ⟨w3, hw3⟩ : ∃ w3, w3 = ((w.alloc (.cells #[.int .i64 op, .slice P n0 c, .slice Q m0 d] 25)).alloc (.cells #[.int .i64 0] 3)).alloc (.cells #[.int .i64 3, .slice none 0 0, .slice (some ⟨w.heap.size + 1, 0, none⟩) 1 1] 25) := ⟨_, rfl⟩
  have hK3 : Kp w w3 := by rw [hw3]; exact gal (gal (Kp.alloc_ _ _) _) _
  have hb1 : Nb w3 w.heap.size op P n0 c Q m0 d := by rw [hw3]; exact ((Nb.new rfl).alloc_ _).alloc_ _
  have hb3 : Nb w3 (w.heap.size + 1 + 1) 3 none 0 0 (some ⟨w.heap.size + 1, 0, none⟩) 1 1 := by rw [hw3]; exact Nb.new (by simp)
  have hr2 : Rd w3 (some ⟨w.heap.size + 1, 0, none⟩) [0] := by
    have h := Rd.one (w.alloc (.cells #[.int .i64 op, .slice P n0 c, .slice Q m0 d] 25)) 0 3
    rw [World.size_alloc] at h
    rw [hw3]; exact h.alloc_ _
  have HB1 := Lib.hid hb1
  have HB3 := Lib.hid hb3
  have HR2 := Lib.hid hr2
  have K3 := Lib.hid hK3
  have HW3 := Lib.hid hw3
  clear hw3 hK3 hb1 hb3 hr2
  go_enter Try.func22, Try.ntmps22
  go_wp2
  rw [← HW3.out]
  go_loopw [4, 5] (fun v i wx => ∃ k : Nat, ∃ zs : List Int, Hid (Own w3.heap.size wx v zs) ∧ i = .int .i64 (k : Int) ∧ Hid (k ≤ N) ∧ Hid (zs = List.replicate k 0) ∧ Hid (Kp w3 wx)) (fun _ i _ => N - (intOf i).toNat)
  case atStart => exact ⟨0, [], Own.nil_ _ _, rfl, Nat.zero_le _, rfl, Kp.refl _⟩
  case round =>
    obtain ⟨k, zs, hO, rfl, hk, hZ, hK⟩ := hrel
    have q0 := (HB1.out.kp hK.out).c0
    have hOf := hO
    obtain ⟨A4, c4, rfl, _⟩ := hO.out.form
    by_cases hj : k < N
    · have hj2 : (k : Int) < a0 := by have := HNN.out; split at this <;> omega
      have hzl : Hid (zs.length = k) := by show _ = _; rw [hZ.out, List.length_replicate]
      go_wp2_with fail
      refine (HAR.out _).mono ?_; rintro e0 w5 ⟨rfl, rfl⟩
      go_wp2_with (at_builtin; refine wpList_app (B := w3.heap.size) rfl (.tmp 15) (.tmp 16) rfl _ zs rfl (hO.out.kp (Kp.alloc_ _ _)) _ _ [0] 1 rfl rfl (Rd.one _ _ _) (by have := hzl.out; simp; omega) (by have := hK.out.size; simp; omega) ?_; intro z1 A1 c1 w6 HZ1 o1 b1; have O1 := Lib.hid o1; have K6 : Hid (Kp w3 w6) := (gal hK.out _).trans b1; clear o1 b1)
      have hz2 : Hid (z1 = List.replicate (k + 1) 0) := by show _ = _; rw [HZ1.out, hZ.out, List.replicate_succ']
      go_roundw
      case rel => exact ⟨k + 1, z1, O1.out, by go_num, (by show k + 1 ≤ N; omega), hz2.out, K6.out⟩
      case measure => simp [intOf]; omega
    · have hj2 : ¬ (k : Int) < a0 := by have := HNN.out; split at this <;> omega
      have hzN : Hid (zs = List.replicate N 0) := by show _ = _; rw [hZ.out, show k = N by have := hk.out; omega]
      have hzl : Hid (zs.length = N) := by show _ = _; rw [hzN.out, List.length_replicate]
      have HB1' := Lib.hid (HB1.out.kp hK.out)
      have HB3' := Lib.hid (HB3.out.kp hK.out)
      have q2 := HB1'.out.c2
      have p0 := HB3'.out.c0
      have p1 := HB3'.out.c1
      have p2 := HB3'.out.c2
      have hRz : Hid (Rd wr A4 zs ∧ zs.length ≤ c4 ∧ c4 ≤ 9223372036854775807) := ⟨hO.out.sl.rd, hO.out.sl.le, hO.out.sl.cap⟩
      have HLN : Hid (RdG (wr.alloc (.cells #[.int .i64 3, .slice none 0 0, .slice (some ⟨w.heap.size + 1, 0, none⟩) 1 1, .int .i64 op, .slice A4 zs.length c4, .slice Q m0 d] 25)) (some ⟨wr.heap.size, 0, none⟩) (pairN op N nums)) := by
        have a2 := AllN.cons (vn_mk (op := op) hRz.out.1 ((HQ.out.kp K3.out).kp hK.out) hRz.out.2.1 hRz.out.2.2 (by rw [← HM.out]; exact hd.1) hd.2) (AllN.nil_ _ (fun _ => True))
        have a1 := AllN.cons (vn_mk (op := 3) (c := 0) (d := 1) (Rd.nil wr none) (HR2.out.kp hK.out) (by decide) (by decide) (by decide) (by decide)) a2
        have h := RdN.lit a1 (by show 2 ≤ 1000; omega) 25
        rw [← HM.out] at h
        show RdG _ _ _
        unfold pairN
        rw [← hzN.out]
        exact h
      have HCK : Hid (Calls Try.prog 29 #[.slice (some ⟨wr.heap.size, 0, none⟩) 2 2] (wr.alloc (.cells #[.int .i64 3, .slice none 0 0, .slice (some ⟨w.heap.size + 1, 0, none⟩) 1 1, .int .i64 op, .slice A4 zs.length c4, .slice Q m0 d] 25)) fun e w' => e = .returned (.bool r) ∧ Kp (wr.alloc (.cells #[.int .i64 3, .slice none 0 0, .slice (some ⟨w.heap.size + 1, 0, none⟩) 1 1, .int .i64 op, .slice A4 zs.length c4, .slice Q m0 d] 25)) w') := by
        have h := rcheck10 _ 2 _ _ HLN.out
        rw [HR.out] at h
        exact h
      go_wp2_with fail
      refine (HAR.out _).mono ?_; rintro e0 w5 ⟨rfl, rfl⟩
      go_wp2_with fail
      refine (Hid.out HCK).mono ?_; rintro e1 w6 ⟨rfl, k6⟩
      go_wp2
      go_ret
      exact ⟨rfl, (K3.out.tr hK.out).tr ((Kp.alloc_ _ _).tr k6)⟩
end Go.Proofs.Ytnkkkpanlnencaa
