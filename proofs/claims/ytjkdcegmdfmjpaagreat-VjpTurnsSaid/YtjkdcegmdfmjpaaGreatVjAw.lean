import Derived.Test.YtjkdcegmdfmjpaaGreatTk
import Derived.Test.YtjkdcegmdfmjpaaGreatVjC
set_option maxHeartbeats 16000000
set_option maxRecDepth 100000
set_option linter.unusedVariables false
set_option linter.unusedSimpArgs false
namespace Go.Proofs.YtjkdcegmdfmjpaaGreat
open Go.RowKit Go.Proofs.ShM Go.Proofs.GrM Go.Proofs.InM Go.Proofs.ImM Go.Proofs.EvM
def A14 : T := ([2], [5, -5])
def G14 : T := ([2], [7, 7])
def O14 : T := ([], [1])
theorem rdt_one {w : World} {P Q : Option Addr} {t : T} {a b : Nat} (h : TRc w P a Q b t) (ty : TypeId) :
  RdT (w.alloc (.cells #[.slice P t.1.length a, .slice Q t.2.length b] ty)) (some ⟨w.heap.size, 0, none⟩) [t] :=
 RdX.one (X := fun _ => True) h.r (fun _ _ _ => trivial) (fun _ _ _ => trivial) h.c1 h.c2 ty
theorem vjawake_any (C : VjC) (w : World) : Calls Tryz.prog 6 #[] w fun e w' => e = .returned (.bool true) ∧ Kp w w' := by
 have HC := lH C
 have n0 : ∀ op : Int, -9223372036854775808 ≤ op ∧ op ≤ 9223372036854775807 → Nd64 (op, [], []) := by
  intro op h
  refine ⟨?_, (fun _ h => by cases h), fun _ h => by cases h⟩
  intro x hx
  have e : x = op := by simpa using hx
  rw [e]
  exact h
 have sa : SmT A14 := ⟨by decide, by decide, (fun x hx => by simp [A14] at hx; omega), fun x hx => by simp [A14] at hx; omega⟩
 have sg : SmT G14 := ⟨by decide, by decide, (fun x hx => by simp [G14] at hx; omega), fun x hx => by simp [G14] at hx; omega⟩
 have so : SmT O14 := ⟨by decide, by decide, (fun _ h => by cases h), fun x hx => by simp [O14] at hx; omega⟩
 have se : SmT eT := ⟨by decide, by decide, (fun _ h => by cases h), fun _ h => by cases h⟩
 have s1 : SmTs [A14] := ⟨by decide, fun t ht => by rw [List.mem_singleton.1 ht]; exact sa⟩
 have s2 : SmTs [A14, O14] := ⟨by decide, fun t ht => by simp at ht; rcases ht with rfl | rfl; exact sa; exact so⟩
 have HS := lH (And.intro sa (And.intro sg (And.intro so (And.intro se (And.intro s1 s2)))))
 have v1 : backV 21 [] [A14] A14 G14 = ([([2], [7, 0])], 0) := by decide +kernel
 have v2 : backV 11 [] [A14, O14] A14 G14 = ([([2], [7, 7]), ([], [-14])], 0) := by decide +kernel
 have v3 : backV 20 [] [A14] A14 O14 = ([], 20) := by decide +kernel
 have v4 : backV 20 [] [A14] A14 eT = ([], 30) := by decide +kernel
 have HV := lH (And.intro v1 (And.intro v2 (And.intro v3 v4)))
 have HN := lH n0
 obtain ⟨N, hN⟩ : ∃ N, w.heap.size = N := ⟨_, rfl⟩
 obtain ⟨W3, hW3⟩ := eX (((w.alloc (.cells #[.int .i64 2] 3)).alloc (.cells #[.int .i64 5, .int .i64 (-5)] 3)).alloc (.cells #[.slice (some ⟨N, 0, none⟩) 1 1, .slice (some ⟨N + 1, 0, none⟩) 2 2] 27))
 have HW3 := lH hW3
 have hK3 : Kp w W3 := by rw [hW3]; exact gal (gal (Kp.alloc_ _ _) _) _
 have r1 : Rd (w.alloc (.cells #[.int .i64 2] 3)) (some ⟨N, 0, none⟩) [2] := by
  have h := Rd.one w 2 3
  rwa [hN] at h
 have r2 : Rd ((w.alloc (.cells #[.int .i64 2] 3)).alloc (.cells #[.int .i64 5, .int .i64 (-5)] 3)) (some ⟨N + 1, 0, none⟩) [5, -5] := by
  have h := Rd.two (w.alloc (.cells #[.int .i64 2] 3)) 5 (-5) 3
  rwa [World.size_alloc, hN] at h
 have R3 : TRc W3 (some ⟨N, 0, none⟩) 1 (some ⟨N + 1, 0, none⟩) 2 A14 := by
  rw [hW3]
  exact ⟨⟨(r1.alloc_ _).alloc_ _, r2.alloc_ _⟩, ⟨by decide, by decide⟩, ⟨by decide, by decide⟩⟩
 have F3 : Bk W3 (N + 1 + 1) (some ⟨N, 0, none⟩) 1 1 (some ⟨N + 1, 0, none⟩) 2 2 := by rw [hW3]; exact Bk.new (by simp [hN])
 obtain ⟨B, hB⟩ := eX (W3.heap.size)
 have hB3 : N + 1 + 1 + 1 = B := by rw [hB, hW3]; simp [hN]
 obtain ⟨W6, hW6⟩ := eX (((W3.alloc (.cells #[.int .i64 2] 3)).alloc (.cells #[.int .i64 7, .int .i64 7] 3)).alloc (.cells #[.slice (some ⟨B, 0, none⟩) 1 1, .slice (some ⟨B + 1, 0, none⟩) 2 2] 27))
 have HW6 := lH hW6
 have hK36 : Kp W3 W6 := by rw [hW6]; exact gal (gal (Kp.alloc_ _ _) _) _
 have r4 : Rd (W3.alloc (.cells #[.int .i64 2] 3)) (some ⟨B, 0, none⟩) [2] := by
  have h := Rd.one W3 2 3
  rwa [← hB] at h
 have r5 : Rd ((W3.alloc (.cells #[.int .i64 2] 3)).alloc (.cells #[.int .i64 7, .int .i64 7] 3)) (some ⟨B + 1, 0, none⟩) [7, 7] := by
  have h := Rd.two (W3.alloc (.cells #[.int .i64 2] 3)) 7 7 3
  rwa [World.size_alloc, ← hB] at h
 have RG : Hid (TRc W6 (some ⟨B, 0, none⟩) 1 (some ⟨B + 1, 0, none⟩) 2 G14) := by
  show TRc _ _ _ _ _ _
  rw [hW6]
  exact ⟨⟨(r4.alloc_ _).alloc_ _, r5.alloc_ _⟩, ⟨by decide, by decide⟩, ⟨by decide, by decide⟩⟩
 have FG : Hid (Bk W6 (B + 1 + 1) (some ⟨B, 0, none⟩) 1 1 (some ⟨B + 1, 0, none⟩) 2 2) := by show Bk _ _ _ _ _ _ _ _; rw [hW6]; exact Bk.new (by simp [hB])
 have RA : Hid (TRc W6 (some ⟨N, 0, none⟩) 1 (some ⟨N + 1, 0, none⟩) 2 A14) := R3.kp hK36
 have FA : Hid (Bk W6 (N + 1 + 1) (some ⟨N, 0, none⟩) 1 1 (some ⟨N + 1, 0, none⟩) 2 2) := F3.kp hK36
 have K6 : Hid (Kp w W6) := hK3.tr hK36
 have hsz6 : W6.heap.size = B + 1 + 1 + 1 := by rw [hW6, hB]; simp
 have D1 : Hid (RdT (W6.alloc (.cells #[.slice (some ⟨N, 0, none⟩) 1 1, .slice (some ⟨N + 1, 0, none⟩) 2 2] 27)) (some ⟨B + 1 + 1 + 1, 0, none⟩) [A14]) := by
  have h := rdt_one RA.out 27
  rw [hsz6] at h
  exact h
 have q0 := FA.out.c0
 have q1 := FA.out.c1
 have q2 := FG.out.c0
 have q3 := FG.out.c1
 have u2 := (FG.out.alloc_ (.cells #[.slice (some ⟨N, 0, none⟩) 1 1, .slice (some ⟨N + 1, 0, none⟩) 2 2] 27)).c0
 have u3 := (FG.out.alloc_ (.cells #[.slice (some ⟨N, 0, none⟩) 1 1, .slice (some ⟨N + 1, 0, none⟩) 2 2] 27)).c1
 have u0 := (FA.out.alloc_ (.cells #[.slice (some ⟨N, 0, none⟩) 1 1, .slice (some ⟨N + 1, 0, none⟩) 2 2] 27)).c0
 have u1 := (FA.out.alloc_ (.cells #[.slice (some ⟨N, 0, none⟩) 1 1, .slice (some ⟨N + 1, 0, none⟩) 2 2] 27)).c1
 clear C n0 sa sg so se s1 s2 v1 v2 v3 v4 hK3 r1 r2 R3 F3 hB hW3 hW6 hK36 r4 r5
 go_enter Tryz.func6, Tryz.ntmps6
 go_upto_region 3 with fail
 rw [← HW3.out, ← HW6.out]
 go_wp2_with fail
 refine (HC.out.back none none (some ⟨N, 0, none⟩) (some ⟨N + 1, 0, none⟩) (some ⟨B, 0, none⟩) (some ⟨B + 1, 0, none⟩) _ 0 0 0 0 1 2 1 2 1 2 1 2 1 1 (21, [], []) A14 G14 [A14] [([2], [7, 0])] 0 1 _ (Rd.nil _ _) (Rd.nil _ _) rfl rfl (by decide) (by decide) (by decide) (by decide) (HN.out 21 (by decide)) D1.out (by decide) (by decide) HS.out.2.2.2.2.1 rfl (RA.out.kp (Kp.alloc_ _ _)) HS.out.1 rfl rfl (RG.out.kp (Kp.alloc_ _ _)) HS.out.2.1 rfl rfl HV.out.1 rfl).mono ?_; rintro e w1 ⟨A1, c1, rfl, b1, l1, k1⟩
 have KR := lH ((Kp.alloc_ W6 (.cells #[.slice (some ⟨N, 0, none⟩) 1 1, .slice (some ⟨N + 1, 0, none⟩) 2 2] 27)).tr k1)
 have K := lH (K6.out.tr KR.out)
 have RA := lH (RA.out.kp KR.out)
 have RG := lH (RG.out.kp KR.out)
 have FA := lH (FA.out.kp KR.out)
 have FG := lH (FG.out.kp KR.out)
 have r1 : TRc (w1.alloc (.cells #[.int .i64 1] 3)) none 0 (some ⟨w1.heap.size, 0, none⟩) 1 O14 := ⟨⟨Rd.nil _ _, Rd.one w1 1 _⟩, ⟨by decide, by decide⟩, ⟨by decide, by decide⟩⟩
 have KA : Hid (Kp w1 ((w1.alloc (.cells #[.int .i64 1] 3)).alloc (.cells #[.slice (some ⟨N, 0, none⟩) 1 1, .slice (some ⟨N + 1, 0, none⟩) 2 2, .slice none 0 0, .slice (some ⟨w1.heap.size, 0, none⟩) 1 1] 27))) := gal (Kp.alloc_ _ _) _
 have D2 : Hid (RdT ((w1.alloc (.cells #[.int .i64 1] 3)).alloc (.cells #[.slice (some ⟨N, 0, none⟩) 1 1, .slice (some ⟨N + 1, 0, none⟩) 2 2, .slice none 0 0, .slice (some ⟨w1.heap.size, 0, none⟩) 1 1] 27)) (some ⟨w1.heap.size + 1, 0, none⟩) [A14, O14]) := by
  have h := rdt_two (RA.out.kp (Kp.alloc_ w1 (.cells #[.int .i64 1] 3))) r1 27
  rw [World.size_alloc] at h
  exact h
 replace q0 := FA.out.c0
 replace q1 := FA.out.c1
 clear q2 q3
 replace u0 := (FA.out.kp KA.out).c0
 replace u1 := (FA.out.kp KA.out).c1
 replace u2 := (FG.out.kp KA.out).c0
 replace u3 := (FG.out.kp KA.out).c1
 clear k1 r1 D1
 go_wp2_with fail
 refine (HC.out.back none none (some ⟨N, 0, none⟩) (some ⟨N + 1, 0, none⟩) (some ⟨B, 0, none⟩) (some ⟨B + 1, 0, none⟩) _ 0 0 0 0 1 2 1 2 1 2 1 2 2 2 (11, [], []) A14 G14 [A14, O14] [([2], [7, 7]), ([], [-14])] 0 2 _ (Rd.nil _ _) (Rd.nil _ _) rfl rfl (by decide) (by decide) (by decide) (by decide) (HN.out 11 (by decide)) D2.out (by decide) (by decide) HS.out.2.2.2.2.2 rfl (RA.out.kp KA.out) HS.out.1 rfl rfl (RG.out.kp KA.out) HS.out.2.1 rfl rfl HV.out.2.1 rfl).mono ?_; rintro e w2 ⟨A2, c2, rfl, b2, l2, k2⟩
 have KR := lH (KA.out.tr k2)
 have K := lH (K.out.tr KR.out)
 have RA := lH (RA.out.kp KR.out)
 have FA := lH (FA.out.kp KR.out)
 have b1 := lH (b1.out.kp KR.out)
 have KA : Hid (Kp w2 ((w2.alloc (.cells #[.slice (some ⟨N, 0, none⟩) 1 1, .slice (some ⟨N + 1, 0, none⟩) 2 2] 27)).alloc (.cells #[.int .i64 1] 3))) := gal (Kp.alloc_ _ _) _
 have KZ : Hid (Kp w2 (w2.alloc (.cells #[.slice (some ⟨N, 0, none⟩) 1 1, .slice (some ⟨N + 1, 0, none⟩) 2 2] 27))) := Kp.alloc_ _ _
 have D3 : Hid (RdT ((w2.alloc (.cells #[.slice (some ⟨N, 0, none⟩) 1 1, .slice (some ⟨N + 1, 0, none⟩) 2 2] 27)).alloc (.cells #[.int .i64 1] 3)) (some ⟨w2.heap.size, 0, none⟩) [A14]) := (rdt_one RA.out 27).kp (Kp.alloc_ _ _)
 have r1 : Hid (TRc ((w2.alloc (.cells #[.slice (some ⟨N, 0, none⟩) 1 1, .slice (some ⟨N + 1, 0, none⟩) 2 2] 27)).alloc (.cells #[.int .i64 1] 3)) none 0 (some ⟨w2.heap.size + 1, 0, none⟩) 1 O14) := by
  have h := Rd.one (w2.alloc (.cells #[.slice (some ⟨N, 0, none⟩) 1 1, .slice (some ⟨N + 1, 0, none⟩) 2 2] 27)) 1 3
  rw [World.size_alloc] at h
  exact ⟨⟨Rd.nil _ _, h⟩, ⟨by decide, by decide⟩, ⟨by decide, by decide⟩⟩
 replace q0 := FA.out.c0
 replace q1 := FA.out.c1
 replace u0 := (FA.out.kp KZ.out).c0
 replace u1 := (FA.out.kp KZ.out).c1
 clear k2 u2 u3 D2
 go_wp2_with fail
 refine (HC.out.back none none (some ⟨N, 0, none⟩) (some ⟨N + 1, 0, none⟩) none (some ⟨w2.heap.size + 1, 0, none⟩) _ 0 0 0 0 1 2 1 2 0 1 0 1 1 1 (20, [], []) A14 O14 [A14] [] 20 0 _ (Rd.nil _ _) (Rd.nil _ _) rfl rfl (by decide) (by decide) (by decide) (by decide) (HN.out 20 (by decide)) D3.out (by decide) (by decide) HS.out.2.2.2.2.1 rfl (RA.out.kp KA.out) HS.out.1 rfl rfl r1.out HS.out.2.2.1 rfl rfl HV.out.2.2.1 rfl).mono ?_; rintro e w3 ⟨A3, c3, rfl, b3, l3, k3⟩
 have KR := lH (KA.out.tr k3)
 have K := lH (K.out.tr KR.out)
 have RA := lH (RA.out.kp KR.out)
 have FA := lH (FA.out.kp KR.out)
 have b1 := lH (b1.out.kp KR.out)
 have b2 := lH (b2.out.kp KR.out)
 have KA : Hid (Kp w3 (w3.alloc (.cells #[.slice (some ⟨N, 0, none⟩) 1 1, .slice (some ⟨N + 1, 0, none⟩) 2 2] 27))) := Kp.alloc_ _ _
 have D4 : Hid (RdT (w3.alloc (.cells #[.slice (some ⟨N, 0, none⟩) 1 1, .slice (some ⟨N + 1, 0, none⟩) 2 2] 27)) (some ⟨w3.heap.size, 0, none⟩) [A14]) := rdt_one RA.out 27
 replace q0 := FA.out.c0
 replace q1 := FA.out.c1
 replace u0 := (FA.out.kp KA.out).c0
 replace u1 := (FA.out.kp KA.out).c1
 clear k3 D3 r1 KZ
 go_wp2_with fail
 refine (HC.out.back none none (some ⟨N, 0, none⟩) (some ⟨N + 1, 0, none⟩) none none _ 0 0 0 0 1 2 1 2 0 0 0 0 1 1 (20, [], []) A14 eT [A14] [] 30 0 _ (Rd.nil _ _) (Rd.nil _ _) rfl rfl (by decide) (by decide) (by decide) (by decide) (HN.out 20 (by decide)) D4.out (by decide) (by decide) HS.out.2.2.2.2.1 rfl (RA.out.kp KA.out) HS.out.1 rfl rfl ⟨⟨Rd.nil _ _, Rd.nil _ _⟩, ⟨by decide, by decide⟩, ⟨by decide, by decide⟩⟩ HS.out.2.2.2.1 rfl rfl HV.out.2.2.2 rfl).mono ?_; rintro e w4 ⟨A4, c4, rfl, b4, l4, k4⟩
 have KR := lH (KA.out.tr k4)
 have K := lH (K.out.tr KR.out)
 have b1 := lH (b1.out.kp KR.out)
 have b2 := lH (b2.out.kp KR.out)
 obtain ⟨ad, P1, d1, Q1, e1, rfl, hlt, g1, g2, g3⟩ := rd_two_cells b1.out (k := 0) (t := ([2], [7, 0])) rfl
 have G3 := lH g3
 have ea : ad.add (0 * 2) = ad := by unfold Addr.add; simp
 rw [ea] at g1 g2
 replace g2 : w4.cell? ⟨ad.block, ad.off + 1, none⟩ = some (.slice Q1 2 e1) := g2
 have N5 := lH (Rd.two w4 7 0 3)
 have QD : Hid (Rd (w4.alloc (.cells #[.int .i64 7, .int .i64 0] 3)) Q1 [7, 0]) := G3.out.r.d.alloc_ _
 clear k4 q0 q1 u0 u1 g1 g3 ea D4
 go_wp2_with fail
 refine (same_g [7, 0] [7, 0] QD.out N5.out rfl rfl (r := true) (by decide)).mono ?_; rintro e w5 ⟨rfl, k5⟩
 have KR := lH ((Kp.alloc_ w4 (.cells #[.int .i64 7, .int .i64 0] 3)).tr k5)
 have K := lH (K.out.tr KR.out)
 have b2 := lH (b2.out.kp KR.out)
 obtain ⟨bd, P2, d2, Q2, e2, rfl, hlt2, g1, g3, g4⟩ := rd_two_cells b2.out (k := 1) (t := ([], [-14])) rfl
 have G4 := lH g4
 have ea : bd.add (1 * 2) = ⟨bd.block, bd.off + 2, none⟩ := by unfold Addr.add; simp
 rw [ea] at g1 g3
 replace g3 : w5.cell? ⟨bd.block, bd.off + 2 + 1, none⟩ = some (.slice Q2 1 e2) := g3
 have N7 := lH (Rd.one w5 (-14) 3)
 have Q7 : Hid (Rd (w5.alloc (.cells #[.int .i64 (-14)] 3)) Q2 [-14]) := G4.out.r.d.alloc_ _
 clear k5 g1 g2 g4 ea
 go_wp2_with fail
 refine (same_g [-14] [-14] Q7.out N7.out rfl rfl (r := true) (by decide)).mono ?_; rintro e w6 ⟨rfl, k6⟩
 have K := lH (K.out.tr ((Kp.alloc_ w5 (.cells #[.int .i64 (-14)] 3)).tr k6))
 clear k6 g3
 go_wp2
 go_ret
 exact ⟨rfl, K.out⟩
end Go.Proofs.YtjkdcegmdfmjpaaGreat
