/- Layer 17: the law's first calls. -/
import Derived.Test.YtdcpekkkenckeaaChC
namespace Go.Proofs.Ytdcpekkkenckeaa
open Go.RowKit Go.Proofs.ShM Go.Proofs.GrM Go.Proofs.ImM Go.Proofs.ChM
set_option linter.unusedVariables false
set_option maxRecDepth 100000

def L1c : List Nd := [(1, [], [5])]
def L2c : List Nd := [(1, [], [5]), (3, [], [6])]
theorem same_c {A B : Option Addr} {c d n m : Nat} (a b : List Int) {w : World} (h : Rd w A a) (g : Rd w B b) (hn : n = a.length) (hm : m = b.length) {r : Bool} (hr : (a == b) = r) :
    Calls Try.prog 23 #[.slice A n c, .slice B m d] w fun e w' => e = .returned (.bool r) ∧ Kp w w' :=
  (same_n a b h g hn hm hr).mono fun _ _ ⟨h1, k, h2⟩ => ⟨h1, by rw [h2]; exact Kp.drewN_ _ _⟩
set_option maxHeartbeats 8000000 in
theorem chawake_any (C : ChC) (w : World) : Calls Try.prog 8 #[] w fun e w' => e = .returned (.bool true) ∧ Kp w w' := by
  have HC := Lib.hid C
  have i64 : ∀ n : Int, 0 ≤ n → n ≤ 10 → In64 n := fun n h1 h2 => ⟨by omega, by omega⟩
  have n64 : ∀ n : Int, 0 ≤ n → n ≤ 10 → N64 [n] := fun n h1 h2 x hx => by
    have : x = n := by simpa using hx
    rw [this]; exact ⟨by omega, by omega⟩
  have n0 : N64 [] := fun _ h => by cases h
  have HI := Lib.hid i64
  have s5 : SmVt ([], [5]) := ⟨by decide, by decide, n0, n64 5 (by decide) (by decide)⟩
  have s6 : SmVt ([], [6]) := ⟨by decide, by decide, n0, n64 6 (by decide) (by decide)⟩
  have s1 : SmVt ([1], [1]) := ⟨by decide, by decide, n64 1 (by decide) (by decide), n64 1 (by decide) (by decide)⟩
  have sL1 : SmV L1c := sm_snoc (l := []) (s := 1) sm_nil (by decide) (i64 1 (by decide) (by decide)) s5
  have sL2 : SmV L2c := sm_snoc (l := L1c) (s := 3) sL1 (by decide) (i64 3 (by decide) (by decide)) s6
  have HSM := Lib.hid (And.intro s5 (And.intro s6 (And.intro s1 (And.intro sL1 sL2))))
  have v1 : putC [] 1 ([], [5]) = (L1c, 0) := by decide +kernel
  have v2 : putC L1c 3 ([], [6]) = (L2c, 0) := by decide +kernel
  have v3 : putC L2c 3 ([], [6]) = (L2c, 170) := by decide +kernel
  have v4 : putC L2c 4 ([1], [1]) = (L2c, 20) := by decide +kernel
  have v5 : readC L2c 2 = (([], [5]), true) := by decide +kernel
  have v6 : readC L2c 0 = (([], []), false) := by decide +kernel
  have v7 : newerC L2c 2 = true := by decide +kernel
  have v8 : newerC L2c 3 = false := by decide +kernel
  have v9 : trimC L2c 3 = [(3, [], [6])] := by decide +kernel
  have v10 : chkV L2c = true := by decide +kernel
  have HV := Lib.hid (And.intro v1 (And.intro v2 (And.intro v3 (And.intro v4 (And.intro v5 (And.intro v6 (And.intro v7 (And.intro v8 (And.intro v9 v10)))))))))
  clear C i64 n64 n0 s5 s6 s1 sL1 sL2 v1 v2 v3 v4 v5 v6 v7 v8 v9 v10
  obtain ⟨W4, hW4⟩ : ∃ W4, W4 = (((w.alloc (.cells #[.int .i64 5] 3)).alloc (.cells #[.slice none 0 0, .slice (some ⟨w.heap.size, 0, none⟩) 1 1] 25)).alloc (.cells #[.int .i64 6] 3)).alloc (.cells #[.slice none 0 0, .slice (some ⟨w.heap.size + 1 + 1, 0, none⟩) 1 1] 25) := ⟨_, rfl⟩
  have HW4 := Lib.hid hW4
  have K4 : Hid (Kp w W4) := by show Kp _ _; rw [hW4]; exact (((Kp.alloc_ _ _).tr (Kp.alloc_ _ _)).tr (Kp.alloc_ _ _)).tr (Kp.alloc_ _ _)
  have B1 : Hid (Bk W4 (w.heap.size + 1) none 0 0 (some ⟨w.heap.size, 0, none⟩) 1 1) := by
    show Bk _ _ _ _ _ _ _ _; rw [hW4]; exact ((Bk.new (by rw [World.size_alloc])).alloc_ _).alloc_ _
  have B2 : Hid (Bk W4 (w.heap.size + 1 + 1 + 1) none 0 0 (some ⟨w.heap.size + 1 + 1, 0, none⟩) 1 1) := by
    show Bk _ _ _ _ _ _ _ _; rw [hW4]; exact Bk.new (by rw [World.size_alloc, World.size_alloc, World.size_alloc])
  have R5 : Hid (TRm W4 none 0 (some ⟨w.heap.size, 0, none⟩) 1 ([], [5])) := by
    show TRm _ _ _ _ _ _; rw [hW4]
    exact ⟨⟨Rd.nil _ _, (((Rd.one w 5 3).alloc_ _).alloc_ _).alloc_ _⟩, by decide, by decide⟩
  have R6 : Hid (TRm W4 none 0 (some ⟨w.heap.size + 1 + 1, 0, none⟩) 1 ([], [6])) := by
    show TRm _ _ _ _ _ _; rw [hW4]
    have h := (Rd.one ((w.alloc (.cells #[.int .i64 5] 3)).alloc (.cells #[.slice none 0 0, .slice (some ⟨w.heap.size, 0, none⟩) 1 1] 25)) 6 3)
    rw [World.size_alloc, World.size_alloc] at h
    exact ⟨⟨Rd.nil _ _, h.alloc_ _⟩, by decide, by decide⟩
  clear hW4
  go_enter Try.func8, Try.ntmps8
  go_wp2_with fail
  rw [← HW4.out]
  refine (HC.out.put none none (some ⟨w.heap.size, 0, none⟩) 0 0 0 0 1 1 [] L1c 1 0 ([], [5]) 1 _ (RdN.nil_ _ _ _) (by decide) sm_nil rfl (HI.out 1 (by decide) (by decide)) R5.out HSM.out.1 rfl rfl HV.out.1 rfl).mono ?_; rintro e w1 ⟨A1, c1, rfl, r1, l1, k1⟩
  have K5 := Lib.hid (K4.out.tr k1)
  have B3 := Lib.hid (B2.out.kp k1)
  have B4 := Lib.hid (B1.out.kp k1)
  have R7 := Lib.hid (R6.out.kp k1)
  clear k1
  have p0 := B3.out.c0
  have p1 := B3.out.c1
  go_wp2_with fail
  refine (HC.out.put A1 none (some ⟨w.heap.size + 1 + 1, 0, none⟩) c1 1 0 0 1 1 L1c L2c 3 0 ([], [6]) 2 _ r1.out l1.out HSM.out.2.2.2.1 rfl (HI.out 3 (by decide) (by decide)) R7.out HSM.out.2.1 rfl rfl HV.out.2.1 rfl).mono ?_; rintro e w2 ⟨A2, c2, rfl, r2, l2, k2⟩
  have K6 := Lib.hid (K5.out.tr k2)
  have B5 := Lib.hid (B3.out.kp k2)
  have R8 := Lib.hid (R7.out.kp k2)
  clear k2 p0 p1 r1 l1
  have p0 := B5.out.c0
  have p1 := B5.out.c1
  go_wp2_with fail
  refine (HC.out.put A2 none (some ⟨w.heap.size + 1 + 1, 0, none⟩) c2 2 0 0 1 1 L2c L2c 3 170 ([], [6]) 2 _ r2.out l2.out HSM.out.2.2.2.2 rfl (HI.out 3 (by decide) (by decide)) R8.out HSM.out.2.1 rfl rfl HV.out.2.2.1 rfl).mono ?_; rintro e w3 ⟨A3, c3, rfl, _, _, k3⟩
  have K7 := Lib.hid (K6.out.tr k3)
  have r3 := Lib.hid (r2.out.kp k3)
  clear k3 p0 p1
  obtain ⟨X1, hX1⟩ : ∃ X1, X1 = (w3.alloc (.cells #[.int .i64 1] 3)).alloc (.cells #[.int .i64 1] 3) := ⟨_, rfl⟩
  have HX1 := Lib.hid hX1
  have R9 : Hid (TRm X1 (some ⟨w3.heap.size, 0, none⟩) 1 (some ⟨w3.heap.size + 1, 0, none⟩) 1 ([1], [1])) := by
    show TRm _ _ _ _ _ _; rw [hX1]
    have h := Rd.one (w3.alloc (.cells #[.int .i64 1] 3)) 1 3
    rw [World.size_alloc] at h
    exact ⟨⟨(Rd.one w3 1 3).alloc_ _, h⟩, by decide, by decide⟩
  have j1 : Kp w3 X1 := by rw [hX1]; exact (Kp.alloc_ _ _).tr (Kp.alloc_ _ _)
  have K8 := Lib.hid (K7.out.tr j1)
  have r4 := Lib.hid (r3.out.kp j1)
  clear j1 hX1
  go_wp2_with fail
  rw [← HX1.out]
  refine (HC.out.put A2 (some ⟨w3.heap.size, 0, none⟩) (some ⟨w3.heap.size + 1, 0, none⟩) c2 2 1 1 1 1 L2c L2c 4 20 ([1], [1]) 2 _ r4.out l2.out HSM.out.2.2.2.2 rfl (HI.out 4 (by decide) (by decide)) R9.out HSM.out.2.2.1 rfl rfl HV.out.2.2.2.1 rfl).mono ?_; rintro e w4 ⟨A4, c4, rfl, _, _, k4⟩
  have K9 := Lib.hid (K8.out.tr k4)
  have r5 := Lib.hid (r4.out.kp k4)
  clear k4
  go_wp2_with fail
  refine (HC.out.read A2 c2 2 L2c 2 ([], [5]) true 0 1 _ r5.out l2.out HSM.out.2.2.2.2 rfl (HI.out 2 (by decide) (by decide)) HV.out.2.2.2.2.1 rfl rfl).mono ?_; rintro e w5 ⟨P, a5, Q, b5, rfl, T5, k5⟩
  have K10 := Lib.hid (K9.out.tr k5)
  have r6 := Lib.hid (r5.out.kp k5)
  clear k5
  obtain ⟨X2, hX2⟩ : ∃ X2, X2 = w5.alloc (.cells #[.slice P 0 a5, .slice Q 1 b5] 25) := ⟨_, rfl⟩
  have HX2 := Lib.hid hX2
  have j2 : Kp w5 X2 := by rw [hX2]; exact Kp.alloc_ _ _
  have B6 : Hid (Bk X2 w5.heap.size P 0 a5 Q 1 b5) := by show Bk _ _ _ _ _ _ _ _; rw [hX2]; exact Bk.new rfl
  have K11 := Lib.hid (K10.out.tr j2)
  have r7 := Lib.hid (r6.out.kp j2)
  have T6 := Lib.hid (T5.out.kp j2)
  clear j2 hX2
  go_wp2_with fail
  rw [← HX2.out]
  refine (HC.out.read A2 c2 2 L2c 0 ([], []) false 0 0 _ r7.out l2.out HSM.out.2.2.2.2 rfl (HI.out 0 (by decide) (by decide)) HV.out.2.2.2.2.2.1 rfl rfl).mono ?_; rintro e w6 ⟨P7, a7, Q7, b7, rfl, _, k6⟩
  have K12 := Lib.hid (K11.out.tr k6)
  have r8 := Lib.hid (r7.out.kp k6)
  have T7 := Lib.hid (T6.out.kp k6)
  have B7 := Lib.hid (B6.out.kp k6)
  clear k6
  obtain ⟨X3, hX3⟩ : ∃ X3, X3 = (w6.alloc (.cells #[.slice P7 0 a7, .slice Q7 0 b7] 25)).alloc (.cells #[.int .i64 5] 3) := ⟨_, rfl⟩
  have HX3 := Lib.hid hX3
  have j3 : Kp w6 X3 := by rw [hX3]; exact (Kp.alloc_ _ _).tr (Kp.alloc_ _ _)
  have K13 := Lib.hid (K12.out.tr j3)
  have r9 := Lib.hid (r8.out.kp j3)
  have T8 := Lib.hid (T7.out.kp j3)
  have q5 : Hid (Rd X3 (some ⟨w6.heap.size + 1, 0, none⟩) [5]) := by
    show Rd _ _ _; rw [hX3]
    have h := Rd.one (w6.alloc (.cells #[.slice P7 0 a7, .slice Q7 0 b7] 25)) 5 3
    rwa [World.size_alloc] at h
  have p1 := (B7.out.alloc_ (.cells #[.slice P7 0 a7, .slice Q7 0 b7] 25)).c1
  clear j3 hX3
  go_wp2_with fail
  rw [← HX3.out]
  refine (same_c (c := b5) (d := 1) [5] [5] T8.out.r.d q5.out rfl rfl (r := true) (by decide)).mono ?_; rintro e w7 ⟨rfl, k7⟩
  have K14 := Lib.hid (K13.out.tr k7)
  have r10 := Lib.hid (r9.out.kp k7)
  clear k7 p1
  go_wp2_with fail
  refine (HC.out.newer A2 c2 2 L2c 2 true _ r10.out l2.out HSM.out.2.2.2.2 rfl (HI.out 2 (by decide) (by decide)) HV.out.2.2.2.2.2.2.1).mono ?_; rintro e w8 ⟨rfl, k8⟩
  have K15 := Lib.hid (K14.out.tr k8)
  have r11 := Lib.hid (r10.out.kp k8)
  clear k8
  go_wp2_with fail
  refine (HC.out.newer A2 c2 2 L2c 3 false _ r11.out l2.out HSM.out.2.2.2.2 rfl (HI.out 3 (by decide) (by decide)) HV.out.2.2.2.2.2.2.2.1).mono ?_; rintro e w9 ⟨rfl, k9⟩
  have K16 := Lib.hid (K15.out.tr k9)
  have r12 := Lib.hid (r11.out.kp k9)
  clear k9
  go_wp2_with fail
  refine (HC.out.trim A2 c2 2 1 L2c [(3, [], [6])] 3 _ r12.out l2.out HSM.out.2.2.2.2 rfl (HI.out 3 (by decide) (by decide)) HV.out.2.2.2.2.2.2.2.2.1 rfl).mono ?_; rintro e w10 ⟨A5, c5, rfl, _, _, k10⟩
  have K17 := Lib.hid (K16.out.tr k10)
  have r13 := Lib.hid (r12.out.kp k10)
  clear k10
  go_wp2_with fail
  refine (HC.out.check A2 c2 2 L2c true _ r13.out l2.out HSM.out.2.2.2.2 rfl HV.out.2.2.2.2.2.2.2.2.2).mono ?_; rintro e w11 ⟨rfl, k11⟩
  have K18 := Lib.hid (K17.out.tr k11)
  clear k11
  go_wp2
  go_ret
  exact ⟨rfl, K18.out⟩
end Go.Proofs.Ytdcpekkkenckeaa
