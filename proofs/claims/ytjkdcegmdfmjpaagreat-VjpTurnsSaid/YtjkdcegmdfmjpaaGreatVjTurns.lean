import Derived.Test.YtjkdcegmdfmjpaaGreatTk
import Derived.Test.YtjkdcegmdfmjpaaGreatVjTuS
import Derived.Test.YtjkdcegmdfmjpaaGreatVjU
import Derived.Test.YtjkdcegmdfmjpaaGreatVjN
set_option maxHeartbeats 16000000
set_option maxRecDepth 100000
set_option linter.unusedVariables false
set_option linter.unusedSimpArgs false
namespace Go.Proofs.YtjkdcegmdfmjpaaGreat
open Go.RowKit Go.Proofs.ShM Go.Proofs.GrM Go.Proofs.InM Go.Proofs.ImM Go.Proofs.EvM
theorem n64_back {op : Int} {nums : List Int} {args : List T} {out g : T} {xs : List T} (hop : op = 40 ∨ op = 41 ∨ op = 43) (hg : N64 g.2) (hb : backV op nums args out g = (xs, 0)) : ∀ t ∈ xs, N64 t.2 := by
 have hA : N64 (vjA op nums (args.getD 0 eT) (args.getD 1 eT) out g).2.1 := by
  rcases hop with rfl | rfl | rfl
  ·exact n64_reshape hg _
  ·exact n64_turn hg
  ·exact n64_slice hg _ _ _
 obtain ⟨_, _, _, hn, _, _, hx⟩ := back_inv hb
 rcases hx with ⟨_, rfl⟩ | ⟨_, _, ⟨_, rfl⟩ | ⟨h1, _, rfl⟩⟩
 ·intro t ht; cases ht
 ·intro t ht; rw [List.mem_singleton.1 ht]; exact hA
 ·intro t ht
  rcases List.mem_cons.1 ht with ht | ht
  ·rw [ht]; exact hA
  ·rw [List.mem_singleton.1 ht]
   rcases hop with rfl | rfl | rfl
   ·exact n64_slice hg _ _ _
   ·exact n64_slice hg _ _ _
   ·exact n64_slice hg _ _ _
theorem sm_back {op : Int} {nums : List Int} {args : List T} {out g : T} {xs : List T} (hop : op = 40 ∨ op = 41 ∨ op = 43) (hg : N64 g.2) (hl : args.length ≤ 100) (h : nodeE op nums args eT [] = (out, 0)) (hb : backV op nums args out g = (xs, 0)) : SmTs xs := by
 obtain ⟨_, h2, h3⟩ := back_sh (by omega) h hb
 refine ⟨by omega, fun t ht => ?_⟩
 obtain ⟨f1, f2, f3⟩ := tok_few (List.all_eq_true.1 h3 t ht)
 exact ⟨f1, f2, f3, n64_back hop hg hb t ht⟩
theorem vturns_far (HW : ∀ w : World, Calls Tryz.prog 6 #[] w fun e w' => e = .returned (.bool true) ∧ Kp w w') (P Q P2 Q2 P3 Q3 : Option Addr) (a b e f a2 b2 e2 f2 a3 b3 e3 f3 : Nat) (x u : Int) (w : World)
  (h : Few1 P Q a b e f w false ∨ Few1 P Q a b e f w true ∧ (Few1 P2 Q2 a2 b2 e2 f2 w false ∨ Few1 P2 Q2 a2 b2 e2 f2 w true ∧ Few1 P3 Q3 a3 b3 e3 f3 w false)) :
  Calls Tryz.prog 5 #[.agg #[.slice P a e, .slice Q b f], .agg #[.slice P2 a2 e2, .slice Q2 b2 f2], .agg #[.slice P3 a3 e3, .slice Q3 b3 f3], .int .i64 x, .int .u8 u] w fun e w' => e = .returned (.bool true) ∧ Kp w w' := by
 have HAW := lH HW
 clear HW
 have F5 : Hid (Bk (((w.alloc (.cells #[.slice P a e, .slice Q b f] 27)).alloc (.cells #[.slice P2 a2 e2, .slice Q2 b2 f2] 27)).alloc (.cells #[.slice P3 a3 e3, .slice Q3 b3 f3] 27)) w.heap.size P a e Q b f) := ((Bk.new rfl).alloc_ _).alloc_ _
 have F6 : Hid (Bk (((w.alloc (.cells #[.slice P a e, .slice Q b f] 27)).alloc (.cells #[.slice P2 a2 e2, .slice Q2 b2 f2] 27)).alloc (.cells #[.slice P3 a3 e3, .slice Q3 b3 f3] 27)) (w.heap.size + 1) P2 a2 e2 Q2 b2 f2) := (Bk.new (by simp)).alloc_ _
 have F7 : Hid (Bk (((w.alloc (.cells #[.slice P a e, .slice Q b f] 27)).alloc (.cells #[.slice P2 a2 e2, .slice Q2 b2 f2] 27)).alloc (.cells #[.slice P3 a3 e3, .slice Q3 b3 f3] 27)) (w.heap.size + 1 + 1) P3 a3 e3 Q3 b3 f3) := Bk.new (by simp)
 have K0 : Hid (Kp w (((w.alloc (.cells #[.slice P a e, .slice Q b f] 27)).alloc (.cells #[.slice P2 a2 e2, .slice Q2 b2 f2] 27)).alloc (.cells #[.slice P3 a3 e3, .slice Q3 b3 f3] 27))) := gal (gal (Kp.alloc_ _ _) _) _
 rcases h with h | ⟨h, h | ⟨h2, h3⟩⟩
 ·have H1 := lH h
  clear h
  go_enter Tryz.func5, Tryz.ntmps5
  go_wp2_with fail
  refine (HAW.out _).mono ?_; rintro e0 w1 ⟨rfl, k_⟩
  have K := lH (K0.out.tr k_)
  have F5 := lH (F5.out.kp k_)
  have F6 := lH (F6.out.kp k_)
  have F7 := lH (F7.out.kp k_)
  have p0 := F5.out.c0
  have p1 := F5.out.c1
  clear k_
  go_wp2_with fail
  refine (H1.out _ K.out).mono ?_; rintro e0 w2 ⟨rfl, k_⟩
  have K := lH (K.out.tr k_)
  have F5 := lH (F5.out.kp k_)
  have F6 := lH (F6.out.kp k_)
  have F7 := lH (F7.out.kp k_)
  clear k_ p0 p1
  go_wp2
  go_ret
  exact ⟨rfl, K.out⟩
 ·have H1 := lH ‹Few1 P Q a b e f w true›
  have H2 := lH h
  clear h
  go_enter Tryz.func5, Tryz.ntmps5
  go_wp2_with fail
  refine (HAW.out _).mono ?_; rintro e0 w1 ⟨rfl, k_⟩
  have K := lH (K0.out.tr k_)
  have F5 := lH (F5.out.kp k_)
  have F6 := lH (F6.out.kp k_)
  have F7 := lH (F7.out.kp k_)
  have p0 := F5.out.c0
  have p1 := F5.out.c1
  clear k_
  go_wp2_with fail
  refine (H1.out _ K.out).mono ?_; rintro e0 w2 ⟨rfl, k_⟩
  have K := lH (K.out.tr k_)
  have F5 := lH (F5.out.kp k_)
  have F6 := lH (F6.out.kp k_)
  have F7 := lH (F7.out.kp k_)
  replace p0 := F6.out.c0
  replace p1 := F6.out.c1
  clear k_
  go_wp2_with fail
  refine (H2.out _ K.out).mono ?_; rintro e0 w2 ⟨rfl, k_⟩
  have K := lH (K.out.tr k_)
  have F5 := lH (F5.out.kp k_)
  have F6 := lH (F6.out.kp k_)
  have F7 := lH (F7.out.kp k_)
  clear k_ p0 p1
  go_wp2
  go_ret
  exact ⟨rfl, K.out⟩
 ·have H1 := lH h
  have H2 := lH h2
  have H3 := lH h3
  clear h h2 h3
  go_enter Tryz.func5, Tryz.ntmps5
  go_wp2_with fail
  refine (HAW.out _).mono ?_; rintro e0 w1 ⟨rfl, k_⟩
  have K := lH (K0.out.tr k_)
  have F5 := lH (F5.out.kp k_)
  have F6 := lH (F6.out.kp k_)
  have F7 := lH (F7.out.kp k_)
  have p0 := F5.out.c0
  have p1 := F5.out.c1
  clear k_
  go_wp2_with fail
  refine (H1.out _ K.out).mono ?_; rintro e0 w2 ⟨rfl, k_⟩
  have K := lH (K.out.tr k_)
  have F5 := lH (F5.out.kp k_)
  have F6 := lH (F6.out.kp k_)
  have F7 := lH (F7.out.kp k_)
  replace p0 := F6.out.c0
  replace p1 := F6.out.c1
  clear k_
  go_wp2_with fail
  refine (H2.out _ K.out).mono ?_; rintro e0 w2 ⟨rfl, k_⟩
  have K := lH (K.out.tr k_)
  have F5 := lH (F5.out.kp k_)
  have F6 := lH (F6.out.kp k_)
  have F7 := lH (F7.out.kp k_)
  replace p0 := F7.out.c0
  replace p1 := F7.out.c1
  clear k_
  go_wp2_with fail
  refine (H3.out _ K.out).mono ?_; rintro e0 w2 ⟨rfl, k_⟩
  have K := lH (K.out.tr k_)
  have F5 := lH (F5.out.kp k_)
  have F6 := lH (F6.out.kp k_)
  have F7 := lH (F7.out.kp k_)
  clear k_ p0 p1
  go_wp2
  go_ret
  exact ⟨rfl, K.out⟩
theorem vturns_main (C : VjC) (P Q P2 Q2 P3 Q3 : Option Addr) (e f e2 f2 e3 f3 : Nat) (ta tb tg : T) (x u : Int) (hx : -9223372036854775808 ≤ x ∧ x ≤ 9223372036854775807) (u0 : 0 ≤ u) (u1 : u ≤ 255) (w : World) (RA : TRc w P e Q f ta) (RB : TRc w P2 e2 Q2 f2 tb) (RG : TRc w P3 e3 Q3 f3 tg) (SA : SmT ta) (SB : SmT tb) (SG : SmT tg)
  (H1 : Few1 P Q ta.1.length ta.2.length e f w true) (H2 : Few1 P2 Q2 tb.1.length tb.2.length e2 f2 w true) (H3 : Few1 P3 Q3 tg.1.length tg.2.length e3 f3 w true) :
  Calls Tryz.prog 5 #[.agg #[.slice P ta.1.length e, .slice Q ta.2.length f], .agg #[.slice P2 tb.1.length e2, .slice Q2 tb.2.length f2], .agg #[.slice P3 tg.1.length e3, .slice Q3 tg.2.length f3], .int .i64 x, .int .u8 u] w fun e w' => e = .returned (.bool true) ∧ Kp w w' := by
 have HC := lH C
 have HAW := lH (vjawake_any C)
 have H1 := lH H1
 have H2 := lH H2
 have H3 := lH H3
 have RA := lH RA
 have RB := lH RB
 have RG := lH RG
 have SS := lH (And.intro SA (And.intro SB (And.intro SG hx)))
 obtain ⟨a, ha⟩ := eX (ta.1.length)
 obtain ⟨b, hb⟩ := eX (ta.2.length)
 obtain ⟨a2, ha2⟩ : ∃ a, a = tb.1.length := ⟨_, rfl⟩
 obtain ⟨b2, hb2⟩ : ∃ b, b = tb.2.length := ⟨_, rfl⟩
 obtain ⟨a3, ha3⟩ : ∃ a, a = tg.1.length := ⟨_, rfl⟩
 obtain ⟨b3, hb3⟩ : ∃ b, b = tg.2.length := ⟨_, rfl⟩
 have HL := lH (And.intro ha (And.intro hb (And.intro ha2 (And.intro hb2 (And.intro ha3 hb3)))))
 have hb100 : b ≤ 100 := by rw [hb]; exact SA.2.1
 rw [← ha, ← hb] at H1 ⊢
 rw [← ha2, ← hb2] at H2 ⊢
 rw [← ha3, ← hb3] at H3 ⊢
 have F5 : Hid (Bk (((w.alloc (.cells #[.slice P a e, .slice Q b f] 27)).alloc (.cells #[.slice P2 a2 e2, .slice Q2 b2 f2] 27)).alloc (.cells #[.slice P3 a3 e3, .slice Q3 b3 f3] 27)) w.heap.size P a e Q b f) := ((Bk.new rfl).alloc_ _).alloc_ _
 have F6 : Hid (Bk (((w.alloc (.cells #[.slice P a e, .slice Q b f] 27)).alloc (.cells #[.slice P2 a2 e2, .slice Q2 b2 f2] 27)).alloc (.cells #[.slice P3 a3 e3, .slice Q3 b3 f3] 27)) (w.heap.size + 1) P2 a2 e2 Q2 b2 f2) := (Bk.new (by simp)).alloc_ _
 have F7 : Hid (Bk (((w.alloc (.cells #[.slice P a e, .slice Q b f] 27)).alloc (.cells #[.slice P2 a2 e2, .slice Q2 b2 f2] 27)).alloc (.cells #[.slice P3 a3 e3, .slice Q3 b3 f3] 27)) (w.heap.size + 1 + 1) P3 a3 e3 Q3 b3 f3) := Bk.new (by simp)
 have K0 : Hid (Kp w (((w.alloc (.cells #[.slice P a e, .slice Q b f] 27)).alloc (.cells #[.slice P2 a2 e2, .slice Q2 b2 f2] 27)).alloc (.cells #[.slice P3 a3 e3, .slice Q3 b3 f3] 27))) := gal (gal (Kp.alloc_ _ _) _) _
 have hu : u % 3 = 0 ∨ u % 3 = 1 ∨ u % 3 = 2 := by omega
 clear C SA SB SG ha hb ha2 hb2 ha3 hb3 hx
 go_enter Tryz.func5, Tryz.ntmps5
 go_wp2_with fail
 refine (HAW.out _).mono ?_; rintro e0 w1 ⟨rfl, k_⟩
 have K := lH (K0.out.tr k_)
 have F5 := lH (F5.out.kp k_)
 have F6 := lH (F6.out.kp k_)
 have F7 := lH (F7.out.kp k_)
 have p0 := F5.out.c0
 have p1 := F5.out.c1
 clear k_
 go_wp2_with fail
 refine (H1.out _ K.out).mono ?_; rintro e0 w7 ⟨rfl, k_⟩
 have K := lH (K.out.tr k_)
 have F5 := lH (F5.out.kp k_)
 have F6 := lH (F6.out.kp k_)
 have F7 := lH (F7.out.kp k_)
 replace p0 := F6.out.c0
 replace p1 := F6.out.c1
 clear k_
 go_wp2_with fail
 refine (H2.out _ K.out).mono ?_; rintro e0 w7 ⟨rfl, k_⟩
 have K := lH (K.out.tr k_)
 have F5 := lH (F5.out.kp k_)
 have F6 := lH (F6.out.kp k_)
 have F7 := lH (F7.out.kp k_)
 replace p0 := F7.out.c0
 replace p1 := F7.out.c1
 clear k_
 go_wp2_with fail
 refine (H3.out _ K.out).mono ?_; rintro e0 w7 ⟨rfl, k_⟩
 have K := lH (K.out.tr k_)
 have F5 := lH (F5.out.kp k_)
 have F6 := lH (F6.out.kp k_)
 have F7 := lH (F7.out.kp k_)
 clear k_ p0 p1 HAW H1 H2 H3
 have q0 := (F5.out.kp (Kp.alloc_ w7 (.cells #[.int .i64 41, .slice none 0 0, .slice none 0 0] 24))).c0
 have q1 := (F5.out.kp (Kp.alloc_ w7 (.cells #[.int .i64 41, .slice none 0 0, .slice none 0 0] 24))).c1
 rcases hu with hu | hu | hu
 ·have t1 : (u % 3 == 1) = false := by rw [hu]; decide
  have t2 : (u % 3 == 2) = false := by rw [hu]; decide
  obtain ⟨W9, hW9⟩ := eX (((w7.alloc (.cells #[.int .i64 41, .slice none 0 0, .slice none 0 0] 24)).alloc (.cells #[.slice P a e, .slice Q b f] 27)))
  have HW9 := lH hW9
  have K9 : Hid (Kp w7 W9) := by show Kp _ _; rw [hW9]; exact gal (Kp.alloc_ _ _) _
  have N9 : Hid (Nb W9 w7.heap.size 41 none 0 0 none 0 0) := by show Nb _ _ _ _ _ _ _ _ _; rw [hW9]; exact (Nb.new rfl).alloc_ _
  have RN : Hid (Rd W9 none []) := by show Rd _ _ _; rw [hW9]; exact Rd.nil _ _
  have RS : Hid (RdT W9 (some ⟨w7.heap.size + 1, 0, none⟩) [ta]) := by show RdT _ _ _; rw [hW9]; exact (by have h := rdt_one (RA.out.kp (K.out.tr (Kp.alloc_ w7 (.cells #[.int .i64 41, .slice none 0 0, .slice none 0 0] 24)))) 27; rw [World.size_alloc, ← HL.out.1, ← HL.out.2.1] at h; exact h)
  have ST : Hid (SmTs [ta]) := ⟨by simp, fun t ht => by simp at ht; rw [ht]; exact SS.out.1⟩
  have N6 : Hid (N64 []) := (fun _ h => by cases h)
  have ND : Hid (Nd64 (41, [], [])) := ⟨(by intro z hz; simp at hz; omega), (fun _ h => by cases h), N6.out⟩
  obtain ⟨out, er, hnode⟩ : ∃ out er, nodeE 41 [] [ta] eT [] = (out, er) := ⟨_, _, rfl⟩
  obtain ⟨bk, fb, hback⟩ : ∃ bk fb, backV 41 [] [ta] out tg = (bk, fb) := ⟨_, _, rfl⟩
  have HN := lH hnode
  have HB := lH hback
  have SO : Hid (SmT out) := by show SmT _; exact sm_node hnode ST.out N6.out
  obtain ⟨ox, hox⟩ : ∃ k, k = out.1.length := ⟨_, rfl⟩
  obtain ⟨oy, hoy⟩ : ∃ k, k = out.2.length := ⟨_, rfl⟩
  obtain ⟨bl, hbl⟩ : ∃ k, k = bk.length := ⟨_, rfl⟩
  have HX := lH (And.intro hox (And.intro hoy hbl))
  have K := lH (K.out.tr K9.out)
  have F7 := lH (F7.out.kp K9.out)
  clear hW9 hnode hback hox hoy hbl hu
  go_upto_region 11 with fail
  rw [← HW9.out]
  have n0 := N9.out.c0
  have n1 := N9.out.c1
  have n2 := N9.out.c2
  clear q0 q1
  go_wp2_with fail
  refine (HC.out.node none (none) none none none ((some ⟨w7.heap.size + 1, 0, none⟩)) 0 0 0 0 0 0 0 0 1 1 0 0 (41, [], []) eT out [ta] [] er ox oy _ (Rd.nil _ _) RN.out rfl rfl (by decide) (by decide) (by decide) (by decide) ND.out RS.out (by simp) (by decide) ST.out rfl ⟨⟨Rd.nil _ _, Rd.nil _ _⟩, ⟨by decide, by decide⟩, ⟨by decide, by decide⟩⟩ sm_e rfl rfl (RdX.nil_ _ _ _) (by decide) (by decide) sm_none rfl HN.out HX.out.1.symm HX.out.2.1.symm).mono ?_; rintro e0 w10 ⟨P4, c4, Q4, d4, rfl, r4, k_⟩
  have KX : Hid (Kp W9 (w10.alloc (.cells #[.slice P4 ox c4, .slice Q4 oy d4] 27))) := gal k_ _
  have F14 : Hid (Bk (w10.alloc (.cells #[.slice P4 ox c4, .slice Q4 oy d4] 27)) w10.heap.size P4 ox c4 Q4 oy d4) := Bk.new rfl
  have r4 := lH (r4.out.kp (Kp.alloc_ w10 (.cells #[.slice P4 ox c4, .slice Q4 oy d4] 27)))
  have N9 := lH (N9.out.kp KX.out)
  have RN := lH (RN.out.kp KX.out)
  have RS := lH (RS.out.kp KX.out)
  have F7 := lH (F7.out.kp KX.out)
  have K := lH (K.out.tr KX.out)
  replace n0 := N9.out.c0
  replace n1 := N9.out.c1
  replace n2 := N9.out.c2
  have p0 := F14.out.c0
  have p1 := F14.out.c1
  have p2 := F7.out.c0
  have p3 := F7.out.c1
  clear k_
  go_wp2_with fail
  refine (HC.out.back none (none) P4 Q4 P3 Q3 ((some ⟨w7.heap.size + 1, 0, none⟩)) 0 0 0 0 ox oy c4 d4 a3 b3 e3 f3 1 1 (41, [], []) out tg [ta] bk fb bl _ (Rd.nil _ _) RN.out rfl rfl (by decide) (by decide) (by decide) (by decide) ND.out RS.out (by simp) (by decide) ST.out rfl r4.out SO.out HX.out.1 HX.out.2.1 (RG.out.kp K.out) SS.out.2.2.1 HL.out.2.2.2.2.1 HL.out.2.2.2.2.2 HB.out HX.out.2.2.symm).mono ?_; rintro e0 w11 ⟨A5, c5, rfl, r5, l5, k_⟩
  have N9 := lH (N9.out.kp k_)
  have RN := lH (RN.out.kp k_)
  have F7 := lH (F7.out.kp k_)
  have K := lH (K.out.tr k_)
  clear k_ n0 n1 n2 p0 p1 p2 p3
  by_cases he : er = 0
  ·subst he
   by_cases hf : fb = 0
   ·subst hf
    obtain ⟨hn2, hl2⟩ := turns_back (by decide) HN.out HB.out
    have SB2 := lH (sm_back (by decide) SS.out.2.2.1.2.2.2 (by simp) HN.out HB.out)
    have HN2 := lH hn2
    have hbl : bl = 1 := by rw [HX.out.2.2, hl2]; rfl
    subst hbl
    have HBL : Hid (1 = bk.length) := HX.out.2.2
    have n0 := N9.out.c0
    have n1 := N9.out.c1
    have n2 := N9.out.c2
    clear hn2 hl2
    go_wp2_with fail
    refine (HC.out.node none (none) none none none A5 0 0 0 0 0 0 0 0 1 c5 0 0 (41, [], []) eT tg bk [] 0 a3 b3 _ (Rd.nil _ _) RN.out rfl rfl (by decide) (by decide) (by decide) (by decide) ND.out r5.out l5.out.1 l5.out.2 SB2.out HBL.out ⟨⟨Rd.nil _ _, Rd.nil _ _⟩, ⟨by decide, by decide⟩, ⟨by decide, by decide⟩⟩ sm_e rfl rfl (RdX.nil_ _ _ _) (by decide) (by decide) sm_none rfl HN2.out HL.out.2.2.2.2.1.symm HL.out.2.2.2.2.2.symm).mono ?_; rintro e0 w12 ⟨P6, c6, Q6, d6, rfl, r6, k_⟩
    have KX : Hid (Kp w11 (w12.alloc (.cells #[.slice P6 a3 c6, .slice Q6 b3 d6] 27))) := gal k_ _
    have F18 : Hid (Bk (w12.alloc (.cells #[.slice P6 a3 c6, .slice Q6 b3 d6] 27)) w12.heap.size P6 a3 c6 Q6 b3 d6) := Bk.new rfl
    have r6 := lH (r6.out.kp (Kp.alloc_ w12 (.cells #[.slice P6 a3 c6, .slice Q6 b3 d6] 27)))
    have F7 := lH (F7.out.kp KX.out)
    have K := lH (K.out.tr KX.out)
    have p0 := F18.out.c0
    have p1 := F18.out.c1
    have p2 := F7.out.c0
    have p3 := F7.out.c1
    clear k_ n0 n1 n2
    go_wp2_with fail
    refine (tsame_u r6.out.r (RG.out.kp K.out).r HL.out.2.2.2.2.1.symm HL.out.2.2.2.2.2.symm).mono ?_; rintro e0 w13 ⟨rfl, k_⟩
    have K := lH (K.out.tr k_)
    clear k_ p0 p1 p2 p3
    go_wp2
    go_ret
    exact ⟨rfl, K.out⟩
   ·have hf2 := turns_err (by decide) HN.out HB.out
    have g1 : (fb != 0) = true := by simpa using hf
    rcases hf2 with hf2 | hf2 | hf2
    ·exact absurd hf2 hf
    ·subst hf2
     clear hf
     go_wp2
     go_ret
     exact ⟨rfl, K.out⟩
    ·subst hf2
     clear hf
     go_wp2
     go_ret
     exact ⟨rfl, K.out⟩
  ·have g1 : (er != 0) = true := by simpa using he
   clear he
   go_wp2
   go_ret
   exact ⟨rfl, K.out⟩
 ·have t1 : (u % 3 == 1) = true := by rw [hu]; decide
  have t2 : (u % 3 == 2) = false := by rw [hu]; decide
  have y1 := (F5.out.kp ((Kp.alloc_ w7 (.cells #[.int .i64 41, .slice none 0 0, .slice none 0 0] 24)).tr (Kp.alloc_ _ (.cells #[.slice P a e, .slice Q b f] 27)))).c1
  obtain ⟨W9, hW9⟩ := eX ((((w7.alloc (.cells #[.int .i64 40, .slice none 0 0, .slice (some ⟨w7.heap.size + 1 + 1, 0, none⟩) 2 2] 24)).alloc (.cells #[.slice P a e, .slice Q b f] 27)).alloc (.cells #[.int .i64 1, .int .i64 (b : Int)] 3)))
  have HW9 := lH hW9
  have K9 : Hid (Kp w7 W9) := by show Kp _ _; rw [hW9]; exact gal (gal (Kp.alloc_ _ _) _) _
  have N9 : Hid (Nb W9 w7.heap.size 40 none 0 0 (some ⟨w7.heap.size + 1 + 1, 0, none⟩) 2 2) := by show Nb _ _ _ _ _ _ _ _ _; rw [hW9]; exact ((Nb.new rfl).alloc_ _).alloc_ _
  have RN : Hid (Rd W9 (some ⟨w7.heap.size + 1 + 1, 0, none⟩) [1, (b : Int)]) := by show Rd _ _ _; rw [hW9]; exact (by have h := Rd.two ((w7.alloc (.cells #[.int .i64 40, .slice none 0 0, .slice (some ⟨w7.heap.size + 1 + 1, 0, none⟩) 2 2] 24)).alloc (.cells #[.slice P a e, .slice Q b f] 27)) 1 (b : Int) 3; rw [World.size_alloc, World.size_alloc] at h; exact h)
  have RS : Hid (RdT W9 (some ⟨w7.heap.size + 1, 0, none⟩) [ta]) := by show RdT _ _ _; rw [hW9]; exact (RdX.alloc_ (by have h := rdt_one (RA.out.kp (K.out.tr (Kp.alloc_ w7 (.cells #[.int .i64 40, .slice none 0 0, .slice (some ⟨w7.heap.size + 1 + 1, 0, none⟩) 2 2] 24)))) 27; rw [World.size_alloc, ← HL.out.1, ← HL.out.2.1] at h; exact h) _)
  have ST : Hid (SmTs [ta]) := ⟨by simp, fun t ht => by simp at ht; rw [ht]; exact SS.out.1⟩
  have N6 : Hid (N64 [1, (b : Int)]) := (by intro z hz; simp at hz; omega)
  have ND : Hid (Nd64 (40, [], [1, (b : Int)])) := ⟨(by intro z hz; simp at hz; omega), (fun _ h => by cases h), N6.out⟩
  obtain ⟨out, er, hnode⟩ : ∃ out er, nodeE 40 [1, (b : Int)] [ta] eT [] = (out, er) := ⟨_, _, rfl⟩
  obtain ⟨bk, fb, hback⟩ : ∃ bk fb, backV 40 [1, (b : Int)] [ta] out tg = (bk, fb) := ⟨_, _, rfl⟩
  have HN := lH hnode
  have HB := lH hback
  have SO : Hid (SmT out) := by show SmT _; exact sm_node hnode ST.out N6.out
  obtain ⟨ox, hox⟩ : ∃ k, k = out.1.length := ⟨_, rfl⟩
  obtain ⟨oy, hoy⟩ : ∃ k, k = out.2.length := ⟨_, rfl⟩
  obtain ⟨bl, hbl⟩ : ∃ k, k = bk.length := ⟨_, rfl⟩
  have HX := lH (And.intro hox (And.intro hoy hbl))
  have K := lH (K.out.tr K9.out)
  have F7 := lH (F7.out.kp K9.out)
  clear hW9 hnode hback hox hoy hbl hu
  go_upto_region 11 with fail
  rw [← HW9.out]
  have n0 := N9.out.c0
  have n1 := N9.out.c1
  have n2 := N9.out.c2
  clear q0 q1
  go_wp2_with fail
  refine (HC.out.node none ((some ⟨w7.heap.size + 1 + 1, 0, none⟩)) none none none ((some ⟨w7.heap.size + 1, 0, none⟩)) 0 2 0 2 0 0 0 0 1 1 0 0 (40, [], [1, (b : Int)]) eT out [ta] [] er ox oy _ (Rd.nil _ _) RN.out rfl rfl (by decide) (by decide) (by decide) (by decide) ND.out RS.out (by simp) (by decide) ST.out rfl ⟨⟨Rd.nil _ _, Rd.nil _ _⟩, ⟨by decide, by decide⟩, ⟨by decide, by decide⟩⟩ sm_e rfl rfl (RdX.nil_ _ _ _) (by decide) (by decide) sm_none rfl HN.out HX.out.1.symm HX.out.2.1.symm).mono ?_; rintro e0 w10 ⟨P4, c4, Q4, d4, rfl, r4, k_⟩
  have KX : Hid (Kp W9 (w10.alloc (.cells #[.slice P4 ox c4, .slice Q4 oy d4] 27))) := gal k_ _
  have F14 : Hid (Bk (w10.alloc (.cells #[.slice P4 ox c4, .slice Q4 oy d4] 27)) w10.heap.size P4 ox c4 Q4 oy d4) := Bk.new rfl
  have r4 := lH (r4.out.kp (Kp.alloc_ w10 (.cells #[.slice P4 ox c4, .slice Q4 oy d4] 27)))
  have N9 := lH (N9.out.kp KX.out)
  have RN := lH (RN.out.kp KX.out)
  have RS := lH (RS.out.kp KX.out)
  have F7 := lH (F7.out.kp KX.out)
  have K := lH (K.out.tr KX.out)
  replace n0 := N9.out.c0
  replace n1 := N9.out.c1
  replace n2 := N9.out.c2
  have p0 := F14.out.c0
  have p1 := F14.out.c1
  have p2 := F7.out.c0
  have p3 := F7.out.c1
  clear k_
  go_wp2_with fail
  refine (HC.out.back none ((some ⟨w7.heap.size + 1 + 1, 0, none⟩)) P4 Q4 P3 Q3 ((some ⟨w7.heap.size + 1, 0, none⟩)) 0 2 0 2 ox oy c4 d4 a3 b3 e3 f3 1 1 (40, [], [1, (b : Int)]) out tg [ta] bk fb bl _ (Rd.nil _ _) RN.out rfl rfl (by decide) (by decide) (by decide) (by decide) ND.out RS.out (by simp) (by decide) ST.out rfl r4.out SO.out HX.out.1 HX.out.2.1 (RG.out.kp K.out) SS.out.2.2.1 HL.out.2.2.2.2.1 HL.out.2.2.2.2.2 HB.out HX.out.2.2.symm).mono ?_; rintro e0 w11 ⟨A5, c5, rfl, r5, l5, k_⟩
  have N9 := lH (N9.out.kp k_)
  have RN := lH (RN.out.kp k_)
  have F7 := lH (F7.out.kp k_)
  have K := lH (K.out.tr k_)
  clear k_ n0 n1 n2 p0 p1 p2 p3
  by_cases he : er = 0
  ·subst he
   by_cases hf : fb = 0
   ·subst hf
    obtain ⟨hn2, hl2⟩ := turns_back (by decide) HN.out HB.out
    have SB2 := lH (sm_back (by decide) SS.out.2.2.1.2.2.2 (by simp) HN.out HB.out)
    have HN2 := lH hn2
    have hbl : bl = 1 := by rw [HX.out.2.2, hl2]; rfl
    subst hbl
    have HBL : Hid (1 = bk.length) := HX.out.2.2
    have n0 := N9.out.c0
    have n1 := N9.out.c1
    have n2 := N9.out.c2
    clear hn2 hl2
    go_wp2_with fail
    refine (HC.out.node none ((some ⟨w7.heap.size + 1 + 1, 0, none⟩)) none none none A5 0 2 0 2 0 0 0 0 1 c5 0 0 (40, [], [1, (b : Int)]) eT tg bk [] 0 a3 b3 _ (Rd.nil _ _) RN.out rfl rfl (by decide) (by decide) (by decide) (by decide) ND.out r5.out l5.out.1 l5.out.2 SB2.out HBL.out ⟨⟨Rd.nil _ _, Rd.nil _ _⟩, ⟨by decide, by decide⟩, ⟨by decide, by decide⟩⟩ sm_e rfl rfl (RdX.nil_ _ _ _) (by decide) (by decide) sm_none rfl HN2.out HL.out.2.2.2.2.1.symm HL.out.2.2.2.2.2.symm).mono ?_; rintro e0 w12 ⟨P6, c6, Q6, d6, rfl, r6, k_⟩
    have KX : Hid (Kp w11 (w12.alloc (.cells #[.slice P6 a3 c6, .slice Q6 b3 d6] 27))) := gal k_ _
    have F18 : Hid (Bk (w12.alloc (.cells #[.slice P6 a3 c6, .slice Q6 b3 d6] 27)) w12.heap.size P6 a3 c6 Q6 b3 d6) := Bk.new rfl
    have r6 := lH (r6.out.kp (Kp.alloc_ w12 (.cells #[.slice P6 a3 c6, .slice Q6 b3 d6] 27)))
    have F7 := lH (F7.out.kp KX.out)
    have K := lH (K.out.tr KX.out)
    have p0 := F18.out.c0
    have p1 := F18.out.c1
    have p2 := F7.out.c0
    have p3 := F7.out.c1
    clear k_ n0 n1 n2
    go_wp2_with fail
    refine (tsame_u r6.out.r (RG.out.kp K.out).r HL.out.2.2.2.2.1.symm HL.out.2.2.2.2.2.symm).mono ?_; rintro e0 w13 ⟨rfl, k_⟩
    have K := lH (K.out.tr k_)
    clear k_ p0 p1 p2 p3
    go_wp2
    go_ret
    exact ⟨rfl, K.out⟩
   ·have hf2 := turns_err (by decide) HN.out HB.out
    have g1 : (fb != 0) = true := by simpa using hf
    rcases hf2 with hf2 | hf2 | hf2
    ·exact absurd hf2 hf
    ·subst hf2
     clear hf
     go_wp2
     go_ret
     exact ⟨rfl, K.out⟩
    ·subst hf2
     clear hf
     go_wp2
     go_ret
     exact ⟨rfl, K.out⟩
  ·have g1 : (er != 0) = true := by simpa using he
   clear he
   go_wp2
   go_ret
   exact ⟨rfl, K.out⟩
 ·have t1 : (u % 3 == 1) = false := by rw [hu]; decide
  have t2 : (u % 3 == 2) = true := by rw [hu]; decide
  have y0 := (F5.out.kp (gal (gal (Kp.alloc_ w7 (.cells #[.int .i64 43, .slice none 0 0, .slice (some ⟨w7.heap.size + 1 + 1, 0, none⟩) 1 1] 24)) (.cells #[.slice P a e, .slice Q b f] 27)) (.cells #[.int .i64 x] 3))).c0
  have y1 := (F5.out.kp (gal (gal (Kp.alloc_ w7 (.cells #[.int .i64 43, .slice none 0 0, .slice (some ⟨w7.heap.size + 1 + 1, 0, none⟩) 1 1] 24)) (.cells #[.slice P a e, .slice Q b f] 27)) (.cells #[.int .i64 x] 3))).c1
  have y2 := (F6.out.kp (gal (gal (Kp.alloc_ w7 (.cells #[.int .i64 43, .slice none 0 0, .slice (some ⟨w7.heap.size + 1 + 1, 0, none⟩) 1 1] 24)) (.cells #[.slice P a e, .slice Q b f] 27)) (.cells #[.int .i64 x] 3))).c0
  have y3 := (F6.out.kp (gal (gal (Kp.alloc_ w7 (.cells #[.int .i64 43, .slice none 0 0, .slice (some ⟨w7.heap.size + 1 + 1, 0, none⟩) 1 1] 24)) (.cells #[.slice P a e, .slice Q b f] 27)) (.cells #[.int .i64 x] 3))).c1
  obtain ⟨W9, hW9⟩ := eX (((((w7.alloc (.cells #[.int .i64 43, .slice none 0 0, .slice (some ⟨w7.heap.size + 1 + 1, 0, none⟩) 1 1] 24)).alloc (.cells #[.slice P a e, .slice Q b f] 27)).alloc (.cells #[.int .i64 x] 3)).alloc (.cells #[.slice P a e, .slice Q b f, .slice P2 a2 e2, .slice Q2 b2 f2] 27)))
  have HW9 := lH hW9
  have K9 : Hid (Kp w7 W9) := by show Kp _ _; rw [hW9]; exact gal (gal (gal (Kp.alloc_ _ _) _) _) _
  have N9 : Hid (Nb W9 w7.heap.size 43 none 0 0 (some ⟨w7.heap.size + 1 + 1, 0, none⟩) 1 1) := by show Nb _ _ _ _ _ _ _ _ _; rw [hW9]; exact (((Nb.new rfl).alloc_ _).alloc_ _).alloc_ _
  have RN : Hid (Rd W9 (some ⟨w7.heap.size + 1 + 1, 0, none⟩) [x]) := by show Rd _ _ _; rw [hW9]; exact Rd.alloc_ (by have h := Rd.one ((w7.alloc (.cells #[.int .i64 43, .slice none 0 0, .slice (some ⟨w7.heap.size + 1 + 1, 0, none⟩) 1 1] 24)).alloc (.cells #[.slice P a e, .slice Q b f] 27)) x 3; rw [World.size_alloc, World.size_alloc] at h; exact h) _
  have RS : Hid (RdT W9 (some ⟨w7.heap.size + 1 + 1 + 1, 0, none⟩) [ta, tb]) := by show RdT _ _ _; rw [hW9]; exact (by have h := rdt_two (RA.out.kp (K.out.tr (gal (gal (Kp.alloc_ w7 (.cells #[.int .i64 43, .slice none 0 0, .slice (some ⟨w7.heap.size + 1 + 1, 0, none⟩) 1 1] 24)) (.cells #[.slice P a e, .slice Q b f] 27)) (.cells #[.int .i64 x] 3)))) (RB.out.kp (K.out.tr (gal (gal (Kp.alloc_ w7 (.cells #[.int .i64 43, .slice none 0 0, .slice (some ⟨w7.heap.size + 1 + 1, 0, none⟩) 1 1] 24)) (.cells #[.slice P a e, .slice Q b f] 27)) (.cells #[.int .i64 x] 3)))) 27; rw [World.size_alloc, World.size_alloc, World.size_alloc, ← HL.out.1, ← HL.out.2.1, ← HL.out.2.2.1, ← HL.out.2.2.2.1] at h; exact h)
  have ST : Hid (SmTs [ta, tb]) := ⟨by simp, fun t ht => by simp at ht; rcases ht with rfl | rfl; exact SS.out.1; exact SS.out.2.1⟩
  have N6 : Hid (N64 [x]) := (by intro z hz; rw [List.mem_singleton.1 hz]; exact SS.out.2.2.2)
  have ND : Hid (Nd64 (43, [], [x])) := ⟨(by intro z hz; simp at hz; omega), (fun _ h => by cases h), N6.out⟩
  obtain ⟨out, er, hnode⟩ : ∃ out er, nodeE 43 [x] [ta, tb] eT [] = (out, er) := ⟨_, _, rfl⟩
  obtain ⟨bk, fb, hback⟩ : ∃ bk fb, backV 43 [x] [ta, tb] out tg = (bk, fb) := ⟨_, _, rfl⟩
  have HN := lH hnode
  have HB := lH hback
  have SO : Hid (SmT out) := by show SmT _; exact sm_node hnode ST.out N6.out
  obtain ⟨ox, hox⟩ : ∃ k, k = out.1.length := ⟨_, rfl⟩
  obtain ⟨oy, hoy⟩ : ∃ k, k = out.2.length := ⟨_, rfl⟩
  obtain ⟨bl, hbl⟩ : ∃ k, k = bk.length := ⟨_, rfl⟩
  have HX := lH (And.intro hox (And.intro hoy hbl))
  have K := lH (K.out.tr K9.out)
  have F7 := lH (F7.out.kp K9.out)
  clear hW9 hnode hback hox hoy hbl hu
  go_upto_region 11 with fail
  rw [← HW9.out]
  have n0 := N9.out.c0
  have n1 := N9.out.c1
  have n2 := N9.out.c2
  clear q0 q1
  go_wp2_with fail
  refine (HC.out.node none ((some ⟨w7.heap.size + 1 + 1, 0, none⟩)) none none none ((some ⟨w7.heap.size + 1 + 1 + 1, 0, none⟩)) 0 1 0 1 0 0 0 0 2 2 0 0 (43, [], [x]) eT out [ta, tb] [] er ox oy _ (Rd.nil _ _) RN.out rfl rfl (by decide) (by decide) (by decide) (by decide) ND.out RS.out (by simp) (by decide) ST.out rfl ⟨⟨Rd.nil _ _, Rd.nil _ _⟩, ⟨by decide, by decide⟩, ⟨by decide, by decide⟩⟩ sm_e rfl rfl (RdX.nil_ _ _ _) (by decide) (by decide) sm_none rfl HN.out HX.out.1.symm HX.out.2.1.symm).mono ?_; rintro e0 w10 ⟨P4, c4, Q4, d4, rfl, r4, k_⟩
  have KX : Hid (Kp W9 (w10.alloc (.cells #[.slice P4 ox c4, .slice Q4 oy d4] 27))) := gal k_ _
  have F14 : Hid (Bk (w10.alloc (.cells #[.slice P4 ox c4, .slice Q4 oy d4] 27)) w10.heap.size P4 ox c4 Q4 oy d4) := Bk.new rfl
  have r4 := lH (r4.out.kp (Kp.alloc_ w10 (.cells #[.slice P4 ox c4, .slice Q4 oy d4] 27)))
  have N9 := lH (N9.out.kp KX.out)
  have RN := lH (RN.out.kp KX.out)
  have RS := lH (RS.out.kp KX.out)
  have F7 := lH (F7.out.kp KX.out)
  have K := lH (K.out.tr KX.out)
  replace n0 := N9.out.c0
  replace n1 := N9.out.c1
  replace n2 := N9.out.c2
  have p0 := F14.out.c0
  have p1 := F14.out.c1
  have p2 := F7.out.c0
  have p3 := F7.out.c1
  clear k_
  go_wp2_with fail
  refine (HC.out.back none ((some ⟨w7.heap.size + 1 + 1, 0, none⟩)) P4 Q4 P3 Q3 ((some ⟨w7.heap.size + 1 + 1 + 1, 0, none⟩)) 0 1 0 1 ox oy c4 d4 a3 b3 e3 f3 2 2 (43, [], [x]) out tg [ta, tb] bk fb bl _ (Rd.nil _ _) RN.out rfl rfl (by decide) (by decide) (by decide) (by decide) ND.out RS.out (by simp) (by decide) ST.out rfl r4.out SO.out HX.out.1 HX.out.2.1 (RG.out.kp K.out) SS.out.2.2.1 HL.out.2.2.2.2.1 HL.out.2.2.2.2.2 HB.out HX.out.2.2.symm).mono ?_; rintro e0 w11 ⟨A5, c5, rfl, r5, l5, k_⟩
  have N9 := lH (N9.out.kp k_)
  have RN := lH (RN.out.kp k_)
  have F7 := lH (F7.out.kp k_)
  have K := lH (K.out.tr k_)
  clear k_ n0 n1 n2 p0 p1 p2 p3
  by_cases he : er = 0
  ·subst he
   by_cases hf : fb = 0
   ·subst hf
    obtain ⟨hn2, hl2⟩ := turns_back (by decide) HN.out HB.out
    have SB2 := lH (sm_back (by decide) SS.out.2.2.1.2.2.2 (by simp) HN.out HB.out)
    have HN2 := lH hn2
    have hbl : bl = 2 := by rw [HX.out.2.2, hl2]; rfl
    subst hbl
    have HBL : Hid (2 = bk.length) := HX.out.2.2
    have n0 := N9.out.c0
    have n1 := N9.out.c1
    have n2 := N9.out.c2
    clear hn2 hl2
    go_wp2_with fail
    refine (HC.out.node none ((some ⟨w7.heap.size + 1 + 1, 0, none⟩)) none none none A5 0 1 0 1 0 0 0 0 2 c5 0 0 (43, [], [x]) eT tg bk [] 0 a3 b3 _ (Rd.nil _ _) RN.out rfl rfl (by decide) (by decide) (by decide) (by decide) ND.out r5.out l5.out.1 l5.out.2 SB2.out HBL.out ⟨⟨Rd.nil _ _, Rd.nil _ _⟩, ⟨by decide, by decide⟩, ⟨by decide, by decide⟩⟩ sm_e rfl rfl (RdX.nil_ _ _ _) (by decide) (by decide) sm_none rfl HN2.out HL.out.2.2.2.2.1.symm HL.out.2.2.2.2.2.symm).mono ?_; rintro e0 w12 ⟨P6, c6, Q6, d6, rfl, r6, k_⟩
    have KX : Hid (Kp w11 (w12.alloc (.cells #[.slice P6 a3 c6, .slice Q6 b3 d6] 27))) := gal k_ _
    have F18 : Hid (Bk (w12.alloc (.cells #[.slice P6 a3 c6, .slice Q6 b3 d6] 27)) w12.heap.size P6 a3 c6 Q6 b3 d6) := Bk.new rfl
    have r6 := lH (r6.out.kp (Kp.alloc_ w12 (.cells #[.slice P6 a3 c6, .slice Q6 b3 d6] 27)))
    have F7 := lH (F7.out.kp KX.out)
    have K := lH (K.out.tr KX.out)
    have p0 := F18.out.c0
    have p1 := F18.out.c1
    have p2 := F7.out.c0
    have p3 := F7.out.c1
    clear k_ n0 n1 n2
    go_wp2_with fail
    refine (tsame_u r6.out.r (RG.out.kp K.out).r HL.out.2.2.2.2.1.symm HL.out.2.2.2.2.2.symm).mono ?_; rintro e0 w13 ⟨rfl, k_⟩
    have K := lH (K.out.tr k_)
    clear k_ p0 p1 p2 p3
    go_wp2
    go_ret
    exact ⟨rfl, K.out⟩
   ·have hf2 := turns_err (by decide) HN.out HB.out
    have g1 : (fb != 0) = true := by simpa using hf
    rcases hf2 with hf2 | hf2 | hf2
    ·exact absurd hf2 hf
    ·subst hf2
     clear hf
     go_wp2
     go_ret
     exact ⟨rfl, K.out⟩
    ·subst hf2
     clear hf
     go_wp2
     go_ret
     exact ⟨rfl, K.out⟩
  ·have g1 : (er != 0) = true := by simpa using he
   clear he
   go_wp2
   go_ret
   exact ⟨rfl, K.out⟩
theorem vturns_walk (C : VjC) (P P2 P3 Q Q2 Q3 : Option Addr) (e e2 e3 f f2 f3 : Nat) (ta tb tg : T) (x u : Int) (w : World) (RA : TRc w P e Q f ta) (NA : N64 ta.1 ∧ N64 ta.2) (RB : TRc w P2 e2 Q2 f2 tb) (NB : N64 tb.1 ∧ N64 tb.2) (RG : TRc w P3 e3 Q3 f3 tg) (NG : N64 tg.1 ∧ N64 tg.2) (hx : -9223372036854775808 ≤ x ∧ x ≤ 9223372036854775807) (u0 : 0 ≤ u) (u1 : u ≤ 255) :
  Calls Tryz.prog 5 #[.agg #[.slice P ta.1.length e, .slice Q ta.2.length f], .agg #[.slice P2 tb.1.length e2, .slice Q2 tb.2.length f2], .agg #[.slice P3 tg.1.length e3, .slice Q3 tg.2.length f3], .int .i64 x, .int .u8 u] w fun e w' => e = .returned (.bool true) ∧ Kp w w' := by
 cases h1 : fewV ta.1.length ta.2.length with
 | false => exact vturns_far (vjawake_any C) P Q P2 Q2 P3 Q3 _ _ e f _ _ e2 f2 _ _ e3 f3 x u w (.inl (few_1 RA h1))
 | true =>
 cases h2 : fewV tb.1.length tb.2.length with
 | false => exact vturns_far (vjawake_any C) P Q P2 Q2 P3 Q3 _ _ e f _ _ e2 f2 _ _ e3 f3 x u w (.inr ⟨few_1 RA h1, .inl (few_1 RB h2)⟩)
 | true =>
 cases h3 : fewV tg.1.length tg.2.length with
 | false => exact vturns_far (vjawake_any C) P Q P2 Q2 P3 Q3 _ _ e f _ _ e2 f2 _ _ e3 f3 x u w (.inr ⟨few_1 RA h1, .inr ⟨few_1 RB h2, few_1 RG h3⟩⟩)
 | true => exact vturns_main C P Q P2 Q2 P3 Q3 e f e2 f2 e3 f3 ta tb tg x u hx u0 u1 w RA RB RG (few_sm h1 NA) (few_sm h2 NB) (few_sm h3 NG) (few_1 RA h1) (few_1 RB h2) (few_1 RG h3)
end Go.Proofs.YtjkdcegmdfmjpaaGreat
