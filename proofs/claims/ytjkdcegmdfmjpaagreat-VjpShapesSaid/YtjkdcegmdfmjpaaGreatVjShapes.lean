import Derived.Test.YtjkdcegmdfmjpaaGreatTk
import Derived.Test.YtjkdcegmdfmjpaaGreatVjTuS
import Derived.Test.YtjkdcegmdfmjpaaGreatVjU
import Derived.Deep.RegionHeld3
import Derived.Deep.RegionWith
set_option maxHeartbeats 16000000
set_option maxRecDepth 100000
set_option linter.unusedVariables false
set_option linter.unusedSimpArgs false
namespace Go.Proofs.YtjkdcegmdfmjpaaGreat
open Go.RowKit Go.Proofs.ShM Go.Proofs.GrM Go.Proofs.InM Go.Proofs.ImM Go.Proofs.EvM
theorem vshapes_far (HW : ∀ w : World, Calls Tryz.prog 6 #[] w fun e w' => e = .returned (.bool true) ∧ Kp w w') (PA PN S P Q : Option Addr) (na nb ca cb g h a b e f : Nat) (op : Int) (w : World) (la : na ≤ 9223372036854775807) (lb : nb ≤ 9223372036854775807)
  (hh : 30 < na ∨ na ≤ 30 ∧ (30 < nb ∨ nb ≤ 30 ∧ (FewT S g h w false ∨ FewT S g h w true ∧ Few1 P Q a b e f w false))) :
  Calls Tryz.prog 3 #[.agg #[.int .i64 op, .slice PA na ca, .slice PN nb cb], .slice S g h, .agg #[.slice P a e, .slice Q b f]] w fun e w' => e = .returned (.bool true) ∧ Kp w w' := by
 have HAW := lH HW
 clear HW
 have F3 : Hid (Nb ((w.alloc (.cells #[.int .i64 op, .slice PA na ca, .slice PN nb cb] 24)).alloc (.cells #[.slice P a e, .slice Q b f] 27)) w.heap.size op PA na ca PN nb cb) := (Nb.new rfl).alloc_ _
 have F5 : Hid (Bk ((w.alloc (.cells #[.int .i64 op, .slice PA na ca, .slice PN nb cb] 24)).alloc (.cells #[.slice P a e, .slice Q b f] 27)) (w.heap.size + 1) P a e Q b f) := Bk.new (by simp)
 have K0 : Hid (Kp w ((w.alloc (.cells #[.int .i64 op, .slice PA na ca, .slice PN nb cb] 24)).alloc (.cells #[.slice P a e, .slice Q b f] 27))) := gal (Kp.alloc_ _ _) _
 rcases hh with h1 | ⟨h1, h2 | ⟨h2, h3 | ⟨h3, h4⟩⟩⟩
 ·have i1 : (30 : Int) < (na : Int) := by omega
  clear h1
  go_enter Tryz.func3, Tryz.ntmps3
  go_wp2_with fail
  refine (HAW.out _).mono ?_; rintro e0 w1 ⟨rfl, k_⟩
  have K := lH (K0.out.tr k_)
  have F3 := lH (F3.out.kp k_)
  have F5 := lH (F5.out.kp k_)
  have n0 := F3.out.c0
  have n1 := F3.out.c1
  have n2 := F3.out.c2
  clear k_
  go_wp2
  go_ret
  exact ⟨rfl, K.out⟩
 ·have i1 : ¬ (30 : Int) < (na : Int) := by omega
  have i2 : (30 : Int) < (nb : Int) := by omega
  clear h1 h2
  go_enter Tryz.func3, Tryz.ntmps3
  go_wp2_with fail
  refine (HAW.out _).mono ?_; rintro e0 w1 ⟨rfl, k_⟩
  have K := lH (K0.out.tr k_)
  have F3 := lH (F3.out.kp k_)
  have F5 := lH (F5.out.kp k_)
  have n0 := F3.out.c0
  have n1 := F3.out.c1
  have n2 := F3.out.c2
  clear k_
  go_wp2
  go_ret
  exact ⟨rfl, K.out⟩
 ·have i1 : ¬ (30 : Int) < (na : Int) := by omega
  have i2 : ¬ (30 : Int) < (nb : Int) := by omega
  have H3 := lH h3
  clear h1 h2 h3
  go_enter Tryz.func3, Tryz.ntmps3
  go_wp2_with fail
  refine (HAW.out _).mono ?_; rintro e0 w1 ⟨rfl, k_⟩
  have K := lH (K0.out.tr k_)
  have F3 := lH (F3.out.kp k_)
  have F5 := lH (F5.out.kp k_)
  have n0 := F3.out.c0
  have n1 := F3.out.c1
  have n2 := F3.out.c2
  clear k_
  go_wp2_with fail
  refine (H3.out _ K.out).mono ?_; rintro e0 w2 ⟨rfl, k_⟩
  have K := lH (K.out.tr k_)
  have F3 := lH (F3.out.kp k_)
  have F5 := lH (F5.out.kp k_)
  clear k_
  go_wp2
  go_ret
  exact ⟨rfl, K.out⟩
 ·have i1 : ¬ (30 : Int) < (na : Int) := by omega
  have i2 : ¬ (30 : Int) < (nb : Int) := by omega
  have H3 := lH h3
  have H4 := lH h4
  clear h1 h2 h3 h4
  go_enter Tryz.func3, Tryz.ntmps3
  go_wp2_with fail
  refine (HAW.out _).mono ?_; rintro e0 w1 ⟨rfl, k_⟩
  have K := lH (K0.out.tr k_)
  have F3 := lH (F3.out.kp k_)
  have F5 := lH (F5.out.kp k_)
  have n0 := F3.out.c0
  have n1 := F3.out.c1
  have n2 := F3.out.c2
  clear k_
  go_wp2_with fail
  refine (H3.out _ K.out).mono ?_; rintro e0 w2 ⟨rfl, k_⟩
  have K := lH (K.out.tr k_)
  have F3 := lH (F3.out.kp k_)
  have F5 := lH (F5.out.kp k_)
  have p0 := F5.out.c0
  have p1 := F5.out.c1
  clear k_ n0 n1 n2
  go_wp2_with fail
  refine (H4.out _ K.out).mono ?_; rintro e0 w2 ⟨rfl, k_⟩
  have K := lH (K.out.tr k_)
  have F3 := lH (F3.out.kp k_)
  have F5 := lH (F5.out.kp k_)
  clear k_
  go_wp2
  go_ret
  exact ⟨rfl, K.out⟩
theorem vshapes_main (C : VjC) (PA PN S P Q : Option Addr) (ca cb h e f : Nat) (op : Int) (la ns : List Int) (ts : List T) (tg : T) (w : World) (RP : Rd w PA la) (RN : Rd w PN ns) (L1 : la.length ≤ ca ∧ ca ≤ 9223372036854775807) (L2 : ns.length ≤ cb ∧ cb ≤ 9223372036854775807) (h1 : la.length ≤ 30) (h2 : ns.length ≤ 30) (hD : Nd64 (op, la, ns))
  (RT : RdT w S ts) (L3 : ts.length ≤ h ∧ h ≤ 9223372036854775807) (ST : SmTs ts) (RG : TRc w P e Q f tg) (SG : SmT tg) (H3 : FewT S ts.length h w true) (H4 : Few1 P Q tg.1.length tg.2.length e f w true) :
  Calls Tryz.prog 3 #[.agg #[.int .i64 op, .slice PA la.length ca, .slice PN ns.length cb], .slice S ts.length h, .agg #[.slice P tg.1.length e, .slice Q tg.2.length f]] w fun e w' => e = .returned (.bool true) ∧ Kp w w' := by
 have HC := lH C
 have HAW := lH (vjawake_any C)
 have H3 := lH H3
 have H4 := lH H4
 have RP := lH RP
 have RN := lH RN
 have RT := lH RT
 have RG := lH RG
 obtain ⟨out, er, hnode⟩ : ∃ out er, nodeE op ns ts eT [] = (out, er) := ⟨_, _, rfl⟩
 have SO : SmT out := sm_node hnode ST hD.2.2
 obtain ⟨xs, fx, hbx⟩ : ∃ xs f, backV op ns ts out tg = (xs, f) := ⟨_, _, rfl⟩
 obtain ⟨o2, hho2⟩ : ∃ o2 : T, o2 = (out.1, List.replicate (sizeV out.1).toNat 0) := ⟨_, rfl⟩
 obtain ⟨zs, fz, hbz⟩ : ∃ zs f, backV op ns ts out o2 = (zs, f) := ⟨_, _, rfl⟩
 have HSS := lH (And.intro ST (And.intro SG (And.intro SO (And.intro hD (And.intro L1 (And.intro L2 L3))))))
 have HN := lH hnode
 have HBX := lH hbx
 have HBZ := lH hbz
 obtain ⟨na, hna⟩ : ∃ k, k = la.length := ⟨_, rfl⟩
 obtain ⟨nb, hnb⟩ : ∃ k, k = ns.length := ⟨_, rfl⟩
 obtain ⟨g, hg⟩ : ∃ k, k = ts.length := ⟨_, rfl⟩
 obtain ⟨a, ha⟩ : ∃ k, k = tg.1.length := ⟨_, rfl⟩
 obtain ⟨b, hb⟩ : ∃ k, k = tg.2.length := ⟨_, rfl⟩
 obtain ⟨ox, hox⟩ : ∃ k, k = out.1.length := ⟨_, rfl⟩
 obtain ⟨oy, hoy⟩ : ∃ k, k = out.2.length := ⟨_, rfl⟩
 obtain ⟨o3, ho3⟩ : ∃ k, k = o2.2.length := ⟨_, rfl⟩
 obtain ⟨nx, hnx⟩ : ∃ k, k = xs.length := ⟨_, rfl⟩
 obtain ⟨nz, hnz⟩ : ∃ k, k = zs.length := ⟨_, rfl⟩
 have HL := lH (And.intro hna (And.intro hnb (And.intro hg (And.intro ha (And.intro hb (And.intro hox (And.intro hoy (And.intro ho3 (And.intro hnx hnz)))))))))
 have hna30 : na ≤ 30 := by omega
 have hnb30 : nb ≤ 30 := by omega
 have HO2 := lH hho2
 rw [← hna, ← hnb, ← hg, ← ha, ← hb]
 rw [← hg] at H3
 rw [← ha, ← hb] at H4
 have i1 : ¬ (30 : Int) < (na : Int) := by omega
 have i2 : ¬ (30 : Int) < (nb : Int) := by omega
 have F3 : Hid (Nb ((w.alloc (.cells #[.int .i64 op, .slice PA na ca, .slice PN nb cb] 24)).alloc (.cells #[.slice P a e, .slice Q b f] 27)) w.heap.size op PA na ca PN nb cb) := (Nb.new rfl).alloc_ _
 have F5 : Hid (Bk ((w.alloc (.cells #[.int .i64 op, .slice PA na ca, .slice PN nb cb] 24)).alloc (.cells #[.slice P a e, .slice Q b f] 27)) (w.heap.size + 1) P a e Q b f) := Bk.new (by simp)
 have K0 : Hid (Kp w ((w.alloc (.cells #[.int .i64 op, .slice PA na ca, .slice PN nb cb] 24)).alloc (.cells #[.slice P a e, .slice Q b f] 27))) := gal (Kp.alloc_ _ _) _
 clear C hna hnb hg ha hb hox hoy ho3 hnx hnz L1 L2 L3 ST SG SO hnode hbx hbz h1 h2 hD hho2
 go_enter Tryz.func3, Tryz.ntmps3
 go_wp2_with fail
 refine (HAW.out _).mono ?_; rintro e0 w1 ⟨rfl, k_⟩
 have K := lH (K0.out.tr k_)
 have F3 := lH (F3.out.kp k_)
 have F5 := lH (F5.out.kp k_)
 have n0 := F3.out.c0
 have n1 := F3.out.c1
 have n2 := F3.out.c2
 clear k_
 go_wp2_with fail
 refine (H3.out _ K.out).mono ?_; rintro e0 w2 ⟨rfl, k_⟩
 have K := lH (K.out.tr k_)
 have F3 := lH (F3.out.kp k_)
 have F5 := lH (F5.out.kp k_)
 have p0 := F5.out.c0
 have p1 := F5.out.c1
 clear k_ n0 n1 n2
 go_wp2_with fail
 refine (H4.out _ K.out).mono ?_; rintro e0 w3 ⟨rfl, k_⟩
 have K := lH (K.out.tr k_)
 have F3 := lH (F3.out.kp k_)
 have F5 := lH (F5.out.kp k_)
 have n0 := F3.out.c0
 have n1 := F3.out.c1
 have n2 := F3.out.c2
 clear k_ p0 p1 HAW H3 H4
 go_wp2_with fail
 refine (HC.out.node PA PN none none none S na nb ca cb 0 0 0 0 g h 0 0 (op, la, ns) eT out ts [] er ox oy _ (RP.out.kp K.out) (RN.out.kp K.out) HL.out.1 HL.out.2.1 (by rw [HL.out.1]; exact HSS.out.2.2.2.2.1) (by rw [HL.out.2.1]; exact HSS.out.2.2.2.2.2.1) (by omega) (by omega) HSS.out.2.2.2.1 (RT.out.kp K.out) HSS.out.2.2.2.2.2.2.1 HSS.out.2.2.2.2.2.2.2 HSS.out.1 HL.out.2.2.1 ⟨⟨Rd.nil _ _, Rd.nil _ _⟩, ⟨by decide, by decide⟩, ⟨by decide, by decide⟩⟩ sm_e rfl rfl (RdX.nil_ _ _ _) (by decide) (by decide) sm_none rfl HN.out HL.out.2.2.2.2.2.1.symm HL.out.2.2.2.2.2.2.1.symm).mono ?_; rintro e0 w4 ⟨P4, c4, Q4, d4, rfl, r4, k_⟩
 have KX : Hid (Kp w3 (w4.alloc (.cells #[.slice P4 ox c4, .slice Q4 oy d4] 27))) := gal k_ _
 have F8 : Hid (Bk (w4.alloc (.cells #[.slice P4 ox c4, .slice Q4 oy d4] 27)) w4.heap.size P4 ox c4 Q4 oy d4) := Bk.new rfl
 have r4 := lH (r4.out.kp (Kp.alloc_ w4 (.cells #[.slice P4 ox c4, .slice Q4 oy d4] 27)))
 have K := lH (K.out.tr KX.out)
 have F3 := lH (F3.out.kp KX.out)
 have F5 := lH (F5.out.kp KX.out)
 replace n0 := F3.out.c0
 replace n1 := F3.out.c1
 replace n2 := F3.out.c2
 have p0 := F5.out.c0
 have p1 := F5.out.c1
 have p2 := F8.out.c0
 have p3 := F8.out.c1
 clear k_ K0
 by_cases he : er = 0 ∧ 10 ≤ op
 ·obtain ⟨he, hop⟩ := he
  subst he
  have g1 : ¬ op < 10 := by omega
  have bx := back_facts (g := tg) hop HN.out
  have bz := back_facts (g := o2) hop HN.out
  rw [HBX.out] at bx
  rw [HBZ.out] at bz
  have HBXF : Hid ((fx ≠ 0 → xs = []) ∧ (fx = 0 → xs.length = ts.length ∧ (∀ (k : Nat) (t : T), xs[k]? = some t → tokT t = true ∧ ∃ a : T, ts[k]? = some a ∧ t.1 = a.1))) := ⟨bx.1, fun h => ⟨(bx.2 h).1, (bx.2 h).2.1⟩⟩
  have hto : tokT out = true := by
   have he := (eok_node op ns ts eT []).2
   rw [HN.out] at he
   exact he rfl
  have hoo := (Go.Proofs.ImM.tok_iff.1 hto).1
  have HBZF : Hid ((fz ≠ 0 → zs = []) ∧ (fz = 0 → zs.length = ts.length ∧ ∀ t ∈ zs, Z0 t.2)) := ⟨bz.1, fun h => ⟨(bz.2 h).1, (bz.2 h).2.2 (by rw [HO2.out]; exact fun x hx => List.eq_of_mem_replicate hx)⟩⟩
  have HFU : Hid (fullV out.1 0 = (o2.1, o2.2, 0)) := by show fullV out.1 0 = _; unfold fullV; rw [if_pos hoo, HO2.out]
  have S2 : Hid (SmT o2) := by
   show SmT o2
   have htk : tokT o2 = true := by rw [HO2.out]; exact full_tok 0 hoo
   obtain ⟨f1, f2, f3⟩ := tok_few htk
   exact ⟨f1, f2, f3, by rw [HO2.out]; exact fun x hx => by rw [List.eq_of_mem_replicate hx]; omega⟩
  clear bx bz hto hoo
  go_wp2_with fail
  refine (HC.out.back PA PN P4 Q4 P Q S na nb ca cb ox oy c4 d4 a b e f g h (op, la, ns) out tg ts xs fx nx _ (RP.out.kp K.out) (RN.out.kp K.out) HL.out.1 HL.out.2.1 (by rw [HL.out.1]; exact HSS.out.2.2.2.2.1) (by rw [HL.out.2.1]; exact HSS.out.2.2.2.2.2.1) (by omega) (by omega) HSS.out.2.2.2.1 (RT.out.kp K.out) HSS.out.2.2.2.2.2.2.1 HSS.out.2.2.2.2.2.2.2 HSS.out.1 HL.out.2.2.1 r4.out HSS.out.2.2.1 HL.out.2.2.2.2.2.1 HL.out.2.2.2.2.2.2.1 (RG.out.kp K.out) HSS.out.2.1 HL.out.2.2.2.1 HL.out.2.2.2.2.1 HBX.out HL.out.2.2.2.2.2.2.2.2.1.symm).mono ?_; rintro e0 w5 ⟨A5, c5, rfl, r5, l5, k_⟩
  have K := lH (K.out.tr k_)
  have r4 := lH (r4.out.kp k_)
  have F3 := lH (F3.out.kp k_)
  have F8 := lH (F8.out.kp k_)
  replace n0 := F3.out.c0
  replace n1 := F3.out.c1
  replace n2 := F3.out.c2
  replace p2 := F8.out.c0
  replace p3 := F8.out.c1
  clear k_ p0 p1
  go_wp2_with fail
  refine (HC.out.full P4 c4 ox out.1 0 o2 ox o3 _ r4.out.r.s HL.out.2.2.2.2.2.1 HFU.out (by rw [HL.out.2.2.2.2.2.1, HO2.out]) HL.out.2.2.2.2.2.2.2.1.symm).mono ?_; rintro e0 w6 ⟨P6, c6, Q6, d6, rfl, r6, k_⟩
  have KX : Hid (Kp w5 (w6.alloc (.cells #[.slice P6 ox c6, .slice Q6 o3 d6] 27))) := gal k_ _
  have F12 : Hid (Bk (w6.alloc (.cells #[.slice P6 ox c6, .slice Q6 o3 d6] 27)) w6.heap.size P6 ox c6 Q6 o3 d6) := Bk.new rfl
  have r6 := lH (r6.out.kp (Kp.alloc_ w6 (.cells #[.slice P6 ox c6, .slice Q6 o3 d6] 27)))
  have K := lH (K.out.tr KX.out)
  have r4 := lH (r4.out.kp KX.out)
  have r5 := lH (r5.out.kp KX.out)
  have F3 := lH (F3.out.kp KX.out)
  have F8 := lH (F8.out.kp KX.out)
  replace n0 := F3.out.c0
  replace n1 := F3.out.c1
  replace n2 := F3.out.c2
  replace p2 := F8.out.c0
  replace p3 := F8.out.c1
  have p4 := F12.out.c0
  have p5 := F12.out.c1
  clear k_
  go_wp2_with fail
  refine (HC.out.back PA PN P4 Q4 P6 Q6 S na nb ca cb ox oy c4 d4 ox o3 c6 d6 g h (op, la, ns) out o2 ts zs fz nz _ (RP.out.kp K.out) (RN.out.kp K.out) HL.out.1 HL.out.2.1 (by rw [HL.out.1]; exact HSS.out.2.2.2.2.1) (by rw [HL.out.2.1]; exact HSS.out.2.2.2.2.2.1) (by omega) (by omega) HSS.out.2.2.2.1 (RT.out.kp K.out) HSS.out.2.2.2.2.2.2.1 HSS.out.2.2.2.2.2.2.2 HSS.out.1 HL.out.2.2.1 r4.out HSS.out.2.2.1 HL.out.2.2.2.2.2.1 HL.out.2.2.2.2.2.2.1 r6.out S2.out (by rw [HL.out.2.2.2.2.2.1, HO2.out]) HL.out.2.2.2.2.2.2.2.1 HBZ.out HL.out.2.2.2.2.2.2.2.2.2.symm).mono ?_; rintro e0 w7 ⟨A7, c8, rfl, r7, l7, k_⟩
  have K := lH (K.out.tr k_)
  have r5 := lH (r5.out.kp k_)
  have RT7 := lH (RT.out.kp K.out)
  clear k_ n0 n1 n2 p2 p3 p4 p5
  go_upto_region 10 with fail
  go_cut [110] (fun v wx => v = .bool false ∧ wx = w7)
  case first =>
   have hxn : (fx = 0 ∧ ((nx : Int) != (g : Int)) = false) ∨ (fx ≠ 0 ∧ ((nx : Int) != 0) = false) := by
    by_cases hx : fx = 0
    ·exact .inl ⟨hx, by rw [HL.out.2.2.2.2.2.2.2.2.1, (HBXF.out.2 hx).1, HL.out.2.2.1]; simp⟩
    ·exact .inr ⟨hx, by rw [HL.out.2.2.2.2.2.2.2.2.1, HBXF.out.1 hx]; rfl⟩
   have hzn : (fz = 0 ∧ ((nz : Int) != (g : Int)) = false) ∨ fz ≠ 0 := by
    by_cases hz : fz = 0
    ·exact .inl ⟨hz, by rw [HL.out.2.2.2.2.2.2.2.2.2, (HBZF.out.2 hz).1, HL.out.2.2.1]; simp⟩
    ·exact .inr hz
   rcases hxn with ⟨hx, x3⟩ | ⟨hx, x3⟩ <;> rcases hzn with ⟨hz, z3⟩ | hz
   ·have x1 : (fx == 0) = true := by simpa using hx
    have x2 : (fx != 0) = false := by simpa using hx
    have z1 : (fz == 0) = true := by simpa using hz
    clear hx hz
    go_wp2
    go_meet
    exact ⟨rfl, rfl⟩
   ·have x1 : (fx == 0) = true := by simpa using hx
    have x2 : (fx != 0) = false := by simpa using hx
    have z1 : (fz == 0) = false := by simpa using hz
    clear hx hz
    go_wp2
    go_meet
    exact ⟨rfl, rfl⟩
   ·have x1 : (fx == 0) = false := by simpa using hx
    have x2 : (fx != 0) = true := by simpa using hx
    have z1 : (fz == 0) = true := by simpa using hz
    clear hx hz
    go_wp2
    go_meet
    exact ⟨rfl, rfl⟩
   ·have x1 : (fx == 0) = false := by simpa using hx
    have x2 : (fx != 0) = true := by simpa using hx
    have z1 : (fz == 0) = false := by simpa using hz
    clear hx hz
    go_wp2
    go_meet
    exact ⟨rfl, rfl⟩
  case rest =>
   obtain ⟨rfl, hwc⟩ := hcut
   subst hwc
   have bnx : nx ≤ 9223372036854775807 := by rw [HL.out.2.2.2.2.2.2.2.2.1]; exact r5.out.len
   have bnz : nz ≤ 9223372036854775807 := by rw [HL.out.2.2.2.2.2.2.2.2.2]; exact r7.out.len
   clear F3 F5 F8 F12 r4 r6
   go_wp2
   go_loopw [16] (fun i wx => ∃ j : Nat, i = .int .i64 (j : Int) ∧ Hid (j ≤ nx) ∧ Hid (Kp wc wx)) (fun i _ => nx - (intOf i).toNat)
   case atStart => exact ⟨0, rfl, Nat.zero_le _, Kp.refl _⟩
   case round =>
    obtain ⟨j, rfl, hj, hKk⟩ := hrel
    by_cases hjx : j < nx
    ·have hj1 : (j : Int) < (nx : Int) := by omega
     have hfx : fx = 0 := by
      by_cases hx : fx = 0
      ·exact hx
      ·exfalso
       have := HL.out.2.2.2.2.2.2.2.2.1
       rw [HBXF.out.1 hx] at this
       simp at this
       omega
     have hng : nx = g := by rw [HL.out.2.2.2.2.2.2.2.2.1, (HBXF.out.2 hfx).1, HL.out.2.2.1]
     have hj2 : (j : Int) < (g : Int) := by omega
     obtain ⟨ad, x, P3, c3, Q3, d3, hE, hlt, hx, t1, t2, hR3⟩ := trc_at r5.out (k := j) (by rw [← HL.out.2.2.2.2.2.2.2.2.1]; exact hjx)
     subst hE
     obtain ⟨htx, y, hy, hxy⟩ := (HBXF.out.2 hfx).2 j x hx
     obtain ⟨bd, y', P9, c9, Q9, d9, hE, hlu, hy', u1, u2, hR9⟩ := trc_at RT7.out (k := j) (List.getElem?_eq_some_iff.1 hy).1
     subst hE
     obtain rfl : y = y' := by rw [hy] at hy'; injection hy'
     obtain ⟨n1, hn1⟩ : ∃ n, n = x.1.length := ⟨_, rfl⟩
     obtain ⟨n2, hn2⟩ : ∃ n, n = x.2.length := ⟨_, rfl⟩
     have hn9 : n1 = y.1.length := by rw [hn1, hxy]
     have HQS : Hid (∀ V, Kp wc V → Calls Tryz.prog 12 #[.slice P3 n1 c3, .slice P9 n1 c9] V fun e w' => e = .returned (.bool true) ∧ Kp V w') := fun V kV => same_g x.1 y.1 (hR3.r.kp kV).s (hR9.r.kp kV).s hn1 hn9 (by rw [hxy]; simp)
     have HQC : Hid (∀ V, Kp wc V → Calls Tryz.prog 13 #[.agg #[.slice P3 n1 c3, .slice Q3 n2 d3]] V fun e w' => e = .returned (.bool true) ∧ Kp V w') := fun V kV => tcheck_u x.1 x.2 (hR3.r.kp kV) hn1 hn2 htx
     rw [← hn1] at t1
     rw [← hn2] at t2
     rw [← hn9] at u1
     have HQ6 : Hid (∀ V, Kp wr V → V.cell? (ad.add (j * 2)) = some (.slice P3 n1 c3) ∧ V.cell? ⟨(ad.add (j * 2)).block, (ad.add (j * 2)).off + 1, none⟩ = some (.slice Q3 n2 d3) ∧ V.cell? (bd.add (j * 2)) = some (.slice P9 n1 c9)) := fun V kV => ⟨((hKk.out.tr kV).cell (by rw [block_of_add]; exact hlt)).trans t1, ((hKk.out.tr kV).cell (by rw [block_of_add]; exact hlt)).trans t2, ((hKk.out.tr kV).cell (by rw [block_of_add]; exact hlu)).trans u1⟩
     have s0 := HQ6.out _ (Kp.drewN_ wr 1)
     clear hfx hng hlt hlu hx hy hy' t1 t2 u1 u2 hR3 hR9 htx hxy hn1 hn2 hn9
     go_wp2_with fail
     refine wp_region_held_drew (S := fun V => V.cell? (ad.add (j * 2)) = some (.slice P3 n1 c3) ∧ V.cell? ⟨(ad.add (j * 2)).block, (ad.add (j * 2)).off + 1, none⟩ = some (.slice Q3 n2 d3) ∧ V.cell? (bd.add (j * 2)) = some (.slice P9 n1 c9)) (by kernel_rfl) s0 (fun hHeld => ?_)
     refine tK 0 (.slice (some ad) nx c5) rfl hHeld <| tK 1 (.int .i64 (j : Int)) rfl hHeld <| tK 2 (.pointer (some (ad.add (j * 2)))) rfl hHeld <| tK 3 (.pointer (some (ad.add (j * 2)))) rfl hHeld <| tK 4 (.slice P3 n1 c3) rfl hHeld <| tK 5 (.slice (some bd) g h) rfl hHeld <| tK 6 (.int .i64 (j : Int)) rfl hHeld <| tK 7 (.pointer (some (bd.add (j * 2)))) rfl hHeld <| tK 8 (.pointer (some (bd.add (j * 2)))) rfl hHeld <| tK 9 (.slice P9 n1 c9) rfl hHeld ?_
     refine rD 10 rfl fun K9_ hK => ?_
     go_simp
     refine (HQS.out _ (hKk.out.tr (Kp.drewN_ wr 1))).mono ?_; rintro e0 w8 ⟨rfl, k9⟩
     dsimp only
     have K8 : Hid (Kp wr w8) := (Kp.drewN_ wr 1).tr k9
     have hq := HQ6.out _ K8.out
     clear k9
     refine hK.out _ _ (hq) fun hHeld => ?_
     clear hK
     refine tK 11 (.bool false) rfl hHeld <| tK 12 (.bool false) rfl hHeld <| tK 13 (.slice (some ad) nx c5) rfl hHeld <| tK 14 (.int .i64 (j : Int)) rfl hHeld <| tK 15 (.pointer (some (ad.add (j * 2)))) rfl hHeld <| tK 16 (.agg #[.slice P3 n1 c3, .slice Q3 n2 d3]) rfl hHeld ?_
     refine rD 17 rfl fun K9_ hK => ?_
     go_simp
     refine (HQC.out _ (hKk.out.tr K8.out)).mono ?_; rintro e0 w9 ⟨rfl, k9⟩
     dsimp only
     have K9 : Hid (Kp wr w9) := K8.out.tr k9
     have hq2 := HQ6.out _ K9.out
     clear k9
     refine hK.out _ _ (hq2) fun hHeld => ?_
     clear hK
     refine tK 18 (.bool false) rfl hHeld <| tK 19 (.bool false) rfl hHeld ?_
     refine wpAnyH_done (by kernel_rfl) ?_ _
     go_wp2
     go_roundw
     case rel => exact ⟨j + 1, by go_num, (by show j + 1 ≤ nx; omega), hKk.out.tr K9.out⟩
     case measure => simp [intOf]; omega
    ·have hj1 : ¬ (j : Int) < (nx : Int) := by omega
     have KL := lH hKk.out
     clear hj hjx hKk
     go_wp2
     go_loopw [17] (fun i wx => ∃ j : Nat, i = .int .i64 (j : Int) ∧ Hid (j ≤ nz) ∧ Hid (Kp wc wx)) (fun i _ => nz - (intOf i).toNat)
     case atStart => exact ⟨0, rfl, Nat.zero_le _, KL.out⟩
     case round =>
      obtain ⟨m, rfl, hm, hM⟩ := hrel
      by_cases hmz : m < nz
      ·have hm1 : (m : Int) < (nz : Int) := by omega
       have hfz : fz = 0 := by
        by_cases hz : fz = 0
        ·exact hz
        ·exfalso
         have := HL.out.2.2.2.2.2.2.2.2.2
         rw [HBZF.out.1 hz] at this
         simp at this
         omega
       obtain ⟨ad, z, P3, c3, Q3, d3, hE, hlt, hz, t1, t2, hR3⟩ := trc_at r7.out (k := m) (by rw [← HL.out.2.2.2.2.2.2.2.2.2]; exact hmz)
       subst hE
       have HZ := lH ((HBZF.out.2 hfz).2 z (List.mem_of_getElem? hz))
       obtain ⟨n2, hn2⟩ : ∃ n, n = z.2.length := ⟨_, rfl⟩
       rw [← hn2] at t2
       have HN2 : Hid (n2 = z.2.length) := hn2
       have bn2 : n2 ≤ 9223372036854775807 := by rw [hn2]; exact hR3.r.d.len
       have HR3 := lH hR3
       have HT : Hid (∀ V, Kp wc V → V.cell? ⟨(ad.add (m * 2)).block, (ad.add (m * 2)).off + 1, none⟩ = some (.slice Q3 n2 d3)) := fun V kV => (kV.cell (by rw [block_of_add]; exact hlt)).trans t2
       clear hfz hlt hz t1 t2 hR3 hn2
       go_wp2
       go_loopw [18] (fun i wx => ∃ q : Nat, i = .int .i64 (q : Int) ∧ Hid (q ≤ n2) ∧ Hid (Kp wc wx)) (fun i _ => n2 - (intOf i).toNat)
       case atStart => exact ⟨0, rfl, Nat.zero_le _, hM.out⟩
       case round =>
        obtain ⟨q, rfl, hq, hQ⟩ := hrel
        have v0 := HT.out _ hQ.out
        by_cases hqn : q < n2
        ·have hq1 : (q : Int) < (n2 : Int) := by omega
         obtain ⟨af, v, hQ3, hltf, hv, hcv⟩ := (HR3.out.r.kp hQ.out).d.at_ (k := q) (by rw [← HN2.out]; exact hqn)
         subst hQ3
         obtain rfl : v = 0 := HZ.out v (List.mem_of_getElem? hv)
         clear hv
         go_wp2
         go_roundw
         case rel => exact ⟨q + 1, by go_num, (by show q + 1 ≤ n2; omega), hQ.out⟩
         case measure => simp [intOf]; omega
        ·have hq1 : ¬ (q : Int) < (n2 : Int) := by omega
         go_wp2
         go_roundw
         case rel => exact ⟨m + 1, by go_num, (by show m + 1 ≤ nz; omega), hQ.out⟩
         case measure => simp [intOf]; omega
      ·have hm1 : ¬ (m : Int) < (nz : Int) := by omega
       go_wp2
       go_ret
       exact ⟨rfl, K.out.tr hM.out⟩
 ·have g1 : ¬ (er = 0 ∧ 10 ≤ op) := he
  by_cases he0 : er = 0
  ·subst he0
   have g2 : op < 10 := by omega
   clear g1 he
   go_wp2
   go_ret
   exact ⟨rfl, K.out⟩
  ·have g2 : (er != 0) = true := by simpa using he0
   clear g1 he he0
   go_wp2
   go_ret
   exact ⟨rfl, K.out⟩
theorem vshapes_walk (C : VjC) (PA PN S P Q : Option Addr) (ca cb h e f : Nat) (op : Int) (la ns : List Int) (ts : List T) (tg : T) (w : World) (RP : Rd w PA la) (RN : Rd w PN ns) (L1 : la.length ≤ ca ∧ ca ≤ 9223372036854775807) (L2 : ns.length ≤ cb ∧ cb ≤ 9223372036854775807) (hD : Nd64 (op, la, ns))
  (RT : RdT w S ts) (NT : ∀ t ∈ ts, N64 t.1 ∧ N64 t.2) (L3 : ts.length ≤ h ∧ h ≤ 9223372036854775807) (RG : TRc w P e Q f tg) (NG : N64 tg.1 ∧ N64 tg.2) :
  Calls Tryz.prog 3 #[.agg #[.int .i64 op, .slice PA la.length ca, .slice PN ns.length cb], .slice S ts.length h, .agg #[.slice P tg.1.length e, .slice Q tg.2.length f]] w fun e w' => e = .returned (.bool true) ∧ Kp w w' := by
 have ll := RP.len
 have ln := RN.len
 by_cases h1 : 30 < la.length
 ·exact vshapes_far (vjawake_any C) PA PN S P Q _ _ ca cb _ h _ _ e f op w ll ln (.inl h1)
 by_cases h2 : 30 < ns.length
 ·exact vshapes_far (vjawake_any C) PA PN S P Q _ _ ca cb _ h _ _ e f op w ll ln (.inr ⟨by omega, .inl h2⟩)
 cases h3 : fewT ts 10 with
 | false => exact vshapes_far (vjawake_any C) PA PN S P Q _ _ ca cb _ h _ _ e f op w ll ln (.inr ⟨by omega, .inr ⟨by omega, .inl (few_t RT h3)⟩⟩)
 | true =>
 cases h4 : fewV tg.1.length tg.2.length with
 | false => exact vshapes_far (vjawake_any C) PA PN S P Q _ _ ca cb _ h _ _ e f op w ll ln (.inr ⟨by omega, .inr ⟨by omega, .inr ⟨few_t RT h3, few_1 RG h4⟩⟩⟩)
 | true => exact vshapes_main C PA PN S P Q ca cb h e f op la ns ts tg w RP RN L1 L2 (by omega) (by omega) hD RT L3 (few_sms h3 NT) RG (few_sm h4 NG) (few_t RT h3) (few_1 RG h4)
end Go.Proofs.YtjkdcegmdfmjpaaGreat
