import Derived.Test.YtjkdcegmdfmjpaaGreatTk
import Derived.Test.YtjkdcegmdfmjpaaGreatVjAddsA
set_option maxHeartbeats 16000000
set_option maxRecDepth 100000
set_option linter.unusedVariables false
set_option linter.unusedSimpArgs false
namespace Go.Proofs.YtjkdcegmdfmjpaaGreat
open Go.RowKit Go.Proofs.ShM Go.Proofs.GrM Go.Proofs.InM Go.Proofs.ImM Go.Proofs.EvM
theorem step_app14 {w : World} {B : Nat} {ops : Array Oper} {o : Oper} {a : Act} {K : Act → World → Prop} {Q : Exit → Act → World → Prop} {E : Prop} (hgd : o.guard = none) (s x : Operand)
  (hop : o.op = .call { callee := .builtin .append, args := #[s, x], argTypes := #[22, 22] })
  (v : Value) (xs : List Int) (hs : a.eval s = v) (ho : Own B w v xs) (A : Option Addr) (c : Nat) (ys : List Int) (n : Nat) (hx : a.eval x = .slice A n c) (hn : n = ys.length) (hr : Rd w A ys)
  (hl : xs.length + ys.length ≤ 1000000) (hB : B ≤ w.heap.size)
  (h : ∀ zs A' c' w', Hid (zs = xs ++ ys) → Own B w' (.slice A' zs.length c') zs → Below B w w' → K (a.put o.dst (.slice A' zs.length c')) w') :
  if Region.wanted o (yielded ops a.tmps) = true then Oper.wp Tryz.prog o a w K Q else E := by
 have hw : Region.wanted o (yielded ops a.tmps) = true := by simp [Region.wanted, hgd]
 rw [if_pos hw]
 subst hn
 obtain ⟨zs, A', c', w', e, hrun, h1, h2⟩ := run_app ho c hr hl hB o.type
 unfold Oper.wp execOp
 simp only [hop, resolve, invoke, builtin, Sem.run_bind, Sem.run_pure, Result.andThen_ok, List.map_toArray, List.map_cons, List.map_nil, hs, hx, hrun]
 exact h zs A' c' w' e h1 h2
theorem vadds_main (C : VjC) (PA PN S P Q P2 Q2 : Option Addr) (ca cb h e f e2 f2 : Nat) (op : Int) (la ns : List Int) (ts : List T) (tg th : T) (w : World) (RP : Rd w PA la) (RN : Rd w PN ns) (L1 : la.length ≤ ca ∧ ca ≤ 9223372036854775807) (L2 : ns.length ≤ cb ∧ cb ≤ 9223372036854775807) (h1 : la.length ≤ 30) (h2 : ns.length ≤ 30) (hD : Nd64 (op, la, ns))
  (RT : RdT w S ts) (L3 : ts.length ≤ h ∧ h ≤ 9223372036854775807) (ST : SmTs ts) (RG : TRc w P e Q f tg) (SG : SmT tg) (RH : TRc w P2 e2 Q2 f2 th) (SH : SmT th) (BG : Bd tg.2) (BH : Bd th.2) (hmo : movesB op = true) (H3 : FewT S ts.length h w true)
  (H4 : (∀ V, Kp w V → Calls Tryz.prog 14 #[.agg #[.slice P tg.1.length e, .slice Q tg.2.length f]] V fun e w' => e = .returned (.bool true) ∧ Kp V w')) (H5 : (∀ V, Kp w V → Calls Tryz.prog 14 #[.agg #[.slice P2 th.1.length e2, .slice Q2 th.2.length f2]] V fun e w' => e = .returned (.bool true) ∧ Kp V w')) :
  Calls Tryz.prog 4 #[.agg #[.int .i64 op, .slice PA la.length ca, .slice PN ns.length cb], .slice S ts.length h, .agg #[.slice P tg.1.length e, .slice Q tg.2.length f], .agg #[.slice P2 th.1.length e2, .slice Q2 th.2.length f2]] w fun e w' => e = .returned (.bool true) ∧ Kp w w' := by
 have HC := lH C
 have HAW := lH (vjawake_any C)
 have H3 := lH H3
 have H4 := lH H4
 have H5 := lH H5
 have RP := lH RP
 have RN := lH RN
 have RT := lH RT
 have RG := lH RG
 have RH := lH RH
 obtain ⟨out, er, hnode⟩ : ∃ out er, nodeE op ns ts eT [] = (out, er) := ⟨_, _, rfl⟩
 have SO : SmT out := sm_node hnode ST hD.2.2
 obtain ⟨xs, fx, hbx⟩ : ∃ xs f, backV op ns ts out tg = (xs, f) := ⟨_, _, rfl⟩
 obtain ⟨ys, fy, hby⟩ : ∃ ys f, backV op ns ts out th = (ys, f) := ⟨_, _, rfl⟩
 have HSS := lH (And.intro ST (And.intro SG (And.intro SO (And.intro hD (And.intro L1 (And.intro L2 L3))))))
 have HSH := lH SH
 have HBD := lH (And.intro BG BH)
 have HN := lH hnode
 have HBX := lH hbx
 have HBY := lH hby
 have HMO := lH hmo
 obtain ⟨na, hna⟩ : ∃ k, k = la.length := ⟨_, rfl⟩
 have Lna : Hid (na = la.length) := hna
 obtain ⟨nb, hnb⟩ : ∃ k, k = ns.length := ⟨_, rfl⟩
 have Lnb : Hid (nb = ns.length) := hnb
 obtain ⟨g, hg⟩ : ∃ k, k = ts.length := ⟨_, rfl⟩
 have Lg : Hid (g = ts.length) := hg
 obtain ⟨a, ha⟩ : ∃ k, k = tg.1.length := ⟨_, rfl⟩
 have La : Hid (a = tg.1.length) := ha
 obtain ⟨b, hb⟩ : ∃ k, k = tg.2.length := ⟨_, rfl⟩
 have Lb : Hid (b = tg.2.length) := hb
 obtain ⟨a2, ha2⟩ : ∃ k, k = th.1.length := ⟨_, rfl⟩
 have La2 : Hid (a2 = th.1.length) := ha2
 obtain ⟨b2, hb2⟩ : ∃ k, k = th.2.length := ⟨_, rfl⟩
 have Lb2 : Hid (b2 = th.2.length) := hb2
 obtain ⟨ox, hox⟩ : ∃ k, k = out.1.length := ⟨_, rfl⟩
 have Lox : Hid (ox = out.1.length) := hox
 obtain ⟨oy, hoy⟩ : ∃ k, k = out.2.length := ⟨_, rfl⟩
 have Loy : Hid (oy = out.2.length) := hoy
 obtain ⟨nx, hnx⟩ : ∃ k, k = xs.length := ⟨_, rfl⟩
 have Lnx : Hid (nx = xs.length) := hnx
 obtain ⟨ny, hny⟩ : ∃ k, k = ys.length := ⟨_, rfl⟩
 have Lny : Hid (ny = ys.length) := hny
 have hna30 : na ≤ 30 := by omega
 have hnb30 : nb ≤ 30 := by omega
 rw [← hna, ← hnb, ← hg, ← ha, ← hb, ← ha2, ← hb2]
 rw [← hg] at H3
 rw [← ha, ← hb] at H4
 rw [← ha2, ← hb2] at H5
 have i1 : ¬ (30 : Int) < (na : Int) := by omega
 have i2 : ¬ (30 : Int) < (nb : Int) := by omega
 have F4 : Hid (Nb (((w.alloc (.cells #[.int .i64 op, .slice PA na ca, .slice PN nb cb] 24)).alloc (.cells #[.slice P a e, .slice Q b f] 27)).alloc (.cells #[.slice P2 a2 e2, .slice Q2 b2 f2] 27)) w.heap.size op PA na ca PN nb cb) := ((Nb.new rfl).alloc_ _).alloc_ _
 have F6 : Hid (Bk (((w.alloc (.cells #[.int .i64 op, .slice PA na ca, .slice PN nb cb] 24)).alloc (.cells #[.slice P a e, .slice Q b f] 27)).alloc (.cells #[.slice P2 a2 e2, .slice Q2 b2 f2] 27)) (w.heap.size + 1) P a e Q b f) := (Bk.new (by simp)).alloc_ _
 have F7 : Hid (Bk (((w.alloc (.cells #[.int .i64 op, .slice PA na ca, .slice PN nb cb] 24)).alloc (.cells #[.slice P a e, .slice Q b f] 27)).alloc (.cells #[.slice P2 a2 e2, .slice Q2 b2 f2] 27)) (w.heap.size + 1 + 1) P2 a2 e2 Q2 b2 f2) := Bk.new (by simp)
 have K0 : Hid (Kp w (((w.alloc (.cells #[.int .i64 op, .slice PA na ca, .slice PN nb cb] 24)).alloc (.cells #[.slice P a e, .slice Q b f] 27)).alloc (.cells #[.slice P2 a2 e2, .slice Q2 b2 f2] 27))) := gal (gal (Kp.alloc_ _ _) _) _
 clear C hna hnb hg ha hb ha2 hb2 hox hoy hnx hny L1 L2 L3 ST SG SH SO BG BH hnode hbx hby h1 h2 hD hmo
 obtain ⟨mv, hmv⟩ := eX (movesB op)
 have HMV := lH hmv
 have HMT : Hid (mv = true) := hmv.trans HMO.out
 clear hmv
 go_enter Tryz.func4, Tryz.ntmps4
 go_wp2_with fail
 refine (HAW.out _).mono ?_; rintro e0 w1 ⟨rfl, k_⟩
 have K := lH (K0.out.tr k_)
 have F4 := lH (F4.out.kp k_)
 have F6 := lH (F6.out.kp k_)
 have F7 := lH (F7.out.kp k_)
 have n0 := F4.out.c0
 have n1 := F4.out.c1
 have n2 := F4.out.c2
 clear k_
 go_upto_region 2 with fail
 go_cut [10] (fun v wx => v = .bool mv ∧ wx = w1)
 case first =>
  have hm := HMV.out
  unfold movesB at hm
  by_cases x1 : op = 10
  ·obtain rfl : mv = true := by rw [hm]; simp [x1]
   have y1 : (op == 10) = true := by simpa using x1
   clear hm x1
   go_wp2
   go_meet
   exact ⟨rfl, rfl⟩
  ·by_cases x2 : op = 11
   ·obtain rfl : mv = true := by rw [hm]; simp [x2]
    have y1 : (op == 10) = false := by simpa using x1
    have y2 : (op == 11) = true := by simpa using x2
    clear hm x1 x2
    go_wp2
    go_meet
    exact ⟨rfl, rfl⟩
   ·by_cases x3 : op = 20
    ·obtain rfl : mv = true := by rw [hm]; simp [x3]
     have y1 : (op == 10) = false := by simpa using x1
     have y2 : (op == 11) = false := by simpa using x2
     have y3 : (op == 20) = true := by simpa using x3
     clear hm x1 x2 x3
     go_wp2
     go_meet
     exact ⟨rfl, rfl⟩
    ·by_cases x4 : 40 ≤ op
     ·by_cases x5 : op ≤ 50
      ·obtain rfl : mv = true := by rw [hm]; simp [x4, x5]
       have y1 : (op == 10) = false := by simpa using x1
       have y2 : (op == 11) = false := by simpa using x2
       have y3 : (op == 20) = false := by simpa using x3
       clear hm x1 x2 x3
       go_wp2
       go_meet
       exact ⟨rfl, rfl⟩
      ·obtain rfl : mv = false := by rw [hm]; simp; omega
       have y1 : (op == 10) = false := by simpa using x1
       have y2 : (op == 11) = false := by simpa using x2
       have y3 : (op == 20) = false := by simpa using x3
       have y4 : (op == 21) = false := by rw [beq_eq_false_iff_ne]; omega
       clear hm x1 x2 x3
       go_wp2
       go_meet
       exact ⟨rfl, rfl⟩
     ·have y1 : (op == 10) = false := by simpa using x1
      have y2 : (op == 11) = false := by simpa using x2
      have y3 : (op == 20) = false := by simpa using x3
      by_cases x6 : op = 21
      ·obtain rfl : mv = true := by rw [hm]; simp [x6]
       have y4 : (op == 21) = true := by simpa using x6
       clear hm x1 x2 x3 x6
       go_wp2
       go_meet
       exact ⟨rfl, rfl⟩
      ·obtain rfl : mv = false := by rw [hm]; simp; omega
       have y4 : (op == 21) = false := by simpa using x6
       clear hm x1 x2 x3 x6
       go_wp2
       go_meet
       exact ⟨rfl, rfl⟩
 case rest =>
  obtain ⟨rfl, hwc⟩ := hcut
  subst hwc
  obtain rfl : mv = true := HMT.out
  clear HMT HMV HAW
  go_wp2_with fail
  refine (H3.out _ K.out).mono ?_; rintro e0 w2 ⟨rfl, k_⟩
  have K := lH (K.out.tr k_)
  have F4 := lH (F4.out.kp k_)
  have F6 := lH (F6.out.kp k_)
  have F7 := lH (F7.out.kp k_)
  have p0 := F6.out.c0
  have p1 := F6.out.c1
  clear k_ n0 n1 n2
  go_wp2_with fail
  refine (H4.out _ K.out).mono ?_; rintro e0 w3 ⟨rfl, k_⟩
  have K := lH (K.out.tr k_)
  have F4 := lH (F4.out.kp k_)
  have F6 := lH (F6.out.kp k_)
  have F7 := lH (F7.out.kp k_)
  have p2 := F7.out.c0
  have p3 := F7.out.c1
  clear k_ p0 p1
  go_wp2_with fail
  refine (H5.out _ K.out).mono ?_; rintro e0 w4 ⟨rfl, k_⟩
  have K := lH (K.out.tr k_)
  have F4 := lH (F4.out.kp k_)
  have F6 := lH (F6.out.kp k_)
  have F7 := lH (F7.out.kp k_)
  have n0 := F4.out.c0
  have n1 := F4.out.c1
  have n2 := F4.out.c2
  clear k_ p2 p3 H3 H4 H5
  go_wp2_with fail
  refine (HC.out.node PA PN none none none S na nb ca cb 0 0 0 0 g h 0 0 (op, la, ns) eT out ts [] er ox oy _ (RP.out.kp K.out) (RN.out.kp K.out) Lna.out Lnb.out (by rw [Lna.out]; exact HSS.out.2.2.2.2.1) (by rw [Lnb.out]; exact HSS.out.2.2.2.2.2.1) (by omega) (by omega) HSS.out.2.2.2.1 (RT.out.kp K.out) HSS.out.2.2.2.2.2.2.1 HSS.out.2.2.2.2.2.2.2 HSS.out.1 Lg.out ⟨⟨Rd.nil _ _, Rd.nil _ _⟩, ⟨by decide, by decide⟩, ⟨by decide, by decide⟩⟩ sm_e rfl rfl (RdX.nil_ _ _ _) (by decide) (by decide) sm_none rfl HN.out Lox.out.symm Loy.out.symm).mono ?_; rintro e0 w5 ⟨P4, c4, Q4, d4, rfl, r4, k_⟩
  have KX : Hid (Kp w4 (w5.alloc (.cells #[.slice P4 ox c4, .slice Q4 oy d4] 27))) := gal k_ _
  have F11 : Hid (Bk (w5.alloc (.cells #[.slice P4 ox c4, .slice Q4 oy d4] 27)) w5.heap.size P4 ox c4 Q4 oy d4) := Bk.new rfl
  have r4 := lH (r4.out.kp (Kp.alloc_ w5 (.cells #[.slice P4 ox c4, .slice Q4 oy d4] 27)))
  have K := lH (K.out.tr KX.out)
  have F4 := lH (F4.out.kp KX.out)
  have F6 := lH (F6.out.kp KX.out)
  have F7 := lH (F7.out.kp KX.out)
  replace n0 := F4.out.c0
  replace n1 := F4.out.c1
  replace n2 := F4.out.c2
  have p0 := F6.out.c0
  have p1 := F6.out.c1
  have p4 := F11.out.c0
  have p5 := F11.out.c1
  clear k_ K0
  go_wp2_with fail
  refine (HC.out.back PA PN P4 Q4 P Q S na nb ca cb ox oy c4 d4 a b e f g h (op, la, ns) out tg ts xs fx nx _ (RP.out.kp K.out) (RN.out.kp K.out) Lna.out Lnb.out (by rw [Lna.out]; exact HSS.out.2.2.2.2.1) (by rw [Lnb.out]; exact HSS.out.2.2.2.2.2.1) (by omega) (by omega) HSS.out.2.2.2.1 (RT.out.kp K.out) HSS.out.2.2.2.2.2.2.1 HSS.out.2.2.2.2.2.2.2 HSS.out.1 Lg.out r4.out HSS.out.2.2.1 Lox.out Loy.out (RG.out.kp K.out) HSS.out.2.1 La.out Lb.out HBX.out Lnx.out.symm).mono ?_; rintro e0 w6 ⟨A6, c6, rfl, r6, l6, k_⟩
  have K := lH (K.out.tr k_)
  have r4 := lH (r4.out.kp k_)
  have F4 := lH (F4.out.kp k_)
  have F6 := lH (F6.out.kp k_)
  have F7 := lH (F7.out.kp k_)
  have F11 := lH (F11.out.kp k_)
  replace n0 := F4.out.c0
  replace n1 := F4.out.c1
  replace n2 := F4.out.c2
  have p2 := F7.out.c0
  have p3 := F7.out.c1
  replace p4 := F11.out.c0
  replace p5 := F11.out.c1
  clear k_ p0 p1
  go_wp2_with fail
  refine (HC.out.back PA PN P4 Q4 P2 Q2 S na nb ca cb ox oy c4 d4 a2 b2 e2 f2 g h (op, la, ns) out th ts ys fy ny _ (RP.out.kp K.out) (RN.out.kp K.out) Lna.out Lnb.out (by rw [Lna.out]; exact HSS.out.2.2.2.2.1) (by rw [Lnb.out]; exact HSS.out.2.2.2.2.2.1) (by omega) (by omega) HSS.out.2.2.2.1 (RT.out.kp K.out) HSS.out.2.2.2.2.2.2.1 HSS.out.2.2.2.2.2.2.2 HSS.out.1 Lg.out r4.out HSS.out.2.2.1 Lox.out Loy.out (RH.out.kp K.out) HSH.out La2.out Lb2.out HBY.out Lny.out.symm).mono ?_; rintro e0 w7 ⟨A7, c7, rfl, r7, l7, k_⟩
  have K := lH (K.out.tr k_)
  have r4 := lH (r4.out.kp k_)
  have r6 := lH (r6.out.kp k_)
  have F4 := lH (F4.out.kp k_)
  have F6 := lH (F6.out.kp k_)
  have F7 := lH (F7.out.kp k_)
  have F11 := lH (F11.out.kp k_)
  have p0 := F6.out.c0
  have p1 := F6.out.c1
  replace p2 := F7.out.c0
  replace p3 := F7.out.c1
  clear k_ p4 p5 n0 n1 n2
  by_cases he : er = 0
  ·by_cases hx : fx = 0
   ·by_cases hy : fy = 0
    ·subst he hx hy
     have hop : AddOp op := moves_add HMO.out HN.out HBX.out
     have hlen : tg.2.length = th.2.length := back_lens HBX.out HBY.out
     obtain ⟨d, hd⟩ := eX (dsum tg.2 th.2)
     have hsum : Sum2 d tg.2 th.2 := by rw [hd]; exact dsum_sum hlen
     obtain ⟨zs, hz1, hz2, hz3, hz4⟩ := back_adds hop HBX.out HBY.out hsum HBD.out.1 HBD.out.2
     have HZ := lH hz1
     have HZL := lH (And.intro hz2 hz3)
     have HZ4 := lH hz4
     have HD := lH hd
     have hd64 : N64 d := by rw [hd]; exact dsum_64 HBD.out.1 HBD.out.2
     have HZ64 : Hid (∀ z ∈ zs, N64 z.2) := by
      have h := Go.Proofs.EvM.n64_back op ns ts out (g := (tg.1, d)) hd64
      rw [hz1] at h
      exact h
     have LD : Hid (b = d.length) := by show _ = _; rw [hd, dsum_len]; exact Lb.out
     have SD : Hid (SmT (tg.1, d)) := ⟨HSS.out.2.1.1, by show d.length ≤ 100; rw [← LD.out, Lb.out]; exact HSS.out.2.1.2.1, HSS.out.2.1.2.2.1, hd64⟩
     have Z4 := lH F4.out
     have Z6 := lH F6.out
     have Z7 := lH F7.out
     have eb : b = b2 := by rw [Lb2.out, Lb.out]; exact hlen
     have en : nx = ny := by rw [Lny.out, Lnx.out]; exact hz3.symm
     subst eb en
     have hb100 : b ≤ 100 := by rw [Lb.out]; exact HSS.out.2.1.2.1
     have hnx : nx ≤ 9223372036854775807 := by rw [Lnx.out]; exact r6.out.len
     clear hop hlen hsum hz1 hz2 hz3 hz4 hd hd64
     go_wp2
     go_loopw [18] (fun i wx => ∃ (k : Nat) (D : Option Addr) (dd : Nat) (done : List Int), i = .int .i64 (k : Int) ∧ Hid (k ≤ b) ∧ Hid (done = d.take k) ∧ Hid (Bk wx w7.heap.size P a e D k dd) ∧ Hid (Own (w7.heap.size + 1) wx (.slice D k dd) done) ∧ Hid (Kp w7 wx)) (fun i _ => b - (intOf i).toNat)
     case atStart => exact ⟨0, none, 0, [], rfl, Nat.zero_le _, rfl, Bk.new rfl, Own.nil_ _ _, Kp.alloc_ _ _⟩
     case round =>
      obtain ⟨k, D, dd, done, rfl, hk, hdn, hB, hO, hKi⟩ := hrel
      have KW := lH (K.out.tr hKi.out)
      have G6 := lH (Z6.out.kp hKi.out)
      have G7 := lH (Z7.out.kp hKi.out)
      have q1 := G6.out.c1
      have q3 := G7.out.c1
      by_cases hkb : k < b
      ·have hk' : (k : Int) < (b : Int) := by omega
       have hk0 : (0 : Int) ≤ (k : Int) := by omega
       obtain ⟨ap, x, hQ, hlp, hx, hcx0⟩ := (RG.out.kp K.out).r.d.at_ (k := k) (by rw [← Lb.out]; exact hkb)
       have hcx := (hKi.out.cell (p := ap.add k) (by rw [block_of_add]; exact hlp)).trans hcx0
       obtain ⟨aq, y, hQ2, hlq, hy, hcy0⟩ := (RH.out.kp K.out).r.d.at_ (k := k) (by rw [← Lb2.out]; exact hkb)
       have hcy := (hKi.out.cell (p := aq.add k) (by rw [block_of_add]; exact hlq)).trans hcy0
       subst hQ hQ2
       have HST := lH (dsum_step hx hy)
       have bx := HBD.out.1 k
       have by_ := HBD.out.2 k
       rw [List.getD_eq_getElem?_getD, hx] at bx
       rw [List.getD_eq_getElem?_getD, hy] at by_
       simp only [Option.getD_some] at bx by_
       obtain ⟨z, hz⟩ := eX (x + y)
       have hwr : IntKind.i64.wrap (x + y) = z := by rw [hz]; exact IntWalk.i64_in _ (by omega)
       rw [← hz] at HST
       have p1 := hB.out.c1
       have q9 := hB.out.f0 1
       have p2' : (wr.alloc (.cells #[.int .i64 z] 3)).cell? ⟨w7.heap.size, 1, none⟩ = some (.slice D k dd) := (hB.out.alloc_ _).c1
       have hGs : Hid (w7.heap.size + 1 ≤ wr.heap.size) := hB.out.lt
       have hdl : done.length ≤ 100 := by rw [hdn.out, List.length_take]; omega
       have hb1 : w.heap.size + 1 < w7.heap.size + 1 := Nat.lt_succ_of_lt Z6.out.lt
       have hb2 : w.heap.size + 1 + 1 < w7.heap.size + 1 := Nat.lt_succ_of_lt Z7.out.lt
       have hb3 : ap.block < w7.heap.size + 1 := by omega
       have hb4 : aq.block < w7.heap.size + 1 := by omega
       have hn1 : w7.heap.size ≠ w.heap.size + 1 := by have := Z6.out.lt; omega
       have hn2 : w7.heap.size ≠ w.heap.size + 1 + 1 := by have := Z7.out.lt; omega
       have hn3 : w7.heap.size ≠ (ap.add k).block := by rw [block_of_add]; omega
       have hn4 : w7.heap.size ≠ (aq.add k).block := by rw [block_of_add]; omega
       clear hz hx hy bx by_ hcx0 hcy0
       go_wp2
       have HSS : Hid (∀ V, Below (w7.heap.size + 1) wr V → V.cell? ⟨w.heap.size + 1, 1, none⟩ = some (.slice (some ap) b f) ∧ V.cell? ⟨w.heap.size + 1 + 1, 1, none⟩ = some (.slice (some aq) b f2) ∧ V.cell? (ap.add k) = some (.int .i64 x) ∧ V.cell? (aq.add k) = some (.int .i64 y)) := fun V kV => ⟨(kV.cell (p := ⟨w.heap.size + 1, 1, none⟩) hb1).trans q1, (kV.cell (p := ⟨w.heap.size + 1 + 1, 1, none⟩) hb2).trans q3, (kV.cell (p := ap.add k) (by rw [block_of_add]; exact hb3)).trans hcx, (kV.cell (p := aq.add k) (by rw [block_of_add]; exact hb4)).trans hcy⟩
       have hdr12 : Below (w7.heap.size + 1) wr wr.drew := Below.drew (Below.refl _ _)
       refine wp_region_held_drew (S := fun V => V.cell? ⟨w.heap.size + 1, 1, none⟩ = some (.slice (some ap) b f) ∧ V.cell? ⟨w.heap.size + 1 + 1, 1, none⟩ = some (.slice (some aq) b f2) ∧ V.cell? (ap.add k) = some (.int .i64 x) ∧ V.cell? (aq.add k) = some (.int .i64 y)) (by kernel_rfl) (HSS.out _ hdr12) (fun hHeld => ?_)
       refine tK 0 (.pointer (some ⟨w7.heap.size, 1, none⟩)) rfl hHeld <| tK 2 (.pointer (some ⟨w.heap.size + 1, 1, none⟩)) rfl hHeld <| tK 3 (.slice (some ap) b f) rfl hHeld <| tK 4 (.int .i64 (k : Int)) rfl hHeld <| tK 5 (.pointer (some (ap.add k))) rfl hHeld <| tK 6 (.int .i64 x) rfl hHeld <| tK 7 (.pointer (some ⟨w.heap.size + 1 + 1, 1, none⟩)) rfl hHeld <| tK 8 (.slice (some aq) b f2) rfl hHeld <| tK 9 (.int .i64 (k : Int)) rfl hHeld <| tK 10 (.pointer (some (aq.add k))) rfl hHeld <| tK 11 (.int .i64 y) rfl hHeld <| tK 12 (.int .i64 z) rfl hHeld ?_
       refine wpAnyH_ready (rs := [1, 13]) (by kernel_rfl) (by simp) ?_
       refine AllReadyH.cons rfl (fun K9_ hK => ?_) ?_
       ·skip
        go_simp
        refine hK.out _ _ (HSS.out _ hdr12) fun hHeld => ?_
        clear hK
        refine rD 13 rfl fun K9_ hK => ?_
        go_simp
        refine hK.out _ _ (HSS.out _ (hdr12.alloc hGs.out _)) fun hHeld => ?_
        clear hK
        refine rD 14 rfl fun K9_ hK => ?_
        refine step_app14 rfl (.tmp 155) (.tmp 167) rfl _ done rfl (hO.out.drew.kp (Kp.alloc_ _ _)) _ _ [z] _ rfl rfl (Rd.one _ _ _) (by simp; omega) (by have := hGs.out; simp; omega) ?_
        intro z1 A1 c1 w13 HZ1 o2 b2
        have O1 := lH o2
        have HB : Hid (Below (w7.heap.size + 1) wr w13) := ((Below.drew (Below.refl _ wr)).alloc hGs.out _).trans b2
        have N8 : Hid (Bk w13 w7.heap.size P a e D k dd) := (HB.out.block w7.heap.size (Nat.lt_succ_self _)).trans hB.out
        have g4 := (HB.out.frozen (p := ⟨w7.heap.size, 1, none⟩) (Nat.lt_succ_self _)).trans q9
        have g3 := (HB.out.cell (p := ⟨w7.heap.size, 1, none⟩) (Nat.lt_succ_self _)).trans p1
        clear o2 b2
        refine hK.out _ _ (HSS.out _ HB.out) fun hHeld => ?_
        clear hK
        refine tK 15 (.pointer (some ⟨w7.heap.size, 1, none⟩)) rfl hHeld ?_
        refine rD 16 rfl fun K9_ hK => ?_
        go_simp
        refine hK.out _ _ (⟨cell_ne (fun e => hn1 (congrArg Addr.block e)) (HSS.out _ HB.out).1, cell_ne (fun e => hn2 (congrArg Addr.block e)) (HSS.out _ HB.out).2.1, cell_ne (fun e => hn3 (congrArg Addr.block e)) (HSS.out _ HB.out).2.2.1, cell_ne (fun e => hn4 (congrArg Addr.block e)) (HSS.out _ HB.out).2.2.2⟩) fun hHeld => ?_
        clear hK
        refine wpAnyH_done (by kernel_rfl) ?_ _
        have hz1 : z1 = d.take (k + 1) := by rw [HZ1.out, hdn.out, HD.out, HST.out]
        have hl1 : z1.length = k + 1 := by rw [hz1, List.length_take, ← LD.out]; omega
        have N9 : Hid (Bk (w13.setCell ⟨w7.heap.size, 1, none⟩ (.slice A1 z1.length c1)) w7.heap.size P a e A1 (k + 1) c1) := by rw [← hl1]; exact heap_set N8.out 1 _
        have O9 : Hid (Own (w7.heap.size + 1) (w13.setCell ⟨w7.heap.size, 1, none⟩ (.slice A1 z1.length c1)) (.slice A1 (k + 1) c1) z1) := by rw [← hl1]; exact O1.out.of_block fun g hg => Below.heap_setCell _ _ _ g (by have := O1.out.from_ hg; show g ≠ w7.heap.size; omega)
        have K9 : Hid (Kp w7 (w13.setCell ⟨w7.heap.size, 1, none⟩ (.slice A1 z1.length c1))) := (hKi.out.trans (HB.out.mono (Nat.le_succ _))).setCell (p := ⟨w7.heap.size, 1, none⟩) (Nat.le_refl _) _
        have HZ9 : Hid (z1 = d.take (k + 1)) := hz1
        clear hz1 hl1
        go_wp2
        go_roundw
        case rel => exact ⟨k + 1, A1, c1, z1, by go_num, (by show k + 1 ≤ b; omega), HZ9.out, N9.out, O9.out, K9.out⟩
        case measure => simp [intOf]; omega
       refine AllReadyH.cons rfl (fun K9_ hK => ?_) AllReadyH.nil
       go_simp
       refine hK.out _ _ (HSS.out _ (hdr12.alloc hGs.out _)) fun hHeld => ?_
       clear hK
       refine rD 1 rfl fun K9_ hK => ?_
       go_simp
       refine hK.out _ _ (HSS.out _ (hdr12.alloc hGs.out _)) fun hHeld => ?_
       clear hK
       refine rD 14 rfl fun K9_ hK => ?_
       refine step_app14 rfl (.tmp 155) (.tmp 167) rfl _ done rfl (hO.out.drew.kp (Kp.alloc_ _ _)) _ _ [z] _ rfl rfl (Rd.one _ _ _) (by simp; omega) (by have := hGs.out; simp; omega) ?_
       intro z1 A1 c1 w13 HZ1 o2 b2
       have O1 := lH o2
       have HB : Hid (Below (w7.heap.size + 1) wr w13) := ((Below.drew (Below.refl _ wr)).alloc hGs.out _).trans b2
       have N8 : Hid (Bk w13 w7.heap.size P a e D k dd) := (HB.out.block w7.heap.size (Nat.lt_succ_self _)).trans hB.out
       have g4 := (HB.out.frozen (p := ⟨w7.heap.size, 1, none⟩) (Nat.lt_succ_self _)).trans q9
       have g3 := (HB.out.cell (p := ⟨w7.heap.size, 1, none⟩) (Nat.lt_succ_self _)).trans p1
       clear o2 b2
       refine hK.out _ _ (HSS.out _ HB.out) fun hHeld => ?_
       clear hK
       refine tK 15 (.pointer (some ⟨w7.heap.size, 1, none⟩)) rfl hHeld ?_
       refine rD 16 rfl fun K9_ hK => ?_
       go_simp
       refine hK.out _ _ (⟨cell_ne (fun e => hn1 (congrArg Addr.block e)) (HSS.out _ HB.out).1, cell_ne (fun e => hn2 (congrArg Addr.block e)) (HSS.out _ HB.out).2.1, cell_ne (fun e => hn3 (congrArg Addr.block e)) (HSS.out _ HB.out).2.2.1, cell_ne (fun e => hn4 (congrArg Addr.block e)) (HSS.out _ HB.out).2.2.2⟩) fun hHeld => ?_
       clear hK
       refine wpAnyH_done (by kernel_rfl) ?_ _
       have hz1 : z1 = d.take (k + 1) := by rw [HZ1.out, hdn.out, HD.out, HST.out]
       have hl1 : z1.length = k + 1 := by rw [hz1, List.length_take, ← LD.out]; omega
       have N9 : Hid (Bk (w13.setCell ⟨w7.heap.size, 1, none⟩ (.slice A1 z1.length c1)) w7.heap.size P a e A1 (k + 1) c1) := by rw [← hl1]; exact heap_set N8.out 1 _
       have O9 : Hid (Own (w7.heap.size + 1) (w13.setCell ⟨w7.heap.size, 1, none⟩ (.slice A1 z1.length c1)) (.slice A1 (k + 1) c1) z1) := by rw [← hl1]; exact O1.out.of_block fun g hg => Below.heap_setCell _ _ _ g (by have := O1.out.from_ hg; show g ≠ w7.heap.size; omega)
       have K9 : Hid (Kp w7 (w13.setCell ⟨w7.heap.size, 1, none⟩ (.slice A1 z1.length c1))) := (hKi.out.trans (HB.out.mono (Nat.le_succ _))).setCell (p := ⟨w7.heap.size, 1, none⟩) (Nat.le_refl _) _
       have HZ9 : Hid (z1 = d.take (k + 1)) := hz1
       clear hz1 hl1
       go_wp2
       go_roundw
       case rel => exact ⟨k + 1, A1, c1, z1, by go_num, (by show k + 1 ≤ b; omega), HZ9.out, N9.out, O9.out, K9.out⟩
       case measure => simp [intOf]; omega
      ·have ekb : b = k := by have := hk.out; omega
       subst ekb
       have edn : d = done := by rw [hdn.out, LD.out, List.take_length]
       subst edn
       have hjb : ¬ (b : Int) < (b : Int) := by omega
       have G4 := lH (Z4.out.kp hKi.out)
       have G11 := lH (F11.out.kp hKi.out)
       have n0 := G4.out.c0
       have n1 := G4.out.c1
       have n2 := G4.out.c2
       have p4 := G11.out.c0
       have p5 := G11.out.c1
       have r0 := hB.out.c0
       have r1 := hB.out.c1
       have rq := lH (r4.out.kp hKi.out)
       have RB : Hid (TRc wr P e D dd (tg.1, d)) := ⟨⟨(RG.out.kp KW.out).r.s, hO.out.sl.rd⟩, RG.out.c1, ⟨hO.out.sl.le, hO.out.sl.cap⟩⟩
       clear hkb
       go_wp2_with fail
       refine (HC.out.back PA PN P4 Q4 P D S na nb ca cb ox oy c4 d4 a b e dd g h (op, la, ns) out (tg.1, d) ts zs 0 nx _ (RP.out.kp KW.out) (RN.out.kp KW.out) Lna.out Lnb.out (by rw [Lna.out]; exact HSS.out.2.2.2.2.1) (by rw [Lnb.out]; exact HSS.out.2.2.2.2.2.1) (by omega) (by omega) HSS.out.2.2.2.1 (RT.out.kp KW.out) HSS.out.2.2.2.2.2.2.1 HSS.out.2.2.2.2.2.2.2 HSS.out.1 Lg.out rq.out HSS.out.2.2.1 Lox.out Loy.out RB.out SD.out La.out LD.out HZ.out (HZL.out.1.trans Lnx.out.symm)).mono ?_; rintro e0 w9 ⟨A9, c9, rfl, r9, l9, k_⟩
       have K9 := lH (KW.out.tr k_)
       have M9 : Hid (Kp w7 w9) := hKi.out.tr k_
       have rx := lH (r6.out.kp M9.out)
       have ry := lH (r7.out.kp M9.out)
       clear k_ n0 n1 n2 p4 p5 r0 r1 q1 q3
       go_wp2
       go_loopw [21] (fun i wx => ∃ j : Nat, i = .int .i64 (j : Int) ∧ Hid (j ≤ nx) ∧ Hid (Kp w9 wx)) (fun i _ => nx - (intOf i).toNat)
       case atStart => exact ⟨0, rfl, Nat.zero_le _, Kp.refl _⟩
       case round =>
        obtain ⟨j, rfl, hj1, hKj⟩ := hrel
        obtain ⟨wq, hwq⟩ := eX (wr)
        subst hwq
        by_cases hjx : j < nx
        ·have hj2 : (j : Int) < (nx : Int) := by omega
         obtain ⟨az, zt, P3, c3, Q3, d3, hEz, hlz, hzt, t1, t2, hRz⟩ := trc_at (r9.out.kp hKj.out) (k := j) (by rw [HZL.out.1, ← Lnx.out]; exact hjx)
         obtain ⟨xt, yt, hxt, hyt, hsm⟩ := HZ4.out j zt hzt
         obtain ⟨ax, xt', Px, cx, Qx, dx, hEx, hlx, hxt', s1, s2, hRx⟩ := trc_at (rx.out.kp hKj.out) (k := j) (by rw [← Lnx.out]; exact hjx)
         obtain ⟨ay, yt', Py, cy, Qy, dy, hEy, hly, hyt', u1, u2, hRy⟩ := trc_at (ry.out.kp hKj.out) (k := j) (by rw [HZL.out.2, ← Lnx.out]; exact hjx)
         have ex : xt = xt' := by rw [hxt] at hxt'; injection hxt'
         have ey : yt = yt' := by rw [hyt] at hyt'; injection hyt'
         subst ex ey
         have HZ6 := lH (HZ64.out zt (List.mem_of_getElem? hzt))
         obtain ⟨m, hm⟩ := eX (zt.2.length)
         have Lm : Hid (m = zt.2.length) := hm
         rw [← hm] at t2
         rw [← hsm.1, ← hm] at s2
         rw [← hsm.2.1, ← hm] at u2
         have bm : m ≤ 9223372036854775807 := by rw [hm]; exact hRz.r.d.len
         have HSM := lH hsm
         have RZd := lH hRz.r.d
         have RXd := lH hRx.r.d
         have RYd := lH hRy.r.d
         subst hEz hEx hEy
         have HQ : Hid (∀ V, Kp wq V → V.cell? ⟨(az.add (j * 2)).block, (az.add (j * 2)).off + 1, none⟩ = some (.slice Q3 m d3) ∧ V.cell? ⟨(ax.add (j * 2)).block, (ax.add (j * 2)).off + 1, none⟩ = some (.slice Qx m dx) ∧ V.cell? ⟨(ay.add (j * 2)).block, (ay.add (j * 2)).off + 1, none⟩ = some (.slice Qy m dy)) := fun V kV =>
          ⟨(kV.cell (p := ⟨(az.add (j * 2)).block, (az.add (j * 2)).off + 1, none⟩) (by show (az.add (j * 2)).block < _; rw [block_of_add]; exact hlz)).trans t2, (kV.cell (p := ⟨(ax.add (j * 2)).block, (ax.add (j * 2)).off + 1, none⟩) (by show (ax.add (j * 2)).block < _; rw [block_of_add]; exact hlx)).trans s2, (kV.cell (p := ⟨(ay.add (j * 2)).block, (ay.add (j * 2)).off + 1, none⟩) (by show (ay.add (j * 2)).block < _; rw [block_of_add]; exact hly)).trans u2⟩
         clear hm hsm hzt hxt hyt hxt' hyt' t1 s1 u1 hRz hRx hRy hlz hlx hly
         go_wp2_with fail
         go_quiet (fail)
         obtain ⟨wo, hwo⟩ := eX (wq.drewN nq)
         have KO : Hid (Kp wq wo) := by show Kp _ _; rw [hwo]; exact Kp.drewN_ _ _
         rw [← hwo]
         clear hwo t2 s2 u2
         go_wp2
         go_loopw [22] (fun i wx => ∃ p : Nat, i = .int .i64 (p : Int) ∧ Hid (p ≤ m) ∧ Hid (Kp wo wx)) (fun i _ => m - (intOf i).toNat)
         case atStart => exact ⟨0, rfl, Nat.zero_le _, Kp.refl _⟩
         case round =>
          obtain ⟨p, rfl, hp, hKp⟩ := hrel
          have KR := lH (KO.out.tr hKp.out)
          obtain ⟨e1, e2_, e3⟩ := HQ.out _ KR.out
          by_cases hpm : p < m
          ·have hp1 : (p : Int) < (m : Int) := by omega
           obtain ⟨bz, zv, hBz, hlbz, hzv, hcz⟩ := (RZd.out.kp KR.out).at_ (k := p) (by rw [← Lm.out]; exact hpm)
           obtain ⟨bx, xv, hBx, hlbx, hxv, hcx⟩ := (RXd.out.kp KR.out).at_ (k := p) (by rw [← HSM.out.1, ← Lm.out]; exact hpm)
           obtain ⟨by_, yv, hBy, hlby, hyv, hcy⟩ := (RYd.out.kp KR.out).at_ (k := p) (by rw [← HSM.out.2.1, ← Lm.out]; exact hpm)
           subst hBz hBx hBy
           have hsv : zv = xv + yv := by
            have h := HSM.out.2.2 p
            rw [List.getD_eq_getElem?_getD, List.getD_eq_getElem?_getD, List.getD_eq_getElem?_getD, hzv, hxv, hyv] at h
            exact h
           obtain ⟨hz1, hz2⟩ : -9223372036854775808 ≤ zv ∧ zv ≤ 9223372036854775807 := HZ6.out zv (List.mem_of_getElem? hzv)
           have hwr : IntKind.i64.wrap (xv + yv) = zv := by rw [← hsv]; exact IntWalk.i64_in _ (by omega)
           clear hsv hzv hxv hyv hz1 hz2
           go_wp2_with fail
           go_quiet (fail)
           go_wp2
           go_roundw
           case rel => exact ⟨p + 1, by go_num, (by show p + 1 ≤ m; omega), hKp.out.tr (Kp.drewN_ _ _)⟩
           case measure => simp [intOf]; omega
          ·have hp1 : ¬ (p : Int) < (m : Int) := by omega
           go_wp2
           go_roundw
           case rel => exact ⟨j + 1, by go_num, (by show j + 1 ≤ nx; omega), hKj.out.tr KR.out⟩
           case measure => simp [intOf]; omega
        ·have hj2 : ¬ (j : Int) < (nx : Int) := by omega
         go_wp2
         go_ret
         exact ⟨rfl, K9.out.tr hKj.out⟩
    ·have x3 : (fy != 0) = true := by simpa using hy
     have x1 : (er != 0) = false := by simpa using he
     have x2 : (fx != 0) = false := by simpa using hx
     clear he hx hy
     go_wp2
     go_ret
     exact ⟨rfl, K.out⟩
   ·have x2 : (fx != 0) = true := by simpa using hx
    have x1 : (er != 0) = false := by simpa using he
    clear he hx
    go_wp2
    go_ret
    exact ⟨rfl, K.out⟩
  ·have x1 : (er != 0) = true := by simpa using he
   clear he
   go_wp2
   go_ret
   exact ⟨rfl, K.out⟩
end Go.Proofs.YtjkdcegmdfmjpaaGreat
