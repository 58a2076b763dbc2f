/- The landed eval: the rules, as a map; which rule stands at an op, and what it answers. -/
import Derived.Test.YtdbncanedokinaaGreatEvZc
set_option maxRecDepth 100000
namespace Go.Proofs.YtdbncanedokinaaGreat.Ez
open Go.RowKit Go.Proofs.ShM Go.Proofs.GrM Go.Proofs.InM Go.Proofs.ImM Go.Proofs.FixM Go.Proofs.EvM Go.Proofs.YtdbncanedokinaaGreat.Gz
set_option linter.unusedVariables false
set_option linter.unusedSimpArgs false

theorem wpList_insE {W : World} {g : Nat} {L : List (Int × Value)} {ops : Array Oper} {rest : List Oper} {o : Oper} {a : Act} {Q : Exit → Act → World → Prop} (hg : o.guard = none) (m x v : Operand)
    (hop : o.op = Op.insert 60 m x v) (k : Int) (val : Value) (hm : a.eval m = .map (some g)) (hx : a.eval x = .int .i64 k) (hv : a.eval v = val) (h : Md W g L) (hn : atM L k = none)
    (hK : ∀ W', Md W' g (L ++ [(k, val)]) → (∀ B, B ≤ g → Below B W W') → wpList Tryz.prog ops Q rest (a.put o.dst undef) W') : wpList Tryz.prog ops Q (o :: rest) a W := by
  refine wpList_plain hg fun K' hK' => ?_
  obtain ⟨W', hrun, r1, r2⟩ := h.put Tryz.underlying60 Tryz.underlying3 hn val
  unfold Oper.wp
  simp [execOp, hop, hm, hx, hv, hrun, Result.andThen]
  exact hK' _ _ (hK W' r1 r2)
/-- The rules, by op. -/
def ruE (pj pn pa pb : Value) : List (Int × Value) :=
  [(1, .func (.func 39) #[] #[pj]), (2, .func (.func 41) #[] #[pj, pn]), (3, .func (.func 43) #[] #[pn]), (10, .func (.func 37) #[] #[pj, pa, pb]), (11, .func (.func 37) #[] #[pj, pa, pb]), (12, .func (.func 37) #[] #[pj, pa, pb]), (13, .func (.func 37) #[] #[pj, pa, pb]), (20, .func (.func 34) #[] #[pj, pa]), (21, .func (.func 34) #[] #[pj, pa]), (22, .func (.func 34) #[] #[pj, pa]), (23, .func (.func 34) #[] #[pj, pa]), (30, .func (.func 45) #[] #[pa, pb]), (40, .func (.func 47) #[] #[pa, pn]), (41, .func (.func 49) #[] #[pa]), (42, .func (.func 51) #[] #[pa, pn]), (43, .func (.func 53) #[] #[pa, pb, pn]), (50, .func (.func 55) #[] #[pa, pn]), (51, .func (.func 57) #[] #[pa, pn]), (52, .func (.func 59) #[] #[pa, pn])]

set_option maxHeartbeats 16000000 in
theorem rules_e (op : Int) (P Q A1 A2 B1 B2 I1 I2 R S : Option Addr) (nP cP m d n1 a1 n2 a2 m1 b1 m2 b2 k1 i1 k2 i2 kr rc ks sc : Nat) (w : World) :
    Calls Tryz.prog 24 #[.agg #[.int .i64 op, .slice P nP cP, .slice Q m d, .slice A1 n1 a1, .slice A2 n2 a2, .slice B1 m1 b1, .slice B2 m2 b2, .slice I1 k1 i1, .slice I2 k2 i2, .slice R kr rc, .slice S ks sc]] w fun e0 w' => ∃ g bn ba bb, e0 = .returned (.map (some g)) ∧ Md w' g (ruE (.pointer (some ⟨w.heap.size, 0, none⟩)) (.pointer (some ⟨bn, 0, none⟩)) (.pointer (some ⟨ba, 0, none⟩)) (.pointer (some ⟨bb, 0, none⟩))) ∧ Hid (Kp w w') ∧
      Hid (Bx w' w.heap.size [.int .i64 op, .slice P nP cP, .slice Q m d, .slice A1 n1 a1, .slice A2 n2 a2, .slice B1 m1 b1, .slice B2 m2 b2, .slice I1 k1 i1, .slice I2 k2 i2, .slice R kr rc, .slice S ks sc] 63) ∧ Hid (Bx w' bn [.slice Q m d] 23) ∧ Hid (Bx w' ba [.slice A1 n1 a1, .slice A2 n2 a2] 25) ∧ Hid (Bx w' bb [.slice B1 m1 b1, .slice B2 m2 b2] 25) := by
  obtain ⟨w1, hw1⟩ : ∃ w1, w1 = w.alloc (.cells #[.int .i64 op, .slice P nP cP, .slice Q m d, .slice A1 n1 a1, .slice A2 n2 a2, .slice B1 m1 b1, .slice B2 m2 b2, .slice I1 k1 i1, .slice I2 k2 i2, .slice R kr rc, .slice S ks sc] 63) := ⟨_, rfl⟩
  have BJ : Hid (Bx w1 w.heap.size [.int .i64 op, .slice P nP cP, .slice Q m d, .slice A1 n1 a1, .slice A2 n2 a2, .slice B1 m1 b1, .slice B2 m2 b2, .slice I1 k1 i1, .slice I2 k2 i2, .slice R kr rc, .slice S ks sc] 63) := by rw [hw1]; exact Bx.new rfl
  have K1 : Hid (Kp w w1) := by rw [hw1]; exact Kp.alloc_ _ _
  have HW1 := Lib.hid hw1
  have hmm := @run_makeMap Tryz.prog
  have hmf : ∀ (fn : Fn) (first cap : Array Value) (w : World), (Instr.makeFunc fn first cap).run Tryz.prog w = .ok (.func fn first cap) w := fun _ _ _ _ => rfl
  clear hw1
  go_enter Tryz.func24, Tryz.ntmps24
  go_wp2_with fail
  rw [← HW1.out]
  clear hmm
  go_cut [3, 4, 5] (fun v3 v4 v5 wx => ∃ bn ba bb, v3 = .pointer (some ⟨bn, 0, none⟩) ∧ v4 = .pointer (some ⟨ba, 0, none⟩) ∧ v5 = .pointer (some ⟨bb, 0, none⟩) ∧ Hid (Bx wx bn [.slice Q m d] 23) ∧ Hid (Bx wx ba [.slice A1 n1 a1, .slice A2 n2 a2] 25) ∧ Hid (Bx wx bb [.slice B1 m1 b1, .slice B2 m2 b2] 25) ∧ Hid (Kp w1 wx))
  case first =>
    have HSS : Hid (∀ V, Kp w1 V → V.cell? ⟨w.heap.size, 2, none⟩ = some (.slice Q m d) ∧ V.cell? ⟨w.heap.size, 3, none⟩ = some (.slice A1 n1 a1) ∧ V.cell? ⟨w.heap.size, 4, none⟩ = some (.slice A2 n2 a2) ∧ V.cell? ⟨w.heap.size, 5, none⟩ = some (.slice B1 m1 b1) ∧ V.cell? ⟨w.heap.size, 6, none⟩ = some (.slice B2 m2 b2)) := fun V kV => ⟨(BJ.out.kp kV).cell (j := 2) rfl, (BJ.out.kp kV).cell (j := 3) rfl, (BJ.out.kp kV).cell (j := 4) rfl, (BJ.out.kp kV).cell (j := 5) rfl, (BJ.out.kp kV).cell (j := 6) rfl⟩
    refine wp_region_held_drew (S := fun V => V.cell? ⟨w.heap.size, 2, none⟩ = some (.slice Q m d) ∧ V.cell? ⟨w.heap.size, 3, none⟩ = some (.slice A1 n1 a1) ∧ V.cell? ⟨w.heap.size, 4, none⟩ = some (.slice A2 n2 a2) ∧ V.cell? ⟨w.heap.size, 5, none⟩ = some (.slice B1 m1 b1) ∧ V.cell? ⟨w.heap.size, 6, none⟩ = some (.slice B2 m2 b2)) (by kernel_rfl) (HSS.out _ (Below.drew (Kp.refl _))) (fun hHeld => ?_)
    have X0 : Hid (Kp w1 w1.drew) := Below.drew (Kp.refl _)
    generalize w1.drew = V0 at X0 hHeld ⊢
    try simp only [Act.put, List.setIfInBounds_toArray, List.set_cons_zero, List.set_cons_succ]
    refine wpAnyH_take (i := 0) (v := .pointer (some ⟨w.heap.size, 0, none⟩)) rfl (by kernel_rfl) (by kernel_rfl) (by kernel_rfl) (fun _ _ _ h => h) (Or.inl ⟨by kernel_rfl, fun V hSV => ?_⟩) hHeld ?_
    · (try dsimp only at hSV); go_simp
    try simp only [Act.put, List.setIfInBounds_toArray, List.set_cons_zero, List.set_cons_succ]
    refine wpAnyH_take (i := 1) (v := .pointer (some ⟨w.heap.size, 2, none⟩)) rfl (by kernel_rfl) (by kernel_rfl) (by kernel_rfl) (fun _ _ _ h => h) (Or.inl ⟨by kernel_rfl, fun V hSV => ?_⟩) hHeld ?_
    · (try dsimp only at hSV); go_simp
    try simp only [Act.put, List.setIfInBounds_toArray, List.set_cons_zero, List.set_cons_succ]
    refine wpAnyH_take (i := 2) (v := .slice Q m d) rfl (by kernel_rfl) (by kernel_rfl) (by kernel_rfl) (fun _ _ _ h => h) (Or.inl ⟨by kernel_rfl, fun V hSV => ?_⟩) hHeld ?_
    · (try dsimp only at hSV); go_simp
    try simp only [Act.put, List.setIfInBounds_toArray, List.set_cons_zero, List.set_cons_succ]
    refine wpAnyH_take (i := 3) (v := .pointer (some ⟨w.heap.size, 3, none⟩)) rfl (by kernel_rfl) (by kernel_rfl) (by kernel_rfl) (fun _ _ _ h => h) (Or.inl ⟨by kernel_rfl, fun V hSV => ?_⟩) hHeld ?_
    · (try dsimp only at hSV); go_simp
    try simp only [Act.put, List.setIfInBounds_toArray, List.set_cons_zero, List.set_cons_succ]
    refine wpAnyH_take (i := 4) (v := .agg #[.slice A1 n1 a1, .slice A2 n2 a2]) rfl (by kernel_rfl) (by kernel_rfl) (by kernel_rfl) (fun _ _ _ h => h) (Or.inl ⟨by kernel_rfl, fun V hSV => ?_⟩) hHeld ?_
    · (try dsimp only at hSV); go_simp
    try simp only [Act.put, List.setIfInBounds_toArray, List.set_cons_zero, List.set_cons_succ]
    refine wpAnyH_take (i := 5) (v := .pointer (some ⟨w.heap.size, 5, none⟩)) rfl (by kernel_rfl) (by kernel_rfl) (by kernel_rfl) (fun _ _ _ h => h) (Or.inl ⟨by kernel_rfl, fun V hSV => ?_⟩) hHeld ?_
    · (try dsimp only at hSV); go_simp
    try simp only [Act.put, List.setIfInBounds_toArray, List.set_cons_zero, List.set_cons_succ]
    refine wpAnyH_take (i := 6) (v := .agg #[.slice B1 m1 b1, .slice B2 m2 b2]) rfl (by kernel_rfl) (by kernel_rfl) (by kernel_rfl) (fun _ _ _ h => h) (Or.inl ⟨by kernel_rfl, fun V hSV => ?_⟩) hHeld ?_
    · (try dsimp only at hSV); go_simp
    try simp only [Act.put, List.setIfInBounds_toArray, List.set_cons_zero, List.set_cons_succ]
    refine wpAnyH_ready (rs := [7, 8, 9]) (by kernel_rfl) (by simp) ?_
    refine AllReadyH.cons rfl (fun K9_ hK => ?o7) (AllReadyH.cons rfl (fun K9_ hK => ?o8) (AllReadyH.cons rfl (fun K9_ hK => ?o9) AllReadyH.nil))
    case' o7 =>
      go_simp
      refine hK.out _ _ ?_ (fun hHeld => ?_)
      · exact HSS.out _ (X0.out.tr (Kp.alloc_ _ _))
      clear hK
      try simp only [Act.put, List.setIfInBounds_toArray, List.set_cons_zero, List.set_cons_succ]
      have Y7 : Hid (Bx (V0.alloc (.cells #[.slice none 0 0] 23)) V0.heap.size [.slice none 0 0] 23) := Bx.new rfl
      have X1 : Hid (Kp w1 (V0.alloc (.cells #[.slice none 0 0] 23))) := X0.out.tr (Kp.alloc_ _ _)
      have G7 : Hid (w1.heap.size ≤ V0.heap.size) := X0.out.size
      generalize V0.alloc (.cells #[.slice none 0 0] 23) = V1 at X1 Y7 hHeld ⊢
      generalize V0.heap.size = bn at Y7 G7  ⊢
      clear X0
      refine wpAnyH_ready (rs := [8, 9]) (by kernel_rfl) (by simp) ?_
      refine AllReadyH.cons rfl (fun K9_ hK => ?o78) (AllReadyH.cons rfl (fun K9_ hK => ?o79) AllReadyH.nil)
      case' o78 =>
        go_simp
        refine hK.out _ _ ?_ (fun hHeld => ?_)
        · exact HSS.out _ (X1.out.tr (Kp.alloc_ _ _))
        clear hK
        try simp only [Act.put, List.setIfInBounds_toArray, List.set_cons_zero, List.set_cons_succ]
        have Y8 : Hid (Bx (V1.alloc (.cells #[.slice none 0 0, .slice none 0 0] 25)) V1.heap.size [.slice none 0 0, .slice none 0 0] 25) := Bx.new rfl
        have X2 : Hid (Kp w1 (V1.alloc (.cells #[.slice none 0 0, .slice none 0 0] 25))) := X1.out.tr (Kp.alloc_ _ _)
        have G8 : Hid (w1.heap.size ≤ V1.heap.size) := X1.out.size
        have N78 : Hid (bn ≠ V1.heap.size) := by have := Y7.out.lt; show _ ≠ _; omega
        replace Y7 := Lib.hid (Y7.out.kp (Kp.alloc_ V1 (.cells #[.slice none 0 0, .slice none 0 0] 25)))
        generalize V1.alloc (.cells #[.slice none 0 0, .slice none 0 0] 25) = V2 at X2 Y7 Y8 hHeld ⊢
        generalize V1.heap.size = ba at Y8 G8 N78 ⊢
        clear X1
        refine wpAnyH_ready (rs := [9]) (by kernel_rfl) (by simp) ?_
        refine AllReadyH.cons rfl (fun K9_ hK => ?_) AllReadyH.nil
        go_simp
        refine hK.out _ _ ?_ (fun hHeld => ?_)
        · exact HSS.out _ (X2.out.tr (Kp.alloc_ _ _))
        clear hK
        try simp only [Act.put, List.setIfInBounds_toArray, List.set_cons_zero, List.set_cons_succ]
        have Y9 : Hid (Bx (V2.alloc (.cells #[.slice none 0 0, .slice none 0 0] 25)) V2.heap.size [.slice none 0 0, .slice none 0 0] 25) := Bx.new rfl
        have X3 : Hid (Kp w1 (V2.alloc (.cells #[.slice none 0 0, .slice none 0 0] 25))) := X2.out.tr (Kp.alloc_ _ _)
        have G9 : Hid (w1.heap.size ≤ V2.heap.size) := X2.out.size
        have N79 : Hid (bn ≠ V2.heap.size) := by have := Y7.out.lt; show _ ≠ _; omega
        replace Y7 := Lib.hid (Y7.out.kp (Kp.alloc_ V2 (.cells #[.slice none 0 0, .slice none 0 0] 25)))
        have N89 : Hid (ba ≠ V2.heap.size) := by have := Y8.out.lt; show _ ≠ _; omega
        replace Y8 := Lib.hid (Y8.out.kp (Kp.alloc_ V2 (.cells #[.slice none 0 0, .slice none 0 0] 25)))
        generalize V2.alloc (.cells #[.slice none 0 0, .slice none 0 0] 25) = V3 at X3 Y7 Y8 Y9 hHeld ⊢
        generalize V2.heap.size = bb at Y9 G9 N79 N89 ⊢
        clear X2
      case' o79 =>
        go_simp
        refine hK.out _ _ ?_ (fun hHeld => ?_)
        · exact HSS.out _ (X1.out.tr (Kp.alloc_ _ _))
        clear hK
        try simp only [Act.put, List.setIfInBounds_toArray, List.set_cons_zero, List.set_cons_succ]
        have Y9 : Hid (Bx (V1.alloc (.cells #[.slice none 0 0, .slice none 0 0] 25)) V1.heap.size [.slice none 0 0, .slice none 0 0] 25) := Bx.new rfl
        have X2 : Hid (Kp w1 (V1.alloc (.cells #[.slice none 0 0, .slice none 0 0] 25))) := X1.out.tr (Kp.alloc_ _ _)
        have G9 : Hid (w1.heap.size ≤ V1.heap.size) := X1.out.size
        have N79 : Hid (bn ≠ V1.heap.size) := by have := Y7.out.lt; show _ ≠ _; omega
        replace Y7 := Lib.hid (Y7.out.kp (Kp.alloc_ V1 (.cells #[.slice none 0 0, .slice none 0 0] 25)))
        generalize V1.alloc (.cells #[.slice none 0 0, .slice none 0 0] 25) = V2 at X2 Y7 Y9 hHeld ⊢
        generalize V1.heap.size = bb at Y9 G9 N79 ⊢
        clear X1
        refine wpAnyH_ready (rs := [8]) (by kernel_rfl) (by simp) ?_
        refine AllReadyH.cons rfl (fun K9_ hK => ?_) AllReadyH.nil
        go_simp
        refine hK.out _ _ ?_ (fun hHeld => ?_)
        · exact HSS.out _ (X2.out.tr (Kp.alloc_ _ _))
        clear hK
        try simp only [Act.put, List.setIfInBounds_toArray, List.set_cons_zero, List.set_cons_succ]
        have Y8 : Hid (Bx (V2.alloc (.cells #[.slice none 0 0, .slice none 0 0] 25)) V2.heap.size [.slice none 0 0, .slice none 0 0] 25) := Bx.new rfl
        have X3 : Hid (Kp w1 (V2.alloc (.cells #[.slice none 0 0, .slice none 0 0] 25))) := X2.out.tr (Kp.alloc_ _ _)
        have G8 : Hid (w1.heap.size ≤ V2.heap.size) := X2.out.size
        have N78 : Hid (bn ≠ V2.heap.size) := by have := Y7.out.lt; show _ ≠ _; omega
        replace Y7 := Lib.hid (Y7.out.kp (Kp.alloc_ V2 (.cells #[.slice none 0 0, .slice none 0 0] 25)))
        have N98 : Hid (bb ≠ V2.heap.size) := by have := Y9.out.lt; show _ ≠ _; omega
        replace Y9 := Lib.hid (Y9.out.kp (Kp.alloc_ V2 (.cells #[.slice none 0 0, .slice none 0 0] 25)))
        generalize V2.alloc (.cells #[.slice none 0 0, .slice none 0 0] 25) = V3 at X3 Y7 Y9 Y8 hHeld ⊢
        generalize V2.heap.size = ba at Y8 G8 N78 N98 ⊢
        clear X2
        have N89 : Hid (ba ≠ bb) := fun e => N98.out e.symm
    case' o8 =>
      go_simp
      refine hK.out _ _ ?_ (fun hHeld => ?_)
      · exact HSS.out _ (X0.out.tr (Kp.alloc_ _ _))
      clear hK
      try simp only [Act.put, List.setIfInBounds_toArray, List.set_cons_zero, List.set_cons_succ]
      have Y8 : Hid (Bx (V0.alloc (.cells #[.slice none 0 0, .slice none 0 0] 25)) V0.heap.size [.slice none 0 0, .slice none 0 0] 25) := Bx.new rfl
      have X1 : Hid (Kp w1 (V0.alloc (.cells #[.slice none 0 0, .slice none 0 0] 25))) := X0.out.tr (Kp.alloc_ _ _)
      have G8 : Hid (w1.heap.size ≤ V0.heap.size) := X0.out.size
      generalize V0.alloc (.cells #[.slice none 0 0, .slice none 0 0] 25) = V1 at X1 Y8 hHeld ⊢
      generalize V0.heap.size = ba at Y8 G8  ⊢
      clear X0
      refine wpAnyH_ready (rs := [7, 9]) (by kernel_rfl) (by simp) ?_
      refine AllReadyH.cons rfl (fun K9_ hK => ?o87) (AllReadyH.cons rfl (fun K9_ hK => ?o89) AllReadyH.nil)
      case' o87 =>
        go_simp
        refine hK.out _ _ ?_ (fun hHeld => ?_)
        · exact HSS.out _ (X1.out.tr (Kp.alloc_ _ _))
        clear hK
        try simp only [Act.put, List.setIfInBounds_toArray, List.set_cons_zero, List.set_cons_succ]
        have Y7 : Hid (Bx (V1.alloc (.cells #[.slice none 0 0] 23)) V1.heap.size [.slice none 0 0] 23) := Bx.new rfl
        have X2 : Hid (Kp w1 (V1.alloc (.cells #[.slice none 0 0] 23))) := X1.out.tr (Kp.alloc_ _ _)
        have G7 : Hid (w1.heap.size ≤ V1.heap.size) := X1.out.size
        have N87 : Hid (ba ≠ V1.heap.size) := by have := Y8.out.lt; show _ ≠ _; omega
        replace Y8 := Lib.hid (Y8.out.kp (Kp.alloc_ V1 (.cells #[.slice none 0 0] 23)))
        generalize V1.alloc (.cells #[.slice none 0 0] 23) = V2 at X2 Y8 Y7 hHeld ⊢
        generalize V1.heap.size = bn at Y7 G7 N87 ⊢
        clear X1
        refine wpAnyH_ready (rs := [9]) (by kernel_rfl) (by simp) ?_
        refine AllReadyH.cons rfl (fun K9_ hK => ?_) AllReadyH.nil
        go_simp
        refine hK.out _ _ ?_ (fun hHeld => ?_)
        · exact HSS.out _ (X2.out.tr (Kp.alloc_ _ _))
        clear hK
        try simp only [Act.put, List.setIfInBounds_toArray, List.set_cons_zero, List.set_cons_succ]
        have Y9 : Hid (Bx (V2.alloc (.cells #[.slice none 0 0, .slice none 0 0] 25)) V2.heap.size [.slice none 0 0, .slice none 0 0] 25) := Bx.new rfl
        have X3 : Hid (Kp w1 (V2.alloc (.cells #[.slice none 0 0, .slice none 0 0] 25))) := X2.out.tr (Kp.alloc_ _ _)
        have G9 : Hid (w1.heap.size ≤ V2.heap.size) := X2.out.size
        have N89 : Hid (ba ≠ V2.heap.size) := by have := Y8.out.lt; show _ ≠ _; omega
        replace Y8 := Lib.hid (Y8.out.kp (Kp.alloc_ V2 (.cells #[.slice none 0 0, .slice none 0 0] 25)))
        have N79 : Hid (bn ≠ V2.heap.size) := by have := Y7.out.lt; show _ ≠ _; omega
        replace Y7 := Lib.hid (Y7.out.kp (Kp.alloc_ V2 (.cells #[.slice none 0 0, .slice none 0 0] 25)))
        generalize V2.alloc (.cells #[.slice none 0 0, .slice none 0 0] 25) = V3 at X3 Y8 Y7 Y9 hHeld ⊢
        generalize V2.heap.size = bb at Y9 G9 N89 N79 ⊢
        clear X2
        have N78 : Hid (bn ≠ ba) := fun e => N87.out e.symm
      case' o89 =>
        go_simp
        refine hK.out _ _ ?_ (fun hHeld => ?_)
        · exact HSS.out _ (X1.out.tr (Kp.alloc_ _ _))
        clear hK
        try simp only [Act.put, List.setIfInBounds_toArray, List.set_cons_zero, List.set_cons_succ]
        have Y9 : Hid (Bx (V1.alloc (.cells #[.slice none 0 0, .slice none 0 0] 25)) V1.heap.size [.slice none 0 0, .slice none 0 0] 25) := Bx.new rfl
        have X2 : Hid (Kp w1 (V1.alloc (.cells #[.slice none 0 0, .slice none 0 0] 25))) := X1.out.tr (Kp.alloc_ _ _)
        have G9 : Hid (w1.heap.size ≤ V1.heap.size) := X1.out.size
        have N89 : Hid (ba ≠ V1.heap.size) := by have := Y8.out.lt; show _ ≠ _; omega
        replace Y8 := Lib.hid (Y8.out.kp (Kp.alloc_ V1 (.cells #[.slice none 0 0, .slice none 0 0] 25)))
        generalize V1.alloc (.cells #[.slice none 0 0, .slice none 0 0] 25) = V2 at X2 Y8 Y9 hHeld ⊢
        generalize V1.heap.size = bb at Y9 G9 N89 ⊢
        clear X1
        refine wpAnyH_ready (rs := [7]) (by kernel_rfl) (by simp) ?_
        refine AllReadyH.cons rfl (fun K9_ hK => ?_) AllReadyH.nil
        go_simp
        refine hK.out _ _ ?_ (fun hHeld => ?_)
        · exact HSS.out _ (X2.out.tr (Kp.alloc_ _ _))
        clear hK
        try simp only [Act.put, List.setIfInBounds_toArray, List.set_cons_zero, List.set_cons_succ]
        have Y7 : Hid (Bx (V2.alloc (.cells #[.slice none 0 0] 23)) V2.heap.size [.slice none 0 0] 23) := Bx.new rfl
        have X3 : Hid (Kp w1 (V2.alloc (.cells #[.slice none 0 0] 23))) := X2.out.tr (Kp.alloc_ _ _)
        have G7 : Hid (w1.heap.size ≤ V2.heap.size) := X2.out.size
        have N87 : Hid (ba ≠ V2.heap.size) := by have := Y8.out.lt; show _ ≠ _; omega
        replace Y8 := Lib.hid (Y8.out.kp (Kp.alloc_ V2 (.cells #[.slice none 0 0] 23)))
        have N97 : Hid (bb ≠ V2.heap.size) := by have := Y9.out.lt; show _ ≠ _; omega
        replace Y9 := Lib.hid (Y9.out.kp (Kp.alloc_ V2 (.cells #[.slice none 0 0] 23)))
        generalize V2.alloc (.cells #[.slice none 0 0] 23) = V3 at X3 Y8 Y9 Y7 hHeld ⊢
        generalize V2.heap.size = bn at Y7 G7 N87 N97 ⊢
        clear X2
        have N78 : Hid (bn ≠ ba) := fun e => N87.out e.symm
        have N79 : Hid (bn ≠ bb) := fun e => N97.out e.symm
    case' o9 =>
      go_simp
      refine hK.out _ _ ?_ (fun hHeld => ?_)
      · exact HSS.out _ (X0.out.tr (Kp.alloc_ _ _))
      clear hK
      try simp only [Act.put, List.setIfInBounds_toArray, List.set_cons_zero, List.set_cons_succ]
      have Y9 : Hid (Bx (V0.alloc (.cells #[.slice none 0 0, .slice none 0 0] 25)) V0.heap.size [.slice none 0 0, .slice none 0 0] 25) := Bx.new rfl
      have X1 : Hid (Kp w1 (V0.alloc (.cells #[.slice none 0 0, .slice none 0 0] 25))) := X0.out.tr (Kp.alloc_ _ _)
      have G9 : Hid (w1.heap.size ≤ V0.heap.size) := X0.out.size
      generalize V0.alloc (.cells #[.slice none 0 0, .slice none 0 0] 25) = V1 at X1 Y9 hHeld ⊢
      generalize V0.heap.size = bb at Y9 G9  ⊢
      clear X0
      refine wpAnyH_ready (rs := [7, 8]) (by kernel_rfl) (by simp) ?_
      refine AllReadyH.cons rfl (fun K9_ hK => ?o97) (AllReadyH.cons rfl (fun K9_ hK => ?o98) AllReadyH.nil)
      case' o97 =>
        go_simp
        refine hK.out _ _ ?_ (fun hHeld => ?_)
        · exact HSS.out _ (X1.out.tr (Kp.alloc_ _ _))
        clear hK
        try simp only [Act.put, List.setIfInBounds_toArray, List.set_cons_zero, List.set_cons_succ]
        have Y7 : Hid (Bx (V1.alloc (.cells #[.slice none 0 0] 23)) V1.heap.size [.slice none 0 0] 23) := Bx.new rfl
        have X2 : Hid (Kp w1 (V1.alloc (.cells #[.slice none 0 0] 23))) := X1.out.tr (Kp.alloc_ _ _)
        have G7 : Hid (w1.heap.size ≤ V1.heap.size) := X1.out.size
        have N97 : Hid (bb ≠ V1.heap.size) := by have := Y9.out.lt; show _ ≠ _; omega
        replace Y9 := Lib.hid (Y9.out.kp (Kp.alloc_ V1 (.cells #[.slice none 0 0] 23)))
        generalize V1.alloc (.cells #[.slice none 0 0] 23) = V2 at X2 Y9 Y7 hHeld ⊢
        generalize V1.heap.size = bn at Y7 G7 N97 ⊢
        clear X1
        refine wpAnyH_ready (rs := [8]) (by kernel_rfl) (by simp) ?_
        refine AllReadyH.cons rfl (fun K9_ hK => ?_) AllReadyH.nil
        go_simp
        refine hK.out _ _ ?_ (fun hHeld => ?_)
        · exact HSS.out _ (X2.out.tr (Kp.alloc_ _ _))
        clear hK
        try simp only [Act.put, List.setIfInBounds_toArray, List.set_cons_zero, List.set_cons_succ]
        have Y8 : Hid (Bx (V2.alloc (.cells #[.slice none 0 0, .slice none 0 0] 25)) V2.heap.size [.slice none 0 0, .slice none 0 0] 25) := Bx.new rfl
        have X3 : Hid (Kp w1 (V2.alloc (.cells #[.slice none 0 0, .slice none 0 0] 25))) := X2.out.tr (Kp.alloc_ _ _)
        have G8 : Hid (w1.heap.size ≤ V2.heap.size) := X2.out.size
        have N98 : Hid (bb ≠ V2.heap.size) := by have := Y9.out.lt; show _ ≠ _; omega
        replace Y9 := Lib.hid (Y9.out.kp (Kp.alloc_ V2 (.cells #[.slice none 0 0, .slice none 0 0] 25)))
        have N78 : Hid (bn ≠ V2.heap.size) := by have := Y7.out.lt; show _ ≠ _; omega
        replace Y7 := Lib.hid (Y7.out.kp (Kp.alloc_ V2 (.cells #[.slice none 0 0, .slice none 0 0] 25)))
        generalize V2.alloc (.cells #[.slice none 0 0, .slice none 0 0] 25) = V3 at X3 Y9 Y7 Y8 hHeld ⊢
        generalize V2.heap.size = ba at Y8 G8 N98 N78 ⊢
        clear X2
        have N79 : Hid (bn ≠ bb) := fun e => N97.out e.symm
        have N89 : Hid (ba ≠ bb) := fun e => N98.out e.symm
      case' o98 =>
        go_simp
        refine hK.out _ _ ?_ (fun hHeld => ?_)
        · exact HSS.out _ (X1.out.tr (Kp.alloc_ _ _))
        clear hK
        try simp only [Act.put, List.setIfInBounds_toArray, List.set_cons_zero, List.set_cons_succ]
        have Y8 : Hid (Bx (V1.alloc (.cells #[.slice none 0 0, .slice none 0 0] 25)) V1.heap.size [.slice none 0 0, .slice none 0 0] 25) := Bx.new rfl
        have X2 : Hid (Kp w1 (V1.alloc (.cells #[.slice none 0 0, .slice none 0 0] 25))) := X1.out.tr (Kp.alloc_ _ _)
        have G8 : Hid (w1.heap.size ≤ V1.heap.size) := X1.out.size
        have N98 : Hid (bb ≠ V1.heap.size) := by have := Y9.out.lt; show _ ≠ _; omega
        replace Y9 := Lib.hid (Y9.out.kp (Kp.alloc_ V1 (.cells #[.slice none 0 0, .slice none 0 0] 25)))
        generalize V1.alloc (.cells #[.slice none 0 0, .slice none 0 0] 25) = V2 at X2 Y9 Y8 hHeld ⊢
        generalize V1.heap.size = ba at Y8 G8 N98 ⊢
        clear X1
        refine wpAnyH_ready (rs := [7]) (by kernel_rfl) (by simp) ?_
        refine AllReadyH.cons rfl (fun K9_ hK => ?_) AllReadyH.nil
        go_simp
        refine hK.out _ _ ?_ (fun hHeld => ?_)
        · exact HSS.out _ (X2.out.tr (Kp.alloc_ _ _))
        clear hK
        try simp only [Act.put, List.setIfInBounds_toArray, List.set_cons_zero, List.set_cons_succ]
        have Y7 : Hid (Bx (V2.alloc (.cells #[.slice none 0 0] 23)) V2.heap.size [.slice none 0 0] 23) := Bx.new rfl
        have X3 : Hid (Kp w1 (V2.alloc (.cells #[.slice none 0 0] 23))) := X2.out.tr (Kp.alloc_ _ _)
        have G7 : Hid (w1.heap.size ≤ V2.heap.size) := X2.out.size
        have N97 : Hid (bb ≠ V2.heap.size) := by have := Y9.out.lt; show _ ≠ _; omega
        replace Y9 := Lib.hid (Y9.out.kp (Kp.alloc_ V2 (.cells #[.slice none 0 0] 23)))
        have N87 : Hid (ba ≠ V2.heap.size) := by have := Y8.out.lt; show _ ≠ _; omega
        replace Y8 := Lib.hid (Y8.out.kp (Kp.alloc_ V2 (.cells #[.slice none 0 0] 23)))
        generalize V2.alloc (.cells #[.slice none 0 0] 23) = V3 at X3 Y9 Y8 Y7 hHeld ⊢
        generalize V2.heap.size = bn at Y7 G7 N97 N87 ⊢
        clear X2
        have N78 : Hid (bn ≠ ba) := fun e => N87.out e.symm
        have N79 : Hid (bn ≠ bb) := fun e => N97.out e.symm
        have N89 : Hid (ba ≠ bb) := fun e => N98.out e.symm
    all_goals
      have u0 := Y7.out.cell (j := 0) rfl
      have f0 := Y7.out.frz 0
      refine wpAnyH_ready (rs := [10]) (by kernel_rfl) (by simp) ?_
      refine AllReadyH.cons rfl (fun K9_ hK => ?_) AllReadyH.nil
      go_simp
      have X4 : Hid (Kp w1 (V3.setCell ⟨bn, 0, none⟩ (.slice Q m d))) := (X3.out.setCell (p := ⟨bn, 0, none⟩) G7.out (.slice Q m d))
      replace Y7 : Hid (Bx (V3.setCell ⟨bn, 0, none⟩ (.slice Q m d)) bn [.slice Q m d] 23) := (Y7.out.set 0 (.slice Q m d))
      replace Y8 := Lib.hid ((Y8.out.other (p := ⟨bn, 0, none⟩) (fun e => N78.out e.symm) (.slice Q m d)))
      replace Y9 := Lib.hid ((Y9.out.other (p := ⟨bn, 0, none⟩) (fun e => N79.out e.symm) (.slice Q m d)))
      refine hK.out _ _ ?_ (fun hHeld => ?_)
      · exact HSS.out _ X4.out
      clear hK X3 u0 f0
      try simp only [Act.put, List.setIfInBounds_toArray, List.set_cons_zero, List.set_cons_succ]
      generalize (V3.setCell ⟨bn, 0, none⟩ (.slice Q m d)) = V4 at X4 Y7 Y8 Y9 hHeld ⊢
      have u0 := Y8.out.cell (j := 0) rfl
      have f0 := Y8.out.frz 0
      have u1 := Y8.out.cell (j := 1) rfl
      have f1 := Y8.out.frz 1
      refine wpAnyH_ready (rs := [11]) (by kernel_rfl) (by simp) ?_
      refine AllReadyH.cons rfl (fun K9_ hK => ?_) AllReadyH.nil
      go_simp
      have X5 : Hid (Kp w1 ((V4.setCell ⟨ba, 0, none⟩ (.slice A1 n1 a1)).setCell ⟨ba, 1, none⟩ (.slice A2 n2 a2))) := ((X4.out.setCell (p := ⟨ba, 0, none⟩) G8.out (.slice A1 n1 a1)).setCell (p := ⟨ba, 1, none⟩) G8.out (.slice A2 n2 a2))
      replace Y8 : Hid (Bx ((V4.setCell ⟨ba, 0, none⟩ (.slice A1 n1 a1)).setCell ⟨ba, 1, none⟩ (.slice A2 n2 a2)) ba [.slice A1 n1 a1, .slice A2 n2 a2] 25) := ((Y8.out.set 0 (.slice A1 n1 a1)).set 1 (.slice A2 n2 a2))
      replace Y7 := Lib.hid (((Y7.out.other (p := ⟨ba, 0, none⟩) N78.out (.slice A1 n1 a1)).other (p := ⟨ba, 1, none⟩) N78.out (.slice A2 n2 a2)))
      replace Y9 := Lib.hid (((Y9.out.other (p := ⟨ba, 0, none⟩) (fun e => N89.out e.symm) (.slice A1 n1 a1)).other (p := ⟨ba, 1, none⟩) (fun e => N89.out e.symm) (.slice A2 n2 a2)))
      refine hK.out _ _ ?_ (fun hHeld => ?_)
      · exact HSS.out _ X5.out
      clear hK X4 u0 f0 u1 f1
      try simp only [Act.put, List.setIfInBounds_toArray, List.set_cons_zero, List.set_cons_succ]
      generalize ((V4.setCell ⟨ba, 0, none⟩ (.slice A1 n1 a1)).setCell ⟨ba, 1, none⟩ (.slice A2 n2 a2)) = V5 at X5 Y7 Y8 Y9 hHeld ⊢
      have u0 := Y9.out.cell (j := 0) rfl
      have f0 := Y9.out.frz 0
      have u1 := Y9.out.cell (j := 1) rfl
      have f1 := Y9.out.frz 1
      refine wpAnyH_ready (rs := [12]) (by kernel_rfl) (by simp) ?_
      refine AllReadyH.cons rfl (fun K9_ hK => ?_) AllReadyH.nil
      go_simp
      have X6 : Hid (Kp w1 ((V5.setCell ⟨bb, 0, none⟩ (.slice B1 m1 b1)).setCell ⟨bb, 1, none⟩ (.slice B2 m2 b2))) := ((X5.out.setCell (p := ⟨bb, 0, none⟩) G9.out (.slice B1 m1 b1)).setCell (p := ⟨bb, 1, none⟩) G9.out (.slice B2 m2 b2))
      replace Y9 : Hid (Bx ((V5.setCell ⟨bb, 0, none⟩ (.slice B1 m1 b1)).setCell ⟨bb, 1, none⟩ (.slice B2 m2 b2)) bb [.slice B1 m1 b1, .slice B2 m2 b2] 25) := ((Y9.out.set 0 (.slice B1 m1 b1)).set 1 (.slice B2 m2 b2))
      replace Y7 := Lib.hid (((Y7.out.other (p := ⟨bb, 0, none⟩) N79.out (.slice B1 m1 b1)).other (p := ⟨bb, 1, none⟩) N79.out (.slice B2 m2 b2)))
      replace Y8 := Lib.hid (((Y8.out.other (p := ⟨bb, 0, none⟩) N89.out (.slice B1 m1 b1)).other (p := ⟨bb, 1, none⟩) N89.out (.slice B2 m2 b2)))
      refine hK.out _ _ ?_ (fun hHeld => ?_)
      · exact HSS.out _ X6.out
      clear hK X5 u0 f0 u1 f1
      try simp only [Act.put, List.setIfInBounds_toArray, List.set_cons_zero, List.set_cons_succ]
      generalize ((V5.setCell ⟨bb, 0, none⟩ (.slice B1 m1 b1)).setCell ⟨bb, 1, none⟩ (.slice B2 m2 b2)) = V6 at X6 Y7 Y8 Y9 hHeld ⊢
      refine wpAnyH_done (by kernel_rfl) ?_ _
      clear hHeld HSS
      go_wp2
      go_meet
      exact ⟨bn, ba, bb, rfl, rfl, rfl, Y7, Y8, Y9, X6⟩
  case rest =>
  obtain ⟨bn, ba, bb, rfl, rfl, rfl, Y7, Y8, Y9, XC⟩ := hcut
  have hmm := @run_makeMap Tryz.prog
  have h0 := Md.new wc
  go_wp2_with (first
    | (refine wpList_insE (L := (ruE (.pointer (some ⟨w.heap.size, 0, none⟩)) (.pointer (some ⟨bn, 0, none⟩)) (.pointer (some ⟨ba, 0, none⟩)) (.pointer (some ⟨bb, 0, none⟩))).take 0) rfl _ _ _ rfl 1 (.func (.func 39) #[] #[.pointer (some ⟨w.heap.size, 0, none⟩)]) rfl rfl rfl h0 rfl ?_; intro w101 h1 b1)
    | (refine wpList_insE (L := (ruE (.pointer (some ⟨w.heap.size, 0, none⟩)) (.pointer (some ⟨bn, 0, none⟩)) (.pointer (some ⟨ba, 0, none⟩)) (.pointer (some ⟨bb, 0, none⟩))).take 1) rfl _ _ _ rfl 2 (.func (.func 41) #[] #[.pointer (some ⟨w.heap.size, 0, none⟩), .pointer (some ⟨bn, 0, none⟩)]) rfl rfl rfl h1 rfl ?_; intro w102 h2 b2)
    | (refine wpList_insE (L := (ruE (.pointer (some ⟨w.heap.size, 0, none⟩)) (.pointer (some ⟨bn, 0, none⟩)) (.pointer (some ⟨ba, 0, none⟩)) (.pointer (some ⟨bb, 0, none⟩))).take 2) rfl _ _ _ rfl 3 (.func (.func 43) #[] #[.pointer (some ⟨bn, 0, none⟩)]) rfl rfl rfl h2 rfl ?_; intro w103 h3 b3)
    | (refine wpList_insE (L := (ruE (.pointer (some ⟨w.heap.size, 0, none⟩)) (.pointer (some ⟨bn, 0, none⟩)) (.pointer (some ⟨ba, 0, none⟩)) (.pointer (some ⟨bb, 0, none⟩))).take 3) rfl _ _ _ rfl 10 (.func (.func 37) #[] #[.pointer (some ⟨w.heap.size, 0, none⟩), .pointer (some ⟨ba, 0, none⟩), .pointer (some ⟨bb, 0, none⟩)]) rfl rfl rfl h3 rfl ?_; intro w104 h4 b4)
    | (refine wpList_insE (L := (ruE (.pointer (some ⟨w.heap.size, 0, none⟩)) (.pointer (some ⟨bn, 0, none⟩)) (.pointer (some ⟨ba, 0, none⟩)) (.pointer (some ⟨bb, 0, none⟩))).take 4) rfl _ _ _ rfl 11 (.func (.func 37) #[] #[.pointer (some ⟨w.heap.size, 0, none⟩), .pointer (some ⟨ba, 0, none⟩), .pointer (some ⟨bb, 0, none⟩)]) rfl rfl rfl h4 rfl ?_; intro w105 h5 b5)
    | (refine wpList_insE (L := (ruE (.pointer (some ⟨w.heap.size, 0, none⟩)) (.pointer (some ⟨bn, 0, none⟩)) (.pointer (some ⟨ba, 0, none⟩)) (.pointer (some ⟨bb, 0, none⟩))).take 5) rfl _ _ _ rfl 12 (.func (.func 37) #[] #[.pointer (some ⟨w.heap.size, 0, none⟩), .pointer (some ⟨ba, 0, none⟩), .pointer (some ⟨bb, 0, none⟩)]) rfl rfl rfl h5 rfl ?_; intro w106 h6 b6)
    | (refine wpList_insE (L := (ruE (.pointer (some ⟨w.heap.size, 0, none⟩)) (.pointer (some ⟨bn, 0, none⟩)) (.pointer (some ⟨ba, 0, none⟩)) (.pointer (some ⟨bb, 0, none⟩))).take 6) rfl _ _ _ rfl 13 (.func (.func 37) #[] #[.pointer (some ⟨w.heap.size, 0, none⟩), .pointer (some ⟨ba, 0, none⟩), .pointer (some ⟨bb, 0, none⟩)]) rfl rfl rfl h6 rfl ?_; intro w107 h7 b7)
    | (refine wpList_insE (L := (ruE (.pointer (some ⟨w.heap.size, 0, none⟩)) (.pointer (some ⟨bn, 0, none⟩)) (.pointer (some ⟨ba, 0, none⟩)) (.pointer (some ⟨bb, 0, none⟩))).take 7) rfl _ _ _ rfl 20 (.func (.func 34) #[] #[.pointer (some ⟨w.heap.size, 0, none⟩), .pointer (some ⟨ba, 0, none⟩)]) rfl rfl rfl h7 rfl ?_; intro w108 h8 b8)
    | (refine wpList_insE (L := (ruE (.pointer (some ⟨w.heap.size, 0, none⟩)) (.pointer (some ⟨bn, 0, none⟩)) (.pointer (some ⟨ba, 0, none⟩)) (.pointer (some ⟨bb, 0, none⟩))).take 8) rfl _ _ _ rfl 21 (.func (.func 34) #[] #[.pointer (some ⟨w.heap.size, 0, none⟩), .pointer (some ⟨ba, 0, none⟩)]) rfl rfl rfl h8 rfl ?_; intro w109 h9 b9)
    | (refine wpList_insE (L := (ruE (.pointer (some ⟨w.heap.size, 0, none⟩)) (.pointer (some ⟨bn, 0, none⟩)) (.pointer (some ⟨ba, 0, none⟩)) (.pointer (some ⟨bb, 0, none⟩))).take 9) rfl _ _ _ rfl 22 (.func (.func 34) #[] #[.pointer (some ⟨w.heap.size, 0, none⟩), .pointer (some ⟨ba, 0, none⟩)]) rfl rfl rfl h9 rfl ?_; intro w110 h10 b10)
    | (refine wpList_insE (L := (ruE (.pointer (some ⟨w.heap.size, 0, none⟩)) (.pointer (some ⟨bn, 0, none⟩)) (.pointer (some ⟨ba, 0, none⟩)) (.pointer (some ⟨bb, 0, none⟩))).take 10) rfl _ _ _ rfl 23 (.func (.func 34) #[] #[.pointer (some ⟨w.heap.size, 0, none⟩), .pointer (some ⟨ba, 0, none⟩)]) rfl rfl rfl h10 rfl ?_; intro w111 h11 b11)
    | (refine wpList_insE (L := (ruE (.pointer (some ⟨w.heap.size, 0, none⟩)) (.pointer (some ⟨bn, 0, none⟩)) (.pointer (some ⟨ba, 0, none⟩)) (.pointer (some ⟨bb, 0, none⟩))).take 11) rfl _ _ _ rfl 30 (.func (.func 45) #[] #[.pointer (some ⟨ba, 0, none⟩), .pointer (some ⟨bb, 0, none⟩)]) rfl rfl rfl h11 rfl ?_; intro w112 h12 b12)
    | (refine wpList_insE (L := (ruE (.pointer (some ⟨w.heap.size, 0, none⟩)) (.pointer (some ⟨bn, 0, none⟩)) (.pointer (some ⟨ba, 0, none⟩)) (.pointer (some ⟨bb, 0, none⟩))).take 12) rfl _ _ _ rfl 40 (.func (.func 47) #[] #[.pointer (some ⟨ba, 0, none⟩), .pointer (some ⟨bn, 0, none⟩)]) rfl rfl rfl h12 rfl ?_; intro w113 h13 b13)
    | (refine wpList_insE (L := (ruE (.pointer (some ⟨w.heap.size, 0, none⟩)) (.pointer (some ⟨bn, 0, none⟩)) (.pointer (some ⟨ba, 0, none⟩)) (.pointer (some ⟨bb, 0, none⟩))).take 13) rfl _ _ _ rfl 41 (.func (.func 49) #[] #[.pointer (some ⟨ba, 0, none⟩)]) rfl rfl rfl h13 rfl ?_; intro w114 h14 b14)
    | (refine wpList_insE (L := (ruE (.pointer (some ⟨w.heap.size, 0, none⟩)) (.pointer (some ⟨bn, 0, none⟩)) (.pointer (some ⟨ba, 0, none⟩)) (.pointer (some ⟨bb, 0, none⟩))).take 14) rfl _ _ _ rfl 42 (.func (.func 51) #[] #[.pointer (some ⟨ba, 0, none⟩), .pointer (some ⟨bn, 0, none⟩)]) rfl rfl rfl h14 rfl ?_; intro w115 h15 b15)
    | (refine wpList_insE (L := (ruE (.pointer (some ⟨w.heap.size, 0, none⟩)) (.pointer (some ⟨bn, 0, none⟩)) (.pointer (some ⟨ba, 0, none⟩)) (.pointer (some ⟨bb, 0, none⟩))).take 15) rfl _ _ _ rfl 43 (.func (.func 53) #[] #[.pointer (some ⟨ba, 0, none⟩), .pointer (some ⟨bb, 0, none⟩), .pointer (some ⟨bn, 0, none⟩)]) rfl rfl rfl h15 rfl ?_; intro w116 h16 b16)
    | (refine wpList_insE (L := (ruE (.pointer (some ⟨w.heap.size, 0, none⟩)) (.pointer (some ⟨bn, 0, none⟩)) (.pointer (some ⟨ba, 0, none⟩)) (.pointer (some ⟨bb, 0, none⟩))).take 16) rfl _ _ _ rfl 50 (.func (.func 55) #[] #[.pointer (some ⟨ba, 0, none⟩), .pointer (some ⟨bn, 0, none⟩)]) rfl rfl rfl h16 rfl ?_; intro w117 h17 b17)
    | (refine wpList_insE (L := (ruE (.pointer (some ⟨w.heap.size, 0, none⟩)) (.pointer (some ⟨bn, 0, none⟩)) (.pointer (some ⟨ba, 0, none⟩)) (.pointer (some ⟨bb, 0, none⟩))).take 17) rfl _ _ _ rfl 51 (.func (.func 57) #[] #[.pointer (some ⟨ba, 0, none⟩), .pointer (some ⟨bn, 0, none⟩)]) rfl rfl rfl h17 rfl ?_; intro w118 h18 b18)
    | (refine wpList_insE (L := (ruE (.pointer (some ⟨w.heap.size, 0, none⟩)) (.pointer (some ⟨bn, 0, none⟩)) (.pointer (some ⟨ba, 0, none⟩)) (.pointer (some ⟨bb, 0, none⟩))).take 18) rfl _ _ _ rfl 52 (.func (.func 59) #[] #[.pointer (some ⟨ba, 0, none⟩), .pointer (some ⟨bn, 0, none⟩)]) rfl rfl rfl h18 rfl ?_; intro w119 h19 b19))
  go_ret
  have n0 : wc.heap.size ≤ wc.heap.size := Nat.le_refl _
  have kk := Below.alloc (Below.refl wc.heap.size wc) (Nat.le_refl _) (.map #[] 0)
  have ka := ((((((((((((((((((kk.trans (b1 _ n0)).trans (b2 _ n0)).trans (b3 _ n0)).trans (b4 _ n0)).trans (b5 _ n0)).trans (b6 _ n0)).trans (b7 _ n0)).trans (b8 _ n0)).trans (b9 _ n0)).trans (b10 _ n0)).trans (b11 _ n0)).trans (b12 _ n0)).trans (b13 _ n0)).trans (b14 _ n0)).trans (b15 _ n0)).trans (b16 _ n0)).trans (b17 _ n0)).trans (b18 _ n0)).trans (b19 _ n0)
  have kb : Kp wc w119 := ka
  exact ⟨_, bn, ba, bb, rfl, h19, (K1.out.tr XC.out).tr kb, (BJ.out.kp XC.out).kp kb, Y7.out.kp kb, Y8.out.kp kb, Y9.out.kp kb⟩
end Go.Proofs.YtdbncanedokinaaGreat.Ez
