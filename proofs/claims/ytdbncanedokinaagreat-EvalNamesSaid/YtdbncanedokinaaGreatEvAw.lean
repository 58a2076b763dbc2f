/- Layer 13: the law's first calls. -/
import Derived.Test.YtdbncanedokinaaGreatEvC
namespace Go.Proofs.YtdbncanedokinaaGreat
open Go.RowKit Go.Proofs.ShM Go.Proofs.GrM Go.Proofs.InM Go.Proofs.ImM Go.Proofs.EvM
set_option linter.unusedVariables false
set_option maxRecDepth 100000
set_option linter.unusedSimpArgs false

def LE : List Nd := [(1, [], []), (20, [0], []), (2, [], [1])]
def T5 : T := ([], [5])
def V5 : List T := [([], [5]), ([], [-5]), ([], [5])]
theorem rdt_two {w : World} {P Q R S : Option Addr} {t u : T} {a b c d : Nat} (h : TRc w P a Q b t) (g : TRc w R c S d u) (ty : TypeId) :
    RdT (w.alloc (.cells #[.slice P t.1.length a, .slice Q t.2.length b, .slice R u.1.length c, .slice S u.2.length d] ty)) (some ⟨w.heap.size, 0, none⟩) [t, u] := by
  refine ⟨by simp, [(.slice P t.1.length a, .slice Q t.2.length b), (.slice R u.1.length c, .slice S u.2.length d)], ⟨rfl, fun j p t' h1 h2 => ?_⟩, fun _ => ⟨_, rfl, by simp, fun j x hu => ?_⟩⟩
  · match j with
    | 0 =>
      have e1 : (Value.slice P t.1.length a, Value.slice Q t.2.length b) = p := by simpa using h1
      have e2 : t = t' := by simpa using h2
      subst e1 e2
      exact ⟨P, a, Q, b, rfl, h.r.alloc_ _, fun _ _ _ => trivial, fun _ _ _ => trivial, h.c1, h.c2⟩
    | 1 =>
      have e1 : (Value.slice R u.1.length c, Value.slice S u.2.length d) = p := by simpa using h1
      have e2 : u = t' := by simpa using h2
      subst e1 e2
      exact ⟨R, c, S, d, rfl, g.r.alloc_ _, fun _ _ _ => trivial, fun _ _ _ => trivial, g.c1, g.c2⟩
    | j + 2 => simp at h1
  · rw [Go.WideShapes.add_plain, Nat.zero_add, World.cell?_alloc_at _ ty _ j rfl]
    have : (flat [(Value.slice P t.1.length a, Value.slice Q t.2.length b), (Value.slice R u.1.length c, Value.slice S u.2.length d)])[j]? = #[Value.slice P t.1.length a, Value.slice Q t.2.length b, Value.slice R u.1.length c, Value.slice S u.2.length d][j]? := by simp [flat]
    rw [← this]; exact hu
theorem rd_two_cells {w : World} {X : Nat → Prop} {A : Option Addr} {ts : List T} (h : RdX w X A ts) {k : Nat} {t : T} (ht : ts[k]? = some t) : ∃ ad P c Q d, A = some ad ∧ ad.block < w.heap.size ∧ w.cell? (ad.add (k * 2)) = some (.slice P t.1.length c) ∧ w.cell? ⟨(ad.add (k * 2)).block, (ad.add (k * 2)).off + 1, none⟩ = some (.slice Q t.2.length d) ∧ TRc w P c Q d t := by
  obtain ⟨ad, u, P, c, Q, d, e, hb, hu, h1, h2, r, _, _, b1, b2⟩ := h.at_c (List.getElem?_eq_some_iff.1 ht).1
  rw [ht] at hu
  injection hu with hu
  subst hu
  exact ⟨ad, P, c, Q, d, e, hb, h1, h2, r, b1, b2⟩
set_option maxHeartbeats 8000000 in
theorem evawake_any (C : EvC) (w : World) : Calls Tryz.prog 7 #[] w fun e w' => e = .returned (.bool true) ∧ Kp w w' := by
  have HC := Lib.hid C
  have hsm : SmallG LE := by
    refine ⟨by decide, fun t ht => ?_⟩
    simp only [LE, List.mem_cons, List.not_mem_nil, or_false] at ht
    rcases ht with rfl | rfl | rfl <;> refine ⟨by decide, by decide, ?_, ?_, ?_⟩ <;> intro x hx <;> simp at hx <;> omega
  have h5 : SmT T5 := ⟨by decide, by decide, (fun _ h => by cases h), fun x hx => by simp [T5] at hx; omega⟩
  have h0 : SmT eT := ⟨by decide, by decide, (fun _ h => by cases h), fun _ h => by cases h⟩
  have hps : SmTs [eT, T5] := ⟨by decide, fun t ht => by simp at ht; rcases ht with rfl | rfl; exact h0; exact h5⟩
  have hp0 : SmTs [] := ⟨by decide, fun _ h => by cases h⟩
  have v1 : allE LE T5 [eT, T5] = (V5, -1, 0) := by decide +kernel
  have v2 : allE LE T5 [] = ([], 2, 130) := by decide +kernel
  have v3 : allE [] T5 [] = ([], -1, 100) := by decide +kernel
  have v4 : nodeE 3 [7] [] T5 [] = (([], [7]), 0) := by decide +kernel
  have HV := Lib.hid (And.intro v1 (And.intro v2 (And.intro v3 v4)))
  have HS := Lib.hid (And.intro hsm (And.intro (show SmallG [] from ⟨by decide, fun _ h => by cases h⟩) (And.intro h5 (And.intro hps hp0))))
  obtain ⟨W5, hW5⟩ : ∃ W5, W5 = ((w.alloc (.cells #[.int .i64 0] 3)).alloc (.cells #[.int .i64 1] 3)).alloc (.cells #[.int .i64 1, .slice none 0 0, .slice none 0 0, .int .i64 20, .slice (some ⟨w.heap.size, 0, none⟩) 1 1, .slice none 0 0, .int .i64 2, .slice none 0 0, .slice (some ⟨w.heap.size + 1, 0, none⟩) 1 1] 39) := ⟨_, rfl⟩
  have HW5 := Lib.hid hW5
  have hK5 : Kp w W5 := by rw [hW5]; exact gal (gal (Kp.alloc_ _ _) _) _
  have r1 : Rd (w.alloc (.cells #[.int .i64 0] 3)) (some ⟨w.heap.size, 0, none⟩) [0] := Rd.one w 0 _
  have r2 : Rd ((w.alloc (.cells #[.int .i64 0] 3)).alloc (.cells #[.int .i64 1] 3)) (some ⟨w.heap.size + 1, 0, none⟩) [1] := by
    have h := Rd.one (w.alloc (.cells #[.int .i64 0] 3)) 1 3
    rwa [World.size_alloc] at h
  have hL0 : RdG W5 (some ⟨w.heap.size + 1 + 1, 0, none⟩) LE := by
    have a3 := AllN.cons (vn_mk (op := 2) (c := 0) (d := 1) (Rd.nil _ none) r2 (by decide) (by decide) (by decide) (by decide)) (AllN.nil_ _ (fun _ => True))
    have a2 := AllN.cons (vn_mk (op := 20) (c := 1) (d := 0) (r1.alloc_ (.cells #[.int .i64 1] 3)) (Rd.nil _ none) (by decide) (by decide) (by decide) (by decide)) a3
    have a1 := AllN.cons (vn_mk (op := 1) (c := 0) (d := 0) (Rd.nil _ none) (Rd.nil _ none) (by decide) (by decide) (by decide) (by decide)) a2
    have h := RdN.lit a1 (by decide) 39
    rw [World.size_alloc, World.size_alloc] at h
    rw [hW5]
    exact h
  obtain ⟨B, hB⟩ : ∃ B, B = W5.heap.size := ⟨_, rfl⟩
  have hB5 : w.heap.size + 1 + 1 + 1 = B := by rw [hB, hW5]; simp
  have HB5 := Lib.hid hB5
  have HB := Lib.hid hB
  have r5 : TRc (W5.alloc (.cells #[.int .i64 5] 3)) none 0 (some ⟨B, 0, none⟩) 1 T5 := by
    rw [hB]
    exact ⟨⟨Rd.nil _ _, Rd.one W5 5 _⟩, ⟨by decide, by decide⟩, ⟨by decide, by decide⟩⟩
  obtain ⟨W6, hW6⟩ : ∃ W6, W6 = (W5.alloc (.cells #[.int .i64 5] 3)).alloc (.cells #[.slice none 0 0, .slice (some ⟨B, 0, none⟩) 1 1] 25) := ⟨_, rfl⟩
  have HW6 := Lib.hid hW6
  have hK56 : Kp W5 W6 := by rw [hW6]; exact gal (Kp.alloc_ _ _) _
  have F6 : Hid (Bk W6 (B + 1) none 0 0 (some ⟨B, 0, none⟩) 1 1) := by show Bk _ _ _ _ _ _ _ _; rw [hW6]; exact Bk.new (by rw [hB]; simp)
  have R6 : Hid (TRc W6 none 0 (some ⟨B, 0, none⟩) 1 T5) := by show TRc _ _ _ _ _ _; rw [hW6]; exact r5.kp (Kp.alloc_ _ _)
  have L6 : Hid (RdG W6 (some ⟨w.heap.size + 1 + 1, 0, none⟩) LE) := hL0.kp hK56
  have hK6 : Kp w W6 := hK5.tr hK56
  have K6 := Lib.hid hK6
  have hsz6 : W6.heap.size = B + 1 + 1 := by rw [hW6, hB]; simp
  have P6 : Hid (RdT (W6.alloc (.cells #[.slice none 0 0, .slice none 0 0, .slice none 0 0, .slice (some ⟨B, 0, none⟩) 1 1] 25)) (some ⟨B + 1 + 1, 0, none⟩) [eT, T5]) := by
    have h := rdt_two (t := eT) (u := T5) (P := none) (Q := none) (a := 0) (b := 0) ⟨⟨Rd.nil _ _, Rd.nil _ _⟩, ⟨by decide, by decide⟩, ⟨by decide, by decide⟩⟩ R6.out 25
    rw [hsz6] at h
    exact h
  have q0 := F6.out.c0
  have q1 := F6.out.c1
  clear C hsm h5 h0 hps hp0 v1 v2 v3 v4 hK5 r1 r2 hL0 r5 hK56 hB hW6 hW5 hK6
  go_enter Tryz.func7, Tryz.ntmps7
  go_upto_region 3 with fail
  rw [← HW5.out, ← HW6.out]
  go_wp2_with fail
  refine (HC.out.all _ none (some ⟨B, 0, none⟩) _ 3 3 0 1 0 1 2 2 LE T5 [eT, T5] V5 (-1) 0 3 _ (L6.out.alloc_ _) (by decide) (by decide) HS.out.1 rfl (R6.out.kp (Kp.alloc_ _ _)) HS.out.2.2.1 rfl rfl P6.out (by decide) (by decide) HS.out.2.2.2.1 rfl HV.out.1 rfl).mono ?_; rintro e w1 ⟨A1, c1, rfl, b1, l1, k1⟩
  have K16 := Lib.hid ((Kp.alloc_ W6 (.cells #[.slice none 0 0, .slice none 0 0, .slice none 0 0, .slice (some ⟨B, 0, none⟩) 1 1] 25)).tr k1)
  have K := Lib.hid (K6.out.tr K16.out)
  have L6 := Lib.hid (L6.out.kp K16.out)
  have R6 := Lib.hid (R6.out.kp K16.out)
  have F6 := Lib.hid (F6.out.kp K16.out)
  have q0 := F6.out.c0
  have q1 := F6.out.c1
  clear k1
  go_wp2_with fail
  refine (HC.out.all _ none (some ⟨B, 0, none⟩) none _ 3 0 1 0 1 0 0 LE T5 [] [] 2 130 0 _ L6.out (by decide) (by decide) HS.out.1 rfl R6.out HS.out.2.2.1 rfl rfl (RdX.nil_ _ _ _) (by decide) (by decide) HS.out.2.2.2.2 rfl HV.out.2.1 rfl).mono ?_; rintro e w2 ⟨A2, c2, rfl, b2, l2, k2⟩
  have K := Lib.hid (K.out.tr k2)
  have R6 := Lib.hid (R6.out.kp k2)
  have F6 := Lib.hid (F6.out.kp k2)
  have b1 := Lib.hid (b1.out.kp k2)
  have q0 := F6.out.c0
  have q1 := F6.out.c1
  clear k2
  go_wp2_with fail
  refine (HC.out.all none none (some ⟨B, 0, none⟩) none _ 0 0 1 0 1 0 0 [] T5 [] [] (-1) 100 0 _ (RdN.nil_ _ _ _) (by decide) (by decide) HS.out.2.1 rfl R6.out HS.out.2.2.1 rfl rfl (RdX.nil_ _ _ _) (by decide) (by decide) HS.out.2.2.2.2 rfl HV.out.2.2.1 rfl).mono ?_; rintro e w3 ⟨A3, c3, rfl, b3, l3, k3⟩
  have K := Lib.hid (K.out.tr k3)
  have R6 := Lib.hid (R6.out.kp k3)
  have F6 := Lib.hid (F6.out.kp k3)
  have b1 := Lib.hid (b1.out.kp k3)
  have q0 := (F6.out.kp (Kp.alloc_ w3 (.cells #[.int .i64 7] 3))).c0
  have q1 := (F6.out.kp (Kp.alloc_ w3 (.cells #[.int .i64 7] 3))).c1
  clear k3
  go_wp2_with fail
  refine (HC.out.node none (some ⟨w3.heap.size, 0, none⟩) none (some ⟨B, 0, none⟩) none none 0 1 0 1 0 1 0 1 0 0 0 0 (3, [], [7]) T5 ([], [7]) [] [] 0 0 1 _ (Rd.nil _ _) (Rd.one w3 7 _) rfl rfl (by decide) (by decide) (by decide) (by decide) (by refine ⟨?_, ?_, ?_⟩ <;> intro x hx <;> simp at hx <;> omega) (RdX.nil_ _ _ _) (by decide) (by decide) HS.out.2.2.2.2 rfl (R6.out.kp (Kp.alloc_ _ _)) HS.out.2.2.1 rfl rfl (RdX.nil_ _ _ _) (by decide) (by decide) HS.out.2.2.2.2 rfl HV.out.2.2.2 rfl rfl).mono ?_; rintro e w4 ⟨P4, c4, Q4, d4, rfl, r4, k4⟩
  have K34 := Lib.hid (((Kp.alloc_ w3 (.cells #[.int .i64 7] 3)).tr k4).tr (Kp.alloc_ w4 (.cells #[.slice P4 0 c4, .slice Q4 1 d4] 25)))
  have K := Lib.hid (K.out.tr K34.out)
  have b1 := Lib.hid (b1.out.kp K34.out)
  have r4 := Lib.hid (r4.out.kp (Kp.alloc_ w4 (.cells #[.slice P4 0 c4, .slice Q4 1 d4] 25)))
  have F4 : Hid (Bk (w4.alloc (.cells #[.slice P4 0 c4, .slice Q4 1 d4] 25)) w4.heap.size P4 0 c4 Q4 1 d4) := Bk.new rfl
  obtain ⟨ad, P, c, Q, d, rfl, hlt, g1, g2, g3⟩ := rd_two_cells b1.out (k := 1) (t := ([], [-5])) rfl
  have G3 := Lib.hid g3
  have ea : ad.add (1 * 2) = ⟨ad.block, ad.off + 2, none⟩ := by unfold Addr.add; simp
  rw [ea] at g1 g2
  replace g1 : (w4.alloc (.cells #[.slice P4 0 c4, .slice Q4 1 d4] 25)).cell? ⟨ad.block, ad.off + 2, none⟩ = some (.slice P 0 c) := g1
  replace g2 : (w4.alloc (.cells #[.slice P4 0 c4, .slice Q4 1 d4] 25)).cell? ⟨ad.block, ad.off + 2 + 1, none⟩ = some (.slice Q 1 d) := g2
  have N5 : Hid (Rd ((w4.alloc (.cells #[.slice P4 0 c4, .slice Q4 1 d4] 25)).alloc (.cells #[.int .i64 (-5)] 3)) (some ⟨w4.heap.size + 1, 0, none⟩) [-5]) := by
    have h := Rd.one (w4.alloc (.cells #[.slice P4 0 c4, .slice Q4 1 d4] 25)) (-5) 3
    rw [World.size_alloc] at h
    exact h
  have QD : Hid (Rd ((w4.alloc (.cells #[.slice P4 0 c4, .slice Q4 1 d4] 25)).alloc (.cells #[.int .i64 (-5)] 3)) Q [-5]) := G3.out.r.d.alloc_ _
  clear k4 q0 q1 g3 ea
  go_wp2_with fail
  refine (same_g [-5] [-5] QD.out N5.out rfl rfl (r := true) (by decide)).mono ?_; rintro e w5 ⟨rfl, k5⟩
  have K45 := Lib.hid ((Kp.alloc_ _ (.cells #[.int .i64 (-5)] 3)).tr k5)
  have K := Lib.hid (K.out.tr K45.out)
  have r5 := Lib.hid (r4.out.kp K45.out)
  have F5 := Lib.hid (F4.out.kp K45.out)
  have q0 := F5.out.c0
  have q1 := F5.out.c1
  have N7 := Lib.hid (Rd.one w5 7 3)
  have Q7 : Hid (Rd (w5.alloc (.cells #[.int .i64 7] 3)) Q4 [7]) := r5.out.r.d.alloc_ _
  clear k5 g1 g2
  go_wp2_with fail
  refine (same_g [7] [7] Q7.out N7.out rfl rfl (r := true) (by decide)).mono ?_; rintro e w6 ⟨rfl, k6⟩
  have K := Lib.hid (K.out.tr ((Kp.alloc_ w5 (.cells #[.int .i64 7] 3)).tr k6))
  clear k6 q0 q1
  go_wp2
  go_ret
  exact ⟨rfl, K.out⟩
end Go.Proofs.YtdbncanedokinaaGreat
