/- GraphMore, over the contracts of the calls. -/
import Derived.Test.YtklphpphgkbjoaaGrAll
namespace Go.Proofs.Ytklphpphgkbjoaa
open Go.RowKit Go.Proofs.ShM Go.Proofs.GrM
set_option linter.unusedVariables false
set_option maxHeartbeats 8000000

theorem not_new {w : World} {n c k : Nat} (hk : k < w.heap.size) (e : (Value.slice (some ⟨w.heap.size, 0, none⟩) n c).ownBlock = some k) : False := by
  have e' : w.heap.size = k := by simpa [Value.ownBlock] using e
  omega
/-- One node, of one Arg, in a row behind rows of the call's own. -/
theorem node_row {B : Nat} {w w5 : World} {v : Value} {ts : List Nd} {op z : Int} (k : Kp w5 w) (o : OwnN B w v ts) :
    RdN ((w.alloc (.cells #[.int .i64 z] 3)).alloc (.cells #[.int .i64 op, .slice (some ⟨w.heap.size, 0, none⟩) 1 1, .slice none 0 0] 35)) (fun k => v.ownBlock ≠ some k) (some ⟨w.heap.size + 1, 0, none⟩) [(op, [z], ([] : List Int))] := by
  have hx : v.ownBlock ≠ some w.heap.size := fun e => by have := o.row_lt e; omega
  have h := RdN.one (X := fun k => v.ownBlock ≠ some k) (t := (op, [z], ([] : List Int))) (P := some ⟨w.heap.size, 0, none⟩) (Q := none) (c := 1) (d := 0) ⟨Rd.one w z 3, Rd.nil _ _, fun ad e _ => by injection e with e; rw [← e]; exact hx, fun ad e _ => by cases e⟩ ⟨by show 1 ≤ 1; omega, by omega⟩ ⟨by show 0 ≤ 0; omega, by omega⟩ 35
  rw [World.size_alloc] at h
  exact h
set_option maxRecDepth 100000 in
theorem gmore_walk (C : GrC) (A : Option Addr) (c : Nat) (l : List Nd) (W : World) (R : RdG W A l) (N : ∀ t ∈ l, Nd64 t) (L : l.length ≤ c) (M : c ≤ 9223372036854775807) :
    Calls Try.prog 8 #[.slice A l.length c] W fun e w' => e = .returned (.bool true) ∧ Below W.heap.size W w' := by
  have HC := Lib.hid C
  have HRD := Lib.hid R
  have HAW : Hid (Calls Try.prog 9 #[] W fun e w' => e = .returned (.bool true) ∧ Kp W w') := grawake_any C W
  have HF : Hid (∀ V, Kp W V → Calls Try.prog 10 #[.slice A l.length c] V fun e w' => e = .returned (.bool (fewN l)) ∧ w' = V) := fun V k => rfew10_any A c l V (R.kp k)
  have HLM := Lib.hid (And.intro L M)
  cases hf : fewN l with
  | false =>
    rw [hf] at HF
    clear hf C R N
    go_enter Try.func8, Try.ntmps8
    go_wp2_with fail
    refine (Hid.out HAW).mono ?_; rintro e w1 ⟨rfl, k1⟩
    have K := Lib.hid k1
    clear k1
    go_wp2_with fail
    refine (HF.out _ K.out).mono ?_; rintro e w2 ⟨rfl, rfl⟩
    go_wp2
    go_ret
    exact ⟨rfl, K.out⟩
  | true =>
    have HS := Lib.hid (small_few hf N)
    have hl30 := (few_iff.1 hf).2
    rw [hf] at HF
    have HCK : Hid (∀ V, Kp W V → Calls Try.prog 13 #[.slice A l.length c] V fun e w' => e = .returned (.bool (checkB l)) ∧ Kp V w') := fun V k => C.check A c l.length l (checkB l) V (R.kp k) L M HS.out rfl rfl
    cases hc : checkB l with
    | false =>
      rw [hc] at HCK
      clear hf hc C R N
      go_enter Try.func8, Try.ntmps8
      go_wp2_with fail
      refine (Hid.out HAW).mono ?_; rintro e w1 ⟨rfl, k1⟩
      have K := Lib.hid k1
      clear k1
      go_wp2_with fail
      refine (HF.out _ K.out).mono ?_; rintro e w2 ⟨rfl, rfl⟩
      go_wp2_with fail
      refine (HCK.out _ K.out).mono ?_; rintro e w3 ⟨rfl, k3⟩
      have K := Lib.hid (K.out.tr k3)
      clear k3
      go_wp2
      go_ret
      exact ⟨rfl, K.out⟩
    | true =>
      rw [hc] at HCK
      by_cases h23 : 23 < l.length
      · have h23' : (23 : Int) < (l.length : Int) := by omega
        clear hf hc C R N
        go_enter Try.func8, Try.ntmps8
        go_wp2_with fail
        refine (Hid.out HAW).mono ?_; rintro e w1 ⟨rfl, k1⟩
        have K := Lib.hid k1
        clear k1
        go_wp2_with fail
        refine (HF.out _ K.out).mono ?_; rintro e w2 ⟨rfl, rfl⟩
        go_wp2_with fail
        refine (HCK.out _ K.out).mono ?_; rintro e w3 ⟨rfl, k3⟩
        have K := Lib.hid (K.out.tr k3)
        clear k3
        go_wp2
        go_ret
        exact ⟨rfl, K.out⟩
      · have h23' : ¬ (23 : Int) < (l.length : Int) := by omega
        have h24 : l.length < 24 := by omega
        have h1 := (check_iff.1 hc).1
        obtain ⟨z, hz⟩ : ∃ z, z = (l.length : Int) - 1 := ⟨_, rfl⟩
        have hz0 : 0 ≤ z ∧ z ≤ 30 := by omega
        obtain ⟨lm, hlm⟩ : ∃ lm, lm = l ++ [((20 : Int), [z], ([] : List Int))] := ⟨_, rfl⟩
        have hml : lm.length = l.length + 1 := by rw [hlm, List.length_append]; rfl
        have hSM : SmallG lm := by
          rw [hlm]
          exact small_snoc HS.out (by omega) (by show 1 ≤ 100; omega) (by show 0 ≤ 100; omega) ⟨w64_one (x := 20) (by omega), w64_one (by omega), w64_nil⟩
        have hv1 : checkB lm = true := by rw [hlm, hz, check_neg hc]; simpa using h24
        have hv2 : liveV lm = liveV l ++ [(l.length : Int)] := by rw [hlm, hz]; exact live_neg hc h24
        have hv3 : usesV lm z = [(l.length : Int)] := by rw [hlm, hz]; exact (uses_neg hc h24).1
        have hv4 : usesV lm (l.length : Int) = [] := by rw [hlm, hz]; exact (uses_neg hc h24).2
        obtain ⟨lv, hlv⟩ : ∃ lv, lv = liveV l := ⟨_, rfl⟩
        obtain ⟨lw, hlw⟩ : ∃ lw, lw = liveV l ++ [(l.length : Int)] := ⟨_, rfl⟩
        rw [← hlw] at hv2
        have HLW : Hid (lw = lv ++ [(l.length : Int)]) := by show _ = _; rw [hlw, hlv]
        have hll : lv.length ≤ 30 := by have := live_few l; rw [← hlv] at this; omega
        have HV := Lib.hid (And.intro hv1 (And.intro hv2 (And.intro hv3 (And.intro hv4 (And.intro hSM (And.intro hml hll))))))
        have HLV : Hid (∀ V, Kp W V → Calls Try.prog 22 #[.slice A l.length c] V (RetG lv lv.length V)) := fun V k => C.live A c l.length lv.length l lv V (R.kp k) L M HS.out rfl hlv.symm rfl
        have HML : Hid (lm = l ++ [((20 : Int), [z], ([] : List Int))]) := hlm
        have hwz : IntKind.i64.wrap ((l.length : Int) - 1) = z := by rw [IntKind.wrap_i64]; omega
        have hzn : Hid (z = (l.length : Int) - 1) := hz
        clear hf hc C R N hz hlm hml hSM hv1 hv2 hv3 hv4 hlv hlw hll
        go_enter Try.func8, Try.ntmps8
        go_wp2_with fail
        refine (Hid.out HAW).mono ?_; rintro e w1 ⟨rfl, k1⟩
        have K := Lib.hid k1
        clear k1
        go_wp2_with fail
        refine (HF.out _ K.out).mono ?_; rintro e w2 ⟨rfl, rfl⟩
        go_wp2_with fail
        refine (HCK.out _ K.out).mono ?_; rintro e w3 ⟨rfl, k3⟩
        have K := Lib.hid (K.out.tr k3)
        have hO0 := Lib.hid (OwnN.zero w3 (Nat.le_refl _))
        have hR0 : Hid (RdN (w3.alloc (.cells #[] 35)) (fun k => (Value.slice (some ⟨w3.heap.size, 0, none⟩) 0 0).ownBlock ≠ some k) A l) := (HRD.out.kp K.out).old.mono (Kp.alloc_ _ _) (fun k hk _ e => not_new hk e)
        have hs0 : Hid (w3.heap.size ≤ (w3.alloc (.cells #[] 35)).heap.size) := by show _ ≤ _; simp
        clear k3 HCK HF HAW
        go_wp2_with (at_builtin; (first
          | (refine wpList_appN (B := w3.heap.size) rfl (.tmp 21) (.tmp 22) rfl _ [] rfl hO0.out A c l _ rfl rfl hR0.out (by simp; omega) hs0.out ?_; intro z1 A1 c1 w5 HZ o5 b5 _; have O5 := Lib.hid o5; have K5 : Hid (Kp w3 w5) := (Kp.alloc_ _ _).trans b5
             have O7 : Hid (OwnN w3.heap.size ((w5.alloc (.cells #[.int .i64 z] 3)).alloc (.cells #[.int .i64 20, .slice (some ⟨w5.heap.size, 0, none⟩) 1 1, .slice none 0 0] 35)) (.slice A1 z1.length c1) z1) := (O5.out.kp (Kp.alloc_ _ _)).kp (Kp.alloc_ _ _)
             have R7 : Hid (RdN ((w5.alloc (.cells #[.int .i64 z] 3)).alloc (.cells #[.int .i64 20, .slice (some ⟨w5.heap.size, 0, none⟩) 1 1, .slice none 0 0] 35)) (fun k => (Value.slice A1 z1.length c1).ownBlock ≠ some k) (some ⟨w5.heap.size + 1, 0, none⟩) [((20 : Int), [z], ([] : List Int))]) := node_row (Kp.refl w5) O5.out
             have s7 : Hid (w3.heap.size ≤ ((w5.alloc (.cells #[.int .i64 z] 3)).alloc (.cells #[.int .i64 20, .slice (some ⟨w5.heap.size, 0, none⟩) 1 1, .slice none 0 0] 35)).heap.size) := (gal (gal K5.out _) _).size
             clear o5 b5)
          | (refine wpList_appN (B := w3.heap.size) rfl (.tmp 23) (.tmp 29) rfl _ z1 rfl O7.out _ 1 [((20 : Int), [z], ([] : List Int))] 1 rfl rfl R7.out (by rw [HZ.out]; simp; omega) s7.out ?_; intro z2 A2 c2 w8 HZ2 o8 b8 _; have O8 := Lib.hid o8; have K8 : Hid (Kp w3 w8) := (gal (gal K5.out _) _).trans b8; clear o8 b8)))
        have hz2 : lm = z2 := by rw [HZ2.out, HZ.out, HML.out]; rfl
        subst hz2
        have K8W := Lib.hid (K.out.tr K8.out)
        have E8 := Lib.hid (Own.zero w8 (Nat.le_refl _))
        clear HZ HZ2 O7 R7 s7 O5 K5 hO0 hR0 hs0 K K8
        refine (HLV.out _ (gal K8W.out _)).mono ?_; rintro e w9 ⟨A9, c9, rfl, r9, _, k9⟩
        have K9 : Hid (Kp w8 w9) := (Kp.alloc_ _ _).tr k9
        have E9 := Lib.hid (E8.out.kp k9)
        have s9 : Hid (w8.heap.size ≤ w9.heap.size) := K9.out.size
        have hll := HV.out.2.2.2.2.2.2
        clear k9
        go_wp2_with (at_builtin; (first
          | (refine wpList_app (B := w8.heap.size) rfl (.tmp 31) (.tmp 33) rfl _ [] rfl E9.out A9 c9 lv _ rfl rfl r9.out (by simp; omega) s9.out ?_; intro z3 A3 c3 w10 HZ3 o10 b10; have K10 : Hid (Kp w8 w10) := K9.out.trans b10
             have E11 : Hid (Own w8.heap.size (w10.alloc (.cells #[.int .i64 (l.length : Int)] 3)) (.slice A3 z3.length c3) z3) := o10.kp (Kp.alloc_ _ _)
             have r11 : Hid (Rd (w10.alloc (.cells #[.int .i64 (l.length : Int)] 3)) (some ⟨w10.heap.size, 0, none⟩) [(l.length : Int)]) := Rd.one w10 _ _
             have s11 : Hid (w8.heap.size ≤ (w10.alloc (.cells #[.int .i64 (l.length : Int)] 3)).heap.size) := (gal K10.out _).size
             clear o10 b10)
          | (refine wpList_app (B := w8.heap.size) rfl (.tmp 34) (.tmp 37) rfl _ z3 rfl E11.out _ 1 [(l.length : Int)] 1 rfl rfl r11.out (by rw [HZ3.out]; simp; omega) s11.out ?_; intro z4 A4 c4 w12 HZ4 o12 b12; have E12 := Lib.hid o12; have K12 : Hid (Kp w8 w12) := (gal K10.out _).trans b12; clear o12 b12)))
        have hz4 : lw = z4 := by rw [HZ4.out, HZ3.out, HLW.out]; rfl
        subst hz4
        have K12W := Lib.hid (K8W.out.tr K12.out)
        have r12 := Lib.hid (i_of_own E12.out)
        have M12 := Lib.hid (n_of_own (O8.out.kp K12.out))
        clear HZ3 HZ4 E11 r11 s11 E9 E8 s9 K9 K10 r9 K12 E12 O8 K8W
        refine (HC.out.check A2 c2 lm.length lm true _ M12.out.1 M12.out.2.1 M12.out.2.2 HV.out.2.2.2.2.1 rfl HV.out.1).mono ?_; rintro e w13 ⟨rfl, k13⟩
        have K13 := Lib.hid (K12W.out.tr k13)
        have r13 := Lib.hid (r12.out.kp k13)
        have M13 := Lib.hid (M12.out.1.kp k13)
        clear k13
        go_wp2_with fail
        refine (HC.out.live A2 c2 lm.length lw.length lm lw _ M13.out M12.out.2.1 M12.out.2.2 HV.out.2.2.2.2.1 rfl HV.out.2.1 rfl).mono ?_; rintro e w14 ⟨A14, c14, rfl, p14, _, k14⟩
        have K14 := Lib.hid (K13.out.tr k14)
        have r14 := Lib.hid (r13.out.kp k14)
        have M14 := Lib.hid (M13.out.kp k14)
        clear k14
        go_wp2_with fail
        refine (same_g lw lw p14.out r14.out rfl rfl (r := true) (by simp)).mono ?_; rintro e w15 ⟨rfl, k15⟩
        have K15 := Lib.hid (K14.out.tr k15)
        have M15 := Lib.hid (M14.out.kp k15)
        clear k15 p14 r14 r13 r12 M13 M14
        have I64z : Hid (I64 z ∧ I64 (l.length : Int)) := ⟨by unfold I64; omega, by unfold I64; omega⟩
        go_wp2_with fail
        refine (HC.out.uses A2 c2 lm.length 1 lm z _ _ M15.out M12.out.2.1 M12.out.2.2 HV.out.2.2.2.2.1 I64z.out.1 rfl HV.out.2.2.1 rfl).mono ?_; rintro e w16 ⟨A16, c16, rfl, p16, _, k16⟩
        have K16 := Lib.hid (K15.out.tr (gal k16 (.cells #[.int .i64 (l.length : Int)] 3)))
        have p17 := Lib.hid (p16.out.alloc_ (.cells #[.int .i64 (l.length : Int)] 3))
        have q17 := Lib.hid (Rd.one w16 (l.length : Int) 3)
        have M16 := Lib.hid ((M15.out.kp k16).alloc_ (.cells #[.int .i64 (l.length : Int)] 3))
        clear k16 p16
        go_wp2_with fail
        refine (same_g [(l.length : Int)] [(l.length : Int)] p17.out q17.out rfl rfl (r := true) (by simp)).mono ?_; rintro e w18 ⟨rfl, k18⟩
        have K18 := Lib.hid (K16.out.tr k18)
        have M18 := Lib.hid (M16.out.kp k18)
        clear k18 p17 q17
        go_wp2_with fail
        refine (HC.out.uses A2 c2 lm.length 0 lm (l.length : Int) _ _ M18.out M12.out.2.1 M12.out.2.2 HV.out.2.2.2.2.1 I64z.out.2 rfl HV.out.2.2.2.1 rfl).mono ?_; rintro e w19 ⟨A19, c19, rfl, _, _, k19⟩
        have K19 := Lib.hid (K18.out.tr k19)
        clear k19
        go_wp2
        go_ret
        exact ⟨rfl, K19.out⟩
end Go.Proofs.Ytklphpphgkbjoaa
