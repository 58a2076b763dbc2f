/- The document's layer 9: Take. -/
import Derived.Test.YtlbnbamgfffahaaImMem
import Derived.Test.YtlbnbamgfffahaaR8D
namespace Go.Proofs.Ytlbnbamgfffahaa
open Go.RowKit Go.Proofs.ShM Go.Proofs.PkM Go.Proofs.ImM
set_option linter.unusedVariables false
set_option maxHeartbeats 4000000

/-- A tensor of the call's own, bytes that lie in memory, with room, and an error. -/
def RetTE (A0 : Option Addr) (bs : List Int) (t : T) (r : List Int) (err : Int) (W : World) (e : Ending) (W' : World) : Prop :=
  ∃ P a Q b R c, e = .returned (.tuple #[.agg #[.slice P t.1.length a, .slice Q t.2.length b], .slice R r.length c, .int .i64 err]) ∧ Own W.heap.size W' (.slice P t.1.length a) t.1 ∧ Own W.heap.size W' (.slice Q t.2.length b) t.2 ∧ (∀ V, B8.Rd V A0 bs → B8.Rd V R r) ∧ r.length ≤ c ∧ c ≤ 9223372036854775807 ∧ Kp W W'
theorem retTE_bad (A0 : Option Addr) (bs : List Int) {w w' : World} (k : Kp w w') : RetTE A0 bs ([], []) [] 50 w (.returned (.tuple #[.agg #[.slice none 0 0, .slice none 0 0], .slice none 0 0, .int .i64 50])) w' :=
  ⟨none, 0, none, 0, none, 0, rfl, Own.nil_ _ _, Own.nil_ _ _, fun _ _ => B8.Rd.nil _ _, by simp, by simp, k⟩
theorem Own.weak9 {B C : Nat} {w : World} {v : Value} {xs : List Int} (h : Own C w v xs) (hB : B ≤ C) : Own B w v xs := by
  refine ⟨h.1, ?_⟩
  rcases h.2 with h0 | ⟨g, cap, cur, e, hb, r⟩
  · exact .inl h0
  · exact .inr ⟨g, cap, cur, e, by omega, r⟩
theorem own_rdn {B n c : Nat} {A : Option Addr} {xs : List Int} {w : World} (h : Own B w (.slice A n c) xs) : Rd w A xs := by
  obtain ⟨A', c', e, hr⟩ := h.form
  injection e with e1 e2 e3
  rw [e1]; exact hr
theorem rtake9_any (A : Option Addr) (c : Nat) (bs : List Int) (w : World) (hR : B8.Rd w A bs) (hc1 : bs.length ≤ c) (hc2 : c ≤ 9223372036854775807) (hb : Bytes bs) (hbl : bs.length ≤ 200000) :
    Calls Try.prog 16 #[.slice A bs.length c] w (RetTE A bs (itakeV bs).1 (itakeV bs).2.1 (itakeV bs).2.2 w) := by
  have F0 := Lib.hid (Bk.new (W := w) (b := w.heap.size) (A := none) (n := 0) (c := 0) (B := none) (m := 0) (d := 0) rfl)
  have K0 : Hid (Kp w (w.alloc (.cells #[.slice none 0 0, .slice none 0 0] 26))) := Kp.alloc_ _ _
  obtain ⟨W0, hW0⟩ : ∃ W0, W0 = w.alloc (.cells #[.slice none 0 0, .slice none 0 0] 26) := ⟨_, rfl⟩
  rw [← hW0] at F0 K0
  have HR0 := Lib.hid (hR.kp K0.out)
  obtain ⟨s, b0, er, hs⟩ : ∃ s b0 er, takeListV bs 1 = (s, b0, er) := ⟨_, _, _, rfl⟩
  have HTL := Lib.hid (rtakeList8_any A c bs 1 W0 HR0.out hc1 hc2 hb hbl)
  rw [hs] at HTL
  have HW0 := Lib.hid hW0
  have HCK : Hid (∀ (P : Option Addr) (a : Nat) (W : World), Rd W P s → Calls Try.prog 30 #[.slice P s.length a] W fun e w' => e = .returned (.bool (okS s)) ∧ W = w') := fun P a W h => rcheck_any P a s W h
  by_cases hg : er = 0 ∧ okS s = true
  · obtain ⟨he, hok⟩ := hg
    subst he
    rw [hok] at HCK
    obtain ⟨o, ho⟩ : ∃ o, o = manyV 8 (sizeV s).toNat b0 := ⟨_, rfl⟩
    have hv : itakeV bs = match o.map (fun p => ((s, p.1), p.2)) with
      | some p => (p.1, p.2, 0)
      | none => (([], []), [], 50) := by
      unfold itakeV itakeO
      rw [hs, if_pos ⟨rfl, hok⟩, ho]
      rfl
    obtain ⟨cnt, hcnt, hcnt2⟩ : ∃ cnt : Nat, (cnt : Int) = sizeV s ∧ cnt ≤ 64 := by
      have h1 := ok_prod hok
      rw [← size_ok hok] at h1
      exact ⟨(sizeV s).toNat, by omega, by omega⟩
    have H0 : Hid (Rl o [] b0 8 cnt) := by rw [ho, show (sizeV s).toNat = cnt by omega]; exact rl_start _ _ _
    have HSZ : Hid (∀ (P : Option Addr) (a : Nat) (W : World), Rd W P s → Calls Try.prog 31 #[.slice P s.length a] W fun e w' => e = .returned (.int .i64 (cnt : Int)) ∧ W = w') := fun P a W h => by rw [hcnt]; exact rsize_any P a s W h
    have HB0 : Hid (Bytes b0 ∧ b0.length ≤ 200000) := by
      obtain ⟨cc, _, hcc⟩ := take_list hb hs
      refine ⟨fun x hx => hb x (by rw [← hcc]; exact List.mem_append_right _ hx), ?_⟩
      have := congrArg List.length hcc
      rw [List.length_append] at this
      omega
    have HRD : Hid (∀ (D : Option Addr) (d : Nat) (rest : List Int) (W : World), B8.Rd W D rest → rest.length ≤ d → d ≤ 9223372036854775807 → Bytes rest → 8 ≤ rest.length → rest.length ≤ 200000 → Calls Try.prog 32 #[.slice D rest.length d, .int .i64 8] W (RetRE D rest (PkM.asInt (valL (rest.take 8))) (rest.drop 8) 0 W)) :=
      fun D d rest W h1 h2 h3 h4 h5 h6 => rtake8_8 D d rest W h1 h2 h3 h4 h5 (by omega)
    have HRS : Hid (∀ (D : Option Addr) (d : Nat) (rest : List Int) (W : World), ¬ 8 ≤ rest.length → Calls Try.prog 32 #[.slice D rest.length d, .int .i64 8] W (RetRE D rest 0 [] 40 W)) :=
      fun D d rest W h => rtake8_bad D d rest 8 W (fun g => h (by have := g.2; omega))
    obtain ⟨V, hV⟩ : ∃ V, V = itakeV bs := ⟨_, rfl⟩
    rw [← hV]
    rw [← hV] at hv
    have HV := Lib.hid hv
    clear hv hV ho hcnt hs hok hR hb
    go_enter Try.func16, Try.ntmps16
    go_wp2_with fail
    rw [← HW0.out]
    refine (Hid.out HTL).mono ?_; rintro e w1 ⟨P, a, R, d, rfl, o1, i1, j1, l1, k1⟩
    have K1 := Lib.hid k1
    have O1 := Lib.hid o1
    have I1 := Lib.hid (And.intro i1 (And.intro j1 l1))
    have R1 := Lib.hid (own_rdn o1)
    clear k1 o1 i1 j1 l1
    go_wp2_with fail
    refine (HCK.out _ _ _ R1.out).mono ?_; rintro e w2 ⟨rfl, rfl⟩
    obtain ⟨G, hG⟩ : ∃ G, G = w1.heap.size := ⟨_, rfl⟩
    have hGl : Hid (w.heap.size + 1 ≤ G) := by
      show _ ≤ G
      have h1 := K1.out.size
      have h2 : W0.heap.size = w.heap.size + 1 := by rw [HW0.out]; simp
      omega
    have hs0 : Hid (W0.heap.size = w.heap.size + 1) := by show _ = _; rw [HW0.out]; simp
    have FB : Hid (Bk (w1.alloc (.cells #[.slice P s.length a, .slice none 0 0] 26)) G P s.length a none 0 0) := Bk.new hG
    have K2 : Hid (Kp w1 (w1.alloc (.cells #[.slice P s.length a, .slice none 0 0] 26))) := Kp.alloc_ _ _
    have HGe := Lib.hid hG
    clear hW0 HTL HCK
    go_wp2
    rw [← HGe.out]
    clear hG
    obtain ⟨W2, hW2⟩ : ∃ W2, W2 = w1.alloc (.cells #[.slice P s.length a, .slice none 0 0] 26) := ⟨_, rfl⟩
    rw [← hW2] at FB K2 ⊢
    clear hW2
    go_loopw [6, 10] (fun v i wx => ∃ (k : Nat) (D : Option Addr) (d : Nat) (rest done : List Int) (E : Option Addr) (f : Nat), v = .slice D rest.length d ∧ i = .int .i64 (k : Int) ∧ Hid (k ≤ cnt) ∧ Hid (done.length = k) ∧ Hid (Rl o done rest 8 (cnt - k)) ∧ Hid (Bytes rest ∧ rest.length ≤ 200000 ∧ rest.length ≤ d ∧ d ≤ 9223372036854775807) ∧ Hid (∀ V, B8.Rd V A bs → B8.Rd V D rest) ∧ Hid (Bk wx G P s.length a E done.length f) ∧ Hid (Own (G + 1) wx (.slice E done.length f) done) ∧ Hid (Kp w1 wx)) (fun _ i _ => cnt - (intOf i).toNat)
    case atStart => exact ⟨0, R, d, b0, [], none, 0, rfl, rfl, Nat.zero_le _, rfl, H0.out, ⟨HB0.out.1, HB0.out.2, I1.out.2.1, I1.out.2.2⟩, I1.out.1, FB.out, Own.nil_ _ _, K2.out⟩
    case round =>
      obtain ⟨k, D, d, rest, done, E, f, rfl, rfl, hk, hdn, hT, hB, hV, hF, hOw, hK⟩ := hrel
      have HS := Lib.hid (HSZ.out P a wr (R1.out.kp hK.out))
      by_cases hj : k < cnt
      · have hj' : (k : Int) < (cnt : Int) := by omega
        obtain ⟨p, hp⟩ : ∃ p, cnt - k = p + 1 := ⟨cnt - k - 1, by omega⟩
        rw [hp] at hT
        by_cases hq : 8 ≤ rest.length
        · have HC := Lib.hid (HRD.out D d rest wr (hV.out _ ((HR0.out.kp K1.out).kp hK.out)) hB.out.2.2.1 hB.out.2.2.2 hB.out.1 hq hB.out.2.1)
          have HT2 := Lib.hid (rl_step hT.out hq)
          obtain ⟨x, hx⟩ : ∃ x, x = PkM.asInt (valL (rest.take 8)) := ⟨_, rfl⟩
          rw [← hx] at HC HT2
          have HB2 : Hid (Bytes (rest.drop 8) ∧ (rest.drop 8).length ≤ 200000) := ⟨fun y hy => hB.out.1 y (List.mem_of_mem_drop hy), by rw [List.length_drop]; have := hB.out.2.1; omega⟩
          obtain ⟨rest2, hr2⟩ : ∃ rest2, rest2 = rest.drop 8 := ⟨_, rfl⟩
          rw [← hr2] at HC HT2 HB2
          clear hx hr2 hq
          go_wp2_with fail
          refine (Hid.out HS).mono ?_; rintro e0 w4 ⟨rfl, rfl⟩
          go_wp2_with fail
          refine (Hid.out HC).mono ?_; rintro e w5 ⟨D5, d5, rfl, i5, j5, l5, k5⟩
          have I5 := Lib.hid (And.intro (fun V hh => i5 V (hV.out V hh)) (And.intro j5 (And.intro l5 (hK.out.tr k5))))
          have hF5 := Lib.hid (hF.out.kp k5)
          have g1 := hF5.out.c1
          have g2 := (hF5.out.alloc_ (.cells #[.int .i64 x] 3)).f0 1
          have hO5 := Lib.hid ((hOw.out.kp k5).kp (Kp.alloc_ w5 (.cells #[.int .i64 x] 3)))
          have hR5 := Lib.hid (Rd.one w5 x 3)
          have hs5 : Hid (G + 1 ≤ (w5.alloc (.cells #[.int .i64 x] 3)).heap.size) := by show G + 1 ≤ _; have := hF5.out.lt; simp; omega
          clear i5 j5 l5 k5 HC
          go_wp2_with (at_builtin; refine wpList_app rfl (.tmp 47) (.tmp 49) rfl _ done rfl hO5.out _ 1 [x] 1 rfl rfl hR5.out (by have := hdn.out; simp; omega) hs5.out ?_; intro z1 A1 c1 w6 HZ o1 b1; have hF6 : Hid (Bk w6 G P s.length a E done.length f) := ((b1.block G (Nat.lt_succ_self _)).trans (hF5.out.alloc_ _)); have K6 : Hid (Kp w1 w6) := ((I5.out.2.2.2.al _).trans (b1.mono (by rw [← HGe.out]; omega))); have O6 := Lib.hid o1; have g3 := hF6.out.c1; have g4 := hF6.out.f0 1; clear o1 b1)
          have hp2 : cnt - (k + 1) = p := by omega
          have hF7 : Hid (Bk (w6.setCell ⟨G, 1, none⟩ (.slice A1 z1.length c1)) G P s.length a A1 z1.length c1) := heap_set hF6.out 1 _
          have K7 : Hid (Kp w1 (w6.setCell ⟨G, 1, none⟩ (.slice A1 z1.length c1))) := Below.setCell K6.out (by rw [← HGe.out]; exact Nat.le_refl _) _
          have O7 : Hid (Own (G + 1) (w6.setCell ⟨G, 1, none⟩ (.slice A1 z1.length c1)) (.slice A1 z1.length c1) z1) := O6.out.of_block fun g hg => by
            have := O6.out.from_ hg
            rw [Below.heap_setCell _ _ _ _ (by simp; omega)]
          go_roundw
          case rel => exact ⟨k + 1, D5, d5, rest2, z1, A1, c1, rfl, rfl, (by show k + 1 ≤ cnt; omega), (by show z1.length = k + 1; rw [HZ.out, List.length_append, hdn.out]; rfl), (by rw [hp2, HZ.out]; exact HT2.out), ⟨HB2.out.1, HB2.out.2, I5.out.2.1, I5.out.2.2.1⟩, I5.out.1, hF7.out, O7.out, K7.out⟩
          case measure => simp [intOf]; omega
        · obtain rfl := rl_bad hT.out hq
          have HC := Lib.hid (HRS.out D d rest wr hq)
          clear hq
          go_wp2_with fail
          refine (Hid.out HS).mono ?_; rintro e0 w4 ⟨rfl, rfl⟩
          go_wp2_with fail
          refine (Hid.out HC).mono ?_; rintro e w5 ⟨D5, d5, rfl, _, _, _, k5⟩
          have K5 := Lib.hid (K1.out.tr (hK.out.tr k5))
          clear k5 HC
          have p0 := (F0.out.kp K5.out).c0
          have p1 := (F0.out.kp K5.out).c1
          have f0 := (F0.out.kp K5.out).f0 0
          have f1 := (F0.out.kp K5.out).f0 1
          go_wp2
          have F9 := (F0.out.kp K5.out).put (C := none) (n' := 0) (c' := 0) (D := none) (m' := 0) (d' := 0)
          have r0 := F9.c0
          have r1 := F9.c1
          have K9 : Hid (Kp w ((w5.setCell ⟨w.heap.size, 0, none⟩ (.slice none 0 0)).setCell ⟨w.heap.size, 1, none⟩ (.slice none 0 0))) := Below.setCell (Below.setCell (K0.out.tr K5.out) (Nat.le_refl _) _) (Nat.le_refl _) _
          refine bodyPost_ret (by simp [results, Try.results16, go_sem, r0, r1]; try rfl) rfl ?_
          rw [HV.out]
          exact retTE_bad A bs K9.out
      · have hj' : ¬ (k : Int) < (cnt : Int) := by omega
        obtain rfl : k = cnt := by have := hk.out; omega
        rw [Nat.sub_self] at hT
        have HE := rl_end hT.out
        have hVe : Hid (V = ((s, done), rest, 0)) := by show V = _; rw [HV.out, HE]; rfl
        clear HE
        go_wp2_with fail
        refine (Hid.out HS).mono ?_; rintro e0 w4 ⟨rfl, rfl⟩
        have g0 := hF.out.c0
        have g1 := hF.out.c1
        have K5 := Lib.hid (K1.out.tr hK.out)
        have p0 := (F0.out.kp K5.out).c0
        have p1 := (F0.out.kp K5.out).c1
        have f0 := (F0.out.kp K5.out).f0 0
        have f1 := (F0.out.kp K5.out).f0 1
        go_wp2
        have F9 := (F0.out.kp K5.out).put (C := P) (n' := s.length) (c' := a) (D := E) (m' := done.length) (d' := f)
        have r0 := F9.c0
        have r1 := F9.c1
        have K9 : Hid (Kp w ((wr.setCell ⟨w.heap.size, 0, none⟩ (.slice P s.length a)).setCell ⟨w.heap.size, 1, none⟩ (.slice E done.length f))) := Below.setCell (Below.setCell (K0.out.tr K5.out) (Nat.le_refl _) _) (Nat.le_refl _) _
        have Os := ((O1.out.kp hK.out).of_block (w' := (wr.setCell ⟨w.heap.size, 0, none⟩ (.slice P s.length a)).setCell ⟨w.heap.size, 1, none⟩ (.slice E done.length f)) fun g hg => by
          have := (O1.out.kp hK.out).from_ hg
          rw [hs0.out] at this
          rw [Below.heap_setCell _ _ _ _ (by simp; omega), Below.heap_setCell _ _ _ _ (by simp; omega)])
        have Od := (hOw.out.of_block (w' := (wr.setCell ⟨w.heap.size, 0, none⟩ (.slice P s.length a)).setCell ⟨w.heap.size, 1, none⟩ (.slice E done.length f)) fun g hg => by
          have := hOw.out.from_ hg
          have := hGl.out
          rw [Below.heap_setCell _ _ _ _ (by simp; omega), Below.heap_setCell _ _ _ _ (by simp; omega)])
        refine bodyPost_ret (by simp [results, Try.results16, go_sem, r0, r1]; try rfl) rfl ?_
        rw [hVe.out]
        exact ⟨P, a, E, f, D, d, rfl, Os.weak9 (by rw [hs0.out]; omega), Od.weak9 (by have := hGl.out; omega), hV.out, hB.out.2.2.1, hB.out.2.2.2, K9.out⟩
  · have hv : itakeV bs = (([], []), [], 50) := by
      unfold itakeV itakeO
      rw [hs, if_neg hg]
    rw [hv]
    by_cases he : er = 0
    · have hok : okS s = false := by
        cases e : okS s with
        | false => rfl
        | true => exact absurd ⟨he, e⟩ hg
      rw [hok] at HCK
      subst he
      clear hok
      clear hv hg hs hR hb
      go_enter Try.func16, Try.ntmps16
      go_wp2_with fail
      rw [← HW0.out]
      refine (Hid.out HTL).mono ?_; rintro e w1 ⟨P, a, R, d, rfl, o1, _, _, _, k1⟩
      have K1 := Lib.hid k1
      have R1 := Lib.hid (own_rdn o1)
      clear k1 o1
      go_wp2_with fail
      refine (HCK.out _ _ _ R1.out).mono ?_; rintro e w2 ⟨rfl, rfl⟩
      have p0 := (F0.out.kp K1.out).c0
      have p1 := (F0.out.kp K1.out).c1
      have f0 := (F0.out.kp K1.out).f0 0
      have f1 := (F0.out.kp K1.out).f0 1
      go_wp2
      have F9 := (F0.out.kp K1.out).put (C := none) (n' := 0) (c' := 0) (D := none) (m' := 0) (d' := 0)
      have r0 := F9.c0
      have r1 := F9.c1
      have K9 : Hid (Kp w ((w1.setCell ⟨w.heap.size, 0, none⟩ (.slice none 0 0)).setCell ⟨w.heap.size, 1, none⟩ (.slice none 0 0))) := Below.setCell (Below.setCell (K0.out.tr K1.out) (Nat.le_refl _) _) (Nat.le_refl _) _
      refine bodyPost_ret (by simp [results, Try.results16, go_sem, r0, r1]; try rfl) rfl ?_
      exact retTE_bad A bs K9.out
    · have he' : (er != 0) = true := by simpa using he
      obtain ⟨q, hq⟩ : ∃ q, q = okS s := ⟨_, rfl⟩
      rw [← hq] at HCK
      clear hq he
      clear hv hg hs hR hb
      go_enter Try.func16, Try.ntmps16
      go_wp2_with fail
      rw [← HW0.out]
      refine (Hid.out HTL).mono ?_; rintro e w1 ⟨P, a, R, d, rfl, o1, _, _, _, k1⟩
      have K1 := Lib.hid k1
      have R1 := Lib.hid (own_rdn o1)
      clear k1 o1
      go_wp2_with fail
      refine (HCK.out _ _ _ R1.out).mono ?_; rintro e w2 ⟨rfl, rfl⟩
      have p0 := (F0.out.kp K1.out).c0
      have p1 := (F0.out.kp K1.out).c1
      have f0 := (F0.out.kp K1.out).f0 0
      have f1 := (F0.out.kp K1.out).f0 1
      go_wp2
      have F9 := (F0.out.kp K1.out).put (C := none) (n' := 0) (c' := 0) (D := none) (m' := 0) (d' := 0)
      have r0 := F9.c0
      have r1 := F9.c1
      have K9 : Hid (Kp w ((w1.setCell ⟨w.heap.size, 0, none⟩ (.slice none 0 0)).setCell ⟨w.heap.size, 1, none⟩ (.slice none 0 0))) := Below.setCell (Below.setCell (K0.out.tr K1.out) (Nat.le_refl _) _) (Nat.le_refl _) _
      refine bodyPost_ret (by simp [results, Try.results16, go_sem, r0, r1]; try rfl) rfl ?_
      exact retTE_bad A bs K9.out
end Go.Proofs.Ytlbnbamgfffahaa
