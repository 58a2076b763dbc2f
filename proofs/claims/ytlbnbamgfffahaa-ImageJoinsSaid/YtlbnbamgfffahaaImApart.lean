/- ImageApart, over the contracts of the calls. -/
import Derived.Test.YtlbnbamgfffahaaImC
import Derived.Deep.CutRange
namespace Go.Proofs.Ytlbnbamgfffahaa
open Go.RowKit Go.Proofs.ShM Go.Proofs.PkM Go.Proofs.ImM
set_option linter.unusedVariables false
set_option linter.unusedSimpArgs false

/-- At most so many tensors, of a hundred sides and numbers. -/
theorem few_t {ts : List T} {m : Int} (h : fewT ts m = true) : (ts.length : Int) ≤ m ∧ ∀ t ∈ ts, t.1.length ≤ 100 ∧ t.2.length ≤ 100 := by
  unfold fewT at h
  rw [Bool.and_eq_true, List.all_eq_true] at h
  refine ⟨of_decide_eq_true h.2, fun t ht => ?_⟩
  have := h.1 t ht
  unfold fewV at this
  simpa using this
theorem all_small : ∀ {ts : List T}, (∀ t ∈ ts, t.1.length ≤ 100 ∧ t.2.length ≤ 100) → (allT ts).length ≤ ts.length * 901
  | [], _ => by simp [allT]
  | t :: ts, h => by
    have h1 := h t (by simp)
    have h2 := all_small (ts := ts) fun u hu => h u (by simp [hu])
    rw [all_t_cons, List.length_append, tn_len, List.length_cons]
    omega
theorem write_cases (ts : List T) : (ts.all tokT = true ∧ iwriteV ts = (allT ts, 0)) ∨ (ts.all tokT = false ∧ iwriteV ts = ([], 30)) := by
  cases h : ts.all tokT with
  | true => exact .inl ⟨rfl, by unfold iwriteV; rw [if_pos h]⟩
  | false => exact .inr ⟨rfl, by unfold iwriteV; rw [if_neg (by simp [h])]⟩
theorem write_len {ts : List T} {r : List Int} {e : Int} (h : iwriteV ts = (r, e)) : r.length ≤ (allT ts).length := by
  rcases write_cases ts with ⟨_, g⟩ | ⟨_, g⟩
  · rw [h] at g; injection g with g _; rw [g]; exact Nat.le_refl _
  · rw [h] at g; injection g with g _; rw [g]; exact Nat.zero_le _
theorem all_t_bytes {ts : List T} (h : ∀ t ∈ ts, t.1.length ≤ 100 ∧ t.2.length ≤ 100) : Bytes (allT ts) := by
  intro b hb
  unfold allT at hb
  rw [List.mem_flatMap] at hb
  obtain ⟨t, ht, hb⟩ := hb
  exact tn_bytes (by have := (h t ht).1; omega) b hb
theorem write_bytes {ts : List T} {r : List Int} {e : Int} (ht : ∀ t ∈ ts, t.1.length ≤ 100 ∧ t.2.length ≤ 100) (h : iwriteV ts = (r, e)) : Bytes r := by
  rcases write_cases ts with ⟨_, g⟩ | ⟨_, g⟩
  · rw [h] at g; injection g with g _; rw [g]; exact all_t_bytes ht
  · rw [h] at g; injection g with g _; rw [g]; exact fun _ h => by cases h

/-- Whether at most twenty, answered. -/
def FewC (A : Option Addr) (c n : Nat) (w : World) (q : Bool) : Prop := ∀ W, Kp w W → Calls Try.prog 9 #[.slice A n c, .int .i64 20] W fun e w' => e = .returned (.bool q) ∧ Kp W w'
theorem few_c {A : Option Addr} {c : Nat} {ts : List T} {w : World} (h : RdT w A ts) {q : Bool} (hq : fewT ts 20 = q) : FewC A c ts.length w q := fun W k => by rw [← hq]; exact rfew9_any A c ts 20 W (h.kp k)

set_option maxHeartbeats 4000000 in
theorem imapart_far (HW : ∀ w : World, Calls Try.prog 8 #[] w fun e w' => e = .returned (.bool true) ∧ Kp w w') (A B : Option Addr) (c d p q : Nat) (w : World) (h : FewC A c p w false ∨ FewC A c p w true ∧ FewC B d q w false) :
    Calls Try.prog 7 #[.slice A p c, .slice B q d] w fun e w' => e = .returned (.bool true) ∧ Kp w w' := by
  have HAW := Lib.hid HW
  clear HW
  rcases h with h | ⟨h, g⟩
  · have H := Lib.hid h
    clear h
    go_enter Try.func7, Try.ntmps7
    go_wp2_with fail
    refine (HAW.out _).mono ?_; rintro e0 w1 ⟨rfl, k1⟩
    have K1 := Lib.hid k1
    clear k1
    go_wp2_with fail
    refine (H.out _ K1.out).mono ?_; rintro e0 w2 ⟨rfl, k2⟩
    have K2 := Lib.hid (K1.out.tr k2)
    clear k2
    go_wp2
    go_ret
    exact ⟨rfl, K2.out⟩
  · have H := Lib.hid h
    have G := Lib.hid g
    clear h g
    go_enter Try.func7, Try.ntmps7
    go_wp2_with fail
    refine (HAW.out _).mono ?_; rintro e0 w1 ⟨rfl, k1⟩
    have K1 := Lib.hid k1
    clear k1
    go_wp2_with fail
    refine (H.out _ K1.out).mono ?_; rintro e0 w2 ⟨rfl, k2⟩
    have K2 := Lib.hid (K1.out.tr k2)
    clear k2
    go_wp2_with fail
    refine (G.out _ K2.out).mono ?_; rintro e0 w3 ⟨rfl, k3⟩
    have K3 := Lib.hid (K2.out.tr k3)
    clear k3
    go_wp2
    go_ret
    exact ⟨rfl, K3.out⟩

set_option maxHeartbeats 8000000 in
set_option maxRecDepth 100000 in
theorem imapart_with (A B : Option Addr) (c d p q : Nat) (ra rb : List Int) (e1 e2 : Int) (k1 k2 : Nat) (r : Bool) (w : World)
    (FA : Hid (FewC A c p w true)) (FB : Hid (FewC B d q w true)) (LL : Hid (ra.length = k1 ∧ rb.length = k2))
    (HW : Hid (∀ w : World, Calls Try.prog 8 #[] w fun e w' => e = .returned (.bool true) ∧ Kp w w'))
    (HE : Hid (e1 = 30 ∨ e1 = 0 ∧ (e2 = 30 ∨ e2 = 0 ∧ ((strOfNums ra).toList == (strOfNums rb).toList) = r)))
    (C1 : Hid (∀ W, Kp w W → Calls Try.prog 13 #[.slice A p c] W (RetB ra e1 k1 W)))
    (C2 : Hid (∀ W, Kp w W → Calls Try.prog 13 #[.slice B q d] W (RetB rb e2 k2 W)))
    (CS : Hid (∀ W, Kp w W → Calls Try.prog 20 #[.slice A p c, .slice B q d] W fun e w' => e = .returned (.bool r) ∧ Kp W w')) :
    Calls Try.prog 7 #[.slice A p c, .slice B q d] w fun e w' => e = .returned (.bool true) ∧ Kp w w' := by
  go_enter Try.func7, Try.ntmps7
  go_wp2_with fail
  refine (HW.out _).mono ?_; rintro e0 w1 ⟨rfl, k1_⟩
  have K := Lib.hid k1_
  clear k1_
  go_wp2_with fail
  refine (FA.out _ K.out).mono ?_; rintro e0 w2 ⟨rfl, k_⟩
  have K := Lib.hid (K.out.tr k_)
  clear k_
  go_wp2_with fail
  refine (FB.out _ K.out).mono ?_; rintro e0 w3 ⟨rfl, k_⟩
  have K := Lib.hid (K.out.tr k_)
  clear k_
  go_wp2_with fail
  refine (C1.out _ K.out).mono ?_; rintro e0 w4 ⟨A4, c4, rfl, r4, l4, k_⟩
  have K := Lib.hid (K.out.tr k_)
  clear k_
  go_wp2_with fail
  refine (C2.out _ K.out).mono ?_; rintro e0 w5 ⟨A5, c5, rfl, r5, l5, k_⟩
  have r4 := Lib.hid (r4.out.kp k_)
  have K := Lib.hid (K.out.tr k_)
  clear k_
  have HST : Hid (∀ V, Kp w5 V → ((convert 22 9 (.slice A4 k1 c4)).run Try.prog V = .ok (.string (strOfNums ra)) V) ∧ ((convert 22 9 (.slice A5 k2 c5)).run Try.prog V = .ok (.string (strOfNums rb)) V)) := fun V kV =>
    ⟨run_str _ (r4.out.kp kV) LL.out.1.symm, run_str _ (r5.out.kp kV) LL.out.2.symm⟩
  rcases HE.out with h | ⟨h, h2⟩
  · subst h
    go_wp2_with fail
    go_quiet (fail)
    go_wp2
    go_ret
    exact ⟨rfl, K.out.tr (Kp.drewN_ _ _)⟩
  · rcases h2 with h2 | ⟨h2, h3⟩
    · subst h h2
      go_wp2_with fail
      go_quiet (fail)
      go_wp2
      go_ret
      exact ⟨rfl, K.out.tr (Kp.drewN_ _ _)⟩
    · subst h h2
      have HS := Lib.hid (CS.out w5.drew (K.out.tr (Kp.drewN_ _ 1)))
      obtain ⟨s1, s2⟩ := HST.out _ (Kp.drewN_ w5 1)
      have s1' : (convert 22 9 (.slice A4 k1 c4)).run Try.prog w5.drew = .ok (.string (strOfNums ra)) w5.drew := s1
      have s2' : (convert 22 9 (.slice A5 k2 c5)).run Try.prog w5.drew = .ok (.string (strOfNums rb)) w5.drew := s2
      clear s1 s2
      go_wp2_with fail
      refine wp_region_held_drew (S := fun V => (convert 22 9 (.slice A4 k1 c4)).run Try.prog V = .ok (.string (strOfNums ra)) V ∧ (convert 22 9 (.slice A5 k2 c5)).run Try.prog V = .ok (.string (strOfNums rb)) V) (by kernel_rfl) ⟨s1', s2'⟩ (fun hHeld => ?_)
      refine wpAnyH_take (i := 0) (v := .bool true) rfl (by kernel_rfl) (by kernel_rfl) (by kernel_rfl) (fun _ _ _ h => h) (Or.inl ⟨by kernel_rfl, fun V hSV => ?_⟩) hHeld ?_
      · (try dsimp only at hSV); go_simp
      try simp only [Act.put, List.setIfInBounds_toArray, List.set_cons_zero, List.set_cons_succ]
      refine wpAnyH_take (i := 1) (v := .bool true) rfl (by kernel_rfl) (by kernel_rfl) (by kernel_rfl) (fun _ _ _ h => h) (Or.inl ⟨by kernel_rfl, fun V hSV => ?_⟩) hHeld ?_
      · (try dsimp only at hSV); go_simp
      try simp only [Act.put, List.setIfInBounds_toArray, List.set_cons_zero, List.set_cons_succ]
      refine wpAnyH_take (i := 2) (v := .int .i64 0) rfl (by kernel_rfl) (by kernel_rfl) (by kernel_rfl) (fun _ _ _ h => h) (Or.inl ⟨by kernel_rfl, fun V hSV => ?_⟩) hHeld ?_
      · (try dsimp only at hSV); go_simp
      try simp only [Act.put, List.setIfInBounds_toArray, List.set_cons_zero, List.set_cons_succ]
      refine wpAnyH_take (i := 3) (v := .bool false) rfl (by kernel_rfl) (by kernel_rfl) (by kernel_rfl) (fun _ _ _ h => h) (Or.inl ⟨by kernel_rfl, fun V hSV => ?_⟩) hHeld ?_
      · (try dsimp only at hSV); go_simp
      try simp only [Act.put, List.setIfInBounds_toArray, List.set_cons_zero, List.set_cons_succ]
      refine wpAnyH_take (i := 4) (v := .bool false) rfl (by kernel_rfl) (by kernel_rfl) (by kernel_rfl) (fun _ _ _ h => h) (Or.inl ⟨by kernel_rfl, fun V hSV => ?_⟩) hHeld ?_
      · (try dsimp only at hSV); go_simp
      try simp only [Act.put, List.setIfInBounds_toArray, List.set_cons_zero, List.set_cons_succ]
      refine wpAnyH_take (i := 5) (v := .int .i64 0) rfl (by kernel_rfl) (by kernel_rfl) (by kernel_rfl) (fun _ _ _ h => h) (Or.inl ⟨by kernel_rfl, fun V hSV => ?_⟩) hHeld ?_
      · (try dsimp only at hSV); go_simp
      try simp only [Act.put, List.setIfInBounds_toArray, List.set_cons_zero, List.set_cons_succ]
      refine wpAnyH_take (i := 6) (v := .bool false) rfl (by kernel_rfl) (by kernel_rfl) (by kernel_rfl) (fun _ _ _ h => h) (Or.inl ⟨by kernel_rfl, fun V hSV => ?_⟩) hHeld ?_
      · (try dsimp only at hSV); go_simp
      try simp only [Act.put, List.setIfInBounds_toArray, List.set_cons_zero, List.set_cons_succ]
      refine wpAnyH_take (i := 7) (v := .bool false) rfl (by kernel_rfl) (by kernel_rfl) (by kernel_rfl) (fun _ _ _ h => h) (Or.inl ⟨by kernel_rfl, fun V hSV => ?_⟩) hHeld ?_
      · (try dsimp only at hSV); go_simp
      try simp only [Act.put, List.setIfInBounds_toArray, List.set_cons_zero, List.set_cons_succ]
      refine wpAnyH_take (i := 8) (v := .bool false) rfl (by kernel_rfl) (by kernel_rfl) (by kernel_rfl) (fun _ _ _ h => h) (Or.inl ⟨by kernel_rfl, fun V hSV => ?_⟩) hHeld ?_
      · (try dsimp only at hSV); go_simp
      try simp only [Act.put, List.setIfInBounds_toArray, List.set_cons_zero, List.set_cons_succ]
      refine wpAnyH_take (i := 9) (v := .slice A4 k1 c4) rfl (by kernel_rfl) (by kernel_rfl) (by kernel_rfl) (fun _ _ _ h => h) (Or.inl ⟨by kernel_rfl, fun V hSV => ?_⟩) hHeld ?_
      · (try dsimp only at hSV); go_simp
      try simp only [Act.put, List.setIfInBounds_toArray, List.set_cons_zero, List.set_cons_succ]
      refine wpAnyH_take (i := 10) (v := .string (strOfNums ra)) rfl (by kernel_rfl) (by kernel_rfl) (by kernel_rfl) (fun _ _ _ h => h) (Or.inl ⟨by kernel_rfl, fun V hSV => ?_⟩) hHeld ?_
      · (try dsimp only at hSV); go_simp
      try simp only [Act.put, List.setIfInBounds_toArray, List.set_cons_zero, List.set_cons_succ]
      refine wpAnyH_take (i := 11) (v := .slice A5 k2 c5) rfl (by kernel_rfl) (by kernel_rfl) (by kernel_rfl) (fun _ _ _ h => h) (Or.inl ⟨by kernel_rfl, fun V hSV => ?_⟩) hHeld ?_
      · (try dsimp only at hSV); go_simp
      try simp only [Act.put, List.setIfInBounds_toArray, List.set_cons_zero, List.set_cons_succ]
      refine wpAnyH_take (i := 12) (v := .string (strOfNums rb)) rfl (by kernel_rfl) (by kernel_rfl) (by kernel_rfl) (fun _ _ _ h => h) (Or.inl ⟨by kernel_rfl, fun V hSV => ?_⟩) hHeld ?_
      · (try dsimp only at hSV); go_simp
      try simp only [Act.put, List.setIfInBounds_toArray, List.set_cons_zero, List.set_cons_succ]
      refine wpAnyH_take (i := 13) (v := .bool ((strOfNums ra).toList == (strOfNums rb).toList)) rfl (by kernel_rfl) (by kernel_rfl) (by kernel_rfl) (fun _ _ _ h => h) (Or.inl ⟨by kernel_rfl, fun V hSV => ?_⟩) hHeld ?_
      · (try dsimp only at hSV); go_simp
      try simp only [Act.put, List.setIfInBounds_toArray, List.set_cons_zero, List.set_cons_succ]
      refine wpAnyH_take (i := 14) (v := .slice A p c) rfl (by kernel_rfl) (by kernel_rfl) (by kernel_rfl) (fun _ _ _ h => h) (Or.inl ⟨by kernel_rfl, fun V hSV => ?_⟩) hHeld ?_
      · (try dsimp only at hSV); go_simp
      try simp only [Act.put, List.setIfInBounds_toArray, List.set_cons_zero, List.set_cons_succ]
      refine wpAnyH_take (i := 15) (v := .slice B q d) rfl (by kernel_rfl) (by kernel_rfl) (by kernel_rfl) (fun _ _ _ h => h) (Or.inl ⟨by kernel_rfl, fun V hSV => ?_⟩) hHeld ?_
      · (try dsimp only at hSV); go_simp
      try simp only [Act.put, List.setIfInBounds_toArray, List.set_cons_zero, List.set_cons_succ]
      refine wpAnyH_ready (rs := [16]) (by kernel_rfl) (by simp) ?_
      refine AllReadyH.cons rfl (fun K9_ hK => ?_) AllReadyH.nil
      go_simp
      refine (Hid.out HS).mono ?_; rintro e w9 ⟨rfl, k9⟩
      dsimp only
      have K9 : Hid (Kp w5 w9) := (Kp.drewN_ _ 1).tr k9
      have hq := HST.out _ K9.out
      clear k9
      refine hK.out _ _ ?_ (fun hHeld => ?_)
      · exact hq
      clear hK
      try simp only [Act.put, List.setIfInBounds_toArray, List.set_cons_zero, List.set_cons_succ]
      refine wpAnyH_take (i := 17) (v := .bool true) rfl (by kernel_rfl) (by kernel_rfl) (by kernel_rfl) (fun _ _ _ h => h) (Or.inl ⟨by kernel_rfl, fun V hSV => ?_⟩) hHeld ?_
      · (try dsimp only at hSV); go_simp
      try simp only [Act.put, List.setIfInBounds_toArray, List.set_cons_zero, List.set_cons_succ]
      refine wpAnyH_take (i := 18) (v := .bool true) rfl (by kernel_rfl) (by kernel_rfl) (by kernel_rfl) (fun _ _ _ h => h) (Or.inl ⟨by kernel_rfl, fun V hSV => ?_⟩) hHeld ?_
      · (try dsimp only at hSV); go_simp
      try simp only [Act.put, List.setIfInBounds_toArray, List.set_cons_zero, List.set_cons_succ]
      refine wpAnyH_take (i := 19) (v := .bool true) rfl (by kernel_rfl) (by kernel_rfl) (by kernel_rfl) (fun _ _ _ h => h) (Or.inl ⟨by kernel_rfl, fun V hSV => ?_⟩) hHeld ?_
      · (try dsimp only at hSV); go_simp
      try simp only [Act.put, List.setIfInBounds_toArray, List.set_cons_zero, List.set_cons_succ]
      refine wpAnyH_ready (rs := [20]) (by kernel_rfl) (by simp) ?_
      refine AllReadyH.cons rfl (fun K9_ hK => ?_) AllReadyH.nil
      go_simp
      refine hK.out _ _ ?_ (fun hHeld => ?_)
      · exact hq
      clear hK
      try simp only [Act.put, List.setIfInBounds_toArray, List.set_cons_zero, List.set_cons_succ]
      refine wpAnyH_done (by kernel_rfl) ?_ _
      go_wp2
      go_ret
      exact ⟨rfl, K.out.tr K9.out⟩

def NT (ts : List T) : Prop := ∀ t ∈ ts, N64 t.1 ∧ N64 t.2
theorem write_c (C : ImC) {A : Option Addr} {c : Nat} {ts : List T} {w : World} {r : List Int} {e : Int} (h : RdT w A ts) (hf : fewT ts 20 = true) (hn : NT ts) (hr : ts.length ≤ c ∧ c ≤ 9223372036854775807) (hw : iwriteV ts = (r, e)) :
    ∀ W, Kp w W → Calls Try.prog 13 #[.slice A ts.length c] W (RetB r e r.length W) := fun W k => by
  obtain ⟨h1, h2⟩ := few_t hf
  have h3 := all_small h2
  exact C.write A c ts.length ts r e r.length W (h.kp k) hr.1 hr.2 (by omega) (by omega) (fun t ht => ⟨(h2 t ht).1, (h2 t ht).2, (hn t ht).1, (hn t ht).2⟩) rfl hw rfl
theorem imapart_walk (C : ImC) (A B : Option Addr) (c d : Nat) (a b : List T) (w : World) (hA : RdT w A a) (hB : RdT w B b) (na : NT a) (nb : NT b) (la : a.length ≤ c ∧ c ≤ 9223372036854775807) (lb : b.length ≤ d ∧ d ≤ 9223372036854775807) :
    Calls Try.prog 7 #[.slice A a.length c, .slice B b.length d] w fun e w' => e = .returned (.bool true) ∧ Kp w w' := by
  cases fa : fewT a 20 with
  | false => exact imapart_far (imawake_any C) A B c d a.length b.length w (.inl (few_c hA fa))
  | true =>
    cases fb : fewT b 20 with
    | false => exact imapart_far (imawake_any C) A B c d a.length b.length w (.inr ⟨few_c hA fa, few_c hB fb⟩)
    | true =>
      obtain ⟨ra, e1, h1⟩ : ∃ ra e1, iwriteV a = (ra, e1) := ⟨_, _, rfl⟩
      obtain ⟨rb, e2, h2⟩ : ∃ rb e2, iwriteV b = (rb, e2) := ⟨_, _, rfl⟩
      have HE : e1 = 30 ∨ e1 = 0 ∧ (e2 = 30 ∨ e2 = 0 ∧ ((strOfNums ra).toList == (strOfNums rb).toList) = (a == b)) := by
        rcases write_cases a with ⟨t1, g1⟩ | ⟨_, g1⟩
        · rcases write_cases b with ⟨t2, g2⟩ | ⟨_, g2⟩
          · rw [h1] at g1; rw [h2] at g2
            injection g1 with g1 g3; injection g2 with g2 g4
            subst g1 g2 g3 g4
            exact .inr ⟨rfl, .inr ⟨rfl, str_eq (all_t_bytes (few_t fa).2) (all_t_bytes (few_t fb).2) (apart t1 t2 (fun t ht => (na t ht).2) (fun t ht => (nb t ht).2))⟩⟩
          · rw [h1] at g1; rw [h2] at g2
            injection g1 with _ g3; injection g2 with _ g4
            exact .inr ⟨g3, .inl g4⟩
        · rw [h1] at g1
          injection g1 with _ g3
          exact .inl g3
      exact imapart_with A B c d a.length b.length ra rb e1 e2 ra.length rb.length (a == b) w (few_c hA fa) (few_c hB fb) ⟨rfl, rfl⟩ (imawake_any C) HE (write_c C hA fa na la h1) (write_c C hB fb nb lb h2) (fun W k => rsame9_any A B c d a b W (hA.kp k) (hB.kp k))
end Go.Proofs.Ytlbnbamgfffahaa
