/- The document's layer 8: TakeList. -/
import Derived.Test.YtdcgmnkoomhocaaR8C
namespace Go.Proofs.Ytdcgmnkoomhocaa
open Go.RowKit Go.Proofs.ShM Go.Proofs.PkM
set_option linter.unusedVariables false
set_option maxHeartbeats 4000000

/-- Numbers of the call's own, bytes that lie in memory, with room, and an error. -/
def RetLE (A0 : Option Addr) (bs : List Int) (v r : List Int) (err : Int) (W : World) (e : Ending) (W' : World) : Prop :=
  ∃ B b A c, e = .returned (.tuple #[.slice B v.length b, .slice A r.length c, .int .i64 err]) ∧ Own W.heap.size W' (.slice B v.length b) v ∧ (∀ V, B8.Rd V A0 bs → B8.Rd V A r) ∧ r.length ≤ c ∧ c ≤ 9223372036854775807 ∧ Kp W W'
theorem retLE_bad (A0 : Option Addr) (bs : List Int) {w w' : World} (k : Kp w w') : RetLE A0 bs [] [] 40 w (.returned (.tuple #[.slice none 0 0, .slice none 0 0, .int .i64 40])) w' :=
  ⟨none, 0, none, 0, rfl, Own.nil_ _ _, fun _ _ => B8.Rd.nil _ _, by simp, by simp, k⟩
theorem rtl8_nil (A : Option Addr) (c : Nat) (bs : List Int) (size : Int) (w : World) (h : bs.length = 0) :
    Calls Try.prog 23 #[.slice A bs.length c, .int .i64 size] w (RetLE A bs [] [] 40 w) := by
  have HT := Lib.hid (rtake8_bad A c bs 1 w (by rw [h]; decide))
  clear h
  go_enter Try.func23, Try.ntmps23
  go_wp2_with fail
  refine (Hid.out HT).mono ?_; rintro e w1 ⟨D, d, rfl, _, _, _, k⟩
  have K := Lib.hid k
  clear k
  go_wp2
  go_ret3
  exact retLE_bad A bs K.out
theorem rtl8_size (A : Option Addr) (c : Nat) (bs : List Int) (size : Int) (w : World) (hR : B8.Rd w A bs) (hc1 : bs.length ≤ c) (hc2 : c ≤ 9223372036854775807) (hb : Bytes bs) (hbl : bs.length ≤ 200000) (h : sizB size = false) :
    Calls Try.prog 23 #[.slice A bs.length c, .int .i64 size] w (RetLE A bs [] [] 40 w) := by
  have h3 : size ≠ 1 ∧ size ≠ 2 ∧ size ≠ 8 := by unfold sizB at h; simp at h; omega
  have e1 : (size != 1) = true := by simpa using h3.1
  have e2 : (size != 2) = true := by simpa using h3.2.1
  have e8 : (size != 8) = true := by simpa using h3.2.2
  have HT := Lib.hid (rtake8_any A c bs 1 w hR hc1 hc2 hb (by omega))
  clear h h3
  obtain ⟨v, hv⟩ : ∃ v, v = (takeV bs 1).1 := ⟨_, rfl⟩
  obtain ⟨r, hr⟩ : ∃ r, r = (takeV bs 1).2.1 := ⟨_, rfl⟩
  obtain ⟨q, hq⟩ : ∃ q, q = (takeV bs 1).2.2 := ⟨_, rfl⟩
  rw [← hv, ← hr, ← hq] at HT
  clear hv hr
  by_cases h0 : q = 0
  · clear hq
    subst h0
    go_enter Try.func23, Try.ntmps23
    go_wp2_with fail
    refine (Hid.out HT).mono ?_; rintro e w1 ⟨D, d, rfl, _, _, _, k⟩
    have K := Lib.hid k
    clear k
    go_wp2
    go_ret3
    exact retLE_bad A bs K.out
  · have h0' : (q != 0) = true := by simpa using h0
    clear hq h0
    go_enter Try.func23, Try.ntmps23
    go_wp2_with fail
    refine (Hid.out HT).mono ?_; rintro e w1 ⟨D, d, rfl, _, _, _, k⟩
    have K := Lib.hid k
    clear k
    go_wp2
    go_ret3
    exact retLE_bad A bs K.out
/-- Numbers and bytes, or the error. -/
def RetLo (A0 : Option Addr) (bs : List Int) (o : Option (List Int × List Int)) (W : World) (e : Ending) (W' : World) : Prop :=
  (o = none ∧ RetLE A0 bs [] [] 40 W e W') ∨ ∃ v r, o = some (v, r) ∧ RetLE A0 bs v r 0 W e W'
theorem rtl8_yes1 (A : Option Addr) (c : Nat) (bs : List Int) (w : World) (hR : B8.Rd w A bs) (hc1 : bs.length ≤ c) (hc2 : c ≤ 9223372036854775807) (hb : Bytes bs) (hl : 1 ≤ bs.length) (hbl : bs.length ≤ 200000) :
    Calls Try.prog 23 #[.slice A bs.length c, .int .i64 1] w (RetLo A bs (manyV (1 : Int).toNat (bs.getD 0 0).toNat (bs.drop 1)) w) := by
  have HR := Lib.hid (rtake8_1 A c bs w hR hc1 hc2 hb (by omega) (by omega))
  have HRD : Hid (∀ (D : Option Addr) (d : Nat) (rest : List Int) (W : World), B8.Rd W D rest → rest.length ≤ d → d ≤ 9223372036854775807 → Bytes rest → 1 ≤ rest.length → rest.length ≤ 200000 → Calls Try.prog 22 #[.slice D rest.length d, .int .i64 1] W (RetRE D rest (PkM.asInt (valL (rest.take 1))) (rest.drop 1) 0 W)) :=
    fun D d rest W h1 h2 h3 h4 h5 h6 => rtake8_1 D d rest W h1 h2 h3 h4 h5 (by omega)
  have HRS : Hid (∀ (D : Option Addr) (d : Nat) (rest : List Int) (W : World), ¬ 1 ≤ rest.length → Calls Try.prog 22 #[.slice D rest.length d, .int .i64 1] W (RetRE D rest 0 [] 40 W)) :=
    fun D d rest W h => rtake8_bad D d rest 1 W (fun g => h (by have := g.2; omega))
  obtain ⟨cnt, hcnt, hcnt2, hv⟩ : ∃ cnt : Nat, cnt = (bs.getD 0 0).toNat ∧ cnt ≤ 255 ∧ PkM.asInt (valL (bs.take 1)) = (cnt : Int) := by
    match bs, hl with
    | x :: bs, _ =>
      have hx := hb x (by simp)
      refine ⟨x.toNat, rfl, by omega, ?_⟩
      have e : valL ((x :: bs).take 1) = x := by show 0 * 256 + x = x; omega
      rw [e]
      unfold PkM.asInt
      rw [if_pos (by omega)]
      omega
  rw [← hcnt]
  rw [hv] at HR
  obtain ⟨b0, hb0⟩ : ∃ b0, b0 = bs.drop 1 := ⟨_, rfl⟩
  have HB0 : Hid (Bytes b0 ∧ b0.length ≤ 200000) := ⟨by rw [hb0]; exact fun y hy => hb y (List.mem_of_mem_drop hy), by rw [hb0, List.length_drop]; omega⟩
  rw [← hb0] at HR ⊢
  obtain ⟨o, ho⟩ : ∃ o, o = manyV (1 : Int).toNat cnt b0 := ⟨_, rfl⟩
  have H0 : Hid (Rl o [] b0 1 cnt) := by rw [ho]; exact rl_start _ _ _
  rw [← ho]
  have HRd := Lib.hid hR
  clear hR hb hl hv hb0 hcnt ho
  go_enter Try.func23, Try.ntmps23
  go_wp2_with fail
  refine (Hid.out HR).mono ?_; rintro e w2 ⟨D0, d0, rfl, i0, j0, l0, k0⟩
  have I0 := Lib.hid (And.intro i0 (And.intro j0 (And.intro l0 k0)))
  clear i0 j0 l0 k0 HR
  go_wp2
  go_loopw [8, 10, 11] (fun v q i wx => ∃ (k : Nat) (D : Option Addr) (d : Nat) (rest done : List Int) (E : Option Addr) (f : Nat), v = .slice D rest.length d ∧ q = .slice E done.length f ∧ i = .int .i64 (k : Int) ∧ Hid (k ≤ cnt) ∧ Hid (done.length = k) ∧ Hid (Rl o done rest 1 (cnt - k)) ∧ Hid (Bytes rest ∧ rest.length ≤ 200000 ∧ rest.length ≤ d ∧ d ≤ 9223372036854775807) ∧ Hid (∀ V, B8.Rd V A bs → B8.Rd V D rest) ∧ Hid (Own w.heap.size wx (.slice E done.length f) done) ∧ Hid (Kp w wx)) (fun _ _ i _ => cnt - (intOf i).toNat)
  case atStart => exact ⟨0, D0, d0, b0, [], none, 0, rfl, rfl, rfl, Nat.zero_le _, rfl, H0.out, ⟨HB0.out.1, HB0.out.2, I0.out.2.1, I0.out.2.2.1⟩, I0.out.1, Own.nil_ _ _, I0.out.2.2.2⟩
  case round =>
    obtain ⟨k, D, d, rest, done, E, f, rfl, rfl, rfl, hk, hdn, hT, hB, hV, hOw, hK⟩ := hrel
    by_cases hj : k < cnt
    · have hj' : (k : Int) < (cnt : Int) := by omega
      obtain ⟨p, hp⟩ : ∃ p, cnt - k = p + 1 := ⟨cnt - k - 1, by omega⟩
      rw [hp] at hT
      by_cases hq : 1 ≤ rest.length
      · have HC := Lib.hid (HRD.out D d rest wr (hV.out _ (HRd.out.kp hK.out)) hB.out.2.2.1 hB.out.2.2.2 hB.out.1 hq hB.out.2.1)
        have HT2 := Lib.hid (rl_step hT.out hq)
        obtain ⟨x, hx⟩ : ∃ x, x = PkM.asInt (valL (rest.take 1)) := ⟨_, rfl⟩
        rw [← hx] at HC HT2
        have HB2 : Hid (Bytes (rest.drop 1) ∧ (rest.drop 1).length ≤ 200000) := ⟨fun y hy => hB.out.1 y (List.mem_of_mem_drop hy), by rw [List.length_drop]; have := hB.out.2.1; omega⟩
        obtain ⟨rest2, hr2⟩ : ∃ rest2, rest2 = rest.drop 1 := ⟨_, rfl⟩
        rw [← hr2] at HC HT2 HB2
        clear hx hr2 hq
        go_wp2_with fail
        refine (Hid.out HC).mono ?_; rintro e w5 ⟨D5, d5, rfl, i5, j5, l5, k5⟩
        have I5 := Lib.hid (And.intro (fun V hh => i5 V (hV.out V hh)) (And.intro j5 (And.intro l5 (hK.out.tr k5))))
        have hO5 := Lib.hid ((hOw.out.kp k5).kp (Kp.alloc_ w5 (.cells #[.int .i64 x] 3)))
        have hR5 := Lib.hid (Rd.one w5 x 3)
        have hs5 : Hid (w.heap.size ≤ (w5.alloc (.cells #[.int .i64 x] 3)).heap.size) := by show w.heap.size ≤ _; have := I5.out.2.2.2.size; simp; omega
        clear i5 j5 l5 k5 HC
        go_wp2_with (at_builtin; refine wpList_app rfl (.tmp 50) (.tmp 52) rfl _ done rfl hO5.out _ 1 [x] 1 rfl rfl hR5.out (by have := hdn.out; simp; omega) hs5.out ?_; intro z1 A1 c1 w6 HZ o1 b1; have K6 : Hid (Kp w w6) := ((Below.alloc I5.out.2.2.2 I5.out.2.2.2.size _).trans b1); have O6 := Lib.hid o1; clear o1 b1)
        have hp2 : cnt - (k + 1) = p := by omega
        go_roundw
        case rel => exact ⟨k + 1, D5, d5, rest2, z1, A1, c1, rfl, rfl, rfl, (by show k + 1 ≤ cnt; omega), (by show z1.length = k + 1; rw [HZ.out, List.length_append, hdn.out]; rfl), (by rw [hp2, HZ.out]; exact HT2.out), ⟨HB2.out.1, HB2.out.2, I5.out.2.1, I5.out.2.2.1⟩, I5.out.1, O6.out, K6.out⟩
        case measure => simp [intOf]; omega
      · obtain rfl := rl_bad hT.out hq
        have HC := Lib.hid (HRS.out D d rest wr hq)
        clear hq
        go_wp2_with fail
        refine (Hid.out HC).mono ?_; rintro e w5 ⟨D5, d5, rfl, _, _, _, k5⟩
        have K5 := Lib.hid (hK.out.tr k5)
        clear k5 HC
        go_wp2
        go_ret3
        exact .inl ⟨rfl, retLE_bad A bs K5.out⟩
    · have hj' : ¬ (k : Int) < (cnt : Int) := by omega
      obtain rfl : k = cnt := by have := hk.out; omega
      rw [Nat.sub_self] at hT
      have HE := Lib.hid (rl_end hT.out)
      go_wp2
      go_ret3
      exact .inr ⟨done, rest, HE.out, E, f, D, d, rfl, hOw.out, hV.out, hB.out.2.2.1, hB.out.2.2.2, hK.out⟩
theorem rtl8_yes2 (A : Option Addr) (c : Nat) (bs : List Int) (w : World) (hR : B8.Rd w A bs) (hc1 : bs.length ≤ c) (hc2 : c ≤ 9223372036854775807) (hb : Bytes bs) (hl : 1 ≤ bs.length) (hbl : bs.length ≤ 200000) :
    Calls Try.prog 23 #[.slice A bs.length c, .int .i64 2] w (RetLo A bs (manyV (2 : Int).toNat (bs.getD 0 0).toNat (bs.drop 1)) w) := by
  have HR := Lib.hid (rtake8_1 A c bs w hR hc1 hc2 hb (by omega) (by omega))
  have HRD : Hid (∀ (D : Option Addr) (d : Nat) (rest : List Int) (W : World), B8.Rd W D rest → rest.length ≤ d → d ≤ 9223372036854775807 → Bytes rest → 2 ≤ rest.length → rest.length ≤ 200000 → Calls Try.prog 22 #[.slice D rest.length d, .int .i64 2] W (RetRE D rest (PkM.asInt (valL (rest.take 2))) (rest.drop 2) 0 W)) :=
    fun D d rest W h1 h2 h3 h4 h5 h6 => rtake8_2 D d rest W h1 h2 h3 h4 h5 (by omega)
  have HRS : Hid (∀ (D : Option Addr) (d : Nat) (rest : List Int) (W : World), ¬ 2 ≤ rest.length → Calls Try.prog 22 #[.slice D rest.length d, .int .i64 2] W (RetRE D rest 0 [] 40 W)) :=
    fun D d rest W h => rtake8_bad D d rest 2 W (fun g => h (by have := g.2; omega))
  obtain ⟨cnt, hcnt, hcnt2, hv⟩ : ∃ cnt : Nat, cnt = (bs.getD 0 0).toNat ∧ cnt ≤ 255 ∧ PkM.asInt (valL (bs.take 1)) = (cnt : Int) := by
    match bs, hl with
    | x :: bs, _ =>
      have hx := hb x (by simp)
      refine ⟨x.toNat, rfl, by omega, ?_⟩
      have e : valL ((x :: bs).take 1) = x := by show 0 * 256 + x = x; omega
      rw [e]
      unfold PkM.asInt
      rw [if_pos (by omega)]
      omega
  rw [← hcnt]
  rw [hv] at HR
  obtain ⟨b0, hb0⟩ : ∃ b0, b0 = bs.drop 1 := ⟨_, rfl⟩
  have HB0 : Hid (Bytes b0 ∧ b0.length ≤ 200000) := ⟨by rw [hb0]; exact fun y hy => hb y (List.mem_of_mem_drop hy), by rw [hb0, List.length_drop]; omega⟩
  rw [← hb0] at HR ⊢
  obtain ⟨o, ho⟩ : ∃ o, o = manyV (2 : Int).toNat cnt b0 := ⟨_, rfl⟩
  have H0 : Hid (Rl o [] b0 2 cnt) := by rw [ho]; exact rl_start _ _ _
  rw [← ho]
  have HRd := Lib.hid hR
  clear hR hb hl hv hb0 hcnt ho
  go_enter Try.func23, Try.ntmps23
  go_wp2_with fail
  refine (Hid.out HR).mono ?_; rintro e w2 ⟨D0, d0, rfl, i0, j0, l0, k0⟩
  have I0 := Lib.hid (And.intro i0 (And.intro j0 (And.intro l0 k0)))
  clear i0 j0 l0 k0 HR
  go_wp2
  go_loopw [8, 10, 11] (fun v q i wx => ∃ (k : Nat) (D : Option Addr) (d : Nat) (rest done : List Int) (E : Option Addr) (f : Nat), v = .slice D rest.length d ∧ q = .slice E done.length f ∧ i = .int .i64 (k : Int) ∧ Hid (k ≤ cnt) ∧ Hid (done.length = k) ∧ Hid (Rl o done rest 2 (cnt - k)) ∧ Hid (Bytes rest ∧ rest.length ≤ 200000 ∧ rest.length ≤ d ∧ d ≤ 9223372036854775807) ∧ Hid (∀ V, B8.Rd V A bs → B8.Rd V D rest) ∧ Hid (Own w.heap.size wx (.slice E done.length f) done) ∧ Hid (Kp w wx)) (fun _ _ i _ => cnt - (intOf i).toNat)
  case atStart => exact ⟨0, D0, d0, b0, [], none, 0, rfl, rfl, rfl, Nat.zero_le _, rfl, H0.out, ⟨HB0.out.1, HB0.out.2, I0.out.2.1, I0.out.2.2.1⟩, I0.out.1, Own.nil_ _ _, I0.out.2.2.2⟩
  case round =>
    obtain ⟨k, D, d, rest, done, E, f, rfl, rfl, rfl, hk, hdn, hT, hB, hV, hOw, hK⟩ := hrel
    by_cases hj : k < cnt
    · have hj' : (k : Int) < (cnt : Int) := by omega
      obtain ⟨p, hp⟩ : ∃ p, cnt - k = p + 1 := ⟨cnt - k - 1, by omega⟩
      rw [hp] at hT
      by_cases hq : 2 ≤ rest.length
      · have HC := Lib.hid (HRD.out D d rest wr (hV.out _ (HRd.out.kp hK.out)) hB.out.2.2.1 hB.out.2.2.2 hB.out.1 hq hB.out.2.1)
        have HT2 := Lib.hid (rl_step hT.out hq)
        obtain ⟨x, hx⟩ : ∃ x, x = PkM.asInt (valL (rest.take 2)) := ⟨_, rfl⟩
        rw [← hx] at HC HT2
        have HB2 : Hid (Bytes (rest.drop 2) ∧ (rest.drop 2).length ≤ 200000) := ⟨fun y hy => hB.out.1 y (List.mem_of_mem_drop hy), by rw [List.length_drop]; have := hB.out.2.1; omega⟩
        obtain ⟨rest2, hr2⟩ : ∃ rest2, rest2 = rest.drop 2 := ⟨_, rfl⟩
        rw [← hr2] at HC HT2 HB2
        clear hx hr2 hq
        go_wp2_with fail
        refine (Hid.out HC).mono ?_; rintro e w5 ⟨D5, d5, rfl, i5, j5, l5, k5⟩
        have I5 := Lib.hid (And.intro (fun V hh => i5 V (hV.out V hh)) (And.intro j5 (And.intro l5 (hK.out.tr k5))))
        have hO5 := Lib.hid ((hOw.out.kp k5).kp (Kp.alloc_ w5 (.cells #[.int .i64 x] 3)))
        have hR5 := Lib.hid (Rd.one w5 x 3)
        have hs5 : Hid (w.heap.size ≤ (w5.alloc (.cells #[.int .i64 x] 3)).heap.size) := by show w.heap.size ≤ _; have := I5.out.2.2.2.size; simp; omega
        clear i5 j5 l5 k5 HC
        go_wp2_with (at_builtin; refine wpList_app rfl (.tmp 50) (.tmp 52) rfl _ done rfl hO5.out _ 1 [x] 1 rfl rfl hR5.out (by have := hdn.out; simp; omega) hs5.out ?_; intro z1 A1 c1 w6 HZ o1 b1; have K6 : Hid (Kp w w6) := ((Below.alloc I5.out.2.2.2 I5.out.2.2.2.size _).trans b1); have O6 := Lib.hid o1; clear o1 b1)
        have hp2 : cnt - (k + 1) = p := by omega
        go_roundw
        case rel => exact ⟨k + 1, D5, d5, rest2, z1, A1, c1, rfl, rfl, rfl, (by show k + 1 ≤ cnt; omega), (by show z1.length = k + 1; rw [HZ.out, List.length_append, hdn.out]; rfl), (by rw [hp2, HZ.out]; exact HT2.out), ⟨HB2.out.1, HB2.out.2, I5.out.2.1, I5.out.2.2.1⟩, I5.out.1, O6.out, K6.out⟩
        case measure => simp [intOf]; omega
      · obtain rfl := rl_bad hT.out hq
        have HC := Lib.hid (HRS.out D d rest wr hq)
        clear hq
        go_wp2_with fail
        refine (Hid.out HC).mono ?_; rintro e w5 ⟨D5, d5, rfl, _, _, _, k5⟩
        have K5 := Lib.hid (hK.out.tr k5)
        clear k5 HC
        go_wp2
        go_ret3
        exact .inl ⟨rfl, retLE_bad A bs K5.out⟩
    · have hj' : ¬ (k : Int) < (cnt : Int) := by omega
      obtain rfl : k = cnt := by have := hk.out; omega
      rw [Nat.sub_self] at hT
      have HE := Lib.hid (rl_end hT.out)
      go_wp2
      go_ret3
      exact .inr ⟨done, rest, HE.out, E, f, D, d, rfl, hOw.out, hV.out, hB.out.2.2.1, hB.out.2.2.2, hK.out⟩
theorem rtl8_yes8 (A : Option Addr) (c : Nat) (bs : List Int) (w : World) (hR : B8.Rd w A bs) (hc1 : bs.length ≤ c) (hc2 : c ≤ 9223372036854775807) (hb : Bytes bs) (hl : 1 ≤ bs.length) (hbl : bs.length ≤ 200000) :
    Calls Try.prog 23 #[.slice A bs.length c, .int .i64 8] w (RetLo A bs (manyV (8 : Int).toNat (bs.getD 0 0).toNat (bs.drop 1)) w) := by
  have HR := Lib.hid (rtake8_1 A c bs w hR hc1 hc2 hb (by omega) (by omega))
  have HRD : Hid (∀ (D : Option Addr) (d : Nat) (rest : List Int) (W : World), B8.Rd W D rest → rest.length ≤ d → d ≤ 9223372036854775807 → Bytes rest → 8 ≤ rest.length → rest.length ≤ 200000 → Calls Try.prog 22 #[.slice D rest.length d, .int .i64 8] W (RetRE D rest (PkM.asInt (valL (rest.take 8))) (rest.drop 8) 0 W)) :=
    fun D d rest W h1 h2 h3 h4 h5 h6 => rtake8_8 D d rest W h1 h2 h3 h4 h5 (by omega)
  have HRS : Hid (∀ (D : Option Addr) (d : Nat) (rest : List Int) (W : World), ¬ 8 ≤ rest.length → Calls Try.prog 22 #[.slice D rest.length d, .int .i64 8] W (RetRE D rest 0 [] 40 W)) :=
    fun D d rest W h => rtake8_bad D d rest 8 W (fun g => h (by have := g.2; omega))
  obtain ⟨cnt, hcnt, hcnt2, hv⟩ : ∃ cnt : Nat, cnt = (bs.getD 0 0).toNat ∧ cnt ≤ 255 ∧ PkM.asInt (valL (bs.take 1)) = (cnt : Int) := by
    match bs, hl with
    | x :: bs, _ =>
      have hx := hb x (by simp)
      refine ⟨x.toNat, rfl, by omega, ?_⟩
      have e : valL ((x :: bs).take 1) = x := by show 0 * 256 + x = x; omega
      rw [e]
      unfold PkM.asInt
      rw [if_pos (by omega)]
      omega
  rw [← hcnt]
  rw [hv] at HR
  obtain ⟨b0, hb0⟩ : ∃ b0, b0 = bs.drop 1 := ⟨_, rfl⟩
  have HB0 : Hid (Bytes b0 ∧ b0.length ≤ 200000) := ⟨by rw [hb0]; exact fun y hy => hb y (List.mem_of_mem_drop hy), by rw [hb0, List.length_drop]; omega⟩
  rw [← hb0] at HR ⊢
  obtain ⟨o, ho⟩ : ∃ o, o = manyV (8 : Int).toNat cnt b0 := ⟨_, rfl⟩
  have H0 : Hid (Rl o [] b0 8 cnt) := by rw [ho]; exact rl_start _ _ _
  rw [← ho]
  have HRd := Lib.hid hR
  clear hR hb hl hv hb0 hcnt ho
  go_enter Try.func23, Try.ntmps23
  go_wp2_with fail
  refine (Hid.out HR).mono ?_; rintro e w2 ⟨D0, d0, rfl, i0, j0, l0, k0⟩
  have I0 := Lib.hid (And.intro i0 (And.intro j0 (And.intro l0 k0)))
  clear i0 j0 l0 k0 HR
  go_wp2
  go_loopw [8, 10, 11] (fun v q i wx => ∃ (k : Nat) (D : Option Addr) (d : Nat) (rest done : List Int) (E : Option Addr) (f : Nat), v = .slice D rest.length d ∧ q = .slice E done.length f ∧ i = .int .i64 (k : Int) ∧ Hid (k ≤ cnt) ∧ Hid (done.length = k) ∧ Hid (Rl o done rest 8 (cnt - k)) ∧ Hid (Bytes rest ∧ rest.length ≤ 200000 ∧ rest.length ≤ d ∧ d ≤ 9223372036854775807) ∧ Hid (∀ V, B8.Rd V A bs → B8.Rd V D rest) ∧ Hid (Own w.heap.size wx (.slice E done.length f) done) ∧ Hid (Kp w wx)) (fun _ _ i _ => cnt - (intOf i).toNat)
  case atStart => exact ⟨0, D0, d0, b0, [], none, 0, rfl, rfl, rfl, Nat.zero_le _, rfl, H0.out, ⟨HB0.out.1, HB0.out.2, I0.out.2.1, I0.out.2.2.1⟩, I0.out.1, Own.nil_ _ _, I0.out.2.2.2⟩
  case round =>
    obtain ⟨k, D, d, rest, done, E, f, rfl, rfl, rfl, hk, hdn, hT, hB, hV, hOw, hK⟩ := hrel
    by_cases hj : k < cnt
    · have hj' : (k : Int) < (cnt : Int) := by omega
      obtain ⟨p, hp⟩ : ∃ p, cnt - k = p + 1 := ⟨cnt - k - 1, by omega⟩
      rw [hp] at hT
      by_cases hq : 8 ≤ rest.length
      · have HC := Lib.hid (HRD.out D d rest wr (hV.out _ (HRd.out.kp hK.out)) hB.out.2.2.1 hB.out.2.2.2 hB.out.1 hq hB.out.2.1)
        have HT2 := Lib.hid (rl_step hT.out hq)
        obtain ⟨x, hx⟩ : ∃ x, x = PkM.asInt (valL (rest.take 8)) := ⟨_, rfl⟩
        rw [← hx] at HC HT2
        have HB2 : Hid (Bytes (rest.drop 8) ∧ (rest.drop 8).length ≤ 200000) := ⟨fun y hy => hB.out.1 y (List.mem_of_mem_drop hy), by rw [List.length_drop]; have := hB.out.2.1; omega⟩
        obtain ⟨rest2, hr2⟩ : ∃ rest2, rest2 = rest.drop 8 := ⟨_, rfl⟩
        rw [← hr2] at HC HT2 HB2
        clear hx hr2 hq
        go_wp2_with fail
        refine (Hid.out HC).mono ?_; rintro e w5 ⟨D5, d5, rfl, i5, j5, l5, k5⟩
        have I5 := Lib.hid (And.intro (fun V hh => i5 V (hV.out V hh)) (And.intro j5 (And.intro l5 (hK.out.tr k5))))
        have hO5 := Lib.hid ((hOw.out.kp k5).kp (Kp.alloc_ w5 (.cells #[.int .i64 x] 3)))
        have hR5 := Lib.hid (Rd.one w5 x 3)
        have hs5 : Hid (w.heap.size ≤ (w5.alloc (.cells #[.int .i64 x] 3)).heap.size) := by show w.heap.size ≤ _; have := I5.out.2.2.2.size; simp; omega
        clear i5 j5 l5 k5 HC
        go_wp2_with (at_builtin; refine wpList_app rfl (.tmp 50) (.tmp 52) rfl _ done rfl hO5.out _ 1 [x] 1 rfl rfl hR5.out (by have := hdn.out; simp; omega) hs5.out ?_; intro z1 A1 c1 w6 HZ o1 b1; have K6 : Hid (Kp w w6) := ((Below.alloc I5.out.2.2.2 I5.out.2.2.2.size _).trans b1); have O6 := Lib.hid o1; clear o1 b1)
        have hp2 : cnt - (k + 1) = p := by omega
        go_roundw
        case rel => exact ⟨k + 1, D5, d5, rest2, z1, A1, c1, rfl, rfl, rfl, (by show k + 1 ≤ cnt; omega), (by show z1.length = k + 1; rw [HZ.out, List.length_append, hdn.out]; rfl), (by rw [hp2, HZ.out]; exact HT2.out), ⟨HB2.out.1, HB2.out.2, I5.out.2.1, I5.out.2.2.1⟩, I5.out.1, O6.out, K6.out⟩
        case measure => simp [intOf]; omega
      · obtain rfl := rl_bad hT.out hq
        have HC := Lib.hid (HRS.out D d rest wr hq)
        clear hq
        go_wp2_with fail
        refine (Hid.out HC).mono ?_; rintro e w5 ⟨D5, d5, rfl, _, _, _, k5⟩
        have K5 := Lib.hid (hK.out.tr k5)
        clear k5 HC
        go_wp2
        go_ret3
        exact .inl ⟨rfl, retLE_bad A bs K5.out⟩
    · have hj' : ¬ (k : Int) < (cnt : Int) := by omega
      obtain rfl : k = cnt := by have := hk.out; omega
      rw [Nat.sub_self] at hT
      have HE := Lib.hid (rl_end hT.out)
      go_wp2
      go_ret3
      exact .inr ⟨done, rest, HE.out, E, f, D, d, rfl, hOw.out, hV.out, hB.out.2.2.1, hB.out.2.2.2, hK.out⟩
theorem rtakeList8_any (A : Option Addr) (c : Nat) (bs : List Int) (size : Int) (w : World) (hR : B8.Rd w A bs) (hc1 : bs.length ≤ c) (hc2 : c ≤ 9223372036854775807) (hb : Bytes bs) (hbl : bs.length ≤ 200000) :
    Calls Try.prog 23 #[.slice A bs.length c, .int .i64 size] w (RetLE A bs (takeListV bs size).1 (takeListV bs size).2.1 (takeListV bs size).2.2 w) := by
  unfold takeListV
  by_cases h : sizB size = true ∧ 1 ≤ bs.length
  · rw [if_pos h]
    have hh : Calls Try.prog 23 #[.slice A bs.length c, .int .i64 size] w (RetLo A bs (manyV size.toNat (bs.getD 0 0).toNat (bs.drop 1)) w) := by
      rcases siz_cases h.1 with rfl | rfl | rfl
      · exact rtl8_yes1 A c bs w hR hc1 hc2 hb h.2 hbl
      · exact rtl8_yes2 A c bs w hR hc1 hc2 hb h.2 hbl
      · exact rtl8_yes8 A c bs w hR hc1 hc2 hb h.2 hbl
    refine hh.mono fun e w' g => ?_
    rcases g with ⟨g1, g2⟩ | ⟨v, r, g1, g2⟩
    · rw [g1]; exact g2
    · rw [g1]; exact g2
  · rw [if_neg h]
    by_cases h1 : 1 ≤ bs.length
    · exact rtl8_size A c bs size w hR hc1 hc2 hb hbl (by
        cases e : sizB size with
        | false => rfl
        | true => exact absurd ⟨e, h1⟩ h)
    · exact rtl8_nil A c bs size w (by omega)
end Go.Proofs.Ytdcgmnkoomhocaa
