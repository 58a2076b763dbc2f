/- Layer 8 of the program: readList: a list from bytes. -/
import Derived.Test.YtngdblojglcfpaaPkV
import Derived.Test.YtngdblojglcfpaaPkX
namespace Go.Proofs.Ytngdblojglcfpaa
open Go.RowKit Go.Proofs.ShM Go.Proofs.PkM
set_option linter.unusedVariables false
set_option maxHeartbeats 4000000

/-- Numbers, and bytes that lie in memory, with room; or the error. -/
def RetRL (A0 : Option Addr) (bs : List Int) (o : Option (List Int × List Int)) (W : World) (e : Ending) (W' : World) : Prop :=
  (o = none ∧ RetT W.heap.size W e W') ∨ ∃ v r, o = some (v, r) ∧ ∃ B b D d, e = .returned (.tuple #[.slice B v.length b, .slice D r.length d]) ∧ Own W.heap.size W' (.slice B v.length b) v ∧ (∀ V, B8.Rd V A0 bs → B8.Rd V D r) ∧ r.length ≤ d ∧ d ≤ 9223372036854775807 ∧ Kp W W'

theorem readList_size (A : Option Addr) (m c : Nat) (size : Int) (W : World) (hs : sizB size = false) :
    Calls Try.prog 23 #[.slice A m c, .int .i64 size] W fun e W' => e = thrown40 ∧ W' = W := by
  have HI := fun W => isSize_any size W
  rw [hs] at HI
  have HI := Lib.hid HI
  have HM := Lib.hid must_no
  clear hs
  go_enter Try.func23, Try.ntmps23
  go_wp2_with fail
  refine (HI.out _).mono ?_; rintro e w1 ⟨rfl, rfl⟩
  go_wp2_with fail
  refine (HM.out _).mono ?_; rintro e w1 ⟨rfl, rfl⟩
  go_wp2
  exact ⟨rfl, rfl, rfl⟩
theorem readList_nil (A : Option Addr) (m c : Nat) (size : Int) (W : World) (hs : sizB size = true) (hm : m = 0) :
    Calls Try.prog 23 #[.slice A m c, .int .i64 size] W fun e W' => e = thrown40 ∧ W' = W := by
  have HI := fun W => isSize_any size W
  rw [hs] at HI
  have HI := Lib.hid HI
  have HM := Lib.hid must_yes
  have HR := Lib.hid (read_short A m c 1 W (by decide) (by omega))
  clear hs hm
  go_enter Try.func23, Try.ntmps23
  go_wp2_with fail
  refine (HI.out _).mono ?_; rintro e w1 ⟨rfl, rfl⟩
  go_wp2_with fail
  refine (HM.out _).mono ?_; rintro e w1 ⟨rfl, rfl⟩
  go_wp2_with fail
  refine (Hid.out HR).mono ?_; rintro e w1 ⟨rfl, rfl⟩
  go_wp2
  exact ⟨rfl, rfl, rfl⟩
theorem readList_any (A : Option Addr) (m c : Nat) (bs : List Int) (size : Int) (W : World) (hR : B8.Rd W A bs) (hc1 : bs.length ≤ c) (hc2 : c ≤ 9223372036854775807) (hb : Bytes bs) (hm : m = bs.length) (hs : sizB size = true) (hl : 1 ≤ bs.length) (hbl : bs.length ≤ 10000) :
    Calls Try.prog 23 #[.slice A m c, .int .i64 size] W (RetRL A bs (manyV size.toNat (bs.getD 0 0).toNat (bs.drop 1)) W) := by
  have HI := fun W => isSize_any size W
  rw [hs] at HI
  have HI := Lib.hid HI
  have HM := Lib.hid must_yes
  have HR := Lib.hid (read_yes A m c bs 1 W hR hc1 hc2 hb hm (by decide) (by omega) hbl)
  have HRD : Hid (∀ (D : Option Addr) (d : Nat) (rest : List Int) (W : World), B8.Rd W D rest → rest.length ≤ d → d ≤ 9223372036854775807 → Bytes rest → size ≤ rest.length → rest.length ≤ 10000 → Calls Try.prog 19 #[.slice D rest.length d, .int .i64 size] W (RetR D rest (PkM.asInt (valL (rest.take size.toNat))) (rest.drop size.toNat) W)) :=
    fun D d rest W h1 h2 h3 h4 h5 h6 => read_yes D _ d rest size W h1 h2 h3 h4 rfl hs h5 h6
  have HRS : Hid (∀ (D : Option Addr) (d m : Nat) (W : World), ¬ size ≤ (m : Int) → Calls Try.prog 19 #[.slice D m d, .int .i64 size] W fun e W' => e = thrown40 ∧ W' = W) :=
    fun D d m W h => read_short D m d size W hs h
  obtain ⟨cnt, hcnt, hcnt2, hv⟩ : ∃ cnt : Nat, cnt = (bs.getD 0 0).toNat ∧ cnt ≤ 255 ∧ PkM.asInt (valL (bs.take (1 : Int).toNat)) = (cnt : Int) := by
    match bs, hl with
    | x :: bs, _ =>
      have hx := hb x (by simp)
      refine ⟨x.toNat, rfl, by omega, ?_⟩
      have e : valL ((x :: bs).take (1 : Int).toNat) = x := by show 0 * 256 + x = x; omega
      rw [e]
      unfold PkM.asInt
      rw [if_pos (by omega)]
      omega
  rw [← hcnt, show bs.drop 1 = bs.drop (1 : Int).toNat from rfl]
  rw [hv] at HR
  obtain ⟨b0, hb0⟩ : ∃ b0, b0 = bs.drop (1 : Int).toNat := ⟨_, rfl⟩
  have HB0 : Hid (Bytes b0 ∧ b0.length ≤ 10000) := ⟨by rw [hb0]; exact fun y hy => hb y (List.mem_of_mem_drop hy), by rw [hb0, List.length_drop]; omega⟩
  rw [← hb0] at HR ⊢
  obtain ⟨sz, hsz, hsz2⟩ : ∃ sz : Nat, size = (sz : Int) ∧ size.toNat = sz := ⟨size.toNat, by rcases siz_cases hs with rfl | rfl | rfl <;> rfl, rfl⟩
  rw [hsz2] at HRD ⊢
  subst hsz
  obtain ⟨o, ho⟩ : ∃ o, o = manyV sz cnt b0 := ⟨_, rfl⟩
  have H0 : Hid (Rl o [] b0 sz cnt) := by rw [ho]; exact rl_start _ _ _
  rw [← ho]
  obtain ⟨cs, hmk, hown⟩ := mk_ cnt (by omega)
  have HOW := Lib.hid hown
  have HRd := Lib.hid hR
  clear hR hb hs hl hv hb0 hcnt ho hown hsz2
  subst hm
  go_enter Try.func23, Try.ntmps23
  go_wp2_with fail
  refine (HI.out _).mono ?_; rintro e w1 ⟨rfl, rfl⟩
  go_wp2_with fail
  refine (HM.out _).mono ?_; rintro e w1 ⟨rfl, rfl⟩
  go_wp2_with fail
  refine (Hid.out HR).mono ?_; rintro e w2 ⟨D0, d0, rfl, i0, j0, l0, k0⟩
  have I0 := Lib.hid (And.intro i0 (And.intro j0 (And.intro l0 k0)))
  clear i0 j0 l0 k0 HR
  have HO2 := Lib.hid (HOW.out w2 w1.heap.size I0.out.2.2.2.size)
  have hge : Hid (w1.heap.size ≤ w2.heap.size) := I0.out.2.2.2.size
  have HK2 : Hid (Kp w1 (w2.alloc (.cells cs 3))) := I0.out.2.2.2.trans (Below.alloc (Below.refl _ _) hge.out _)
  obtain ⟨G, hG⟩ : ∃ G, G = w2.heap.size := ⟨_, rfl⟩
  have hGH : Hid (w1.heap.size ≤ G) := by show _ ≤ G; rw [hG]; exact hge.out
  rw [← hG] at HO2
  have hGW : Hid (w2.heap.size = G) := hG.symm
  clear hG hge
  go_wp2
  rw [hGW.out]
  go_loopw [0, 21] (fun v i wx => ∃ (k : Nat) (D : Option Addr) (d : Nat) (rest done : List Int), v = .slice D rest.length d ∧ i = .int .i64 (k : Int) ∧ Hid (k ≤ cnt) ∧ Hid (done.length = k) ∧ Hid (Rl o done rest sz (cnt - k)) ∧ Hid (Bytes rest ∧ rest.length ≤ 10000 ∧ rest.length ≤ d ∧ d ≤ 9223372036854775807) ∧ Hid (∀ V, B8.Rd V A bs → B8.Rd V D rest) ∧ Hid (Own w1.heap.size wx (.slice (some ⟨G, 0, none⟩) cnt cnt) (done ++ List.replicate (cnt - k) 0)) ∧ Hid (Kp w1 wx)) (fun _ i _ => cnt - (intOf i).toNat)
  case atStart => exact ⟨0, D0, d0, b0, [], rfl, rfl, Nat.zero_le _, rfl, H0.out, ⟨HB0.out.1, HB0.out.2, I0.out.2.1, I0.out.2.2.1⟩, I0.out.1, HO2.out, HK2.out⟩
  case round =>
    obtain ⟨k, D, d, rest, done, rfl, rfl, hk, hdn, hT, hB, hV, hOw, hK⟩ := hrel
    by_cases hj : k < cnt
    · have hj' : (k : Int) < (cnt : Int) := by omega
      obtain ⟨p, hp⟩ : ∃ p, cnt - k = p + 1 := ⟨cnt - k - 1, by omega⟩
      rw [hp] at hT hOw
      by_cases hq : sz ≤ rest.length
      · have HC := Lib.hid (HRD.out D d rest wr (hV.out _ (HRd.out.kp hK.out)) hB.out.2.2.1 hB.out.2.2.2 hB.out.1 (by omega) hB.out.2.1)
        have HT2 := Lib.hid (rl_step hT.out hq)
        obtain ⟨x, hx⟩ : ∃ x, x = PkM.asInt (valL (rest.take sz)) := ⟨_, rfl⟩
        rw [← hx] at HC HT2
        have HB2 : Hid (Bytes (rest.drop sz) ∧ (rest.drop sz).length ≤ 10000) := ⟨fun y hy => hB.out.1 y (List.mem_of_mem_drop hy), by rw [List.length_drop]; have := hB.out.2.1; omega⟩
        obtain ⟨rest2, hr2⟩ : ∃ rest2, rest2 = rest.drop sz := ⟨_, rfl⟩
        rw [← hr2] at HC HT2 HB2
        clear hx hr2 hq
        go_wp2_with fail
        refine (Hid.out HC).mono ?_; rintro e w5 ⟨D5, d5, rfl, i5, j5, l5, k5⟩
        have I5 := Lib.hid (And.intro (fun V hh => i5 V (hV.out V hh)) (And.intro j5 (And.intro l5 (hK.out.tr k5))))
        have hO5 := Lib.hid (hOw.out.kp k5)
        have e1 := hO5.out.cell_ (j := k) (u := 0) (by rw [← hdn.out, List.getElem?_append_right (Nat.le_refl _), Nat.sub_self]; rfl)
        have e2 := hO5.out.froz_ k
        clear i5 j5 l5 k5 HC
        go_wp2
        have HO6 := Lib.hid (hO5.out.set_ k x)
        rw [← hdn.out, fill_set, hdn.out] at HO6
        have HK6 : Hid (Kp w1 (w5.setCell ⟨G, k, none⟩ (.int .i64 x))) := Below.setCell I5.out.2.2.2 hGH.out _
        have hp2 : cnt - (k + 1) = p := by omega
        go_roundw
        case rel => exact ⟨k + 1, D5, d5, rest2, done ++ [x], rfl, rfl, (by show k + 1 ≤ cnt; omega), (by show (done ++ [x]).length = k + 1; rw [List.length_append, hdn.out]; rfl), (by rw [hp2]; exact HT2.out), ⟨HB2.out.1, HB2.out.2, I5.out.2.1, I5.out.2.2.1⟩, I5.out.1, (by rw [hp2]; exact HO6.out), HK6.out⟩
        case measure => simp [intOf]; omega
      · obtain rfl := rl_bad hT.out hq
        have HC := Lib.hid (HRS.out D d rest.length wr (by omega))
        clear hq
        go_wp2_with fail
        refine (Hid.out HC).mono ?_; rintro e w5 ⟨rfl, rfl⟩
        go_wp2
        exact ⟨rfl, .inl ⟨rfl, rfl, hK.out⟩⟩
    · have hj' : ¬ (k : Int) < (cnt : Int) := by omega
      obtain rfl : k = cnt := by have := hk.out; omega
      rw [Nat.sub_self] at hT hOw
      have HE := Lib.hid (rl_end hT.out)
      go_wp2
      go_ret2
      have h1 : Own w1.heap.size wr (.slice (some ⟨G, 0, none⟩) k k) done := by have := hOw.out; simpa using this
      exact .inr ⟨done, rest, HE.out, some ⟨G, 0, none⟩, k, D, d, (by rw [hdn.out]; rfl), (by rw [hdn.out]; exact h1), hV.out, hB.out.2.2.1, hB.out.2.2.2, hK.out⟩
end Go.Proofs.Ytngdblojglcfpaa
