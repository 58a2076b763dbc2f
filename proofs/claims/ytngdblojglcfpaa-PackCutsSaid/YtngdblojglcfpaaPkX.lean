/- Layer 8 of the program: writeList: a list's bytes behind bytes of the call's own. -/
import Derived.Test.YtngdblojglcfpaaPkW
namespace Go.Proofs.Ytngdblojglcfpaa
open Go.RowKit Go.Proofs.ShM Go.Proofs.PkM
set_option linter.unusedVariables false
set_option maxHeartbeats 4000000

/-- The call ended at the error. -/
def RetT (B : Nat) (W : World) (e : Ending) (W' : World) : Prop := e = thrown40 ∧ Below B W W'
theorem writeList_yes (B : Nat) (D A : Option Addr) (m d p c : Nat) (bs l : List Int) (size : Int) (W : World) (hO : B8.Own B W (.slice D m d) bs) (hB : B ≤ W.heap.size) (hl : bs.length ≤ 10000) (hR : ∀ W', Below B W W' → Rd W' A l) (hp : p = l.length) (hl2 : l.length ≤ 255) (hs : sizB size = true) (h : Ok l size) :
    Calls Try.prog 21 #[.slice D m d, .slice A p c, .int .i64 size] W (RetW B (bs ++ [(l.length : Int)] ++ allB l size.toNat) W) := by
  have HI := fun W => isSize_any size W
  rw [hs] at HI
  have HI := Lib.hid HI
  have HM := Lib.hid must_yes
  obtain ⟨r, hr⟩ : ∃ r, r = bs ++ [(l.length : Int)] ++ allB l size.toNat := ⟨_, rfl⟩
  have H0 : Hid (Wl r (bs ++ [(l.length : Int)]) l 0 size.toNat) := hr
  have hr' : Hid (r.length ≤ 50000) := by
    show r.length ≤ 50000
    rw [hr, List.length_append, List.length_append, all_len]
    have h8 : size.toNat ≤ 8 := by rcases siz_cases hs with rfl | rfl | rfl <;> decide
    have : size.toNat * l.length ≤ 8 * 255 := Nat.mul_le_mul h8 hl2
    simp; omega
  rw [← hr]
  have H1 : Hid (Calls Try.prog 16 #[.slice D m d, .int .i64 (l.length : Int), .int .i64 1] W (RetW B (bs ++ [(l.length : Int)]) W)) := by
    have e : byteL (l.length : Int) (1 : Int).toNat = [(l.length : Int)] := by show [(l.length : Int) % 256] = _; congr 1; omega
    have h1 := write_yes B D m d bs (l.length : Int) 1 W hO hB (by omega) (by unfold mayB; simp; omega)
    rw [e] at h1
    exact h1
  have HOK := Lib.hid (show Ok (l.drop 0) size from h)
  have hA : ∀ W', Below B W W' → Rd W' A l := hR
  have HA := Lib.hid hA
  have HB := Lib.hid hB
  have HW : Hid (∀ (D : Option Addr) (d : Nat) (cur : List Int) (x : Int) (W' : World), B8.Own B W' (.slice D cur.length d) cur → B ≤ W'.heap.size → cur.length ≤ 50000 → mayB x size = true → Calls Try.prog 16 #[.slice D cur.length d, .int .i64 x, .int .i64 size] W' (RetW B (cur ++ byteL x size.toNat) W')) :=
    fun D d cur x W' h1 h2 h3 h4 => write_yes B D _ d cur x size W' h1 h2 (by omega) h4
  have hL : Hid (l.length ≤ 255) := hl2
  clear hr h hs hl hR hO hA hB hl2
  subst hp
  go_enter Try.func21, Try.ntmps21
  go_wp2_with fail
  refine (HI.out _).mono ?_; rintro e w1 ⟨rfl, rfl⟩
  go_wp2_with fail
  refine (HM.out _).mono ?_; rintro e w1 ⟨rfl, rfl⟩
  go_wp2_with fail
  refine (Hid.out H1).mono ?_; rintro e w2 ⟨E0, f0, rfl, o0, k0⟩
  obtain ⟨b0, hb0⟩ : ∃ b0, b0 = bs ++ [(l.length : Int)] := ⟨_, rfl⟩
  rw [← hb0] at H0 o0 ⊢
  have O0 := Lib.hid o0
  have K0 := Lib.hid k0
  clear H1 hb0 o0 k0
  go_wp2
  go_loopw [0, 18] (fun v i wx => ∃ (k : Nat) (E : Option Addr) (f : Nat) (cur : List Int), v = .slice E cur.length f ∧ i = .int .i64 (k : Int) ∧ Hid (k ≤ l.length) ∧ Hid (Wl r cur l k size.toNat) ∧ Hid (Ok (l.drop k) size) ∧ Hid (B8.Own B wx (.slice E cur.length f) cur) ∧ Hid (Below B w1 wx)) (fun _ i _ => l.length - (intOf i).toNat)
  case atStart => exact ⟨0, E0, f0, _, rfl, rfl, Nat.zero_le _, H0.out, HOK.out, O0.out, K0.out⟩
  case round =>
    obtain ⟨k, E, f, cur, rfl, rfl, hk, hT, hOk, hOw, hK⟩ := hrel
    by_cases hj : k < l.length
    · have hj' : (k : Int) < (l.length : Int) := by omega
      have hLL := hL.out
      obtain ⟨ad, x, rfl, hlt, hx, hc⟩ := (HA.out wr hK.out).at_ hj
      have hm := ok_hd hOk.out hx
      have HT2 := Lib.hid (wl_step hT.out hx)
      have HK2 := Lib.hid ((ok_tl hx hm).1 hOk.out)
      have HC := Lib.hid (HW.out E f cur x wr hOw.out (by have := hK.out.size; have := HB.out; omega) (by have := wl_len hT.out; have := hr'.out; omega) hm)
      clear hx hm
      go_wp2_with fail
      refine (Hid.out HC).mono ?_; rintro e w5 ⟨E5, f5, rfl, o5, k5⟩
      generalize cur ++ byteL x size.toNat = cur2 at HT2 o5 ⊢
      have O5 := Lib.hid o5
      have K5 := Lib.hid (hK.out.trans k5)
      clear o5 k5 HC
      go_wp2
      go_roundw
      case rel => exact ⟨k + 1, E5, f5, cur2, rfl, by go_num, (by show k + 1 ≤ l.length; omega), HT2.out, HK2.out, O5.out, K5.out⟩
      case measure => simp [intOf]; omega
    · have hj' : ¬ (k : Int) < (l.length : Int) := by omega
      obtain rfl := wl_end hT.out (by omega)
      go_wp2
      go_ret
      exact ⟨E, f, rfl, hOw.out, hK.out⟩
theorem writeList_bad (B : Nat) (D A : Option Addr) (m d p c : Nat) (bs l : List Int) (size : Int) (W : World) (hO : B8.Own B W (.slice D m d) bs) (hB : B ≤ W.heap.size) (hl : bs.length ≤ 10000) (hR : ∀ W', Below B W W' → Rd W' A l) (hp : p = l.length) (hl2 : l.length ≤ 255) (hs : sizB size = true) (h : ¬ Ok l size) :
    Calls Try.prog 21 #[.slice D m d, .slice A p c, .int .i64 size] W (RetT B W) := by
  have HI := fun W => isSize_any size W
  rw [hs] at HI
  have HI := Lib.hid HI
  have HM := Lib.hid must_yes
  have hz : Hid (size.toNat ≤ 8) := by show size.toNat ≤ 8; rcases siz_cases hs with rfl | rfl | rfl <;> decide
  have H1 : Hid (Calls Try.prog 16 #[.slice D m d, .int .i64 (l.length : Int), .int .i64 1] W (RetW B (bs ++ [(l.length : Int)]) W)) := by
    have e : byteL (l.length : Int) (1 : Int).toNat = [(l.length : Int)] := by show [(l.length : Int) % 256] = _; congr 1; omega
    have h1 := write_yes B D m d bs (l.length : Int) 1 W hO hB (by omega) (by unfold mayB; simp; omega)
    rw [e] at h1
    exact h1
  have HOK := Lib.hid (show ¬ Ok (l.drop 0) size from h)
  have hA : ∀ W', Below B W W' → Rd W' A l := hR
  have HA := Lib.hid hA
  have HB := Lib.hid hB
  have HW : Hid (∀ (D : Option Addr) (d : Nat) (cur : List Int) (x : Int) (W' : World), B8.Own B W' (.slice D cur.length d) cur → B ≤ W'.heap.size → cur.length ≤ 50000 → mayB x size = true → Calls Try.prog 16 #[.slice D cur.length d, .int .i64 x, .int .i64 size] W' (RetW B (cur ++ byteL x size.toNat) W')) :=
    fun D d cur x W' h1 h2 h3 h4 => write_yes B D _ d cur x size W' h1 h2 (by omega) h4
  have hL : Hid (l.length ≤ 255) := hl2
  have HL0 := Lib.hid hl
  clear h hs hl hR hO hA hB hl2
  subst hp
  go_enter Try.func21, Try.ntmps21
  go_wp2_with fail
  refine (HI.out _).mono ?_; rintro e w1 ⟨rfl, rfl⟩
  go_wp2_with fail
  refine (HM.out _).mono ?_; rintro e w1 ⟨rfl, rfl⟩
  go_wp2_with fail
  refine (Hid.out H1).mono ?_; rintro e w2 ⟨E0, f0, rfl, o0, k0⟩
  obtain ⟨b0, hb0⟩ : ∃ b0, b0 = bs ++ [(l.length : Int)] := ⟨_, rfl⟩
  have H0 : Hid (b0.length ≤ 10001 + 8 * 0) := by show b0.length ≤ 10001 + 8 * 0; rw [hb0, List.length_append, List.length_singleton]; have := HL0.out; omega
  rw [← hb0] at o0 ⊢
  have O0 := Lib.hid o0
  have K0 := Lib.hid k0
  clear H1 hb0 o0 k0
  go_wp2
  go_loopw [0, 18] (fun v i wx => ∃ (k : Nat) (E : Option Addr) (f : Nat) (cur : List Int), v = .slice E cur.length f ∧ i = .int .i64 (k : Int) ∧ Hid (k ≤ l.length) ∧ Hid (cur.length ≤ 10001 + 8 * k) ∧ Hid (¬ Ok (l.drop k) size) ∧ Hid (B8.Own B wx (.slice E cur.length f) cur) ∧ Hid (Below B w1 wx)) (fun _ i _ => l.length - (intOf i).toNat)
  case atStart => exact ⟨0, E0, f0, _, rfl, rfl, Nat.zero_le _, H0.out, HOK.out, O0.out, K0.out⟩
  case round =>
    obtain ⟨k, E, f, cur, rfl, rfl, hk, hT, hOk, hOw, hK⟩ := hrel
    by_cases hj : k < l.length
    · have hj' : (k : Int) < (l.length : Int) := by omega
      have hLL := hL.out
      obtain ⟨ad, x, rfl, hlt, hx, hc⟩ := (HA.out wr hK.out).at_ hj
      by_cases hm : mayB x size = true
      · have HT2 : Hid ((cur ++ byteL x size.toNat).length ≤ 10001 + 8 * (k + 1)) := by show (cur ++ byteL x size.toNat).length ≤ 10001 + 8 * (k + 1); rw [List.length_append, byte_len]; have := hT.out; have := hz.out; omega
        have HK2 := Lib.hid (fun g => hOk.out ((ok_tl hx hm).2 g))
        have HC := Lib.hid (HW.out E f cur x wr hOw.out (by have := hK.out.size; have := HB.out; omega) (by have := hT.out; omega) hm)
        clear hx hm
        go_wp2_with fail
        refine (Hid.out HC).mono ?_; rintro e w5 ⟨E5, f5, rfl, o5, k5⟩
        generalize cur ++ byteL x size.toNat = cur2 at HT2 o5 ⊢
        have O5 := Lib.hid o5
        have K5 := Lib.hid (hK.out.trans k5)
        clear o5 k5 HC
        go_wp2
        go_roundw
        case rel => exact ⟨k + 1, E5, f5, cur2, rfl, by go_num, (by show k + 1 ≤ l.length; omega), HT2.out, HK2.out, O5.out, K5.out⟩
        case measure => simp [intOf]; omega
      · have HC := Lib.hid (write_no E cur.length f x size wr (by simpa using hm))
        clear hx hm
        go_wp2_with fail
        refine (Hid.out HC).mono ?_; rintro e w5 ⟨rfl, rfl⟩
        go_wp2
        exact ⟨rfl, rfl, hK.out⟩
    · exact absurd (ok_end size (by omega)) hOk.out
theorem writeList_long (B : Nat) (D A : Option Addr) (m d p c : Nat) (l : List Int) (size : Int) (W : World) (hp : p = l.length) (hl : ¬ l.length ≤ 255) (hl2 : l.length ≤ 300) (hs : sizB size = true) :
    Calls Try.prog 21 #[.slice D m d, .slice A p c, .int .i64 size] W (RetT B W) := by
  have HI := fun W => isSize_any size W
  rw [hs] at HI
  have HI := Lib.hid HI
  have HM := Lib.hid must_yes
  have H1 := Lib.hid (write_no D m d (l.length : Int) 1 W (by unfold mayB; simp; omega))
  clear hs hl hl2
  subst hp
  go_enter Try.func21, Try.ntmps21
  go_wp2_with fail
  refine (HI.out _).mono ?_; rintro e w1 ⟨rfl, rfl⟩
  go_wp2_with fail
  refine (HM.out _).mono ?_; rintro e w1 ⟨rfl, rfl⟩
  go_wp2_with fail
  refine (Hid.out H1).mono ?_; rintro e w2 ⟨rfl, rfl⟩
  go_wp2
  exact ⟨rfl, rfl, Below.refl _ _⟩
theorem writeList_size (B : Nat) (D A : Option Addr) (m d p c : Nat) (size : Int) (W : World) (hs : sizB size = false) :
    Calls Try.prog 21 #[.slice D m d, .slice A p c, .int .i64 size] W (RetT B W) := by
  have HI := fun W => isSize_any size W
  rw [hs] at HI
  have HI := Lib.hid HI
  have HM := Lib.hid must_no
  clear hs
  go_enter Try.func21, Try.ntmps21
  go_wp2_with fail
  refine (HI.out _).mono ?_; rintro e w1 ⟨rfl, rfl⟩
  go_wp2_with fail
  refine (HM.out _).mono ?_; rintro e w1 ⟨rfl, rfl⟩
  go_wp2
  exact ⟨rfl, rfl, Below.refl _ _⟩
end Go.Proofs.Ytngdblojglcfpaa
