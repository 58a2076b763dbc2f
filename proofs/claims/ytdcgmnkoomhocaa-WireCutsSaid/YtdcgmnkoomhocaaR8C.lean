/- The document's layer 8: Take. -/
import Derived.Test.YtdcgmnkoomhocaaPkAll
namespace Go.Proofs.Ytdcgmnkoomhocaa
open Go.RowKit Go.Proofs.ShM Go.Proofs.PkM
set_option linter.unusedVariables false
set_option maxHeartbeats 4000000

/-- A number, bytes that lie in memory, with room, and an error. -/
def RetRE (A0 : Option Addr) (bs : List Int) (v : Int) (r : List Int) (err : Int) (W : World) (e : Ending) (W' : World) : Prop :=
  ∃ A c, e = .returned (.tuple #[.int .i64 v, .slice A r.length c, .int .i64 err]) ∧ (∀ V, B8.Rd V A0 bs → B8.Rd V A r) ∧ r.length ≤ c ∧ c ≤ 9223372036854775807 ∧ Kp W W'
theorem rtake8_bad (A : Option Addr) (c : Nat) (bs : List Int) (size : Int) (w : World) (h : ¬ (sizB size = true ∧ size ≤ bs.length)) :
    Calls Try.prog 22 #[.slice A bs.length c, .int .i64 size] w (RetRE A bs 0 [] 40 w) := by
  by_cases hs : sizB size = true
  · have hl : (bs.length : Int) < size := by
      have : ¬ size ≤ bs.length := fun g => h ⟨hs, g⟩
      omega
    clear h
    rcases siz_cases hs with rfl | rfl | rfl
    all_goals
      clear hs
      go_enter Try.func22, Try.ntmps22
      go_wp2
      go_ret3
      exact ⟨none, 0, rfl, fun _ _ => B8.Rd.nil _ _, by simp, by simp, Kp.refl _⟩
  · clear h
    have h3 : size ≠ 1 ∧ size ≠ 2 ∧ size ≠ 8 := by unfold sizB at hs; simp at hs; omega
    have e1 : (size != 1) = true := by simpa using h3.1
    have e2 : (size != 2) = true := by simpa using h3.2.1
    have e8 : (size != 8) = true := by simpa using h3.2.2
    clear hs h3
    go_enter Try.func22, Try.ntmps22
    go_wp2
    go_ret3
    exact ⟨none, 0, rfl, fun _ _ => B8.Rd.nil _ _, by simp, by simp, Kp.refl _⟩

theorem u64_val {bs : List Int} {k : Nat} {x : Int} (hb : Bytes bs) (hk : k ≤ bs.length) (h7 : k ≤ 7) (hx : bs[k]? = some x) : IntKind.u64.wrap (valL (bs.take k) * 256) = valL (bs.take k) * 256 ∧ IntKind.u64.wrap x = x ∧ IntKind.u64.wrap (valL (bs.take k) * 256 + x) = valL (bs.take (k + 1)) := by
  obtain ⟨h0, h1⟩ := val_small hb hk h7
  have hx' := hb x (List.mem_of_getElem? hx)
  rw [val_take hx, IntKind.wrap_u64, IntKind.wrap_u64, IntKind.wrap_u64]
  refine ⟨?_, ?_, ?_⟩ <;> omega
theorem u64_as {bs : List Int} {k : Nat} (hb : Bytes bs) (hk : k ≤ bs.length) (h8 : k ≤ 8) : IntKind.i64.wrap (valL (bs.take k)) = PkM.asInt (valL (bs.take k)) := by
  have h := val_range k (bs.take k) (by rw [List.length_take]; omega) (fun b h => hb b (List.mem_of_mem_take h))
  have h2 := pw_mono h8
  have h3 : pw 8 = 18446744073709551616 := by decide
  rw [IntKind.wrap_i64]
  unfold PkM.asInt
  split <;> omega
theorem rtake8_1 (A : Option Addr) (c : Nat) (bs : List Int) (w : World) (hR : B8.Rd w A bs) (hc1 : bs.length ≤ c) (hc2 : c ≤ 9223372036854775807) (hb : Bytes bs) (hl : 1 ≤ bs.length) (hbl : bs.length ≤ 300000) :
    Calls Try.prog 22 #[.slice A bs.length c, .int .i64 1] w (RetRE A bs (PkM.asInt (valL (bs.take 1))) (bs.drop 1) 0 w) := by
  have hz : (bs.drop 1).length = bs.length - 1 := List.length_drop
  obtain ⟨v, hv⟩ : ∃ v, v = PkM.asInt (valL (bs.take 1)) := ⟨_, rfl⟩
  obtain ⟨r, hr⟩ : ∃ r, r = bs.drop 1 := ⟨_, rfl⟩
  rw [← hv, ← hr]
  rw [← hr] at hz
  have HZ := Lib.hid hz
  have HV := Lib.hid (And.intro hv hr)
  have HRd := Lib.hid hR
  have HBy := Lib.hid hb
  obtain ⟨ad, rfl, hlt, _⟩ := HRd.out.2 (by omega)
  have hle : ((1 : Int) ≤ (bs.length : Int)) := by omega
  clear hz hR hb hv hr
  go_enter Try.func22, Try.ntmps22
  go_wp2
  go_loopw [7, 8] (fun u i wx => ∃ k : Nat, u = .int .u64 (valL (bs.take k)) ∧ i = .int .i64 (k : Int) ∧ Hid (k ≤ 1) ∧ wx = w) (fun _ i _ => 1 - (intOf i).toNat)
  case atStart => exact ⟨0, rfl, rfl, Nat.zero_le _, rfl⟩
  case round =>
    obtain ⟨k, rfl, rfl, hk, rfl⟩ := hrel
    by_cases hj : k < 1
    · have hj' : (k : Int) < 1 := by omega
      obtain ⟨_, x, he, _, hx, hcell⟩ := HRd.out.at_ (show k < bs.length by omega)
      injection he with he
      subst he
      obtain ⟨e1, e2, e3⟩ := u64_val HBy.out (show k ≤ bs.length by omega) (show k ≤ 7 by omega) hx
      have HX := Lib.hid e3
      clear e3 hx
      generalize valL (bs.take k) = u at e1 HX ⊢
      have hkb : (k : Int) < (bs.length : Int) := by omega
      go_wp2
      go_roundw
      case rel => exact ⟨k + 1, by rw [← HX.out], by go_num, (by show k + 1 ≤ 1; omega), (by first | rfl | trivial)⟩
      case measure => simp [intOf]; omega
    · have hj' : ¬ (k : Int) < 1 := by omega
      obtain rfl : k = 1 := by have := hk.out; omega
      have hva := u64_as HBy.out (show 1 ≤ bs.length from hl) (by omega)
      rw [← HV.out.1] at hva
      generalize valL (bs.take 1) = u at hva ⊢
      go_wp2_with fail
      go_quiet (fail)
      have hadd : (⟨ad.block, ad.off + 1, none⟩ : Addr) = ad.add 1 := rfl
      have HD : Hid ((∀ V, B8.Rd V (some ad) bs → B8.Rd V (if c = 1 then some ad else some (ad.add 1)) r) ∧ r.length ≤ c - 1 ∧ c - 1 ≤ 9223372036854775807) := by
        refine ⟨fun V hV => ?_, by rw [HZ.out]; omega, by omega⟩
        rw [HV.out.2]
        by_cases hck : c = 1
        · rw [List.drop_eq_nil_of_le (by omega)]
          exact B8.Rd.nil _ _
        · rw [if_neg hck]
          exact hV.drop_ 1
      rw [← HZ.out, hadd]
      generalize (if c = 1 then some ad else some (ad.add 1)) = A2 at HD ⊢
      go_wp2
      go_ret3
      exact ⟨A2, c - 1, rfl, HD.out.1, HD.out.2.1, HD.out.2.2, Kp.drewN_ _ _⟩
theorem rtake8_2 (A : Option Addr) (c : Nat) (bs : List Int) (w : World) (hR : B8.Rd w A bs) (hc1 : bs.length ≤ c) (hc2 : c ≤ 9223372036854775807) (hb : Bytes bs) (hl : 2 ≤ bs.length) (hbl : bs.length ≤ 300000) :
    Calls Try.prog 22 #[.slice A bs.length c, .int .i64 2] w (RetRE A bs (PkM.asInt (valL (bs.take 2))) (bs.drop 2) 0 w) := by
  have hz : (bs.drop 2).length = bs.length - 2 := List.length_drop
  obtain ⟨v, hv⟩ : ∃ v, v = PkM.asInt (valL (bs.take 2)) := ⟨_, rfl⟩
  obtain ⟨r, hr⟩ : ∃ r, r = bs.drop 2 := ⟨_, rfl⟩
  rw [← hv, ← hr]
  rw [← hr] at hz
  have HZ := Lib.hid hz
  have HV := Lib.hid (And.intro hv hr)
  have HRd := Lib.hid hR
  have HBy := Lib.hid hb
  obtain ⟨ad, rfl, hlt, _⟩ := HRd.out.2 (by omega)
  have hle : ((2 : Int) ≤ (bs.length : Int)) := by omega
  clear hz hR hb hv hr
  go_enter Try.func22, Try.ntmps22
  go_wp2
  go_loopw [7, 8] (fun u i wx => ∃ k : Nat, u = .int .u64 (valL (bs.take k)) ∧ i = .int .i64 (k : Int) ∧ Hid (k ≤ 2) ∧ wx = w) (fun _ i _ => 2 - (intOf i).toNat)
  case atStart => exact ⟨0, rfl, rfl, Nat.zero_le _, rfl⟩
  case round =>
    obtain ⟨k, rfl, rfl, hk, rfl⟩ := hrel
    by_cases hj : k < 2
    · have hj' : (k : Int) < 2 := by omega
      obtain ⟨_, x, he, _, hx, hcell⟩ := HRd.out.at_ (show k < bs.length by omega)
      injection he with he
      subst he
      obtain ⟨e1, e2, e3⟩ := u64_val HBy.out (show k ≤ bs.length by omega) (show k ≤ 7 by omega) hx
      have HX := Lib.hid e3
      clear e3 hx
      generalize valL (bs.take k) = u at e1 HX ⊢
      have hkb : (k : Int) < (bs.length : Int) := by omega
      go_wp2
      go_roundw
      case rel => exact ⟨k + 1, by rw [← HX.out], by go_num, (by show k + 1 ≤ 2; omega), (by first | rfl | trivial)⟩
      case measure => simp [intOf]; omega
    · have hj' : ¬ (k : Int) < 2 := by omega
      obtain rfl : k = 2 := by have := hk.out; omega
      have hva := u64_as HBy.out (show 2 ≤ bs.length from hl) (by omega)
      rw [← HV.out.1] at hva
      generalize valL (bs.take 2) = u at hva ⊢
      go_wp2_with fail
      go_quiet (fail)
      have hadd : (⟨ad.block, ad.off + 2, none⟩ : Addr) = ad.add 2 := rfl
      have HD : Hid ((∀ V, B8.Rd V (some ad) bs → B8.Rd V (if c = 2 then some ad else some (ad.add 2)) r) ∧ r.length ≤ c - 2 ∧ c - 2 ≤ 9223372036854775807) := by
        refine ⟨fun V hV => ?_, by rw [HZ.out]; omega, by omega⟩
        rw [HV.out.2]
        by_cases hck : c = 2
        · rw [List.drop_eq_nil_of_le (by omega)]
          exact B8.Rd.nil _ _
        · rw [if_neg hck]
          exact hV.drop_ 2
      rw [← HZ.out, hadd]
      generalize (if c = 2 then some ad else some (ad.add 2)) = A2 at HD ⊢
      go_wp2
      go_ret3
      exact ⟨A2, c - 2, rfl, HD.out.1, HD.out.2.1, HD.out.2.2, Kp.drewN_ _ _⟩
theorem rtake8_8 (A : Option Addr) (c : Nat) (bs : List Int) (w : World) (hR : B8.Rd w A bs) (hc1 : bs.length ≤ c) (hc2 : c ≤ 9223372036854775807) (hb : Bytes bs) (hl : 8 ≤ bs.length) (hbl : bs.length ≤ 300000) :
    Calls Try.prog 22 #[.slice A bs.length c, .int .i64 8] w (RetRE A bs (PkM.asInt (valL (bs.take 8))) (bs.drop 8) 0 w) := by
  have hz : (bs.drop 8).length = bs.length - 8 := List.length_drop
  obtain ⟨v, hv⟩ : ∃ v, v = PkM.asInt (valL (bs.take 8)) := ⟨_, rfl⟩
  obtain ⟨r, hr⟩ : ∃ r, r = bs.drop 8 := ⟨_, rfl⟩
  rw [← hv, ← hr]
  rw [← hr] at hz
  have HZ := Lib.hid hz
  have HV := Lib.hid (And.intro hv hr)
  have HRd := Lib.hid hR
  have HBy := Lib.hid hb
  obtain ⟨ad, rfl, hlt, _⟩ := HRd.out.2 (by omega)
  have hle : ((8 : Int) ≤ (bs.length : Int)) := by omega
  clear hz hR hb hv hr
  go_enter Try.func22, Try.ntmps22
  go_wp2
  go_loopw [7, 8] (fun u i wx => ∃ k : Nat, u = .int .u64 (valL (bs.take k)) ∧ i = .int .i64 (k : Int) ∧ Hid (k ≤ 8) ∧ wx = w) (fun _ i _ => 8 - (intOf i).toNat)
  case atStart => exact ⟨0, rfl, rfl, Nat.zero_le _, rfl⟩
  case round =>
    obtain ⟨k, rfl, rfl, hk, rfl⟩ := hrel
    by_cases hj : k < 8
    · have hj' : (k : Int) < 8 := by omega
      obtain ⟨_, x, he, _, hx, hcell⟩ := HRd.out.at_ (show k < bs.length by omega)
      injection he with he
      subst he
      obtain ⟨e1, e2, e3⟩ := u64_val HBy.out (show k ≤ bs.length by omega) (show k ≤ 7 by omega) hx
      have HX := Lib.hid e3
      clear e3 hx
      generalize valL (bs.take k) = u at e1 HX ⊢
      have hkb : (k : Int) < (bs.length : Int) := by omega
      go_wp2
      go_roundw
      case rel => exact ⟨k + 1, by rw [← HX.out], by go_num, (by show k + 1 ≤ 8; omega), (by first | rfl | trivial)⟩
      case measure => simp [intOf]; omega
    · have hj' : ¬ (k : Int) < 8 := by omega
      obtain rfl : k = 8 := by have := hk.out; omega
      have hva := u64_as HBy.out (show 8 ≤ bs.length from hl) (by omega)
      rw [← HV.out.1] at hva
      generalize valL (bs.take 8) = u at hva ⊢
      go_wp2_with fail
      go_quiet (fail)
      have hadd : (⟨ad.block, ad.off + 8, none⟩ : Addr) = ad.add 8 := rfl
      have HD : Hid ((∀ V, B8.Rd V (some ad) bs → B8.Rd V (if c = 8 then some ad else some (ad.add 8)) r) ∧ r.length ≤ c - 8 ∧ c - 8 ≤ 9223372036854775807) := by
        refine ⟨fun V hV => ?_, by rw [HZ.out]; omega, by omega⟩
        rw [HV.out.2]
        by_cases hck : c = 8
        · rw [List.drop_eq_nil_of_le (by omega)]
          exact B8.Rd.nil _ _
        · rw [if_neg hck]
          exact hV.drop_ 8
      rw [← HZ.out, hadd]
      generalize (if c = 8 then some ad else some (ad.add 8)) = A2 at HD ⊢
      go_wp2
      go_ret3
      exact ⟨A2, c - 8, rfl, HD.out.1, HD.out.2.1, HD.out.2.2, Kp.drewN_ _ _⟩
theorem rtake8_any (A : Option Addr) (c : Nat) (bs : List Int) (size : Int) (w : World) (hR : B8.Rd w A bs) (hc1 : bs.length ≤ c) (hc2 : c ≤ 9223372036854775807) (hb : Bytes bs) (hbl : bs.length ≤ 300000) :
    Calls Try.prog 22 #[.slice A bs.length c, .int .i64 size] w (RetRE A bs (takeV bs size).1 (takeV bs size).2.1 (takeV bs size).2.2 w) := by
  unfold takeV
  by_cases h : sizB size = true ∧ size ≤ bs.length
  · rw [if_pos h]
    obtain ⟨h1, h2⟩ := h
    rcases siz_cases h1 with rfl | rfl | rfl
    · exact rtake8_1 A c bs w hR hc1 hc2 hb (by omega) hbl
    · exact rtake8_2 A c bs w hR hc1 hc2 hb (by omega) hbl
    · exact rtake8_8 A c bs w hR hc1 hc2 hb (by omega) hbl
  · rw [if_neg h]
    exact rtake8_bad A c bs size w h
end Go.Proofs.Ytdcgmnkoomhocaa
