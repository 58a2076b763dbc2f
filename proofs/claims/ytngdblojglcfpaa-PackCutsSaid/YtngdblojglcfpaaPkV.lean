/- Layer 8 of the program: read: a number from bytes. -/
import Derived.Test.YtngdblojglcfpaaPkP
namespace Go.Proofs.Ytngdblojglcfpaa
open Go.RowKit Go.Proofs.ShM Go.Proofs.PkM
set_option linter.unusedVariables false
set_option maxHeartbeats 4000000

/-- A number, and bytes that lie in memory, with room. -/
def RetR (A0 : Option Addr) (bs : List Int) (v : Int) (r : List Int) (W : World) (e : Ending) (W' : World) : Prop := ∃ A c, e = .returned (.tuple #[.int .i64 v, .slice A r.length c]) ∧ (∀ V, B8.Rd V A0 bs → B8.Rd V A r) ∧ r.length ≤ c ∧ c ≤ 9223372036854775807 ∧ Kp W W'

theorem B8.Rd.drop_ {w : World} {ad : Addr} {xs : List Int} (h : B8.Rd w (some ad) xs) (k : Nat) : B8.Rd w (some (ad.add k)) (xs.drop k) := by
  refine ⟨by rw [List.length_drop]; have := h.1; omega, fun hp => ⟨_, rfl, ?_, fun j u hj => ?_⟩⟩
  · obtain ⟨_, e, hb, _⟩ := h.2 (by rw [List.length_drop] at hp; omega)
    injection e with e
    subst e
    rw [block_of_add]; exact hb
  · obtain ⟨_, e, _, hc⟩ := h.2 (by rw [List.length_drop] at hp; omega)
    injection e with e
    subst e
    rw [List.getElem?_drop] at hj
    have := hc (k + j) u hj
    rw [Addr.add_add]
    exact this
theorem or_byte (u x : Int) (h0 : 0 ≤ u) (h1 : u < 72057594037927936) (hx : 0 ≤ x) (hx2 : x ≤ 255) : bits .or .i64 (wrap64 (u * 256)) x = PkM.asInt (u * 256 + x) := by
  have e1 : BitVec.ofInt 64 (wrap64 (u * 256)) = BitVec.ofNat 64 (u.toNat * 256) := by
    apply BitVec.eq_of_toNat_eq
    rw [BitVec.toNat_ofInt, BitVec.toNat_ofNat]
    unfold wrap64
    omega
  have e2 : BitVec.ofInt 64 x = BitVec.ofNat 64 x.toNat := by
    apply BitVec.eq_of_toNat_eq
    rw [BitVec.toNat_ofInt, BitVec.toNat_ofNat]
    omega
  have e3 : (BitVec.ofInt 64 (wrap64 (u * 256)) ||| BitVec.ofInt 64 x).toNat = u.toNat * 256 + x.toNat := by
    rw [BitVec.toNat_or, e1, e2, BitVec.toNat_ofNat, BitVec.toNat_ofNat, Nat.mod_eq_of_lt (by omega), Nat.mod_eq_of_lt (by omega)]
    have := Nat.two_pow_add_eq_or_of_lt (i := 8) (b := x.toNat) (by omega) u.toNat
    rw [Nat.mul_comm] at this
    exact this.symm
  have e5 : bits .or .i64 (wrap64 (u * 256)) x = IntKind.i64.wrap (((BitVec.ofInt 64 (wrap64 (u * 256)) ||| BitVec.ofInt 64 x).toNat : Nat) : Int) := rfl
  rw [e5, e3]
  have e4 : ((u.toNat * 256 + x.toNat : Nat) : Int) = u * 256 + x := by omega
  rw [e4]
  rw [IntKind.wrap_i64]
  unfold PkM.asInt
  split <;> omega
theorem read_yes (A : Option Addr) (m c : Nat) (bs : List Int) (size : Int) (W : World) (hR : B8.Rd W A bs) (hc1 : bs.length ≤ c) (hc2 : c ≤ 9223372036854775807) (hb : Bytes bs) (hm : m = bs.length) (hs : sizB size = true) (hl : size ≤ bs.length) (hbl : bs.length ≤ 10000) :
    Calls Try.prog 19 #[.slice A m c, .int .i64 size] W (RetR A bs (PkM.asInt (valL (bs.take size.toNat))) (bs.drop size.toNat) W) := by
  have HI := fun W => isSize_any size W
  rw [hs] at HI
  have HI := Lib.hid HI
  have HM := Lib.hid must_yes
  obtain ⟨sz, hsz, hsz2, hsz3⟩ : ∃ sz : Nat, size = (sz : Int) ∧ sz ≤ 8 ∧ 1 ≤ sz := by
    rcases siz_cases hs with rfl | rfl | rfl
    · exact ⟨1, rfl, by omega, by omega⟩
    · exact ⟨2, rfl, by omega, by omega⟩
    · exact ⟨8, rfl, by omega, by omega⟩
  subst hsz
  rw [Int.toNat_natCast]
  have hl' : sz ≤ bs.length := by omega
  have hz : (bs.drop sz).length = bs.length - sz := List.length_drop
  obtain ⟨v, hv⟩ : ∃ v, v = PkM.asInt (valL (bs.take sz)) := ⟨_, rfl⟩
  obtain ⟨r, hr⟩ : ∃ r, r = bs.drop sz := ⟨_, rfl⟩
  rw [← hv, ← hr]
  rw [← hr] at hz
  have HZ := Lib.hid hz
  have HV := Lib.hid (And.intro hv hr)
  have HRd := Lib.hid hR
  have HBy := Lib.hid hb
  clear hz hR hb hs hl hv hr
  subst hm
  go_enter Try.func19, Try.ntmps19
  go_wp2_with fail
  refine (HI.out _).mono ?_; rintro e w1 ⟨rfl, rfl⟩
  go_wp2_with fail
  refine (HM.out _).mono ?_; rintro e w1 ⟨rfl, rfl⟩
  obtain ⟨ad, rfl, hlt, _⟩ := HRd.out.2 (by omega)
  go_wp2
  go_loopw [6, 22] (fun v i wx => ∃ k : Nat, v = .int .i64 (PkM.asInt (valL (bs.take k))) ∧ i = .int .i64 (k : Int) ∧ Hid (k ≤ sz) ∧ wx = w1) (fun _ i _ => sz - (intOf i).toNat)
  case atStart => exact ⟨0, rfl, rfl, Nat.zero_le _, rfl⟩
  case round =>
    obtain ⟨k, rfl, rfl, hk, rfl⟩ := hrel
    by_cases hj : k < sz
    · have hj' : (k : Int) < (sz : Int) := by omega
      obtain ⟨_, x, he, _, hx, hcell⟩ := HRd.out.at_ (show k < bs.length by omega)
      injection he with he
      subst he
      have hx0 := HBy.out x (List.mem_of_getElem? hx)
      obtain ⟨hu0, hu1⟩ := val_small HBy.out (show k ≤ bs.length by omega) (show k ≤ 7 by omega)
      have hv := val_take hx
      obtain ⟨u, hu⟩ : ∃ u, u = valL (bs.take k) := ⟨_, rfl⟩
      rw [← hu] at hv hu0 hu1 ⊢
      have e1 : PkM.asInt u = u := by unfold PkM.asInt; rw [if_pos (by omega)]
      have e3 := or_byte u x hu0 hu1 hx0.1 hx0.2
      rw [← hv] at e3
      rw [e1]
      have HX := Lib.hid e3
      clear hu hu0 hu1 hx hv e1 e3
      go_wp2
      go_roundw
      case rel => exact ⟨k + 1, by rw [HX.out], by go_num, (by show k + 1 ≤ sz; omega), (by first | rfl | trivial)⟩
      case measure => simp [intOf]; omega
    · have hj' : ¬ (k : Int) < (sz : Int) := by omega
      obtain rfl : k = sz := by have := hk.out; omega
      rw [← HV.out.1]
      clear hk
      go_wp2_with fail
      go_quiet (fail)
      have HD : Hid ((∀ V, B8.Rd V (some ad) bs → B8.Rd V (if c = k then some ad else some (ad.add k)) r) ∧ r.length ≤ c - k ∧ c - k ≤ 9223372036854775807) := by
        refine ⟨fun V hV => ?_, by rw [HZ.out]; omega, by omega⟩
        rw [HV.out.2]
        by_cases hck : c = k
        · rw [List.drop_eq_nil_of_le (by omega)]
          exact B8.Rd.nil _ _
        · rw [if_neg hck]
          exact hV.drop_ k
      rw [← HZ.out]
      generalize (if c = k then some ad else some (ad.add k)) = A2 at HD ⊢
      go_wp2
      go_ret2
      exact ⟨A2, c - k, rfl, fun V hV => HD.out.1 V hV, HD.out.2.1, HD.out.2.2, Kp.drewN_ _ _⟩
theorem read_short (A : Option Addr) (m c : Nat) (size : Int) (W : World) (hs : sizB size = true) (hl : ¬ size ≤ (m : Int)) :
    Calls Try.prog 19 #[.slice A m c, .int .i64 size] W fun e W' => e = thrown40 ∧ W' = W := by
  have HI := fun W => isSize_any size W
  rw [hs] at HI
  have HI := Lib.hid HI
  have HM := Lib.hid must_no
  clear hs
  go_enter Try.func19, Try.ntmps19
  go_wp2_with fail
  refine (HI.out _).mono ?_; rintro e w1 ⟨rfl, rfl⟩
  go_wp2_with fail
  rw [show decide (size ≤ (m : Int)) = false from by simp; omega]
  refine (HM.out _).mono ?_; rintro e w1 ⟨rfl, rfl⟩
  go_wp2
  exact ⟨rfl, rfl, rfl⟩
theorem read_size (A : Option Addr) (m c : Nat) (size : Int) (W : World) (hs : sizB size = false) :
    Calls Try.prog 19 #[.slice A m c, .int .i64 size] W fun e W' => e = thrown40 ∧ W' = W := by
  have HI := fun W => isSize_any size W
  rw [hs] at HI
  have HI := Lib.hid HI
  have HM := Lib.hid must_no
  clear hs
  go_enter Try.func19, Try.ntmps19
  go_wp2_with fail
  refine (HI.out _).mono ?_; rintro e w1 ⟨rfl, rfl⟩
  go_wp2_with fail
  refine (HM.out _).mono ?_; rintro e w1 ⟨rfl, rfl⟩
  go_wp2
  exact ⟨rfl, rfl, rfl⟩
end Go.Proofs.Ytngdblojglcfpaa
