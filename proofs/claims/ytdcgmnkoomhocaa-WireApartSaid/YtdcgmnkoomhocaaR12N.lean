/- The document's layer 12: Read of whatever bytes. -/
import Derived.Test.YtdcgmnkoomhocaaR12B
import Derived.Test.YtdcgmnkoomhocaaR10S
namespace Go.Proofs.Ytdcgmnkoomhocaa
open Go.RowKit Go.Proofs.ShM Go.Proofs.GrM Go.Proofs.PkM Go.Proofs.WiM
set_option linter.unusedVariables false
set_option maxHeartbeats 8000000

theorem take_nil (s : Int) (h : s = 1) : takeV [] s = (0, [], 40) := by subst h; decide +kernel
theorem read_nil : readV [] = ([], 120) := by decide +kernel
set_option maxRecDepth 100000 in
theorem rread12_no (A : Option Addr) (c : Nat) (w : World) (hc2 : c ≤ 9223372036854775807) :
    Calls Try.prog 12 #[.slice A 0 c] w (RetNE ([], 120) w) := by
  have HT0 : Hid (Calls Try.prog 22 #[.slice A 0 c, .int .i64 1] w (RetRE A [] 0 [] 40 w)) := by
    have h := rtake8_any A c [] 1 w (B8.Rd.nil _ _) (by simp) hc2 (fun _ h => by cases h) (by simp)
    rw [take_nil 1 rfl] at h
    exact h
  have HWR : Hid (∀ W, Calls Try.prog 10 #[.slice none 0 0] W (RetBE [] 100 W)) := fun W => by
    have h := rwrite12 none 0 [] W (RdN.nil_ _ _ _)
    rw [show writeV [] = ([], 100) by decide +kernel] at h
    exact h
  go_enter Try.func12, Try.ntmps12
  go_wp2_with fail
  refine (Hid.out HT0).mono ?_; rintro e1 w1 ⟨R1, c1, rfl, _, _, _, k1⟩
  have K1 := Lib.hid k1
  clear k1 HT0
  go_wp2
  go_loopw [5, 7, 8] (fun v q i wx => v = .slice R1 0 c1 ∧ q = .slice none 0 0 ∧ i = .int .i64 0 ∧ wx = w1) (fun _ _ _ _ => 0)
  case atStart => exact ⟨rfl, rfl, rfl, rfl⟩
  case round =>
    obtain ⟨rfl, rfl, rfl, rfl⟩ := hrel
    go_wp2_with fail
    refine (HWR.out _).mono ?_; rintro e1 w5 ⟨A5, c5, rfl, o5, k5⟩
    have K5 := Lib.hid (K1.out.tr k5)
    clear o5 k5
    go_wp2
    go_ret2
    exact RetNE.none_ K5.out 120
theorem rread12_any (A : Option Addr) (c : Nat) (bs : List Int) (w : World) (hR : B8.Rd w A bs) (hc1 : bs.length ≤ c) (hc2 : c ≤ 9223372036854775807) (hb : Bytes bs) (hbl : bs.length ≤ 200000) :
    Calls Try.prog 12 #[.slice A bs.length c] w (RetNE (readV bs) w) := by
  cases bs with
  | nil => rw [read_nil]; exact rread12_no A c w hc2
  | cons x b =>
    refine rread12_yes A c (x :: b) w hR hc1 hc2 hb hbl ?_
    unfold takeV
    rw [if_pos ⟨by decide, by simp; omega⟩]
/-- What is read is small. -/
theorem small_read {bs : List Int} {l : List Nd} (hb : Bytes bs) (h : readV bs = (l, 0)) : SmallG l ∧ checkB l = true ∧ writeV l = (bs, 0) := by
  rcases read_cases bs with ⟨l', e1, e2, e3⟩ | e
  · rw [h] at e1
    injection e1 with e1 _
    subst e1
    have hc := (write_is e3).1
    have hw := read_wf hb e2
    refine ⟨⟨by have := (check_iff.1 hc).2.1; omega, fun t ht => ?_⟩, hc, e3⟩
    obtain ⟨k, hk⟩ := List.mem_iff_getElem?.1 ht
    obtain ⟨g1, g2, g3, g4, g5⟩ := small_nd hc hk
    refine ⟨by omega, by omega, fun x hx => ?_, fun x hx => ?_, fun x hx => ?_⟩
    · rw [List.mem_singleton.1 hx]; omega
    · have := g5 x hx; omega
    · exact (hw t ht).nr x hx
  · rw [h] at e; injection e with _ e; cases e
theorem read_err {bs : List Int} {l : List Nd} {e : Int} (h : readV bs = (l, e)) : e = 0 ∨ e = 120 ∧ l = [] := by
  rcases read_cases bs with ⟨l', e1, _, _⟩ | g
  · rw [h] at e1; injection e1 with _ e1; exact .inl e1
  · rw [h] at g; injection g with g1 g2; exact .inr ⟨g2, g1⟩
theorem write_err {l : List Nd} {r : List Int} {e : Int} (h : writeV l = (r, e)) : (e = 0 ∧ checkB l = true ∧ r = (l.length : Int) :: encN l) ∨ e = 100 ∧ checkB l = false ∧ r = [] := by
  unfold writeV at h
  split at h
  · rename_i g; injection h with h1 h2; exact .inl ⟨h2.symm, g, h1.symm⟩
  · rename_i g; injection h with h1 h2; exact .inr ⟨h2.symm, by simpa using g, h1.symm⟩
theorem small_write {l : List Nd} {r : List Int} {e : Int} (hs : SmallG l) (h : writeV l = (r, e)) : r.length ≤ 1000 ∧ Bytes r ∧ (e = 0 → (∀ t ∈ l, Wf t) ∧ readV r = (l, 0)) := by
  rcases write_err h with ⟨h1, h2, h3⟩ | ⟨h1, h2, h3⟩
  · have wf := check_wf h2 (fun t ht n hn => (hs.2 t ht).2.2.2.2 n hn)
    have hl := (check_iff.1 h2).2.1
    have es := enc_small h2 l.length (Nat.le_refl _)
    rw [List.take_length] at es
    refine ⟨by rw [h3, List.length_cons]; omega, by rw [h3]; exact write_bytes h2 wf, fun _ => ⟨wf, ?_⟩⟩
    rw [h3]; exact write_read h2 wf
  · subst h1 h3
    exact ⟨by simp, (fun _ h => by cases h), fun h => by cases h⟩
end Go.Proofs.Ytdcgmnkoomhocaa
