/- The document's layer 11: Node: another shape, turned, products and parts. -/
import Derived.Test.YtnkkkpanlnencaaR11D
namespace Go.Proofs.Ytnkkkpanlnencaa
open Go.RowKit Go.Proofs.ShM Go.Proofs.GrM Go.Proofs.InM
set_option linter.unusedVariables false
set_option linter.unusedSimpArgs false
set_option maxHeartbeats 8000000

/-- What told answers, written out. -/
def toldE (A0 : Option Addr) (c0 : Nat) (s : List Int) (b : Bool) : Value := if b = true ∧ okS s = true then .tuple #[.slice A0 s.length c0, .int .i64 0] else .tuple #[.slice none 0 0, .int .i64 20]
theorem rtold11e (A : Option Addr) (c : Nat) (s : List Int) (so : Bool) (w : World) (h : Rd w A s) :
    Calls Try.prog 26 #[.slice A s.length c, .bool so] w fun e w' => e = .returned (toldE A c s so) ∧ w' = w := by
  have HC := Lib.hid (rcheck_any A c s w h)
  obtain ⟨q, hq⟩ : ∃ q, q = okS s := ⟨_, rfl⟩
  rw [← hq] at HC
  cases so <;> cases q
  all_goals
    unfold toldE
    rw [← hq]
    clear hq h
    go_enter Try.func26, Try.ntmps26
    go_wp2_with fail
    refine (Hid.out HC).mono ?_; rintro e w1 ⟨rfl, rfl⟩
    go_wp2
    go_ret2
    exact ⟨rfl, rfl⟩
theorem quiet12 {f : FuncId} {args : Array Value} {w : World} {n : Nat} {v : Value} (h : Calls Try.prog f args (w.drewN n) fun e w' => e = .returned v ∧ w.drewN n = w') :
    Calls Try.prog f args (w.drewN n) fun e w'' => e = .returned v ∧ ∃ m, w'' = w.drewN m := h.mono fun _ _ ⟨he, hm⟩ => ⟨he, n, hm.symm⟩

set_option maxRecDepth 100000 in
theorem rnode_40 (X : Nat → Prop) (P Q : Option Addr) (n c m d : Nat) (A : Option Addr) (na e : Nat) (gs : List (List Int)) (w : World) (hml : m ≤ 9223372036854775807) (HG : Hid (RdLX w X A gs)) (HNG : Hid (na = gs.length)) (HN : Hid (NC w 40 (na : Int) true P n c Q m d)) (hok : gs.all okS = true) (ad : Addr) (hA : A = some ad) (hlt : ad.block < w.heap.size) (a : List Int) (Pa : Option Addr) (ca : Nat) (h0 : w.cell? ad = some (.slice Pa a.length ca)) (RA : Hid (Rd w Pa a)) (hca : a.length ≤ ca ∧ ca ≤ 9223372036854775807) (XA : Hid (∀ ad, Pa = some ad → 0 < a.length → X ad.block)) (i0 : (0 : Int) < (na : Int)) (nums : List Int) (HQ : Hid (Rd w Q nums)) (HM : Hid (m = nums.length)) (hd : m ≤ d ∧ d ≤ 9223372036854775807) (XQ : Hid (∀ ad, Q = some ad → 0 < nums.length → X ad.block)) :
    Calls Try.prog 12 #[.agg #[.int .i64 40, .slice P n c, .slice Q m d], .slice A na e] w (RetM X (toldV nums (decide (sizeV nums = sizeV a))) w) := by
  have t1 : ((na : Int) != (na : Int)) = false := by simp
  have hnl : na ≤ 9223372036854775807 := by rw [HNG.out]; exact HG.out.len
  have HOK : Hid (∀ s ∈ gs, okS s = true) := fun s hs => List.all_eq_true.1 hok s hs
  clear hok
  subst hA
  have hal := RA.out.len
  have HKC : Hid (∀ V, Kp w V → V.cell? ad = some (.slice Pa a.length ca)) := fun V k => (k.cell hlt).trans h0
  clear h0
  obtain ⟨sn, hsn⟩ : ∃ sn, sn = sizeV nums := ⟨_, rfl⟩
  obtain ⟨sa, hsa⟩ : ∃ sa, sa = sizeV a := ⟨_, rfl⟩
  rw [← hsn, ← hsa]
  have HS1 : Hid (∀ V, Kp w V → Calls Try.prog 27 #[.slice Q m d] V fun e w' => e = .returned (.int .i64 sn) ∧ V = w') := fun V k => by rw [hsn, HM.out]; exact rsize_any Q d nums V (HQ.out.kp k)
  have HS2 : Hid (∀ V, Kp w V → Calls Try.prog 27 #[.slice Pa a.length ca] V fun e w' => e = .returned (.int .i64 sa) ∧ V = w') := fun V k => by rw [hsa]; exact rsize_any Pa ca a V (RA.out.kp k)
  obtain ⟨b, hb⟩ : ∃ b, b = decide (sn = sa) := ⟨_, rfl⟩
  rw [← hb]
  have hbq : (sn == sa) = b := by rw [hb]; rfl
  have HTL : Hid (∀ V, Kp w V → Calls Try.prog 26 #[.slice Q m d, .bool b] V fun e w' => e = .returned (toldE Q d nums b) ∧ w' = V) := fun V k => by rw [HM.out]; exact rtold11e Q d nums b V (HQ.out.kp k)
  have HRM : Hid (∀ V : World, Kp w V → ∃ A1 n1 c1 e1, toldE Q d nums b = .tuple #[.slice A1 n1 c1, .int .i64 e1] ∧ RetM X (toldV nums b) w (.returned (.tuple #[.slice A1 n1 c1, .int .i64 e1])) V) := fun V k => by
    unfold toldE toldV
    by_cases g : b = true ∧ okS nums = true
    · rw [if_pos g, if_pos g]
      exact ⟨_, _, _, _, rfl, RetM.arg rfl (HQ.out.kp k) (by rw [← HM.out]; exact hd.1) hd.2 XQ.out k 0⟩
    · rw [if_neg g, if_neg g]
      exact ⟨_, _, _, _, rfl, RetM.none_ k 20⟩
  obtain ⟨A1, n1, c1, ee1, hT, _⟩ := HRM.out w (Kp.refl _)
  have HRM2 : Hid (∀ V : World, Kp w V → RetM X (toldV nums b) w (.returned (.tuple #[.slice A1 n1 c1, .int .i64 ee1])) V) := fun V k => by
    obtain ⟨A2, n2, c2, ee2, h2, h3⟩ := HRM.out V k
    rw [hT] at h2
    injection h2 with h2
    have h2' : [Value.slice A1 n1 c1, Value.int .i64 ee1] = [Value.slice A2 n2 c2, Value.int .i64 ee2] := by simpa using h2
    injection h2' with g1 g2
    injection g1 with g3 g4 g5
    injection g2 with g2 _
    injection g2 with _ g6
    rw [g3, g4, g5, g6]
    exact h3
  rw [hT] at HTL
  clear hsn hsa hb hT HRM
  have F0 := Lib.hid (Nb.new (W := w) (b := w.heap.size) (op := 40) (P := P) (n := n) (c := c) (Q := Q) (m := m) (d := d) rfl)
  have K0 : Hid (Kp w (w.alloc (.cells #[.int .i64 40, .slice P n c, .slice Q m d] 25))) := Kp.alloc_ _ _
  go_enter Try.func12, Try.ntmps12
  go_wp2_with fail
  refine (HN.out.al _ K0.out).mono ?_; rintro e1 w1 ⟨rfl, k1⟩
  have K1 := Lib.hid (K0.out.tr k1)
  have F1 := Lib.hid (F0.out.kp k1)
  have p0 := F1.out.c0
  have p1 := F1.out.c1
  have p2 := F1.out.c2
  clear k1
  go_wp2_with fail
  refine (HN.out.ar _).mono ?_; rintro e2 w2 ⟨rfl, rfl⟩
  go_wp2
  go_loopw [7, 8] (fun i _ wx => ∃ k : Nat, i = .int .i64 (k : Int) ∧ Hid (k ≤ na) ∧ wx = w1) (fun i _ _ => na - (intOf i).toNat)
  case atStart => exact ⟨0, rfl, Nat.zero_le _, rfl⟩
  case round =>
    obtain ⟨k, rfl, hk, rfl⟩ := hrel
    by_cases hj : k < na
    · have hj' : (k : Int) < (na : Int) := by omega
      obtain ⟨ad9, s9, Pv, cv, ea9, hlt9, hs, hc, hr, _, _, _⟩ := (HG.out.kp K1.out).at_ (k := k) (by rw [← HNG.out]; exact hj)
      have HCK := Lib.hid (rcheck_any Pv cv s9 wr hr)
      rw [HOK.out s9 (List.mem_of_getElem? hs)] at HCK
      clear hs hr
      injection ea9 with ea9
      subst ea9
      go_wp2_with fail
      refine (Hid.out HCK).mono ?_; rintro e3 w3 ⟨rfl, rfl⟩
      go_wp2
      go_roundw
      case rel => exact ⟨k + 1, by go_num, (by show k + 1 ≤ na; omega), (by first | rfl | trivial)⟩
      case measure => simp [intOf]; omega
    · have hj' : ¬ (k : Int) < (na : Int) := by omega
      have q0 := HKC.out _ K1.out
      have HQC : Hid (∀ n : Nat, (wr.drewN n).cell? ad = some (.slice Pa a.length ca)) := fun n => HKC.out _ (K1.out.tr (Kp.drewN_ _ n))
      go_wp2_with fail
      go_quiet ((first | (go_at_call_of 27 Q; exact quiet12 (HS1.out _ (K1.out.tr (Kp.drewN_ _ _)))) | (go_at_call_of 27 Pa; exact quiet12 (HS2.out _ (K1.out.tr (Kp.drewN_ _ _)))) | (go_at_call 26; exact quiet11 (HTL.out _ (K1.out.tr (Kp.drewN_ _ _))))))
      go_wp2
      go_ret2
      exact HRM2.out _ (K1.out.tr (Kp.drewN_ _ _))

end Go.Proofs.Ytnkkkpanlnencaa
