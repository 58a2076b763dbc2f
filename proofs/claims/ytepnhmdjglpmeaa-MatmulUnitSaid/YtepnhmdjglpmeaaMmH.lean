/- The law's table that has One where row and column are one: what it answers. -/
import Derived.Test.YtepnhmdjglpmeaaMmL
namespace Go.Proofs.Ytepnhmdjglpmeaa
open Go.RowKit Go.Shelf Go.Proofs.ShM Go.Proofs.FixM
set_option linter.unusedVariables false

/-- The answer is the tensor. -/
def RetV (l m : List Int) (a b : Nat) (w : World) (e : Ending) (w' : World) : Prop := ∃ A c B d, e = .returned (.agg #[.slice A a c, .slice B b d]) ∧ TR w' A l B m ∧ Kp w w'

set_option maxHeartbeats 4000000 in
theorem unit_any (n : Nat) (w : World) (h1 : 1 ≤ n) (h8 : n ≤ 8) :
    Calls Try.prog 19 #[.int .i64 (n : Int)] w (RetV [(n : Int), (n : Int)] (unitL n) 2 (n * n) w) := by
  obtain ⟨Z, hZ⟩ : ∃ Z, Z = n * n := ⟨_, rfl⟩
  have hZ64 : Z ≤ 64 := by have := Nat.mul_le_mul h8 h8; omega
  have w1 : IntKind.i64.wrap ((n : Int) * (n : Int)) = (Z : Int) := by
    have e1 : (n : Int) * (n : Int) = ((n * n : Nat) : Int) := (Int.natCast_mul n n).symm
    rw [e1, ← hZ]; exact IntWalk.i64_in _ (by omega)
  have HU : Hid (unitL n = (List.range Z).map fun i => if i / n = i % n then 4294967296 else 0) := by show unitL n = _; rw [hZ]; rfl
  generalize unitL n = U at HU ⊢
  rw [← hZ]
  clear hZ
  go_enter Try.func19, Try.ntmps19
  go_upto_region 2 with fail
  obtain ⟨W2, HW2⟩ : ∃ W2, Hid (W2 = (w.alloc (.cells #[.slice none 0 0, .slice none 0 0] 24)).alloc (.cells #[.int .i64 (n : Int), .int .i64 (n : Int)] 3)) := ⟨_, rfl⟩
  have K2 : Hid (Kp w W2) := by show Kp w W2; rw [HW2.out]; exact (Kp.alloc_ _ _).al _
  have O2 : Hid (Bk W2 w.heap.size none 0 0 none 0 0) := by show Bk W2 _ _ _ _ _ _ _; rw [HW2.out]; exact (Bk.new rfl).alloc_ _
  have R2 : Hid (Rd W2 (some ⟨w.heap.size + 1, 0, none⟩) [(n : Int), (n : Int)]) := by show Rd W2 _ _; rw [HW2.out]; exact Rd.two_ (by simp)
  have hs2 : W2.heap.size = w.heap.size + 1 + 1 := by rw [HW2.out]; simp
  rw [← HW2.out, ← hs2]
  clear HW2
  have HG := Lib.hid (Gw.start W2 (some ⟨w.heap.size + 1, 0, none⟩) 2 2)
  have HS2 := Lib.hid hs2
  clear hs2
  go_wp2
  go_loopw [4] (fun i wr => ∃ (k : Nat) (zs : List Int) (Az : Option Addr) (cz : Nat), i = .int .i64 k ∧ Hid (k ≤ Z) ∧ Hid (zs = (List.range k).map fun i => if i / n = i % n then 4294967296 else 0) ∧ Hid (Gw W2 (some ⟨w.heap.size + 1, 0, none⟩) 2 2 zs Az cz wr)) (fun i _ => Z - (intOf i).toNat)
  case atStart => exact ⟨0, [], none, 0, rfl, Nat.zero_le _, rfl, HG.out⟩
  case round =>
    obtain ⟨k, zs, Az, cz, rfl, hk, hz, hg⟩ := hrel
    have hkZ : k ≤ Z := hk.out
    by_cases hlt : k < Z
    · have hlt' : (k : Int) < (Z : Int) := by omega
      have n0 : ¬ (n : Int) = 0 := by omega
      have n1 : (1 : Int) ≤ (n : Int) := by omega
      have k0 : (0 : Int) ≤ (k : Int) := by omega
      by_cases hq : k / n = k % n
      · have hb : (wrap64 ((k : Int) / (n : Int)) == (k : Int) % (n : Int)) = true := by
          rw [IntWalk.wrap64_in _ (by have h1 : 0 ≤ (k : Int) / (n : Int) := Int.ediv_nonneg (by omega) (by omega)
                                      have h2 : (k : Int) / (n : Int) ≤ (k : Int) := Int.ediv_le_self _ (by omega)
                                      omega)]
          have e1 : (k : Int) / (n : Int) = ((k / n : Nat) : Int) := rfl
          have e2 : (k : Int) % (n : Int) = ((k % n : Nat) : Int) := rfl
          rw [e1, e2]
          rw [hq]; simp
        have HZ2 : Hid (∀ ys, ys = zs ++ [(4294967296 : Int)] → ys = (List.range (k + 1)).map fun i => if i / n = i % n then 4294967296 else 0) := fun ys e => by
          rw [e, hz.out, List.range_succ, List.map_append]
          simp [hq]
        have HZL : Hid (zs.length = k) := by show zs.length = k; rw [hz.out]; simp
        clear hq
        go_wp2
        go_quiet (fail)
        obtain ⟨w5, hw5⟩ : ∃ w5, w5 = wr.drewN nq := ⟨_, rfl⟩
        have G5 : Hid (Gw W2 (some ⟨w.heap.size + 1, 0, none⟩) 2 2 zs Az cz w5) := by show Gw _ _ _ _ _ _ _ w5; rw [hw5]; exact hg.out.tr (Kp.drewN_ _ _)
        rw [← hw5]
        clear hw5 hb
        have g1 := G5.out.b.c1
        have g2 := G5.out.b.f0 1
        have HSZ2 := Lib.hid G5.out.sz
        go_wp2_with (at_builtin; refine wpList_app (B := W2.heap.size + 1) rfl (.tmp 24) (.tmp 25) rfl _ zs rfl (G5.out.o.kp (Kp.alloc_ _ _)) _ _ [4294967296] _ rfl rfl (Rd.one _ _ _) (by have := HZL.out; simp; omega) (by have := HSZ2.out; simp; omega) ?_; intro zs2 A5 c5 w8 HZ hown2 hb2; have HB : Hid (Below (W2.heap.size + 1) w5 w8) := (((Below.refl _ _).alloc HSZ2.out _).trans hb2); have HO2 := Lib.hid hown2; have g3 := (HB.out.cell (p := ⟨W2.heap.size, 1, none⟩) (Nat.lt_succ_self _)).trans g1; have g4 := (HB.out.frozen (p := ⟨W2.heap.size, 1, none⟩) (Nat.lt_succ_self _)).trans g2; clear hown2 hb2)
        go_roundw
        case rel => exact ⟨k + 1, zs2, A5, c5, by go_num, hlt, HZ2.out zs2 HZ.out, G5.out.put HO2.out HB.out⟩
        case measure => simp [intOf]; omega
      · have hb : (wrap64 ((k : Int) / (n : Int)) == (k : Int) % (n : Int)) = false := by
          rw [IntWalk.wrap64_in _ (by have h1 : 0 ≤ (k : Int) / (n : Int) := Int.ediv_nonneg (by omega) (by omega)
                                      have h2 : (k : Int) / (n : Int) ≤ (k : Int) := Int.ediv_le_self _ (by omega)
                                      omega)]
          have e1 : (k : Int) / (n : Int) = ((k / n : Nat) : Int) := rfl
          have e2 : (k : Int) % (n : Int) = ((k % n : Nat) : Int) := rfl
          rw [e1, e2]
          simp; omega
        have HZ2 : Hid (∀ ys, ys = zs ++ [(0 : Int)] → ys = (List.range (k + 1)).map fun i => if i / n = i % n then 4294967296 else 0) := fun ys e => by
          rw [e, hz.out, List.range_succ, List.map_append]
          simp [hq]
        have HZL : Hid (zs.length = k) := by show zs.length = k; rw [hz.out]; simp
        clear hq
        go_wp2
        go_quiet (fail)
        obtain ⟨w5, hw5⟩ : ∃ w5, w5 = wr.drewN nq := ⟨_, rfl⟩
        have G5 : Hid (Gw W2 (some ⟨w.heap.size + 1, 0, none⟩) 2 2 zs Az cz w5) := by show Gw _ _ _ _ _ _ _ w5; rw [hw5]; exact hg.out.tr (Kp.drewN_ _ _)
        rw [← hw5]
        clear hw5 hb
        have g1 := G5.out.b.c1
        have g2 := G5.out.b.f0 1
        have HSZ2 := Lib.hid G5.out.sz
        go_wp2_with (at_builtin; refine wpList_app (B := W2.heap.size + 1) rfl (.tmp 29) (.tmp 30) rfl _ zs rfl (G5.out.o.kp (Kp.alloc_ _ _)) _ _ [0] _ rfl rfl (Rd.one _ _ _) (by have := HZL.out; simp; omega) (by have := HSZ2.out; simp; omega) ?_; intro zs2 A5 c5 w8 HZ hown2 hb2; have HB : Hid (Below (W2.heap.size + 1) w5 w8) := (((Below.refl _ _).alloc HSZ2.out _).trans hb2); have HO2 := Lib.hid hown2; have g3 := (HB.out.cell (p := ⟨W2.heap.size, 1, none⟩) (Nat.lt_succ_self _)).trans g1; have g4 := (HB.out.frozen (p := ⟨W2.heap.size, 1, none⟩) (Nat.lt_succ_self _)).trans g2; clear hown2 hb2)
        go_roundw
        case rel => exact ⟨k + 1, zs2, A5, c5, by go_num, hlt, HZ2.out zs2 HZ.out, G5.out.put HO2.out HB.out⟩
        case measure => simp [intOf]; omega
    · have hlt' : ¬ (k : Int) < (Z : Int) := by omega
      have hkk : k = Z := by omega
      have HE : Hid (zs = U) := by show zs = U; rw [hz.out, HU.out, hkk]
      have HZL : Hid (zs.length = Z) := by show zs.length = Z; rw [hz.out, hkk]; simp
      have g0 := hg.out.b.c0
      have g1 := hg.out.b.c1
      have O5 := Lib.hid (O2.out.kp hg.out.k)
      have R5 := Lib.hid (R2.out.kp hg.out.k)
      have r0 := O5.out.c0
      have r1 := O5.out.c1
      have u0 := O5.out.f0 0
      have u1 := O5.out.f0 1
      clear hkk
      go_wp2
      refine bodyPost_ret (v := .agg #[.slice (some ⟨w.heap.size + 1, 0, none⟩) 2 2, .slice Az zs.length cz]) (by simp [results, Try.results19, go_sem, r0, r1]; try rfl) rfl ?_
      refine ⟨_, 2, Az, cz, by rw [HZL.out], ⟨R5.out.past O5.out _ _, ?_⟩, ((K2.out.tr hg.out.k).setCell (p := ⟨w.heap.size, 0, none⟩) (Nat.le_refl _) _).setCell (p := ⟨w.heap.size, 1, none⟩) (Nat.le_refl _) _⟩
      rw [← HE.out]
      exact hg.out.o.sl.rd.past O5.out _ _
end Go.Proofs.Ytepnhmdjglpmeaa
