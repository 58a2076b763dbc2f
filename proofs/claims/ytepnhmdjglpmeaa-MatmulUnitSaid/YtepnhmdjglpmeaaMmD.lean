/- The document's number and Mul of layer 7 (fullerref07): what they answer. -/
import Derived.Test.YtepnhmdjglpmeaaMmC
namespace Go.Proofs.Ytepnhmdjglpmeaa
open Go.RowKit Go.Shelf Go.Proofs.ShM Go.Proofs.FixM
set_option linter.unusedVariables false

theorem at_two {M K : Nat} {xs : List Int} (h : tokV [(M : Int), (K : Int)] xs = true) {i k : Nat} (hi : i < M) (hk : k < K) : atV [(M : Int), (K : Int)] xs [(i : Int), (k : Int)] = (xs.getD (i * K + k) 0, 0) := by
  rw [at_in h (by simp [inIdx]; omega)]
  have e : plc [(M : Int), (K : Int)] [(i : Int), (k : Int)] = ((i * K + k : Nat) : Int) := by simp [plc, prodS]
  rw [e, Int.toNat_natCast]

/-- The two tensors' boxes. -/
structure Nb (w : World) (A : Option Addr) (n c : Nat) (B : Option Addr) (m d : Nat) (C : Option Addr) (p e : Nat) (D : Option Addr) (q f : Nat) (W : World) : Prop where
  kp : Kp w W
  t0 : Bk W w.heap.size A n c B m d
  t1 : Bk W (w.heap.size + 1) C p e D q f
section
variable {w W W' : World} {A B C D : Option Addr} {n c m d p e q f : Nat}
theorem Nb.tr (h : Nb w A n c B m d C p e D q f W) (k : Kp W W') : Nb w A n c B m d C p e D q f W' := ⟨h.kp.tr k, h.t0.kp k, h.t1.kp k⟩
theorem Nb.mk_ (w : World) (A : Option Addr) (n c : Nat) (B : Option Addr) (m d : Nat) (C : Option Addr) (p e : Nat) (D : Option Addr) (q f : Nat) :
    Nb w A n c B m d C p e D q f ((w.alloc (.cells #[.slice A n c, .slice B m d] 24)).alloc (.cells #[.slice C p e, .slice D q f] 24)) where
  kp := (Kp.alloc_ _ _).al _
  t0 := (Bk.new rfl).alloc_ _
  t1 := Bk.new (by simp)
end

set_option maxHeartbeats 8000000 in
theorem rnumber_any (A B C D : Option Addr) (c d e f M K N i j : Nat) (xs ys : List Int) (w : World) (hA : Rd w A [(M : Int), (K : Int)]) (hB : Rd w B xs) (hC : Rd w C [(K : Int), (N : Int)]) (hD : Rd w D ys)
    (h1 : tokV [(M : Int), (K : Int)] xs = true) (h2 : tokV [(K : Int), (N : Int)] ys = true) (hi : i < M) (hj : j < N) (hI : I64s xs) (hJ : I64s ys) (hK : K ≤ 16) :
    Calls Try.prog 34 #[.agg #[.slice A 2 c, .slice B xs.length d], .agg #[.slice C 2 e, .slice D ys.length f], .int .i64 (i : Int), .int .i64 (j : Int)] w
      fun e w' => e = .returned (.tuple #[.int .i64 (dotV (rowF xs K i) (colF ys N j) K).1, .int .i64 (dotV (rowF xs K i) (colF ys N j) K).2]) ∧ Kp w w' := by
  have F0 := Lib.hid (Nb.mk_ w A 2 c B xs.length d C 2 e D ys.length f)
  have H1 : Hid (∀ (k : Nat) W g, k < K → Kp w W → Rd W (some ⟨g, 0, none⟩) [(i : Int), (k : Int)] → Calls Try.prog 55 #[.agg #[.slice A 2 c, .slice B xs.length d], .slice (some ⟨g, 0, none⟩) 2 2] W fun e W' => e = .returned (.tuple #[.int .i64 (rowF xs K i k), .int .i64 0]) ∧ Kp W W') := fun k W g hk kW r => by
    have h := rat_any A B (some ⟨g, 0, none⟩) c d 2 [(M : Int), (K : Int)] xs [(i : Int), (k : Int)] W (hA.kp kW) (hB.kp kW) r
    rw [at_two h1 hi hk] at h
    exact h
  have H2 : Hid (∀ (k : Nat) W g, k < K → Kp w W → Rd W (some ⟨g, 0, none⟩) [(k : Int), (j : Int)] → Calls Try.prog 55 #[.agg #[.slice C 2 e, .slice D ys.length f], .slice (some ⟨g, 0, none⟩) 2 2] W fun e W' => e = .returned (.tuple #[.int .i64 (colF ys N j k), .int .i64 0]) ∧ Kp W W') := fun k W g hk kW r => by
    have h := rat_any C D (some ⟨g, 0, none⟩) e f 2 [(K : Int), (N : Int)] ys [(k : Int), (j : Int)] W (hC.kp kW) (hD.kp kW) r
    rw [at_two h2 hk hj] at h
    exact h
  have HI : Hid ((∀ k, I64 (rowF xs K i k)) ∧ ∀ k, I64 (colF ys N j k)) := ⟨fun k => getD_i64 hI _, fun k => getD_i64 hJ _⟩
  obtain ⟨ad, x, hAe, hbx, hx, hc⟩ := hA.at_ (k := 1) (by simp)
  have hxK : x = (K : Int) := by injection hx with hx; exact hx.symm
  subst hxK hAe
  have hc1 : w.cell? ⟨ad.block, ad.off + 1, none⟩ = some (.int .i64 (K : Int)) := by simpa [Addr.add] using hc
  have HAX : Hid (∀ W, Kp w W → W.cell? ⟨ad.block, ad.off + 1, none⟩ = some (.int .i64 (K : Int))) := fun W k => (k.cell (p := ⟨ad.block, ad.off + 1, none⟩) hbx).trans hc1
  generalize rowF xs K i = F at H1 HI ⊢
  generalize colF ys N j = G at H2 HI ⊢
  have HD0 : Hid (Dt F G K 0 0) := dt_start
  have HP := Lib.hid rmul_k
  have HA : Hid (∀ (x y : Int) (W : World), I64 x → I64 y → Calls Try.prog 57 #[.int .i64 x, .int .i64 y] W fun e W' => e = .returned (.tuple #[.int .i64 (addV x y).1, .int .i64 (addV x y).2]) ∧ W = W') := fun x y W hx hy => radd_any x y hx hy W
  obtain ⟨R, hR⟩ : ∃ R, R = dotV F G K := ⟨_, rfl⟩
  have HRR := Lib.hid hR
  rw [← hR]
  clear hA hB hC hD h1 h2 hi hj hI hJ hR hbx hx hc hc1
  go_enter Try.func34, Try.ntmps34
  go_wp2
  go_loopw [10, 11] (fun v i wx => ∃ (k : Nat) (y : Int), v = .int .i64 y ∧ i = .int .i64 k ∧ Hid (Dt F G K k y) ∧ Hid (I64 y) ∧ Hid (Nb w (some ad) 2 c B xs.length d C 2 e D ys.length f wx)) (fun _ i _ => K - (intOf i).toNat)
  case atStart => exact ⟨0, 0, rfl, rfl, HD0.out, (by show I64 0; unfold I64; omega), F0.out⟩
  case round =>
    obtain ⟨k, y, rfl, rfl, hT, hy, hF⟩ := hrel
    have t0 := hF.out.t0.c0
    have t1 := hF.out.t0.c1
    have hx := HAX.out _ hF.out.kp
    by_cases hk : k < K
    · have hk' : (k : Int) < (K : Int) := by omega
      go_wp2_with fail
      refine (H1.out k _ _ hk (hF.out.kp.al _) (Rd.two_ rfl)).mono ?_; rintro e0 w1 ⟨rfl, k1⟩
      have F1 := Lib.hid ((hF.out.tr (Kp.alloc_ _ _)).tr k1)
      clear k1 t0 t1 hx
      have t0 := F1.out.t1.c0
      have t1 := F1.out.t1.c1
      go_wp2_with fail
      refine (H2.out k _ _ hk (F1.out.kp.al _) (Rd.two_ rfl)).mono ?_; rintro e0 w2 ⟨rfl, k2⟩
      have F2 := Lib.hid ((F1.out.tr (Kp.alloc_ _ _)).tr k2)
      clear k2 t0 t1
      have i1 := HI.out.1 k
      have i2 := HI.out.2 k
      have HM := Lib.hid (HP.out _ _ i1 i2 w2)
      by_cases hm : (mulV (F k) (G k)).2 = 0
      · obtain ⟨p, hp⟩ : ∃ p, mulV (F k) (G k) = (p, 0) := ⟨_, Prod.ext rfl hm⟩
        have hp64 : I64 p := by have := put_i64 (F k * G k / 4294967296); rw [show put (F k * G k / 4294967296) = (p, 0) from hp] at this; exact this
        have HAD := Lib.hid (fun W => HA.out y p W hy.out hp64)
        rw [hp] at HM
        by_cases ha : (addV y p).2 = 0
        · have HST := Lib.hid (dt_step hT.out hk hp ha)
          have HY : Hid (I64 (addV y p).1) := put_i64 _
          rw [ha] at HAD
          generalize (addV y p).1 = z at HST HY HAD
          generalize F k = fk at HM
          generalize G k = gk at HM
          clear i1 i2 hm hp ha hp64
          go_wp2_with fail
          refine (Hid.out HM).mono ?_; rintro e0 w3 ⟨rfl, k3⟩
          have F3 := Lib.hid (F2.out.tr k3)
          clear k3
          go_wp2_with fail
          refine (HAD.out _).mono ?_; rintro e0 w4 ⟨rfl, rfl⟩
          go_wp2
          go_roundw
          case rel => exact ⟨k + 1, z, rfl, by go_num, HST.out, HY.out, F3.out⟩
          case measure => simp [intOf]; omega
        · have HBD := Lib.hid (dt_bada hT.out hk hp ha)
          have he' : ((addV y p).2 != 0) = true := by simpa using ha
          generalize (addV y p).2 = er at HAD HBD he'
          generalize (addV y p).1 = z at HAD
          generalize F k = fk at HM
          generalize G k = gk at HM
          clear i1 i2 hm hp ha hp64
          go_wp2_with fail
          refine (Hid.out HM).mono ?_; rintro e0 w3 ⟨rfl, k3⟩
          have F3 := Lib.hid (F2.out.tr k3)
          clear k3
          go_wp2_with fail
          refine (HAD.out _).mono ?_; rintro e0 w4 ⟨rfl, rfl⟩
          go_wp2
          go_ret2
          exact ⟨ret_ints (by rw [HRR.out]; exact HBD.out), F3.out.kp⟩
      · have HBD := Lib.hid (dt_badm hT.out hk hm)
        have he' : ((mulV (F k) (G k)).2 != 0) = true := by simpa using hm
        generalize (mulV (F k) (G k)).2 = er at HM HBD he'
        generalize (mulV (F k) (G k)).1 = z at HM
        generalize F k = fk at HM
        generalize G k = gk at HM
        clear i1 i2 hm
        go_wp2_with fail
        refine (Hid.out HM).mono ?_; rintro e0 w3 ⟨rfl, k3⟩
        have F3 := Lib.hid (F2.out.tr k3)
        clear k3
        go_wp2
        go_ret2
        exact ⟨ret_ints (by rw [HRR.out]; exact HBD.out), F3.out.kp⟩
    · have hk' : ¬ (k : Int) < (K : Int) := by omega
      have HEN := Lib.hid (dt_end hT.out hk)
      go_wp2
      go_ret2
      exact ⟨ret_ints (by rw [HRR.out]; exact HEN.out), hF.out.kp⟩


end Go.Proofs.Ytepnhmdjglpmeaa
