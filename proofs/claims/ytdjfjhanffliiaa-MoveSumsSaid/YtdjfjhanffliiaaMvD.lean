/- The document's Slice and Pad of layer 5 (fullerref05). -/
import Derived.Test.YtdjfjhanffliiaaMvC
namespace Go.Proofs.Ytdjfjhanffliiaa
open Go.RowKit Go.Proofs.ShM
set_option linter.unusedVariables false

/-- A side that is at most as long. -/
theorem ok_set {s : List Int} (h : okS s = true) {k : Nat} {x y : Int} (hx : s[k]? = some x) (h1 : 1 ≤ y) (h2 : y ≤ x) : okS (s.set k y) = true := by
  obtain ⟨g1, g2, g3⟩ := ok_iff.1 h
  have hxb := side_of g2 hx
  have hall : (s.set k y).all sideB = true := by
    rw [List.all_eq_true]
    intro z hz
    rcases List.mem_or_eq_of_mem_set hz with hz | hz
    · exact List.all_eq_true.1 g2 z hz
    · rw [hz]; exact sideB_iff.2 ⟨h1, by omega⟩
  refine ok_iff.2 ⟨by simpa using g1, hall, ?_⟩
  have hk := (List.getElem?_eq_some_iff.1 hx).1
  have e1 : s = s.take k ++ x :: s.drop (k + 1) := by rw [← drop_of hx]; simp
  have e2 : s.set k y = s.take k ++ y :: s.drop (k + 1) := by
    rw [List.set_eq_take_append_cons_drop, if_pos hk]
  have p1 : prodS s = prodS (s.take k) * (x * prodS (s.drop (k + 1))) := by
    conv => lhs; rw [e1, prod_append]
    rfl
  have p2 : prodS (s.set k y) = prodS (s.take k) * (y * prodS (s.drop (k + 1))) := by
    rw [e2, prod_append]; rfl
  rw [p2]
  rw [p1] at g3
  have q1 := prod_pos (all_take g2 k)
  have q2 := prod_pos (all_drop g2 (k + 1))
  have m1 : y * prodS (s.drop (k + 1)) ≤ x * prodS (s.drop (k + 1)) := Int.mul_le_mul_of_nonneg_right h2 (by omega)
  have m2 := Int.mul_le_mul_of_nonneg_left m1 (show 0 ≤ prodS (s.take k) by omega)
  omega

set_option maxHeartbeats 4000000 in
theorem rslice_yes (A B : Option Addr) (c d : Nat) (s xs : List Int) (k : Nat) (a b x : Int) (w : World) (hA : Rd w A s) (hB : Rd w B xs) (ht : tokV s xs = true) (hx : s[k]? = some x) (h1 : 0 ≤ a) (h2 : a < b) (h3 : b ≤ x) :
    Calls Try.prog 17 #[.agg #[.slice A s.length c, .slice B xs.length d], .int .i64 (k : Int), .int .i64 a, .int .i64 b] w (RetT (sliceV s xs k a b) w) := by
  have hl := hB.len
  have hlA := hA.len
  have F0 := Lib.hid (Fr.mk_ w A s.length c B xs.length d 24)
  have HT := Lib.hid (rtcheck_any A B c d s xs _ (hA.kp F0.out.kp) (hB.kp F0.out.kp))
  rw [ht] at HT
  have ho := (tok_len ht).1
  have hs3 : s.length ≤ 3 := (ok_iff.1 ho).1
  have hk := (List.getElem?_eq_some_iff.1 hx).1
  have hgd : s.getD k 0 = x := by rw [List.getD, hx]; rfl
  have hx16 := (side_of (ok_all ho) hx)
  have HF : Hid (sliceV s xs k a b = (s.set k (b - a), movedL s xs (s.set k (b - a)) k a, 0)) := by
    show sliceV s xs k a b = _
    unfold sliceV
    rw [if_neg (by simp [ht]), Int.toNat_natCast, hgd, if_neg (by omega)]
  obtain ⟨z, hz⟩ : ∃ z, b - a = z := ⟨_, rfl⟩
  have hwz : IntKind.i64.wrap (b - a) = z := by rw [IntWalk.i64_in _ (by omega)]; exact hz
  rw [hz] at HF
  have hog : okS (s.set k z) = true := ok_set ho hx (by omega) (by omega)
  have HW := Lib.hid (fun W (kw : Kp w W) => rset_any A c s k z W (hA.kp kw) (by omega) hk)
  have HM : Hid (∀ W Cz e, Kp w W → Rd W Cz (s.set k z) → Calls Try.prog 41 #[.agg #[.slice A s.length c, .slice B xs.length d], .slice Cz (s.set k z).length e, .int .i64 (k : Int), .int .i64 a] W (RetM (s.set k z) (movedL s xs (s.set k z) k a) W)) :=
    fun W Cz e kw r => moved_any A B Cz c d e s xs (s.set k z) k a W (hA.kp kw) (hB.kp kw) r ht hog (by rw [List.length_set]; exact hk) (by omega) (by omega)
  obtain ⟨ad, x', rfl, hbx, hx', hc⟩ := hA.at_ hk
  obtain rfl : x = x' := by rw [hx] at hx'; exact Option.some.inj hx'
  generalize hg : s.set k z = g at HM HF HW
  generalize movedL s xs g k a = ms at HM HF
  have j1 : (0 : Int) ≤ (k : Int) := by omega
  have j2 : (k : Int) < (s.length : Int) := by omega
  have j3 : ¬ (k : Int) < 0 := by omega
  have j4 : ¬ (s.length : Int) ≤ (k : Int) := by omega
  have j5 : ¬ a < 0 := by omega
  have j6 : ¬ b ≤ a := by omega
  have j7 : ¬ x < b := by omega
  clear hA hB ht ho hx hx' hgd hx16 hz hog hg
  go_enter Try.func17, Try.ntmps17
  go_wp2_with fail
  refine (Calls.mono (Hid.out HT)) ?_; rintro e0 w1 ⟨rfl, k1⟩
  have F1 := Lib.hid (F0.out.tr k1)
  have TO : Hid (Bk w1 (w.heap.size + 1) none 0 0 none 0 0) := (Bk.new (World.size_alloc _ _).symm).kp k1
  have TB : Hid (Bk w1 w.heap.size (some ad) s.length c B xs.length d) := ((Bk.new rfl).alloc_ _).kp k1
  have hc1 := (F1.out.kp.cell (p := ad.add k) (by rw [block_of_add]; exact hbx)).trans hc
  clear k1 hc
  have t0 := TB.out.c0
  have t1 := TB.out.c1
  go_wp2
  have hdr : Hid (Kp w1 w1.drew) := Below.drew (Kp.refl w1)
  have HW1 := Lib.hid (fun W (kw : Kp w1 W) => HW.out W (F1.out.kp.tr kw))
  have HM1 := Lib.hid (fun W Cz e (kw : Kp w1 W) (r : Rd W Cz g) => HM.out W Cz e (F1.out.kp.tr kw) r)
  have hKV : Hid (∀ V, Kp w1 V → V.cell? ⟨w.heap.size, 0, none⟩ = some (.slice (some ad) s.length c) ∧ V.cell? ⟨w.heap.size, 1, none⟩ = some (.slice B xs.length d) ∧ Hid (Bk V (w.heap.size + 1) none 0 0 none 0 0)) := fun V kV => ⟨(TB.out.kp kV).c0, (TB.out.kp kV).c1, TO.out.kp kV⟩
  have hne : w.heap.size + 1 ≠ w.heap.size := by omega
  go_region_held3 (fun V => V.cell? ⟨w.heap.size, 0, none⟩ = some (.slice (some ad) s.length c) ∧ V.cell? ⟨w.heap.size, 1, none⟩ = some (.slice B xs.length d)) (first | exact ⟨t0, t1⟩ | exact ⟨q3, q4⟩ | exact ⟨q5, q6⟩ | exact ⟨cell_ne (fun e => hne (congrArg Addr.block e)) (cell_ne (fun e => hne (congrArg Addr.block e)) q5), cell_ne (fun e => hne (congrArg Addr.block e)) (cell_ne (fun e => hne (congrArg Addr.block e)) q6)⟩)
    (first
    | (go_at_call 42; refine (HW1.out _ hdr.out).mono ?_; rintro e0 w4 ⟨A4, c4, rfl, o4, k4⟩; have K4 := Lib.hid (undrawn k4); obtain ⟨q3, q4, _⟩ := hKV.out _ K4.out; have R4 : Hid (Rd w4 A4 g) := o4.sl.rd; clear k4 o4)
    | (go_at_call 41; refine (HM1.out _ _ _ K4.out R4.out).mono ?_; rintro e0 w5 ⟨A5, c5, B5, d5, rfl, r5, p5, k5⟩; have K5 := Lib.hid (K4.out.tr k5); obtain ⟨q5, q6, TO5⟩ := hKV.out _ K5.out; have R5 := Lib.hid (And.intro r5 p5); have o0 := TO5.out.c0; have o1 := TO5.out.c1; have u0 := TO5.out.f0 0; have u1 := TO5.out.f0 1; clear k5 r5 p5))
  all_goals
    go_wp2
    refine bodyPost_ret (v := .tuple #[.agg #[.slice A5 g.length c5, .slice B5 ms.length d5], .int .i64 0]) (by simp [results, Try.results17, go_sem, o0, o1]; try rfl) rfl ?_
    have KK := F1.out.kp.tr K5.out
    exact RetT.of HF.out (R5.out.1.past TO5.out _ _) (R5.out.2.past TO5.out _ _) ((KK.setCell (p := ⟨w.heap.size + 1, 0, none⟩) (Nat.le_succ _) _).setCell (p := ⟨w.heap.size + 1, 1, none⟩) (Nat.le_succ _) _)
end Go.Proofs.Ytdjfjhanffliiaa
