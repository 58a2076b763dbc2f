/- Sums, differences, products, quotients, other sides, roots, powers and slopes are the document's: the law's call returns true. -/
import Derived.Test.YtlnbphmeinjefaaFixZ
import Derived.Test.YtlnbphmeinjefaaFixW
namespace Go.Proofs.Ytlnbphmeinjefaa
open Go.RowKit Go.Proofs.FixM

set_option maxHeartbeats 1000000 in
set_option maxRecDepth 100000 in
theorem tells_with (a b : Int) (w : World) (p1 p2 p3 p4 p5 p6 p7 p8 : Int × Int)
    (A1 : Hid (∀ w', Calls Try.prog 11 #[.int .i64 a, .int .i64 b] w' (Two p1 w')))
    (B1 : Hid (∀ w', Calls Try.prog 12 #[.int .i64 a, .int .i64 b] w' (Two p1 w')))
    (A2 : Hid (∀ w', Calls Try.prog 13 #[.int .i64 a, .int .i64 b] w' (Two p2 w')))
    (B2 : Hid (∀ w', Calls Try.prog 14 #[.int .i64 a, .int .i64 b] w' (Two p2 w')))
    (A3 : Hid (∀ w', Calls Try.prog 15 #[.int .i64 a, .int .i64 b] w' (Two p3 w')))
    (B3 : Hid (∀ w', Calls Try.prog 16 #[.int .i64 a, .int .i64 b] w' (Two p3 w')))
    (A4 : Hid (∀ w', Calls Try.prog 17 #[.int .i64 a, .int .i64 b] w' (Two p4 w')))
    (B4 : Hid (∀ w', Calls Try.prog 18 #[.int .i64 a, .int .i64 b] w' (Two p4 w')))
    (A5 : Hid (∀ w', Calls Try.prog 19 #[.int .i64 a] w' (Two p5 w')))
    (B5 : Hid (∀ w', Calls Try.prog 20 #[.int .i64 a] w' (Two p5 w')))
    (A6 : Hid (∀ w', Calls Try.prog 21 #[.int .i64 a] w' (Two p6 w')))
    (B6 : Hid (∀ w', Calls Try.prog 22 #[.int .i64 a] w' (Two p6 w')))
    (A7 : Hid (∀ w', Calls Try.prog 23 #[.int .i64 a] w' (Two p7 w')))
    (B7 : Hid (∀ w', Calls Try.prog 24 #[.int .i64 a] w' (Two p7 w')))
    (A8 : Hid (∀ w', Calls Try.prog 25 #[.int .i64 a] w' (Two p8 w')))
    (B8 : Hid (∀ w', Calls Try.prog 26 #[.int .i64 a] w' (Two p8 w'))) :
    Calls Try.prog 3 #[.int .i64 a, .int .i64 b] w fun e w' => e = .returned (.bool true) ∧ Gr w w' := by
  go_enter Try.func3, Try.ntmps3
  go_wp2_with fail
  refine (awake_any _).mono ?_; rintro e w0 ⟨rfl, h0⟩
  go_wp2_with fail
  refine (A1.out _).mono ?_; rintro e u1 ⟨rfl, g1⟩
  go_wp2_with fail
  refine (B1.out _).mono ?_; rintro e v1 ⟨rfl, k1⟩
  go_wp2_with fail
  refine (A2.out _).mono ?_; rintro e u2 ⟨rfl, g2⟩
  go_wp2_with fail
  refine (B2.out _).mono ?_; rintro e v2 ⟨rfl, k2⟩
  go_wp2_with fail
  refine (A3.out _).mono ?_; rintro e u3 ⟨rfl, g3⟩
  go_wp2_with fail
  refine (B3.out _).mono ?_; rintro e v3 ⟨rfl, k3⟩
  go_wp2_with fail
  refine (A4.out _).mono ?_; rintro e u4 ⟨rfl, g4⟩
  go_wp2_with fail
  refine (B4.out _).mono ?_; rintro e v4 ⟨rfl, k4⟩
  go_wp2_with fail
  refine (A5.out _).mono ?_; rintro e u5 ⟨rfl, g5⟩
  go_wp2_with fail
  refine (B5.out _).mono ?_; rintro e v5 ⟨rfl, k5⟩
  go_wp2_with fail
  refine (A6.out _).mono ?_; rintro e u6 ⟨rfl, g6⟩
  go_wp2_with fail
  refine (B6.out _).mono ?_; rintro e v6 ⟨rfl, k6⟩
  go_wp2_with fail
  refine (A7.out _).mono ?_; rintro e u7 ⟨rfl, g7⟩
  go_wp2_with fail
  refine (B7.out _).mono ?_; rintro e v7 ⟨rfl, k7⟩
  go_wp2_with fail
  refine (A8.out _).mono ?_; rintro e u8 ⟨rfl, g8⟩
  go_wp2_with fail
  refine (B8.out _).mono ?_; rintro e v8 ⟨rfl, k8⟩
  go_wp2
  go_ret
  exact ⟨rfl, h0.trans (g1.trans (k1.trans (g2.trans (k2.trans (g3.trans (k3.trans (g4.trans (k4.trans (g5.trans (k5.trans (g6.trans (k6.trans (g7.trans (k7.trans (g8.trans k8)))))))))))))))⟩

theorem two_same {f : FuncId} {args : Array Value} {p : Int × Int} {w : World} (h : Calls Try.prog f args w fun e w' => e = .returned (.tuple #[.int .i64 p.1, .int .i64 p.2]) ∧ w = w') : Calls Try.prog f args w (Two p w) :=
  h.mono fun _ _ ⟨h, k⟩ => ⟨h, k ▸ Gr.refl _⟩

theorem tells_walk (a b : Int) (ha : I64 a) (hb : I64 b) (w : World) : Calls Try.prog 3 #[.int .i64 a, .int .i64 b] w fun e w' => e = .returned (.bool true) ∧ Gr w w' :=
  tells_with a b w (addV a b) (subV a b) (mulV a b) (divV a b) (subV 0 a) (sqrtV a) (powV a) (slopeV a)
    (fun w' => two_same (add_any a b ha hb w')) (fun w' => two_same (radd_any a b ha hb w'))
    (fun w' => two_same (sub_any a b ha hb w')) (fun w' => two_same (rsub_any a b ha hb w'))
    (fun w' => mul_any a b ha hb w') (fun w' => rmul_any a b ha hb w')
    (fun w' => div_any a b ha hb w') (fun w' => rdiv_any a b ha hb w')
    (fun w' => two_same (neg_any a ha w')) (fun w' => two_same (rneg_any a ha w'))
    (fun w' => sqrt_any a ha w') (fun w' => rsqrt_any a ha w')
    (fun w' => pow_any a ha w') (fun w' => rpow_any a ha w')
    (fun w' => slope_any a ha w') (fun w' => rslope_any a ha w')
end Go.Proofs.Ytlnbphmeinjefaa
