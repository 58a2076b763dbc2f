/- The calls of layer 2 whose answers the document fixes are as it says (awake). -/
import Derived.Test.YtggdhfdklmmgjaaShapeI
namespace Go.Proofs.Ytggdhfdklmmgjaa
open Go.RowKit Go.Proofs.ShM

theorem Rd.litg (w : World) (xs : List Int) (h : xs.length ≤ 1000000) (t : TypeId) (g : Nat) (hg : g = w.heap.size) : Rd (w.alloc (.cells (xs.map (Value.int .i64)).toArray t)) (some ⟨g, 0, none⟩) xs := hg ▸ Rd.lit w xs h t
theorem Rd.one_ {w : World} {x : Int} {t : TypeId} {g : Nat} (hg : g = w.heap.size) : Rd (w.alloc (.cells #[.int .i64 x] t)) (some ⟨g, 0, none⟩) [x] := Rd.litg w [x] (by simp) t g hg
theorem Rd.two_ {w : World} {x y : Int} {t : TypeId} {g : Nat} (hg : g = w.heap.size) : Rd (w.alloc (.cells #[.int .i64 x, .int .i64 y] t)) (some ⟨g, 0, none⟩) [x, y] := Rd.litg w [x, y] (by simp) t g hg

section
variable {A B : Option Addr} {c d n m : Nat} (a b : List Int) {w : World}
theorem join_n (h : Rd w A a) (g : Rd w B b) (hn : n = a.length) (hm : m = b.length) {l : List Int} {e : Int} (hr : joinV a b = (l, e)) : Calls Try.prog 15 #[.slice A n c, .slice B m d] w (RetL l e w) := by
  subst hn hm
  have hh := join_any A B c d a b w h g
  rw [hr] at hh
  exact hh
theorem place_n (h : Rd w A a) (g : Rd w B b) (hn : n = a.length) (hm : m = b.length) {x e : Int} (hr : placeV a b = (x, e)) : Calls Try.prog 11 #[.slice A n c, .slice B m d] w (RetN (x, e) w) := by
  subst hn hm
  have hh := place_any A B c d a b w h g
  rw [hr] at hh
  exact hh
theorem index_n (p : Int) (h : Rd w A a) (hn : n = a.length) {l : List Int} {e : Int} (hr : indexV a p = (l, e)) : Calls Try.prog 13 #[.slice A n c, .int .i64 p] w (RetL l e w) := by
  subst hn
  have hh := index_any A c a p w h
  rw [hr] at hh
  exact hh
theorem same_n (h : Rd w A a) (g : Rd w B b) (hn : n = a.length) (hm : m = b.length) {r : Bool} (hr : (a == b) = r) : Calls Try.prog 17 #[.slice A n c, .slice B m d] w fun e w' => e = .returned (.bool r) ∧ ∃ k, w' = w.drewN k := by
  subst hn hm hr
  exact same_any A B c d a b w h g
theorem check_n (h : Rd w A a) (hn : n = a.length) {r : Bool} (hr : okS a = r) : Calls Try.prog 18 #[.slice A n c] w fun e w' => e = .returned (.bool r) ∧ w = w' := by
  subst hn hr
  exact check_any A c a w h
theorem size_n (h : Rd w A a) (hn : n = a.length) {r : Int} (hr : sizeV a = r) : Calls Try.prog 20 #[.slice A n c] w fun e w' => e = .returned (.int .i64 r) ∧ w = w' := by
  subst hn hr
  exact size_any A c a w h
theorem fits_n (h : Rd w A a) (g : Rd w B b) (hn : n = a.length) (hm : m = b.length) {r : Bool} (hr : fitsV a b = r) : Calls Try.prog 22 #[.slice A n c, .slice B m d] w fun e w' => e = .returned (.bool r) ∧ Kp w w' := by
  subst hn hm hr
  exact fits_any A B c d a b w h g
end

set_option maxHeartbeats 2000000 in
set_option maxRecDepth 100000 in
theorem shawake_any (w : World) : Calls Try.prog 10 #[] w fun e w' => e = .returned (.bool true) ∧ Kp w w' := by
  go_enter Try.func10, Try.ntmps10
  go_wp2_with fail
  refine (join_n [2, 1] [1, 4] ((Rd.two_ rfl).alloc_ _) (Rd.two_ (by simp)) rfl rfl (l := [2, 4]) (e := 0) (by decide)).mono ?_; rintro e w1 ⟨A1, c1, rfl, h1, k1⟩
  have H1 := Lib.hid h1.rd; have K1 := Lib.hid ((Kp.alloc_ _ _).tr ((Kp.alloc_ _ _).tr k1)); clear h1 k1
  go_wp2_with fail
  refine (join_n [2] [3] ((Rd.one_ rfl).alloc_ _) (Rd.one_ (by simp)) rfl rfl (l := []) (e := 20) (by decide)).mono ?_; rintro e w2 ⟨A2, c2, rfl, h2, k2⟩
  have R1 := Lib.hid ((Kp.alloc_ _ _).tr ((Kp.alloc_ _ _).tr k2)); clear h2 k2
  go_wp2_with fail
  refine (place_n [2, 3] [1, 2] ((Rd.two_ rfl).alloc_ _) (Rd.two_ (by simp)) rfl rfl (x := 5) (e := 0) (by decide)).mono ?_; rintro e w3 ⟨rfl, q3, h3⟩
  have R2 := Lib.hid ((Kp.alloc_ w2 _).tr ((Kp.alloc_ _ _).tr (show Kp _ w3 by rw [h3]; exact Kp.drewN_ _ _))); clear h3
  go_wp2_with fail
  refine (index_n [2, 3] 5 (Rd.two_ rfl) rfl (l := [1, 2]) (e := 0) (by decide)).mono ?_; rintro e w4 ⟨A4, c4, rfl, h4, k4⟩
  have H4 := Lib.hid h4.rd; have R3 := Lib.hid ((Kp.alloc_ _ _).tr k4); clear h4 k4
  go_wp2_with fail
  refine (same_n [2, 4] [2, 4] ((H1.out.kp (R1.out.tr (R2.out.tr R3.out))).alloc_ _) (Rd.two_ rfl) rfl rfl (r := true) (by decide)).mono ?_; rintro e w5 ⟨rfl, q5, h5⟩
  have R4 := Lib.hid ((Kp.alloc_ w4 _).tr (show Kp _ w5 by rw [h5]; exact Kp.drewN_ _ _)); clear h5
  go_wp2_with fail
  refine (same_n [1, 2] [1, 2] ((H4.out.kp R4.out).alloc_ _) (Rd.two_ rfl) rfl rfl (r := true) (by decide)).mono ?_; rintro e w6 ⟨rfl, q6, h6⟩
  have R5 := Lib.hid ((Kp.alloc_ w5 _).tr (show Kp _ w6 by rw [h6]; exact Kp.drewN_ _ _)); clear h6
  go_wp2_with fail
  refine (check_n [] (Rd.nil _ _) rfl (r := true) (by decide)).mono ?_; rintro e w7 ⟨rfl, rfl⟩
  go_wp2_with fail
  refine (check_n [0] (Rd.one_ rfl) rfl (r := false) (by decide)).mono ?_; rintro e w7 ⟨rfl, rfl⟩
  go_wp2_with fail
  refine (size_n [2, 3] (Rd.two_ (by simp)) rfl (r := 6) (by decide)).mono ?_; rintro e w7 ⟨rfl, rfl⟩
  go_wp2_with fail
  refine (fits_n [3] [2, 3] ((Rd.one_ (by simp)).alloc_ _) (Rd.two_ (by simp)) rfl rfl (r := true) (by decide)).mono ?_; rintro e w8 ⟨rfl, k8⟩
  have R6 := Lib.hid ((Kp.alloc_ w6 _).tr ((Kp.alloc_ _ _).tr ((Kp.alloc_ _ _).tr ((Kp.alloc_ _ _).tr k8)))); clear k8
  go_wp2
  go_ret
  exact ⟨rfl, K1.out.tr (R1.out.tr (R2.out.tr (R3.out.tr (R4.out.tr (R5.out.tr R6.out)))))⟩
end Go.Proofs.Ytggdhfdklmmgjaa
