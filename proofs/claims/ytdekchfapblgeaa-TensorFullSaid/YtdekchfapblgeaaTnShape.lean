/- The calls of layer 2 at any lengths, the answers written out. -/
import Derived.Test.YtdekchfapblgeaaShapeI
namespace Go.Proofs.Ytdekchfapblgeaa
open Go.RowKit Go.Proofs.ShM

theorem Rd.litg (w : World) (xs : List Int) (h : xs.length ≤ 1000000) (t : TypeId) (g : Nat) (hg : g = w.heap.size) : Rd (w.alloc (.cells (xs.map (Value.int .i64)).toArray t)) (some ⟨g, 0, none⟩) xs := hg ▸ Rd.lit w xs h t
theorem Rd.one_ {w : World} {x : Int} {t : TypeId} {g : Nat} (hg : g = w.heap.size) : Rd (w.alloc (.cells #[.int .i64 x] t)) (some ⟨g, 0, none⟩) [x] := Rd.litg w [x] (by simp) t g hg
theorem Rd.two_ {w : World} {x y : Int} {t : TypeId} {g : Nat} (hg : g = w.heap.size) : Rd (w.alloc (.cells #[.int .i64 x, .int .i64 y] t)) (some ⟨g, 0, none⟩) [x, y] := Rd.litg w [x, y] (by simp) t g hg

section
variable {A B : Option Addr} {c d n m : Nat} (a b : List Int) {w : World}
theorem join_n (h : Rd w A a) (g : Rd w B b) (hn : n = a.length) (hm : m = b.length) {l : List Int} {e : Int} (hr : joinV a b = (l, e)) : Calls Try.prog 40 #[.slice A n c, .slice B m d] w (RetL l e w) := by
  subst hn hm
  have hh := join_any A B c d a b w h g
  rw [hr] at hh
  exact hh
theorem place_n (h : Rd w A a) (g : Rd w B b) (hn : n = a.length) (hm : m = b.length) {x e : Int} (hr : placeV a b = (x, e)) : Calls Try.prog 44 #[.slice A n c, .slice B m d] w (RetN (x, e) w) := by
  subst hn hm
  have hh := place_any A B c d a b w h g
  rw [hr] at hh
  exact hh
theorem index_n (p : Int) (h : Rd w A a) (hn : n = a.length) {l : List Int} {e : Int} (hr : indexV a p = (l, e)) : Calls Try.prog 24 #[.slice A n c, .int .i64 p] w (RetL l e w) := by
  subst hn
  have hh := index_any A c a p w h
  rw [hr] at hh
  exact hh
theorem same_n (h : Rd w A a) (g : Rd w B b) (hn : n = a.length) (hm : m = b.length) {r : Bool} (hr : (a == b) = r) : Calls Try.prog 27 #[.slice A n c, .slice B m d] w fun e w' => e = .returned (.bool r) ∧ ∃ k, w' = w.drewN k := by
  subst hn hm hr
  exact same_any A B c d a b w h g
theorem check_n (h : Rd w A a) (hn : n = a.length) {r : Bool} (hr : okS a = r) : Calls Try.prog 25 #[.slice A n c] w fun e w' => e = .returned (.bool r) ∧ w = w' := by
  subst hn hr
  exact check_any A c a w h
theorem size_n (h : Rd w A a) (hn : n = a.length) {r : Int} (hr : sizeV a = r) : Calls Try.prog 29 #[.slice A n c] w fun e w' => e = .returned (.int .i64 r) ∧ w = w' := by
  subst hn hr
  exact size_any A c a w h
theorem fits_n (h : Rd w A a) (g : Rd w B b) (hn : n = a.length) (hm : m = b.length) {r : Bool} (hr : fitsV a b = r) : Calls Try.prog 26 #[.slice A n c, .slice B m d] w fun e w' => e = .returned (.bool r) ∧ Kp w w' := by
  subst hn hm hr
  exact fits_any A B c d a b w h g
end

end Go.Proofs.Ytdekchfapblgeaa
