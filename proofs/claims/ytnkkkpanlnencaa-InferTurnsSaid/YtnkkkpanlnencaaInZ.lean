/- The landed infer: what its calls answer, as one statement each. -/
import Derived.Test.YtnkkkpanlnencaaInZj
import Derived.Test.YtnkkkpanlnencaaInC
namespace Go.Proofs.Ytnkkkpanlnencaa
open Go.RowKit Go.Proofs.ShM Go.Proofs.GrM Go.Proofs.InM

theorem inc : InC where
  node := fun t P Q A n m na c d e k gs r W _ hQ _ hd hS hA he _ _ hm hna hr hk =>
    (Iz.node_i t.1 t.2.2 P Q A n c m d na e gs W hQ hA hm ⟨by rw [hm]; exact hd.1, hd.2⟩ hna ⟨by rw [hna]; exact he.1, he.2⟩ hS.2.2.2.2 hS.2.1).mono fun e0 w' h => by
      obtain ⟨A1, c1, e1, s, _, kp⟩ := h
      subst hr hk
      exact ⟨A1, c1, e1, s.rd, ⟨s.le, s.cap⟩, kp⟩
  shapes := fun A c m k l r W h h1 h2 hS hm hr hk => (Iz.shapes_i A c m l W h h1 h2 hS hm).mono fun e0 w' h => by
    obtain ⟨A1, c1, e1, s, b, kp⟩ := h
    subst hr hk
    exact ⟨A1, c1, e1, s, b, kp⟩
  check := fun A c m l b W h h1 h2 _ hm hr => Gz.check_z A c m l b W h h1 h2 hm hr
end Go.Proofs.Ytnkkkpanlnencaa
