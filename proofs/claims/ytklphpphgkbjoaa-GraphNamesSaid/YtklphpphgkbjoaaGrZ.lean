/- The landed graph: what its six calls answer. -/
import Derived.Test.YtklphpphgkbjoaaGrZi
import Derived.Test.YtklphpphgkbjoaaGrZj
namespace Go.Proofs.Ytklphpphgkbjoaa
open Go.RowKit Go.Proofs.ShM Go.Proofs.GrM

theorem retg_of {r : List Int} {k : Nat} {w w' : World} {e : Ending} (h : RetOg r w e w') (hk : r.length = k) : RetG r k w e w' := by
  obtain ⟨A, c, rfl, ho, kp⟩ := h
  obtain ⟨A2, c2, e2, h1, h2, h3⟩ := ho.ints
  injection e2 with e3 e4 e5
  subst e3 e5 hk
  exact ⟨A, c, rfl, h3, ⟨h1, by unfold maxLen at h2; omega⟩, kp⟩
theorem grc : GrC where
  check := fun A c m l b W h h1 h2 _ hm hr => Gz.check_z A c m l b W h h1 h2 hm hr
  arity := fun op v W _ hv => Gz.arity_any op v W hv
  params := fun A c m k l r W h h1 h2 _ hm hr hk => (Gz.params_z A c m l r W h h1 h2 hm hr).mono fun _ _ g => retg_of g hk
  inputs := fun A c m k l r W h h1 h2 hs hm hr hk => (Gz.inputs_z A c m l r.1 r.2 W h h1 h2 hs hm hr).mono fun e w' g => by
    obtain ⟨A1, c1, rfl, ho, kp⟩ := g
    obtain ⟨A2, c2, e2, g1, g2, g3⟩ := ho.ints
    injection e2 with e3 e4 e5
    subst e3 e5 hk
    exact ⟨A1, c1, rfl, g3, ⟨g1, by unfold maxLen at g2; omega⟩, kp⟩
  uses := fun A c m k l x r W h h1 h2 _ _ hm hr hk => (Gz.uses_z A c m l x r W h h1 h2 hm hr).mono fun _ _ g => retg_of g hk
  live := fun A c m k l r W h h1 h2 _ hm hr hk => (Gz.live_z A c m l r W h h1 h2 hm hr).mono fun _ _ g => retg_of g hk
end Go.Proofs.Ytklphpphgkbjoaa
