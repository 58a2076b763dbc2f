/- The landed eval: what its calls, and those behind it, answer, as one statement each. -/
import Derived.Test.YtdbncanedokinaaGreatEvZi
set_option maxRecDepth 100000
namespace Go.Proofs.YtdbncanedokinaaGreat
open Go.RowKit Go.Proofs.ShM Go.Proofs.GrM Go.Proofs.InM Go.Proofs.ImM Go.Proofs.EvM

theorem retg_ofE {r : List Int} {k : Nat} {w w' : World} {e : Ending} (h : RetOg r w e w') (hk : r.length = k) : RetG r k w e w' := by
  obtain ⟨A, c, rfl, ho, kp⟩ := h
  obtain ⟨A2, c2, e2, h1, h2, h3⟩ := ho.ints
  injection e2 with e3 e4 e5
  subst e3 e5 hk
  exact ⟨A, c, rfl, h3, ⟨h1, by unfold maxLen at h2; omega⟩, kp⟩
theorem evc : EvC where
  check := fun A c m l b W h h1 h2 _ hm hr => Gz.check_z A c m l b W h h1 h2 hm hr
  params := fun A c m k l r W h h1 h2 _ hm hr hk => (Gz.params_z A c m l r W h h1 h2 hm hr).mono fun _ _ g => retg_ofE g hk
  inputs := fun A c m k l r W h h1 h2 hs hm hr hk => (Gz.inputs_z A c m l r.1 r.2 W h h1 h2 hs hm hr).mono fun e w' g => by
    obtain ⟨A1, c1, rfl, ho, kp⟩ := g
    obtain ⟨A2, c2, e2, g1, g2, g3⟩ := ho.ints
    injection e2 with e3 e4 e5
    subst e3 e5 hk
    exact ⟨A1, c1, rfl, g3, ⟨g1, by unfold maxLen at g2; omega⟩, kp⟩
  shapes := fun A c m l s at_ err k W h h1 h2 hS hm hr hk => (Iz.shapes_i A c m l W h h1 h2 hS hm).mono fun e0 w' g => by
    obtain ⟨A1, c1, e1, r1, b1, kp⟩ := g
    rw [hr] at e1 r1 b1
    subst hk
    exact ⟨A1, c1, e1, r1, b1, kp⟩
  all := fun A P Q R c m a b e f k d l t ps v at_ err j W h h1 h2 hS hm hT hs ha hb hR _ _ hps hk hr hj => by
    have h9 := Ez.all_e A P Q R c m a e b f k d l t ps (v, at_, err) W h h1 h2 hS hm hT hR ha hb hk hs.2.2.2 (fun t ht => (hps.2 t ht).2.2.2) hr
    subst hj
    exact h9
  node := fun A B P Q R S n m c d a b e f g h k d2 nd t u ts ps err x y W hA hB hn hm hc hd hn1 hm1 hN hS hl1 hl2 hts hg hT hs ha hb hR _ _ hps hk hr hx hy => by
    have h9 := Ez.node_e nd.1 nd.2.2 A B S P Q R n c m d g h a e b f k d2 ts ps t (u, err) W hB hS hT hR hm hd hg hts.1 hN.2.2 (by omega) (fun t ht => (hts.2 t ht).2.2.2) ha hb hk hr
    refine h9.mono fun e0 w' g9 => ?_
    obtain ⟨A1, c1, B1, d1, e1, s1, s2, kp⟩ := g9
    subst hx hy
    exact ⟨A1, c1, B1, d1, e1, ⟨⟨s1.out.rd, s2.out.rd⟩, ⟨s1.out.le, s1.out.cap⟩, ⟨s2.out.le, s2.out.cap⟩⟩, kp.out⟩
end Go.Proofs.YtdbncanedokinaaGreat
