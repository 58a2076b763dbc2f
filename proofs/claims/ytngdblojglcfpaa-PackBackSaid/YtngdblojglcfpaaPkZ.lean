/- Layer 8 of the program: the four calls answer what the document says. -/
import Derived.Test.YtngdblojglcfpaaPkS
namespace Go.Proofs.Ytngdblojglcfpaa
open Go.RowKit Go.Proofs.ShM Go.Proofs.PkM
set_option linter.unusedVariables false

theorem to_t {B : Nat} {W W' : World} {e : Ending} (h : e = thrown40 ∧ W' = W) : RetT B W e W' := ⟨h.1, by rw [h.2]; exact Below.refl _ _⟩
theorem kp_of {w W0 W : World} (h : W0.heap.size = w.heap.size + 1) (k : Kp W0 W) {W' : World} (b : Below (w.heap.size + 1) W W') : Kp W0 W' := by
  rw [← h] at b
  exact k.trans b
theorem pkc : PkC where
  put := by
    intro A c m bs n size r err k W hR hc1 hc2 hl hb hn hs hm hv hk
    unfold putV at hv
    by_cases h : mayB n size = true
    · rw [if_pos h] at hv
      injection hv with h1 h2
      subst h1 h2 hk
      exact put_fine A m c bs _ n size W hR hm hl (fun D d W0 W1 k0 e0 k1 o => write_yes _ D _ d bs n size W1 o (by rw [← e0]; exact k1.size) (by omega) h)
    · rw [if_neg h] at hv
      injection hv with h1 h2
      subst h1 h2 hk
      exact put_thrown A m c bs n size W hR hm hl (fun D d W0 W1 k0 e0 k1 o => (write_no D _ d n size W1 (by simpa using h)).mono fun _ _ => to_t)
  take := by
    intro A c m bs size v r err k W hR hc1 hc2 hl hb hs hm hv hk
    unfold takeV at hv
    by_cases h : sizB size = true ∧ size ≤ bs.length
    · rw [if_pos h] at hv
      injection hv with h1 h2
      injection h2 with h2 h3
      subst h1 h2 h3 hk
      exact take_fine A m c bs _ _ size W hR hm (by rw [List.length_drop]; omega) (fun W1 k1 => read_yes A _ c bs size W1 (hR.kp k1) hc1 hc2 hb rfl h.1 h.2 hl)
    · rw [if_neg h] at hv
      injection hv with h1 h2
      injection h2 with h2 h3
      subst h1 h2 h3 hk
      refine take_thrown A m c bs size W hR hm (fun W1 k1 => ?_)
      by_cases h1 : sizB size = true
      · exact (read_short A _ c size W1 h1 (fun g => h ⟨h1, g⟩)).mono fun _ _ => to_t
      · exact (read_size A _ c size W1 (by simpa using h1)).mono fun _ _ => to_t
  list := by
    intro A B c d m p bs l size r err k W hR hc1 hc2 hl hb hL hl2 hi hs hm hp hv hk
    unfold listV at hv
    by_cases h : l.length ≤ 255 ∧ sizB size = true ∧ ∀ n ∈ l, mayB n size = true
    · rw [if_pos h] at hv
      injection hv with h1 h2
      subst h1 h2 hk
      exact list_fine A m c bs _ B p d size W hR hm hl (fun D d' W0 W1 k0 e0 k1 o => writeList_yes _ D B _ d' p d bs l size W1 o (by rw [← e0]; exact k1.size) hl (fun W' b => (hL.kp k0).kp (kp_of e0 k1 b)) hp h.1 h.2.1 h.2.2)
    · rw [if_neg h] at hv
      injection hv with h1 h2
      subst h1 h2 hk
      refine list_thrown A m c bs B p d size W hR hm hl (fun D d' W0 W1 k0 e0 k1 o => ?_)
      by_cases h1 : sizB size = true
      · by_cases h2 : l.length ≤ 255
        · exact writeList_bad _ D B _ d' p d bs l size W1 o (by rw [← e0]; exact k1.size) hl (fun W' b => (hL.kp k0).kp (kp_of e0 k1 b)) hp h2 h1 (fun g => h ⟨h2, h1, g⟩)
        · exact writeList_long _ D B _ d' p d l size W1 hp h2 hl2 h1
      · exact writeList_size _ D B _ d' p d size W1 (by simpa using h1)
  takeList := by
    intro A c m bs size v r err j k W hR hc1 hc2 hl hb hs hm hv hj hk
    unfold takeListV at hv
    by_cases h : sizB size = true ∧ 1 ≤ bs.length
    · rw [if_pos h] at hv
      have HL := fun W1 k1 => readList_any A _ c bs size W1 (hR.kp k1) hc1 hc2 hb rfl h.1 h.2 hl
      cases e : manyV size.toNat (bs.getD 0 0).toNat (bs.drop 1) with
      | none =>
        rw [e] at hv HL
        injection hv with h1 h2
        injection h2 with h2 h3
        subst h1 h2 h3 hj hk
        refine takeList_thrown A m c bs size W hR hm (fun W1 k1 => (HL W1 k1).mono fun _ _ g => ?_)
        rcases g with g | ⟨v, r, g, _⟩
        · exact g.2
        · cases g
      | some q =>
        obtain ⟨q1, q2⟩ := q
        have hq : q2.length ≤ 10000 := by
          have hd := (many_back h.1 (fun x hx => hb x (List.mem_of_mem_drop hx)) e).2.2.2
          have := congrArg List.length hd
          rw [List.length_append, List.length_drop] at this
          omega
        rw [e] at hv HL
        injection hv with h1 h2
        injection h2 with h2 h3
        subst h1 h2 h3 hj hk
        refine takeList_fine A m c bs _ _ size W hR hm hq (fun W1 k1 => (HL W1 k1).mono fun _ _ g => ?_)
        rcases g with g | ⟨v, r, g, g2⟩
        · cases g.1
        · injection g with g
          injection g with g3 g4
          subst g3 g4
          exact g2
    · rw [if_neg h] at hv
      injection hv with h1 h2
      injection h2 with h2 h3
      subst h1 h2 h3 hj hk
      refine takeList_thrown A m c bs size W hR hm (fun W1 k1 => ?_)
      by_cases h1 : sizB size = true
      · exact (readList_nil A _ c size W1 h1 (by have : ¬ 1 ≤ bs.length := fun g => h ⟨h1, g⟩; omega)).mono fun _ _ => to_t
      · exact (readList_size A _ c size W1 (by simpa using h1)).mono fun _ _ => to_t
end Go.Proofs.Ytngdblojglcfpaa
