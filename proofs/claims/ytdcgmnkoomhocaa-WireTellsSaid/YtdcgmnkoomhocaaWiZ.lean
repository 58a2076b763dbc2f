/- The landed wire: what its calls answer. -/
import Derived.Test.YtdcgmnkoomhocaaWiZe
namespace Go.Proofs.Ytdcgmnkoomhocaa
open Go.RowKit Go.Proofs.ShM Go.Proofs.GrM Go.Proofs.PkM Go.Proofs.WiM

theorem read_z (A : Option Addr) (c : Nat) (bs : List Int) (w : World) (hR : B8.Rd w A bs) (hc1 : bs.length ≤ c) (hc2 : c ≤ 9223372036854775807) (hb : Bytes bs) (hbl : bs.length ≤ 100000) :
    Calls Try.prog 11 #[.slice A bs.length c] w (RetNw (readV bs) w) := by
  by_cases hl : 889 < bs.length
  · exact read_z_long A c bs w hl hbl
  · cases bs with
    | nil => rw [read_nil]; exact read_z_none A c w hc2
    | cons x r =>
      have hx := hb x List.mem_cons_self
      obtain ⟨m, rfl⟩ : ∃ m : Nat, x = (m : Int) := ⟨x.toNat, by omega⟩
      refine read_z_some A c m r _ w rfl hR hc1 hc2 hb (by omega) (by omega) ?_
      have h0 : (takeV ((m : Int) :: r) 1).2.2 = 0 := by
        unfold takeV
        rw [if_pos ⟨by decide, by simp; omega⟩]
      obtain ⟨_, h2⟩ := take_one hb h0
      injection h2 with h3 h4
      exact Prod.ext h3 (Prod.ext h4 h0)
theorem wic : WiC where
  check := fun A c m l b W h h1 h2 _ hm hr => Gz.check_z A c m l b W h h1 h2 hm hr
  write := fun A c m l r err k W h h1 h2 _ hm hr hk => by
    subst hm
    refine (write_z A c l W h h1 h2).mono ?_
    rintro e w' ⟨A1, c1, rfl, o, kp⟩
    rw [hr] at o ⊢
    subst hk
    obtain ⟨g1, g2⟩ := B8.own_room o
    exact ⟨A1, c1, rfl, g1, g2, kp⟩
  read := fun A c m bs ts err k W h h1 h2 h3 h4 hm hr hk => by
    subst hm
    refine (read_z A c bs W h h1 h2 h4 h3).mono ?_
    rintro e w' ⟨A1, c1, rfl, o, kp⟩
    rw [hr] at o ⊢
    subst hk
    obtain ⟨g1, g2⟩ := n_of_own o
    exact ⟨A1, c1, rfl, g1, g2, kp⟩
end Go.Proofs.Ytdcgmnkoomhocaa
