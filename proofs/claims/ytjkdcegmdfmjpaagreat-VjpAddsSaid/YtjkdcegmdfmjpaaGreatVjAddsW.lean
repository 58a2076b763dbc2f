import Derived.Test.YtjkdcegmdfmjpaaGreatTk
import Derived.Test.YtjkdcegmdfmjpaaGreatVjAdds
set_option maxHeartbeats 16000000
set_option maxRecDepth 100000
set_option linter.unusedVariables false
set_option linter.unusedSimpArgs false
namespace Go.Proofs.YtjkdcegmdfmjpaaGreat
open Go.RowKit Go.Proofs.ShM Go.Proofs.GrM Go.Proofs.InM Go.Proofs.ImM Go.Proofs.EvM
theorem vadds_walk (C : VjC) (PA PN S P Q P2 Q2 : Option Addr) (ca cb h e f e2 f2 : Nat) (op : Int) (la ns : List Int) (ts : List T) (tg th : T) (w : World) (RP : Rd w PA la) (RN : Rd w PN ns) (L1 : la.length ≤ ca ∧ ca ≤ 9223372036854775807) (L2 : ns.length ≤ cb ∧ cb ≤ 9223372036854775807) (hD : Nd64 (op, la, ns))
  (RT : RdT w S ts) (NT : ∀ t ∈ ts, N64 t.1 ∧ N64 t.2) (L3 : ts.length ≤ h ∧ h ≤ 9223372036854775807) (RG : TRc w P e Q f tg) (NG : N64 tg.1 ∧ N64 tg.2) (RH : TRc w P2 e2 Q2 f2 th) (NH : N64 th.1 ∧ N64 th.2) :
  Calls Tryz.prog 4 #[.agg #[.int .i64 op, .slice PA la.length ca, .slice PN ns.length cb], .slice S ts.length h, .agg #[.slice P tg.1.length e, .slice Q tg.2.length f], .agg #[.slice P2 th.1.length e2, .slice Q2 th.2.length f2]] w fun e w' => e = .returned (.bool true) ∧ Kp w w' := by
 have ll := RP.len
 have ln := RN.len
 cases hm : movesB op with
 | false => exact vadds_far (vjawake_any C) PA PN S P Q P2 Q2 _ _ ca cb _ h _ _ e f _ _ e2 f2 op w ll ln (.inl hm)
 | true =>
 by_cases h1 : 30 < la.length
 ·exact vadds_far (vjawake_any C) PA PN S P Q P2 Q2 _ _ ca cb _ h _ _ e f _ _ e2 f2 op w ll ln (.inr ⟨hm, .inl h1⟩)
 by_cases h2 : 30 < ns.length
 ·exact vadds_far (vjawake_any C) PA PN S P Q P2 Q2 _ _ ca cb _ h _ _ e f _ _ e2 f2 op w ll ln (.inr ⟨hm, .inr ⟨by omega, .inl h2⟩⟩)
 cases h3 : fewT ts 10 with
 | false => exact vadds_far (vjawake_any C) PA PN S P Q P2 Q2 _ _ ca cb _ h _ _ e f _ _ e2 f2 op w ll ln (.inr ⟨hm, .inr ⟨by omega, .inr ⟨by omega, .inl (few_t RT h3)⟩⟩⟩)
 | true =>
 have S1 : ∀ r, smallT tg = r → ∀ V, Kp w V → Calls Tryz.prog 14 #[.agg #[.slice P tg.1.length e, .slice Q tg.2.length f]] V fun e w' => e = .returned (.bool r) ∧ Kp V w' := fun r hr V k => small_any14 P Q e f _ _ tg V (RG.kp k).r rfl rfl hr
 have S2 : ∀ r, smallT th = r → ∀ V, Kp w V → Calls Tryz.prog 14 #[.agg #[.slice P2 th.1.length e2, .slice Q2 th.2.length f2]] V fun e w' => e = .returned (.bool r) ∧ Kp V w' := fun r hr V k => small_any14 P2 Q2 e2 f2 _ _ th V (RH.kp k).r rfl rfl hr
 cases h4 : smallT tg with
 | false => exact vadds_far (vjawake_any C) PA PN S P Q P2 Q2 _ _ ca cb _ h _ _ e f _ _ e2 f2 op w ll ln (.inr ⟨hm, .inr ⟨by omega, .inr ⟨by omega, .inr ⟨few_t RT h3, .inl (S1 false h4)⟩⟩⟩⟩)
 | true =>
 cases h5 : smallT th with
 | false => exact vadds_far (vjawake_any C) PA PN S P Q P2 Q2 _ _ ca cb _ h _ _ e f _ _ e2 f2 op w ll ln (.inr ⟨hm, .inr ⟨by omega, .inr ⟨by omega, .inr ⟨few_t RT h3, .inr ⟨S1 true h4, S2 false h5⟩⟩⟩⟩⟩)
 | true =>
  obtain ⟨g1, g2, g3⟩ := small_facts h4
  obtain ⟨k1, k2, k3⟩ := small_facts h5
  exact vadds_main C PA PN S P Q P2 Q2 ca cb h e f e2 f2 op la ns ts tg th w RP RN L1 L2 (by omega) (by omega) hD RT L3 (few_sms h3 NT) RG ⟨g1, g2, NG.1, NG.2⟩ RH ⟨k1, k2, NH.1, NH.2⟩ g3 k3 hm (few_t RT h3) (S1 true h4) (S2 true h5)
end Go.Proofs.YtjkdcegmdfmjpaaGreat
