/- The landed wire: put: bytes, and parts behind them. -/
import Derived.Test.YtdcgmnkoomhocaaWiZa
import Derived.ScopeJumps
namespace Go.Proofs.Ytdcgmnkoomhocaa
open Go.RowKit Go.Proofs.ShM Go.Proofs.PkM
set_option linter.unusedVariables false
set_option maxHeartbeats 4000000

namespace B8
theorem grown_rd {w w' : World} {row : Option Nat} (hg : w.grownBy w' row) {A : Option Addr} {xs : List Int} (h : Rd w A xs) (hx : ∀ ad, A = some ad → 0 < xs.length → row ≠ some ad.block) : Rd w' A xs :=
  ⟨h.1, fun hn => by
    obtain ⟨ad, e, hb, hc⟩ := h.2 hn
    refine ⟨ad, e, Nat.lt_of_lt_of_le hb hg.size, fun j u hu => ?_⟩
    have hne : some ad.block ≠ row := fun e' => hx ad e hn e'.symm
    rw [World.cell?_of_block (w := w) (a := ad.add j) (by rw [block_of_add]; exact hg.block _ hb hne)]
    exact hc j u hu⟩
/-- append of some bytes, for the walk: which block has grown. -/
theorem wpList_appG {w : World} {B : Nat} {xs ys : List Int} {ops : Array Oper} {rest : List Oper} {o : Oper} {a : Act} {Q : Exit → Act → World → Prop} (hgd : Region.wanted o (yielded ops a.tmps) = true) (s x : Operand)
    (hop : o.op = .call { callee := .builtin .append, args := #[s, x], argTypes := #[23, 23] })
    (v : Value) (hs : a.eval s = v) (ho : Own B w v xs) (A : Option Addr) (c : Nat) (n : Nat) (hx : a.eval x = .slice A n c) (hn : n = ys.length) (hr : Rd w A ys) (hy : 0 < ys.length)
    (hl : xs.length + ys.length ≤ 1000000) (hB : B ≤ w.heap.size)
    (h : ∀ zs A' c' w', Hid (zs = xs ++ ys) → Own B w' (.slice A' zs.length c') zs → Below B w w' → w.grownBy w' v.ownBlock → ((Value.slice A' zs.length c').ownBlock = v.ownBlock ∨ (Value.slice A' zs.length c').ownBlock = some w.heap.size) → wpList Try.prog ops Q rest (a.put o.dst (.slice A' zs.length c')) w') : wpList Try.prog ops Q (o :: rest) a w := by
  refine BigFrame.wpList_want hgd fun K hK => ?_
  subst hn
  obtain ⟨ad, rfl, hlt, hc⟩ := hr.2 hy
  obtain ⟨i, hi, hz, h1, h2⟩ := info_parts u8_info
  obtain ⟨v', w', hrun, hown, hg, _, hrow⟩ := run_append_own_at (P := Try.prog) w B 23 o.type 5 i _ 1 1 Try.underlying23 hi hz h1 h2 rfl (by omega) _ _ _ ho ad ys.length c (ys.map (Value.int .u8)) (by simp)
    (fun j u hu => by
      rw [List.getElem?_map, Option.map_eq_some_iff] at hu
      obtain ⟨x, hx, rfl⟩ := hu
      exact hc j x hx) (ints_oneCell _ _) (by unfold maxLen; omega) (by omega) hB
  have hown' : Own B w' v' (xs ++ ys) := by simpa [Own] using hown
  obtain ⟨A2, c2, rfl, _⟩ := hown'.form
  unfold Oper.wp execOp
  simp only [hop, resolve, invoke, builtin, Sem.run_bind, Sem.run_pure, Result.andThen_ok, List.map_toArray, List.map_cons, List.map_nil, hs, hx, hrun]
  exact hK _ _ (h (xs ++ ys) A2 c2 w' rfl hown' ((Below.refl _ _).grown hg hB (fun k hk => ho.from_ hk)) hg hrow)
/-- A part that lies elsewhere than the row. -/
def Pt (w : World) (row : Option Nat) (A : Option Addr) (ys : List Int) : Prop := Rd w A ys ∧ 0 < ys.length ∧ ∀ ad, A = some ad → row ≠ some ad.block
theorem Pt.next {w w' : World} {row row' : Option Nat} {A : Option Addr} {ys : List Int} (h : Pt w row A ys) (hg : w.grownBy w' row) (hr : row' = row ∨ row' = some w.heap.size) : Pt w' row' A ys := by
  obtain ⟨h1, h2, h3⟩ := h
  refine ⟨grown_rd hg h1 fun ad e _ => h3 ad e, h2, fun ad e => ?_⟩
  rcases hr with rfl | rfl
  · exact h3 ad e
  · obtain ⟨ad', e', hb, _⟩ := h1.2 h2
    rw [e] at e'
    injection e' with e'
    subst e'
    intro h
    injection h with h
    omega
/-- A cell that lies elsewhere than the row. -/
theorem cell_next {w w' : World} {row : Option Nat} {p : Addr} {v : Value} (hg : w.grownBy w' row) (h : w.cell? p = some v) (hp : p.block < w.heap.size) (hn : row ≠ some p.block) : w'.cell? p = some v := by
  rw [← h]
  exact World.cell?_of_block (hg.block _ hp fun e => hn e.symm)
end B8

set_option maxRecDepth 100000 in
theorem put_z (B G f c0 c1 c2 : Nat) (E A0 A1 A2 : Option Addr) (cur y0 y1 y2 : List Int) (w : World) (hO : B8.Own B w (.slice E cur.length f) cur) (hB : B ≤ w.heap.size) (hG : G < w.heap.size) (hGn : (Value.slice E cur.length f).ownBlock ≠ some G)
    (h0 : B8.Pt w (Value.slice E cur.length f).ownBlock A0 y0) (h1 : B8.Pt w (Value.slice E cur.length f).ownBlock A1 y1) (h2 : B8.Pt w (Value.slice E cur.length f).ownBlock A2 y2)
    (hc : w.cell? ⟨G, 0, none⟩ = some (.slice A0 y0.length c0) ∧ w.cell? ⟨G, 1, none⟩ = some (.slice A1 y1.length c1) ∧ w.cell? ⟨G, 2, none⟩ = some (.slice A2 y2.length c2))
    (hl : cur.length + y0.length + y1.length + y2.length ≤ 100000) :
    Calls Try.prog 17 #[.slice E cur.length f, .slice (some ⟨G, 0, none⟩) 3 3] w fun e w' => ∃ A c zs, e = .returned (.slice A zs.length c) ∧ Hid (zs = cur ++ y0 ++ y1 ++ y2) ∧ Hid (B8.Own B w' (.slice A zs.length c) zs) ∧ Hid (Below B w w') := by
  have HO := Lib.hid hO
  have H0 := Lib.hid h0
  have H1 := Lib.hid h1
  have H2 := Lib.hid h2
  have HC := Lib.hid hc
  have HG := Lib.hid hG
  have HGN := Lib.hid hGn
  have HB := Lib.hid hB
  have HL := Lib.hid hl
  have L0 := Lib.hid h0.2.1
  have L1 := Lib.hid h1.2.1
  have L2 := Lib.hid h2.2.1
  clear hO h0 h1 h2 hc hG hGn hB hl
  go_enter Try.func17, Try.ntmps17
  go_wp2
  go_loopw [0, 9] (fun v i wx => ∃ (E2 : Option Addr) (f2 : Nat) (zs : List Int), v = .slice E2 zs.length f2 ∧ ((Hid (zs = cur) ∧ i = .int .i64 0) ∨ (Hid (zs = cur ++ y0) ∧ i = .int .i64 1) ∨ (Hid (zs = cur ++ y0 ++ y1) ∧ i = .int .i64 2) ∨ (Hid (zs = cur ++ y0 ++ y1 ++ y2) ∧ i = .int .i64 3)) ∧ Hid (B8.Own B wx (.slice E2 zs.length f2) zs) ∧ Hid (Below B w wx) ∧ Hid (G < wx.heap.size ∧ (Value.slice E2 zs.length f2).ownBlock ≠ some G)
      ∧ Hid (B8.Pt wx (Value.slice E2 zs.length f2).ownBlock A0 y0 ∧ B8.Pt wx (Value.slice E2 zs.length f2).ownBlock A1 y1 ∧ B8.Pt wx (Value.slice E2 zs.length f2).ownBlock A2 y2)
      ∧ Hid (wx.cell? ⟨G, 0, none⟩ = some (.slice A0 y0.length c0) ∧ wx.cell? ⟨G, 1, none⟩ = some (.slice A1 y1.length c1) ∧ wx.cell? ⟨G, 2, none⟩ = some (.slice A2 y2.length c2))) (fun _ i _ => 3 - (intOf i).toNat)
  case atStart => exact ⟨E, f, cur, rfl, .inl ⟨rfl, rfl⟩, HO.out, Below.refl _ _, ⟨HG.out, HGN.out⟩, ⟨H0.out, H1.out, H2.out⟩, HC.out⟩
  case round =>
    obtain ⟨E2, f2, zs, rfl, hcase, hO, hK, hg, hp, hc⟩ := hrel
    obtain ⟨d0, d1, d2⟩ := hc.out
    have hsz : Hid (B ≤ wr.heap.size) := by show _ ≤ _; have := hK.out.size; have := HB.out; omega
    have nxt : Hid (∀ (A' : Option Addr) (n c' : Nat) (w' : World), wr.grownBy w' (Value.slice E2 zs.length f2).ownBlock → ((Value.slice A' n c').ownBlock = (Value.slice E2 zs.length f2).ownBlock ∨ (Value.slice A' n c').ownBlock = some wr.heap.size) →
        Hid (G < w'.heap.size ∧ (Value.slice A' n c').ownBlock ≠ some G)
        ∧ Hid (B8.Pt w' (Value.slice A' n c').ownBlock A0 y0 ∧ B8.Pt w' (Value.slice A' n c').ownBlock A1 y1 ∧ B8.Pt w' (Value.slice A' n c').ownBlock A2 y2)
        ∧ Hid (w'.cell? ⟨G, 0, none⟩ = some (.slice A0 y0.length c0) ∧ w'.cell? ⟨G, 1, none⟩ = some (.slice A1 y1.length c1) ∧ w'.cell? ⟨G, 2, none⟩ = some (.slice A2 y2.length c2))) := by
      intro A' n c' w' hgr hrow
      obtain ⟨g1, g2⟩ := hg.out
      obtain ⟨p0, p1, p2⟩ := hp.out
      obtain ⟨k0, k1, k2⟩ := hc.out
      refine ⟨⟨Nat.lt_of_lt_of_le g1 hgr.size, ?_⟩, ⟨p0.next hgr hrow, p1.next hgr hrow, p2.next hgr hrow⟩, ⟨B8.cell_next hgr k0 g1 g2, B8.cell_next hgr k1 g1 g2, B8.cell_next hgr k2 g1 g2⟩⟩
      rcases hrow with e | e
      · rw [e]; exact g2
      · rw [e]; intro h; injection h with h; omega
    have hll : Hid (zs.length + y0.length ≤ 1000000 ∧ zs.length + y1.length ≤ 1000000 ∧ zs.length + y2.length ≤ 1000000) := by
      have := HL.out
      rcases hcase with ⟨h, _⟩ | ⟨h, _⟩ | ⟨h, _⟩ | ⟨h, _⟩ <;> (show _ ∧ _ ∧ _; rw [h.out]; (try simp only [List.length_append]); omega)
    clear hc
    rcases hcase with ⟨hz, rfl⟩ | ⟨hz, rfl⟩ | ⟨hz, rfl⟩ | ⟨hz, rfl⟩
    · clear d1 d2
      go_wp2_with (at_builtin; refine B8.wpList_appG rfl (.tmp 13) (.tmp 14) rfl _ rfl hO.out A0 c0 _ rfl rfl hp.out.1.1 hp.out.1.2.1 hll.out.1 hsz.out ?_; intro z1 A1' d1' w5 HZ o5 b5 g5 r5; have O5 := Lib.hid o5; have K5 := Lib.hid (hK.out.trans b5); have N5 := nxt.out _ _ _ _ g5 r5; clear o5 b5 g5 r5)
      go_roundw
      case rel => exact ⟨A1', d1', z1, rfl, .inr (.inl ⟨by show z1 = _; rw [HZ.out, hz.out], rfl⟩), O5.out, K5.out, N5⟩
      case measure => simp [intOf]
    · clear d0 d2
      go_wp2_with (at_builtin; refine B8.wpList_appG rfl (.tmp 13) (.tmp 14) rfl _ rfl hO.out A1 c1 _ rfl rfl hp.out.2.1.1 hp.out.2.1.2.1 hll.out.2.1 hsz.out ?_; intro z1 A1' d1' w5 HZ o5 b5 g5 r5; have O5 := Lib.hid o5; have K5 := Lib.hid (hK.out.trans b5); have N5 := nxt.out _ _ _ _ g5 r5; clear o5 b5 g5 r5)
      go_roundw
      case rel => exact ⟨A1', d1', z1, rfl, .inr (.inr (.inl ⟨by show z1 = _; rw [HZ.out, hz.out], rfl⟩)), O5.out, K5.out, N5⟩
      case measure => simp [intOf]
    · clear d0 d1
      go_wp2_with (at_builtin; refine B8.wpList_appG rfl (.tmp 13) (.tmp 14) rfl _ rfl hO.out A2 c2 _ rfl rfl hp.out.2.2.1 hp.out.2.2.2.1 hll.out.2.2 hsz.out ?_; intro z1 A1' d1' w5 HZ o5 b5 g5 r5; have O5 := Lib.hid o5; have K5 := Lib.hid (hK.out.trans b5); have N5 := nxt.out _ _ _ _ g5 r5; clear o5 b5 g5 r5)
      go_roundw
      case rel => exact ⟨A1', d1', z1, rfl, .inr (.inr (.inr ⟨by show z1 = _; rw [HZ.out, hz.out], rfl⟩)), O5.out, K5.out, N5⟩
      case measure => simp [intOf]
    · clear d0 d1 d2
      go_wp2
      go_ret
      exact ⟨E2, f2, zs, rfl, hz, hO, hK⟩
end Go.Proofs.Ytdcgmnkoomhocaa
