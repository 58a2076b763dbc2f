/- The landed chain: versions in new memory. -/
import Derived.Test.YtdcpekkkenckeaaChZb
import Derived.Test.YtdcpekkkenckeaaR17D
namespace Go.Proofs.Ytdcpekkkenckeaa.Cz
open Go.RowKit Go.Proofs.ShM Go.Proofs.GrM Go.Proofs.ImM Go.Proofs.ChM
set_option linter.unusedVariables false
set_option linter.unusedSimpArgs false
set_option maxRecDepth 100000
set_option maxHeartbeats 8000000

/-- A copied tensor: its lists lie in new blocks. -/
def RetC (t : T) (w : World) (e : Ending) (w' : World) : Prop :=
  ∃ A c B d, e = .returned (.agg #[.slice A t.1.length c, .slice B t.2.length d]) ∧ Hid (TRm w' A c B d t) ∧ Hid (NR w' (fun k => w.heap.size ≤ k) A t.1 B t.2) ∧ Kp w w'
theorem own_nr {B c n : Nat} {w : World} {A : Option Addr} {xs : List Int} (h : Own B w (.slice A n c) xs) : Sl w A c xs ∧ ∀ ad, A = some ad → 0 < xs.length → B ≤ ad.block := ⟨h.sl, fun ad e _ => (h.ad e).1⟩
theorem copied_v (P Q : Option Addr) (n c m d : Nat) (t : T) (w : World) (hT : TR w P t.1 Q t.2) (hn : n = t.1.length) (hm : m = t.2.length) (h1 : t.1.length ≤ 1000000) (h2 : t.2.length ≤ 1000000) :
    Calls Try.prog 25 #[.agg #[.slice P n c, .slice Q m d]] w (RetC t w) := by
  have H1 : Hid (∀ V, Kp w V → Calls Try.prog 34 #[.slice P n c] V (RetO t.1 V)) := fun V k => by rw [hn]; exact clone_any P c t.1 V (hT.s.kp k) h1
  have H2 : Hid (∀ V, Kp w V → Calls Try.prog 34 #[.slice Q m d] V (RetO t.2 V)) := fun V k => by rw [hm]; exact clone_any Q d t.2 V (hT.d.kp k) h2
  obtain ⟨w1, hw1⟩ := eX ((w.alloc (.cells #[.slice P n c, .slice Q m d] 25)).alloc (.cells #[.slice none 0 0, .slice none 0 0] 25))
  have B1 : Hid (Bk w1 w.heap.size P n c Q m d) := by rw [hw1]; exact (Bk.new rfl).alloc_ _
  have O1 : Hid (Bk w1 (w.heap.size + 1) none 0 0 none 0 0) := by rw [hw1]; exact Bk.new (by rw [World.size_alloc])
  have K1 : Hid (Kp w w1) := by rw [hw1]; exact (Kp.alloc_ _ _).tr (Kp.alloc_ _ _)
  have HW := lH hw1
  have HSS : Hid (∀ V, Kp w1 V → V.cell? ⟨w.heap.size, 0, none⟩ = some (.slice P n c) ∧ V.cell? ⟨w.heap.size, 1, none⟩ = some (.slice Q m d)) := fun V kV => ⟨(B1.out.kp kV).c0, (B1.out.kp kV).c1⟩
  clear hw1 hT hn hm h1 h2
  go_enter Try.func25, Try.ntmps25
  go_wp2_with fail
  rw [← HW.out]
  refine wp_region_held_drew (S := fun V => V.cell? ⟨w.heap.size, 0, none⟩ = some (.slice P n c) ∧ V.cell? ⟨w.heap.size, 1, none⟩ = some (.slice Q m d)) (by kernel_rfl) (HSS.out _ (Below.drew (Kp.refl _))) (fun hHeld => ?_)
  have X2 : Hid (Kp w1 w1.drew) := Below.drew (Kp.refl _)
  generalize w1.drew = V0 at X2 hHeld ⊢
  refine tK 0 (.pointer (some ⟨w.heap.size, 0, none⟩)) rfl hHeld <| tK 1 (.slice P n c) rfl hHeld <| tK 3 (.pointer (some ⟨w.heap.size, 1, none⟩)) rfl hHeld <| tK 4 (.slice Q m d) rfl hHeld ?_
  refine rD 2 rfl fun K9_ hK => ?_
  go_simp
  refine (H1.out _ (K1.out.tr X2.out)).mono ?_; rintro e3 w3 ⟨A3, c3, rfl, o3, k3⟩
  dsimp only
  have X3 : Hid (Kp w1 w3) := X2.out.tr k3
  have L3 := lH (own_nr (o3.mono (b' := w.heap.size) (K1.out.tr X2.out).size))
  have hS3 := HSS.out _ X3.out
  clear k3 o3
  refine hK.out _ _ (hS3) fun hHeld => ?_
  clear hK
  refine rD 5 rfl fun K9_ hK => ?_
  go_simp
  refine (H2.out _ (K1.out.tr X3.out)).mono ?_; rintro e4 w4 ⟨B3, d3, rfl, o4, k4⟩
  dsimp only
  have X4 : Hid (Kp w1 w4) := X3.out.tr k4
  have L4 := lH (own_nr (o4.mono (b' := w.heap.size) (K1.out.tr X3.out).size))
  have M4 := lH (L3.out.1.kp k4)
  have O4 := lH (O1.out.kp X4.out)
  have K4 := lH (K1.out.tr X4.out)
  have hS4 := HSS.out _ X4.out
  clear k4 o4
  refine hK.out _ _ (hS4) fun hHeld => ?_
  clear hK
  refine tK 6 (.agg #[.slice A3 t.1.length c3, .slice B3 t.2.length d3]) rfl hHeld ?_
  have o0 := O4.out.c0
  have o1 := O4.out.c1
  have f0 := O4.out.f0 0
  have f1 := O4.out.f0 1
  have hS6 : ((w4.setCell ⟨w.heap.size + 1, 0, none⟩ (.slice A3 t.1.length c3)).setCell ⟨w.heap.size + 1, 1, none⟩ (.slice B3 t.2.length d3)).cell? ⟨w.heap.size, 0, none⟩ = some (.slice P n c) ∧ ((w4.setCell ⟨w.heap.size + 1, 0, none⟩ (.slice A3 t.1.length c3)).setCell ⟨w.heap.size + 1, 1, none⟩ (.slice B3 t.2.length d3)).cell? ⟨w.heap.size, 1, none⟩ = some (.slice Q m d) := by
    obtain ⟨u0, u1⟩ := hS4
    constructor <;> simp [go_sem, u0, u1]
  refine rD 7 rfl fun K9_ hK => ?_
  go_simp
  refine hK.out _ _ (hS6) fun hHeld => ?_
  clear hK
  refine wpAnyH_done (by kernel_rfl) ?_ _
  clear hHeld hS3 hS4 hS6 HSS
  go_wp2
  refine bodyPost_ret (v := .agg #[.slice A3 t.1.length c3, .slice B3 t.2.length d3]) (by simp [results, Try.results25, go_sem, o0, o1]; try rfl) rfl ?_
  have r1 := M4.out.past O4.out (.slice A3 t.1.length c3) (.slice B3 t.2.length d3)
  have r2 := L4.out.1.past O4.out (.slice A3 t.1.length c3) (.slice B3 t.2.length d3)
  exact ⟨A3, c3, B3, d3, rfl, (⟨⟨r1.rd, r2.rd⟩, ⟨r1.le, r1.cap⟩, ⟨r2.le, r2.cap⟩⟩ : TRm _ _ _ _ _ t), (⟨r1.rd, r2.rd, L3.out.2, L4.out.2⟩ : NR _ _ _ _ _ _), K4.out.set2 (Nat.le_succ _) _ _⟩

/-! ### Versions -/
theorem clone_v (A : Option Addr) (c n : Nat) (l : List Nd) (w : World) (h : RdG w A l) (hn : n = l.length) (hs : l.length ≤ 1000) :
    Calls Try.prog 37 #[.slice A n c] w fun e w' => ∃ A' c', e = .returned (.slice A' l.length c') ∧ Hid (OwnV w.heap.size w' (.slice A' l.length c') l) ∧ Kp w w' := by
  subst hn
  have qT : ∀ (w : World) (a : Option Addr) (n c : Nat), (binOp .eql 22 (.slice a n c) (.slice none 0 0)).run Try.prog w = .ok (.bool a.isNone) w := fun w a n c => Lib.run_eql_slice_nil w _ _ a n c 0 0 Try.underlying22
  cases A with
  | none =>
    obtain rfl : l = [] := by
      cases l with
      | nil => rfl
      | cons x xs => obtain ⟨_, vs, _, h2⟩ := h; obtain ⟨ad, e, _⟩ := h2 (by simp); cases e
    go_enter Try.func37, Try.ntmps37
    go_wp2
    go_ret
    exact ⟨none, 0, rfl, OwnV.nil_ _ _, Kp.refl _⟩
  | some ad =>
    have HZ : Hid (OwnV w.heap.size (w.alloc (.cells #[] 41)) (.slice (some ⟨w.heap.size, 0, none⟩) 0 0) []) := OwnV.zero w (Nat.le_refl _)
    have HR : Hid (RdN (w.alloc (.cells #[] 41)) (fun k => (Value.slice (some ⟨w.heap.size, 0, none⟩) 0 0).ownBlock ≠ some k) (some ad) l) := (RdN.old h).mono (Kp.alloc_ _ _) fun k hk _ e => by
      have e' : w.heap.size = k := by simpa [Value.ownBlock] using e
      omega
    clear h
    go_enter Try.func37, Try.ntmps37
    go_wp2_with (at_builtin; refine wpList_appV (B := w.heap.size) rfl (.tmp 5) (.tmp 6) rfl _ [] rfl HZ.out (some ad) c l _ rfl rfl HR.out (by simp; omega) (by simp) ?_; intro z1 A1 c1 w1 HE o1 b1 _; have K1 := lH ((Kp.alloc_ w (.cells #[] 41)).trans b1); have R1 := lH o1; clear o1 b1)
    go_ret
    have hz : z1 = l := by have := HE.out; simpa using this
    subst hz
    exact ⟨A1, c1, rfl, R1.out, K1.out⟩
/-- A version's tensor, written anew. -/
theorem OwnV.setT {w : World} {B g n cap k : Nat} {l : List Nd} (h : OwnV B w (.slice (some ⟨g, 0, none⟩) n cap) l) (hk : k < l.length) {P Q : Option Addr} {a b : Nat} (t : NR w (fun j => j ≠ g) P (l.getD k nd0).2.1 Q (l.getD k nd0).2.2)
    (ha : (l.getD k nd0).2.1.length ≤ a ∧ a ≤ 9223372036854775807) (hb : (l.getD k nd0).2.2.length ≤ b ∧ b ≤ 9223372036854775807) :
    OwnV B ((w.setCell ⟨g, k * 3 + 1, none⟩ (.slice P (l.getD k nd0).2.1.length a)).setCell ⟨g, k * 3 + 1 + 1, none⟩ (.slice Q (l.getD k nd0).2.2.length b)) (.slice (some ⟨g, 0, none⟩) n cap) l := by
  obtain ⟨vs, ho, hv⟩ := h
  have hn : n = l.length := by
    rcases ho.2 with ⟨e, _⟩ | ⟨g, cap, cur, e, _⟩
    · cases e
    · injection e
  subst hn
  obtain ⟨o1, g1⟩ := World.ownsRow.stored ho (k * 3 + 1) (.slice P (l.getD k nd0).2.1.length a)
  obtain ⟨o2, g2⟩ := World.ownsRow.stored o1 (k * 3 + 1 + 1) (.slice Q (l.getD k nd0).2.2.length b)
  have hob : (Value.slice (some ⟨g, 0, none⟩) l.length cap).ownBlock = some g := rfl
  have hX : ∀ j, (Value.slice (some ⟨g, 0, none⟩) l.length cap).ownBlock ≠ some j ↔ some g ≠ some j := fun j => Iff.rfl
  have hY : ∀ {V V' : World}, V.grownBy V' (some g) → ∀ {p : V3} {t : Nd}, Vn V (fun j => some g ≠ some j) p t → Vn V' (fun j => some g ≠ some j) p t := fun hg => fun h => grown_n hg h fun _ _ x => x
  refine ⟨vs.set k (.int .i64 (l.getD k nd0).1, .slice P (l.getD k nd0).2.1.length a, .slice Q (l.getD k nd0).2.2.length b), ?_, ⟨by rw [List.length_set]; exact hv.len, fun j p u h1 h2 => ?_⟩⟩
  · have hkv : k < vs.length := by rw [hv.len]; exact hk
    have e : flatN (vs.set k (.int .i64 (l.getD k nd0).1, .slice P (l.getD k nd0).2.1.length a, .slice Q (l.getD k nd0).2.2.length b)) = ((flatN vs).set (k * 3 + 1) (.slice P (l.getD k nd0).2.1.length a)).set (k * 3 + 1 + 1) (.slice Q (l.getD k nd0).2.2.length b) := by
      have hs : vs = vs.take k ++ vs[k] :: vs.drop (k + 1) := by rw [List.getElem_cons_drop, List.take_append_drop]
      obtain ⟨P0, c0, Q0, d0, ep, _⟩ := hv.at_ k vs[k] l[k] (List.getElem?_eq_getElem hkv) (List.getElem?_eq_getElem hk)
      have hl : (flatN (vs.take k)).length = k * 3 := by rw [flatN_len, List.length_take]; congr 1; omega
      have hlt : (vs.take k).length = k := by rw [List.length_take]; omega
      have hx : (l.getD k nd0).1 = l[k].1 := by rw [List.getD_eq_getElem?_getD, List.getElem?_eq_getElem hk]; rfl
      generalize Value.slice P (l.getD k nd0).2.1.length a = y1
      generalize Value.slice Q (l.getD k nd0).2.2.length b = y2
      rw [hx]
      generalize hvk : vs[k] = pk at hs ep
      subst ep
      rw [hs, List.set_append_right _ _ (by omega), hlt, Nat.sub_self, List.set_cons_zero, flatN_append, flatN_append, flatN_cons, flatN_cons]
      rw [List.set_append_right _ _ (by rw [hl]; omega), hl, show k * 3 + 1 - k * 3 = 1 by omega, List.set_append_right _ _ (by rw [hl]; omega), hl, show k * 3 + 1 + 1 - k * 3 = 2 by omega]
      rfl
    rw [e]
    exact o2
  · by_cases hjk : j = k
    · subst hjk
      rw [List.getElem?_set_self (by rw [hv.len]; exact hk)] at h1
      injection h1 with h1
      have hu : l.getD j nd0 = u := by rw [List.getD_eq_getElem?_getD, h2]; rfl
      subst h1
      rw [hu] at t ha hb ⊢
      have n0 : Vn w (fun j => some g ≠ some j) (.int .i64 u.1, .slice P u.2.1.length a, .slice Q u.2.2.length b) u :=
        ⟨P, a, Q, b, rfl, ha.1, ha.2, hb.1, hb.2, t.mono (Kp.refl _) fun q _ hq e => hq (by injection e with e; exact e.symm)⟩
      have := hY g2 (hY g1 n0)
      rw [hu] at this
      exact this
    · rw [List.getElem?_set_ne (fun e => hjk e.symm)] at h1
      exact hY g2 (hY g1 (hv.at_ j p u h1 h2))
theorem OwnV.lt_ {w : World} {B g n cap : Nat} {l : List Nd} (h : OwnV B w (.slice (some ⟨g, 0, none⟩) n cap) l) : n = l.length ∧ g < w.heap.size ∧ B ≤ g ∧ ∀ j, w.frozen? ⟨g, j, none⟩ = false := by
  have h1 := h.row_lt (k := g) rfl
  have h2 := h.from_ (k := g) rfl
  obtain ⟨vs, ho, hv⟩ := h
  have hn : n = l.length := by
    rcases ho.2 with ⟨e, _⟩ | ⟨g, cap, cur, e, _⟩
    · cases e
    · injection e
  subst hn
  exact ⟨rfl, h1, h2, fun j => World.ownsRow.frozenAt ho j⟩
theorem copies_v (A : Option Addr) (c n : Nat) (l : List Nd) (w : World) (h : RdG w A l) (hn : n = l.length) (hs : l.length ≤ 1000) (h1 : ∀ v ∈ l, v.2.1.length ≤ 1000000 ∧ v.2.2.length ≤ 1000000) :
    Calls Try.prog 28 #[.slice A n c] w fun e w' => ∃ A' c', e = .returned (.slice A' l.length c') ∧ Hid (OwnV w.heap.size w' (.slice A' l.length c') l) ∧ Kp w w' := by
  have HC := lH (clone_v A c n l w h hn hs)
  have HV := lH h1
  have hl9 : l.length ≤ 9223372036854775807 := by omega
  clear h hn hs h1
  go_enter Try.func28, Try.ntmps28
  go_wp2_with fail
  refine Calls.mono HC.out ?_; rintro e0 w1 ⟨A1, c1, rfl, o1, k1⟩
  have K1 := lH k1
  clear k1
  go_wp2
  go_loopw [10] (fun i wx => ∃ k : Nat, i = .int .i64 (k : Int) ∧ Hid (k ≤ l.length) ∧ Hid (OwnV w.heap.size wx (.slice A1 l.length c1) l) ∧ Hid (Kp w wx)) (fun i _ => l.length - (intOf i).toNat)
  case atStart => exact ⟨0, rfl, Nat.zero_le _, o1.out, K1.out⟩
  case round =>
    obtain ⟨k, rfl, hk, hO, hK⟩ := hrel
    by_cases hj : k < l.length
    · have hj' : (k : Int) < (l.length : Int) := by omega
      obtain ⟨A', c', e, hG, _⟩ := hO.out.form
      injection e with e1 _ e2
      subst e1 e2
      obtain ⟨ad, P, a, Q, b, hA, had, y0, y1, y2, hR⟩ := hG.atv hj
      obtain ⟨g, hg⟩ : ∃ g, ad = ⟨g, 0, none⟩ := by
        obtain ⟨vs, ho, _⟩ := hO.out
        rcases ho.2 with ⟨e, _⟩ | ⟨g, cap, cur, e, _⟩
        · rw [hA] at e; cases e
        · rw [hA] at e; injection e with e; injection e with e; exact ⟨g, e⟩
      subst hg hA
      obtain ⟨_, hlt, hBg, hfz⟩ := OwnV.lt_ hO.out
      have f1 := hfz (k * 3 + 1)
      have f2 := hfz (k * 3 + 1 + 1)
      obtain ⟨v, hv⟩ := eX (l.getD k nd0)
      have hmem : v ∈ l := by rw [hv, List.getD_eq_getElem?_getD, List.getElem?_eq_getElem hj]; exact List.getElem_mem hj
      have HL := lH (HV.out v hmem)
      rw [← hv] at y0 y1 y2 hR
      have e0 : (⟨g, 0, none⟩ : Addr).add (k * 3) = ⟨g, k * 3, none⟩ := by rw [Go.WideShapes.add_plain, Nat.zero_add]
      rw [e0] at y0 y1 y2
      have HVK := lH hv
      have HHL := lH hlt
      have HSV := lH (show w.heap.size ≤ g from hBg)
      clear hfz hmem hG had e0 hv hBg f1 f2 hlt
      have K3 : Hid (Kp w (wr.alloc (.cells #[.int .i64 v.1, .slice P v.2.1.length a, .slice Q v.2.2.length b] 41))) := hK.out.tr (Kp.alloc_ _ _)
      have H2 : Hid (∀ V, Kp wr V → Calls Try.prog 25 #[.agg #[.slice P v.2.1.length a, .slice Q v.2.2.length b]] V (RetC v.2 V)) := fun V kV => copied_v P Q _ a _ b v.2 V (hR.r.kp kV) rfl rfl HL.out.1 HL.out.2
      clear hR
      obtain ⟨n1, hn1⟩ := eX v.2.1.length
      obtain ⟨n2, hn2⟩ := eX v.2.2.length
      rw [← hn1] at y1 H2 K3
      rw [← hn2] at y2 H2 K3
      have HN := lH (And.intro hn1 hn2)
      clear hn1 hn2
      go_wp2_with fail
      refine (H2.out _ (Kp.alloc_ wr _)).mono ?_; rintro e2 w2 ⟨A2, a2, B2, b2, rfl, t2, r2, k2⟩
      have k3 : Kp wr w2 := (Kp.alloc_ wr _).tr k2
      have K4 := lH (hK.out.tr k3)
      have O2 := lH (hO.out.kp k3)
      have z1 := (k3.cell (show (⟨g, k * 3 + 1, none⟩ : Addr).block < _ from HHL.out)).trans y1
      have z2 := (k3.cell (show (⟨g, k * 3 + 1 + 1, none⟩ : Addr).block < _ from HHL.out)).trans y2
      obtain ⟨_, _, _, hfz⟩ := OwnV.lt_ O2.out
      have f1 := hfz (k * 3 + 1)
      have f2 := hfz (k * 3 + 1 + 1)
      have O3 : Hid (OwnV w.heap.size ((w2.setCell ⟨g, k * 3 + 1, none⟩ (.slice A2 v.2.1.length a2)).setCell ⟨g, k * 3 + 1 + 1, none⟩ (.slice B2 v.2.2.length b2)) (.slice (some ⟨g, 0, none⟩) l.length c1) l) := by
        have hhl := HHL.out
        rw [HVK.out] at t2 r2 ⊢
        exact OwnV.setT O2.out hj (r2.out.mono (Kp.refl _) fun q _ hq e => by rw [World.size_alloc] at hq; omega) t2.out.c1 t2.out.c2
      have K5 : Hid (Kp w ((w2.setCell ⟨g, k * 3 + 1, none⟩ (.slice A2 v.2.1.length a2)).setCell ⟨g, k * 3 + 1 + 1, none⟩ (.slice B2 v.2.2.length b2))) := (K4.out.setCell (p := ⟨g, k * 3 + 1, none⟩) HSV.out _).setCell (p := ⟨g, k * 3 + 1 + 1, none⟩) HSV.out _
      clear k2 k3 y0 y1 y2 hfz t2 r2
      go_wp2
      go_roundw
      case rel => exact ⟨k + 1, by go_num, (by show k + 1 ≤ l.length; omega), O3.out, K5.out⟩
      case measure => simp [intOf]; omega
    · have hj' : ¬ (k : Int) < (l.length : Int) := by omega
      go_wp2
      go_ret
      exact ⟨A1, c1, rfl, hO.out, hK.out⟩
end Go.Proofs.Ytdcpekkkenckeaa.Cz
