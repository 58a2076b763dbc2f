/- The landed wire: Read. -/
import Derived.Test.YtdcgmnkoomhocaaWiZc
import Derived.Test.YtdcgmnkoomhocaaWiZd
namespace Go.Proofs.Ytdcgmnkoomhocaa
open Go.RowKit Go.Proofs.ShM Go.Proofs.GrM Go.Proofs.PkM Go.Proofs.WiM
set_option linter.unusedVariables false
set_option maxHeartbeats 8000000

/-- A scope that is left, or jumped in, forward. -/
theorem wp_scope_fwd {P : Program} {a : Act} {w : World} {Q : Exit → Act → World → Prop} {c rest : Code} (l : Nat) (hf : findLabel c l = some rest)
    (first : c.wp P (Exit.jump l (fun a w => rest.wp P (Exit.noGoto Q) a w) Q) a w) : (Code.scope c).wp P Q a w :=
  wp_scope_jumps l (fun a w => rest.wp P (Exit.noGoto Q) a w) (fun _ _ => 0) hf first fun a w h => Code.wp_mono (fun e a w h => by
    cases e <;> first | exact h | exact (h : False).elim) h
theorem jump_ret {l : Nat} {J : Act → World → Prop} {Q : Exit → Act → World → Prop} {a : Act} {w : World} : Exit.jump l J Q .ret a w = Q .ret a w := rfl
theorem nb_set {W : World} {b : Nat} {cs : Array Value} {t : TypeId} (h : W.heap[b]? = some (.cells cs t (0, 0))) (i : Nat) (x : Value) : (W.setCell ⟨b, i, none⟩ x).heap[b]? = some (.cells (cs.setIfInBounds i x) t (0, 0)) := by
  obtain ⟨hlt, hk⟩ := Array.getElem?_eq_some_iff.1 h
  show (W.heap.modify b _)[b]? = _
  rw [Array.getElem?_eq_getElem (by rw [Array.size_modify]; exact hlt), Array.getElem_modify_self, hk]
  rfl
section
variable {W W' : World} {b n c m d n' c' m' d' : Nat} {op op' : Int} {P Q P' Q' : Option Addr}
theorem Nb.pw0 (h : Nb W b op P n c Q m d) (op' : Int) : Nb (W.setCell ⟨b, 0, none⟩ (.int .i64 op')) b op' P n c Q m d := nb_set h 0 _
theorem Nb.pw1 (h : Nb W b op P n c Q m d) (P' : Option Addr) (n' c' : Nat) : Nb (W.setCell ⟨b, 1, none⟩ (.slice P' n' c')) b op P' n' c' Q m d := nb_set h 1 _
theorem Nb.pw2 (h : Nb W b op P n c Q m d) (Q' : Option Addr) (m' d' : Nat) : Nb (W.setCell ⟨b, 2, none⟩ (.slice Q' m' d')) b op P n c Q' m' d' := nb_set h 2 _
end
/-- Nodes and an error, of the call's own. -/
def RetNw (r : List Nd × Int) (W : World) (e : Ending) (W' : World) : Prop :=
  ∃ A c, e = .returned (.tuple #[.slice A r.1.length c, .int .i64 r.2]) ∧ OwnN W.heap.size W' (.slice A r.1.length c) r.1 ∧ Kp W W'
theorem RetNw.none_ {W W' : World} (k : Kp W W') (e : Int) : RetNw ([], e) W (.returned (.tuple #[.slice none 0 0, .int .i64 e])) W' :=
  ⟨none, 0, rfl, OwnN.nil_ _ _, k⟩
theorem own8_set {B : Nat} {w : World} {v : Value} {xs : List Int} (h : B8.Own B w v xs) {G i : Nat} (hG : G < B) (x : Value) : B8.Own B (w.setCell ⟨G, i, none⟩ x) v xs := h.of_block fun g hg => by
  have hge := h.from_ hg
  exact Below.heap_setCell _ ⟨G, i, none⟩ _ g (by show g ≠ G; omega)
theorem own_set {B : Nat} {w : World} {v : Value} {xs : List Int} (h : Own B w v xs) {G i : Nat} (hG : G < B) (x : Value) : Own B (w.setCell ⟨G, i, none⟩ x) v xs := h.of_block fun g hg => by
  have hge := h.from_ hg
  exact Below.heap_setCell _ ⟨G, i, none⟩ _ g (by show g ≠ G; omega)
theorem ownN_weak {B C : Nat} {w : World} {v : Value} {ts : List Nd} (h : OwnN C w v ts) (hB : B ≤ C) : OwnN B w v ts := by
  obtain ⟨vs, h, hv⟩ := h
  refine ⟨vs, ⟨h.1, ?_⟩, hv⟩
  rcases h.2 with h0 | ⟨g, cap, cur, e, hb, r⟩
  · exact .inl h0
  · exact .inr ⟨g, cap, cur, e, by omega, r⟩

set_option maxRecDepth 100000 in
theorem read_z_long (A : Option Addr) (c : Nat) (bs : List Int) (w : World) (hl : 889 < bs.length) (hc : bs.length ≤ 100000) :
    Calls Try.prog 11 #[.slice A bs.length c] w (RetNw (readV bs) w) := by
  rw [read_long hl]
  obtain ⟨n, hn⟩ : ∃ n, n = bs.length := ⟨_, rfl⟩
  rw [← hn]
  rw [← hn] at hl hc
  have h : (889 : Int) < (n : Int) := by omega
  clear hn
  go_enter Try.func11, Try.ntmps11
  go_wp2
  refine wp_scope_fwd 0 rfl ?_
  go_wp2
  go_step3
  refine ⟨rfl, ?_⟩
  dsimp only
  go_wp2
  try rw [Exit.noGoto_ret]
  go_ret2
  exact RetNw.none_ (Kp.refl _) 120
set_option maxRecDepth 100000 in
theorem read_z_none (A : Option Addr) (c : Nat) (w : World) (hc : c ≤ 9223372036854775807) :
    Calls Try.prog 11 #[.slice A 0 c] w (RetNw ([], 120) w) := by
  have HT := Lib.hid (pkc.take A c 0 [] 1 0 [] 40 0 w (B8.Rd.nil _ _) (by simp) hc (by simp) (fun _ h => by cases h) (by unfold I64; omega) rfl (by decide +kernel) rfl)
  go_enter Try.func11, Try.ntmps11
  go_wp2
  refine wp_scope_fwd 0 rfl ?_
  go_wp2_with fail
  refine (Hid.out HT).mono ?_; rintro e w1 ⟨A1, c1, rfl, _, _, k1⟩
  have K1 := Lib.hid k1
  clear k1
  go_wp2
  go_step3
  refine ⟨rfl, ?_⟩
  dsimp only
  go_wp2
  try rw [Exit.noGoto_ret]
  go_ret2
  exact RetNw.none_ K1.out 120

set_option maxRecDepth 100000 in
theorem read_z_some (A : Option Addr) (c m : Nat) (r0 bs : List Int) (w : World) (hbs : bs = (m : Int) :: r0) (hR : B8.Rd w A bs) (hc1 : bs.length ≤ c) (hc2 : c ≤ 9223372036854775807) (hb : Bytes bs) (hbl : bs.length ≤ 889) (hm : m ≤ 255) (ht : takeV bs 1 = ((m : Int), r0, 0)) :
    Calls Try.prog 11 #[.slice A bs.length c] w (RetNw (readV bs) w) := by
  obtain ⟨V0, hV0⟩ : ∃ V0, V0 = readV bs := ⟨_, rfl⟩
  rw [← hV0]
  have HV0 := Lib.hid (hV0.trans (by rw [hbs]))
  have hB0 : Hid (Bytes r0 ∧ r0.length ≤ 889) := ⟨fun x hx => hb x (by rw [hbs]; exact List.mem_cons_of_mem _ hx), by rw [hbs, List.length_cons] at hbl; show r0.length ≤ 889; omega⟩
  have HT0 := Lib.hid (take_w A c bs 1 (m : Int) r0 0 w hR hc1 hc2 (by omega) hb ht rfl)
  obtain ⟨o, ho⟩ : ∃ o, o = readN m r0 := ⟨_, rfl⟩
  have HRo : Hid (Ro o [] m r0) := by show Ro _ _ _ _; rw [ho]; exact ro_start m r0
  have HO := Lib.hid ho
  obtain ⟨N, hN⟩ : ∃ N, N = bs.length := ⟨_, rfl⟩
  rw [← hN] at HT0 hbl ⊢
  have hbn : ¬ (889 : Int) < (N : Int) := by omega
  have HTK : Hid (∀ (D : Option Addr) (d : Nat) (b : List Int) (v : Int) (r : List Int) (V : World), B8.Rd V D b → b.length ≤ d → d ≤ 9223372036854775807 → Bytes b → b.length ≤ 889 → takeV b 1 = (v, r, 0) → Calls Try.prog 20 #[.slice D b.length d, .int .i64 1] V (RetNow v r 0 V)) := fun D d b v r V h1 h2 h3 h4 h5 h6 => take_w D d b 1 v r 0 V h1 h2 h3 (by omega) h4 h6 rfl
  have HTE : Hid (∀ (D : Option Addr) (d : Nat) (b : List Int) (v : Int) (r : List Int) (f : Int) (V : World), B8.Rd V D b → b.length ≤ d → d ≤ 9223372036854775807 → Bytes b → b.length ≤ 889 → takeV b 1 = (v, r, f) → Calls Try.prog 20 #[.slice D b.length d, .int .i64 1] V (RetNB v r f r.length V)) := fun D d b v r f V h1 h2 h3 h4 h5 h6 => pkc.take D d b.length b 1 v r f r.length V h1 h2 h3 (by omega) h4 (by unfold I64; omega) rfl h6 rfl
  have HLK : Hid (∀ (s : Int) (D : Option Addr) (d : Nat) (b v r : List Int) (V : World), B8.Rd V D b → b.length ≤ d → d ≤ 9223372036854775807 → Bytes b → b.length ≤ 889 → takeListV b s = (v, r, 0) → Calls Try.prog 21 #[.slice D b.length d, .int .i64 s] V (RetLow v r 0 V)) := fun s D d b v r V h1 h2 h3 h4 h5 h6 => takeList_w D d b s v r 0 V h1 h2 h3 (by omega) h4 h6 rfl
  have HLE : Hid (∀ (s : Int) (D : Option Addr) (d : Nat) (b v r : List Int) (f : Int) (V : World), B8.Rd V D b → b.length ≤ d → d ≤ 9223372036854775807 → Bytes b → b.length ≤ 889 → I64 s → takeListV b s = (v, r, f) → Calls Try.prog 21 #[.slice D b.length d, .int .i64 s] V (RetLB v r f v.length r.length V)) := fun s D d b v r f V h1 h2 h3 h4 h5 h6 h7 => pkc.takeList D d b.length b s v r f v.length r.length V h1 h2 h3 (by omega) h4 h6 rfl h7 rfl rfl
  have hm255 : m ≤ 255 := hm
  clear hV0 hbs hR hc1 hc2 hb ht hm ho hN hbl
  go_enter Try.func11, Try.ntmps11
  go_wp2
  refine wp_scope_fwd 0 rfl ?_
  go_wp2_with fail
  refine (Hid.out HT0).mono ?_; rintro e1 w1 ⟨R1, c1, rfl, o1, k1⟩
  have K1 := Lib.hid k1
  have O1 := Lib.hid o1
  clear k1 o1 HT0
  go_wp2
  go_loopw [0, 4, 20] (fun v q i wx => ∃ (k : Nat) (D : Option Addr) (d : Nat) (cur : List Int) (E : Option Addr) (f : Nat) (dn : List Nd), v = .slice D cur.length d ∧ q = .slice E dn.length f ∧ i = .int .i64 (k : Int) ∧ Hid (k ≤ m) ∧ Hid (dn.length = k) ∧ Hid (Ro o dn (m - k) cur) ∧ Hid (Bytes cur ∧ cur.length ≤ 889) ∧ Hid (B8.Own w.heap.size wx (.slice D cur.length d) cur) ∧ Hid (OwnN w.heap.size wx (.slice E dn.length f) dn) ∧ Hid (Kp w wx)) (fun _ _ i _ => m - (intOf i).toNat)
  case atStart => exact ⟨0, R1, c1, r0, none, 0, [], rfl, rfl, rfl, Nat.zero_le _, rfl, HRo.out, hB0.out, O1.out, OwnN.nil_ _ _, K1.out⟩
  case round =>
    obtain ⟨k, D, d, cur, E, f, dn, rfl, rfl, rfl, hk, hdl, hRk, hBk, hC, hO, hK⟩ := hrel
    by_cases hj : k < m
    · have hj' : (k : Int) < (m : Int) := by omega
      obtain ⟨n, hn⟩ : ∃ n, m - k = n + 1 := ⟨m - k - 1, by omega⟩
      rw [hn] at hRk
      have HN := Lib.hid hn
      obtain ⟨op, r1, f1, h1⟩ : ∃ op r1 f1, takeV cur 1 = (op, r1, f1) := ⟨_, _, _, rfl⟩
      obtain ⟨args, r2, f2, h2⟩ : ∃ args r2 f2, takeListV r1 1 = (args, r2, f2) := ⟨_, _, _, rfl⟩
      obtain ⟨nums, r3, f3, h3⟩ : ∃ nums r3 f3, takeListV r2 8 = (nums, r3, f3) := ⟨_, _, _, rfl⟩
      have hb1 : Bytes r1 ∧ r1.length ≤ cur.length := by have := take_room (s := 1) hBk.out.1; rw [h1] at this; exact this
      have hb2 : Bytes r2 ∧ r2.length ≤ r1.length := by have := takeList_room (s := 1) hb1.1; rw [h2] at this; exact this
      have hb3 : Bytes r3 ∧ r3.length ≤ r2.length := by have := takeList_room (s := 8) hb2.1; rw [h3] at this; exact this
      have hcl := hBk.out.2
      have HB1 : Hid (Bytes r1 ∧ r1.length ≤ 889) := ⟨hb1.1, by show r1.length ≤ 889; omega⟩
      have HB2 : Hid (Bytes r2 ∧ r2.length ≤ 889) := ⟨hb2.1, by show r2.length ≤ 889; omega⟩
      have HB3 : Hid (Bytes r3 ∧ r3.length ≤ 889) := ⟨hb3.1, by show r3.length ≤ 889; omega⟩
      have bad : Hid (takeNd cur = none → V0 = ([], 120)) := fun h => HV0.out.trans (read_bad (by rw [← HO.out]; exact ro_bad hRk.out h))
      have HH1 := Lib.hid h1
      have HH2 := Lib.hid h2
      have HH3 := Lib.hid h3
      obtain ⟨W5, hW5⟩ : ∃ W5, W5 = wr.alloc (.cells #[.int .i64 0, .slice none 0 0, .slice none 0 0] 36) := ⟨_, rfl⟩
      have HW5 := Lib.hid hW5
      obtain ⟨G, hG⟩ : ∃ G, G = wr.heap.size := ⟨_, rfl⟩
      have HG := Lib.hid hG
      have NB : Hid (Nb W5 G 0 none 0 0 none 0 0) := by show Nb _ _ _ _ _ _ _ _ _; rw [hW5]; exact Nb.new hG
      have KW5 : Hid (Kp wr W5) := by show Kp _ _; rw [hW5]; exact Kp.alloc_ _ _
      have HGS : Hid (G < W5.heap.size) := NB.out.lt
      have cr := B8.own_room (hC.out.kp KW5.out)
      have CR := Lib.hid cr
      clear h1 h2 h3 hb1 hb2 hb3 hn hW5 hG hcl cr
      by_cases g1 : f1 = 0
      · subst g1
        go_wp2_with fail
        rw [← HW5.out, ← HG.out]
        refine (HTK.out D d cur op r1 _ CR.out.1 CR.out.2.1 CR.out.2.2 hBk.out.1 hBk.out.2 HH1.out).mono ?_; rintro e1 w2 ⟨R2, c2, rfl, o2, k2⟩
        have K2 := Lib.hid k2
        have NB2 := Lib.hid (NB.out.kp k2)
        obtain ⟨W6, hW6⟩ : ∃ W6, W6 = w2.setCell ⟨G, 0, none⟩ (.int .i64 op) := ⟨_, rfl⟩
        have HW6 := Lib.hid hW6
        have NB6 : Hid (Nb W6 G op none 0 0 none 0 0) := by show Nb _ _ _ _ _ _ _ _ _; rw [hW6]; exact NB2.out.pw0 op
        have O6 : Hid (B8.Own W5.heap.size W6 (.slice R2 r1.length c2) r1) := by show B8.Own _ _ _ _; rw [hW6]; exact own8_set o2 HGS.out _
        have K6 : Hid (Kp wr W6) := by show Kp _ _; rw [hW6]; exact Below.setCell (KW5.out.tr k2) (by rw [HG.out]; exact Nat.le_refl _) _
        have G6 : Hid (G < W6.heap.size) := NB6.out.lt
        have cr6 := Lib.hid (B8.own_room O6.out)
        have n0 := NB2.out.c0
        have n1 := NB2.out.f0 0
        clear o2 k2 hW6 CR
        by_cases g2 : f2 = 0
        · subst g2
          go_wp2_with fail
          rw [← HW6.out]
          refine (HLK.out 1 R2 c2 r1 args r2 _ cr6.out.1 cr6.out.2.1 cr6.out.2.2 HB1.out.1 HB1.out.2 HH2.out).mono ?_; rintro e1 w3 ⟨PA, ca, R3, c3, rfl, oa3, o3, k3⟩
          have K3 := Lib.hid k3
          have NB3 := Lib.hid (NB6.out.kp k3)
          obtain ⟨W7, hW7⟩ : ∃ W7, W7 = w3.setCell ⟨G, 1, none⟩ (.slice PA args.length ca) := ⟨_, rfl⟩
          have HW7 := Lib.hid hW7
          have NB7 : Hid (Nb W7 G op PA args.length ca none 0 0) := by show Nb _ _ _ _ _ _ _ _ _; rw [hW7]; exact NB3.out.pw1 _ _ _
          have OA7 : Hid (Own W6.heap.size W7 (.slice PA args.length ca) args) := by show Own _ _ _ _; rw [hW7]; exact own_set oa3 G6.out _
          have O7 : Hid (B8.Own W6.heap.size W7 (.slice R3 r2.length c3) r2) := by show B8.Own _ _ _ _; rw [hW7]; exact own8_set o3 G6.out _
          have K7 : Hid (Kp wr W7) := by show Kp _ _; rw [hW7]; exact Below.setCell (K6.out.tr k3) (by rw [HG.out]; exact Nat.le_refl _) _
          have G7 : Hid (G < W7.heap.size) := NB7.out.lt
          have cr7 := Lib.hid (B8.own_room O7.out)
          have n2 := NB3.out.c1
          have n3 := NB3.out.f0 1
          clear oa3 o3 k3 hW7 n0 n1
          by_cases g3 : f3 = 0
          · subst g3
            have HST := Lib.hid (ro_step hRk.out (tn_yes HH1.out HH2.out HH3.out))
            go_wp2_with fail
            rw [← HW7.out]
            refine (HLK.out 8 R3 c3 r2 nums r3 _ cr7.out.1 cr7.out.2.1 cr7.out.2.2 HB2.out.1 HB2.out.2 HH3.out).mono ?_; rintro e1 w4 ⟨PN, cn, R4, c4, rfl, on4, o4, k4⟩
            have K4 := Lib.hid k4
            have NB4 := Lib.hid (NB7.out.kp k4)
            obtain ⟨W8, hW8⟩ : ∃ W8, W8 = w4.setCell ⟨G, 2, none⟩ (.slice PN nums.length cn) := ⟨_, rfl⟩
            have HW8 := Lib.hid hW8
            have NB8 : Hid (Nb W8 G op PA args.length ca PN nums.length cn) := by show Nb _ _ _ _ _ _ _ _ _; rw [hW8]; exact NB4.out.pw2 _ _ _
            have ON8 : Hid (Own W7.heap.size W8 (.slice PN nums.length cn) nums) := by show Own _ _ _ _; rw [hW8]; exact own_set on4 G7.out _
            have OA8 : Hid (Own W6.heap.size W8 (.slice PA args.length ca) args) := by show Own _ _ _ _; rw [hW8]; exact own_set (OA7.out.kp k4) G6.out _
            have O8 : Hid (B8.Own W7.heap.size W8 (.slice R4 r3.length c4) r3) := by show B8.Own _ _ _ _; rw [hW8]; exact own8_set o4 G7.out _
            have K8 : Hid (Kp wr W8) := by show Kp _ _; rw [hW8]; exact Below.setCell (K7.out.tr k4) (by rw [HG.out]; exact Nat.le_refl _) _
            have n4 := NB4.out.c2
            have n5 := NB4.out.f0 2
            have hs8 : W8.heap.size = w4.heap.size := by rw [HW8.out]; simp
            have hg8 : Hid (W8.heap.size ≤ (w4.setCell ⟨G, 2, none⟩ (.slice PN nums.length cn)).heap.size) := by show _ ≤ _; rw [← HW8.out]; exact Nat.le_refl _
            have RA := OA8.out.sl
            have RN := ON8.out.sl
            have XA := ap_own12 (hO.out.kp K6.out) OA8.out
            have XN := ap_own12 (hO.out.kp K7.out) ON8.out
            have hrow : Hid (RdN ((w4.setCell ⟨G, 2, none⟩ (.slice PN nums.length cn)).alloc (.cells #[.int .i64 op, .slice PA args.length ca, .slice PN nums.length cn] 36)) (fun k => (Value.slice E dn.length f).ownBlock ≠ some k) (some ⟨w4.heap.size, 0, none⟩) [(op, args, nums)]) := by
              show RdN _ _ _ _
              rw [← HW8.out, ← hs8]
              exact RdN.one (X := fun k => (Value.slice E dn.length f).ownBlock ≠ some k) (t := (op, args, nums)) ⟨RA.rd, RN.rd, XA, XN⟩ ⟨RA.le, RA.cap⟩ ⟨RN.le, RN.cap⟩ 36
            have OE8 : Hid (OwnN w.heap.size ((w4.setCell ⟨G, 2, none⟩ (.slice PN nums.length cn)).alloc (.cells #[.int .i64 op, .slice PA args.length ca, .slice PN nums.length cn] 36)) (.slice E dn.length f) dn) := by
              show OwnN _ _ _ _
              rw [← HW8.out]
              exact (hO.out.kp K8.out).kp (Kp.alloc_ _ _)
            have KE8 : Hid (Kp w ((w4.setCell ⟨G, 2, none⟩ (.slice PN nums.length cn)).alloc (.cells #[.int .i64 op, .slice PA args.length ca, .slice PN nums.length cn] 36))) := by
              show Kp _ _
              rw [← HW8.out]
              exact gal (hK.out.tr K8.out) _
            have OR8 : Hid (B8.Own W7.heap.size ((w4.setCell ⟨G, 2, none⟩ (.slice PN nums.length cn)).alloc (.cells #[.int .i64 op, .slice PA args.length ca, .slice PN nums.length cn] 36)) (.slice R4 r3.length c4) r3) := by
              show B8.Own _ _ _ _
              rw [← HW8.out]
              exact O8.out.kp (Kp.alloc_ _ _)
            have e80 := NB8.out.c0
            have e81 := NB8.out.c1
            have e82 := NB8.out.c2
            rw [HW8.out] at e80 e81 e82
            have hdl9 : dn.length ≤ 255 := by have := hdl.out; omega
            have HWS : Hid (wr.heap.size ≤ W7.heap.size) := K7.out.size
            clear on4 o4 k4 n2 n3 hW8 hs8 RA RN XA XN
            go_wp2_with (at_builtin; refine wpList_appN (B := w.heap.size) rfl (.tmp 49) (.tmp 51) rfl _ dn rfl OE8.out _ _ [(op, args, nums)] 1 rfl rfl hrow.out (by simp; omega) KE8.out.size ?_; intro z1 A1 c1' w6 HZ1 o1 b1 e1; have O9 := Lib.hid o1; have K9 : Hid (Kp w w6) := KE8.out.trans b1; have E9 := Lib.hid e1; clear o1 b1 e1)
            go_roundw
            case rel =>
              refine ⟨k + 1, R4, c4, r3, A1, c1', z1, rfl, rfl, by go_num, (by show k + 1 ≤ m; omega), (by show z1.length = _; rw [HZ1.out, List.length_append, hdl.out]; rfl), (by show Ro o z1 (m - (k + 1)) r3; rw [HZ1.out, show m - (k + 1) = n by have := HN.out; omega]; exact HST.out), HB3.out, ?_, O9.out, K9.out⟩
              refine (OR8.out.of_block fun g hg => ?_).weakW (by have h1 := hK.out.size; have h2 := HWS.out; omega)
              refine E9.out g ?_ ?_
              · rcases OR8.out.2 with ⟨h, _⟩ | ⟨g', cap, cur', h, hb', hh, _⟩
                · rw [h] at hg; cases hg
                · rw [h] at hg
                  have : g' = g := by simpa [Value.ownBlock] using hg
                  subst this
                  exact (Array.getElem?_eq_some_iff.1 hh).1
              · intro e'
                have h1 := OR8.out.from_ hg
                have h2 := hO.out.row_lt e'.symm
                have h3 := HWS.out
                omega
            case measure => simp [intOf]; omega
          · have e3 : (f3 != 0) = true := by simpa using g3
            have HBAD := Lib.hid (bad.out (tn_no3 HH1.out HH2.out HH3.out g3))
            clear bad g3
            go_wp2_with fail
            rw [← HW7.out]
            refine (HLE.out 8 R3 c3 r2 nums r3 f3 _ cr7.out.1 cr7.out.2.1 cr7.out.2.2 HB2.out.1 HB2.out.2 (by unfold I64; omega) HH3.out).mono ?_; rintro e1 w4 ⟨PN, cn, R4, c4, rfl, _, _, _, k4⟩
            have KE : Hid (Kp w (w4.setCell ⟨G, 2, none⟩ (.slice PN nums.length cn))) := Below.setCell (hK.out.tr (K7.out.tr k4)) (by rw [HG.out]; exact hK.out.size) _
            have NB4 := NB7.out.kp k4
            have n4 := NB4.c2
            have n5 := NB4.f0 2
            clear k4 n2 n3 NB4
            go_wp2
            go_step3
            refine ⟨rfl, ?_⟩
            dsimp only
            go_wp2
            try rw [Exit.noGoto_ret]
            go_ret2
            rw [HBAD.out]
            exact RetNw.none_ KE.out 120
        · have e2 : (f2 != 0) = true := by simpa using g2
          have HBAD := Lib.hid (bad.out (tn_no2 HH1.out HH2.out g2))
          clear bad g2
          go_wp2_with fail
          rw [← HW6.out]
          refine (HLE.out 1 R2 c2 r1 args r2 f2 _ cr6.out.1 cr6.out.2.1 cr6.out.2.2 HB1.out.1 HB1.out.2 (by unfold I64; omega) HH2.out).mono ?_; rintro e1 w3 ⟨PA, ca, R3, c3, rfl, _, _, _, k3⟩
          have KE : Hid (Kp w (w3.setCell ⟨G, 1, none⟩ (.slice PA args.length ca))) := Below.setCell (hK.out.tr (K6.out.tr k3)) (by rw [HG.out]; exact hK.out.size) _
          have NB3 := NB6.out.kp k3
          have n2 := NB3.c1
          have n3 := NB3.f0 1
          clear k3 n0 n1 NB3
          go_wp2
          go_step3
          refine ⟨rfl, ?_⟩
          dsimp only
          go_wp2
          try rw [Exit.noGoto_ret]
          go_ret2
          rw [HBAD.out]
          exact RetNw.none_ KE.out 120
      · have e1 : (f1 != 0) = true := by simpa using g1
        have HBAD := Lib.hid (bad.out (tn_no1 HH1.out g1))
        clear bad g1
        go_wp2_with fail
        rw [← HW5.out, ← HG.out]
        refine (HTE.out D d cur op r1 f1 _ CR.out.1 CR.out.2.1 CR.out.2.2 hBk.out.1 hBk.out.2 HH1.out).mono ?_; rintro e1 w2 ⟨R2, c2, rfl, _, _, k2⟩
        have KE : Hid (Kp w (w2.setCell ⟨G, 0, none⟩ (.int .i64 op))) := Below.setCell (hK.out.tr (KW5.out.tr k2)) (by rw [HG.out]; exact hK.out.size) _
        have NB2 := NB.out.kp k2
        have n0 := NB2.c0
        have n1 := NB2.f0 0
        clear k2 NB2
        go_wp2
        go_step3
        refine ⟨rfl, ?_⟩
        dsimp only
        go_wp2
        try rw [Exit.noGoto_ret]
        go_ret2
        rw [HBAD.out]
        exact RetNw.none_ KE.out 120
    · have hj' : ¬ (k : Int) < (m : Int) := by omega
      have hro := hRk.out
      rw [show m - k = 0 by omega] at hro
      have hro := (HO.out.symm.trans (ro_end hro))
      have HRN := Lib.hid hro
      have NO := Lib.hid (n_of_own hO.out)
      clear hro
      cases hq : cur with
      | cons x cu =>
        have hx : (0 : Int) < (((x :: cu).length : Nat) : Int) := by rw [List.length_cons]; omega
        have HBAD : Hid (V0 = ([], 120)) := HV0.out.trans (read_rest hB0.out.1 HRN.out (by rw [hq]; simp))
        subst hq
        obtain ⟨L, hL⟩ : ∃ L, L = (x :: cu).length := ⟨_, rfl⟩
        rw [← hL] at hx ⊢
        clear hL
        go_wp2
        go_step3
        refine ⟨rfl, ?_⟩
        dsimp only
        go_wp2
        try rw [Exit.noGoto_ret]
        go_ret2
        rw [HBAD.out]
        exact RetNw.none_ hK.out 120
      | nil =>
        have hrw := HV0.out.trans (read_whole hB0.out.1 (by rw [HRN.out, hq]))
        subst hq
        cases hck : checkB dn with
        | false =>
          have HBAD : Hid (V0 = ([], 120)) := by show V0 = _; rw [hrw, if_neg (by simp [hck])]
          have HC := Lib.hid (Gz.check_z E f _ dn false wr NO.out.1 NO.out.2.1 NO.out.2.2 rfl hck)
          clear hrw hck
          go_wp2_with fail
          refine (Hid.out HC).mono ?_; rintro e w5 ⟨rfl, k5⟩
          have KE := Lib.hid (hK.out.tr k5)
          clear k5
          go_wp2
          go_step3
          refine ⟨rfl, ?_⟩
          dsimp only
          go_wp2
          try rw [Exit.noGoto_ret]
          go_ret2
          rw [HBAD.out]
          exact RetNw.none_ KE.out 120
        | true =>
          have HOK : Hid (V0 = (dn, 0)) := by show V0 = _; rw [hrw, if_pos hck]
          have HC := Lib.hid (Gz.check_z E f _ dn true wr NO.out.1 NO.out.2.1 NO.out.2.2 rfl hck)
          clear hrw hck
          go_wp2_with fail
          refine (Hid.out HC).mono ?_; rintro e w5 ⟨rfl, k5⟩
          have KE := Lib.hid (hK.out.tr k5)
          have ON := Lib.hid (hO.out.kp k5)
          clear k5
          go_wp2
          try rw [jump_ret]
          go_ret2
          rw [HOK.out]
          exact ⟨E, f, rfl, ON.out, KE.out⟩
end Go.Proofs.Ytdcgmnkoomhocaa
