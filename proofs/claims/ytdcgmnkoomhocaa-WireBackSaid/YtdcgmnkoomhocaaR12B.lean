/- The document's layer 12: Read. -/
import Derived.Test.YtdcgmnkoomhocaaR12A
import Derived.Test.YtdcgmnkoomhocaaR8D
namespace Go.Proofs.Ytdcgmnkoomhocaa
open Go.RowKit Go.Proofs.ShM Go.Proofs.GrM Go.Proofs.PkM Go.Proofs.WiM
set_option linter.unusedVariables false
set_option maxHeartbeats 8000000

/-- Nodes and an error. -/
def RetNE (r : List Nd × Int) (W : World) (e : Ending) (W' : World) : Prop :=
  ∃ A c, e = .returned (.tuple #[.slice A r.1.length c, .int .i64 r.2]) ∧ Hid (RdG W' A r.1) ∧ Hid (r.1.length ≤ c ∧ c ≤ 9223372036854775807) ∧ Kp W W'
theorem RetNE.none_ {W W' : World} (k : Kp W W') (e : Int) : RetNE ([], e) W (.returned (.tuple #[.slice none 0 0, .int .i64 e])) W' :=
  ⟨none, 0, rfl, RdN.nil_ _ _ _, ⟨by simp, by omega⟩, k⟩
theorem take_room {b : List Int} {s : Int} (hb : Bytes b) : Bytes (takeV b s).2.1 ∧ (takeV b s).2.1.length ≤ b.length := by
  unfold takeV
  split
  · exact ⟨fun x hx => hb x (List.mem_of_mem_drop hx), by show (b.drop _).length ≤ _; rw [List.length_drop]; omega⟩
  · exact ⟨(fun x hx => by cases hx), Nat.zero_le _⟩
theorem many_room {k : Nat} : ∀ {m : Nat} {b l r : List Int}, manyV k m b = some (l, r) → (∀ x ∈ r, x ∈ b) ∧ r.length ≤ b.length
  | 0, b, l, r, h => by
    injection h with h
    injection h with _ h2
    subst h2
    exact ⟨fun _ h => h, Nat.le_refl _⟩
  | m + 1, b, l, r, h => by
    rw [manyV] at h
    split at h
    · cases h
    · cases e : manyV k m (b.drop k) with
      | none => rw [e] at h; cases h
      | some p =>
        rw [e] at h
        obtain ⟨p1, p2⟩ := p
        injection h with h
        injection h with _ h2
        have h2 : p2 = r := h2
        subst h2
        obtain ⟨g1, g2⟩ := many_room e
        exact ⟨fun x hx => List.mem_of_mem_drop (g1 x hx), by rw [List.length_drop] at g2; omega⟩
theorem takeList_room {b : List Int} {s : Int} (hb : Bytes b) : Bytes (takeListV b s).2.1 ∧ (takeListV b s).2.1.length ≤ b.length := by
  unfold takeListV
  split
  · cases e : manyV s.toNat (b.getD 0 0).toNat (b.drop 1) with
    | none => exact ⟨(fun x hx => by cases hx), Nat.zero_le _⟩
    | some p =>
      obtain ⟨l, r⟩ := p
      obtain ⟨g1, g2⟩ := many_room e
      exact ⟨fun x hx => hb x (List.mem_of_mem_drop (g1 x hx)), by show r.length ≤ b.length; rw [List.length_drop] at g2; omega⟩
  · exact ⟨(fun x hx => by cases hx), Nat.zero_le _⟩
/-- What is still to be read: the nodes so far, and so many more. -/
def Rn (o : Option (List Nd)) (dn : List Nd) (m : Nat) (cur : List Int) : Prop := (readN m cur).map (fun p => dn ++ p.1) = o
theorem rn_step {o : Option (List Nd)} {dn : List Nd} {m : Nat} {cur r : List Int} {t : Nd} (h : Rn o dn (m + 1) cur) (ht : takeNd cur = some (t, r)) : Rn o (dn ++ [t]) m r := by
  unfold Rn at *
  rw [readN, ht] at h
  have h : ((readN m r).map fun q => (t :: q.1, q.2)).map (fun p => dn ++ p.1) = o := h
  rw [← h, Option.map_map]
  congr 1
  funext p
  simp
theorem rn_bad {o : Option (List Nd)} {dn : List Nd} {m : Nat} {cur : List Int} (h : Rn o dn (m + 1) cur) (ht : takeNd cur = none) : o = none := by
  unfold Rn at h
  rw [readN, ht] at h
  rw [← h]; rfl
theorem rn_end {o : Option (List Nd)} {dn : List Nd} {cur : List Int} (h : Rn o dn 0 cur) : o = some dn := by
  unfold Rn at h
  rw [readN] at h
  rw [← h]; simp
theorem read_none {b : List Int} (h : readO b = none) : readV b = ([], 120) := by unfold readV; rw [h]
theorem read_some {b : List Int} {l : List Nd} (h : readO b = some l) : readV b = if writeV l = (b, 0) then (l, 0) else ([], 120) := by unfold readV; rw [h]
theorem ap_own12 {w w' : World} {v : Value} {A : Option Addr} {n c : Nat} {xs : List Int} {ts : List Nd} {B : Nat} (ho : OwnN B w v ts) (h : Own w.heap.size w' (.slice A n c) xs) : ∀ ad, A = some ad → 0 < xs.length → v.ownBlock ≠ some ad.block := by
  rintro ad rfl _ e
  have h1 := ho.row_lt e
  have h2 := h.from_ (k := ad.block) rfl
  omega
set_option maxRecDepth 100000 in
theorem rread12_yes (A : Option Addr) (c : Nat) (bs : List Int) (w : World) (hR : B8.Rd w A bs) (hc1 : bs.length ≤ c) (hc2 : c ≤ 9223372036854775807) (hb : Bytes bs) (hbl : bs.length ≤ 200000) (he0 : (takeV bs 1).2.2 = 0) :
    Calls Try.prog 12 #[.slice A bs.length c] w (RetNE (readV bs) w) := by
  have HRd := Lib.hid hR
  have HBy := Lib.hid hb
  obtain ⟨V0, hV0⟩ : ∃ V0, V0 = readV bs := ⟨_, rfl⟩
  have HV0 : Hid (V0 = readV bs) := hV0
  rw [← hV0]
  clear hV0
  have HTK : Hid (∀ (D : Option Addr) (d : Nat) (b : List Int) (V : World), B8.Rd V D b → b.length ≤ d → d ≤ 9223372036854775807 → Bytes b → b.length ≤ 200000 → Calls Try.prog 22 #[.slice D b.length d, .int .i64 1] V (RetRE D b (takeV b 1).1 (takeV b 1).2.1 (takeV b 1).2.2 V)) := fun D d b V h1 h2 h3 h4 h5 => rtake8_any D d b 1 V h1 h2 h3 h4 (by omega)
  have HTL : Hid (∀ (s : Int) (D : Option Addr) (d : Nat) (b : List Int) (V : World), B8.Rd V D b → b.length ≤ d → d ≤ 9223372036854775807 → Bytes b → b.length ≤ 200000 → Calls Try.prog 23 #[.slice D b.length d, .int .i64 s] V (RetLE D b (takeListV b s).1 (takeListV b s).2.1 (takeListV b s).2.2 V)) := fun s D d b V h1 h2 h3 h4 h5 => rtakeList8_any D d b s V h1 h2 h3 h4 h5
  obtain ⟨v0, r0, e0, hv0⟩ : ∃ v0 r0 e0, takeV bs 1 = (v0, r0, e0) := ⟨_, _, _, rfl⟩
  have HT0 := Lib.hid (HTK.out A c bs w hR hc1 hc2 hb hbl)
  rw [hv0] at HT0
  have he : e0 = 0 := by rw [hv0] at he0; exact he0
  subst he
  obtain ⟨⟨p0, p1⟩, hcons⟩ := take_one hb (by rw [hv0])
  rw [hv0] at p0 p1 hcons
  replace p0 : 0 ≤ v0 := p0
  replace p1 : v0 ≤ 255 := p1
  replace hcons : v0 :: r0 = bs := hcons
  obtain ⟨m, hm⟩ : ∃ m : Nat, v0 = (m : Int) := ⟨v0.toNat, by omega⟩
  subst hm
  obtain ⟨o, ho⟩ : ∃ o, o = readO bs := ⟨_, rfl⟩
  have hRn : Hid (Rn o [] m r0) := by
    show Rn o [] m r0
    rw [ho, ← hcons]
    unfold Rn readO
    rw [if_pos (by simp)]
    show (readN m r0).map (fun p => [] ++ p.1) = (readN ((m : Int)).toNat r0).map (·.1)
    rw [Int.toNat_natCast]; rfl
  have HO := Lib.hid ho
  have hB0 : Hid (Bytes r0 ∧ r0.length ≤ bs.length) := ⟨fun x hx => hb x (by rw [← hcons]; exact List.mem_cons_of_mem _ hx), by rw [← hcons]; simp⟩
  have hm255 : m ≤ 255 := by omega
  clear hv0 hcons hb hR ho p0 p1
  go_enter Try.func12, Try.ntmps12
  go_wp2_with fail
  refine (Hid.out HT0).mono ?_; rintro e1 w1 ⟨R1, c1, rfl, i1, l1, l2, k1⟩
  have K1 := Lib.hid k1
  have I1 := Lib.hid i1
  have L1 := Lib.hid (And.intro l1 l2)
  clear k1 i1 l1 l2 HT0
  go_wp2
  go_loopw [5, 7, 8] (fun v q i wx => ∃ (k : Nat) (D : Option Addr) (d : Nat) (cur : List Int) (E : Option Addr) (f : Nat) (dn : List Nd), v = .slice D cur.length d ∧ q = .slice E dn.length f ∧ i = .int .i64 (k : Int) ∧ Hid (k ≤ m) ∧ Hid (dn.length = k) ∧ Hid (Rn o dn (m - k) cur) ∧ Hid (Bytes cur ∧ cur.length ≤ bs.length) ∧ Hid (cur.length ≤ d ∧ d ≤ 9223372036854775807) ∧ Hid (∀ V, B8.Rd V A bs → B8.Rd V D cur) ∧ Hid (OwnN w1.heap.size wx (.slice E dn.length f) dn) ∧ Hid (Kp w1 wx)) (fun _ _ i _ => m - (intOf i).toNat)
  case atStart => exact ⟨0, R1, c1, r0, none, 0, [], rfl, rfl, rfl, Nat.zero_le _, rfl, hRn.out, hB0.out, L1.out, I1.out, OwnN.nil_ _ _, Kp.refl _⟩
  case round =>
    obtain ⟨k, D, d, cur, E, f, dn, rfl, rfl, rfl, hk, hdl, hRk, hBk, hLk, hVk, hO, hK⟩ := hrel
    have KW := Lib.hid (K1.out.tr hK.out)
    by_cases hj : k < m
    · have hj' : (k : Int) < (m : Int) := by omega
      obtain ⟨n, hn⟩ : ∃ n, m - k = n + 1 := ⟨m - k - 1, by omega⟩
      rw [hn] at hRk
      have HN := Lib.hid hn
      obtain ⟨op, r1, f1, h1⟩ : ∃ op r1 f1, takeV cur 1 = (op, r1, f1) := ⟨_, _, _, rfl⟩
      obtain ⟨args, r2, f2, h2⟩ : ∃ args r2 f2, takeListV r1 1 = (args, r2, f2) := ⟨_, _, _, rfl⟩
      obtain ⟨nums, r3, f3, h3⟩ : ∃ nums r3 f3, takeListV r2 8 = (nums, r3, f3) := ⟨_, _, _, rfl⟩
      have hb1 : Bytes r1 ∧ r1.length ≤ cur.length := by have := take_room (s := 1) hBk.out.1; rw [h1] at this; exact this
      have hb2 : Bytes r2 ∧ r2.length ≤ r1.length := by have := takeList_room (s := 1) hb1.1; rw [h2] at this; exact this
      have hb3 : Bytes r3 ∧ r3.length ≤ r2.length := by have := takeList_room (s := 8) hb2.1; rw [h3] at this; exact this
      have htn : takeNd cur = if f1 = 0 ∧ f2 = 0 ∧ f3 = 0 then some ((op, args, nums), r3) else none := by unfold takeNd; rw [h1, h2, h3]
      have C1 := Lib.hid (HTK.out D d cur wr (hVk.out _ (HRd.out.kp KW.out)) hLk.out.1 hLk.out.2 hBk.out.1 (by have := hBk.out.2; omega))
      rw [h1] at C1
      have C2 : Hid (∀ (D : Option Addr) (d : Nat) (V : World), B8.Rd V D r1 → r1.length ≤ d → d ≤ 9223372036854775807 → Calls Try.prog 23 #[.slice D r1.length d, .int .i64 1] V (RetLE D r1 args r2 f2 V)) := fun D d V g1 g2 g3 => by
        have h := HTL.out 1 D d r1 V g1 g2 g3 hb1.1 (by have := hBk.out.2; omega)
        rw [h2] at h; exact h
      have C3 : Hid (∀ (D : Option Addr) (d : Nat) (V : World), B8.Rd V D r2 → r2.length ≤ d → d ≤ 9223372036854775807 → Calls Try.prog 23 #[.slice D r2.length d, .int .i64 8] V (RetLE D r2 nums r3 f3 V)) := fun D d V g1 g2 g3 => by
        have h := HTL.out 8 D d r2 V g1 g2 g3 hb2.1 (by have := hBk.out.2; omega)
        rw [h3] at h; exact h
      have HB3 : Hid (Bytes r3 ∧ r3.length ≤ bs.length) := ⟨hb3.1, by have := hBk.out.2; omega⟩
      clear h1 h2 h3 hb1 hb2 hb3 hn
      go_wp2_with fail
      refine (Hid.out C1).mono ?_; rintro e1 w2 ⟨R2, c2, rfl, i2, l3, l4, k2⟩
      have K2 := Lib.hid (hK.out.tr k2)
      have I2 : Hid (∀ V, B8.Rd V A bs → B8.Rd V R2 r1) := fun V hh => i2 V (hVk.out V hh)
      have O2 := Lib.hid (hO.out.kp k2)
      clear i2 k2 C1
      go_wp2_with fail
      refine (C2.out R2 c2 w2 (I2.out _ (HRd.out.kp (K1.out.tr K2.out))) l3 l4).mono ?_; rintro e1 w3 ⟨PA, ca, R3, c3, rfl, oa, i3, l5, l6, k3⟩
      have K3 := Lib.hid (K2.out.tr k3)
      have I3 : Hid (∀ V, B8.Rd V A bs → B8.Rd V R3 r2) := fun V hh => i3 V (I2.out V hh)
      have O3 := Lib.hid (O2.out.kp k3)
      have XA := Lib.hid (ap_own12 O2.out oa)
      have RA := Lib.hid oa.sl
      clear i3 k3 oa l3 l4 C2
      go_wp2_with fail
      refine (C3.out R3 c3 w3 (I3.out _ (HRd.out.kp (K1.out.tr K3.out))) l5 l6).mono ?_; rintro e1 w4 ⟨PN, cn, R4, c4, rfl, on, i4, l7, l8, k4⟩
      have K4 := Lib.hid (K3.out.tr k4)
      have I4 : Hid (∀ V, B8.Rd V A bs → B8.Rd V R4 r3) := fun V hh => i4 V (I3.out V hh)
      have O4 := Lib.hid (O3.out.kp k4)
      have XN := Lib.hid (ap_own12 O3.out on)
      have RN := Lib.hid on.sl
      have RA := Lib.hid (RA.out.kp k4)
      have L4 := Lib.hid (And.intro l7 l8)
      clear i4 k4 on l5 l6 l7 l8 C3
      have bad : takeNd cur = none → V0 = ([], 120) := fun h => HV0.out.trans (read_none (by rw [← HO.out]; exact rn_bad hRk.out h))
      by_cases g1 : f1 = 0
      · by_cases g2 : f2 = 0
        · by_cases g3 : f3 = 0
          · subst g1 g2 g3
            have HST := Lib.hid (rn_step hRk.out (by rw [htn, if_pos ⟨rfl, rfl, rfl⟩]))
            clear htn bad
            have hdn : dn.length ≤ 255 := by have := hdl.out; omega
            have hrow : Hid (RdN (w4.alloc (.cells #[.int .i64 op, .slice PA args.length ca, .slice PN nums.length cn] 36)) (fun k => (Value.slice E dn.length f).ownBlock ≠ some k) (some ⟨w4.heap.size, 0, none⟩) [(op, args, nums)]) :=
              RdN.one (X := fun k => (Value.slice E dn.length f).ownBlock ≠ some k) (t := (op, args, nums)) ⟨RA.out.rd, RN.out.rd, XA.out, XN.out⟩ ⟨RA.out.le, RA.out.cap⟩ ⟨RN.out.le, RN.out.cap⟩ 36
            go_wp2_with (at_builtin; refine wpList_appN (B := w1.heap.size) rfl (.tmp 63) (.tmp 68) rfl _ dn rfl (O4.out.kp (Kp.alloc_ _ _)) _ _ [(op, args, nums)] 1 rfl rfl hrow.out (by simp; omega) (by have := K4.out.size; simp; omega) ?_; intro z1 A1 c1' w6 HZ1 o1 b1 _; have O6 := Lib.hid o1; have K6 : Hid (Kp w1 w6) := (gal K4.out _).trans b1; clear o1 b1)
            go_roundw
            case rel => exact ⟨k + 1, R4, c4, r3, A1, c1', z1, rfl, rfl, by go_num, (by show k + 1 ≤ m; omega), (by show z1.length = _; rw [HZ1.out, List.length_append, hdl.out]; rfl), (by show Rn o z1 (m - (k + 1)) r3; rw [HZ1.out, show m - (k + 1) = n by have := HN.out; omega]; exact HST.out), HB3.out, L4.out, I4.out, O6.out, K6.out⟩
            case measure => simp [intOf]; omega
          · have e3 : (f3 != 0) = true := by simpa using g3
            subst g1 g2
            have HBAD := Lib.hid (bad (by rw [htn, if_neg (fun h => g3 h.2.2)]))
            clear htn bad g3
            go_wp2
            go_ret2
            rw [HBAD.out]
            exact RetNE.none_ (K1.out.tr K4.out) 120
        · have e2 : (f2 != 0) = true := by simpa using g2
          subst g1
          have HBAD := Lib.hid (bad (by rw [htn, if_neg (fun h => g2 h.2.1)]))
          clear htn bad g2
          go_wp2
          go_ret2
          rw [HBAD.out]
          exact RetNE.none_ (K1.out.tr K4.out) 120
      · have e1 : (f1 != 0) = true := by simpa using g1
        have HBAD := Lib.hid (bad (by rw [htn, if_neg (fun h => g1 h.1)]))
        clear htn bad g1
        go_wp2
        go_ret2
        rw [HBAD.out]
        exact RetNE.none_ (K1.out.tr K4.out) 120
    · have hj' : ¬ (k : Int) < (m : Int) := by omega
      have hso : readO bs = some dn := by
        rw [← HO.out]
        have h := hRk.out
        rw [show m - k = 0 by omega] at h
        exact rn_end h
      have hrs := read_some hso
      obtain ⟨ww, we, hw⟩ : ∃ ww we, writeV dn = (ww, we) := ⟨_, _, rfl⟩
      rw [hw] at hrs
      have NO := Lib.hid (n_of_own hO.out)
      have HWR := Lib.hid (rwrite12 E f dn wr NO.out.1)
      rw [hw] at HWR
      clear hso
      by_cases h0 : we = 0
      · subst h0
        have hwb : Bytes ww := by
          have hd := write_is hw
          rw [hd.2]
          refine write_bytes hd.1 (read_wf (b := bs) HBy.out ?_)
          rw [← HO.out]
          have h := hRk.out
          rw [show m - k = 0 by omega] at h
          exact rn_end h
        cases hq : (ww == bs) with
        | true =>
          have hqe : ww = bs := by simpa using hq
          have hsq := str_eq hwb HBy.out hq
          have hsn : ((strOfNums ww).toList != (strOfNums bs).toList) = false := by rw [bne, hsq]; rfl
          rw [if_pos (by rw [hqe])] at hrs
          have HVE := Lib.hid (HV0.out.trans hrs)
          have HSR : Hid (∀ V, Kp w1 V → (convert 23 9 (.slice A bs.length c)).run Try.prog V = .ok (.string (strOfNums bs)) V) := fun V k => run_str c (HRd.out.kp (K1.out.tr k)) rfl
          clear hq hqe hrs hw hwb
          go_wp2_with fail
          refine (Hid.out HWR).mono ?_; rintro e1 w5 ⟨A5, c5, rfl, o5, k5⟩
          have K5 := Lib.hid (hK.out.tr k5)
          have M5 := Lib.hid (NO.out.1.kp k5)
          have s1 := run_str (W := w5) c5 (B8.own_room o5).1 (n := ww.length) rfl
          have s2 := HSR.out _ K5.out
          clear o5 k5
          go_wp2
          go_ret2
          rw [HVE.out]
          exact ⟨E, f, rfl, M5.out, NO.out.2, K1.out.tr K5.out⟩
        | false =>
          have hqe : ww ≠ bs := by simpa using hq
          have hsq := str_eq hwb HBy.out hq
          have hsn : ((strOfNums ww).toList != (strOfNums bs).toList) = true := by rw [bne, hsq]; rfl
          rw [if_neg (fun h => hqe (by injection h))] at hrs
          have HVE := Lib.hid (HV0.out.trans hrs)
          have HSR : Hid (∀ V, Kp w1 V → (convert 23 9 (.slice A bs.length c)).run Try.prog V = .ok (.string (strOfNums bs)) V) := fun V k => run_str c (HRd.out.kp (K1.out.tr k)) rfl
          clear hq hqe hrs hw hwb
          go_wp2_with fail
          refine (Hid.out HWR).mono ?_; rintro e1 w5 ⟨A5, c5, rfl, o5, k5⟩
          have K5 := Lib.hid (hK.out.tr k5)
          have s1 := run_str (W := w5) c5 (B8.own_room o5).1 (n := ww.length) rfl
          have s2 := HSR.out _ K5.out
          clear o5 k5
          go_wp2
          go_ret2
          rw [HVE.out]
          exact RetNE.none_ (K1.out.tr K5.out) 120
      · have h0' : (we != 0) = true := by simpa using h0
        rw [if_neg (fun h => h0 (by injection h))] at hrs
        have HVE := Lib.hid (HV0.out.trans hrs)
        clear hrs hw h0
        go_wp2_with fail
        refine (Hid.out HWR).mono ?_; rintro e1 w5 ⟨A5, c5, rfl, o5, k5⟩
        have K5 := Lib.hid (hK.out.tr k5)
        clear o5 k5
        go_wp2
        go_ret2
        rw [HVE.out]
        exact RetNE.none_ (K1.out.tr K5.out) 120
end Go.Proofs.Ytdcgmnkoomhocaa
