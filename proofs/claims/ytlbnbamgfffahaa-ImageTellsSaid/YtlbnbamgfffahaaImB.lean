/- Layer 9 of the program: taken: the tensors that bytes begin with, so many at most. -/
import Derived.Test.YtlbnbamgfffahaaImA
import Derived.Test.YtlbnbamgfffahaaR9E
import Derived.WalkMore
import Derived.Deep.RegionHeld3
namespace Go.Proofs.Ytlbnbamgfffahaa
open Go.RowKit Go.Proofs.ShM Go.Proofs.PkM Go.Proofs.ImM
set_option linter.unusedVariables false
set_option maxHeartbeats 8000000

theorem B8.Rd.take_ {w : World} {A : Option Addr} {xs : List Int} (h : B8.Rd w A xs) (k : Nat) : B8.Rd w A (xs.take k) := by
  refine ⟨by rw [List.length_take]; have := h.1; omega, fun hp => ?_⟩
  obtain ⟨ad, e, hb, hc⟩ := h.2 (by rw [List.length_take] at hp; omega)
  exact ⟨ad, e, hb, fun j u hj => hc j u (by
    rw [List.getElem?_take] at hj
    split at hj
    · exact hj
    · cases hj)⟩
theorem num_yes (D : Option Addr) (d : Nat) (rest : List Int) (W : World) (hR : B8.Rd W D rest) (h1 : rest.length ≤ d) (h2 : d ≤ 9223372036854775807) (hb : Bytes rest) (h8 : 8 ≤ rest.length) :
    Calls Try.prog 43 #[.slice D 8 d, .int .i64 8] W (RetNB (PkM.asInt (valL (rest.take 8))) [] 0 0 W) := by
  have hl : (rest.take 8).length = 8 := by rw [List.length_take]; omega
  refine pkc.take D d 8 (rest.take 8) 8 _ [] 0 0 W (hR.take_ 8) (by omega) h2 (by omega) (fun x hx => hb x (List.mem_of_mem_take hx)) (by unfold I64; omega) hl.symm ?_ rfl
  unfold takeV
  rw [if_pos ⟨rfl, by rw [hl]; decide⟩]
  have e1 : (rest.take 8).take (8 : Int).toNat = rest.take 8 := List.take_of_length_le (by rw [hl]; decide)
  have e2 : (rest.take 8).drop (8 : Int).toNat = [] := List.drop_eq_nil_of_le (by rw [hl]; decide)
  rw [e1, e2]
theorem num_no (D : Option Addr) (d q : Nat) (rest : List Int) (W : World) (hR : B8.Rd W D rest) (h1 : rest.length ≤ d) (h2 : d ≤ 9223372036854775807) (hb : Bytes rest) (h8 : ¬ 8 ≤ rest.length) (hq : q = rest.length) :
    Calls Try.prog 43 #[.slice D q d, .int .i64 8] W (RetNB 0 [] 40 0 W) :=
  pkc.take D d q rest 8 0 [] 40 0 W hR h1 h2 (by omega) hb (by unfold I64; omega) hq (by unfold takeV; rw [if_neg (fun g => h8 (by have := g.2; omega))]) rfl
/-- A slice of bytes from a place on. -/
def fromA (A : Option Addr) (c k : Nat) : Option Addr := if c = k then A else A.map (·.add k)
theorem B8.Rd.from_a {w : World} {A : Option Addr} {xs : List Int} (h : B8.Rd w A xs) (c k : Nat) (hc : xs.length ≤ c) : B8.Rd w (fromA A c k) (xs.drop k) := by
  unfold fromA
  by_cases e : c = k
  · rw [List.drop_eq_nil_of_le (by omega)]; exact B8.Rd.nil _ _
  · rw [if_neg e]
    cases A with
    | none =>
      have : xs = [] := by
        cases xs with
        | nil => rfl
        | cons x xs => obtain ⟨_, e, _⟩ := h.2 (by simp); cases e
      rw [this, List.drop_nil]; exact B8.Rd.nil _ _
    | some ad => exact h.drop_ k
theorem run_from (W : World) (ad : Addr) (n c k : Nat) (hk : k ≤ n) (hn : n ≤ c) : (Instr.sliceAt 22 (.slice (some ad) n c) (some (.int .i64 (k : Int))) none none).run Try.prog W = .ok (.slice (fromA (some ad) c k) (n - k) (c - k)) W := by
  have hu : Try.prog.underlying 22 = some (.slice (Try.prog.elem 22)) := by kernel_rfl
  have hsz : ((sizeOf (Try.prog.elem 22)).run Try.prog W) = .ok 1 W := by
    obtain ⟨i, hi, _, h1, _⟩ := info_parts B8.u8_info
    simp [sizeOf, typeInfo, show Try.prog.elem 22 = 5 by kernel_rfl, hi, h1]
  have := run_slice_l W 22 (some ad) n c hu .i64 (k : Int) (by omega) (by omega)
  rw [run_sliceAt_slice W _ _ _ _ _ hu, this, hsz]
  simp [Result.andThen, sliced, fromA]

/-- Tensors in a row of the call's own, and bytes that lie behind in memory. -/
def RetTk (A0 : Option Addr) (bs : List Int) (V : List T × List Int) (w : World) (e : Ending) (w' : World) : Prop :=
  ∃ A c D d, e = .returned (.tuple #[.slice A V.1.length c, .slice D V.2.length d]) ∧ OwnT w.heap.size w' (.slice A V.1.length c) V.1 ∧ (∀ W, B8.Rd W A0 bs → B8.Rd W D V.2) ∧ V.2.length ≤ d ∧ d ≤ 9223372036854775807 ∧ Kp w w'
set_option maxRecDepth 100000 in
theorem taken_any (A : Option Addr) (c m : Nat) (bs : List Int) (w : World) (hR : B8.Rd w A bs) (hc1 : bs.length ≤ c) (hc2 : c ≤ 9223372036854775807) (hb : Bytes bs) (hbl : bs.length ≤ 200000) (hm : m ≤ 200000) :
    Calls Try.prog 27 #[.slice A bs.length c, .int .i64 (m : Int)] w (RetTk A bs (tknV m bs) w) := by
  obtain ⟨V, hV⟩ : ∃ V, V = tknV m bs := ⟨_, rfl⟩
  have H0 : Hid (Rm V [] m bs) := by show Rm _ _ _ _; rw [hV]; exact rm_start _ _
  rw [← hV]
  have HRd := Lib.hid hR
  have HBy := Lib.hid hb
  have HAH : Hid (∀ (D : Option Addr) (d n q : Nat) (W : World), n ≤ d → d ≤ 9223372036854775807 → q = min n 4 → Calls Try.prog 42 #[.slice D n d, .int .i64 4] W fun e w' => e = .returned (.slice D q d) ∧ W = w') := fun D d n q W h1 h2 h3 => ahead_any D d n 4 q W h1 h2 (by omega) h3
  have HA8 : Hid (∀ (D : Option Addr) (d n q : Nat) (W : World), n ≤ d → d ≤ 9223372036854775807 → q = min n 8 → Calls Try.prog 42 #[.slice D n d, .int .i64 8] W fun e w' => e = .returned (.slice D q d) ∧ W = w') := fun D d n q W h1 h2 h3 => ahead_any D d n 8 q W h1 h2 (by omega) h3
  have HCK : Hid (∀ (P : Option Addr) (a : Nat) (s : List Int) (W : World), Rd W P s → Calls Try.prog 34 #[.slice P s.length a] W fun e w' => e = .returned (.bool (okS s)) ∧ W = w') := fun P a s W h => check_any P a s W h
  have HSZ : Hid (∀ (P : Option Addr) (a : Nat) (s : List Int) (W : World), Rd W P s → Calls Try.prog 35 #[.slice P s.length a] W fun e w' => e = .returned (.int .i64 (sizeV s)) ∧ W = w') := fun P a s W h => size_any P a s W h
  clear hV hR hb
  go_enter Try.func27, Try.ntmps27
  go_wp2
  go_step3
  go_wp2
  go_step3
  go_wp2
  go_loopw [0, 6] (fun v q wx => ∃ (n : Nat) (D : Option Addr) (d : Nat) (rest : List Int) (done : List T) (E : Option Addr) (f : Nat), v = .slice D rest.length d ∧ q = .slice E done.length f ∧ Hid (done.length + n = m) ∧ Hid (done.length + rest.length ≤ bs.length) ∧ Hid (Rm V done n rest) ∧ Hid (Bytes rest ∧ rest.length ≤ 200000 ∧ rest.length ≤ d ∧ d ≤ 9223372036854775807) ∧ Hid (∀ V, B8.Rd V A bs → B8.Rd V D rest) ∧ Hid (OwnT w.heap.size wx (.slice E done.length f) done) ∧ Hid (Kp w wx)) (fun v _ _ => lenOf v)
  case atStart => exact ⟨m, A, c, bs, [], none, 0, rfl, rfl, (by show 0 + m = m; omega), (by show 0 + bs.length ≤ bs.length; omega), H0.out, ⟨HBy.out, hbl, hc1, hc2⟩, fun _ h => h, OwnT.nil_ _ _, Kp.refl _⟩
  case round =>
    obtain ⟨n, D, d, rest, done, E, f, rfl, rfl, hn, hsum, hT, hB, hVV, hO, hK⟩ := hrel
    by_cases hj : done.length < m
    · have hj' : (done.length : Int) < (m : Int) := by omega
      obtain ⟨p, hp⟩ : ∃ p, n = p + 1 := ⟨n - 1, by have := hn.out; omega⟩
      rw [hp] at hT
      have HP := Lib.hid hp
      obtain ⟨c4, hc4⟩ : ∃ c4, c4 = rest.take 4 := ⟨_, rfl⟩
      have hl4 : c4.length = min rest.length 4 := by rw [hc4, List.length_take]; omega
      have HAC := Lib.hid (HAH.out D d rest.length c4.length wr hB.out.2.2.1 hB.out.2.2.2 hl4)
      have hR4 : B8.Rd wr D c4 := by rw [hc4]; exact (hVV.out _ (HRd.out.kp hK.out)).take_ 4
      have hb4 : Bytes c4 := by rw [hc4]; exact fun x hx => hB.out.1 x (List.mem_of_mem_take hx)
      obtain ⟨s, v, er, hs⟩ : ∃ s v er, takeListV c4 1 = (s, v, er) := ⟨_, _, _, rfl⟩
      have hs2 := hs
      rw [hc4] at hs2
      by_cases hg : er = 0 ∧ okS s = true
      · obtain ⟨he, hok⟩ := hg
        subst he
        have hok3 := ok_len hok
        obtain ⟨hy1, hy2⟩ := head_yes hB.out.1 hs2
        have hHT := head_take hB.out.1 hs2 hok
        obtain ⟨cnt, hcnt, hcnt2⟩ : ∃ cnt : Nat, (cnt : Int) = sizeV s ∧ cnt ≤ 64 := by
          have h1 := ok_prod hok
          rw [← size_ok hok] at h1
          exact ⟨(sizeV s).toNat, by omega, by omega⟩
        obtain ⟨L, hL⟩ : ∃ L, L = 1 + s.length := ⟨_, rfl⟩
        rw [← hL] at hHT hy2
        rw [show (sizeV s).toNat = cnt by omega] at hHT
        obtain ⟨b0, hb0⟩ : ∃ b0, b0 = rest.drop L := ⟨_, rfl⟩
        obtain ⟨o, ho⟩ : ∃ o, o = manyV 8 cnt b0 := ⟨_, rfl⟩
        rw [← hb0, ← ho] at hHT
        have HHT := Lib.hid hHT
        have HTL := Lib.hid (takeList_yes D d c4 s v wr hR4 (by have := hB.out.2.2.1; omega) hB.out.2.2.2 (by omega) hb4 hs)
        have HC : Hid (∀ (P : Option Addr) (a : Nat) (W : World), Rd W P s → Calls Try.prog 34 #[.slice P s.length a] W fun e w' => e = .returned (.bool true) ∧ W = w') := fun P a W h => by
          have := HCK.out P a s W h
          rw [hok] at this; exact this
        have HS : Hid (∀ (P : Option Addr) (a : Nat) (W : World), Rd W P s → Calls Try.prog 35 #[.slice P s.length a] W fun e w' => e = .returned (.int .i64 (cnt : Int)) ∧ W = w') := fun P a W h => by rw [hcnt]; exact HSZ.out P a s W h
        obtain ⟨ad, hD, _, _⟩ := (hVV.out wr (HRd.out.kp hK.out)).2 (by omega)
        subst hD
        have hbl0 : b0.length = rest.length - L := by rw [hb0, List.length_drop]
        have hsl := fun W => run_from W ad rest.length d L hy2 hB.out.2.2.1
        have HVB : Hid (∀ V, B8.Rd V A bs → B8.Rd V (fromA (some ad) d L) b0) := fun V h => by rw [hb0]; exact (hVV.out V h).from_a d L hB.out.2.2.1
        have HB0 : Hid (Bytes b0 ∧ b0.length ≤ 200000 ∧ b0.length ≤ d - L ∧ d - L ≤ 9223372036854775807) := ⟨by rw [hb0]; exact fun y hy => hB.out.1 y (List.mem_of_mem_drop hy), by have := hB.out.2.1; omega, by have := hB.out.2.2.1; omega, by have := hB.out.2.2.2; omega⟩
        rw [← hbl0] at hsl
        obtain ⟨D0, hD0⟩ : ∃ D0, D0 = fromA (some ad) d L := ⟨_, rfl⟩
        obtain ⟨d0, hd0⟩ : ∃ d0, d0 = d - L := ⟨_, rfl⟩
        rw [← hD0] at hsl HVB
        rw [← hd0] at hsl HB0
        have H0 : Hid (Rl o [] b0 8 cnt) := by rw [ho]; exact rl_start _ _ _
        have HL := Lib.hid hL
        have e2 : IntKind.i64.wrap (1 + (s.length : Int)) = (L : Int) := by rw [IntKind.wrap_i64]; omega
        obtain ⟨cs, hmk, hown⟩ := mk_ cnt (by omega)
        have HOW := Lib.hid hown
        clear hown hD0 hd0 hbl0 hb0 ho hL hHT hcnt hy1 hy2 hok hs hs2 hR4 hb4 hl4 hc4 hp
        go_wp2_with fail
        refine (Hid.out HAC).mono ?_; rintro e w1 ⟨rfl, rfl⟩
        go_wp2_with fail
        refine (Hid.out HTL).mono ?_; rintro e w1 ⟨P, a, R, r, rfl, o1, k1⟩
        have K1 := Lib.hid k1
        have O1 := Lib.hid o1
        have R1 := Lib.hid (own_rdn o1)
        clear k1 o1 HTL HAC
        go_wp2_with fail
        refine (HC.out P a _ R1.out).mono ?_; rintro e w2 ⟨rfl, rfl⟩
        go_wp2_with fail
        refine (HS.out P a _ R1.out).mono ?_; rintro e w2 ⟨rfl, rfl⟩
        have HO2 := Lib.hid (HOW.out w1 wr.heap.size K1.out.size)
        have HK2 : Hid (Kp w1 (w1.alloc (.cells cs 3))) := Kp.alloc_ _ _
        have hge : Hid (wr.heap.size ≤ w1.heap.size) := K1.out.size
        obtain ⟨G, hG⟩ : ∃ G, G = w1.heap.size := ⟨_, rfl⟩
        have hGH : Hid (wr.heap.size ≤ G) := by show _ ≤ G; rw [hG]; exact hge.out
        rw [← hG] at HO2
        have hGW : Hid (w1.heap.size = G) := hG.symm
        obtain ⟨W2, hW2⟩ : ∃ W2, W2 = w1.alloc (.cells cs 3) := ⟨_, rfl⟩
        rw [← hW2] at HO2 HK2
        have HW2 := Lib.hid hW2
        clear hG hge hW2
        go_wp2
        rw [hGW.out, ← HW2.out]
        obtain ⟨wo, hwo⟩ : ∃ wo, wo = wr := ⟨_, rfl⟩
        subst hwo
        go_loopw [10, 45] (fun v i wx => ∃ (k : Nat) (D : Option Addr) (d : Nat) (left nums : List Int), v = .slice D left.length d ∧ i = .int .i64 (k : Int) ∧ Hid (k ≤ cnt) ∧ Hid (nums.length = k) ∧ Hid (Rl o nums left 8 (cnt - k)) ∧ Hid (Bytes left ∧ left.length ≤ 200000 ∧ left.length ≤ d ∧ d ≤ 9223372036854775807) ∧ Hid (∀ V, B8.Rd V A bs → B8.Rd V D left) ∧ Hid (Own wo.heap.size wx (.slice (some ⟨G, 0, none⟩) cnt cnt) (nums ++ List.replicate (cnt - k) 0)) ∧ Hid (Kp w1 wx)) (fun _ i _ => cnt - (intOf i).toNat)
        case atStart => exact ⟨0, D0, d0, b0, [], rfl, rfl, Nat.zero_le _, rfl, H0.out, HB0.out, HVB.out, HO2.out, HK2.out⟩
        case round =>
          obtain ⟨k, D5, d5, left, nums, rfl, rfl, hk, hnl, hTi, hBi, hVi, hOw, hKi⟩ := hrel
          have hK5 := Lib.hid (K1.out.tr hKi.out)
          have hR5 := Lib.hid (hVi.out wr (HRd.out.kp (hK.out.tr hK5.out)))
          by_cases hj2 : k < cnt
          · have hj2' : (k : Int) < (cnt : Int) := by omega
            obtain ⟨p2, hp2⟩ : ∃ p2, cnt - k = p2 + 1 := ⟨cnt - k - 1, by omega⟩
            rw [hp2] at hTi hOw
            by_cases hq : 8 ≤ left.length
            · have HAC := Lib.hid (HA8.out D5 d5 left.length 8 wr hBi.out.2.2.1 hBi.out.2.2.2 (by omega))
              have HN := Lib.hid (num_yes D5 d5 left wr hR5.out hBi.out.2.2.1 hBi.out.2.2.2 hBi.out.1 hq)
              have HT2 := Lib.hid (rl_step hTi.out hq)
              obtain ⟨x, hx⟩ : ∃ x, x = PkM.asInt (valL (left.take 8)) := ⟨_, rfl⟩
              rw [← hx] at HN HT2
              obtain ⟨ad5, hD5, _, _⟩ := hR5.out.2 (by omega)
              subst hD5
              have hsl8 : ∀ W, (Instr.sliceAt 22 (.slice (some ad5) left.length d5) (some (.int .i64 8)) none none).run Try.prog W = .ok (.slice (fromA (some ad5) d5 8) (left.length - 8) (d5 - 8)) W := fun W => run_from W ad5 left.length d5 8 hq hBi.out.2.2.1
              have HVB2 : Hid (∀ V, B8.Rd V A bs → B8.Rd V (fromA (some ad5) d5 8) (left.drop 8)) := fun V h => (hVi.out V h).from_a d5 8 hBi.out.2.2.1
              have HB2 : Hid (Bytes (left.drop 8) ∧ (left.drop 8).length ≤ 200000 ∧ (left.drop 8).length ≤ d5 - 8 ∧ d5 - 8 ≤ 9223372036854775807) := ⟨fun y hy => hBi.out.1 y (List.mem_of_mem_drop hy), by rw [List.length_drop]; have := hBi.out.2.1; omega, by rw [List.length_drop]; have := hBi.out.2.2.1; omega, by have := hBi.out.2.2.2; omega⟩
              rw [← List.length_drop] at hsl8
              obtain ⟨left2, hl2⟩ : ∃ left2, left2 = left.drop 8 := ⟨_, rfl⟩
              obtain ⟨D6, hD6⟩ : ∃ D6, D6 = fromA (some ad5) d5 8 := ⟨_, rfl⟩
              obtain ⟨d6, hd6⟩ : ∃ d6, d6 = d5 - 8 := ⟨_, rfl⟩
              rw [← hl2, ← hD6, ← hd6] at hsl8
              rw [← hl2, ← hD6] at HVB2
              rw [← hl2, ← hd6] at HB2
              rw [← hl2] at HT2
              clear hx hl2 hD6 hd6
              go_wp2_with fail
              refine (Hid.out HAC).mono ?_; rintro e w5 ⟨rfl, rfl⟩
              go_wp2_with fail
              refine (Hid.out HN).mono ?_; rintro e w5 ⟨A9, c9, rfl, _, _, k5⟩
              have K5 := Lib.hid (hKi.out.tr k5)
              have hO5 := Lib.hid (hOw.out.kp k5)
              have hx0 : (nums ++ List.replicate (p2 + 1) 0)[k]? = some (0 : Int) := by rw [← hnl.out, List.getElem?_append_right (Nat.le_refl _), Nat.sub_self]; rfl
              have e1 := hO5.out.cell_ (j := k) hx0
              have e2 := hO5.out.froz_ k
              have hkc : Hid (k ≤ cnt) := hk
              clear k5 HAC HN hx0
              go_wp2
              go_region
              have HO6 := Lib.hid (hO5.out.set_ k x).drew
              rw [← hnl.out, fill_set, hnl.out] at HO6
              have HK6 : Hid (Kp w1 ((w5.setCell ⟨G, k, none⟩ (.int .i64 x)).drew)) := by
                have h1 : Below w1.heap.size w1 (w5.setCell ⟨G, k, none⟩ (.int .i64 x)) := Below.setCell K5.out (by rw [hGW.out]; exact Nat.le_refl _) _
                exact Kp.tr h1 (Kp.drewN_ _ 1)
              have hp3 : cnt - (k + 1) = p2 := by omega
              go_wp2
              go_roundw
              case rel => exact ⟨k + 1, D6, d6, left2, nums ++ [x], rfl, by go_num, (by show k + 1 ≤ cnt; omega), (by show (nums ++ [x]).length = k + 1; rw [List.length_append, hnl.out]; rfl), (by rw [hp3]; exact HT2.out), HB2.out, HVB2.out, (by rw [hp3]; exact HO6.out), HK6.out⟩
              case measure => simp [intOf]; omega
            · obtain ho := rl_bad hTi.out hq
              have hVe : Hid (V = (done, rest)) := rm_none hT.out (rl_none HHT.out ho)
              have HAC := Lib.hid (HA8.out D5 d5 left.length left.length wr hBi.out.2.2.1 hBi.out.2.2.2 (by omega))
              have HN := Lib.hid (num_no D5 d5 left.length left wr hR5.out hBi.out.2.2.1 hBi.out.2.2.2 hBi.out.1 hq rfl)
              clear hq ho
              go_wp2_with fail
              refine (Hid.out HAC).mono ?_; rintro e w5 ⟨rfl, rfl⟩
              go_wp2_with fail
              refine (Hid.out HN).mono ?_; rintro e w5 ⟨A9, c9, rfl, _, _, k5⟩
              have K5 := Lib.hid (hK5.out.tr k5)
              have O5 := Lib.hid (hO.out.kp K5.out)
              have K9 := Lib.hid (hK.out.tr K5.out)
              clear k5 HAC HN
              go_wp2
              try rw [Exit.noGoto_ret]
              go_ret2
              rw [hVe.out]
              exact ⟨E, f, some ad, d, rfl, O5.out, hVV.out, hB.out.2.2.1, hB.out.2.2.2, K9.out⟩
          · have hj2' : ¬ (k : Int) < (cnt : Int) := by omega
            obtain rfl : k = cnt := by have := hk.out; omega
            rw [Nat.sub_self] at hTi hOw
            have hOw2 : Hid (Own wo.heap.size wr (.slice (some ⟨G, 0, none⟩) k k) nums) := by show Own _ _ _ _; have := hOw.out; simpa using this
            have hIT : itakeO rest = some ((s, nums), left) := rl_take HHT.out (rl_end hTi.out)
            have HT2 := Lib.hid (rm_some hT.out hIT)
            obtain ⟨hl1, hl2⟩ := take_less hB.out.1 hIT
            have HL2 := Lib.hid hl2
            have hE2 := Lib.hid (hO.out.kp hK5.out)
            have hO3 := Lib.hid (O1.out.kp hKi.out)
            have ap1 := Lib.hid (ap_own hO.out O1.out)
            have ap2 := Lib.hid (ap_own hO.out hOw2.out)
            have hnn : nums.length = k := hnl.out
            have hTR : Hid (TR wr P s (some ⟨G, 0, none⟩) nums) := ⟨own_rdn hO3.out, own_rdn hOw2.out⟩
            have hO6 := Lib.hid (hE2.out.kp (Kp.alloc_ wr (.cells #[.slice P s.length a, .slice (some ⟨G, 0, none⟩) nums.length k] 26)))
            have hR6 : Hid (RdX (wr.alloc (.cells #[.slice P s.length a, .slice (some ⟨G, 0, none⟩) nums.length k] 26)) (fun k => (Value.slice E done.length f).ownBlock ≠ some k) (some ⟨wr.heap.size, 0, none⟩) [(s, nums)]) := RdX.one (t := (s, nums)) hTR.out ap1.out ap2.out _
            rw [hnn] at hO6 hR6
            have hs6 : Hid (w.heap.size ≤ (wr.alloc (.cells #[.slice P s.length a, .slice (some ⟨G, 0, none⟩) k k] 26)).heap.size) := ((hK.out.tr hK5.out).al _).size
            clear hl1 hl2 hIT hnn
            go_wp2_with (at_builtin; go_loud (refine wpList_appT rfl (.tmp 64) (.tmp 68) rfl _ done rfl hO6.out _ 1 [(s, nums)] 1 rfl rfl hR6.out (by have := hsum.out; simp; omega) hs6.out ?_; intro z1 A1 c1 w6 HZ o6 b6 _; have K6 : Hid (Kp w w6) := (((hK.out.tr hK5.out).al _).trans b6); have O6 := Lib.hid o6; clear o6 b6))
            go_roundw
            case rel => exact ⟨p, D5, d5, left, z1, A1, c1, rfl, rfl, (by show z1.length + p = m; rw [HZ.out, List.length_append]; have := hn.out; have := HP.out; simp; omega), (by show z1.length + left.length ≤ bs.length; rw [HZ.out, List.length_append]; have := HL2.out; have := hsum.out; simp; omega), (by rw [HZ.out]; exact HT2.out), ⟨hBi.out.1, hBi.out.2.1, hBi.out.2.2.1, hBi.out.2.2.2⟩, hVi.out, O6.out, K6.out⟩
            case measure => show left.length < rest.length; have := HL2.out; omega
      · have hno := head_none hB.out.1 hs2 hg
        have hVe : Hid (V = (done, rest)) := rm_none hT.out hno
        have HTL := Lib.hid (pkc.takeList D d c4.length c4 1 s v er s.length v.length wr hR4 (by have := hB.out.2.2.1; omega) hB.out.2.2.2 (by omega) hb4 (by unfold I64; omega) rfl hs rfl rfl)
        by_cases he : er = 0
        · subst he
          have hok : okS s = false := by
            cases e : okS s with
            | false => rfl
            | true => exact absurd ⟨rfl, e⟩ hg
          have HC : Hid (∀ (P : Option Addr) (a : Nat) (W : World), Rd W P s → Calls Try.prog 34 #[.slice P s.length a] W fun e w' => e = .returned (.bool false) ∧ W = w') := fun P a W h => by
            have := HCK.out P a s W h
            rw [hok] at this; exact this
          clear hok hno hg hs hs2 hR4 hb4 hl4 hc4 hp
          go_wp2_with fail
          refine (Hid.out HAC).mono ?_; rintro e w1 ⟨rfl, rfl⟩
          go_wp2_with fail
          refine (Hid.out HTL).mono ?_; rintro e w1 ⟨P, a, R, r, rfl, r1, _, _, k1⟩
          have K1 := Lib.hid (hK.out.tr k1)
          have O1 := Lib.hid (hO.out.kp k1)
          clear k1 HTL HAC
          go_wp2_with fail
          refine (HC.out P a _ r1.out).mono ?_; rintro e w2 ⟨rfl, rfl⟩
          go_wp2
          try rw [Exit.noGoto_ret]
          go_ret2
          rw [hVe.out]
          exact ⟨E, f, D, d, rfl, O1.out, hVV.out, hB.out.2.2.1, hB.out.2.2.2, K1.out⟩
        · have he' : (er != 0) = true := by simpa using he
          clear he hno hg hs hs2 hR4 hb4 hl4 hc4 hp
          go_wp2_with fail
          refine (Hid.out HAC).mono ?_; rintro e w1 ⟨rfl, rfl⟩
          go_wp2_with fail
          refine (Hid.out HTL).mono ?_; rintro e w1 ⟨P, a, R, r, rfl, r1, _, _, k1⟩
          have K1 := Lib.hid (hK.out.tr k1)
          have O1 := Lib.hid (hO.out.kp k1)
          clear k1 HTL HAC
          go_wp2
          try rw [Exit.noGoto_ret]
          go_ret2
          rw [hVe.out]
          exact ⟨E, f, D, d, rfl, O1.out, hVV.out, hB.out.2.2.1, hB.out.2.2.2, K1.out⟩
    · have hj' : ¬ (done.length : Int) < (m : Int) := by omega
      obtain rfl : n = 0 := by have := hn.out; omega
      have hVe : Hid (V = (done, rest)) := rm_zero hT.out
      go_wp2
      try rw [Exit.noGoto_ret]
      go_ret2
      rw [hVe.out]
      exact ⟨E, f, D, d, rfl, hO.out, hVV.out, hB.out.2.2.1, hB.out.2.2.2, hK.out⟩
end Go.Proofs.Ytlbnbamgfffahaa
