/- The document's layer 11: Node whole. -/
import Derived.Test.YtnkkkpanlnencaaR11E
import Derived.Test.YtnkkkpanlnencaaR11H
namespace Go.Proofs.Ytnkkkpanlnencaa
open Go.RowKit Go.Proofs.ShM Go.Proofs.GrM Go.Proofs.InM
set_option linter.unusedVariables false
set_option maxHeartbeats 4000000

theorem arity_ops {op : Int} (h : 0 ≤ arityV op) : op = 1 ∨ op = 2 ∨ op = 3 ∨ op = 10 ∨ op = 11 ∨ op = 12 ∨ op = 13 ∨ op = 30 ∨ op = 43 ∨ op = 20 ∨ op = 21 ∨ op = 22 ∨ op = 23 ∨ op = 40 ∨ op = 41 ∨ op = 42 ∨ op = 50 ∨ op = 51 ∨ op = 52 := by
  unfold arityV at h
  split at h
  · omega
  · split at h
    · omega
    · split at h <;> omega
theorem nums_one {op : Int} {a nums : List Int} (h : numsB (op, a, nums) = true) (ho : op = 43 ∨ 50 ≤ op) : ∃ x, nums = [x] := by
  simp only [numsB] at h
  rw [if_neg (by omega), if_neg (by omega), if_neg (by omega), if_pos (by omega)] at h
  have h : nums.length = 1 := by simpa using h
  match nums, h with
  | [x], _ => exact ⟨x, rfl⟩
theorem nums_three {a nums : List Int} (h : numsB (42, a, nums) = true) : ∃ x f t, nums = [x, f, t] := by
  have h : nums.length = 3 := by simpa [numsB] using h
  match nums, h with
  | [x, f, t], _ => exact ⟨x, f, t, rfl⟩
theorem gs_one {gs : List (List Int)} (h : gs.length = 1) : ∃ a, gs = [a] := by
  match gs, h with
  | [x], _ => exact ⟨x, rfl⟩
theorem gs_two {gs : List (List Int)} (h : gs.length = 2) : ∃ a b, gs = [a, b] := by
  match gs, h with
  | [x, y], _ => exact ⟨x, y, rfl⟩
theorem node_bad1 {op : Int} {nums : List Int} {gs : List (List Int)} (h : ¬ (aloneB op nums = true ∧ (gs.length : Int) = arityV op ∧ gs.all okS = true)) : nodeV op nums gs = ([], 20) := by unfold nodeV; rw [if_neg h]
theorem node_good {op : Int} {nums : List Int} {gs : List (List Int)} (h : aloneB op nums = true ∧ (gs.length : Int) = arityV op ∧ gs.all okS = true) : nodeV op nums gs = kindV op nums (gs.getD 0 []) (gs.getD 1 []) := by unfold nodeV; rw [if_pos h]
theorem w64_s {s : List Int} (h : okS s = true) : ∀ u ∈ s, 1 ≤ u ∧ u ≤ 16 := fun u hu => sideB_iff.1 (List.all_eq_true.1 (ok_iff.1 h).2.1 u hu)

theorem rnode11 (X : Nat → Prop) (t : Nd) (P Q : Option Addr) (c d : Nat) (A : Option Addr) (e : Nat) (gs : List (List Int)) (w : World) (hQ : Rd w Q t.2.2) (hd : t.2.2.length ≤ d ∧ d ≤ 9223372036854775807) (XQ : ∀ ad, Q = some ad → 0 < t.2.2.length → X ad.block) (hN : ∀ x ∈ t.2.2, -9223372036854775808 ≤ x ∧ x ≤ 9223372036854775807) (HG : RdLX w X A gs) :
    Calls Try.prog 12 #[ndV t P c Q d, .slice A gs.length e] w (RetM X (nodeV t.1 t.2.2 gs) w) := by
  obtain ⟨op, la, nums⟩ := t
  have hQ : Rd w Q nums := hQ
  have hd : nums.length ≤ d ∧ d ≤ 9223372036854775807 := hd
  have XQ : ∀ ad, Q = some ad → 0 < nums.length → X ad.block := XQ
  have hN : ∀ x ∈ nums, -9223372036854775808 ≤ x ∧ x ≤ 9223372036854775807 := hN
  show Calls Try.prog 12 #[.agg #[.int .i64 op, .slice P la.length c, .slice Q nums.length d], .slice A gs.length e] w (RetM X (nodeV op nums gs) w)
  have HN := nc_mk (op := op) (P := P) (n := la.length) (c := c) hQ rfl hd
  have hml : nums.length ≤ 9223372036854775807 := hQ.len
  cases hal : aloneB op nums with
  | false =>
    rw [node_bad1 (by rw [hal]; simp)]
    rw [hal] at HN
    exact rnode_b1 X P Q la.length c nums.length d A gs.length e gs w hml HG rfl op _ HN
  | true =>
    rw [hal] at HN
    by_cases hl : (gs.length : Int) = arityV op
    · rw [← hl] at HN
      cases hok : gs.all okS with
      | false =>
        rw [node_bad1 (by rw [hok]; simp)]
        exact rnode_b3 X P Q la.length c nums.length d A gs.length e gs w hml HG rfl op HN hok
      | true =>
        rw [node_good ⟨hal, hl, hok⟩]
        obtain ⟨g1, g2⟩ := alone_iff.1 hal
        rcases arity_ops g1 with rfl | rfl | rfl | rfl | rfl | rfl | rfl | rfl | rfl | rfl | rfl | rfl | rfl | rfl | rfl | rfl | rfl | rfl | rfl
        · exact rnode_1 X P Q la.length c nums.length d A gs.length e gs w hml HG rfl HN hok nums hQ rfl hd XQ
        · obtain ⟨p, s, rfl, _, _, _⟩ := nums_2 g2
          obtain ⟨aq, rfl, _, _⟩ := rd_1 hQ
          have hd' : s.length + 1 ≤ d ∧ d ≤ 9223372036854775807 := hd
          refine rnode_2 X P (some aq) la.length c (p :: s).length d A gs.length e gs w hml HG rfl HN hok s (tailA (some aq) d) s.length (d - 1) (fun W => ?_) (hQ.tail_ hd'.1) rfl ⟨by omega, by omega⟩ (fun ad h h' => ?_)
          · have h := run_tail W aq (p :: s).length d (by simp)
            simpa using h
          · obtain ⟨bl, hbl⟩ : ∃ bl, bl = aq.block := ⟨_, rfl⟩
            have : ad.block = aq.block := by
              unfold tailA at h
              split at h
              · injection h with h; rw [h]
              · injection h with h; rw [← h, block_of_add]
            rw [this]
            exact XQ aq rfl (by simp)
        · exact rnode_3 X P Q la.length c nums.length d A gs.length e gs w hml HG rfl HN hok
        · obtain ⟨a, b, rfl⟩ := gs_two (gs := gs) (by have : (gs.length : Int) = 2 := hl.trans (by decide); omega)
          obtain ⟨ad, Pa, ca, Pb, cb, rfl, hlt, h0, h1, ra, rb, l1, l2, l3, l4⟩ := rdl_2 HG
          exact rnode_10 X P Q la.length c nums.length d (some ad) _ e [a, b] w hml HG rfl HN hok ad rfl hlt a b Pa Pb ca cb h0 h1 ra rb rfl
        · obtain ⟨a, b, rfl⟩ := gs_two (gs := gs) (by have : (gs.length : Int) = 2 := hl.trans (by decide); omega)
          obtain ⟨ad, Pa, ca, Pb, cb, rfl, hlt, h0, h1, ra, rb, l1, l2, l3, l4⟩ := rdl_2 HG
          exact rnode_11 X P Q la.length c nums.length d (some ad) _ e [a, b] w hml HG rfl HN hok ad rfl hlt a b Pa Pb ca cb h0 h1 ra rb rfl
        · obtain ⟨a, b, rfl⟩ := gs_two (gs := gs) (by have : (gs.length : Int) = 2 := hl.trans (by decide); omega)
          obtain ⟨ad, Pa, ca, Pb, cb, rfl, hlt, h0, h1, ra, rb, l1, l2, l3, l4⟩ := rdl_2 HG
          exact rnode_12 X P Q la.length c nums.length d (some ad) _ e [a, b] w hml HG rfl HN hok ad rfl hlt a b Pa Pb ca cb h0 h1 ra rb rfl
        · obtain ⟨a, b, rfl⟩ := gs_two (gs := gs) (by have : (gs.length : Int) = 2 := hl.trans (by decide); omega)
          obtain ⟨ad, Pa, ca, Pb, cb, rfl, hlt, h0, h1, ra, rb, l1, l2, l3, l4⟩ := rdl_2 HG
          exact rnode_13 X P Q la.length c nums.length d (some ad) _ e [a, b] w hml HG rfl HN hok ad rfl hlt a b Pa Pb ca cb h0 h1 ra rb rfl
        · obtain ⟨a, b, rfl⟩ := gs_two (gs := gs) (by have : (gs.length : Int) = 2 := hl.trans (by decide); omega)
          obtain ⟨ad, Pa, ca, Pb, cb, rfl, hlt, h0, h1, ra, rb, l1, l2, l3, l4⟩ := rdl_2 HG
          exact rnode_m X P Q la.length c nums.length d (some ad) _ e [a, b] w hml HG rfl 30 HN hok (by decide) (by decide) (by decide) (by decide) (by decide) (by decide) (by decide) (by decide) (by decide) (by decide) (by decide) (by decide) (by decide) (tableV a b) (fun V k => rmore_30 X P Q la.length c nums.length d (some ad) _ e a b V ad rfl (Nat.lt_of_lt_of_le hlt k.size) (by show (1 : Int) < 2; decide) Pa Pb ca cb ((k.cell hlt).trans h0) ((k.cell (p := ⟨ad.block, ad.off + 1, none⟩) hlt).trans h1) (ra.kp k) (rb.kp k) _ rfl)
        · obtain ⟨a, b, rfl⟩ := gs_two (gs := gs) (by have : (gs.length : Int) = 2 := hl.trans (by decide); omega)
          obtain ⟨ad, Pa, ca, Pb, cb, rfl, hlt, h0, h1, ra, rb, l1, l2, l3, l4⟩ := rdl_2 HG
          have hoa : okS a = true := ok_getD hok 0
          have hob : okS b = true := ok_getD hok 1
          obtain ⟨x, rfl⟩ := nums_one g2 (.inl rfl)
          cases hx : axisB a x with
          | false =>
            rw [show kindV 43 [x] ([a, b].getD 0 []) ([a, b].getD 1 []) = ([], 20) by show (if axisB a x = false then (([], 20) : Sh) else _) = _; rw [if_pos hx]]
            exact rnode_m X P Q la.length c _ d (some ad) _ e [a, b] w hml HG rfl 43 HN hok (by decide) (by decide) (by decide) (by decide) (by decide) (by decide) (by decide) (by decide) (by decide) (by decide) (by decide) (by decide) (by decide) _ (fun V k => rmore_off X P Q la.length c _ d (some ad) _ e a V ad rfl (Nat.lt_of_lt_of_le hlt k.size) x _ rfl hml (hQ.kp k) Pa ca (by show (0 : Int) < 2; decide) ((k.cell hlt).trans h0) (ra.kp k) 43 (by decide) hx)
          | true =>
            obtain ⟨x0, x2⟩ := axis_iff.1 hx
            obtain ⟨k0, rfl⟩ : ∃ k0 : Nat, x = (k0 : Int) := ⟨x.toNat, by omega⟩
            have hk0 : k0 < a.length := by omega
            have ha3 : a.length ≤ 100 := by have := (ok_iff.1 hoa).1; omega
            have hy : a[k0]? = some a[k0] := List.getElem?_eq_getElem hk0
            have hy16 := w64_s hoa _ (List.mem_of_getElem? hy)
            rw [show kindV 43 [(k0 : Int)] ([a, b].getD 0 []) ([a, b].getD 1 []) = glueS a b (k0 : Int) by show (if axisB a (k0 : Int) = false then (([], 20) : Sh) else glueS a b (k0 : Int)) = _; rw [if_neg (by rw [hx]; simp)]]
            exact rnode_m X P Q la.length c _ d (some ad) _ e [a, b] w hml HG rfl 43 HN hok (by decide) (by decide) (by decide) (by decide) (by decide) (by decide) (by decide) (by decide) (by decide) (by decide) (by decide) (by decide) (by decide) _ (fun V k => rmore_43 X P Q la.length c _ d (some ad) _ e a b V ad rfl (Nat.lt_of_lt_of_le hlt k.size) (k0 : Int) _ rfl hml (hQ.kp k) Pa ca (by show (0 : Int) < 2; decide) ((k.cell hlt).trans h0) (ra.kp k) k0 rfl hk0 ha3 ⟨l1, l2⟩ (by show (1 : Int) < 2; decide) Pb cb ((k.cell (p := ⟨ad.block, ad.off + 1, none⟩) hlt).trans h1) (rb.kp k) (by have := (ok_iff.1 hob).1; omega) ⟨l3, l4⟩ _ hy hy16 (w64_s hob) _ rfl)
        · obtain ⟨a, rfl⟩ := gs_one (gs := gs) (by have : (gs.length : Int) = 1 := hl.trans (by decide); omega)
          obtain ⟨ad, Pa, ca, rfl, hlt, h0, ra, l1, l2, x1⟩ := rdl_1 HG
          have hoa : okS a = true := by simpa using hok
          exact rnode_20 X P Q la.length c nums.length d (some ad) _ e [a] w hml HG rfl HN hok ad rfl hlt a Pa ca h0 ra ⟨l1, l2⟩ x1 (by show (0 : Int) < 1; decide)
        · obtain ⟨a, rfl⟩ := gs_one (gs := gs) (by have : (gs.length : Int) = 1 := hl.trans (by decide); omega)
          obtain ⟨ad, Pa, ca, rfl, hlt, h0, ra, l1, l2, x1⟩ := rdl_1 HG
          have hoa : okS a = true := by simpa using hok
          exact rnode_21 X P Q la.length c nums.length d (some ad) _ e [a] w hml HG rfl HN hok ad rfl hlt a Pa ca h0 ra ⟨l1, l2⟩ x1 (by show (0 : Int) < 1; decide)
        · obtain ⟨a, rfl⟩ := gs_one (gs := gs) (by have : (gs.length : Int) = 1 := hl.trans (by decide); omega)
          obtain ⟨ad, Pa, ca, rfl, hlt, h0, ra, l1, l2, x1⟩ := rdl_1 HG
          have hoa : okS a = true := by simpa using hok
          exact rnode_22 X P Q la.length c nums.length d (some ad) _ e [a] w hml HG rfl HN hok ad rfl hlt a Pa ca h0 ra ⟨l1, l2⟩ x1 (by show (0 : Int) < 1; decide)
        · obtain ⟨a, rfl⟩ := gs_one (gs := gs) (by have : (gs.length : Int) = 1 := hl.trans (by decide); omega)
          obtain ⟨ad, Pa, ca, rfl, hlt, h0, ra, l1, l2, x1⟩ := rdl_1 HG
          have hoa : okS a = true := by simpa using hok
          exact rnode_23 X P Q la.length c nums.length d (some ad) _ e [a] w hml HG rfl HN hok ad rfl hlt a Pa ca h0 ra ⟨l1, l2⟩ x1 (by show (0 : Int) < 1; decide)
        · obtain ⟨a, rfl⟩ := gs_one (gs := gs) (by have : (gs.length : Int) = 1 := hl.trans (by decide); omega)
          obtain ⟨ad, Pa, ca, rfl, hlt, h0, ra, l1, l2, x1⟩ := rdl_1 HG
          have hoa : okS a = true := by simpa using hok
          exact rnode_40 X P Q la.length c nums.length d (some ad) _ e [a] w hml HG rfl HN hok ad rfl hlt a Pa ca h0 ra ⟨l1, l2⟩ x1 (by show (0 : Int) < 1; decide) nums hQ rfl hd XQ
        · obtain ⟨a, rfl⟩ := gs_one (gs := gs) (by have : (gs.length : Int) = 1 := hl.trans (by decide); omega)
          obtain ⟨ad, Pa, ca, rfl, hlt, h0, ra, l1, l2, x1⟩ := rdl_1 HG
          have hoa : okS a = true := by simpa using hok
          exact rnode_41 X P Q la.length c nums.length d (some ad) _ e [a] w hml HG rfl HN hok ad rfl hlt a Pa ca h0 ra ⟨l1, l2⟩ x1 (by show (0 : Int) < 1; decide) hoa
        · obtain ⟨a, rfl⟩ := gs_one (gs := gs) (by have : (gs.length : Int) = 1 := hl.trans (by decide); omega)
          obtain ⟨ad, Pa, ca, rfl, hlt, h0, ra, l1, l2, x1⟩ := rdl_1 HG
          have hoa : okS a = true := by simpa using hok
          obtain ⟨x, f, t, rfl⟩ := nums_three g2
          cases hx : axisB a x with
          | false =>
            rw [show kindV 42 [x, f, t] ([a].getD 0 []) ([a].getD 1 []) = ([], 20) by show (if axisB a x = false then (([], 20) : Sh) else _) = _; rw [if_pos hx]]
            exact rnode_m X P Q la.length c _ d (some ad) _ e [a] w hml HG rfl 42 HN hok (by decide) (by decide) (by decide) (by decide) (by decide) (by decide) (by decide) (by decide) (by decide) (by decide) (by decide) (by decide) (by decide) _ (fun V k => rmore_off X P Q la.length c _ d (some ad) _ e a V ad rfl (Nat.lt_of_lt_of_le hlt k.size) x _ rfl hml (hQ.kp k) Pa ca (by show (0 : Int) < 1; decide) ((k.cell hlt).trans h0) (ra.kp k) 42 (by decide) hx)
          | true =>
            obtain ⟨x0, x2⟩ := axis_iff.1 hx
            obtain ⟨k0, rfl⟩ : ∃ k0 : Nat, x = (k0 : Int) := ⟨x.toNat, by omega⟩
            have hk0 : k0 < a.length := by omega
            have ha3 : a.length ≤ 100 := by have := (ok_iff.1 hoa).1; omega
            have hy : a[k0]? = some a[k0] := List.getElem?_eq_getElem hk0
            have hy16 := w64_s hoa _ (List.mem_of_getElem? hy)
            rw [show kindV 42 [(k0 : Int), f, t] ([a].getD 0 []) ([a].getD 1 []) = partV a (k0 : Int) f t by show (if axisB a (k0 : Int) = false then (([], 20) : Sh) else partV a (k0 : Int) f t) = _; rw [if_neg (by rw [hx]; simp)]]
            exact rnode_m X P Q la.length c _ d (some ad) _ e [a] w hml HG rfl 42 HN hok (by decide) (by decide) (by decide) (by decide) (by decide) (by decide) (by decide) (by decide) (by decide) (by decide) (by decide) (by decide) (by decide) _ (fun V k => rmore_42 X P Q la.length c _ d (some ad) _ e a V ad rfl (Nat.lt_of_lt_of_le hlt k.size) (k0 : Int) _ rfl hml (hQ.kp k) Pa ca (by show (0 : Int) < 1; decide) ((k.cell hlt).trans h0) (ra.kp k) f t rfl (hN t (by simp)) (hN f (by simp)) k0 rfl hk0 ha3 ⟨l1, l2⟩ _ hy hy16.2 _ rfl)
        · obtain ⟨a, rfl⟩ := gs_one (gs := gs) (by have : (gs.length : Int) = 1 := hl.trans (by decide); omega)
          obtain ⟨ad, Pa, ca, rfl, hlt, h0, ra, l1, l2, x1⟩ := rdl_1 HG
          have hoa : okS a = true := by simpa using hok
          obtain ⟨x, rfl⟩ := nums_one g2 (.inr (by omega))
          cases hx : axisB a x with
          | false =>
            rw [show kindV 50 [x] ([a].getD 0 []) ([a].getD 1 []) = ([], 20) by show (if axisB a x = false then (([], 20) : Sh) else _) = _; rw [if_pos hx]]
            exact rnode_m X P Q la.length c _ d (some ad) _ e [a] w hml HG rfl 50 HN hok (by decide) (by decide) (by decide) (by decide) (by decide) (by decide) (by decide) (by decide) (by decide) (by decide) (by decide) (by decide) (by decide) _ (fun V k => rmore_off X P Q la.length c _ d (some ad) _ e a V ad rfl (Nat.lt_of_lt_of_le hlt k.size) x _ rfl hml (hQ.kp k) Pa ca (by show (0 : Int) < 1; decide) ((k.cell hlt).trans h0) (ra.kp k) 50 (by decide) hx)
          | true =>
            obtain ⟨x0, x2⟩ := axis_iff.1 hx
            obtain ⟨k0, rfl⟩ : ∃ k0 : Nat, x = (k0 : Int) := ⟨x.toNat, by omega⟩
            have hk0 : k0 < a.length := by omega
            have ha3 : a.length ≤ 100 := by have := (ok_iff.1 hoa).1; omega
            have hy : a[k0]? = some a[k0] := List.getElem?_eq_getElem hk0
            have hy16 := w64_s hoa _ (List.mem_of_getElem? hy)
            rw [show kindV 50 [(k0 : Int)] ([a].getD 0 []) ([a].getD 1 []) = (a.eraseIdx k0, 0) by show (if axisB a (k0 : Int) = false then (([], 20) : Sh) else (a.eraseIdx (k0 : Int).toNat, 0)) = _; rw [if_neg (by rw [hx]; simp)]; rfl]
            exact rnode_m X P Q la.length c _ d (some ad) _ e [a] w hml HG rfl 50 HN hok (by decide) (by decide) (by decide) (by decide) (by decide) (by decide) (by decide) (by decide) (by decide) (by decide) (by decide) (by decide) (by decide) _ (fun V k => rmore_50 X P Q la.length c _ d (some ad) _ e a V ad rfl (Nat.lt_of_lt_of_le hlt k.size) (k0 : Int) _ rfl hml (hQ.kp k) Pa ca (by show (0 : Int) < 1; decide) ((k.cell hlt).trans h0) (ra.kp k) 50 (by decide) (by decide) (by decide) k0 rfl hk0 ha3 ⟨l1, l2⟩)
        · obtain ⟨a, rfl⟩ := gs_one (gs := gs) (by have : (gs.length : Int) = 1 := hl.trans (by decide); omega)
          obtain ⟨ad, Pa, ca, rfl, hlt, h0, ra, l1, l2, x1⟩ := rdl_1 HG
          have hoa : okS a = true := by simpa using hok
          obtain ⟨x, rfl⟩ := nums_one g2 (.inr (by omega))
          cases hx : axisB a x with
          | false =>
            rw [show kindV 51 [x] ([a].getD 0 []) ([a].getD 1 []) = ([], 20) by show (if axisB a x = false then (([], 20) : Sh) else _) = _; rw [if_pos hx]]
            exact rnode_m X P Q la.length c _ d (some ad) _ e [a] w hml HG rfl 51 HN hok (by decide) (by decide) (by decide) (by decide) (by decide) (by decide) (by decide) (by decide) (by decide) (by decide) (by decide) (by decide) (by decide) _ (fun V k => rmore_off X P Q la.length c _ d (some ad) _ e a V ad rfl (Nat.lt_of_lt_of_le hlt k.size) x _ rfl hml (hQ.kp k) Pa ca (by show (0 : Int) < 1; decide) ((k.cell hlt).trans h0) (ra.kp k) 51 (by decide) hx)
          | true =>
            obtain ⟨x0, x2⟩ := axis_iff.1 hx
            obtain ⟨k0, rfl⟩ : ∃ k0 : Nat, x = (k0 : Int) := ⟨x.toNat, by omega⟩
            have hk0 : k0 < a.length := by omega
            have ha3 : a.length ≤ 100 := by have := (ok_iff.1 hoa).1; omega
            have hy : a[k0]? = some a[k0] := List.getElem?_eq_getElem hk0
            have hy16 := w64_s hoa _ (List.mem_of_getElem? hy)
            rw [show kindV 51 [(k0 : Int)] ([a].getD 0 []) ([a].getD 1 []) = (a.eraseIdx k0, 0) by show (if axisB a (k0 : Int) = false then (([], 20) : Sh) else (a.eraseIdx (k0 : Int).toNat, 0)) = _; rw [if_neg (by rw [hx]; simp)]; rfl]
            exact rnode_m X P Q la.length c _ d (some ad) _ e [a] w hml HG rfl 51 HN hok (by decide) (by decide) (by decide) (by decide) (by decide) (by decide) (by decide) (by decide) (by decide) (by decide) (by decide) (by decide) (by decide) _ (fun V k => rmore_50 X P Q la.length c _ d (some ad) _ e a V ad rfl (Nat.lt_of_lt_of_le hlt k.size) (k0 : Int) _ rfl hml (hQ.kp k) Pa ca (by show (0 : Int) < 1; decide) ((k.cell hlt).trans h0) (ra.kp k) 51 (by decide) (by decide) (by decide) k0 rfl hk0 ha3 ⟨l1, l2⟩)
        · obtain ⟨a, rfl⟩ := gs_one (gs := gs) (by have : (gs.length : Int) = 1 := hl.trans (by decide); omega)
          obtain ⟨ad, Pa, ca, rfl, hlt, h0, ra, l1, l2, x1⟩ := rdl_1 HG
          have hoa : okS a = true := by simpa using hok
          obtain ⟨x, rfl⟩ := nums_one g2 (.inr (by omega))
          cases hx : axisB a x with
          | false =>
            rw [show kindV 52 [x] ([a].getD 0 []) ([a].getD 1 []) = ([], 20) by show (if axisB a x = false then (([], 20) : Sh) else _) = _; rw [if_pos hx]]
            exact rnode_m X P Q la.length c _ d (some ad) _ e [a] w hml HG rfl 52 HN hok (by decide) (by decide) (by decide) (by decide) (by decide) (by decide) (by decide) (by decide) (by decide) (by decide) (by decide) (by decide) (by decide) _ (fun V k => rmore_off X P Q la.length c _ d (some ad) _ e a V ad rfl (Nat.lt_of_lt_of_le hlt k.size) x _ rfl hml (hQ.kp k) Pa ca (by show (0 : Int) < 1; decide) ((k.cell hlt).trans h0) (ra.kp k) 52 (by decide) hx)
          | true =>
            obtain ⟨x0, x2⟩ := axis_iff.1 hx
            obtain ⟨k0, rfl⟩ : ∃ k0 : Nat, x = (k0 : Int) := ⟨x.toNat, by omega⟩
            have hk0 : k0 < a.length := by omega
            have ha3 : a.length ≤ 100 := by have := (ok_iff.1 hoa).1; omega
            have hy : a[k0]? = some a[k0] := List.getElem?_eq_getElem hk0
            have hy16 := w64_s hoa _ (List.mem_of_getElem? hy)
            rw [show kindV 52 [(k0 : Int)] ([a].getD 0 []) ([a].getD 1 []) = (a.eraseIdx k0, 0) by show (if axisB a (k0 : Int) = false then (([], 20) : Sh) else (a.eraseIdx (k0 : Int).toNat, 0)) = _; rw [if_neg (by rw [hx]; simp)]; rfl]
            exact rnode_m X P Q la.length c _ d (some ad) _ e [a] w hml HG rfl 52 HN hok (by decide) (by decide) (by decide) (by decide) (by decide) (by decide) (by decide) (by decide) (by decide) (by decide) (by decide) (by decide) (by decide) _ (fun V k => rmore_50 X P Q la.length c _ d (some ad) _ e a V ad rfl (Nat.lt_of_lt_of_le hlt k.size) (k0 : Int) _ rfl hml (hQ.kp k) Pa ca (by show (0 : Int) < 1; decide) ((k.cell hlt).trans h0) (ra.kp k) 52 (by decide) (by decide) (by decide) k0 rfl hk0 ha3 ⟨l1, l2⟩)
    · rw [node_bad1 (fun h => hl h.2.1)]
      exact rnode_b2 X P Q la.length c nums.length d A gs.length e gs w hml HG rfl op _ HN hl
end Go.Proofs.Ytnkkkpanlnencaa
