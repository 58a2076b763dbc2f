/- slices.Delete and slices.Insert at []int: what they answer (the library's shelf at this program's numbers). -/
import Derived.Test.YtpglchimghnpeaaRdM
import Derived.Shelf.Slices.Delete
import Derived.Shelf.Spec.SlicesInsertGrow
namespace Go.Proofs.Ytpglchimghnpeaa
open Go.RowKit Go.Shelf Go.Proofs.ShM
set_option linter.unusedVariables false

def rof : Nat → Nat
  | 21 => 38
  | 23 => 55
  | 27 => 64
  | 28 => 65
  | 35 => 81
  | 39 => 93
  | n => n
def rot : Nat → Nat
  | 0 => 0
  | 3 => 3
  | 4 => 4
  | 22 => 22
  | n => n
def ro : Ren := ⟨rof, rot, fun g => g⟩

theorem lays23 : Lays2.n23 Try.prog ro where
  mixed := by kernel_rfl
  f23 := Try.func55.trans (congrArg some (by kernel_rfl))
  t0 := Try.underlying0
  a0 := Try.isAgg0
  z0 := Try.sizeOf0
  v0 := Try.zeroValue0
  t3 := Try.underlying3
  a3 := Try.isAgg3
  z3 := Try.sizeOf3
  v3 := Try.zeroValue3
  t4 := Try.underlying4
  a4 := Try.isAgg4
  z4 := Try.sizeOf4
  v4 := Try.zeroValue4
  t22 := Try.underlying22
  a22 := Try.isAgg22
  z22 := Try.sizeOf22
  v22 := Try.zeroValue22
  i3 := by kernel_rfl

theorem lays21 : Lays2.n21 Try.prog ro where
  mixed := by kernel_rfl
  f21 := Try.func38.trans (congrArg some (by kernel_rfl))
  f27 := Try.func64.trans (congrArg some (by kernel_rfl))
  f28 := Try.func65.trans (congrArg some (by kernel_rfl))
  f35 := Try.func81.trans (congrArg some (by kernel_rfl))
  f39 := Try.func93.trans (congrArg some (by kernel_rfl))
  t0 := Try.underlying0
  a0 := Try.isAgg0
  z0 := Try.sizeOf0
  v0 := Try.zeroValue0
  t3 := Try.underlying3
  a3 := Try.isAgg3
  z3 := Try.sizeOf3
  v3 := Try.zeroValue3
  t4 := Try.underlying4
  a4 := Try.isAgg4
  z4 := Try.sizeOf4
  v4 := Try.zeroValue4
  t22 := Try.underlying22
  a22 := Try.isAgg22
  z22 := Try.sizeOf22
  v22 := Try.zeroValue22
  i3 := by kernel_rfl

/-- A row of the call's own, its block laid open. -/
theorem Own.row {B n c : Nat} {A : Option Addr} {xs : List Int} {w : World} (h : Own B w (.slice A n c) xs) (hn : 0 < xs.length) :
    ∃ g cur, A = some ⟨g, 0, none⟩ ∧ n = xs.length ∧ B ≤ g ∧ w.heap[g]? = some (.cells cur 3 (0, 0)) ∧ n ≤ c ∧ c ≤ maxLen ∧ cur.size = c ∧ cur.toList.take n = xs.map (Value.int .i64) := by
  obtain ⟨A', c', e, _⟩ := h.form
  injection e with e1 e2 e3
  obtain ⟨h1, h2⟩ := h
  rcases h2 with ⟨e, h0⟩ | ⟨g, cap, cur, e, hb, hh, hnc, hc, hs, ht⟩
  · omega
  · injection e with f1 f2 f3
    subst f1 f3
    refine ⟨g, cur, rfl, e2, hb, hh, by omega, hc, by simpa using hs, by simpa [e2] using ht⟩

theorem below_setCells {B : Nat} {a : World} (b : Nat) (hb : B ≤ b) : ∀ (vs : List Value) (o : Nat) (w : World), Below B a w → Below B a (w.setCells b o vs)
  | [], _, _, h => h
  | v :: r, o, w, h => below_setCells b hb r (o + 1) _ (h.setCell (p := ⟨b, o, none⟩) hb v)

theorem below_putRow {B g q : Nat} {w : World} (d : Array Int) (hb : B ≤ g) : Below B w (Go.Sort.putRow (Value.int .i64) (Go.Sort.ahead w q) g 0 d) where
  os := rfl
  tape := rfl
  output := rfl
  size := by rw [Go.Sort.size_putRow]; exact Nat.le_refl _
  block := fun k hk => by
    show (Array.modify _ g _)[k]? = _
    rw [Array.getElem?_modify, if_neg (by omega)]
    rfl

theorem pdelete_any (A : Option Addr) (c B k : Nat) (xs : List Int) (w : World) (h : Own B w (.slice A xs.length c) xs) (hk : k < xs.length) (hl : xs.length ≤ 1000) :
    Calls Try.prog 55 #[.slice A xs.length c, .int .i64 (k : Int), .int .i64 ((k : Int) + 1)] w fun e w' => e = .returned (.slice A (xs.eraseIdx k).length c) ∧ Sl w' A c (xs.eraseIdx k) ∧ Below B w w' := by
  obtain ⟨g, cur, rfl, _, hB, hh, h1, h2, h3, h4⟩ := h.row (by omega)
  have hm : c ≤ 9223372036854775807 := by unfold maxLen at h2; omega
  have hH : Go.Sort.Holds (Value.int .i64) w g 0 xs.toArray := fun j hj => by
    have hj' : j < xs.length := by simpa using hj
    rw [Nat.zero_add]
    refine ⟨?_, h.froz_ j⟩
    rw [h.cell_ (u := xs[j]) (List.getElem?_eq_getElem hj')]
    simp [hj']
  have hd := Any.slices_Delete_int lays23 g 0 c k (k + 1) xs w hH h1 hm (by omega) (by omega)
  have hel : (xs.eraseIdx k).length = xs.length - 1 := List.length_eraseIdx_of_lt hk
  refine hd.mono ?_
  rintro e w' ⟨rfl, q, rfl⟩
  have hlen : (xs.take k ++ xs.drop (k + 1) ++ List.replicate (k + 1 - k) (0 : Int)).length = xs.length := by simp; omega
  have hP := Go.Sort.holds_putRow (Value.int .i64) (Go.Sort.ahead w q) g 0 xs.toArray (xs.take k ++ xs.drop (k + 1) ++ List.replicate (k + 1 - k) 0).toArray (Go.Sort.holds_ahead _ w q g 0 _ hH) (by simp only [List.size_toArray]; exact hlen)
  have hbl := below_putRow (w := w) (q := q) (xs.take k ++ xs.drop (k + 1) ++ List.replicate (k + 1 - k) (0 : Int)).toArray hB
  refine ⟨by rw [hel, show k + 1 - k = 1 by omega], ⟨⟨by rw [hel]; omega, fun hn => ⟨⟨g, 0, none⟩, rfl, ?_, fun j u hu => ?_⟩⟩, by rw [hel]; omega, hm⟩, hbl⟩
  · rw [Go.Sort.size_putRow]
    exact (Array.getElem?_eq_some_iff.1 hh).1
  · have hj : j < xs.length - 1 := by rw [← hel]; exact (List.getElem?_eq_some_iff.1 hu).1
    have := (hP j (by simp only [List.size_toArray]; rw [hlen]; omega)).1
    rw [Go.WideShapes.add_plain, this]
    congr 2
    have e1 : xs.eraseIdx k = xs.take k ++ xs.drop (k + 1) := List.eraseIdx_eq_take_drop_succ ..
    rw [e1] at hu
    have hj2 : j < (xs.take k ++ xs.drop (k + 1)).length := (List.getElem?_eq_some_iff.1 hu).1
    rw [getElem!_pos _ j (by simp only [List.size_toArray]; rw [hlen]; omega)]
    simp only [List.getElem_toArray]
    rw [List.getElem_append_left hj2]
    exact (List.getElem?_eq_some_iff.1 hu).2

/-- Cells written over, from k on x, from k + 1 on what stood from k on. -/
theorem rd_ins {w' : World} {g k c : Nat} {x : Int} {xs : List Int} (hk : k ≤ xs.length) (hl : xs.length ≤ 1000) (hg : g < w'.heap.size) (hc : xs.length + 1 ≤ c) (hc2 : c ≤ 9223372036854775807)
    (h1 : ∀ j, j < k → ∀ u, xs[j]? = some u → w'.cell? ⟨g, j, none⟩ = some (.int .i64 u)) (h2 : w'.cell? ⟨g, k, none⟩ = some (.int .i64 x)) (h3 : ∀ i u, xs[k + i]? = some u → w'.cell? ⟨g, k + 1 + i, none⟩ = some (.int .i64 u)) :
    Sl w' (some ⟨g, 0, none⟩) c (inL xs k x) := by
  refine ⟨⟨by rw [inL_len hk]; omega, fun _ => ⟨_, rfl, hg, fun j u hu => ?_⟩⟩, by rw [inL_len hk]; exact hc, hc2⟩
  rw [Go.WideShapes.add_plain, Nat.zero_add]
  rcases Nat.lt_trichotomy j k with hj | rfl | hj
  · rw [inL_lt hk hj] at hu; exact h1 j hj u hu
  · rw [inL_at hk] at hu; injection hu with hu; rw [← hu]; exact h2
  · obtain ⟨i, rfl⟩ : ∃ i, j = k + 1 + i := ⟨j - (k + 1), by omega⟩
    rw [inL_gt hk] at hu; exact h3 i u hu

theorem size_setCells (b : Nat) : ∀ (vs : List Value) (o : Nat) (w : World), (w.setCells b o vs).heap.size = w.heap.size
  | [], _, _ => rfl
  | v :: r, o, w => by rw [World.setCells, size_setCells b r]; simp [World.setCell]

theorem ints_cell {cs : List Int} {j : Nat} {u : Int} (h : cs[j]? = some u) : (cs.map (Value.int .i64))[j]? = some (.int .i64 u) := by rw [List.getElem?_map, h]; rfl
theorem ints_back {cs : List Int} {j : Nat} {v : Value} (h : (cs.map (Value.int .i64))[j]? = some v) : ∃ u, cs[j]? = some u ∧ v = .int .i64 u := by
  rw [List.getElem?_map, Option.map_eq_some_iff] at h
  obtain ⟨u, h1, h2⟩ := h
  exact ⟨u, h1, h2.symm⟩
theorem ints_one (cs : List Int) : ∀ v ∈ cs.map (Value.int .i64), v.oneCell' = true := by
  intro v hv
  obtain ⟨x, _, rfl⟩ := List.mem_map.1 hv
  rfl

/-- The answer is a list in memory that lies from B on. -/
def RetI (B : Nat) (ys : List Int) (w : World) (e : Ending) (w' : World) : Prop := ∃ A c, e = .returned (.slice A ys.length c) ∧ Sl w' A c ys ∧ Below B w w'

set_option maxHeartbeats 2000000 in
theorem pinsert_end (A : Option Addr) (c B vb : Nat) (xs : List Int) (x : Int) (w : World) (h : Own B w (.slice A xs.length c) xs) (hl : xs.length ≤ 1000) (hB : B ≤ w.heap.size)
    (hv : w.heap[vb]? = some (.cells #[.int .i64 x] 3 (0, 0))) :
    Calls Try.prog 38 #[.slice A xs.length c, .int .i64 (xs.length : Int), .slice (some ⟨vb, 0, none⟩) 1 1] w (RetI B (inL xs xs.length x) w) := by
  have HR : Hid (Rd w (some ⟨vb, 0, none⟩) [x]) := ⟨by simp, fun _ => ⟨_, rfl, (Array.getElem?_eq_some_iff.1 hv).1, fun j u hu => by
    cases j with
    | zero =>
      injection hu with hu
      subst hu
      rw [Go.WideShapes.add_plain, Nat.zero_add]
      simp [World.cell?, hv]
    | succ j => simp at hu⟩⟩
  have HO := Lib.hid h
  have HL : Hid (xs.length + 1 ≤ 1000000) := by show xs.length + 1 ≤ 1000000; omega
  have HBB : Hid (B ≤ w.heap.size) := hB
  have hr0 := h.sl
  have hc1 := hr0.le
  have hc2 := hr0.cap
  have b1 : (0 : Int) ≤ (xs.length : Int) := by omega
  have b2 : (xs.length : Int) ≤ (xs.length : Int) := by omega
  clear h hr0 hv hB hl
  go_enter Try.func38, Try.ntmps38
  go_wp2_with (at_builtin; refine wpList_app (B := B) (A := some ⟨vb, 0, none⟩) (c := 1) (ys := [x]) (n := 1) rfl (.tmp 23) (.tmp 24) rfl (.slice A xs.length c) xs rfl HO.out rfl rfl HR.out (by simpa using HL.out) HBB.out ?_; intro zs A1 c1 w1 HZ o1 bl1; have K1 := Lib.hid bl1; have R1 := Lib.hid o1; clear o1 bl1)
  all_goals
    go_ret
    have hz : zs = inL xs xs.length x := by rw [HZ.out]; unfold inL; simp
    subst hz
    exact ⟨A1, c1, rfl, R1.out.sl, K1.out⟩

theorem pinsert_shift (g c B vb k : Nat) (xs : List Int) (x : Int) (w : World) (h : Own B w (.slice (some ⟨g, 0, none⟩) xs.length c) xs) (hl : xs.length ≤ 1000) (hk : k < xs.length) (hroom : xs.length + 1 ≤ c)
    (hv : w.heap[vb]? = some (.cells #[.int .i64 x] 3 (0, 0))) (hne : vb ≠ g) :
    Calls Try.prog 38 #[.slice (some ⟨g, 0, none⟩) xs.length c, .int .i64 (k : Int), .slice (some ⟨vb, 0, none⟩) 1 1] w (RetI B (inL xs k x) w) := by
  obtain ⟨g', cur, e, _, hB, hh, h1, h2, h3, h4⟩ := h.row (by omega)
  obtain rfl : g = g' := by injection e with e; injection e
  have hm : c ≤ 9223372036854775807 := by unfold maxLen at h2; omega
  have hlt := (Array.getElem?_eq_some_iff.1 hh).1
  have hcell : ∀ j, (hj : j < c) → w.cell? ⟨g, j, none⟩ = some (cur[j]'(by omega)) := fun j hj => by simp [World.cell?, hh, show j < cur.size by omega]
  have hfr : ∀ j, w.frozen? ⟨g, j, none⟩ = false := fun j => by simp [World.frozen?, hh]
  have hcs : ∀ j v, (xs.map (Value.int .i64))[j]? = some v → w.cell? ⟨g, 0 + j, none⟩ = some v := fun j v hj => by
    obtain ⟨u, hu, rfl⟩ := ints_back hj
    rw [Nat.zero_add]; exact h.cell_ hu
  have hvs : ∀ j v, ([Value.int .i64 x])[j]? = some v → w.cell? ⟨vb, 0 + j, none⟩ = some v := fun j v hj => by
    cases j with
    | zero => injection hj with hj; subst hj; simp [World.cell?, hv]
    | succ j => simp at hj
  have hi := Any2.slices_Insert_int_shift lays21 g 0 xs.length c k vb 0 1 1 (xs.map (Value.int .i64)) [.int .i64 x] w hk (by omega) hroom hm hne (by simp) rfl hcs
    (fun j hj => by rw [Nat.zero_add, hcell j (by omega)]; rfl) (fun j _ => hfr _) hvs (ints_one xs) (by simp [Value.oneCell']) 3 3 1 c (by simp [World.shape?, hv]) (by simp [World.shape?, hh, h3]) (by omega) (by simp [World.frozen?, hv]) (by simp [World.frozen?, hv])
  refine hi.mono ?_
  rintro e w' ⟨rfl, rfl⟩
  refine ⟨_, c, by rw [inL_len (by omega)], ?_, ?_⟩
  · have hd : (List.drop k (xs.map (Value.int .i64))).length = xs.length - k := by simp
    refine rd_ins (by omega) hl ?_ hroom hm (fun j hj u hu => ?_) ?_ (fun i u hu => ?_)
    · rw [size_setCells, size_setCells]; exact hlt
    · rw [World.cell?_setCells_out _ _ _ _ _ (fun _ _ => Or.inl (by show j < 0 + k; omega)), World.cell?_setCells_out _ _ _ _ _ (fun _ _ => Or.inl (by show j < 0 + (k + 1); omega))]
      exact h.cell_ hu
    · have := World.cell?_setCells_in g [Value.int .i64 x] (0 + k) ((w.drew).setCells g (0 + (k + 1)) (List.drop k (xs.map (Value.int .i64)))) (fun j hj => by
        have : j = 0 := by simpa using hj
        subst this
        rw [World.cell?_setCells_out _ _ _ _ _ (fun _ _ => Or.inl (by show 0 + k + 0 < 0 + (k + 1); omega))]
        show (w.cell? _).isSome = true
        rw [show 0 + k + 0 = k by omega, hcell k (by omega)]; rfl) 0 (by simp)
      rw [show 0 + k + 0 = k by omega] at this
      exact this
    · have hi2 : i < xs.length - k := by have := (List.getElem?_eq_some_iff.1 hu).1; omega
      rw [World.cell?_setCells_out _ _ _ _ _ (fun _ _ => Or.inr (by show 0 + k + [Value.int .i64 x].length ≤ k + 1 + i; simp only [List.length_cons, List.length_nil]; omega))]
      have := World.cell?_setCells_in g (List.drop k (xs.map (Value.int .i64))) (0 + (k + 1)) w.drew (fun j hj => by
        rw [hd] at hj
        show (w.cell? _).isSome = true
        rw [show 0 + (k + 1) + j = k + 1 + j by omega, hcell (k + 1 + j) (by omega)]; rfl) i (by rw [hd]; exact hi2)
      rw [show 0 + (k + 1) + i = k + 1 + i by omega] at this
      rw [this]
      congr 1
      have e2 : (List.drop k (xs.map (Value.int .i64)))[i]? = some (Value.int .i64 u) := by rw [List.getElem?_drop]; exact ints_cell hu
      exact (List.getElem?_eq_some_iff.1 e2).2
  · exact below_setCells g hB _ _ _ (below_setCells g hB _ _ _ (Below.drew (Below.refl _ _)))

theorem pinsert_grow (g c B vb k : Nat) (xs : List Int) (x : Int) (w : World) (h : Own B w (.slice (some ⟨g, 0, none⟩) xs.length c) xs) (hl : xs.length ≤ 1000) (hk : k < xs.length) (hroom : c < xs.length + 1) (hBw : B ≤ w.heap.size)
    (hv : w.heap[vb]? = some (.cells #[.int .i64 x] 3 (0, 0))) :
    Calls Try.prog 38 #[.slice (some ⟨g, 0, none⟩) xs.length c, .int .i64 (k : Int), .slice (some ⟨vb, 0, none⟩) 1 1] w (RetI B (inL xs k x) w) := by
  obtain ⟨g', cur, e, _, hB, hh, h1, h2, h3, h4⟩ := h.row (by omega)
  obtain rfl : g = g' := by injection e with e; injection e
  have hcs : ∀ j v, (xs.map (Value.int .i64))[j]? = some v → w.cell? ⟨g, 0 + j, none⟩ = some v := fun j v hj => by
    obtain ⟨u, hu, rfl⟩ := ints_back hj
    rw [Nat.zero_add]; exact h.cell_ hu
  have hvs : ∀ j v, ([Value.int .i64 x])[j]? = some v → w.cell? ⟨vb, 0 + j, none⟩ = some v := fun j v hj => by
    cases j with
    | zero => injection hj with hj; subst hj; simp [World.cell?, hv]
    | succ j => simp at hj
  have hi := Any2.slices_Insert_int_grow lays21 g 0 xs.length c k vb 0 1 1 (xs.map (Value.int .i64)) [.int .i64 x] w hk (by omega) h1 hroom (by omega) (by simp) rfl hcs hvs (ints_one xs) (by simp [Value.oneCell'])
  refine hi.mono ?_
  rintro e w' ⟨rfl, rfl⟩
  have hG := grownCap_ge w (xs.length + 1) c (ro.t 3)
  have hG2 := grownCap_le_maxLen w (xs.length + 1) c (ro.t 3) (by unfold maxLen; omega)
  generalize grownCap w (xs.length + 1) c (ro.t 3) = G at *
  have hG3 : G ≤ 9223372036854775807 := by unfold maxLen at hG2; omega
  obtain ⟨ROW, hROW⟩ : ∃ ROW : Array Value, ROW = (List.take k (xs.map (Value.int .i64))).toArray ++ Builtin.zeroCells (Value.int .i64 0).cells (xs.length + 1 - k) ++ Builtin.zeroCells (Value.int .i64 0).cells (G - (xs.length + 1)) := ⟨_, rfl⟩
  have hRl : xs.length + 1 ≤ ROW.size := by
    rw [hROW]
    simp [Builtin.zeroCells, Value.cells]
    omega
  have hRt : ∀ j u, j < k → xs[j]? = some u → ROW[j]? = some (.int .i64 u) := fun j u hj hu => by
    rw [hROW, Array.getElem?_append_left (by simp [Builtin.zeroCells, Value.cells]; omega), Array.getElem?_append_left (by simp; omega)]
    simp [hj, hu]
  rw [← hROW]
  clear hROW
  obtain ⟨W1, hW1⟩ : ∃ W1, W1 = (w.alloc (.cells ROW (ro.t 3))).drew := ⟨_, rfl⟩
  have hC : ∀ j v, ROW[j]? = some v → W1.cell? ⟨w.heap.size, j, none⟩ = some v := fun j v hj => by
    rw [hW1]
    show (w.alloc _).cell? _ = _
    rw [World.cell?_alloc_at ROW _ w.heap.size j rfl]; exact hj
  have hBW : Below B w W1 := by rw [hW1]; exact Below.drew ((Below.refl _ _).alloc hBw _)
  have hsz : W1.heap.size = w.heap.size + 1 := by rw [hW1]; show (w.alloc _).heap.size = _; simp
  rw [← hW1]
  clear hW1
  refine ⟨_, G, by rw [inL_len (by omega)], ?_, ?_⟩
  · have hd : (List.drop k (xs.map (Value.int .i64))).length = xs.length - k := by simp
    refine rd_ins (by omega) hl ?_ hG hG3 (fun j hj u hu => ?_) ?_ (fun i u hu => ?_)
    · rw [size_setCells]; show w.heap.size < (W1.setCells _ _ _).heap.size; rw [size_setCells]; omega
    · rw [World.cell?_setCells_out _ _ _ _ _ (fun _ _ => Or.inl (by show j < k + 1; omega))]
      show (W1.setCells _ _ _).cell? _ = _
      rw [World.cell?_setCells_out _ _ _ _ _ (fun _ _ => Or.inl (by show j < k; omega))]
      exact hC j _ (hRt j u hj hu)
    · rw [World.cell?_setCells_out _ _ _ _ _ (fun _ _ => Or.inl (by show k < k + 1; omega))]
      show (W1.setCells _ _ _).cell? _ = _
      have := World.cell?_setCells_in w.heap.size [Value.int .i64 x] k W1 (fun j hj => by
        have : j = 0 := by simpa using hj
        subst this
        rw [show k + 0 = k by omega, hC k _ (Array.getElem?_eq_getElem (by omega))]; rfl) 0 (by simp)
      rw [show k + 0 = k by omega] at this
      exact this
    · have hi2 : i < xs.length - k := by have := (List.getElem?_eq_some_iff.1 hu).1; omega
      have := World.cell?_setCells_in w.heap.size (List.drop k (xs.map (Value.int .i64))) (k + 1) (W1.setCells w.heap.size k [Value.int .i64 x]).drew (fun j hj => by
        rw [hd] at hj
        show ((W1.setCells _ _ _).cell? _).isSome = true
        rw [World.cell?_setCells_out _ _ _ _ _ (fun _ _ => Or.inr (by show k + [Value.int .i64 x].length ≤ k + 1 + j; simp only [List.length_cons, List.length_nil]; omega)), hC _ _ (Array.getElem?_eq_getElem (by omega))]; rfl) i (by rw [hd]; exact hi2)
      rw [this]
      congr 1
      have e2 : (List.drop k (xs.map (Value.int .i64)))[i]? = some (Value.int .i64 u) := by rw [List.getElem?_drop]; exact ints_cell hu
      exact (List.getElem?_eq_some_iff.1 e2).2
  · exact below_setCells _ hBw _ _ _ (Below.drew (below_setCells _ hBw _ _ _ hBW))

/-- slices.Insert of one number. -/
theorem pinsert_any (A : Option Addr) (c B vb k : Nat) (xs : List Int) (x : Int) (w : World) (h : Own B w (.slice A xs.length c) xs) (hl : xs.length ≤ 1000) (hk : k ≤ xs.length) (hB : B ≤ w.heap.size)
    (hv : w.heap[vb]? = some (.cells #[.int .i64 x] 3 (0, 0))) (hne : ∀ g, A = some ⟨g, 0, none⟩ → vb ≠ g) :
    Calls Try.prog 38 #[.slice A xs.length c, .int .i64 (k : Int), .slice (some ⟨vb, 0, none⟩) 1 1] w (RetI B (inL xs k x) w) := by
  by_cases e : k = xs.length
  · subst e; exact pinsert_end A c B vb xs x w h hl hB hv
  · obtain ⟨g, cur, rfl, _⟩ := h.row (by omega)
    by_cases hr : xs.length + 1 ≤ c
    · exact pinsert_shift g c B vb k xs x w h hl (by omega) hr hv (hne g rfl)
    · exact pinsert_grow g c B vb k xs x w h hl (by omega) (by omega) hB hv

end Go.Proofs.Ytpglchimghnpeaa
