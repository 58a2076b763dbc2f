/- Plain facts of layer 12: graphs as bytes. No program stands here. -/
import Derived.Test.YtdcgmnkoomhocaaGrAll
import Derived.Test.YtdcgmnkoomhocaaPkAll
namespace Go.Proofs.WiM
open Go.Proofs.ShM Go.Proofs.GrM Go.Proofs.PkM

def i64B (n : Int) : Prop := -9223372036854775808 ≤ n ∧ n ≤ 9223372036854775807
/-- A node's bytes. -/
def nodeW (t : Nd) : List Int := t.1 :: (((t.2.1.length : Int) :: allB t.2.1 1) ++ ((t.2.2.length : Int) :: allB t.2.2 8))
def encN (l : List Nd) : List Int := l.flatMap nodeW
def writeV (l : List Nd) : List Int × Int := if checkB l = true then ((l.length : Int) :: encN l, 0) else ([], 100)
/-- The node that bytes begin with, and what is behind. -/
def takeNd (b : List Int) : Option (Nd × List Int) :=
  if (takeV b 1).2.2 = 0 ∧ (takeListV (takeV b 1).2.1 1).2.2 = 0 ∧ (takeListV (takeListV (takeV b 1).2.1 1).2.1 8).2.2 = 0 then
    some (((takeV b 1).1, (takeListV (takeV b 1).2.1 1).1, (takeListV (takeListV (takeV b 1).2.1 1).2.1 8).1), (takeListV (takeListV (takeV b 1).2.1 1).2.1 8).2.1)
  else none
def readN : Nat → List Int → Option (List Nd × List Int)
  | 0, b => some ([], b)
  | m + 1, b => (takeNd b).bind fun p => (readN m p.2).map fun q => (p.1 :: q.1, q.2)
/-- The nodes that bytes say. -/
def readO (b : List Int) : Option (List Nd) := if 1 ≤ b.length then (readN (b.getD 0 0).toNat (b.drop 1)).map (·.1) else none
def readV (b : List Int) : List Nd × Int := match readO b with
  | some l => if writeV l = (b, 0) then (l, 0) else ([], 120)
  | none => ([], 120)

/-- A node whose parts have bytes. -/
structure Wf (t : Nd) : Prop where
  op : 0 ≤ t.1 ∧ t.1 ≤ 255
  al : t.2.1.length ≤ 255
  ar : ∀ n ∈ t.2.1, 0 ≤ n ∧ n ≤ 255
  nl : t.2.2.length ≤ 255
  nr : ∀ n ∈ t.2.2, -9223372036854775808 ≤ n ∧ n ≤ 9223372036854775807
theorem byte_one {n : Int} (h : 0 ≤ n ∧ n ≤ 255) : byteL n 1 = [n] := by
  have e : byteL n 1 = [n % 256] := by simp [byteL]
  rw [e]; congr 1; omega
theorem list_one {l : List Int} (h1 : l.length ≤ 255) (h2 : ∀ n ∈ l, 0 ≤ n ∧ n ≤ 255) (b : List Int) : listV b l 1 = (b ++ [(l.length : Int)] ++ allB l 1, 0) := by
  unfold listV
  rw [if_pos ⟨h1, by decide, fun n hn => by unfold mayB; have := h2 n hn; simp; omega⟩]
  rfl
theorem list_eight {l : List Int} (h1 : l.length ≤ 255) (b : List Int) : listV b l 8 = (b ++ [(l.length : Int)] ++ allB l 8, 0) := by
  unfold listV
  rw [if_pos ⟨h1, by decide, fun n _ => by unfold mayB; simp⟩]
  rfl
theorem take_nd {t : Nd} (h : Wf t) (r : List Int) : takeNd (nodeW t ++ r) = some (t, r) := by
  obtain ⟨op, args, nums⟩ := t
  have h0 : 0 ≤ op ∧ op ≤ 255 := h.op
  have e1 : takeV (nodeW (op, args, nums) ++ r) 1 = (op, ((args.length : Int) :: allB args 1) ++ (((nums.length : Int) :: allB nums 8) ++ r), 0) := by
    have := put_take (n := op) (size := 1) (r := ((args.length : Int) :: allB args 1) ++ (((nums.length : Int) :: allB nums 8) ++ r)) (by unfold mayB; simp; omega) (by omega)
    rw [show (1 : Int).toNat = 1 from rfl, byte_one h0] at this
    rw [← this]
    show takeV ((op :: (((args.length : Int) :: allB args 1) ++ ((nums.length : Int) :: allB nums 8))) ++ r) 1 = _
    simp
  have e2 : takeListV (((args.length : Int) :: allB args 1) ++ (((nums.length : Int) :: allB nums 8) ++ r)) 1 = (args, ((nums.length : Int) :: allB nums 8) ++ r, 0) :=
    list_take (l := args) (size := 1) _ (fun n hn => by have := h.ar n hn; omega) (list_one h.al h.ar [])
  have e3 : takeListV (((nums.length : Int) :: allB nums 8) ++ r) 8 = (nums, r, 0) :=
    list_take (l := nums) (size := 8) r h.nr (list_eight h.nl [])
  unfold takeNd
  rw [e1, if_pos ⟨rfl, by rw [e2], by rw [e2, e3]⟩]
  rw [e2, e3]
theorem take_one {b : List Int} (hb : Bytes b) (h : (takeV b 1).2.2 = 0) : (0 ≤ (takeV b 1).1 ∧ (takeV b 1).1 ≤ 255) ∧ (takeV b 1).1 :: (takeV b 1).2.1 = b := by
  unfold takeV at h ⊢
  split at h
  · rename_i g
    rw [if_pos g]
    match b, g.2 with
    | x :: b, _ =>
      have hx := hb x (by simp)
      have e : PkM.asInt (valL ((x :: b).take (1 : Int).toNat)) = x := by
        show PkM.asInt (valL [x]) = x
        have : valL [x] = x := by unfold valL; simp
        rw [this]; unfold PkM.asInt; rw [if_pos (by omega)]
      refine ⟨by rw [e]; exact hx, ?_⟩
      show PkM.asInt (valL ((x :: b).take (1 : Int).toNat)) :: (x :: b).drop (1 : Int).toNat = x :: b
      rw [e]; rfl
    | [], g2 => simp at g2
  · cases h
theorem bytes_behind {b c v : List Int} (hb : Bytes b) (h : c ++ v = b) : Bytes v := fun x hx => hb x (by rw [← h]; exact List.mem_append_right _ hx)
theorem nd_back {b : List Int} {t : Nd} {r : List Int} (hb : Bytes b) (h : takeNd b = some (t, r)) : nodeW t ++ r = b ∧ Wf t ∧ Bytes r := by
  unfold takeNd at h
  split at h
  · rename_i g
    obtain ⟨g1, g2, g3⟩ := g
    obtain ⟨o1, o2⟩ := take_one hb g1
    have hb1 : Bytes (takeV b 1).2.1 := fun x hx => hb x (by rw [← o2]; exact List.mem_cons_of_mem _ hx)
    generalize takeV b 1 = q at *
    obtain ⟨op, r1, f⟩ := q
    dsimp only at *
    cases e2 : takeListV r1 1 with
    | mk args q2 =>
      obtain ⟨r2, f2⟩ := q2
      rw [e2] at g2 g3 h
      dsimp only at g2 g3 h
      subst g2
      obtain ⟨c2, l2, k2⟩ := take_list hb1 e2
      have hb2 := bytes_behind hb1 k2
      cases e3 : takeListV r2 8 with
      | mk nums q3 =>
        obtain ⟨r3, f3⟩ := q3
        rw [e3] at g3 h
        dsimp only at g3 h
        subst g3
        obtain ⟨c3, l3, k3⟩ := take_list hb2 e3
        injection h with h
        injection h with h1 h2
        subst h1 h2
        have p2 : args.length ≤ 255 ∧ (∀ n ∈ args, mayB n 1 = true) ∧ c2 = [(args.length : Int)] ++ allB args 1 := by
          unfold listV at l2
          split at l2
          · rename_i q
            injection l2 with l2 _
            exact ⟨q.1, q.2.2, by rw [← l2]; rfl⟩
          · injection l2 with _ l2; cases l2
        have p3 : nums.length ≤ 255 ∧ c3 = [(nums.length : Int)] ++ allB nums 8 := by
          unfold listV at l3
          split at l3
          · rename_i q
            injection l3 with l3 _
            exact ⟨q.1, by rw [← l3]; rfl⟩
          · injection l3 with _ l3; cases l3
        have hnr : ∀ n ∈ nums, -9223372036854775808 ≤ n ∧ n ≤ 9223372036854775807 := by
          unfold takeListV at e3
          split at e3
          · rename_i q
            cases em : manyV (8 : Int).toNat (r2.getD 0 0).toNat (r2.drop 1) with
            | none => rw [em] at e3; injection e3 with _ e3; injection e3 with _ e3; cases e3
            | some p =>
              rw [em] at e3
              obtain ⟨p1, p2⟩ := p
              injection e3 with e3 _
              have e3 : p1 = nums := e3
              subst e3
              exact (many_back q.1 (fun x hx => hb2 x (List.mem_of_mem_drop hx)) em).2.2.1
          · injection e3 with _ e3; injection e3 with _ e3; cases e3
        refine ⟨?_, ⟨o1, p2.1, fun n hn => ?_, p3.1, hnr⟩, bytes_behind hb2 k3⟩
        · rw [← o2, ← k2, ← k3, p2.2.2, p3.2]
          unfold nodeW
          simp
        · have := p2.2.1 n hn
          unfold mayB at this
          simp at this
          exact this
  · cases h
theorem read_enc : ∀ {l : List Nd} (r : List Int), (∀ t ∈ l, Wf t) → readN l.length (encN l ++ r) = some (l, r)
  | [], r, _ => rfl
  | t :: l, r, h => by
    have e : encN (t :: l) ++ r = nodeW t ++ (encN l ++ r) := by unfold encN; rw [List.flatMap_cons, List.append_assoc]
    rw [e, List.length_cons, readN, take_nd (h t List.mem_cons_self)]
    show ((readN l.length (encN l ++ r)).map fun q => (t :: q.1, q.2)) = _
    rw [read_enc r (fun u hu => h u (List.mem_cons_of_mem _ hu))]
    rfl
theorem read_back : ∀ {m : Nat} {b : List Int} {l : List Nd} {r : List Int}, Bytes b → readN m b = some (l, r) → l.length = m ∧ encN l ++ r = b ∧ (∀ t ∈ l, Wf t)
  | 0, b, l, r, _, h => by
    injection h with h
    injection h with h1 h2
    subst h1 h2
    exact ⟨rfl, rfl, fun _ h => by cases h⟩
  | m + 1, b, l, r, hb, h => by
    rw [readN] at h
    cases e : takeNd b with
    | none => rw [e] at h; cases h
    | some p =>
      obtain ⟨t, s⟩ := p
      rw [e] at h
      obtain ⟨n1, n2, n3⟩ := nd_back hb e
      have h : ((readN m s).map fun q => (t :: q.1, q.2)) = some (l, r) := h
      cases e2 : readN m s with
      | none => rw [e2] at h; cases h
      | some q =>
        obtain ⟨l', r'⟩ := q
        rw [e2] at h
        injection h with h
        injection h with h1 h2
        have h1 : t :: l' = l := h1
        have h2 : r' = r := h2
        subst h1 h2
        obtain ⟨i1, i2, i3⟩ := read_back n3 e2
        refine ⟨by rw [List.length_cons, i1], ?_, fun u hu => ?_⟩
        · have : encN (t :: l') ++ r' = nodeW t ++ (encN l' ++ r') := by unfold encN; rw [List.flatMap_cons, List.append_assoc]
          rw [this, i2, n1]
        · rcases List.mem_cons.1 hu with rfl | hu
          · exact n2
          · exact i3 u hu

/-! ### Graphs -/
theorem check_wf {l : List Nd} (h : checkB l = true) (h64 : ∀ t ∈ l, ∀ n ∈ t.2.2, -9223372036854775808 ≤ n ∧ n ≤ 9223372036854775807) : ∀ t ∈ l, Wf t := by
  intro t ht
  obtain ⟨i, hi⟩ := List.mem_iff_getElem?.1 ht
  obtain ⟨c1, c2, c3⟩ := check_iff.1 h
  have hil := (List.getElem?_eq_some_iff.1 hi).1
  obtain ⟨g1, g2, g3, g4, _⟩ := node_iff.1 (c3 i t hi)
  have ho : 0 ≤ t.1 ∧ t.1 ≤ 255 ∧ arityV t.1 ≤ 2 := by
    unfold arityV at g1 ⊢
    split at g1
    · rename_i q; rw [if_pos q]; omega
    · rename_i q
      rw [if_neg q]
      split at g1
      · rename_i q2; rw [if_pos q2]; omega
      · rename_i q2
        rw [if_neg q2]
        split at g1
        · rename_i q3; rw [if_pos q3]; omega
        · omega
  have hn : t.2.2.length ≤ 4 := by
    unfold numsB at g3
    have hs : ∀ s : List Int, okS s = true → s.length ≤ 3 := fun s hs => (ok_iff.1 hs).1
    split at g3
    · have := hs _ g3; omega
    · split at g3
      · cases e : t.2.2 with
        | nil => simp
        | cons p s =>
          rw [e] at g3
          have g3 : (decide (0 ≤ p ∧ p ≤ 7) && okS s) = true := g3
          rw [Bool.and_eq_true] at g3
          have := hs s g3.2
          simp; omega
      · split at g3
        · have := of_decide_eq_true g3; omega
        · split at g3
          · have := of_decide_eq_true g3; omega
          · have := of_decide_eq_true g3; omega
  exact ⟨⟨ho.1, ho.2.1⟩, by omega, fun n hn => by have := g4 n hn; omega, by omega, h64 t ht⟩
theorem read_o {l : List Nd} (h : ∀ t ∈ l, Wf t) (r : List Int) : readO ((l.length : Int) :: (encN l ++ r)) = some l := by
  unfold readO
  rw [if_pos (by simp)]
  show (readN ((l.length : Int)).toNat (encN l ++ r)).map (·.1) = _
  rw [Int.toNat_natCast, read_enc r h]; rfl
/-- What was written is read. -/
theorem write_read {l : List Nd} (h : checkB l = true) (w : ∀ t ∈ l, Wf t) : readV ((l.length : Int) :: encN l) = (l, 0) := by
  unfold readV
  have := read_o w []
  rw [List.append_nil] at this
  rw [this]
  show (if writeV l = ((l.length : Int) :: encN l, 0) then (l, (0 : Int)) else ([], 120)) = _
  rw [if_pos (by unfold writeV; rw [if_pos h])]
theorem read_cases (b : List Int) : (∃ l, readV b = (l, 0) ∧ readO b = some l ∧ writeV l = (b, 0)) ∨ readV b = ([], 120) := by
  unfold readV
  cases e : readO b with
  | none => exact .inr rfl
  | some l =>
    show (∃ l', (if writeV l = (b, 0) then (l, (0 : Int)) else ([], 120)) = (l', 0) ∧ _) ∨ _
    by_cases g : writeV l = (b, 0)
    · rw [if_pos g]; exact .inl ⟨l, rfl, rfl, g⟩
    · rw [if_neg g]; exact .inr (if_neg g)
theorem read_wf {b : List Int} {l : List Nd} (hb : Bytes b) (h : readO b = some l) : ∀ t ∈ l, Wf t := by
  unfold readO at h
  split at h
  · cases e : readN (b.getD 0 0).toNat (b.drop 1) with
    | none => rw [e] at h; cases h
    | some p =>
      obtain ⟨l', r⟩ := p
      rw [e] at h
      injection h with h
      have h : l' = l := h
      subst h
      exact (read_back (fun x hx => hb x (List.mem_of_mem_drop hx)) e).2.2
  · cases h
theorem write_is {l : List Nd} {b : List Int} (h : writeV l = (b, 0)) : checkB l = true ∧ b = (l.length : Int) :: encN l := by
  unfold writeV at h
  split at h
  · rename_i g
    injection h with h _
    exact ⟨g, h.symm⟩
  · injection h with _ h; cases h
/-- No graph's bytes begin with another one's. -/
theorem no_prefix {l m : List Nd} {b s : List Int} (h : writeV l = (b, 0)) (g : writeV m = (b ++ s, 0)) (wl : ∀ t ∈ l, Wf t) (wm : ∀ t ∈ m, Wf t) : s = [] ∧ l = m := by
  obtain ⟨_, e1⟩ := write_is h
  obtain ⟨_, e2⟩ := write_is g
  rw [e1, List.cons_append] at e2
  injection e2 with e3 e4
  have hlm : l.length = m.length := by omega
  have r1 := read_enc s wl
  have r2 := read_enc [] wm
  rw [List.append_nil, ← hlm, ← e4, r1] at r2
  injection r2 with r2
  injection r2 with r2 r3
  exact ⟨r3, r2⟩
theorem read_cut {l : List Nd} {b : List Int} {k : Nat} (h : writeV l = (b, 0)) (wl : ∀ t ∈ l, Wf t) (hb : Bytes b) (hk : k < b.length) : readV (b.take k) = ([], 120) := by
  rcases read_cases (b.take k) with ⟨m, e1, e2, e3⟩ | e
  · exfalso
    have wm := read_wf (fun x hx => hb x (List.mem_of_mem_take hx)) e2
    have := (no_prefix (s := b.drop k) e3 (by rw [List.take_append_drop]; exact h) wm wl).1
    have h2 : (b.drop k).length = 0 := by rw [this]; rfl
    rw [List.length_drop] at h2
    omega
  · exact e
theorem read_more {l : List Nd} {b : List Int} {x : Int} (h : writeV l = (b, 0)) (wl : ∀ t ∈ l, Wf t) (hb : Bytes b) (hx : 0 ≤ x ∧ x ≤ 255) : readV (b ++ [x]) = ([], 120) := by
  rcases read_cases (b ++ [x]) with ⟨m, e1, e2, e3⟩ | e
  · exfalso
    have wm := read_wf (b := b ++ [x]) (fun y hy => by
      rcases List.mem_append.1 hy with hy | hy
      · exact hb y hy
      · rw [List.mem_singleton.1 hy]; exact hx) e2
    have := (no_prefix h e3 wl wm).1
    cases this
  · exact e
/-- How many bytes. -/
def lenN (l : List Nd) : Nat := (l.map fun t => 3 + t.2.1.length + 8 * t.2.2.length).sum
theorem enc_len : ∀ l : List Nd, (encN l).length = lenN l
  | [] => rfl
  | t :: l => by
    have e : encN (t :: l) = nodeW t ++ encN l := by unfold encN; rw [List.flatMap_cons]
    have e2 : lenN (t :: l) = (3 + t.2.1.length + 8 * t.2.2.length) + lenN l := by unfold lenN; rw [List.map_cons, List.sum_cons]
    rw [e, List.length_append, enc_len l, e2]
    unfold nodeW
    rw [List.length_cons, List.length_append, List.length_cons, List.length_cons, all_len, all_len]
    omega
theorem enc_bytes {l : List Nd} (w : ∀ t ∈ l, Wf t) : Bytes (encN l) := by
  intro x hx
  unfold encN at hx
  obtain ⟨t, ht, hx⟩ := List.mem_flatMap.1 hx
  have h := w t ht
  have hall : ∀ (k : Nat) (ns : List Int), x ∈ allB ns k → 0 ≤ x ∧ x ≤ 255 := fun k ns hx => by
    unfold allB at hx
    obtain ⟨n, _, hx⟩ := List.mem_flatMap.1 hx
    exact byte_bytes k n x hx
  unfold nodeW at hx
  rcases List.mem_cons.1 hx with rfl | hx
  · exact h.op
  · rcases List.mem_append.1 hx with hx | hx
    · rcases List.mem_cons.1 hx with rfl | hx
      · have := h.al; omega
      · exact hall _ _ hx
    · rcases List.mem_cons.1 hx with rfl | hx
      · have := h.nl; omega
      · exact hall _ _ hx
theorem write_bytes {l : List Nd} (h : checkB l = true) (w : ∀ t ∈ l, Wf t) : Bytes ((l.length : Int) :: encN l) := by
  intro x hx
  rcases List.mem_cons.1 hx with rfl | hx
  · have := (check_iff.1 h).2.1; omega
  · exact enc_bytes w x hx
theorem write_apart {a b : List Nd} (ha : checkB a = true) (hb : checkB b = true) (wa : ∀ t ∈ a, Wf t) (wb : ∀ t ∈ b, Wf t) : ((a.length : Int) :: encN a = (b.length : Int) :: encN b) ↔ a = b := by
  constructor
  · intro h
    have h1 : writeV a = ((a.length : Int) :: encN a, 0) := by unfold writeV; rw [if_pos ha]
    have h2 : writeV b = (((a.length : Int) :: encN a) ++ [], 0) := by unfold writeV; rw [if_pos hb, List.append_nil, h]
    exact (no_prefix h1 h2 wa wb).2
  · rintro rfl; rfl
end Go.Proofs.WiM
