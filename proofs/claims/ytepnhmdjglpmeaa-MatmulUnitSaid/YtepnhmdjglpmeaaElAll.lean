import Derived.Test.YtepnhmdjglpmeaaTnAll
import Derived.Carry
import Derived.MapKept
import Derived.ChangeMaps5
import Derived.Maps.OwnOps
import Derived.Deep.RegionHeld3
import Derived.Test.YtepnhmdjglpmeaaFxAll
import Derived.Conc.MuLone
import Derived.Laws.EntriesVeiled
import Derived.Deep.CutRange
/- A map of an int that the call itself made: what stands in it, as a list; a new key put into it; what is read of it. And the kinds of layer 4. -/
namespace Go.Proofs.Ytepnhmdjglpmeaa
open Go.RowKit Go.Proofs.ShM Go.ChangeMaps

/-- What stands at a key. -/
def atM : List (Int × Value) → Int → Option Value
  | [], _ => none
  | (j, v) :: L, k => if k = j then some v else atM L k
/-- Block g is a map with these entries. -/
def Md (W : World) (g : Nat) (L : List (Int × Value)) : Prop :=
  ∃ es clock, W.heap[g]? = some (.map es clock) ∧ es.toList.map (fun e => (e.key, e.val)) = L.map (fun x => (Value.int .i64 x.1, x.2))

section
variable {P : Program} {W W' : World} {g : Nat} {L : List (Int × Value)} {k : Int}
theorem Md.lt (h : Md W g L) : g < W.heap.size := by obtain ⟨es, c, h, _⟩ := h; exact (Array.getElem?_eq_some_iff.1 h).1
theorem Md.kp (h : Md W g L) (kp : Kp W W') : Md W' g L := by
  have hl := h.lt
  obtain ⟨es, c, h, e⟩ := h
  exact ⟨es, c, (kp.block g hl).trans h, e⟩
theorem Md.new (W : World) : Md (W.alloc (.map #[] 0)) W.heap.size [] := ⟨#[], 0, by show (W.heap.push _)[W.heap.size]? = _; simp, rfl⟩
theorem find_now (k : Int) : ∀ (es : List MapEntry) (L : List (Int × Value)) (i : Nat), es.map (fun e => (e.key, e.val)) = L.map (fun x => (Value.int .i64 x.1, x.2)) →
    ∃ r, Instr.findNow (.int .i64) (.int .i64 k) es i = some r ∧ r.map (·.2) = atM L k := by
  intro es
  induction es with
  | nil =>
    intro L i h
    cases L with
    | nil => exact ⟨none, rfl, rfl⟩
    | cons x L => simp at h
  | cons e es ih =>
    intro L i h
    cases L with
    | nil => simp at h
    | cons x L =>
      simp only [List.map_cons, List.cons.injEq, Prod.mk.injEq] at h
      obtain ⟨⟨h1, h2⟩, h3⟩ := h
      by_cases hk : k = x.1
      · refine ⟨some (i, e.val), ?_, ?_⟩
        · simp [Instr.findNow, Instr.sameNow, h1, hk]
        · simp [atM, hk, h2]
      · obtain ⟨r, q1, q2⟩ := ih L (i + 1) h3
        refine ⟨r, ?_, ?_⟩
        · have hf : (k == x.1) = false := by simpa using hk
          simp [Instr.findNow, Instr.sameNow, h1, hf, q1]
        · simp [atM, hk, q2]
theorem run_findM {kt : TypeId} (hk : P.underlying kt = some (.int .i64)) {es : Array MapEntry} (h : es.toList.map (fun e => (e.key, e.val)) = L.map (fun x => (Value.int .i64 x.1, x.2))) (k : Int) :
    ∃ r, (Instr.findKey kt (.int .i64 k) es.toList).run P W = .ok r W ∧ r.map (·.2) = atM L k := by
  obtain ⟨r, q1, q2⟩ := find_now k es.toList L 0 h
  refine ⟨r, ?_, q2⟩
  simp [Instr.findKey, run_underlying hk, q1, Result.andThen]
/-- A key that is not there, put. -/
theorem Md.put {t kt et : TypeId} (h : Md W g L) (ht : P.underlying t = some (.map kt et)) (hk : P.underlying kt = some (.int .i64)) (hn : atM L k = none) (v : Value) :
    ∃ W', (Instr.mapUpdate t (.map (some g)) (.int .i64 k) v).run P W = .ok () W' ∧ Md W' g (L ++ [(k, v)]) ∧ ∀ B, B ≤ g → Below B W W' := by
  obtain ⟨es, c, hb, e⟩ := h
  obtain ⟨r, q1, q2⟩ := run_findM (P := P) (W := W) hk e k
  rw [hn] at q2
  have hr : r = none := by cases r with | none => rfl | some x => simp at q2
  subst hr
  refine ⟨setBlock W g (.map (es.push ⟨.int .i64 k, v, c⟩) (c + 1)), ?_, ⟨_, _, heap_setBlock_same hb _, ?_⟩, fun B hB => ?_⟩
  · simp [Instr.mapUpdate, run_underlying ht, MapKept.run_getObj_map hb, MapKept.run_checkKey (e := false) (n := 9999) hk (show MapKept.IsKey (.int .i64) (.int .i64 k) from rfl), q1, MapKept.run_setObj_map _ hb, Result.andThen, setBlock]
  · simp [e]
  · exact ⟨rfl, rfl, rfl, by simp [setBlock], fun j hj => heap_setBlock_other hb _ (by omega)⟩
/-- What is read. -/
theorem Md.get {t kt et : TypeId} (h : Md W g L) (ht : P.underlying t = some (.map kt et)) (hk : P.underlying kt = some (.int .i64)) {z : Value} (hz : (zeroValue et).run P W = .ok z W) (k : Int) :
    (Instr.lookup t (.map (some g)) (.int .i64 k) false).run P W = .ok ((atM L k).getD z) W := by
  obtain ⟨es, c, hb, e⟩ := h
  obtain ⟨r, q1, q2⟩ := run_findM (P := P) (W := W) hk e k
  rw [← q2]
  cases r with
  | none => simp [Instr.lookup, run_underlying ht, MapKept.run_getObj_map hb, MapKept.run_checkKey (n := 9999) hk (show MapKept.IsKey (.int .i64) (.int .i64 k) from rfl), q1, hz, Result.andThen]
  | some x => simp [Instr.lookup, run_underlying ht, MapKept.run_getObj_map hb, MapKept.run_checkKey (n := 9999) hk (show MapKept.IsKey (.int .i64) (.int .i64 k) from rfl), q1, Result.andThen]
end

end Go.Proofs.Ytepnhmdjglpmeaa

/- The kinds of layer 4, as a map; a look-up in it. -/
namespace Go.Proofs.Ytepnhmdjglpmeaa
open Go.RowKit Go.Proofs.ShM

end Go.Proofs.Ytepnhmdjglpmeaa

/- Plain facts of layer 4: numbers that are reckoned one by one, and what tensors are reckoned to. -/
namespace Go.Proofs.ShM
open Go.Proofs.FixM

/-- The error of the first that has one, else 0. -/
def firstE {α : Type} (f : α → Int × Int) : List α → Int
  | [] => 0
  | x :: l => if (f x).2 = 0 then firstE f l else (f x).2
def mapE {α : Type} (f : α → Int × Int) (l : List α) : List Int × Int := if firstE f l = 0 then (l.map fun x => (f x).1, 0) else ([], firstE f l)

section
variable {α : Type} {f g : α → Int × Int} {l : List α} {k : Nat} {zs : List Int} {x : α}
theorem firstE_zero : firstE f l = 0 ↔ ∀ x ∈ l, (f x).2 = 0 := by
  induction l with
  | nil => simp [firstE]
  | cons x l ih =>
    unfold firstE
    by_cases h : (f x).2 = 0
    · rw [if_pos h, ih]; simp [h]
    · rw [if_neg h]; simp [h]
theorem firstE_congr {β : Type} {F : β → Int × Int} {h : α → β} (e : ∀ x ∈ l, (F (h x)).2 = (f x).2) : firstE F (l.map h) = firstE f l := by
  induction l with
  | nil => rfl
  | cons x l ih =>
    simp only [List.map_cons, firstE]
    rw [e x (by simp), ih fun y hy => e y (by simp [hy])]
theorem mapE_congr {β : Type} {F : β → Int × Int} {h : α → β} (e : ∀ x ∈ l, F (h x) = f x) : mapE F (l.map h) = mapE f l := by
  have e1 : firstE F (l.map h) = firstE f l := firstE_congr fun x hx => by rw [e x hx]
  unfold mapE
  rw [e1]
  split
  · rw [List.map_map]
    congr 1
    exact List.map_congr_left fun x hx => by simp only [Function.comp_apply]; rw [e x hx]
  · rfl
theorem mapE_e : (mapE f l).2 = firstE f l := by
  unfold mapE
  split
  · rename_i hz; exact hz.symm
  · rfl
theorem mapE_ok (h : (mapE f l).2 = 0) : firstE f l = 0 ∧ mapE f l = (l.map fun x => (f x).1, 0) := by
  rw [mapE_e] at h
  exact ⟨h, by unfold mapE; rw [if_pos h]⟩
theorem mapE_len (h : (mapE f l).2 = 0) : (mapE f l).1.length = l.length := by
  rw [(mapE_ok h).2]; simp
theorem mapE_err (h : (mapE f l).2 ≠ 0) : mapE f l = ([], firstE f l) := by
  rw [mapE_e] at h
  unfold mapE; rw [if_neg h]
theorem firstE_cons {x : α} : firstE f (x :: l) = if (f x).2 = 0 then firstE f l else (f x).2 := rfl

/-- A loop that stores each number at its place. -/
def Ee (f : α → Int × Int) (l : List α) (k : Nat) (zs : List Int) : Prop :=
  k ≤ l.length ∧ zs.length = l.length ∧ firstE f (l.drop k) = firstE f l ∧ zs.take k = (l.take k).map fun x => (f x).1
theorem ee_start : Ee f l 0 (List.replicate l.length 0) := ⟨Nat.zero_le _, by simp, by simp, by simp⟩
theorem ee_step (h : Ee f l k zs) (hx : l[k]? = some x) (he : (f x).2 = 0) : Ee f l (k + 1) (zs.set k (f x).1) := by
  obtain ⟨h1, h2, h3, h4⟩ := h
  have hk := (List.getElem?_eq_some_iff.1 hx).1
  refine ⟨hk, by simpa using h2, ?_, ?_⟩
  · rw [← h3, drop_of hx, firstE_cons]; rw [if_pos he]
  · rw [take_of hx, List.map_append, ← h4, take_of (x := (f x).1) (by rw [List.getElem?_set_self (by omega)]), List.take_set_of_le (by omega)]
    rfl
theorem ee_bad (h : Ee f l k zs) (hx : l[k]? = some x) (he : (f x).2 ≠ 0) : mapE f l = ([], (f x).2) := by
  obtain ⟨h1, h2, h3, h4⟩ := h
  have e : firstE f l = (f x).2 := by rw [← h3, drop_of hx, firstE_cons]; rw [if_neg he]
  unfold mapE; rw [e, if_neg he]
theorem ee_end (h : Ee f l k zs) (hk : ¬ k < l.length) : mapE f l = (zs, 0) := by
  obtain ⟨h1, h2, h3, h4⟩ := h
  have e : k = l.length := by omega
  subst e
  rw [List.drop_length] at h3
  rw [List.take_length, ← h2, List.take_length] at h4
  unfold mapE; rw [← h3, h4]; rfl
/-- A loop that appends each number. -/
def Ea (f : α → Int × Int) (l : List α) (k : Nat) (zs : List Int) : Prop :=
  k ≤ l.length ∧ firstE f (l.drop k) = firstE f l ∧ zs = (l.take k).map fun x => (f x).1
theorem ea_start : Ea f l 0 [] := ⟨Nat.zero_le _, by simp, by simp⟩
theorem ea_len (h : Ea f l k zs) : zs.length = k := by obtain ⟨h1, _, rfl⟩ := h; simp; omega
theorem ea_step {ys : List Int} {y : Int} (h : Ea f l k zs) (hx : l[k]? = some x) (hy : f x = (y, 0)) (e : ys = zs ++ [y]) : Ea f l (k + 1) ys := by
  obtain ⟨h1, h3, h4⟩ := h
  have hk := (List.getElem?_eq_some_iff.1 hx).1
  refine ⟨hk, ?_, ?_⟩
  · rw [← h3, drop_of hx, firstE_cons]; rw [if_pos (by rw [hy])]
  · rw [e, take_of hx, List.map_append, ← h4]; simp [hy]
theorem ea_bad {e : Int} (h : Ea f l k zs) (hx : l[k]? = some x) (hy : f x = (0, e)) (he : e ≠ 0) : mapE f l = ([], e) := by
  obtain ⟨h1, h3, h4⟩ := h
  have e' : firstE f l = e := by rw [← h3, drop_of hx, firstE_cons]; rw [if_neg (by rw [hy]; exact he), hy]
  unfold mapE; rw [e', if_neg he]
theorem ea_end (h : Ea f l k zs) (hk : ¬ k < l.length) : mapE f l = (zs, 0) := by
  obtain ⟨h1, h3, h4⟩ := h
  have e : k = l.length := by omega
  subst e
  rw [List.drop_length] at h3
  rw [List.take_length] at h4
  unfold mapE; rw [← h3, h4]; rfl
end

/-- A number's answer, and two numbers'. -/
def numV (op n : Int) : Int × Int := if op = 20 then subV 0 n else if op = 21 then (max n 0, 0) else if op = 22 then powV n else if op = 23 then sqrtV n else (0, 1)
def numsV (op a b : Int) : Int × Int := if op = 10 then addV a b else if op = 11 then subV a b else if op = 12 then mulV a b else if op = 13 then divV a b else (0, 1)
/-- One and Two, and the document's. -/
def oneV (op : Int) (s xs : List Int) : Tn :=
  if op < 20 ∨ 23 < op then ([], [], 1) else if tokV s xs = false then ([], [], 30) else if (mapE (numV op) xs).2 = 0 then (s, (mapE (numV op) xs).1, 0) else ([], [], (mapE (numV op) xs).2)
def two2 (op : Int) (xs ys : List Int) : List Int × Int := mapE (fun p : Int × Int => numsV op p.1 p.2) (xs.zip ys)
def twoV (op : Int) (s xs g ys : List Int) : Tn :=
  if op < 10 ∨ 13 < op then ([], [], 1) else if tokV s xs = false ∨ tokV g ys = false then ([], [], 30) else if (joinV s g).2 ≠ 0 then ([], [], (joinV s g).2) else
    if (two2 op (spreadV s xs (joinV s g).1).2.1 (spreadV g ys (joinV s g).1).2.1).2 = 0 then ((joinV s g).1, (two2 op (spreadV s xs (joinV s g).1).2.1 (spreadV g ys (joinV s g).1).2.1).1, 0)
    else ([], [], (two2 op (spreadV s xs (joinV s g).1).2.1 (spreadV g ys (joinV s g).1).2.1).2)
end Go.Proofs.ShM

/- each of layer 4: the tensor of the number told for each place; the first error ends it. -/
namespace Go.Proofs.Ytepnhmdjglpmeaa
open Go.RowKit Go.Proofs.ShM

/-- What a number told answers. -/
def Tells {α : Type} (f : α → Int × Int) (l : List α) (c : Nat) (caps : List Value) (w : World) : Prop :=
  ∀ (k : Nat) (x : α), l[k]? = some x → ∀ W, Kp w W → Calls Try.prog c (Value.int .i64 (k : Int) :: caps).toArray W fun e W' => e = .returned (.tuple #[.int .i64 (f x).1, .int .i64 (f x).2]) ∧ Kp W W'

/-- The answer's block, and what else stands since w. -/
structure Rs (w W : World) : Prop where
  kp : Kp w W
  r0 : W.cell? ⟨w.heap.size, 0, none⟩ = some (.slice none 0 0)
  r1 : W.cell? ⟨w.heap.size, 1, none⟩ = some (.slice none 0 0)
  f0 : W.frozen? ⟨w.heap.size, 0, none⟩ = false
  f1 : W.frozen? ⟨w.heap.size, 1, none⟩ = false
  sz : w.heap.size + 1 ≤ W.heap.size
theorem Rs.tb {w a b : World} (h : Rs w a) (k : Below (w.heap.size + 1) a b) : Rs w b where
  kp := h.kp.trans (k.mono (by omega))
  r0 := (k.cell (p := ⟨w.heap.size, 0, none⟩) (by show w.heap.size < _; omega)).trans h.r0
  r1 := (k.cell (p := ⟨w.heap.size, 1, none⟩) (by show w.heap.size < _; omega)).trans h.r1
  f0 := (k.frozen (p := ⟨w.heap.size, 0, none⟩) (by show w.heap.size < _; omega)).trans h.f0
  f1 := (k.frozen (p := ⟨w.heap.size, 1, none⟩) (by show w.heap.size < _; omega)).trans h.f1
  sz := Nat.le_trans h.sz k.size
theorem Rs.tr {w a b : World} (h : Rs w a) (k : Kp a b) : Rs w b := h.tb (k.mono h.sz)
theorem Rs.mk_ (w : World) (t : TypeId) : Rs w (w.alloc (.cells #[.slice none 0 0, .slice none 0 0] t)) where
  kp := Kp.alloc_ _ _
  r0 := by simp
  r1 := by simp
  f0 := by simp
  f1 := by simp
  sz := by simp
theorem Rs.end_ {w a : World} (h : Rs w a) (x y : Value) : Kp w ((a.setCell ⟨w.heap.size, 0, none⟩ x).setCell ⟨w.heap.size, 1, none⟩ y) :=
  (h.kp.setCell (p := ⟨w.heap.size, 0, none⟩) (by simp) x).setCell (p := ⟨w.heap.size, 1, none⟩) (by simp) y

end Go.Proofs.Ytepnhmdjglpmeaa

/- The numbers told of layer 4 (closures): what they answer. -/
namespace Go.Proofs.Ytepnhmdjglpmeaa
open Go.RowKit Go.Proofs.ShM

theorem undrew {a b : World} (h : Kp a.drew b) : Kp a b := ⟨h.os, h.tape, h.output, h.size, h.block⟩

end Go.Proofs.Ytepnhmdjglpmeaa

/- What One of layer 4 answers. -/
namespace Go.Proofs.Ytepnhmdjglpmeaa
open Go.RowKit Go.Proofs.ShM Go.Proofs.FixM

theorem atM_none {L : List (Int × Value)} {k : Int} (h : ∀ x ∈ L, k ≠ x.1) : atM L k = none := by
  induction L with
  | nil => rfl
  | cons x L ih => obtain ⟨j, v⟩ := x; simp only [atM]; rw [if_neg (h (j, v) (by simp))]; exact ih fun y hy => h y (by simp [hy])
theorem equalIn_func {P : Program} (W : World) (d : Nat) {t : TypeId} {a b c} (h : P.underlying t = some (.func a b c)) (f : Fn) (x y : Array Value) : (Op.equalIn (d + 1) t (.func f x y) .nilFunc).run P W = .ok false W := by
  simp [Op.equalIn, run_underlying h]
theorem equalIn_nofunc {P : Program} (W : World) (d : Nat) {t : TypeId} {a b c} (h : P.underlying t = some (.func a b c)) : (Op.equalIn (d + 1) t .nilFunc .nilFunc).run P W = .ok true W := by
  simp [Op.equalIn, run_underlying h]
theorem eql_func {P : Program} {t : TypeId} {a b c} (h : P.underlying t = some (.func a b c)) (f : Fn) (x y : Array Value) (W : World) : (binOp .eql t (.func f x y) .nilFunc).run P W = .ok (.bool false) W := by
  simp only [binOp]
  simp [Op.equal, Op.maxDepth, equalIn_func W 9999 h]
theorem eql_nofunc {P : Program} {t : TypeId} {a b c} (h : P.underlying t = some (.func a b c)) (W : World) : (binOp .eql t .nilFunc .nilFunc).run P W = .ok (.bool true) W := by
  simp only [binOp]
  simp [Op.equal, Op.maxDepth, equalIn_nofunc W 9999 h]

/-- A tensor told by each, put into the block of the answer. -/
theorem RetT.put_ {r : Tn} {w w3 : World} {b : Nat} {A : Option Addr} {n c : Nat} {B : Option Addr} {m d : Nat} {C D : Option Addr} {c' d' : Nat} {l k : List Int} {err : Int} (hr : r = (l, k, err)) (hb : w.heap.size ≤ b)
    (hC : Rd w3 C l) (hD : Rd w3 D k) (h : Bk w3 b A n c B m d) (kp : Kp w w3) :
    RetT r w (.returned (.tuple #[.agg #[.slice C l.length c', .slice D k.length d'], .int .i64 err])) ((w3.setCell ⟨b, 0, none⟩ (.slice C l.length c')).setCell ⟨b, 1, none⟩ (.slice D k.length d')) :=
  RetT.of hr (hC.past h _ _) (hD.past h _ _) ((kp.setCell (p := ⟨b, 0, none⟩) hb _).setCell (p := ⟨b, 1, none⟩) hb _)

theorem RetT.out_ {r : Tn} {w w3 : World} {b : Nat} {err : Int} (hr : r = ([], [], err)) (hb : w.heap.size ≤ b) (kp : Kp w w3) :
    RetT r w (.returned (.tuple #[.agg #[.slice none 0 0, .slice none 0 0], .int .i64 err])) ((w3.setCell ⟨b, 0, none⟩ (.slice none 0 0)).setCell ⟨b, 1, none⟩ (.slice none 0 0)) :=
  RetT.err hr ((kp.setCell (p := ⟨b, 0, none⟩) hb _).setCell (p := ⟨b, 1, none⟩) hb _)

end Go.Proofs.Ytepnhmdjglpmeaa

/- What Two of layer 4 answers. -/
namespace Go.Proofs.Ytepnhmdjglpmeaa
open Go.RowKit Go.Proofs.ShM Go.Proofs.FixM
set_option linter.unusedVariables false

theorem spread_i64 {s xs g : List Int} (h : I64s xs) (k : Nat) : I64s (spreadL s xs g k) := by
  intro x hx
  unfold spreadL at hx
  obtain ⟨i, _, rfl⟩ := List.mem_map.1 hx
  cases hi : xs[(srcI s g i).toNat]? with
  | none => rw [List.getD, hi]; simp
  | some x => rw [List.getD, hi]; exact h.get hi
theorem join_spreads {s xs g ys j : List Int} (ht : tokV s xs = true) (hu : tokV g ys = true) (hj : joinV s g = (j, 0)) :
    spreadV s xs j = (j, spreadL s xs j (sizeV j).toNat, 0) ∧ spreadV g ys j = (j, spreadL g ys j (sizeV j).toNat, 0) :=
  have h := join_iff.1 hj
  ⟨TnG.spread_yes ht (fits_iff.2 h.left), TnG.spread_yes hu (fits_iff.2 h.right)⟩

/-- The blocks of Two: the tensors', the answer's. -/
structure Tw (w : World) (A : Option Addr) (n c : Nat) (B : Option Addr) (m d : Nat) (C : Option Addr) (n' c' : Nat) (D : Option Addr) (m' d' : Nat) (W : World) : Prop where
  a : Bk W w.heap.size A n c B m d
  b : Bk W (w.heap.size + 1) C n' c' D m' d'
  o : Bk W (w.heap.size + 1 + 1) none 0 0 none 0 0
  k : Kp w W
section
variable {w W W' : World} {A B C D : Option Addr} {n c m d n' c' m' d' : Nat}
theorem Tw.tr (h : Tw w A n c B m d C n' c' D m' d' W) (k : Kp W W') : Tw w A n c B m d C n' c' D m' d' W' := ⟨h.a.kp k, h.b.kp k, h.o.kp k, h.k.tr k⟩
theorem Tw.al (h : Tw w A n c B m d C n' c' D m' d' W) (o : Obj) : Tw w A n c B m d C n' c' D m' d' (W.alloc o) := h.tr (Kp.alloc_ _ _)
theorem Tw.mk_ (w : World) (A : Option Addr) (n c : Nat) (B : Option Addr) (m d : Nat) (C : Option Addr) (n' c' : Nat) (D : Option Addr) (m' d' : Nat) : Tw w A n c B m d C n' c' D m' d'
    (((w.alloc (.cells #[.slice A n c, .slice B m d] 24)).alloc (.cells #[.slice C n' c', .slice D m' d'] 24)).alloc (.cells #[.slice none 0 0, .slice none 0 0] 24)) :=
  ⟨((Bk.new rfl).alloc_ _).alloc_ _, (Bk.new (by simp)).alloc_ _, Bk.new (by simp), ((Kp.alloc_ _ _).al _).al _⟩
end
/-- A cell that holds a function. -/
def Fc (W : World) (b : Nat) (n : Nat) : Prop := W.cell? ⟨b, 0, none⟩ = some (.func (.func n) #[] #[]) ∧ b < W.heap.size
theorem Fc.kp {W W' : World} {b n : Nat} (h : Fc W b n) (k : Kp W W') : Fc W' b n := ⟨(k.cell (p := ⟨b, 0, none⟩) h.2).trans h.1, Nat.lt_of_lt_of_le h.2 k.size⟩
theorem Fc.new (W : World) (n : Nat) (t : TypeId) : Fc (W.alloc (.cells #[.func (.func n) #[] #[]] t)) W.heap.size n := ⟨by simp, by simp⟩

end Go.Proofs.Ytepnhmdjglpmeaa

/- The document's answers of layer 4 (fullerref04). -/
namespace Go.Proofs.Ytepnhmdjglpmeaa
open Go.RowKit Go.Proofs.ShM Go.Proofs.FixM
set_option linter.unusedVariables false

/-- A number's answer with an error is 0. -/
theorem put_err {n : Int} (h : (put n).2 ≠ 0) : put n = (0, (put n).2) := by
  rcases put_cases n with ⟨_, _, e⟩ | ⟨_, e⟩
  · rw [e] at h; exact absurd rfl h
  · rw [e]
theorem num_err {op x : Int} (h : (numV op x).2 ≠ 0) : numV op x = (0, (numV op x).2) := by
  unfold numV at *
  split at h
  · rename_i c; rw [if_pos c]; exact put_err h
  · rename_i c
    rw [if_neg c]
    split at h
    · exact absurd rfl h
    · rename_i c2
      rw [if_neg c2]
      split at h
      · rename_i c3
        rw [if_pos c3]
        unfold powV scaleV at *
        split at h
        · exact absurd rfl h
        · rename_i c4; rw [if_neg c4]; exact put_err h
      · rename_i c3
        rw [if_neg c3]
        split at h
        · rename_i c4
          rw [if_pos c4]
          unfold sqrtV at *
          split at h
          · rename_i c5; rw [if_pos c5]
          · exact absurd rfl h
        · rename_i c4; rw [if_neg c4]
theorem nums_err {op x y : Int} (h : (numsV op x y).2 ≠ 0) : numsV op x y = (0, (numsV op x y).2) := by
  unfold numsV at *
  by_cases c0 : op = 10
  · simp only [if_pos c0] at *; exact put_err h
  · simp only [if_neg c0] at *
    by_cases c1 : op = 11
    · simp only [if_pos c1] at *; exact put_err h
    · simp only [if_neg c1] at *
      by_cases c2 : op = 12
      · simp only [if_pos c2] at *; exact put_err h
      · simp only [if_neg c2] at *
        by_cases c3 : op = 13
        · simp only [if_pos c3] at *
          unfold divV at *
          by_cases c4 : y = 0
          · simp only [if_pos c4] at *
          · simp only [if_neg c4] at *; exact put_err h
        · simp only [if_neg c3] at *

end Go.Proofs.Ytepnhmdjglpmeaa

/- The document's Two of layer 4 (fullerref04). -/
namespace Go.Proofs.Ytepnhmdjglpmeaa
open Go.RowKit Go.Proofs.ShM Go.Proofs.FixM
set_option linter.unusedVariables false

theorem Own.kp0 {W0 w w' : World} {v : Value} {xs : List Int} (h : Own W0.heap.size w v xs) (k : Kp w w') : Own W0.heap.size w' v xs := h.kp k
/-- What stands since the loop's head. -/
theorem Tw.o_end {w W : World} {A B C D : Option Addr} {n c m d n' c' m' d' : Nat} (h : Tw w A n c B m d C n' c' D m' d' W) (x y : Value) : Kp w ((W.setCell ⟨w.heap.size + 1 + 1, 0, none⟩ x).setCell ⟨w.heap.size + 1 + 1, 1, none⟩ y) :=
  (h.k.setCell (p := ⟨w.heap.size + 1 + 1, 0, none⟩) (Nat.le_succ_of_le (Nat.le_succ _)) x).setCell (p := ⟨w.heap.size + 1 + 1, 1, none⟩) (Nat.le_succ_of_le (Nat.le_succ _)) y

end Go.Proofs.Ytepnhmdjglpmeaa

/- The document's Two of layer 4, its loop. -/
namespace Go.Proofs.Ytepnhmdjglpmeaa
open Go.RowKit Go.Proofs.ShM Go.Proofs.FixM
set_option linter.unusedVariables false

end Go.Proofs.Ytepnhmdjglpmeaa

/- Layer 4's calls with their answers written out; those whose answers the document fixes are as it says (awake). -/
namespace Go.Proofs.Ytepnhmdjglpmeaa
open Go.RowKit Go.Proofs.ShM Go.Proofs.FixM
set_option linter.unusedVariables false

section
variable {A B C D : Option Addr} {c d e f n m o q a b : Nat} {l k : List Int} {err op : Int} {w : World}
end

theorem TR.nil_ {w : World} {A B : Option Addr} : TR w A [] B [] := ⟨Rd.nil _ _, Rd.nil _ _⟩

end Go.Proofs.Ytepnhmdjglpmeaa

/- Plain facts of layer 4's laws: what two tensors are reckoned to, number by number. -/
namespace Go.Proofs.ShM
open Go.Proofs.FixM

theorem mapE_of {α : Type} {f : α → Int × Int} {l : List α} {g : α → Int} (h : ∀ x ∈ l, f x = (g x, 0)) : mapE f l = (l.map g, 0) := by
  have e : firstE f l = 0 := firstE_zero.2 fun x hx => by rw [h x hx]
  unfold mapE
  rw [if_pos e]
  congr 1
  exact List.map_congr_left fun x hx => by rw [h x hx]
theorem mapE_eq {α : Type} {f g : α → Int × Int} {l : List α} (h : ∀ x ∈ l, f x = g x) : mapE f l = mapE g l := by
  have := mapE_congr (F := f) (f := g) (h := fun x => x) (l := l) h
  simpa using this
theorem mapE_get {f : Nat → Int × Int} {N : Nat} (h : (mapE f (List.range N)).2 = 0) {i : Nat} (hi : i < N) : f i = ((mapE f (List.range N)).1.getD i 0, 0) := by
  obtain ⟨h1, h2⟩ := mapE_ok h
  rw [h2]
  have h3 := firstE_zero.1 h1 i (List.mem_range.2 hi)
  refine Prod.ext ?_ h3
  simp [List.getD, List.getElem?_map, List.getElem?_range hi]

/-- The two numbers' answer at a place. -/
def atN (op : Int) (s xs t ys j : List Int) (i : Nat) : Int × Int := numsV op (xs.getD (srcI s j i).toNat 0) (ys.getD (srcI t j i).toNat 0)
def endT (j : List Int) (r : List Int × Int) : Tn := if r.2 = 0 then (j, r.1, 0) else ([], [], r.2)
theorem endT_ok {j l : List Int} : endT j (l, 0) = (j, l, 0) := by unfold endT; rw [if_pos rfl]
theorem endT_zero {j : List Int} {r : List Int × Int} (h : (endT j r).2.2 = 0) : r.2 = 0 ∧ endT j r = (j, r.1, 0) := by
  unfold endT at *
  by_cases c : r.2 = 0
  · rw [if_pos c]; exact ⟨c, rfl⟩
  · rw [if_neg c] at h; exact absurd h c

theorem joined {s t j : List Int} (h : joinV s t = (j, 0)) : okS s = true ∧ okS t = true ∧ okS j = true ∧ fitsV s j = true ∧ fitsV t j = true := by
  have h' := join_iff.1 h
  exact ⟨h'.1, h'.2.1, h'.2.2.1, fits_iff.2 h'.left, fits_iff.2 h'.right⟩

theorem spread_is {s xs g : List Int} (h : tokV s xs = true) (k : fitsV s g = true) : spreadV s xs g = (g, spreadL s xs g (sizeV g).toNat, 0) := by unfold spreadV; rw [if_pos h, if_pos k]

section
variable {op : Int} {s xs t ys j : List Int}
theorem two_form (hop : 10 ≤ op ∧ op ≤ 13) (h1 : tokV s xs = true) (h2 : tokV t ys = true) (hj : joinV s t = (j, 0)) : twoV op s xs t ys = endT j (mapE (atN op s xs t ys j) (List.range (sizeV j).toNat)) := by
  obtain ⟨_, _, _, f1, f2⟩ := joined hj
  have e1 : spreadV s xs j = (j, spreadL s xs j (sizeV j).toNat, 0) := spread_is h1 f1
  have e2 : spreadV t ys j = (j, spreadL t ys j (sizeV j).toNat, 0) := spread_is h2 f2
  have e3 : two2 op (spreadL s xs j (sizeV j).toNat) (spreadL t ys j (sizeV j).toNat) = mapE (atN op s xs t ys j) (List.range (sizeV j).toNat) := by
    unfold two2 spreadL
    rw [List.zip_map']
    exact mapE_congr fun i _ => rfl
  unfold twoV
  rw [if_neg (by omega), if_neg (by simp [h1, h2]), hj]
  dsimp only
  rw [if_neg (by simp), e1, e2]
  dsimp only
  rw [e3]
  rfl
theorem two_nojoin (hop : 10 ≤ op ∧ op ≤ 13) (h1 : tokV s xs = true) (h2 : tokV t ys = true) (hj : joinV s t = ([], 20)) : twoV op s xs t ys = ([], [], 20) := by
  unfold twoV
  rw [if_neg (by omega), if_neg (by simp [h1, h2]), hj]
  rfl
theorem two_notok (hop : 10 ≤ op ∧ op ≤ 13) (h : tokV s xs = false ∨ tokV t ys = false) : twoV op s xs t ys = ([], [], 30) := by
  unfold twoV
  rw [if_neg (by omega), if_pos h]
theorem two_noop (hop : op < 10 ∨ 13 < op) : twoV op s xs t ys = ([], [], 1) := by unfold twoV; rw [if_pos hop]
/-- An answer without an error. -/
theorem two_zero (hop : 10 ≤ op ∧ op ≤ 13) (h : (twoV op s xs t ys).2.2 = 0) : ∃ j Z, tokV s xs = true ∧ tokV t ys = true ∧ joinV s t = (j, 0) ∧ twoV op s xs t ys = (j, Z, 0) ∧ Z.length = (sizeV j).toNat ∧ tokV j Z = true ∧ ∀ i, i < (sizeV j).toNat → atN op s xs t ys j i = (Z.getD i 0, 0) := by
  cases h1 : tokV s xs with
  | false => rw [two_notok hop (.inl h1)] at h; cases h
  | true =>
    cases h2 : tokV t ys with
    | false => rw [two_notok hop (.inr h2)] at h; cases h
    | true =>
      rcases join_cases s t with ⟨j, hj, ho⟩ | hj
      · rw [two_form hop h1 h2 hj] at h
        obtain ⟨z, e⟩ := endT_zero h
        have hl : (mapE (atN op s xs t ys j) (List.range (sizeV j).toNat)).1.length = (sizeV j).toNat := by rw [mapE_len z]; simp
        refine ⟨j, _, rfl, rfl, hj, by rw [two_form hop h1 h2 hj, e], hl, ?_, fun i hi => mapE_get z hi⟩
        exact tok_iff.2 ⟨ho, by rw [hl, size_nat ho]⟩
      · rw [two_nojoin hop h1 h2 hj] at h; cases h
/-- .. and which it is. -/
theorem two_is {Z : List Int} (hop : 10 ≤ op ∧ op ≤ 13) (h1 : tokV s xs = true) (h2 : tokV t ys = true) (hj : joinV s t = (j, 0)) (hl : Z.length = (sizeV j).toNat) (h : ∀ i, i < (sizeV j).toNat → atN op s xs t ys j i = (Z.getD i 0, 0)) : twoV op s xs t ys = (j, Z, 0) := by
  rw [two_form hop h1 h2 hj, mapE_of (g := fun i => Z.getD i 0) (fun i hi => h i (List.mem_range.1 hi)), endT_ok]
  have : (List.range (sizeV j).toNat).map (fun i => Z.getD i 0) = Z := by
    refine ext0 (by simp [hl]) fun i hi => ?_
    have hi' : i < (sizeV j).toNat := by simpa using hi
    simp [List.getD, List.getElem?_map, List.getElem?_range hi']
  rw [this]
/-- Two are reckoned alike where each two numbers are. -/
theorem two_alike {op' : Int} {s' xs' t' ys' : List Int} (hop : 10 ≤ op ∧ op ≤ 13) (hop' : 10 ≤ op' ∧ op' ≤ 13) (h1 : tokV s xs = true) (h2 : tokV t ys = true) (h1' : tokV s' xs' = true) (h2' : tokV t' ys' = true) (hj : joinV s t = (j, 0)) (hj' : joinV s' t' = (j, 0))
    (h : ∀ i, i < (sizeV j).toNat → atN op s xs t ys j i = atN op' s' xs' t' ys' j i) : twoV op s xs t ys = twoV op' s' xs' t' ys' := by
  rw [two_form hop h1 h2 hj, two_form hop' h1' h2' hj']
  rw [mapE_eq fun i hi => h i (List.mem_range.1 hi)]
end

theorem put_i64 (n : Int) : -9223372036854775808 ≤ (put n).1 ∧ (put n).1 ≤ 9223372036854775807 := by
  rcases put_cases n with ⟨h1, h2, e⟩ | ⟨_, e⟩
  · rw [e]; exact ⟨h1, h2⟩
  · rw [e]; simp
theorem nums_i64 (op a b : Int) : -9223372036854775808 ≤ (numsV op a b).1 ∧ (numsV op a b).1 ≤ 9223372036854775807 := by
  unfold numsV addV subV mulV divV
  repeat' split
  all_goals first
    | exact put_i64 _
    | simp
theorem two_err (op : Int) (s xs t ys : List Int) (h : (twoV op s xs t ys).2.2 ≠ 0) : twoV op s xs t ys = ([], [], (twoV op s xs t ys).2.2) := by
  by_cases hop : op < 10 ∨ 13 < op
  · rw [two_noop hop]
  · have hop' : 10 ≤ op ∧ op ≤ 13 := by omega
    cases h1 : tokV s xs with
    | false => rw [two_notok hop' (.inl h1)]
    | true =>
      cases h2 : tokV t ys with
      | false => rw [two_notok hop' (.inr h2)]
      | true =>
        rcases join_cases s t with ⟨j, hj, _⟩ | hj
        · rw [two_form hop' h1 h2 hj] at h ⊢
          unfold endT at *
          by_cases c : (mapE (atN op s xs t ys j) (List.range (sizeV j).toNat)).2 = 0
          · rw [if_pos c] at h; exact absurd rfl h
          · rw [if_neg c]
        · rw [two_nojoin hop' h1 h2 hj]
theorem two_i64 (op : Int) (s xs t ys : List Int) : I64s (twoV op s xs t ys).2.1 := by
  by_cases hop : op < 10 ∨ 13 < op
  · rw [two_noop hop]; exact I64s.nil_
  · have hop' : 10 ≤ op ∧ op ≤ 13 := by omega
    by_cases h : (twoV op s xs t ys).2.2 = 0
    · obtain ⟨j, Z, _, _, _, e, hl, _, hz⟩ := two_zero hop' h
      rw [e]
      intro x hx
      obtain ⟨i, hi, rfl⟩ := List.mem_iff_getElem.1 hx
      have h1 := hz i (by rw [← hl]; exact hi)
      have h2 : Z.getD i 0 = Z[i] := by simp [List.getD, List.getElem?_eq_getElem hi]
      rw [h2] at h1
      have h3 := nums_i64 op (xs.getD (srcI s j i).toNat 0) (ys.getD (srcI t j i).toNat 0)
      unfold atN at h1
      rw [h1] at h3
      exact h3
    · rw [two_err op s xs t ys h]; exact I64s.nil_
theorem addV_comm (a b : Int) : addV a b = addV b a := by unfold addV; rw [Int.add_comm]
theorem mulV_comm (a b : Int) : mulV a b = mulV b a := by unfold mulV; rw [Int.mul_comm]
theorem two_comm {op : Int} (hop : op = 10 ∨ op = 12) {s xs t ys : List Int} (h1 : tokV s xs = true) (h2 : tokV t ys = true) : twoV op s xs t ys = twoV op t ys s xs := by
  have hop' : 10 ≤ op ∧ op ≤ 13 := by omega
  rcases join_cases s t with ⟨j, hj, _⟩ | hj
  · refine two_alike hop' hop' h1 h2 h2 h1 hj (by rw [join_comm]; exact hj) fun i _ => ?_
    unfold atN
    rcases hop with rfl | rfl
    · exact addV_comm _ _
    · exact mulV_comm _ _
  · rw [two_nojoin hop' h1 h2 hj, two_nojoin hop' h2 h1 (by rw [join_comm]; exact hj)]
theorem put_zero (n : Int) (h : -9223372036854775808 ≤ n ∧ n ≤ 9223372036854775807) : put n = (n, 0) := put_in h.1 h.2
theorem put_ok {n z : Int} (h : put n = (z, 0)) : z = n ∧ -9223372036854775808 ≤ n ∧ n ≤ 9223372036854775807 := by
  rcases put_cases n with ⟨h1, h2, e⟩ | ⟨_, e⟩
  · rw [e] at h; injection h with h _; exact ⟨h.symm, h1, h2⟩
  · rw [e] at h; injection h with _ h; cases h
theorem join_self {s : List Int} (h : okS s = true) : joinV s s = (s, 0) := join_iff.2 (Jn.self h)
theorem src_id {s xs : List Int} (h : tokV s xs = true) {i : Nat} (hi : i < (sizeV s).toNat) : (srcI s s i).toNat = i := by
  have ho := (tok_len h).1
  have := size_nat ho
  rw [src_self ho (by omega) (by omega)]
  omega
theorem getD_i64 {xs : List Int} (h : I64s xs) (i : Nat) : -9223372036854775808 ≤ xs.getD i 0 ∧ xs.getD i 0 ≤ 9223372036854775807 := by
  cases hi : xs[i]? with
  | none => rw [List.getD, hi]; simp
  | some x => rw [List.getD, hi]; exact h.get hi
/-- A tensor less itself. -/
theorem two_self {s xs : List Int} (h : tokV s xs = true) : twoV 11 s xs s xs = (s, List.replicate (sizeV s).toNat 0, 0) := by
  refine two_is (by omega) h h (join_self (tok_len h).1) (by simp) fun i hi => ?_
  unfold atN
  rw [show ∀ a b, numsV 11 a b = subV a b from fun a b => rfl]
  unfold subV
  rw [Int.sub_self, put_zero 0 (by omega), rep_getD _ _ _ hi]
/-- What was added is taken away again. -/
theorem two_back {s xs t ys : List Int} (hx : I64s xs) (h : (twoV 10 s xs t ys).2.2 = 0) :
    ∃ j Z, twoV 10 s xs t ys = (j, Z, 0) ∧ twoV 11 j Z t ys = (j, spreadL s xs j (sizeV j).toNat, 0) ∧ spreadV s xs j = (j, spreadL s xs j (sizeV j).toNat, 0) := by
  obtain ⟨j, Z, h1, h2, hj, e, hl, hk, hz⟩ := two_zero (by omega) h
  obtain ⟨_, _, hoj, f1, f2⟩ := joined hj
  refine ⟨j, Z, e, ?_, spread_is h1 f1⟩
  refine two_is (by omega) hk h2 (join_iff.2 (fits_iff.1 f2).comm) (spread_len _ _ _ _) fun i hi => ?_
  have hz' := hz i hi
  unfold atN at *
  rw [show ∀ a b, numsV 10 a b = addV a b from fun a b => rfl] at hz'
  rw [show ∀ a b, numsV 11 a b = subV a b from fun a b => rfl, src_id hk hi, spread_getD hi]
  obtain ⟨e1, _⟩ := put_ok hz'
  rw [e1]
  unfold subV
  rw [show ∀ a b : Int, a + b - b = a from fun a b => by omega]
  exact put_zero _ (getD_i64 hx _)
end Go.Proofs.ShM
