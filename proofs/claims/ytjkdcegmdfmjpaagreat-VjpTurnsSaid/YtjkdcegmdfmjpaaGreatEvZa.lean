import Derived.Test.YtjkdcegmdfmjpaaGreatTk
import Derived.Test.YtjkdcegmdfmjpaaGreatInZk
import Derived.Test.YtjkdcegmdfmjpaaGreatImMem
set_option maxHeartbeats 16000000
set_option maxRecDepth 100000
set_option linter.unusedVariables false
set_option linter.unusedSimpArgs false
namespace Go.Proofs.YtjkdcegmdfmjpaaGreat.Ez
open Go.RowKit Go.Proofs.ShM Go.Proofs.GrM Go.Proofs.InM Go.Proofs.ImM
def Bx (W : World) (b : Nat) (cs : List Value) (t : TypeId) : Prop := W.heap[b]? = some (.cells cs.toArray t (0, 0))
section
variable {W W' : World} {b : Nat} {cs : List Value} {t : TypeId}
theorem Bx.lt (h : Bx W b cs t) : b < W.heap.size := (Array.getElem?_eq_some_iff.1 h).1
theorem Bx.cell (h : Bx W b cs t) {j : Nat} {v : Value} (hv : cs[j]? = some v) : W.cell? ⟨b, j, none⟩ = some v := by
 simp only [World.cell?, show W.heap[b]? = _ from h]
 simpa using hv
theorem Bx.frz (h : Bx W b cs t) (i : Nat) : W.frozen? ⟨b, i, none⟩ = false := by simp [World.frozen?, show W.heap[b]? = _ from h]
theorem Bx.kp (h : Bx W b cs t) (k : Kp W W') : Bx W' b cs t := (k.block b h.lt).trans h
theorem Bx.new (h : b = W.heap.size) : Bx (W.alloc (.cells cs.toArray t)) b cs t := by
 subst h
 show (W.heap.push _)[W.heap.size]? = some _
 simp
theorem Bx.set (h : Bx W b cs t) (j : Nat) (x : Value) : Bx (W.setCell ⟨b, j, none⟩ x) b (cs.set j x) t := by
 have := heap_set h j x
 rw [List.setIfInBounds_toArray] at this
 exact this
theorem Bx.other (h : Bx W b cs t) {p : Addr} (hne : b ≠ p.block) (x : Value) : Bx (W.setCell p x) b cs t := by
 unfold Bx
 rw [Below.heap_setCell _ _ _ b hne]; exact h
theorem Rd.pastB {A0 : Option Addr} {xs : List Int} {p q : Value} (hp : ∀ u : Int, p ≠ .int .i64 u) (hq : ∀ u : Int, q ≠ .int .i64 u) (r : Rd W A0 xs) (h : Bx W b [p, q, .int .i64 0] t) (x y : Value) :
  Rd (((W.setCell ⟨b, 0, none⟩ x).setCell ⟨b, 1, none⟩ y).setCell ⟨b, 2, none⟩ (.int .i64 0)) A0 xs := by
 by_cases hne : ∀ ad, A0 = some ad → 0 < xs.length → ad.block ≠ b
 ·cases xs with
  | nil => exact Rd.nil _ _
  | cons z zs =>
   have hne' := fun ad e => hne ad e (by simp)
   exact ((r.put_ hne' x).put_ hne' y).put_ hne' _
 ·have hex : ∃ ad, A0 = some ad ∧ 0 < xs.length ∧ ad.block = b := by
   apply Classical.byContradiction
   intro hn
   exact hne fun ad e hp hb => hn ⟨ad, e, hp, hb⟩
  obtain ⟨ad, rfl, hpos, hb⟩ := hex
  obtain ⟨ad', e', hlt, hc⟩ := r.2 hpos
  injection e' with e'
  subst e'
  have hW := ((h.set 0 x).set 1 y).set 2 (.int .i64 0)
  refine ⟨r.1, fun _ => ⟨ad, rfl, by rw [hb]; exact hW.lt, fun j u hu => ?_⟩⟩
  have h0 := hc j u hu
  have hbb : (ad.add j).block = b := by rw [block_of_add]; exact hb
  generalize ad.add j = z at h0 hbb
  obtain ⟨zb, off, spot⟩ := z
  have hbb : zb = b := hbb
  subst hbb
  simp only [World.cell?, show W.heap[zb]? = _ from h] at h0
  simp only [World.cell?, show (((W.setCell ⟨zb, 0, none⟩ x).setCell ⟨zb, 1, none⟩ y).setCell ⟨zb, 2, none⟩ (.int .i64 0)).heap[zb]? = _ from hW]
  cases spot with
  | some s => simp at h0
  | none =>
   match off, h0 with
   | 0, h0 => exact absurd (by simpa using h0) (hp u)
   | 1, h0 => exact absurd (by simpa using h0) (hq u)
   | 2, h0 => simpa using h0
   | k + 3, h0 => simp at h0
end
theorem slice_ne (A : Option Addr) (n c : Nat) (u : Int) : Value.slice A n c ≠ .int .i64 u := by intro h; cases h
def RetTo (r : T × Int) (w : World) (e : Ending) (w' : World) : Prop :=
 ∃ A c B d, e = .returned (.agg #[.slice A r.1.1.length c, .slice B r.1.2.length d, .int .i64 r.2]) ∧ Sl w' A c r.1.1 ∧ Sl w' B d r.1.2 ∧ Kp w w'
theorem RetTo.box {r : T × Int} {s xs : List Int} {err : Int} {w w3 : World} {b n m : Nat} {A B : Option Addr} {c d : Nat} {p q : Value} {t : TypeId} (hp : ∀ u : Int, p ≠ .int .i64 u) (hq : ∀ u : Int, q ≠ .int .i64 u) (hr : r = ((s, xs), err)) (hn : n = s.length) (hm : m = xs.length) (he : err ≠ 0 → s = [] ∧ xs = []) (hb : w.heap.size ≤ b) (F : Bx w3 b [p, q, .int .i64 0] t)
  (hA : Sl w3 A c s) (hB : Sl w3 B d xs) (k : Kp w w3) :
  RetTo r w (.returned (.agg #[.slice A n c, .slice B m d, .int .i64 err])) (((w3.setCell ⟨b, 0, none⟩ (.slice A n c)).setCell ⟨b, 1, none⟩ (.slice B m d)).setCell ⟨b, 2, none⟩ (.int .i64 err)) := by
 subst hr hn hm
 have kk := ((k.setCell (p := ⟨b, 0, none⟩) hb (.slice A s.length c)).setCell (p := ⟨b, 1, none⟩) hb (.slice B xs.length d)).setCell (p := ⟨b, 2, none⟩) hb (.int .i64 err)
 by_cases h0 : err = 0
 ·subst h0
  exact ⟨A, c, B, d, rfl, ⟨Rd.pastB hp hq hA.rd F _ _, hA.le, hA.cap⟩, ⟨Rd.pastB hp hq hB.rd F _ _, hB.le, hB.cap⟩, kk⟩
 ·obtain ⟨rfl, rfl⟩ := he h0
  exact ⟨A, c, B, d, rfl, ⟨Rd.nil _ _, hA.le, hA.cap⟩, ⟨Rd.nil _ _, hB.le, hB.cap⟩, kk⟩
theorem tell_t (A B : Option Addr) (n c m d : Nat) (err : Int) (w : World) :
  Calls Tryz.prog 27 #[.agg #[.slice A n c, .slice B m d], .int .i64 err] w fun e w' => e = .returned (.agg #[.slice A n c, .slice B m d, .int .i64 err]) ∧ Kp w w' := by
 go_enter Tryz.func27, Tryz.ntmps27
 go_wp2
 refine bodyPost_ret (v := .agg #[.slice A n c, .slice B m d, .int .i64 err]) (by simp [results, Tryz.results27, go_sem]; try rfl) rfl ?_
 exact ⟨rfl, (Kp.alloc_ _ _).tr (Kp.alloc_ _ _)⟩
theorem tell_l (A : Option Addr) (n c : Nat) (err : Int) (w : World) :
  Calls Tryz.prog 24 #[.slice A n c, .int .i64 err] w fun e w' => e = .returned (.agg #[.slice A n c, .int .i64 err]) ∧ Kp w w' := by
 go_enter Tryz.func24, Tryz.ntmps24
 go_wp2
 refine bodyPost_ret (v := .agg #[.slice A n c, .int .i64 err]) (by simp [results, Tryz.results24, go_sem]; try rfl) rfl ?_
 exact ⟨rfl, Kp.alloc_ _ _⟩
theorem run_copy_none2 {P : Program} (w : World) (dT sT ty elem : TypeId) (d a : Option Addr) (dLen dCap sLen sCap : Nat) (hu : P.underlying dT = some (.slice elem)) (hs : (P.info? elem).map (·.size) = some 2) (hn : Nat.min sLen dLen = 0) :
  (Builtin.copy_ #[dT, sT] ty #[.slice d dLen dCap, .slice a sLen sCap]).run P w = .ok (goInt 0) w := by
 cases hq : P.info? elem with
 | none => simp [hq] at hs
 | some i =>
  have hl : ∀ (x : Addr), (loadCells x 0).run P w = .ok #[] w := fun x => by simpa using run_loadCells_list (P := P) w x [] (by simp)
  cases d <;> cases a <;> simp [Builtin.copy_, run_underlying hu, Builtin.lenOf, Builtin.firstCells, sizeOf, typeInfo, hq, hn, storeCells, hl]
theorem run_copy_row2 {P : Program} (w : World) (dT sT ty elem : TypeId) (g o dLen dCap : Nat) (a : Addr) (sLen sCap : Nat) (cur : Array Value) (t : TypeId) (cs : List Value) (n : Nat)
  (hu : P.underlying dT = some (.slice elem)) (hs : (P.info? elem).map (·.size) = some 2)
  (hg : w.heap[g]? = some (.cells cur t (0, 0))) (hn : n = Nat.min sLen dLen) (hc : cs.length = n * 2)
  (hsrc : ∀ j v, cs[j]? = some v → w.cell? (a.add j) = some v) (hfit : o + cs.length ≤ cur.size) (h1 : ∀ v ∈ cs, v.oneCell' = true) :
  (Builtin.copy_ #[dT, sT] ty #[.slice (some ⟨g, o, none⟩) dLen dCap, .slice (some a) sLen sCap]).run P w =
   .ok (goInt n) (w.setRow g (cur.toList.take o ++ cs ++ cur.toList.drop (o + cs.length)).toArray) := by
 have hl := run_loadCells_list (P := P) w a cs hsrc
 rw [hc] at hl
 have hst := run_storeCells_at P g o t cs 0 cur w hg (by simpa using hfit) h1
 cases hq : P.info? elem with
 | none => simp [hq] at hs
 | some i =>
  have hi : i.size = 2 := by simpa [hq] using hs
  simp [Builtin.copy_, run_underlying hu, Builtin.lenOf, Builtin.firstCells, sizeOf, typeInfo, hq, hi, ← hn, hl, hst]
theorem wpList_copy2 {P : Program} {w : World} {ops : Array Oper} {rest : List Oper} {o : Oper} {a : Act} {Q : Exit → Act → World → Prop} (hgd : o.guard = none) (d s : Operand) (dT sT : TypeId)
  (ho : o.op = .call { callee := .builtin .copy, args := #[d, s], argTypes := #[dT, sT] }) (elem : TypeId) (hu : P.underlying dT = some (.slice elem)) (hsz : (P.info? elem).map (·.size) = some 2)
  (dp sp : Option Addr) (dLen dCap sLen sCap : Nat) (hd : a.eval d = .slice dp dLen dCap) (hs : a.eval s = .slice sp sLen sCap)
  (g off : Nat) (cur : List Value) (t : TypeId) (hg : w.heap[g]? = some (.cells cur.toArray t (0, 0))) (cs : List Value) (n : Nat) (hn : n = Nat.min sLen dLen) (hc : cs.length = n * 2)
  (hpos : 0 < cs.length → dp = some ⟨g, off, none⟩ ∧ ∃ ad, sp = some ad ∧ ∀ j v, cs[j]? = some v → w.cell? (ad.add j) = some v)
  (hfit : off + cs.length ≤ cur.length) (h1 : ∀ v ∈ cs, v.oneCell' = true) (B : Nat) (w0 : World) (hb : Below B w0 w) (hBg : B ≤ g)
  (h : ∀ w', Hid (w'.heap[g]? = some (.cells (splice cur off cs).toArray t (0, 0))) → Below B w0 w' → wpList P ops Q rest (a.put o.dst (goInt n)) w') :
  wpList P ops Q (o :: rest) a w := by
 refine wpList_plain hgd fun K hK => ?_
 by_cases h0 : cs.length = 0
 ·obtain rfl : cs = [] := List.eq_nil_of_length_eq_zero h0
  have hrun := run_copy_none2 (P := P) w dT sT o.type elem dp sp dLen dCap sLen sCap hu hsz (by simp at hc; omega)
  unfold Oper.wp
  simp [execOp, ho, resolve, invoke, builtin, hd, hs, hrun, Result.andThen]
  have hn0 : n = 0 := by simp at hc; omega
  subst hn0
  exact hK _ _ (h w (show _ = _ by simpa [splice] using hg) hb)
 ·obtain ⟨rfl, ad, rfl, hsrc⟩ := hpos (by omega)
  have hrun := run_copy_row2 (P := P) w dT sT o.type elem g off dLen dCap ad sLen sCap cur.toArray t cs n hu hsz hg hn hc hsrc (by simpa using hfit) h1
  unfold Oper.wp
  simp [execOp, ho, resolve, invoke, builtin, hd, hs, hrun, Result.andThen]
  exact hK _ _ (h _ (show _ = _ by simpa [splice] using setRow_heap w g _ _ t _ hg) (below_setRow hb hBg _))
section
variable {w w' : World} {B g cap : Nat} {ts : List T}
theorem flat_slice {X : Nat → Prop} {vs : List V2} (h : AllV w X vs ts) : ∀ u ∈ flat vs, ∃ A n c, u = Value.slice A n c := fun u hu => by
 unfold flat at hu
 rw [List.mem_flatMap] at hu
 obtain ⟨p, hp, hu⟩ := hu
 obtain ⟨j, hj⟩ := List.mem_iff_getElem?.1 hp
 have hjl : j < ts.length := by have := (List.getElem?_eq_some_iff.1 hj).1; rw [h.len] at this; exact this
 obtain ⟨P, c1, Q, d1, ep, _⟩ := h.at_ j p _ hj (List.getElem?_eq_getElem hjl)
 rw [ep] at hu
 simp at hu
 rcases hu with rfl | rfl
 ·exact ⟨_, _, _, rfl⟩
 ·exact ⟨_, _, _, rfl⟩
end
end Go.Proofs.YtjkdcegmdfmjpaaGreat.Ez
