/- A region that draws its order, in a round of a range over a function: its operations read, in the order of the text, and the last ones write. -/
import Derived.Test.YtdekchfapblgeaaTnH
import Derived.RangeFuncBox
import Derived.StillTailTactics
import Derived.BigQuiet
import Derived.Deep.QuietTactic
namespace Go.Proofs.Ytdekchfapblgeaa
open Go.RowKit Go.Shelf

section
variable {P : Program} {ops : Array Oper} {md : Region.Mode} {Q : Exit → Act → World → Prop}
theorem uponIn_of_upon {l n : Nat} {o : Oper} {a : Act} {next : Act → World → Prop} {r : Result Next} (h : o.upon P a next Q r) : o.uponIn (Fence.wide.inRound l) n P a next Q r := by
  cases r with
  | ok nx w' =>
    cases nx with
    | value v => exact h
    | skip => exact h
    | defer d => exact h
    | enter f args => exact ⟨fun h => (by cases h), CallsIn.inRound l (callsIn_wide.2 h)⟩
    | row row args => exact ⟨fun h => (by cases h), fun c cs _ => let ⟨v, w', r, s⟩ := h c cs; ⟨v, w', r, stepsIn_wide.2 s⟩⟩
    | _ => exact h.elim
  | halt hh w' =>
    cases hh with
    | panic v => exact h
    | _ => exact h.elim
/-- No operation is a defer statement. -/
def noDefer (ops : Array Oper) : Bool := ops.all fun o => match o.op with | .defer _ => false | _ => true
theorem noDefer_spec {ops : Array Oper} (h : noDefer ops = true) {i : Nat} {o : Oper} (ho : ops[i]? = some o) : ∀ c, o.op ≠ .defer c := by
  intro c e
  unfold noDefer at h
  rw [Array.all_eq_true] at h
  obtain ⟨hi, rfl⟩ := Array.getElem?_eq_some_iff.1 ho
  have := h i hi
  rw [e] at this
  cases this
theorem wpAnyIn_of_wpAny {l n : Nat} (hd : noDefer ops = true) (hL : ¬ LetsOut Q) : ∀ (fuel : Nat) (listed : Array Bool) (a : Act) (w : World), wpAny P md ops Q fuel listed a w → wpAnyIn (Fence.wide.inRound l) n P md ops Q fuel listed a w := by
  intro fuel
  induction fuel with
  | zero => intro listed a w h; exact h
  | succ fuel ih =>
    intro listed a w h
    refine ⟨h.1, fun i hi => ?_⟩
    have := wpOp_mono (fun a w => ih _ a w) (h.2 i hi)
    unfold wpOp at this
    unfold wpOpIn
    cases ho : ops[i]? with
    | none => rw [ho] at this; exact this
    | some o =>
      rw [ho] at this
      simp only at this ⊢
      split
      · rename_i hw
        rw [if_pos hw] at this
        rcases this with h1 | ⟨_, h2⟩
        · refine ⟨fun _ _ => trivial, ?_⟩
          have e : (Oper.semAt (Fence.wide.inRound l).round a.eval o) = execOp a.eval o := Oper.semAt_some l a.eval o (noDefer_spec hd ho)
          rw [e]
          exact uponIn_of_upon h1
        · exact absurd h2 hL
      · rename_i hw
        rw [if_neg hw] at this
        exact ⟨fun _ _ => trivial, this⟩

/-- Its operations but the last ones only read; those come in their order. -/
theorem round_tail {id l m : Nat} {a : Act} {w : World} {os : List Oper} (n : Nat) (hm : P.follows .mixedOrders = true) (hB : Region.lexTailB .any os.toArray n = true) (hd : noDefer os.toArray = true) (hL : ¬ LetsOut Q)
    (h : wpStill P os.toArray { w with drawn := w.drawn + 1 } (fun a' => wpList P os.toArray Q (os.drop n) a' { w with drawn := w.drawn + 1 }) (os.take n) a) : (Code.region id os.toArray true).wpIn (Fence.wide.inRound l) m P Q a w := by
  simp only [Region.lexTailB, Bool.and_eq_true, decide_eq_true_eq] at hB
  obtain ⟨⟨⟨⟨hsel, hn⟩, hs⟩, hc⟩, hlex⟩ := hB
  have hn' : n < os.length := by simpa using hn
  have htl : (os.take n).length = n := by simp; omega
  have hdl : (os.drop n).length = os.toArray.size - n := by simp
  have inv0 : HeadInv .any os.toArray n (Array.replicate os.toArray.size false) :=
    ⟨by simp, fun j oj _ hl => (by rw [getD_replicate_false] at hl; cases hl), fun t _ ht => getD_in (by simpa using ht) (getD_replicate_false _ _)⟩
  have H := wpAnyL_lex (md := .any) (g := os.toArray.size - n) hsel hs hc hn (os.take n) 0 _ a (fun j hj => by
    have hj' : j < n := by rw [htl] at hj; exact hj
    simp [hj']) (by simpa using htl) inv0 (by rw [htl]; exact hlex) h
  refine wpIn_region_any hm (wpAnyIn_of_wpAny hd hL _ _ _ _ ?_)
  have := wpAny_of_head (Q' := Q) (g := os.toArray.size - n) (fun listed a' hL => by
    have := wpAny_of_seq (md := .any) (Q' := Q) (os.drop n) n listed a' { w with drawn := w.drawn + 1 } (fun j => by simp [List.getElem?_drop]) (by rw [hdl]; exact hL.1) hL.2
    rwa [hdl] at this) _ _ _ H
  rw [htl, show n + (os.toArray.size - n) = os.toArray.size by omega] at this
  exact this
/-- Its operations, and what they call, only read. -/
theorem round_quiet {id l m : Nat} {a : Act} {w : World} {os : List Oper} (hm : P.follows .mixedOrders = true) (hB : Region.lexB .any os.toArray = true) (hd : noDefer os.toArray = true) (hL : ¬ LetsOut Q)
    (h : wpQuiet P os.toArray (fun w' => ∃ n, w' = w.drewN n) (fun a' => ∀ w', (∃ n, w' = w.drewN n) → Q .normal a' w') os a) : (Code.region id os.toArray true).wpIn (Fence.wide.inRound l) m P Q a w := by
  simp only [Region.lexB, Bool.and_eq_true] at hB
  refine wpIn_region_any hm (wpAnyIn_of_wpAny hd hL _ _ _ _ (wpAny_of_quiet (C := fun w' => ∃ n, w' = w.drewN n) (Q := fun a' => ∀ w', (∃ n, w' = w.drewN n) → Q .normal a' w') (fun _ w' hw' h => h w' hw') _ _ _ _ ⟨1, rfl⟩ ?_))
  have := wpAnyQ_lex (C := fun w' => ∃ n, w' = w.drewN n) (md := .any) hB.1 os 0 (Array.replicate os.toArray.size false) a (by simp) (by simpa using hB.2) h
  simpa using this
end

theorem wpIn_calm {F : Fence} {n : Nat} {P : Program} {c : Code} {K : Act → World → Prop} {Q : Exit → Act → World → Prop} {a : Act} {w : World} (h : c.wpIn F n P (Exit.then K (fun _ _ _ => False)) a w) : c.wpIn F n P (Exit.then K Q) a w :=
  wpIn_mono h fun e _ _ hq => by
    cases e with
    | normal => exact hq
    | _ => exact hq.elim
/-- The return of a function with a range over a function. -/
theorem ret_marks {F : Fence} {n : Nat} {P : Program} {fn : Func} {R : Ending → World → Prop} {tmps : Array Value} {D : Nat} {W : World} {v : Value} (hK : W.heap[D]? = some (.deferred (some [])))
    (hres : (results fn tmps).run P (W.putObj D (.deferred none)) = .ok v (W.putObj D (.deferred none))) (hR : R (.returned v) (W.putObj D (.deferred none))) :
    bodyPostM F n P fn R .ret { tmps := tmps, defers := [{ target := .collected D, args := #[] }] } W :=
  ⟨by simp, .inl ⟨_, _, rfl, run_takeDeferred hK, v, hres, hR⟩⟩

section
variable {w a : World} {A B : Option Addr} {n c m d D : Nat}
/-- The world at the return. -/
def finW (w a : World) (x y : Value) : World := (a.setCell ⟨w.heap.size + 1, 0, none⟩ x).setCell ⟨w.heap.size + 1, 1, none⟩ y
theorem fin_K (hD : a.heap[D]? = some (.deferred (some []))) (hne : w.heap.size + 1 < D) (x y : Value) : (finW w a x y).heap[D]? = some (.deferred (some [])) := by
  unfold finW
  rw [Below.heap_setCell _ _ _ D (by show D ≠ w.heap.size + 1; omega), Below.heap_setCell _ _ _ D (by show D ≠ w.heap.size + 1; omega)]
  exact hD
theorem fin_B (hD : a.heap[D]? = some (.deferred (some []))) (hne : w.heap.size + 1 < D) (x y : Value) : Below D (finW w a x y) ((finW w a x y).putObj D (.deferred none)) := by
  have hK := fin_K (w := w) hD hne x y
  exact (Below.refl D _).grown (grownBy_putObj' _ D _) (Nat.le_of_lt (Array.getElem?_eq_some_iff.1 hK).1) (fun k e => by cases e; exact Nat.le_refl _)
theorem Fr.fin_0 (h : Fr w A n c B m d a) (hD : a.heap[D]? = some (.deferred (some []))) (hne : w.heap.size + 1 < D) (x y : Value) : ((finW w a x y).putObj D (.deferred none)).cell? ⟨w.heap.size + 1, 0, none⟩ = some x := by
  rw [(fin_B hD hne x y).cell (p := ⟨w.heap.size + 1, 0, none⟩) hne]
  exact cell_ne (by simp) (World.cell?_setCell_same' _ _ _ (by rw [h.r0]; rfl))
theorem Fr.fin_1 (h : Fr w A n c B m d a) (hD : a.heap[D]? = some (.deferred (some []))) (hne : w.heap.size + 1 < D) (x y : Value) : ((finW w a x y).putObj D (.deferred none)).cell? ⟨w.heap.size + 1, 1, none⟩ = some y := by
  rw [(fin_B hD hne x y).cell (p := ⟨w.heap.size + 1, 1, none⟩) hne]
  exact World.cell?_setCell_same' _ _ _ (some_ne (by simp) (by rw [h.r1]; rfl))
theorem Fr.fin_kp (h : Fr w A n c B m d a) (hD : a.heap[D]? = some (.deferred (some []))) (hne : w.heap.size + 1 < D) (x y : Value) : Kp w ((finW w a x y).putObj D (.deferred none)) :=
  (h.end_ x y).trans ((fin_B hD hne x y).mono (by omega))
theorem Own.fin {b : Nat} {v : Value} {xs : List Int} (h : Own b a v xs) (hb : w.heap.size + 1 < b) (hD : a.heap[D]? = some (.deferred (some []))) (hne : w.heap.size + 1 < D) (x y : Value) : Own b ((finW w a x y).putObj D (.deferred none)) v xs :=
  ownsRow_putObj ((h.put_ (p := ⟨w.heap.size + 1, 0, none⟩) hb x).put_ (p := ⟨w.heap.size + 1, 1, none⟩) hb y) _ (fin_K hD hne x y) rfl
end
end Go.Proofs.Ytdekchfapblgeaa
