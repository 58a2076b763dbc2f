/- A range over a function that hands on new memory: what the function tells, and the loop over it; the indices of a shape. -/
import Derived.Test.YtdjfjhanffliiaaPvA
namespace Go.Proofs.Ytdjfjhanffliiaa
open Go.RowKit Go.Shelf Go.Proofs.ShM
set_option linter.unusedVariables false
attribute [local go_sem] Oper.semAt_some

section
variable {P : Program} {α : Type}
/-- The function at g tells N times; each time x (its k-th) of which E holds, in memory made since the round before. -/
def Told (P : Program) (n : Nat) (g : Nat) (lb : Array Value) (encs : α → Array Value) (E : Nat → α → Nat → World → Prop) (Z : World → Prop) (N : Nat) (w : World) : Prop :=
  ∀ (l : Nat) (J : Nat → World → Prop) (W : World), Kp w W → (∀ k A B, J k A → Kp A B → J k B) →
    (∀ k x A B, k < N → J k A → Kp A B → E k x A.heap.size B → YieldAt Fence.wide (n - 1) P l (encs x) B fun e W' => e = .returned (.bool true) ∧ J (k + 1) W' ∧ (Z A → Z W')) →
    J 0 W → CallsIn Fence.wide n P g (#[.func (.yield l) #[] #[]] ++ lb) W fun e W' => (∃ v, e = .returned v) ∧ J N W'
/-- A round's end. -/
def toldPost (I : Nat → World → Prop) (Z : World → Prop) (k : Nat) (A : World) : Exit → Act → World → Prop
  | .normal, _, W' => (∀ j o, j < A.heap.size → A.heap[j]? = some o → o.isCells = false → W'.heap[j]? = some o) ∧ (Z A → Z W') ∧ I (k + 1) W'
  | _, _, _ => False

theorem kp_put {A B : World} (k : Kp A B) {l : Nat} (o : Obj) (hl : l < A.heap.size) : Kp (A.putObj l o) (B.putObj l o) :=
  ⟨k.os, k.tape, k.output, by simpa using k.size, fun j hj => by
    have hj' : j < A.heap.size := by simpa using hj
    by_cases e : j = l
    · subst e
      rw [World.putObj_heap_same hl, World.putObj_heap_same (Nat.lt_of_lt_of_le hl k.size)]
    · rw [World.putObj_heap_other e, World.putObj_heap_other e]
      exact k.block j hj'⟩
theorem kp_heap {A B : World} (k : Kp A B) {j : Nat} {o : Obj} (h : A.heap[j]? = some o) : B.heap[j]? = some o :=
  (k.block j (Array.getElem?_eq_some_iff.1 h).1).trans h

theorem wpIn_told {n : Nat} {g : Operand} {ps : Array Tmp} {assign body : Code} {Q : Exit → Act → World → Prop} {a : Act} {w : World} (h1 : 1 ≤ n) {gf : Nat} {lb : Array Value}
    (hg : a.eval g = .func (.func gf) #[] lb) (eg : ∀ args w, (callFunc gf args).run P w = .ok (.enter gf args) w) {encs : α → Array Value} {E : Nat → α → Nat → World → Prop} {Z : World → Prop} {N : Nat}
    (hseq : Told P (n - 1) gf lb encs E Z N w) (hps : ∀ x, (encs x).size = ps.size)
    (hZ : ∀ W l o o', w.heap.size ≤ l → W.heap[l]? = some o → o.isCells = false → Z W → Z (W.putObj l o'))
    (hE : ∀ k x b W l o o', W.heap[l]? = some o → o.isCells = false → E k x b W → E k x b (W.putObj l o'))
    (I : Nat → World → Prop) (hI : ∀ k A B, I k A → Kp A B → I k B) (hI2 : ∀ k W l o o', w.heap.size ≤ l → W.heap[l]? = some o → o.isCells = false → I k W → I k (W.putObj l o')) (h0 : I 0 w) (a₁ : α → Act)
    (hassign : ∀ (l : Nat) (x : α) (W : World) (K : Act → World → Prop), K (a₁ x) W →
      assign.wpIn (Fence.wide.inRound l) (n - 1 - 1) P (Exit.then K (fun _ _ _ => False)) { tmps := (ps.zip (encs x)).foldl (fun t (p, v) => t.setIfInBounds p v) a.tmps, defers := [] } W)
    (hbody : ∀ (l k : Nat) (x : α) (A B : World), k < N → I k A → Kp A B → E k x A.heap.size B → body.wpIn (Fence.wide.inRound l) (n - 1 - 1) P (toldPost I Z k A) (a₁ x) B)
    (hdone : ∀ (D : Nat) (W : World), w.heap.size ≤ D → I N W → W.heap[D]? = some (.deferred (some [])) → Q .normal { a with defers := { target := .collected D, args := #[] } :: a.defers } W) :
    (Code.rangeFunc g ps assign body).wpIn Fence.wide n P Q a w := by
  apply wpIn_rangeFunc
  intro fn _
  generalize hL : w.heap.size + 1 = L
  generalize hrec : (fun (s : LoopState) (p : Option Code) => ({ state := s, pending := p, fn := fn, tmps := a.tmps, params := ps, assign := assign, body := body, defers := w.heap.size } : Loop)) = mk
  have hst : ∀ s p, (mk s p).state = s := fun s p => by rw [← hrec]
  generalize hV : (w.alloc (.deferred (some []))).alloc (.loop (mk .ready none)) = V
  have hsz : V.heap.size = w.heap.size + 2 := by rw [← hV]; simp
  have kV : Kp w V := by rw [← hV]; exact (Kp.alloc_ _ _).al _
  have vL : V.heap[L]? = some (.loop (mk .ready none)) := by
    rw [← hV, ← hL]
    have h := World.alloc_heap_new (w.alloc (.deferred (some []))) (.loop (mk .ready none))
    rw [World.size_alloc] at h; exact h
  have vD : V.heap[w.heap.size]? = some (.deferred (some [])) := by
    rw [← hV]; exact (Below.heap_alloc _ _ _ (by simp)).trans (World.alloc_heap_new w _)
  -- what holds between two rounds
  have H := hseq L (fun k W => I k W ∧ W.heap[L]? = some (.loop (mk .ready none)) ∧ W.heap[w.heap.size]? = some (.deferred (some []))) V kV
    (fun k A B h kp => ⟨hI k A B h.1 kp, kp_heap kp h.2.1, kp_heap kp h.2.2⟩) (fun k x A B hk hJ kp he => by
      obtain ⟨hi, hl, hd⟩ := hJ
      have hLA : L < A.heap.size := (Array.getElem?_eq_some_iff.1 hl).1
      have hlB := kp_heap kp hl
      have hy := run_yield (P := P) (args := encs x) hlB (by rw [← hrec]; exact hps x)
      rw [← hrec] at hy
      refine ⟨fn, _, assign, body, hy, roundIn_of_wpIn trivial (hassign L x B _ ⟨_, run_beginRound hlB (hst _ _), ?_⟩)⟩
      have hb := hbody L k x (A.putObj L (.loop { mk .ready none with state := .busy })) (B.putObj L (.loop { mk .ready none with state := .busy })) hk
        (hI2 k A L _ _ (by omega) hl rfl hi) (kp_put kp _ hLA) (by rw [World.putObj_size]; exact hE k x _ B L _ _ hlB rfl he)
      refine wpIn_mono hb ?_
      intro e a3 W3 hp
      cases e with
      | normal =>
        obtain ⟨hkeep, hz, hi3⟩ := hp
        have hl3 := hkeep L _ (by rw [World.putObj_size]; exact hLA) (World.putObj_heap_same hLA) rfl
        have hd3 := hkeep w.heap.size _ (by rw [World.putObj_size]; exact (Array.getElem?_eq_some_iff.1 hd).1) ((World.putObj_heap_other (by omega)).trans hd) rfl
        have hlt3 := (Array.getElem?_eq_some_iff.1 hl3).1
        refine ⟨_, _, run_endRound none hl3, rfl, ⟨hI2 _ W3 L _ _ (by omega) hl3 rfl hi3, ?_, (World.putObj_heap_other (by omega)).trans hd3⟩, fun z => hZ W3 L _ _ (by omega) hl3 rfl (hz (hZ A L _ _ (by omega) hl rfl z))⟩
        rw [World.putObj_heap_same hlt3, ← hrec]; rfl
      | _ => exact hp.elim) ⟨hI 0 w V h0 kV, vL, vD⟩
  refine ⟨L, [{ target := .collected w.heap.size, args := #[] }], V, { target := .fn (.func gf) lb, args := #[.func (.yield L) #[] #[]] }, V, gf, #[.func (.yield L) #[] #[]] ++ lb, V, ?_, ?_, fun _ _ => trivial, ?_, fun _ => h1, ?_⟩
  · rw [← hV, ← hrec, ← hL]; exact run_enterLoop_outer _ _ _ _ _
  · simp only [resolve, hg]
    simp [go_sem]
  · simp [invoke, go_sem, eg]
  · refine H.mono ?_
    rintro e W2 ⟨⟨v, rfl⟩, hi, hl, hd⟩
    have hend := run_endLoop (P := P) hl (by rw [hst]; simp)
    refine ⟨none, W2.putObj L (.loop { mk .ready none with state := .exhausted }), ?_, hdone w.heap.size _ (Nat.le_refl _) (hI2 _ W2 L _ _ (by omega) hl rfl hi) ((World.putObj_heap_other (by omega)).trans hd)⟩
    rw [hend, ← hrec]
end

/-- The indices' box, and the shape. -/
structure Zi (Bs : Nat) (C : Option Addr) (g : List Int) (e : Nat) (W : World) : Prop where
  b : Boxed W Bs 22 (.slice C g.length e)
  r : Rd W C g
section
variable {Bs e : Nat} {C : Option Addr} {g : List Int} {W W' : World}
theorem Zi.kp (h : Zi Bs C g e W) (k : Kp W W') : Zi Bs C g e W' := ⟨kp_heap k h.b, h.r.kp k⟩
end

set_option maxHeartbeats 1000000 in
theorem indices_any (C : Option Addr) (n e : Nat) (w : World) :
    Calls Try.prog 50 #[.slice C n e] w fun en w' => en = .returned (.func (.func 54) #[] #[.pointer (some ⟨w.heap.size, 0, none⟩)]) ∧ w' = w.alloc (.cells #[.slice C n e] 22) := by
  go_enter Try.func50, Try.ntmps50
  go_wp2
  go_ret
  exact ⟨rfl, rfl⟩

set_option maxRecDepth 100000 in
set_option maxHeartbeats 2000000 in
theorem indices_told (C : Option Addr) (e : Nat) (g : List Int) (N Bs n : Nat) (w : World) (hz : Zi Bs C g e w) (hN : sizeV g = N) (hn : 1 ≤ n) :
    Told Try.prog n 54 #[.pointer (some ⟨Bs, 0, none⟩)] (fun x : Option Addr × Nat => #[.slice x.1 g.length x.2]) (fun k x b W => Own b W (.slice x.1 g.length x.2) (digs g k)) (Zi Bs C g e) N w := fun l J W kW hJ hY h0 => by
  have HZ := Lib.hid (hz.kp kW)
  have n2 : N ≤ 64 := by have := size_le g; omega
  have HS : Hid (∀ W', Rd W' C g → Calls Try.prog 27 #[.slice C g.length e] W' fun en w' => en = .returned (.int .i64 (N : Int)) ∧ W' = w') := fun W' r => by
    have hh := size_any C e g W' r
    rw [hN] at hh
    exact hh
  have HX : Hid (∀ (k : Nat) W', k < N → Rd W' C g → Calls Try.prog 55 #[.slice C g.length e, .int .i64 (k : Int)] W' fun en w' => ∃ A c, en = .returned (.tuple #[.slice A g.length c, .int .i64 0]) ∧ Own W'.heap.size w' (.slice A g.length c) (digs g k) ∧ Kp W' w') := by
    intro k W' hk r
    refine (index_own C e g (k : Int) W' r).mono ?_
    rw [index_yes (by omega) (by omega)]
    rintro en w' ⟨A, c, e1, o, kk⟩
    rw [digs_len] at e1 o
    exact ⟨A, c, e1, o, kk⟩
  have HJ := Lib.hid hJ
  have HY := Lib.hid hY
  have H0 := Lib.hid h0
  obtain ⟨gl, hgl⟩ : ∃ gl, gl = g.length := ⟨_, rfl⟩
  have HGL := Lib.hid hgl
  rw [← hgl] at HS HX HY
  have hb0 : W.cell? ⟨Bs, 0, none⟩ = some (.slice C gl e) := by rw [hgl]; exact HZ.out.b.cell
  clear hgl hJ hY hN hz kW h0
  refine callsIn_of_wp Try.func54 rfl trivial ?_ rfl
  simp only [Try.ntmps54, List.size_toArray, List.length_cons, List.length_nil, Nat.reduceAdd, Nat.reduceSub, Array.replicate_succ, Array.replicate_zero, List.push_toArray, List.append_toArray, List.nil_append, List.cons_append]
  gi_wp2_with (refine ⟨trivial, ?_⟩; gi_at_call 27; refine (callsIn_wide.2 (HS.out _ HZ.out.r)).mono ?_; rintro en w2 ⟨rfl, rfl⟩)
  gi_loopw [8] (fun i wr => ∃ k : Nat, i = .int .i64 k ∧ k ≤ N ∧ Hid (J k wr) ∧ Hid (Zi Bs C g e wr)) (fun i _ => N - (intOf i).toNat)
  case atStart => exact ⟨0, rfl, Nat.zero_le _, H0.out, HZ.out⟩
  case round =>
    clear hb0
    obtain ⟨k, rfl, hkN, hJp, hZr⟩ := hrel
    have hb1 : wr.cell? ⟨Bs, 0, none⟩ = some (.slice C gl e) := by rw [HGL.out]; exact hZr.out.b.cell
    by_cases hlt : k < N
    · gi_wp2_with (refine ⟨trivial, ?_⟩; gi_at_call 55; refine (callsIn_wide.2 (HX.out k _ hlt hZr.out.r)).mono ?_; rintro en w2 ⟨A2, c2, rfl, o2, k2⟩; obtain ⟨fn, tmps, assign, body, hy, hR⟩ := HY.out k (A2, c2) _ _ hlt hJp.out k2 o2; dsimp only at hy; clear o2 k2)
      refine hR.mono ?_
      rintro en W3 ⟨rfl, hJ3, hk3⟩
      have H3 := Lib.hid (And.intro hJ3 (hk3 hZr.out))
      clear hJ3 hk3
      gi_wp2
      go_roundw
      case rel => exact ⟨k + 1, by go_num, hlt, Lib.hid H3.out.1, Lib.hid H3.out.2⟩
      case measure => simp [intOf]; omega
    · obtain rfl : k = N := by omega
      gi_wp2
      go_end0
      exact ⟨⟨_, rfl⟩, hJp.out⟩
end Go.Proofs.Ytdjfjhanffliiaa
