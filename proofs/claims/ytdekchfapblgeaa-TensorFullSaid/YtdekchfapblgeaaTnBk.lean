/- A tensor's block, known whole; two tensors that are the same; at most a hundred of each. -/
import Derived.Test.YtdekchfapblgeaaTnK
namespace Go.Proofs.Ytdekchfapblgeaa
open Go.RowKit Go.Proofs.ShM

/-- A tensor's block, known whole. -/
def Bk (W : World) (b : Nat) (A : Option Addr) (n c : Nat) (B : Option Addr) (m d : Nat) : Prop := W.heap[b]? = some (.cells #[.slice A n c, .slice B m d] 24 (0, 0))
section
variable {W W' : World} {b b' n c m d n' c' m' d' : Nat} {A B C D : Option Addr}
theorem Bk.lt (h : Bk W b A n c B m d) : b < W.heap.size := (Array.getElem?_eq_some_iff.1 h).1
theorem Bk.c0 (h : Bk W b A n c B m d) : W.cell? ⟨b, 0, none⟩ = some (.slice A n c) := by simp [World.cell?, show W.heap[b]? = _ from h]
theorem Bk.c1 (h : Bk W b A n c B m d) : W.cell? ⟨b, 1, none⟩ = some (.slice B m d) := by simp [World.cell?, show W.heap[b]? = _ from h]
theorem Bk.f0 (h : Bk W b A n c B m d) (i : Nat) : W.frozen? ⟨b, i, none⟩ = false := by simp [World.frozen?, show W.heap[b]? = _ from h]
theorem Bk.kp (h : Bk W b A n c B m d) (k : Kp W W') : Bk W' b A n c B m d := (k.block b h.lt).trans h
theorem Bk.alloc_ (h : Bk W b A n c B m d) (o : Obj) : Bk (W.alloc o) b A n c B m d := h.kp (Kp.alloc_ W o)
theorem Bk.new (h : b = W.heap.size) : Bk (W.alloc (.cells #[.slice A n c, .slice B m d] 24)) b A n c B m d := by
  subst h
  show (W.heap.push _)[W.heap.size]? = some _
  simp
theorem Bk.other (h : Bk W b A n c B m d) (hne : b ≠ b') (x y : Value) : Bk ((W.setCell ⟨b', 0, none⟩ x).setCell ⟨b', 1, none⟩ y) b A n c B m d := by
  unfold Bk
  rw [Below.heap_setCell _ _ _ b hne, Below.heap_setCell _ _ _ b hne]; exact h
theorem heap_set {cs : Array Value} {t : TypeId} (h : W.heap[b]? = some (.cells cs t (0, 0))) (i : Nat) (x : Value) : (W.setCell ⟨b, i, none⟩ x).heap[b]? = some (.cells (cs.setIfInBounds i x) t (0, 0)) := by
  obtain ⟨hlt, hk⟩ := Array.getElem?_eq_some_iff.1 h
  show (W.heap.modify b _)[b]? = _
  rw [Array.getElem?_eq_getElem (by rw [Array.size_modify]; exact hlt), Array.getElem_modify_self, hk]
  rfl
theorem Bk.put (h : Bk W b A n c B m d) : Bk ((W.setCell ⟨b, 0, none⟩ (.slice C n' c')).setCell ⟨b, 1, none⟩ (.slice D m' d')) b C n' c' D m' d' :=
  heap_set (heap_set h 0 _) 1 _
theorem Rd.past {A0 : Option Addr} {xs : List Int} (r : Rd W A0 xs) (h : Bk W b A n c B m d) (x y : Value) : Rd ((W.setCell ⟨b, 0, none⟩ x).setCell ⟨b, 1, none⟩ y) A0 xs := by
  cases xs with
  | nil => exact Rd.nil _ _
  | cons z zs =>
    have hne : ∀ ad, A0 = some ad → ad.block ≠ b := by
      rintro ad rfl e
      obtain ⟨ad', e', hb, hc⟩ := r.2 (by simp)
      injection e' with e'
      subst e'
      have h0 := hc 0 z rfl
      have e1 : ad.add 0 = ad := by unfold Addr.add; simp
      rw [e1] at h0
      unfold World.cell? at h0
      rw [e, show W.heap[b]? = _ from h] at h0
      obtain ⟨_, off, spot⟩ := ad
      match off, h0 with
      | 0, h0 => cases spot <;> simp at h0
      | 1, h0 => cases spot <;> simp at h0
      | k + 2, h0 => cases spot <;> simp at h0
    exact (r.put_ hne x).put_ hne y
theorem TR.past {A0 B0 : Option Addr} {l k : List Int} (r : TR W A0 l B0 k) (h : Bk W b A n c B m d) (x y : Value) : TR ((W.setCell ⟨b, 0, none⟩ x).setCell ⟨b, 1, none⟩ y) A0 l B0 k := ⟨r.s.past h x y, r.d.past h x y⟩
end

theorem tsame_u {W : World} {A B C D : Option Addr} {l k : List Int} {a b c d g h : Nat} (r : TR W A l B k) (q : TR W C l D k) (ha : l.length = a) (hb : k.length = b) :
    Calls Try.prog 13 #[.agg #[.slice A a c, .slice B b d], .agg #[.slice C a g, .slice D b h]] W fun e w' => e = .returned (.bool true) ∧ Kp W w' := by
  subst ha hb
  have hh := tsame_any A B C D c d g h l k l k W r.s r.d q.s q.d
  simpa using hh
theorem few_yes {A B : Option Addr} {c d n m : Nat} {W : World} (hn : n ≤ 100) (hm : m ≤ 100) : Calls Try.prog 10 #[.agg #[.slice A n c, .slice B m d]] W fun e w' => e = .returned (.bool true) ∧ Kp W w' := by
  have hh := few_any A B c d n m W (by omega) (by omega)
  rw [show fewV n m = true by unfold fewV; simp [hn, hm]] at hh
  exact hh
theorem few_no {A B : Option Addr} {c d n m : Nat} {W : World} (hn : n ≤ 9223372036854775807) (hm : m ≤ 9223372036854775807) (h : 100 < n ∨ 100 < m) : Calls Try.prog 10 #[.agg #[.slice A n c, .slice B m d]] W fun e w' => e = .returned (.bool false) ∧ Kp W w' := by
  have hh := few_any A B c d n m W hn hm
  rw [show fewV n m = false by unfold fewV; rcases h with h | h <;> simp <;> omega] at hh
  exact hh

end Go.Proofs.Ytdekchfapblgeaa
