/- Layer 9 of the program, plain facts: a shape's bytes are few, tensors that bytes begin with, so many at most. No program stands here. -/
import Derived.Test.YtlbnbamgfffahaaImM
namespace Go.Proofs.ImM
open Go.Proofs.PkM Go.Proofs.ShM

/-- The tensors that bytes begin with, so many at most, and what is behind them. -/
def tknV : Nat → List Int → List T × List Int
  | 0, b => ([], b)
  | n + 1, b => match itakeO b with
    | some p => (p.1 :: (tknV n p.2).1, (tknV n p.2).2)
    | none => ([], b)

theorem list_small {s c : List Int} (h : listV [] s 1 = (c, 0)) : c.length = 1 + s.length ∧ N64 s := by
  unfold listV at h
  split at h
  · rename_i g
    injection h with h _
    subst h
    refine ⟨by rw [List.length_append, List.length_append, all_len]; simp, fun n hn => ?_⟩
    have := g.2.2 n hn
    unfold mayB at this
    simp at this
    omega
  · injection h with _ h; cases h
theorem head_yes {b s v : List Int} (hb : Bytes b) (h : takeListV (b.take 4) 1 = (s, v, 0)) : takeListV b 1 = (s, b.drop (1 + s.length), 0) ∧ 1 + s.length ≤ b.length := by
  obtain ⟨c, hc, hcv⟩ := take_list (fun x hx => hb x (List.mem_of_mem_take hx)) h
  obtain ⟨hl, hn⟩ := list_small hc
  have e : b = c ++ (v ++ b.drop 4) := by rw [← List.append_assoc, hcv, List.take_append_drop]
  have e2 : b.drop (1 + s.length) = v ++ b.drop 4 := by
    conv => lhs; rw [e, ← hl]
    rw [List.drop_left]
  have h2 := list_take (r := v ++ b.drop 4) hn hc
  rw [← e] at h2
  refine ⟨by rw [h2, e2], ?_⟩
  have := congrArg List.length e
  rw [List.length_append] at this
  omega
theorem head_some {b : List Int} {p : T × List Int} (hb : Bytes b) (h : itakeO b = some p) : (takeListV (b.take 4) 1).2.2 = 0 ∧ okS (takeListV (b.take 4) 1).1 = true := by
  unfold itakeO at h
  split at h
  · rename_i g
    obtain ⟨g1, g2⟩ := g
    obtain ⟨s, v, e, hs⟩ : ∃ s v e, takeListV b 1 = (s, v, e) := ⟨_, _, _, rfl⟩
    rw [hs] at g1 g2
    have he : e = 0 := g1
    subst he
    have g2' : okS s = true := g2
    obtain ⟨c, hc, hcv⟩ := take_list hb hs
    obtain ⟨hl, hn⟩ := list_small hc
    have h3 := ok_len g2'
    have e : b.take 4 = c ++ v.take (4 - c.length) := by
      rw [← hcv, List.take_append, List.take_of_length_le (by omega)]
    rw [e, list_take _ hn hc]
    exact ⟨rfl, g2'⟩
  · cases h
theorem head_take {b s v : List Int} (hb : Bytes b) (h : takeListV (b.take 4) 1 = (s, v, 0)) (hok : okS s = true) :
    itakeO b = (manyV 8 (sizeV s).toNat (b.drop (1 + s.length))).map fun p => ((s, p.1), p.2) := by
  obtain ⟨h1, _⟩ := head_yes hb h
  unfold itakeO
  rw [h1, if_pos ⟨rfl, hok⟩]
theorem head_none {b s v : List Int} {er : Int} (hb : Bytes b) (h : takeListV (b.take 4) 1 = (s, v, er)) (hn : ¬ (er = 0 ∧ okS s = true)) : itakeO b = none := by
  cases e : itakeO b with
  | none => rfl
  | some p =>
    have g := head_some hb e
    rw [h] at g
    exact absurd g hn
theorem take_less {b r : List Int} {t : T} (hb : Bytes b) (h : itakeO b = some (t, r)) : Bytes r ∧ r.length + 1 ≤ b.length := by
  obtain ⟨_, _, _, i4⟩ := take_put_t hb h
  refine ⟨fun x hx => hb x (by rw [← i4]; exact List.mem_append_right _ hx), ?_⟩
  have := congrArg List.length i4
  rw [List.length_append, tn_len] at this
  omega
theorem read_tkn : ∀ {n : Nat} {b : List Int}, Bytes b → b.length ≤ n → ireadO n b = if (tknV n b).2.length = 0 then some (tknV n b).1 else none := by
  intro n
  induction n with
  | zero =>
    intro b _ h
    rw [ireadO, if_pos (by omega)]
    show some [] = if b.length = 0 then some [] else none
    rw [if_pos (by omega)]
  | succ n ih =>
    intro b hb h
    cases e : itakeO b with
    | none =>
      have e2 : tknV (n + 1) b = ([], b) := by rw [tknV]; simp only [e]
      rw [e2, ireadO]
      simp only [e]
    | some p =>
      obtain ⟨t, r⟩ := p
      obtain ⟨h1, h2⟩ := take_less hb e
      have e2 : tknV (n + 1) b = (t :: (tknV n r).1, (tknV n r).2) := by rw [tknV]; simp only [e]
      rw [e2, ireadO, if_neg (by omega)]
      simp only [e]
      rw [ih h1 (by omega)]
      split <;> rfl
theorem tkn_one (b : List Int) : (itakeO b = none ∧ tknV 1 b = ([], b)) ∨ ∃ t r, itakeO b = some (t, r) ∧ tknV 1 b = ([t], r) := by
  cases e : itakeO b with
  | none => exact .inl ⟨rfl, by rw [tknV]; simp only [e]⟩
  | some p => exact .inr ⟨p.1, p.2, rfl, by rw [tknV]; simp only [e]; rfl⟩
theorem tkn_len : ∀ (n : Nat) {b : List Int}, Bytes b → (tknV n b).2.length ≤ b.length ∧ Bytes (tknV n b).2 := by
  intro n
  induction n with
  | zero => intro b hb; exact ⟨Nat.le_refl _, hb⟩
  | succ n ih =>
    intro b hb
    cases e : itakeO b with
    | none => rw [show tknV (n + 1) b = ([], b) by rw [tknV]; simp only [e]]; exact ⟨Nat.le_refl _, hb⟩
    | some p =>
      obtain ⟨t, r⟩ := p
      obtain ⟨h1, h2⟩ := take_less hb e
      rw [show tknV (n + 1) b = (t :: (tknV n r).1, (tknV n r).2) by rw [tknV]; simp only [e]]
      have := ih h1
      exact ⟨by have := this.1; show (tknV n r).2.length ≤ b.length; omega, this.2⟩
/-- So far these tensors were taken; so many more at most are taken of the rest. -/
def Rm (V : List T × List Int) (done : List T) (n : Nat) (rest : List Int) : Prop := V = (done ++ (tknV n rest).1, (tknV n rest).2)
theorem rm_start (n : Nat) (b : List Int) : Rm (tknV n b) [] n b := rfl
theorem rm_zero {V : List T × List Int} {done : List T} {rest : List Int} (h : Rm V done 0 rest) : V = (done, rest) := by
  unfold Rm tknV at h
  rw [h]; simp
theorem rm_none {V : List T × List Int} {done : List T} {n : Nat} {rest : List Int} (h : Rm V done (n + 1) rest) (e : itakeO rest = none) : V = (done, rest) := by
  unfold Rm at h
  rw [h, tknV]; simp only [e]; simp
theorem rm_some {V : List T × List Int} {done : List T} {n : Nat} {rest r : List Int} {t : T} (h : Rm V done (n + 1) rest) (e : itakeO rest = some (t, r)) : Rm V (done ++ [t]) n r := by
  unfold Rm at h ⊢
  rw [h, tknV]; simp only [e]; simp
/-- Which tensor it is, of how its numbers are read. -/
theorem rl_take {o : Option (List Int × List Int)} {b s : List Int} {p : List Int × List Int} (h : itakeO b = o.map fun p => ((s, p.1), p.2)) (ho : o = some p) : itakeO b = some ((s, p.1), p.2) := by rw [h, ho]; rfl
theorem rl_none {o : Option (List Int × List Int)} {b s : List Int} (h : itakeO b = o.map fun p => ((s, p.1), p.2)) (ho : o = none) : itakeO b = none := by rw [h, ho]; rfl
end Go.Proofs.ImM
