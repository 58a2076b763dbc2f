/- Plain facts of layer 9: tensors as bytes. No program stands here. -/
import Derived.Test.YtdcpekkkenckeaaPkAll
import Derived.Test.YtdcpekkkenckeaaTnAll
namespace Go.Proofs.ImM
open Go.Proofs.PkM Go.Proofs.ShM

/-- A tensor: shape, numbers. -/
abbrev T := List Int × List Int
def tokT (t : T) : Bool := tokV t.1 t.2
/-- All numbers are those of an int. -/
def N64 (l : List Int) : Prop := ∀ n ∈ l, -9223372036854775808 ≤ n ∧ n ≤ 9223372036854775807
/-- A tensor's bytes. -/
def tnB (t : T) : List Int := [(t.1.length : Int)] ++ allB t.1 1 ++ allB t.2 8
def allT (l : List T) : List Int := l.flatMap tnB
def iputV (b : List Int) (t : T) : List Int × Int := if tokT t = true then (b ++ tnB t, 0) else ([], 30)
def iwriteV (l : List T) : List Int × Int := if l.all tokT = true then (allT l, 0) else ([], 30)
/-- The tensor whose bytes these begin with, and what is behind. -/
def itakeO (b : List Int) : Option (T × List Int) :=
  if (takeListV b 1).2.2 = 0 ∧ okS (takeListV b 1).1 = true then (manyV 8 (sizeV (takeListV b 1).1).toNat (takeListV b 1).2.1).map fun p => (((takeListV b 1).1, p.1), p.2) else none
def itakeV (b : List Int) : T × List Int × Int := match itakeO b with
  | some p => (p.1, p.2, 0)
  | none => (([], []), [], 50)
def ireadO : Nat → List Int → Option (List T)
  | n, b => if b.length = 0 then some [] else match n with
    | 0 => none
    | n + 1 => match itakeO b with
      | some p => (ireadO n p.2).map (p.1 :: ·)
      | none => none
def ireadV (b : List Int) : List T × Int := match ireadO b.length b with
  | some l => (l, 0)
  | none => ([], 50)

theorem tok_iff {t : T} : tokT t = true ↔ okS t.1 = true ∧ (t.2.length : Int) = sizeV t.1 := by unfold tokT tokV; simp
theorem ok_side {s : List Int} (h : okS s = true) : ∀ n ∈ s, 1 ≤ n ∧ n ≤ 16 := by
  intro n hn
  have := (ok_iff.1 h).2.1
  rw [List.all_eq_true] at this
  exact sideB_iff.1 (this n hn)
theorem ok_may {s : List Int} (h : okS s = true) : ∀ n ∈ s, mayB n 1 = true := by
  intro n hn
  have := ok_side h n hn
  unfold mayB; simp; omega
theorem ok_n64 {s : List Int} (h : okS s = true) : N64 s := by
  intro n hn
  have := ok_side h n hn
  omega
theorem may_8 (n : Int) : mayB n 8 = true := by unfold mayB; simp
theorem ok_len {s : List Int} (h : okS s = true) : s.length ≤ 3 := (ok_iff.1 h).1
theorem tok_size {t : T} (h : tokT t = true) : t.2.length ≤ 64 ∧ 1 ≤ t.2.length ∧ t.1.length ≤ 3 := by
  obtain ⟨h1, h2⟩ := tok_iff.1 h
  rw [size_ok h1] at h2
  have := ok_prod h1
  exact ⟨by omega, by omega, ok_len h1⟩

theorem sides_take {s : List Int} (h : okS s = true) (r : List Int) : takeListV ([(s.length : Int)] ++ allB s 1 ++ r) 1 = (s, r, 0) := by
  have hl := ok_len h
  refine list_take (l := s) (b := [(s.length : Int)] ++ allB s 1) (size := 1) r (ok_n64 h) ?_
  unfold listV
  rw [if_pos ⟨by omega, by decide, ok_may h⟩]
  rfl
/-- What was put is taken. -/
theorem put_take_t {t : T} (h : tokT t = true) (hn : N64 t.2) (r : List Int) : itakeO (tnB t ++ r) = some (t, r) := by
  obtain ⟨h1, h2⟩ := tok_iff.1 h
  have e1 : tnB t ++ r = [(t.1.length : Int)] ++ allB t.1 1 ++ (allB t.2 8 ++ r) := by unfold tnB; simp
  have e2 := sides_take h1 (allB t.2 8 ++ r)
  unfold itakeO
  rw [e1, e2]
  rw [if_pos ⟨rfl, h1⟩]
  have e3 : (sizeV t.1).toNat = t.2.length := by omega
  have e4 : manyV 8 t.2.length (allB t.2 8 ++ r) = some (t.2, r) := many_all (size := 8) r (fun n _ => may_8 n) hn
  rw [e3, e4]
  rfl
theorem all_bytes (l : List Int) (k : Nat) : Bytes (allB l k) := by
  intro b hb
  unfold allB at hb
  rw [List.mem_flatMap] at hb
  obtain ⟨n, _, hb⟩ := hb
  exact byte_bytes k n b hb
theorem tn_bytes {t : T} (h : t.1.length ≤ 255) : Bytes (tnB t) := by
  intro b hb
  unfold tnB at hb
  rw [List.mem_append, List.mem_append, List.mem_singleton] at hb
  rcases hb with (rfl | hb) | hb
  · omega
  · exact all_bytes _ _ b hb
  · exact all_bytes _ _ b hb
theorem tn_len (t : T) : (tnB t).length = 1 + t.1.length + 8 * t.2.length := by
  unfold tnB
  rw [List.length_append, List.length_append, all_len, all_len]
  simp
/-- What was taken is what was put. -/
theorem take_put_t {b r : List Int} {t : T} (hb : Bytes b) (h : itakeO b = some (t, r)) : tokT t = true ∧ N64 t.1 ∧ N64 t.2 ∧ tnB t ++ r = b := by
  unfold itakeO at h
  split at h
  · rename_i g
    obtain ⟨g1, g2⟩ := g
    obtain ⟨s, v, e, hs⟩ : ∃ s v e, takeListV b 1 = (s, v, e) := ⟨_, _, _, rfl⟩
    rw [hs] at h g1 g2
    have he : e = 0 := g1
    subst he
    have g2' : okS s = true := g2
    obtain ⟨c, hc, hcv⟩ := take_list hb hs
    unfold listV at hc
    split at hc
    · injection hc with hc _
      cases hm : manyV 8 (sizeV s).toNat v with
      | none =>
        have h' : (manyV 8 (sizeV s).toNat v).map (fun p => ((s, p.1), p.2)) = some (t, r) := h
        rw [hm] at h'
        cases h'
      | some p =>
        have h' : (manyV 8 (sizeV s).toNat v).map (fun p => ((s, p.1), p.2)) = some (t, r) := h
        rw [hm] at h'
        obtain ⟨p1, p2⟩ := p
        injection h' with h'
        injection h' with h1 h2
        subst h1 h2
        have hbv : Bytes v := fun x hx => hb x (by rw [← hcv]; exact List.mem_append_right _ hx)
        obtain ⟨i1, _, i3, i4⟩ := many_back (size := 8) (by decide) hbv hm
        have hz := ok_prod g2'
        rw [← size_ok g2'] at hz
        refine ⟨tok_iff.2 ⟨g2', ?_⟩, ok_n64 g2', i3, ?_⟩
        · show (p1.length : Int) = sizeV s; omega
        · have i4' : allB p1 8 ++ p2 = v := i4
          have hc' : [] ++ [(s.length : Int)] ++ allB s 1 = c := hc
          show ([(s.length : Int)] ++ allB s 1 ++ allB p1 8) ++ p2 = b
          rw [← hcv, ← i4', ← hc']
          simp
    · injection hc with _ hc; cases hc
  · cases h
theorem all_t_cons (t : T) (l : List T) : allT (t :: l) = tnB t ++ allT l := rfl
theorem all_t_append (a b : List T) : allT (a ++ b) = allT a ++ allT b := by unfold allT; rw [List.flatMap_append]
def Good (l : List T) : Prop := ∀ t ∈ l, tokT t = true ∧ N64 t.2
theorem good_all {l : List T} (h : l.all tokT = true) (hn : ∀ t ∈ l, N64 t.2) : Good l := fun t ht => ⟨List.all_eq_true.1 h t ht, hn t ht⟩
theorem read_all : ∀ {l : List T} {n : Nat}, Good l → l.length ≤ n → ireadO n (allT l) = some l := by
  intro l
  induction l with
  | nil => intro n _ _; unfold ireadO; rw [if_pos (by rfl)]
  | cons t l ih =>
    intro n h hn
    match n, hn with
    | n + 1, hn =>
      have hl := tn_len t
      rw [ireadO, if_neg (by rw [all_t_cons, List.length_append]; omega), all_t_cons]
      have e := put_take_t (h t (by simp)).1 (h t (by simp)).2 (allT l)
      simp only [e]
      rw [ih (fun x hx => h x (by simp [hx])) (by simpa using hn)]
      rfl
theorem all_t_len (l : List T) : l.length ≤ (allT l).length := by
  induction l with
  | nil => simp [allT]
  | cons t l ih => have := tn_len t; rw [all_t_cons, List.length_append, List.length_cons]; omega
/-- Tensors are read as they were written. -/
theorem read_write {l : List T} (h : l.all tokT = true) (hn : ∀ t ∈ l, N64 t.2) : ireadV (allT l) = (l, 0) := by
  unfold ireadV
  rw [read_all (good_all h hn) (all_t_len l)]
theorem write_read_o : ∀ {n : Nat} {b : List Int} {l : List T}, Bytes b → ireadO n b = some l → Good l ∧ (∀ t ∈ l, N64 t.1) ∧ allT l = b := by
  intro n
  induction n with
  | zero =>
    intro b l hb h
    rw [ireadO] at h
    split at h
    · rename_i g
      injection h with h
      subst h
      exact ⟨fun _ h => (by cases h), fun _ h => (by cases h), (List.eq_nil_of_length_eq_zero g).symm⟩
    · cases h
  | succ n ih =>
    intro b l hb h
    rw [ireadO] at h
    split at h
    · rename_i g
      injection h with h
      subst h
      exact ⟨fun _ h => (by cases h), fun _ h => (by cases h), (List.eq_nil_of_length_eq_zero g).symm⟩
    · cases e : itakeO b with
      | none => simp only [e] at h; cases h
      | some p =>
        obtain ⟨t, r⟩ := p
        simp only [e] at h
        obtain ⟨i1, i2, i3, i4⟩ := take_put_t hb e
        have hbr : Bytes r := fun x hx => hb x (by rw [← i4]; exact List.mem_append_right _ hx)
        cases e2 : ireadO n r with
        | none => rw [e2] at h; cases h
        | some q =>
          rw [e2] at h
          injection h with h
          subst h
          obtain ⟨j1, j2, j3⟩ := ih hbr e2
          refine ⟨?_, ?_, ?_⟩
          · intro x hx
            rcases List.mem_cons.1 hx with rfl | hx
            · exact ⟨i1, i3⟩
            · exact j1 x hx
          · intro x hx
            rcases List.mem_cons.1 hx with rfl | hx
            · exact i2
            · exact j2 x hx
          · rw [all_t_cons, j3]; exact i4
theorem good_write {l : List T} (h : Good l) : iwriteV l = (allT l, 0) := by
  unfold iwriteV
  rw [if_pos (List.all_eq_true.2 fun t ht => (h t ht).1)]
/-- Bytes that are tensors' are just those tensors'. -/
theorem write_read {b : List Int} {l : List T} (hb : Bytes b) (h : ireadV b = (l, 0)) : iwriteV l = (b, 0) ∧ Good l ∧ ∀ t ∈ l, N64 t.1 := by
  unfold ireadV at h
  cases e : ireadO b.length b with
  | none => rw [e] at h; injection h with _ h; cases h
  | some q =>
    rw [e] at h
    injection h with h _
    have h' : q = l := h
    subst h'
    obtain ⟨j1, j2, j3⟩ := write_read_o hb e
    exact ⟨by rw [good_write j1, j3], j1, j2⟩
/-- A tensor's bytes that are cut are none. -/
theorem cut_none {t : T} {k : Nat} (h : tokT t = true) (hn : N64 t.2) (hk : k < (tnB t).length) : itakeO ((tnB t).take k) = none := by
  cases e : itakeO ((tnB t).take k) with
  | none => rfl
  | some p =>
    exfalso
    obtain ⟨u, r⟩ := p
    have hb : Bytes (tnB t) := tn_bytes (by have := (tok_size h).2.2; omega)
    obtain ⟨i1, _, i3, i4⟩ := take_put_t (fun x hx => hb x (List.mem_of_mem_take hx)) e
    have h1 := put_take_t h hn []
    have h2 := put_take_t i1 i3 (r ++ (tnB t).drop k)
    have h3 : tnB u ++ (r ++ (tnB t).drop k) = tnB t ++ [] := by rw [← List.append_assoc, i4, List.take_append_drop, List.append_nil]
    rw [h3, h1] at h2
    injection h2 with h2
    injection h2 with _ h2
    have := congrArg List.length h2
    rw [List.length_append, List.length_drop, List.length_nil] at this
    omega
/-- Unlike tensors have unlike bytes. -/
theorem apart {a b : List T} (ha : a.all tokT = true) (hb : b.all tokT = true) (na : ∀ t ∈ a, N64 t.2) (nb : ∀ t ∈ b, N64 t.2) : (allT a == allT b) = (a == b) := by
  by_cases h : a = b
  · subst h; simp
  · have : allT a ≠ allT b := by
      intro e
      have h1 := read_write ha na
      rw [e, read_write hb nb] at h1
      injection h1 with h1 _
      exact h h1.symm
    rw [beq_eq_false_iff_ne.2 this, beq_eq_false_iff_ne.2 h]
end Go.Proofs.ImM
