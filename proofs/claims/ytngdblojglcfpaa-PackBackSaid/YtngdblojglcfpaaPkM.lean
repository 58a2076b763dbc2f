/- Plain facts of layer 8: numbers as bytes, lists of numbers as bytes. No program stands here. -/
import Derived.Handy
namespace Go.Proofs.PkM

/-! ### A number's bytes -/
/-- So many bytes, the highest first; of a number below 0 those of it and 256 to so many. -/
def byteL (n : Int) : Nat → List Int
  | 0 => []
  | k + 1 => byteL (n / 256) k ++ [n % 256]
/-- The number whose bytes these are. -/
def valL (bs : List Int) : Int := bs.foldl (fun u b => u * 256 + b) 0
def Bytes (bs : List Int) : Prop := ∀ b ∈ bs, 0 ≤ b ∧ b ≤ 255
def pw : Nat → Int
  | 0 => 1
  | k + 1 => 256 * pw k

theorem byte_len (k : Nat) : ∀ n, (byteL n k).length = k := by
  induction k with
  | zero => intro n; rfl
  | succ k ih => intro n; simp [byteL, ih]
theorem byte_bytes (k : Nat) : ∀ n, Bytes (byteL n k) := by
  induction k with
  | zero => intro n b hb; cases hb
  | succ k ih =>
    intro n b hb
    simp only [byteL, List.mem_append, List.mem_singleton] at hb
    rcases hb with hb | rfl
    · exact ih _ b hb
    · omega
theorem val_snoc (bs : List Int) (b : Int) : valL (bs ++ [b]) = valL bs * 256 + b := by unfold valL; rw [List.foldl_append]; rfl
theorem pw_pos (k : Nat) : 1 ≤ pw k := by
  induction k with
  | zero => decide
  | succ k ih => show 1 ≤ 256 * pw k; omega
theorem mod_pw (n : Int) (k : Nat) : n % (256 * pw k) = n / 256 % pw k * 256 + n % 256 := by
  have hp := pw_pos k
  have e1 := Int.mul_ediv_add_emod n 256
  have e2 := Int.mul_ediv_add_emod (n / 256) (pw k)
  have m1 := Int.emod_nonneg n (show (256 : Int) ≠ 0 by omega)
  have m2 := Int.emod_lt_of_pos n (show (0 : Int) < 256 by omega)
  have m3 := Int.emod_nonneg (n / 256) (show pw k ≠ 0 by omega)
  have m4 := Int.emod_lt_of_pos (n / 256) (show 0 < pw k by omega)
  have e3 : n = (n / 256 % pw k * 256 + n % 256) + (256 * pw k) * (n / 256 / pw k) := by
    have : 256 * pw k * (n / 256 / pw k) = 256 * (pw k * (n / 256 / pw k)) := Int.mul_assoc ..
    omega
  have h1 : (n / 256 % pw k * 256 + n % 256 + 256 * pw k * (n / 256 / pw k)) % (256 * pw k) = n / 256 % pw k * 256 + n % 256 := by
    rw [Int.add_mul_emod_self_left, Int.emod_eq_of_lt (by omega) (by omega)]
  rw [← e3] at h1
  exact h1
/-- What is read of a number's bytes. -/
theorem val_byte (k : Nat) : ∀ n, valL (byteL n k) = n % pw k := by
  induction k with
  | zero => intro n; show (0 : Int) = n % 1; omega
  | succ k ih =>
    intro n
    rw [byteL, val_snoc, ih]
    show _ = n % (256 * pw k)
    rw [mod_pw]
theorem byte_add (k : Nat) : ∀ n m, byteL (n + pw k * m) k = byteL n k := by
  induction k with
  | zero => intro n m; rfl
  | succ k ih =>
    intro n m
    have e1 : n + pw (k + 1) * m = n + 256 * (pw k * m) := by show n + 256 * pw k * m = _; rw [Int.mul_assoc]
    rw [byteL, byteL, e1]
    have e2 : (n + 256 * (pw k * m)) / 256 = n / 256 + pw k * m := by omega
    have e3 : (n + 256 * (pw k * m)) % 256 = n % 256 := by omega
    rw [e2, e3, ih]
/-- The bytes of what was read are those bytes. -/
theorem byte_val : ∀ (k : Nat) (bs : List Int), bs.length = k → Bytes bs → byteL (valL bs) k = bs := by
  intro k
  induction k with
  | zero => intro bs h _; rw [List.eq_nil_of_length_eq_zero h]; rfl
  | succ k ih =>
    intro bs h hb
    obtain ⟨l, x, rfl⟩ : ∃ l x, bs = l ++ [x] := ⟨bs.dropLast, bs.getLast (by intro e; rw [e] at h; simp at h), (List.dropLast_concat_getLast _).symm⟩
    have hx := hb x (by simp)
    rw [val_snoc, byteL]
    have e1 : (valL l * 256 + x) / 256 = valL l := by omega
    have e2 : (valL l * 256 + x) % 256 = x := by omega
    rw [e1, e2, ih l (by simpa using h) fun b h => hb b (by simp [h])]
theorem val_range : ∀ (k : Nat) (bs : List Int), bs.length = k → Bytes bs → 0 ≤ valL bs ∧ valL bs < pw k := by
  intro k
  induction k with
  | zero => intro bs h _; rw [List.eq_nil_of_length_eq_zero h]; decide
  | succ k ih =>
    intro bs h hb
    obtain ⟨l, x, rfl⟩ : ∃ l x, bs = l ++ [x] := ⟨bs.dropLast, bs.getLast (by intro e; rw [e] at h; simp at h), (List.dropLast_concat_getLast _).symm⟩
    have hx := hb x (by simp)
    have := ih l (by simpa using h) fun b h => hb b (by simp [h])
    rw [val_snoc]
    show _ ∧ _ < 256 * pw k
    omega

/-! ### What the calls answer -/
def sizB (size : Int) : Bool := size == 1 || size == 2 || size == 8
def mayB (n size : Int) : Bool := (size == 1 && decide (0 ≤ n ∧ n ≤ 255)) || (size == 2 && decide (0 ≤ n ∧ n ≤ 65535)) || size == 8
/-- As an int. -/
def asInt (u : Int) : Int := if u < 9223372036854775808 then u else u - 18446744073709551616
def putV (b : List Int) (n size : Int) : List Int × Int := if mayB n size = true then (b ++ byteL n size.toNat, 0) else ([], 40)
def takeV (b : List Int) (size : Int) : Int × List Int × Int := if sizB size = true ∧ size ≤ b.length then (asInt (valL (b.take size.toNat)), b.drop size.toNat, 0) else (0, [], 40)
/-- All numbers, one behind the other. -/
def allB (l : List Int) (k : Nat) : List Int := l.flatMap fun n => byteL n k
def listV (b l : List Int) (size : Int) : List Int × Int :=
  if l.length ≤ 255 ∧ sizB size = true ∧ ∀ n ∈ l, mayB n size = true then (b ++ [(l.length : Int)] ++ allB l size.toNat, 0) else ([], 40)
/-- So many numbers that bytes begin with, and what is behind. -/
def manyV (k : Nat) : Nat → List Int → Option (List Int × List Int)
  | 0, b => some ([], b)
  | m + 1, b => if b.length < k then none else (manyV k m (b.drop k)).map fun p => (asInt (valL (b.take k)) :: p.1, p.2)
def takeListV (b : List Int) (size : Int) : List Int × List Int × Int :=
  if sizB size = true ∧ 1 ≤ b.length then match manyV size.toNat (b.getD 0 0).toNat (b.drop 1) with
    | some (l, r) => (l, r, 0)
    | none => ([], [], 40)
  else ([], [], 40)

theorem siz_cases {size : Int} (h : sizB size = true) : size = 1 ∨ size = 2 ∨ size = 8 := by unfold sizB at h; simp at h; omega
theorem may_siz {n size : Int} (h : mayB n size = true) : sizB size = true := by unfold mayB at h; unfold sizB; simp at h ⊢; omega
/-- A number of a size is what is read of its bytes. -/
theorem as_byte {n size : Int} (h : mayB n size = true) (hn : -9223372036854775808 ≤ n ∧ n ≤ 9223372036854775807) : asInt (valL (byteL n size.toNat)) = n := by
  rw [val_byte]
  unfold mayB at h
  simp at h
  unfold asInt
  rcases h with (⟨rfl, h⟩ | ⟨rfl, h⟩) | rfl
  · have e : n % pw (1 : Int).toNat = n := by show n % 256 = n; omega
    rw [e, if_pos (by omega)]
  · have e : n % pw (2 : Int).toNat = n := by show n % 65536 = n; omega
    rw [e, if_pos (by omega)]
  · have h8 : pw (8 : Int).toNat = 18446744073709551616 := by decide
    rw [h8]
    split <;> omega
/-- What is read of so many bytes is a number of that size, and its bytes are they. -/
theorem as_val {size : Int} {bs : List Int} (hs : sizB size = true) (hl : bs.length = size.toNat) (hb : Bytes bs) : mayB (asInt (valL bs)) size = true ∧ byteL (asInt (valL bs)) size.toNat = bs ∧ -9223372036854775808 ≤ asInt (valL bs) ∧ asInt (valL bs) ≤ 9223372036854775807 := by
  have hr := val_range _ bs hl hb
  have hv := byte_val _ bs hl hb
  rcases siz_cases hs with rfl | rfl | rfl
  · have h1 : pw (1 : Int).toNat = 256 := by decide
    rw [h1] at hr
    have e : asInt (valL bs) = valL bs := by unfold asInt; rw [if_pos (by omega)]
    rw [e]
    exact ⟨by unfold mayB; simp; omega, hv, by omega, by omega⟩
  · have h1 : pw (2 : Int).toNat = 65536 := by decide
    rw [h1] at hr
    have e : asInt (valL bs) = valL bs := by unfold asInt; rw [if_pos (by omega)]
    rw [e]
    exact ⟨by unfold mayB; simp; omega, hv, by omega, by omega⟩
  · have h1 : pw (8 : Int).toNat = 18446744073709551616 := by decide
    rw [h1] at hr
    refine ⟨by unfold mayB; simp, ?_, ?_, ?_⟩
    · by_cases c : valL bs < 9223372036854775808
      · rw [show asInt (valL bs) = valL bs by unfold asInt; rw [if_pos c]]; exact hv
      · rw [show asInt (valL bs) = valL bs + pw (8 : Int).toNat * (-1) by unfold asInt; rw [if_neg c, h1]; omega, byte_add]; exact hv
    · unfold asInt; split <;> omega
    · unfold asInt; split <;> omega

/-! ### What follows -/
theorem siz_len {n size : Int} (h : sizB size = true) : ((byteL n size.toNat).length : Int) = size := by
  rw [byte_len]
  rcases siz_cases h with rfl | rfl | rfl <;> rfl
/-- PackBack's first clause. -/
theorem put_take {n size : Int} {r : List Int} (h : mayB n size = true) (hn : -9223372036854775808 ≤ n ∧ n ≤ 9223372036854775807) : takeV (byteL n size.toNat ++ r) size = (n, r, 0) := by
  have hs := may_siz h
  have hl := siz_len (n := n) hs
  unfold takeV
  have e1 : (byteL n size.toNat ++ r).take size.toNat = byteL n size.toNat := by
    rw [List.take_append_of_le_length (by rw [byte_len]; exact Nat.le_refl _), List.take_of_length_le (by rw [byte_len]; exact Nat.le_refl _)]
  have e2 : (byteL n size.toNat ++ r).drop size.toNat = r := by
    rw [List.drop_append_of_le_length (by rw [byte_len]; exact Nat.le_refl _), List.drop_eq_nil_of_le (by rw [byte_len]; exact Nat.le_refl _)]; rfl
  rw [if_pos ⟨hs, by rw [List.length_append]; push_cast; omega⟩, e1, e2, as_byte h hn]
theorem all_len {l : List Int} {k : Nat} : (allB l k).length = k * l.length := by
  induction l with
  | nil => simp [allB]
  | cons n l ih =>
    have e : allB (n :: l) k = byteL n k ++ allB l k := rfl
    rw [e, List.length_append, ih, byte_len, List.length_cons, Nat.mul_succ]; omega
theorem many_all {size : Int} (r : List Int) : ∀ {l : List Int}, (∀ n ∈ l, mayB n size = true) → (∀ n ∈ l, -9223372036854775808 ≤ n ∧ n ≤ 9223372036854775807) → manyV size.toNat l.length (allB l size.toNat ++ r) = some (l, r) := by
  intro l
  induction l with
  | nil => intro _ _; rfl
  | cons n l ih =>
    intro h1 h2
    have e : allB (n :: l) size.toNat ++ r = byteL n size.toNat ++ (allB l size.toNat ++ r) := by show (byteL n size.toNat ++ allB l size.toNat) ++ r = _; rw [List.append_assoc]
    have hl := byte_len size.toNat n
    have e1 : (byteL n size.toNat ++ (allB l size.toNat ++ r)).take size.toNat = byteL n size.toNat := by
      rw [List.take_append_of_le_length (by omega), List.take_of_length_le (by omega)]
    have e2 : (byteL n size.toNat ++ (allB l size.toNat ++ r)).drop size.toNat = allB l size.toNat ++ r := by
      rw [List.drop_append_of_le_length (by omega), List.drop_eq_nil_of_le (by omega)]; rfl
    rw [e, List.length_cons, manyV, if_neg (by rw [List.length_append]; omega), e1, e2, ih (fun n h => h1 n (by simp [h])) (fun n h => h2 n (by simp [h])), as_byte (h1 n (by simp)) (h2 n (by simp))]
    rfl
/-- PackBack's second clause. -/
theorem list_take {l b : List Int} {size : Int} (r : List Int) (hl : ∀ n ∈ l, -9223372036854775808 ≤ n ∧ n ≤ 9223372036854775807) (h : listV [] l size = (b, 0)) : takeListV (b ++ r) size = (l, r, 0) := by
  unfold listV at h
  split at h
  · rename_i g
    injection h with h _
    subst h
    obtain ⟨g1, g2, g3⟩ := g
    unfold takeListV
    have e1 : (([] ++ [(l.length : Int)] ++ allB l size.toNat) ++ r).getD 0 0 = (l.length : Int) := rfl
    have e2 : (([] ++ [(l.length : Int)] ++ allB l size.toNat) ++ r).drop 1 = allB l size.toNat ++ r := rfl
    rw [if_pos ⟨g2, by simp⟩, e1, e2, Int.toNat_natCast, many_all r g3 hl]
  · injection h with _ h; cases h
theorem many_back {size : Int} (hs : sizB size = true) : ∀ {m : Nat} {b l r : List Int}, Bytes b → manyV size.toNat m b = some (l, r) → l.length = m ∧ (∀ n ∈ l, mayB n size = true) ∧ (∀ n ∈ l, -9223372036854775808 ≤ n ∧ n ≤ 9223372036854775807) ∧ allB l size.toNat ++ r = b := by
  intro m
  induction m with
  | zero =>
    intro b l r _ h
    injection h with h
    injection h with h1 h2
    subst h1 h2
    exact ⟨rfl, fun _ h => (by cases h), fun _ h => (by cases h), rfl⟩
  | succ m ih =>
    intro b l r hb h
    rw [manyV] at h
    split at h
    · cases h
    · rename_i g
      cases e : manyV size.toNat m (b.drop size.toNat) with
      | none => rw [e] at h; cases h
      | some p =>
        rw [e] at h
        injection h with h
        injection h with h1 h2
        subst h1 h2
        obtain ⟨p1, p2⟩ := p
        obtain ⟨i1, i2, i3, i4⟩ := ih (fun x hx => hb x (List.mem_of_mem_drop hx)) e
        have ht : (b.take size.toNat).length = size.toNat := by rw [List.length_take]; omega
        obtain ⟨a1, a2, a3⟩ := as_val hs ht fun x hx => hb x (List.mem_of_mem_take hx)
        refine ⟨by simp [i1], ?_, ?_, ?_⟩
        · intro n hn
          rcases List.mem_cons.1 hn with rfl | hn
          · exact a1
          · exact i2 n hn
        · intro n hn
          rcases List.mem_cons.1 hn with rfl | hn
          · exact a3
          · exact i3 n hn
        · show (byteL (asInt (valL (b.take size.toNat))) size.toNat ++ allB p1 size.toNat) ++ p2 = b
          rw [a2, List.append_assoc, i4, List.take_append_drop]
/-- PackBack's third clause. -/
theorem take_list {b u v : List Int} {size : Int} (hb : Bytes b) (h : takeListV b size = (u, v, 0)) : ∃ c, listV [] u size = (c, 0) ∧ c ++ v = b := by
  unfold takeListV at h
  split at h
  · rename_i g
    obtain ⟨g1, g2⟩ := g
    match b, g2 with
    | x :: b, _ =>
      have hx := hb x (by simp)
      cases e : manyV size.toNat ((x :: b).getD 0 0).toNat ((x :: b).drop 1) with
      | none => rw [e] at h; injection h with _ h; injection h with _ h; cases h
      | some p =>
        rw [e] at h
        obtain ⟨p1, p2⟩ := p
        injection h with h1 h
        injection h with h2 _
        have h1' : p1 = u := h1
        have h2' : p2 = v := h2
        subst h1' h2'
        have hb' : Bytes ((x :: b).drop 1) := fun y hy => hb y (List.mem_of_mem_drop hy)
        obtain ⟨i1, i2, i3, i4⟩ := many_back g1 hb' e
        have hl : (p1.length : Int) = x := by
          have : ((x :: b).getD 0 0).toNat = x.toNat := rfl
          rw [this] at i1; omega
        refine ⟨[] ++ [(p1.length : Int)] ++ allB p1 size.toNat, ?_, ?_⟩
        · unfold listV; rw [if_pos ⟨by omega, g1, i2⟩]
        · rw [hl]
          show x :: (allB p1 size.toNat ++ p2) = x :: b
          rw [i4]; rfl
  · injection h with _ h; injection h with _ h; cases h
end Go.Proofs.PkM
