import Derived.Handy
import Derived.Lib.Bytes
import GoSem.Op.String
import Derived.Test.YtdcpekkkenckeaaShAll
set_option maxRecDepth 100000
/- Plain facts of layer 8: numbers as bytes, lists of numbers as bytes. No program stands here. -/
namespace Go.Proofs.PkM

/-! ### A number's bytes -/
/-- So many bytes, the highest first; of a number below 0 those of it and 256 to so many. -/
def byteL (n : Int) : Nat → List Int
  | 0 => []
  | k + 1 => byteL (n / 256) k ++ [n % 256]
/-- The number whose bytes these are. -/
def valL (bs : List Int) : Int := bs.foldl (fun u b => u * 256 + b) 0
def Bytes (bs : List Int) : Prop := ∀ b ∈ bs, 0 ≤ b ∧ b ≤ 255
def pw : Nat → Int
  | 0 => 1
  | k + 1 => 256 * pw k

theorem byte_len (k : Nat) : ∀ n, (byteL n k).length = k := by
  induction k with
  | zero => intro n; rfl
  | succ k ih => intro n; simp [byteL, ih]
theorem byte_bytes (k : Nat) : ∀ n, Bytes (byteL n k) := by
  induction k with
  | zero => intro n b hb; cases hb
  | succ k ih =>
    intro n b hb
    simp only [byteL, List.mem_append, List.mem_singleton] at hb
    rcases hb with hb | rfl
    · exact ih _ b hb
    · omega
theorem val_snoc (bs : List Int) (b : Int) : valL (bs ++ [b]) = valL bs * 256 + b := by unfold valL; rw [List.foldl_append]; rfl
theorem pw_pos (k : Nat) : 1 ≤ pw k := by
  induction k with
  | zero => decide
  | succ k ih => show 1 ≤ 256 * pw k; omega
theorem mod_pw (n : Int) (k : Nat) : n % (256 * pw k) = n / 256 % pw k * 256 + n % 256 := by
  have hp := pw_pos k
  have e1 := Int.mul_ediv_add_emod n 256
  have e2 := Int.mul_ediv_add_emod (n / 256) (pw k)
  have m1 := Int.emod_nonneg n (show (256 : Int) ≠ 0 by omega)
  have m2 := Int.emod_lt_of_pos n (show (0 : Int) < 256 by omega)
  have m3 := Int.emod_nonneg (n / 256) (show pw k ≠ 0 by omega)
  have m4 := Int.emod_lt_of_pos (n / 256) (show 0 < pw k by omega)
  have e3 : n = (n / 256 % pw k * 256 + n % 256) + (256 * pw k) * (n / 256 / pw k) := by
    have : 256 * pw k * (n / 256 / pw k) = 256 * (pw k * (n / 256 / pw k)) := Int.mul_assoc ..
    omega
  have h1 : (n / 256 % pw k * 256 + n % 256 + 256 * pw k * (n / 256 / pw k)) % (256 * pw k) = n / 256 % pw k * 256 + n % 256 := by
    rw [Int.add_mul_emod_self_left, Int.emod_eq_of_lt (by omega) (by omega)]
  rw [← e3] at h1
  exact h1
/-- What is read of a number's bytes. -/
theorem val_byte (k : Nat) : ∀ n, valL (byteL n k) = n % pw k := by
  induction k with
  | zero => intro n; show (0 : Int) = n % 1; omega
  | succ k ih =>
    intro n
    rw [byteL, val_snoc, ih]
    show _ = n % (256 * pw k)
    rw [mod_pw]
theorem byte_add (k : Nat) : ∀ n m, byteL (n + pw k * m) k = byteL n k := by
  induction k with
  | zero => intro n m; rfl
  | succ k ih =>
    intro n m
    have e1 : n + pw (k + 1) * m = n + 256 * (pw k * m) := by show n + 256 * pw k * m = _; rw [Int.mul_assoc]
    rw [byteL, byteL, e1]
    have e2 : (n + 256 * (pw k * m)) / 256 = n / 256 + pw k * m := by omega
    have e3 : (n + 256 * (pw k * m)) % 256 = n % 256 := by omega
    rw [e2, e3, ih]
/-- The bytes of what was read are those bytes. -/
theorem byte_val : ∀ (k : Nat) (bs : List Int), bs.length = k → Bytes bs → byteL (valL bs) k = bs := by
  intro k
  induction k with
  | zero => intro bs h _; rw [List.eq_nil_of_length_eq_zero h]; rfl
  | succ k ih =>
    intro bs h hb
    obtain ⟨l, x, rfl⟩ : ∃ l x, bs = l ++ [x] := ⟨bs.dropLast, bs.getLast (by intro e; rw [e] at h; simp at h), (List.dropLast_concat_getLast _).symm⟩
    have hx := hb x (by simp)
    rw [val_snoc, byteL]
    have e1 : (valL l * 256 + x) / 256 = valL l := by omega
    have e2 : (valL l * 256 + x) % 256 = x := by omega
    rw [e1, e2, ih l (by simpa using h) fun b h => hb b (by simp [h])]
theorem val_range : ∀ (k : Nat) (bs : List Int), bs.length = k → Bytes bs → 0 ≤ valL bs ∧ valL bs < pw k := by
  intro k
  induction k with
  | zero => intro bs h _; rw [List.eq_nil_of_length_eq_zero h]; decide
  | succ k ih =>
    intro bs h hb
    obtain ⟨l, x, rfl⟩ : ∃ l x, bs = l ++ [x] := ⟨bs.dropLast, bs.getLast (by intro e; rw [e] at h; simp at h), (List.dropLast_concat_getLast _).symm⟩
    have hx := hb x (by simp)
    have := ih l (by simpa using h) fun b h => hb b (by simp [h])
    rw [val_snoc]
    show _ ∧ _ < 256 * pw k
    omega

/-! ### What the calls answer -/
def sizB (size : Int) : Bool := size == 1 || size == 2 || size == 8
def mayB (n size : Int) : Bool := (size == 1 && decide (0 ≤ n ∧ n ≤ 255)) || (size == 2 && decide (0 ≤ n ∧ n ≤ 65535)) || size == 8
/-- As an int. -/
def asInt (u : Int) : Int := if u < 9223372036854775808 then u else u - 18446744073709551616
def putV (b : List Int) (n size : Int) : List Int × Int := if mayB n size = true then (b ++ byteL n size.toNat, 0) else ([], 40)
def takeV (b : List Int) (size : Int) : Int × List Int × Int := if sizB size = true ∧ size ≤ b.length then (asInt (valL (b.take size.toNat)), b.drop size.toNat, 0) else (0, [], 40)
/-- All numbers, one behind the other. -/
def allB (l : List Int) (k : Nat) : List Int := l.flatMap fun n => byteL n k
def listV (b l : List Int) (size : Int) : List Int × Int :=
  if l.length ≤ 255 ∧ sizB size = true ∧ ∀ n ∈ l, mayB n size = true then (b ++ [(l.length : Int)] ++ allB l size.toNat, 0) else ([], 40)
/-- So many numbers that bytes begin with, and what is behind. -/
def manyV (k : Nat) : Nat → List Int → Option (List Int × List Int)
  | 0, b => some ([], b)
  | m + 1, b => if b.length < k then none else (manyV k m (b.drop k)).map fun p => (asInt (valL (b.take k)) :: p.1, p.2)
def takeListV (b : List Int) (size : Int) : List Int × List Int × Int :=
  if sizB size = true ∧ 1 ≤ b.length then match manyV size.toNat (b.getD 0 0).toNat (b.drop 1) with
    | some (l, r) => (l, r, 0)
    | none => ([], [], 40)
  else ([], [], 40)

theorem siz_cases {size : Int} (h : sizB size = true) : size = 1 ∨ size = 2 ∨ size = 8 := by unfold sizB at h; simp at h; omega
theorem may_siz {n size : Int} (h : mayB n size = true) : sizB size = true := by unfold mayB at h; unfold sizB; simp at h ⊢; omega
/-- A number of a size is what is read of its bytes. -/
theorem as_byte {n size : Int} (h : mayB n size = true) (hn : -9223372036854775808 ≤ n ∧ n ≤ 9223372036854775807) : asInt (valL (byteL n size.toNat)) = n := by
  rw [val_byte]
  unfold mayB at h
  simp at h
  unfold asInt
  rcases h with (⟨rfl, h⟩ | ⟨rfl, h⟩) | rfl
  · have e : n % pw (1 : Int).toNat = n := by show n % 256 = n; omega
    rw [e, if_pos (by omega)]
  · have e : n % pw (2 : Int).toNat = n := by show n % 65536 = n; omega
    rw [e, if_pos (by omega)]
  · have h8 : pw (8 : Int).toNat = 18446744073709551616 := by decide
    rw [h8]
    split <;> omega
/-- What is read of so many bytes is a number of that size, and its bytes are they. -/
theorem as_val {size : Int} {bs : List Int} (hs : sizB size = true) (hl : bs.length = size.toNat) (hb : Bytes bs) : mayB (asInt (valL bs)) size = true ∧ byteL (asInt (valL bs)) size.toNat = bs ∧ -9223372036854775808 ≤ asInt (valL bs) ∧ asInt (valL bs) ≤ 9223372036854775807 := by
  have hr := val_range _ bs hl hb
  have hv := byte_val _ bs hl hb
  rcases siz_cases hs with rfl | rfl | rfl
  · have h1 : pw (1 : Int).toNat = 256 := by decide
    rw [h1] at hr
    have e : asInt (valL bs) = valL bs := by unfold asInt; rw [if_pos (by omega)]
    rw [e]
    exact ⟨by unfold mayB; simp; omega, hv, by omega, by omega⟩
  · have h1 : pw (2 : Int).toNat = 65536 := by decide
    rw [h1] at hr
    have e : asInt (valL bs) = valL bs := by unfold asInt; rw [if_pos (by omega)]
    rw [e]
    exact ⟨by unfold mayB; simp; omega, hv, by omega, by omega⟩
  · have h1 : pw (8 : Int).toNat = 18446744073709551616 := by decide
    rw [h1] at hr
    refine ⟨by unfold mayB; simp, ?_, ?_, ?_⟩
    · by_cases c : valL bs < 9223372036854775808
      · rw [show asInt (valL bs) = valL bs by unfold asInt; rw [if_pos c]]; exact hv
      · rw [show asInt (valL bs) = valL bs + pw (8 : Int).toNat * (-1) by unfold asInt; rw [if_neg c, h1]; omega, byte_add]; exact hv
    · unfold asInt; split <;> omega
    · unfold asInt; split <;> omega

/-! ### What follows -/
theorem siz_len {n size : Int} (h : sizB size = true) : ((byteL n size.toNat).length : Int) = size := by
  rw [byte_len]
  rcases siz_cases h with rfl | rfl | rfl <;> rfl
/-- PackBack's first clause. -/
theorem put_take {n size : Int} {r : List Int} (h : mayB n size = true) (hn : -9223372036854775808 ≤ n ∧ n ≤ 9223372036854775807) : takeV (byteL n size.toNat ++ r) size = (n, r, 0) := by
  have hs := may_siz h
  have hl := siz_len (n := n) hs
  unfold takeV
  have e1 : (byteL n size.toNat ++ r).take size.toNat = byteL n size.toNat := by
    rw [List.take_append_of_le_length (by rw [byte_len]; exact Nat.le_refl _), List.take_of_length_le (by rw [byte_len]; exact Nat.le_refl _)]
  have e2 : (byteL n size.toNat ++ r).drop size.toNat = r := by
    rw [List.drop_append_of_le_length (by rw [byte_len]; exact Nat.le_refl _), List.drop_eq_nil_of_le (by rw [byte_len]; exact Nat.le_refl _)]; rfl
  rw [if_pos ⟨hs, by rw [List.length_append]; push_cast; omega⟩, e1, e2, as_byte h hn]
theorem all_len {l : List Int} {k : Nat} : (allB l k).length = k * l.length := by
  induction l with
  | nil => simp [allB]
  | cons n l ih =>
    have e : allB (n :: l) k = byteL n k ++ allB l k := rfl
    rw [e, List.length_append, ih, byte_len, List.length_cons, Nat.mul_succ]; omega
theorem many_all {size : Int} (r : List Int) : ∀ {l : List Int}, (∀ n ∈ l, mayB n size = true) → (∀ n ∈ l, -9223372036854775808 ≤ n ∧ n ≤ 9223372036854775807) → manyV size.toNat l.length (allB l size.toNat ++ r) = some (l, r) := by
  intro l
  induction l with
  | nil => intro _ _; rfl
  | cons n l ih =>
    intro h1 h2
    have e : allB (n :: l) size.toNat ++ r = byteL n size.toNat ++ (allB l size.toNat ++ r) := by show (byteL n size.toNat ++ allB l size.toNat) ++ r = _; rw [List.append_assoc]
    have hl := byte_len size.toNat n
    have e1 : (byteL n size.toNat ++ (allB l size.toNat ++ r)).take size.toNat = byteL n size.toNat := by
      rw [List.take_append_of_le_length (by omega), List.take_of_length_le (by omega)]
    have e2 : (byteL n size.toNat ++ (allB l size.toNat ++ r)).drop size.toNat = allB l size.toNat ++ r := by
      rw [List.drop_append_of_le_length (by omega), List.drop_eq_nil_of_le (by omega)]; rfl
    rw [e, List.length_cons, manyV, if_neg (by rw [List.length_append]; omega), e1, e2, ih (fun n h => h1 n (by simp [h])) (fun n h => h2 n (by simp [h])), as_byte (h1 n (by simp)) (h2 n (by simp))]
    rfl
/-- PackBack's second clause. -/
theorem list_take {l b : List Int} {size : Int} (r : List Int) (hl : ∀ n ∈ l, -9223372036854775808 ≤ n ∧ n ≤ 9223372036854775807) (h : listV [] l size = (b, 0)) : takeListV (b ++ r) size = (l, r, 0) := by
  unfold listV at h
  split at h
  · rename_i g
    injection h with h _
    subst h
    obtain ⟨g1, g2, g3⟩ := g
    unfold takeListV
    have e1 : (([] ++ [(l.length : Int)] ++ allB l size.toNat) ++ r).getD 0 0 = (l.length : Int) := rfl
    have e2 : (([] ++ [(l.length : Int)] ++ allB l size.toNat) ++ r).drop 1 = allB l size.toNat ++ r := rfl
    rw [if_pos ⟨g2, by simp⟩, e1, e2, Int.toNat_natCast, many_all r g3 hl]
  · injection h with _ h; cases h
theorem many_back {size : Int} (hs : sizB size = true) : ∀ {m : Nat} {b l r : List Int}, Bytes b → manyV size.toNat m b = some (l, r) → l.length = m ∧ (∀ n ∈ l, mayB n size = true) ∧ (∀ n ∈ l, -9223372036854775808 ≤ n ∧ n ≤ 9223372036854775807) ∧ allB l size.toNat ++ r = b := by
  intro m
  induction m with
  | zero =>
    intro b l r _ h
    injection h with h
    injection h with h1 h2
    subst h1 h2
    exact ⟨rfl, fun _ h => (by cases h), fun _ h => (by cases h), rfl⟩
  | succ m ih =>
    intro b l r hb h
    rw [manyV] at h
    split at h
    · cases h
    · rename_i g
      cases e : manyV size.toNat m (b.drop size.toNat) with
      | none => rw [e] at h; cases h
      | some p =>
        rw [e] at h
        injection h with h
        injection h with h1 h2
        subst h1 h2
        obtain ⟨p1, p2⟩ := p
        obtain ⟨i1, i2, i3, i4⟩ := ih (fun x hx => hb x (List.mem_of_mem_drop hx)) e
        have ht : (b.take size.toNat).length = size.toNat := by rw [List.length_take]; omega
        obtain ⟨a1, a2, a3⟩ := as_val hs ht fun x hx => hb x (List.mem_of_mem_take hx)
        refine ⟨by simp [i1], ?_, ?_, ?_⟩
        · intro n hn
          rcases List.mem_cons.1 hn with rfl | hn
          · exact a1
          · exact i2 n hn
        · intro n hn
          rcases List.mem_cons.1 hn with rfl | hn
          · exact a3
          · exact i3 n hn
        · show (byteL (asInt (valL (b.take size.toNat))) size.toNat ++ allB p1 size.toNat) ++ p2 = b
          rw [a2, List.append_assoc, i4, List.take_append_drop]
/-- PackBack's third clause. -/
theorem take_list {b u v : List Int} {size : Int} (hb : Bytes b) (h : takeListV b size = (u, v, 0)) : ∃ c, listV [] u size = (c, 0) ∧ c ++ v = b := by
  unfold takeListV at h
  split at h
  · rename_i g
    obtain ⟨g1, g2⟩ := g
    match b, g2 with
    | x :: b, _ =>
      have hx := hb x (by simp)
      cases e : manyV size.toNat ((x :: b).getD 0 0).toNat ((x :: b).drop 1) with
      | none => rw [e] at h; injection h with _ h; injection h with _ h; cases h
      | some p =>
        rw [e] at h
        obtain ⟨p1, p2⟩ := p
        injection h with h1 h
        injection h with h2 _
        have h1' : p1 = u := h1
        have h2' : p2 = v := h2
        subst h1' h2'
        have hb' : Bytes ((x :: b).drop 1) := fun y hy => hb y (List.mem_of_mem_drop hy)
        obtain ⟨i1, i2, i3, i4⟩ := many_back g1 hb' e
        have hl : (p1.length : Int) = x := by
          have : ((x :: b).getD 0 0).toNat = x.toNat := rfl
          rw [this] at i1; omega
        refine ⟨[] ++ [(p1.length : Int)] ++ allB p1 size.toNat, ?_, ?_⟩
        · unfold listV; rw [if_pos ⟨by omega, g1, i2⟩]
        · rw [hl]
          show x :: (allB p1 size.toNat ++ p2) = x :: b
          rw [i4]; rfl
  · injection h with _ h; injection h with _ h; cases h
end Go.Proofs.PkM

/- Plain facts of layer 8's laws: bytes as strings, how they stand, what is cut, many numbers, numbers in more bytes. -/
namespace Go.Proofs.PkM
open Go

/-! ### Bytes as strings -/
theorem u8_inj {a b : Int} (ha : 0 ≤ a ∧ a ≤ 255) (hb : 0 ≤ b ∧ b ≤ 255) (h : UInt8.ofNat a.toNat = UInt8.ofNat b.toNat) : a = b := by
  have e := congrArg UInt8.toNat h
  rw [UInt8.toNat_ofNat_of_lt' (by show a.toNat < 256; omega), UInt8.toNat_ofNat_of_lt' (by show b.toNat < 256; omega)] at e
  omega
theorem str_inj : ∀ {a b : List Int}, Bytes a → Bytes b → Lib.bytesOf a = Lib.bytesOf b → a = b
  | [], [], _, _, _ => rfl
  | [], _ :: _, _, _, h => by cases h
  | _ :: _, [], _, _, h => by cases h
  | x :: a, y :: b, ha, hb, h => by
    injection h with h1 h2
    rw [u8_inj (ha x (by simp)) (hb y (by simp)) h1, str_inj (fun z hz => ha z (by simp [hz])) (fun z hz => hb z (by simp [hz])) h2]
theorem str_eq {a b : List Int} (ha : Bytes a) (hb : Bytes b) {r : Bool} (h : (a == b) = r) : ((strOfNums a).toList == (strOfNums b).toList) = r := by
  rw [Lib.strOfNums_toList, Lib.strOfNums_toList]
  by_cases c : a = b
  · subst c; simp at h ⊢; exact h
  · have : Lib.bytesOf a ≠ Lib.bytesOf b := fun e => c (str_inj ha hb e)
    have e1 : (a == b) = false := by simpa using c
    rw [e1] at h
    rw [← h]
    simpa using this
theorem str_add (a b : List Int) : strOfNums a ++ strOfNums b = strOfNums (a ++ b) := by
  apply ByteArray.ext
  apply Array.toList_inj.1
  simp [strOfNums]

/-! ### How they stand -/
theorem fold_val (bs : List Int) : ∀ u : Int, bs.foldl (fun u b => u * 256 + b) u = u * pw bs.length + valL bs := by
  induction bs with
  | nil => intro u; show u = u * 1 + 0; omega
  | cons b bs ih =>
    intro u
    show bs.foldl _ (u * 256 + b) = u * (256 * pw bs.length) + bs.foldl _ (0 * 256 + b)
    rw [ih, ih]
    have e1 : (u * 256 + b) * pw bs.length = u * (256 * pw bs.length) + b * pw bs.length := by rw [Int.add_mul, Int.mul_assoc]
    have e2 : (0 * 256 + b) * pw bs.length = b * pw bs.length := by rw [Int.zero_mul, Int.zero_add]
    omega
theorem val_cons (b : Int) (bs : List Int) : valL (b :: bs) = b * pw bs.length + valL bs := by
  show bs.foldl _ (0 * 256 + b) = _
  rw [fold_val, Int.zero_mul, Int.zero_add]
theorem less_val : ∀ {x y : List Int}, x.length = y.length → Bytes x → Bytes y → Op.bytesLess (Lib.bytesOf x) (Lib.bytesOf y) = decide (valL x < valL y)
  | [], [], _, _, _ => by simp [Lib.bytesOf, Op.bytesLess]
  | [], _ :: _, h, _, _ => by simp at h
  | _ :: _, [], h, _, _ => by simp at h
  | a :: x, b :: y, h, hx, hy => by
    have hl : x.length = y.length := by simpa using h
    have ih := less_val hl (fun z hz => hx z (by simp [hz])) (fun z hz => hy z (by simp [hz]))
    have ra := hx a (by simp)
    have rb := hy b (by simp)
    have vx := val_range _ x rfl fun z hz => hx z (by simp [hz])
    have vy := val_range _ y rfl fun z hz => hy z (by simp [hz])
    rw [← hl] at vy
    show (decide (UInt8.ofNat a.toNat < UInt8.ofNat b.toNat) || (UInt8.ofNat a.toNat == UInt8.ofNat b.toNat && Op.bytesLess (Lib.bytesOf x) (Lib.bytesOf y))) = _
    rw [ih, val_cons, val_cons, ← hl]
    have e1 : (UInt8.ofNat a.toNat < UInt8.ofNat b.toNat) ↔ a < b := by
      rw [UInt8.lt_iff_toNat_lt, UInt8.toNat_ofNat_of_lt' (by show a.toNat < 256; omega), UInt8.toNat_ofNat_of_lt' (by show b.toNat < 256; omega)]
      omega
    generalize pw x.length = P at *
    by_cases c : a < b
    · have h1 : valL x < P := vx.2
      have h2 : (a + 1) * P ≤ b * P := Int.mul_le_mul_of_nonneg_right (by omega) (by omega)
      rw [Int.add_mul, Int.one_mul] at h2
      have h3 : a * P + valL x < b * P + valL y := by omega
      simp [e1, c, h3]
    · by_cases d : a = b
      · subst d
        have h3 : (a * P + valL x < a * P + valL y) ↔ valL x < valL y := by omega
        simp [e1, h3]
      · have h2 : (b + 1) * P ≤ a * P := Int.mul_le_mul_of_nonneg_right (by omega) (by omega)
        rw [Int.add_mul, Int.one_mul] at h2
        have h3 : ¬ (a * P + valL x < b * P + valL y) := by omega
        have h4 : ¬ UInt8.ofNat a.toNat = UInt8.ofNat b.toNat := fun e => d (u8_inj ra rb e)
        simp [e1, c, h3, h4]
theorem less_ahead (b x y : List Int) : Op.bytesLess (Lib.bytesOf (b ++ x)) (Lib.bytesOf (b ++ y)) = Op.bytesLess (Lib.bytesOf x) (Lib.bytesOf y) := by
  induction b with
  | nil => rfl
  | cons z b ih =>
    show (decide (UInt8.ofNat z.toNat < UInt8.ofNat z.toNat) || (UInt8.ofNat z.toNat == UInt8.ofNat z.toNat && Op.bytesLess (Lib.bytesOf (b ++ x)) (Lib.bytesOf (b ++ y)))) = _
    rw [ih]
    simp
/-- PackOrder. -/
theorem put_order {b : List Int} {m n size : Int} (hm : mayB m size = true) (hn : mayB n size = true) (m0 : 0 ≤ m) (n0 : 0 ≤ n) (mi : m ≤ 9223372036854775807) (ni : n ≤ 9223372036854775807) :
    Op.bytesLess (strOfNums (b ++ byteL m size.toNat)).toList (strOfNums (b ++ byteL n size.toNat)).toList = decide (m < n) := by
  rw [Lib.strOfNums_toList, Lib.strOfNums_toList, less_ahead, less_val (by rw [byte_len, byte_len]) (byte_bytes _ _) (byte_bytes _ _), val_byte, val_byte]
  have key : ∀ x : Int, mayB x size = true → 0 ≤ x → x ≤ 9223372036854775807 → x % pw size.toNat = x := fun x hx x0 xi => by
    unfold mayB at hx
    simp at hx
    rcases hx with (⟨rfl, hx⟩ | ⟨rfl, hx⟩) | rfl
    · have h1 : pw (1 : Int).toNat = 256 := by decide
      rw [h1]; omega
    · have h1 : pw (2 : Int).toNat = 65536 := by decide
      rw [h1]; omega
    · have h1 : pw (8 : Int).toNat = 18446744073709551616 := by decide
      rw [h1]; omega
  rw [key m hm m0 mi, key n hn n0 ni]

/-! ### What is cut -/
theorem many_short {k : Nat} : ∀ {m : Nat} {b : List Int}, b.length < k * m → manyV k m b = none := by
  intro m
  induction m with
  | zero => intro b h; simp at h
  | succ m ih =>
    intro b h
    rw [manyV]
    by_cases c : b.length < k
    · rw [if_pos c]
    · rw [if_neg c, ih (by rw [List.length_drop]; rw [Nat.mul_succ] at h; omega)]
      rfl
theorem list_is {b l c : List Int} {size : Int} (h : listV b l size = (c, 0)) : l.length ≤ 255 ∧ sizB size = true ∧ (∀ n ∈ l, mayB n size = true) ∧ c = b ++ [(l.length : Int)] ++ allB l size.toNat := by
  unfold listV at h
  split at h
  · rename_i g; injection h with h _; exact ⟨g.1, g.2.1, g.2.2, h.symm⟩
  · injection h with _ h; cases h
theorem list_len {l c : List Int} {size : Int} (h : listV [] l size = (c, 0)) : (c.length : Int) = 1 + size * l.length := by
  obtain ⟨_, h2, _, rfl⟩ := list_is h
  have hs : (size.toNat : Int) = size := by rcases siz_cases h2 with rfl | rfl | rfl <;> rfl
  rw [List.length_append, all_len]
  show ((1 + size.toNat * l.length : Nat) : Int) = _
  push_cast
  rw [hs]
/-- PackCuts. -/
theorem list_cut {l c : List Int} {size : Int} (h : listV [] l size = (c, 0)) {k : Nat} (hk : k < c.length) : takeListV (c.take k) size = ([], [], 40) := by
  have hl := list_len h
  obtain ⟨_, h2, _, rfl⟩ := list_is h
  have hs : (size.toNat : Int) = size := by rcases siz_cases h2 with rfl | rfl | rfl <;> rfl
  unfold takeListV
  cases k with
  | zero => rw [if_neg (by simp)]
  | succ k =>
    have e1 : (([] ++ [(l.length : Int)] ++ allB l size.toNat).take (k + 1)).getD 0 0 = (l.length : Int) := rfl
    have e2 : (([] ++ [(l.length : Int)] ++ allB l size.toNat).take (k + 1)).drop 1 = (allB l size.toNat).take k := rfl
    rw [if_pos ⟨h2, by simp⟩, e1, e2, Int.toNat_natCast, many_short]
    rw [List.length_take]
    have hc : ([] ++ [(l.length : Int)] ++ allB l size.toNat).length = 1 + size.toNat * l.length := by
      rw [List.length_append, all_len]; rfl
    rw [hc] at hk
    omega

/-! ### Many numbers -/
theorem all_snoc (l : List Int) (n : Int) (k : Nat) : allB (l ++ [n]) k = allB l k ++ byteL n k := by unfold allB; simp
/-- PackMany: where one is none of the size, there is no list. -/
theorem list_none {l b : List Int} {size n : Int} (hn : n ∈ l) (h : mayB n size = false) : listV b l size = ([], 40) := by
  unfold listV
  rw [if_neg]
  rintro ⟨_, _, g⟩
  rw [g n hn] at h
  cases h
theorem take_all {n size : Int} {l : List Int} (h : mayB n size = true) (hn : -9223372036854775808 ≤ n ∧ n ≤ 9223372036854775807) : takeV (allB (n :: l) size.toNat) size = (n, allB l size.toNat, 0) := put_take h hn

/-! ### In more bytes -/
theorem wide_one {n : Int} (h : 0 ≤ n ∧ n ≤ 255) : byteL n 8 = List.replicate 7 0 ++ byteL n 1 := by
  have e : ∀ k, byteL 0 k = List.replicate k 0 := fun k => by
    induction k with
    | zero => rfl
    | succ k ih => rw [byteL, show (0 : Int) / 256 = 0 by decide, show (0 : Int) % 256 = 0 by decide, ih]; exact List.replicate_succ'.symm
  show byteL (n / 256) 7 ++ [n % 256] = _
  rw [show n / 256 = 0 by omega, e]
  rfl
theorem wide_two {n : Int} (h : 0 ≤ n ∧ n ≤ 65535) : byteL n 8 = List.replicate 6 0 ++ byteL n 2 := by
  have e : ∀ k, byteL 0 k = List.replicate k 0 := fun k => by
    induction k with
    | zero => rfl
    | succ k ih => rw [byteL, show (0 : Int) / 256 = 0 by decide, show (0 : Int) % 256 = 0 by decide, ih]; exact List.replicate_succ'.symm
  show (byteL (n / 256 / 256) 6 ++ [n / 256 % 256]) ++ [n % 256] = List.replicate 6 0 ++ ((byteL (n / 256 / 256) 0 ++ [n / 256 % 256]) ++ [n % 256])
  rw [show n / 256 / 256 = 0 by omega, e, List.append_assoc]
  rfl
end Go.Proofs.PkM

/- Layer 8, plain facts: a number's bytes one by one, the number of bytes one by one, lists that end early. No program stands here. -/
namespace Go.Proofs.PkM

theorem pw_step (k : Nat) (n : Int) : n / 256 / pw k = n / pw (k + 1) := by
  show n / 256 / pw k = n / (256 * pw k)
  rw [Int.ediv_ediv_of_nonneg (by omega)]
theorem byte_hd (k : Nat) : ∀ n, byteL n (k + 1) = (n / pw k % 256) :: byteL n k := by
  induction k with
  | zero => intro n; show [] ++ [n % 256] = [n / 1 % 256]; simp
  | succ k ih =>
    intro n
    rw [byteL, ih, pw_step]
    rfl
/-- So far so many of a number's bytes are there. -/
def Wr (r cur : List Int) (n : Int) (j : Nat) : Prop := r = cur ++ byteL n j
theorem wr_start (bs : List Int) (n : Int) (k : Nat) : Wr (bs ++ byteL n k) bs n k := rfl
theorem wr_step {r cur : List Int} {n : Int} {k : Nat} (h : Wr r cur n (k + 1)) : Wr r (cur ++ [n / pw k % 256]) n k := by
  unfold Wr at h ⊢
  rw [h, byte_hd]
  simp
theorem wr_end {r cur : List Int} {n : Int} (h : Wr r cur n 0) : r = cur := by
  unfold Wr at h
  rw [h]
  simp [byteL]
theorem wr_len {r cur : List Int} {n : Int} {j : Nat} (h : Wr r cur n j) : cur.length + j = r.length := by
  unfold Wr at h
  rw [h, List.length_append, byte_len]

/-! ### A number of bytes -/
theorem val_take {bs : List Int} {k : Nat} {x : Int} (h : bs[k]? = some x) : valL (bs.take (k + 1)) = valL (bs.take k) * 256 + x := by
  rw [List.take_add_one, h]
  exact val_snoc _ _
theorem pw_mono {a b : Nat} (h : a ≤ b) : pw a ≤ pw b := by
  induction h with
  | refl => exact Int.le_refl _
  | step _ ih => have := pw_pos a; show pw a ≤ 256 * pw _; omega
theorem val_small {bs : List Int} {k : Nat} (hb : Bytes bs) (hk : k ≤ bs.length) (h7 : k ≤ 7) : 0 ≤ valL (bs.take k) ∧ valL (bs.take k) < 72057594037927936 := by
  have h := val_range k (bs.take k) (by rw [List.length_take]; omega) (fun b h => hb b (List.mem_of_mem_take h))
  have h2 := pw_mono h7
  have h3 : pw 7 = 72057594037927936 := by decide
  omega

/-! ### Lists -/
/-- The numbers that are left are numbers of the size. -/
def Ok (l : List Int) (size : Int) : Prop := ∀ n ∈ l, mayB n size = true
theorem ok_hd {l : List Int} {k : Nat} {x size : Int} (h : Ok (l.drop k) size) (hx : l[k]? = some x) : mayB x size = true := by
  refine h x ?_
  rw [List.mem_iff_getElem?]
  exact ⟨0, by rw [List.getElem?_drop]; simpa using hx⟩
theorem drop_hd {l : List Int} {k : Nat} {x : Int} (hx : l[k]? = some x) : l.drop k = x :: l.drop (k + 1) := by
  obtain ⟨h, e⟩ := List.getElem?_eq_some_iff.1 hx
  rw [List.drop_eq_getElem_cons h, e]
theorem ok_tl {l : List Int} {k : Nat} {x size : Int} (hx : l[k]? = some x) (h : mayB x size = true) : Ok (l.drop k) size ↔ Ok (l.drop (k + 1)) size := by
  rw [drop_hd hx]
  unfold Ok
  constructor
  · intro g n hn; exact g n (List.mem_cons_of_mem _ hn)
  · intro g n hn
    rcases List.mem_cons.1 hn with rfl | hn
    · exact h
    · exact g n hn
theorem ok_end {l : List Int} {k : Nat} (size : Int) (hk : l.length ≤ k) : Ok (l.drop k) size := by
  rw [List.drop_eq_nil_of_le hk]
  intro n hn; cases hn
/-- Lists: so far so many numbers stand there. -/
def Wl (r cur l : List Int) (k sz : Nat) : Prop := r = cur ++ allB (l.drop k) sz
theorem wl_step {r cur l : List Int} {k sz : Nat} {x : Int} (h : Wl r cur l k sz) (hx : l[k]? = some x) : Wl r (cur ++ byteL x sz) l (k + 1) sz := by
  unfold Wl at h ⊢
  rw [h, drop_hd hx, List.append_assoc]
  rfl
theorem wl_end {r cur l : List Int} {k sz : Nat} (h : Wl r cur l k sz) (hk : l.length ≤ k) : r = cur := by
  unfold Wl at h
  rw [h, List.drop_eq_nil_of_le hk]
  simp [allB]
theorem wl_len {r cur l : List Int} {k sz : Nat} (h : Wl r cur l k sz) : cur.length ≤ r.length := by
  unfold Wl at h
  rw [h, List.length_append]; omega

/-- What is read: so many numbers are read, and of what is left the rest will be. -/
def Rl (o : Option (List Int × List Int)) (done rest : List Int) (sz m : Nat) : Prop := o = (manyV sz m rest).map fun p => (done ++ p.1, p.2)
theorem rl_start (sz m : Nat) (b : List Int) : Rl (manyV sz m b) [] b sz m := by
  unfold Rl
  cases manyV sz m b <;> rfl
theorem rl_step {o : Option (List Int × List Int)} {done rest : List Int} {sz m : Nat} (h : Rl o done rest sz (m + 1)) (hl : sz ≤ rest.length) : Rl o (done ++ [asInt (valL (rest.take sz))]) (rest.drop sz) sz m := by
  unfold Rl at h ⊢
  rw [h, manyV, if_neg (by omega)]
  cases manyV sz m (rest.drop sz) with
  | none => rfl
  | some p => simp
theorem rl_bad {o : Option (List Int × List Int)} {done rest : List Int} {sz m : Nat} (h : Rl o done rest sz (m + 1)) (hl : ¬ sz ≤ rest.length) : o = none := by
  unfold Rl at h
  rw [h, manyV, if_pos (by omega)]
  rfl
theorem rl_end {o : Option (List Int × List Int)} {done rest : List Int} {sz : Nat} (h : Rl o done rest sz 0) : o = some (done, rest) := by
  unfold Rl at h
  rw [h]
  simp [manyV]
/-- A row that fills up. -/
theorem fill_set (done : List Int) (x : Int) (m : Nat) : (done ++ List.replicate (m + 1) 0).set done.length x = (done ++ [x]) ++ List.replicate m 0 := by
  rw [List.replicate_succ, List.set_append_right _ _ (by omega), Nat.sub_self, List.set_cons_zero]
  simp
end Go.Proofs.PkM

/- A []byte: what it reads as, one of the call's own: appended to, made, stored into (as the texts of []int, in a namespace of its own). -/
namespace Go.Proofs.Ytdcpekkkenckeaa.B8
open Go.RowKit Go.Proofs.Ytdcpekkkenckeaa


theorem u8_info : (Try.prog.info? 5).map (fun i => (i.zero, i.size, i.bytes)) = some (some (.int .u8 0), 1, 1) := by kernel_rfl

/-- The cells from A on are the numbers xs. -/
def Rd (w : World) (A : Option Addr) (xs : List Int) : Prop :=
  xs.length ≤ 9223372036854775807 ∧ (0 < xs.length → ∃ ad, A = some ad ∧ ad.block < w.heap.size ∧ ∀ j u, xs[j]? = some u → w.cell? (ad.add j) = some (.int .u8 u))
/-- The value is a []int of the numbers xs. -/
def Ints (w : World) (v : Value) (xs : List Int) : Prop := ∃ A c, v = .slice A xs.length c ∧ xs.length ≤ c ∧ c ≤ maxLen ∧ Rd w A xs

section
variable {w w' : World} {A : Option Addr} {xs : List Int} {v : Value}
theorem Rd.nil (w : World) (A : Option Addr) : Rd w A [] := ⟨by simp, fun h => absurd h (by simp)⟩
theorem Rd.len (h : Rd w A xs) : xs.length ≤ 9223372036854775807 := h.1
theorem Rd.at_ (h : Rd w A xs) {k : Nat} (hk : k < xs.length) : ∃ ad x, A = some ad ∧ ad.block < w.heap.size ∧ xs[k]? = some x ∧ w.cell? (ad.add k) = some (.int .u8 x) := by
  obtain ⟨ad, e, hb, hc⟩ := h.2 (by omega)
  exact ⟨ad, xs[k], e, hb, List.getElem?_eq_getElem hk, hc k _ (List.getElem?_eq_getElem hk)⟩
theorem Rd.keep (h : Rd w A xs) (hs : w.heap.size ≤ w'.heap.size) (hk : ∀ p : Addr, p.block < w.heap.size → w'.cell? p = w.cell? p) : Rd w' A xs :=
  ⟨h.1, fun hn => by
    obtain ⟨ad, e, hb, hc⟩ := h.2 hn
    exact ⟨ad, e, Nat.lt_of_lt_of_le hb hs, fun j u hu => (hk _ (by rw [block_of_add]; exact hb)).trans (hc j u hu)⟩⟩
theorem Rd.kp (h : Rd w A xs) (k : Kp w w') : Rd w' A xs := h.keep k.size fun _ hp => k.cell hp
theorem Ints.kp (h : Ints w v xs) (k : Kp w w') : Ints w' v xs := by
  obtain ⟨A, c, e, h1, h2, h3⟩ := h
  exact ⟨A, c, e, h1, h2, h3.kp k⟩
theorem Rd.drew (h : Rd w A xs) : Rd w.drew A xs := h
theorem Rd.drewN (h : Rd w A xs) (k : Nat) : Rd (w.drewN k) A xs := h
theorem Rd.below {B : Nat} (h : Rd w A xs) (hB : w.heap.size ≤ B) (k : Below B w w') : Rd w' A xs := h.kp (k.mono hB)
theorem Ints.nil (w : World) : Ints w (.slice none 0 0) [] := ⟨none, 0, rfl, by simp, by simp, Rd.nil _ _⟩
theorem Ints.of_own {base : Nat} {e : TypeId} (h : w.ownsRow base e 1 v xs.length (xs.map (Value.int .u8))) : Ints w v xs := by
  have hl := h
  rcases h.2 with ⟨rfl, h0⟩ | ⟨g, cap, cur, rfl, _, hh, hn, hc, hcs, ht⟩
  · have : xs = [] := List.eq_nil_of_length_eq_zero h0
    subst this
    exact Ints.nil w
  · refine ⟨_, cap, rfl, hn, hc, by unfold maxLen at hc; omega, fun hp => ⟨_, rfl, ?_, fun j u hu => ?_⟩⟩
    · obtain ⟨g', cap', e', _, hlt⟩ := hl.form hp
      injection e' with e1
      injection e1 with e1
      injection e1 with e1
      subst e1; exact hlt
    · exact hl.cells (g := g) rfl j (.int .u8 u) (by simp [hu])
end

/-- The value is a []int of the call's own (its row lies from block B on): the numbers xs. -/
def Own (B : Nat) (w : World) (v : Value) (xs : List Int) : Prop := w.ownsRow B 5 1 v xs.length (xs.map (Value.int .u8))

section
variable {w w' : World} {B : Nat} {v : Value} {xs ys : List Int} {A : Option Addr}
theorem Own.ints (h : Own B w v xs) : Ints w v xs := Ints.of_own h
theorem Own.form (h : Own B w v xs) : ∃ A c, v = .slice A xs.length c ∧ Rd w A xs := by
  obtain ⟨A, c, e, _, _, hr⟩ := h.ints
  exact ⟨A, c, e, hr⟩
theorem Own.nil_ (w : World) (B : Nat) : Own B w (.slice none 0 0) [] := World.ownsRow_nil w B 5 1
theorem Own.from_ (h : Own B w v xs) {k : Nat} (hk : v.ownBlock = some k) : B ≤ k := by
  rcases h.2 with ⟨rfl, _⟩ | ⟨g, cap, cur, rfl, hb, _⟩
  · cases hk
  · have : g = k := by simpa [Value.ownBlock] using hk
    omega
theorem Own.drew (h : Own B w v xs) : Own B w.drew v xs := h
theorem Own.drewN (h : Own B w v xs) (n : Nat) : Own B (w.drewN n) v xs := h
theorem Own.of_block (h : Own B w v xs) (hk : ∀ g, v.ownBlock = some g → w'.heap[g]? = w.heap[g]?) : Own B w' v xs := by
  refine ⟨h.1, ?_⟩
  rcases h.2 with h0 | ⟨g, cap, cur, rfl, hb, hg, r⟩
  · exact .inl h0
  · exact .inr ⟨g, cap, cur, rfl, hb, (hk g rfl).trans hg, r⟩
theorem Own.kp (h : Own B w v xs) (k : Kp w w') : Own B w' v xs := h.of_block fun g hg => k.block g (by
  rcases h.2 with ⟨rfl, _⟩ | ⟨g', cap, cur, rfl, _, hh, _⟩
  · cases hg
  · injection hg with hg
    subst hg
    rcases Nat.lt_or_ge g' w.heap.size with hlt | hge
    · exact hlt
    · rw [Array.getElem?_eq_none hge] at hh; cases hh)
theorem Rd.lit (w : World) (xs : List Int) (h : xs.length ≤ 1000000) (t : TypeId) : Rd (w.alloc (.cells (xs.map (Value.int .u8)).toArray t)) (some ⟨w.heap.size, 0, none⟩) xs :=
  ⟨by omega, fun _ => ⟨_, rfl, by simp, fun j u hu => by
    rw [Go.WideShapes.add_plain, Nat.zero_add, World.cell?_alloc_at _ t _ j rfl]
    simp [hu]⟩⟩
theorem Own.lit (w : World) (xs : List Int) (h : xs.length ≤ 1000000) (hB : B ≤ w.heap.size) :
    Own B (w.alloc (.cells (xs.map (Value.int .u8)).toArray 5)) (.slice (some ⟨w.heap.size, 0, none⟩) xs.length xs.length) xs := by
  have := World.ownsRow_lit (base := B) (e := 5) (size := 1) w (xs.map (Value.int .u8)).toArray xs.length hB (by unfold maxLen; omega) (by simp)
  simpa [Own] using this

theorem Own.zero (w : World) (hB : B ≤ w.heap.size) : Own B (w.alloc (.cells #[] 5)) (.slice (some ⟨w.heap.size, 0, none⟩) 0 0) [] := Own.lit w [] (by simp) hB
theorem Own.one (w : World) (x : Int) (hB : B ≤ w.heap.size) : Own B (w.alloc (.cells #[.int .u8 x] 5)) (.slice (some ⟨w.heap.size, 0, none⟩) 1 1) [x] := Own.lit w [x] (by simp) hB
theorem Own.two (w : World) (x y : Int) (hB : B ≤ w.heap.size) : Own B (w.alloc (.cells #[.int .u8 x, .int .u8 y] 5)) (.slice (some ⟨w.heap.size, 0, none⟩) 2 2) [x, y] := Own.lit w [x, y] (by simp) hB
theorem Rd.one (w : World) (x : Int) (t : TypeId) : Rd (w.alloc (.cells #[.int .u8 x] t)) (some ⟨w.heap.size, 0, none⟩) [x] := Rd.lit w [x] (by simp) t
theorem Rd.two (w : World) (x y : Int) (t : TypeId) : Rd (w.alloc (.cells #[.int .u8 x, .int .u8 y] t)) (some ⟨w.heap.size, 0, none⟩) [x, y] := Rd.lit w [x, y] (by simp) t
theorem Rd.alloc_ (h : Rd w A xs) (o : Obj) : Rd (w.alloc o) A xs := h.kp (Kp.alloc_ w o)
/-- The number in a slice's slot: how long it is. -/
def lenOf : Value → Nat | .slice _ n _ => n | _ => 0

theorem app_nil (h : Own B w v xs) (c : Nat) (ty : TypeId) : (Builtin.append_ #[44, 44] ty #[v, .slice none 0 c]).run Try.prog w = .ok v w := by
  obtain ⟨i, hi, _, _, _⟩ := info_parts u8_info
  have ht := run_underlying (P := Try.prog) (w := w) Try.underlying44
  rcases h.2 with ⟨rfl, _⟩ | ⟨g, cap, cur, rfl, _, _, hn, _⟩
  · simp [Builtin.append_, ht, sizeOf, typeInfo, hi, Builtin.lenOf, Builtin.firstCells]
  · simp [Builtin.append_, ht, sizeOf, typeInfo, hi, Builtin.lenOf, Builtin.firstCells, hn, storeCells]

/-- What append leaves. -/
theorem run_app (ho : Own B w v xs) (c : Nat) (hr : Rd w A ys) (hs : xs.length + ys.length ≤ 1000000) (hB : B ≤ w.heap.size) (ty : TypeId) :
    ∃ zs A' c' w', zs = xs ++ ys ∧ (Builtin.append_ #[44, 44] ty #[v, .slice A ys.length c]).run Try.prog w = .ok (.slice A' zs.length c') w' ∧ Own B w' (.slice A' zs.length c') zs ∧ Below B w w' := by
  by_cases hy : ys = []
  · subst hy
    obtain ⟨A', c', rfl, _⟩ := ho.form
    cases A with
    | none => exact ⟨xs, A', c', w, by simp, app_nil ho c ty, ho, Below.refl _ _⟩
    | some ad =>
      obtain ⟨i, hi, hz, h1, h2⟩ := info_parts u8_info
      obtain ⟨v', w', hrun, hown, hg, _, _⟩ := run_append_own_at (P := Try.prog) w B 44 ty 5 i _ 1 1 Try.underlying44 hi hz h1 h2 rfl (by omega) _ _ _ ho ad 0 c [] rfl (by simp) (by simp) (by unfold maxLen; omega) (by omega) hB
      have hown' : Own B w' v' xs := by simpa [Own] using hown
      obtain ⟨A2, c2, rfl, _⟩ := hown'.form
      refine ⟨xs, A2, c2, w', by simp, hrun, hown', (Below.refl _ _).grown hg hB fun k hk => ho.from_ hk⟩
  · obtain ⟨ad, rfl, hlt, hc⟩ := hr.2 (List.length_pos_iff.2 hy)
    obtain ⟨i, hi, hz, h1, h2⟩ := info_parts u8_info
    obtain ⟨v', w', hrun, hown, hg, _, _⟩ := run_append_own_at (P := Try.prog) w B 44 ty 5 i _ 1 1 Try.underlying44 hi hz h1 h2 rfl (by omega) _ _ _ ho ad ys.length c (ys.map (Value.int .u8)) (by simp)
      (fun j u hu => by
        rw [List.getElem?_map, Option.map_eq_some_iff] at hu
        obtain ⟨x, hx, rfl⟩ := hu
        exact hc j x hx) (ints_oneCell _ _) (by unfold maxLen; omega) (by omega) hB
    have hown' : Own B w' v' (xs ++ ys) := by simpa [Own] using hown
    obtain ⟨A2, c2, rfl, _⟩ := hown'.form
    refine ⟨xs ++ ys, A2, c2, w', rfl, hrun, hown', (Below.refl _ _).grown hg hB fun k hk => ho.from_ hk⟩

/-- append, for the walk. -/
theorem wpList_app {ops : Array Oper} {rest : List Oper} {o : Oper} {a : Act} {Q : Exit → Act → World → Prop} (hgd : Region.wanted o (yielded ops a.tmps) = true) (s x : Operand)
    (hop : o.op = .call { callee := .builtin .append, args := #[s, x], argTypes := #[44, 44] })
    (v : Value) (xs : List Int) (hs : a.eval s = v) (ho : Own B w v xs) (A : Option Addr) (c : Nat) (ys : List Int) (n : Nat) (hx : a.eval x = .slice A n c) (hn : n = ys.length) (hr : Rd w A ys)
    (hl : xs.length + ys.length ≤ 1000000) (hB : B ≤ w.heap.size)
    (h : ∀ zs A' c' w', Hid (zs = xs ++ ys) → Own B w' (.slice A' zs.length c') zs → Below B w w' → wpList Try.prog ops Q rest (a.put o.dst (.slice A' zs.length c')) w') : wpList Try.prog ops Q (o :: rest) a w := by
  refine BigFrame.wpList_want hgd fun K hK => ?_
  subst hn
  obtain ⟨zs, A', c', w', e, hrun, h1, h2⟩ := run_app ho c hr hl hB o.type
  unfold Oper.wp execOp
  simp only [hop, resolve, invoke, builtin, Sem.run_bind, Sem.run_pure, Result.andThen_ok, List.map_toArray, List.map_cons, List.map_nil, hs, hx, hrun]
  exact hK _ _ (h zs A' c' w' e h1 h2)

/-- A made row of noughts, written out. -/
theorem run_mk (w : World) (n : Nat) (hn : n ≤ 1000000) :
    (Instr.makeSlice 44 (.int .i64 (n : Int)) (.int .i64 (n : Int))).run Try.prog w = .ok (.slice (some ⟨w.heap.size, 0, none⟩) n n) (w.alloc (.cells (List.replicate n (Value.int .u8 0)).toArray 5)) := by
  obtain ⟨i, hi, hz, h1, h2⟩ := info_parts u8_info
  have hr := run_make (P := Try.prog) w 44 5 i _ Try.underlying44 hi hz .i64 .i64 n n (by omega) (Int.le_refl _) (by rw [h2]; omega) (by omega)
  simp only [Int.toNat_natCast, h1, Nat.mul_one] at hr
  rw [hr]
  congr 3
  exact Array.toList_inj.1 (by rw [show (Value.int IntKind.u8 0).cells = #[Value.int .u8 0] from rfl, toList_madeCells_one])
theorem run_mk0 (w : World) (n : Nat) (hn : n ≤ 1000000) :
    (Instr.makeSlice 44 (.int .i64 0) (.int .i64 (n : Int))).run Try.prog w = .ok (.slice (some ⟨w.heap.size, 0, none⟩) 0 n) (w.alloc (.cells (List.replicate n (Value.int .u8 0)).toArray 5)) := by
  obtain ⟨i, hi, hz, h1, h2⟩ := info_parts u8_info
  have hr := run_make (P := Try.prog) w 44 5 i _ Try.underlying44 hi hz .i64 .i64 0 n (by omega) (by omega) (by rw [h2]; omega) (by omega)
  simp only [Int.toNat_natCast, Int.toNat_zero, h1, Nat.mul_one] at hr
  rw [hr]
  congr 3
  exact Array.toList_inj.1 (by rw [show (Value.int IntKind.u8 0).cells = #[Value.int .u8 0] from rfl, toList_madeCells_one])

/-- The same, the cells a letter. -/
theorem mk_ (n : Nat) (hn : n ≤ 1000000) : ∃ cs : Array Value, (∀ W : World, (Instr.makeSlice 44 (.int .i64 (n : Int)) (.int .i64 (n : Int))).run Try.prog W = .ok (.slice (some ⟨W.heap.size, 0, none⟩) n n) (W.alloc (.cells cs 5))) ∧
    ∀ (W : World) (B : Nat), B ≤ W.heap.size → Own B (W.alloc (.cells cs 5)) (.slice (some ⟨W.heap.size, 0, none⟩) n n) (List.replicate n 0) :=
  ⟨_, fun W => run_mk W n hn, fun W B hB => by
    have := Own.lit (B := B) W (List.replicate n 0) (by simpa using hn) hB
    simpa using this⟩
theorem mk0_ (n : Nat) (hn : n ≤ 1000000) : ∃ cs : Array Value, (∀ W : World, (Instr.makeSlice 44 (.int .i64 0) (.int .i64 (n : Int))).run Try.prog W = .ok (.slice (some ⟨W.heap.size, 0, none⟩) 0 n) (W.alloc (.cells cs 5))) ∧
    ∀ (W : World) (B : Nat), B ≤ W.heap.size → Own B (W.alloc (.cells cs 5)) (.slice (some ⟨W.heap.size, 0, none⟩) 0 n) [] :=
  ⟨_, fun W => run_mk0 W n hn, fun W B hB => by
    have := World.ownsRow_made (base := B) (e := 5) (size := 1) W (List.replicate n (Value.int .u8 0)).toArray n hB (by unfold maxLen; omega) (by simp)
    simpa [Own] using this⟩

/-- Stored into. -/
theorem Own.set_ {g cap n : Nat} {xs : List Int} (h : Own B w (.slice (some ⟨g, 0, none⟩) n cap) xs) (j : Nat) (u : Int) : Own B (w.setCell ⟨g, j, none⟩ (.int .u8 u)) (.slice (some ⟨g, 0, none⟩) n cap) (xs.set j u) := by
  have hn : n = xs.length := by
    obtain ⟨A, c, e, _⟩ := h.form
    injection e
  subst hn
  have := (World.ownsRow.stored h j (.int .u8 u)).1
  simpa [Own, List.map_set] using this
theorem Own.cell_ {g cap n : Nat} {xs : List Int} (h : Own B w (.slice (some ⟨g, 0, none⟩) n cap) xs) {j : Nat} {u : Int} (hu : xs[j]? = some u) : w.cell? ⟨g, j, none⟩ = some (.int .u8 u) := by
  have hn : n = xs.length := by
    obtain ⟨A, c, e, _⟩ := h.form
    injection e
  subst hn
  rw [World.ownsRow.cellAt h j (by have := (List.getElem?_eq_some_iff.1 hu).1; omega)]
  simp [hu]
theorem Own.froz_ {g cap n : Nat} {xs : List Int} (h : Own B w (.slice (some ⟨g, 0, none⟩) n cap) xs) (j : Nat) : w.frozen? ⟨g, j, none⟩ = false := by
  have hn : n = xs.length := by
    obtain ⟨A, c, e, _⟩ := h.form
    injection e
  subst hn
  exact World.ownsRow.frozenAt h j
end
end Go.Proofs.Ytdcpekkkenckeaa.B8

/- Layer 8's calls: what each answers, as one statement each; bytes as strings, for the walk. -/
namespace Go.Proofs.Ytdcpekkkenckeaa
open Go.RowKit Go.Proofs.ShM Go.Proofs.PkM
set_option linter.unusedVariables false

theorem kp_al {w w' : World} (h : Kp w w') (o : Obj) : Kp w (w'.alloc o) := h.tr (Kp.alloc_ _ _)
/-- Bytes and an error. -/
def RetB (l : List Int) (err : Int) (n : Nat) (w : World) (e : Ending) (w' : World) : Prop :=
  ∃ A c, e = .returned (.tuple #[.slice A n c, .int .i64 err]) ∧ Hid (B8.Rd w' A l) ∧ Hid (l.length ≤ c ∧ c ≤ 9223372036854775807) ∧ Kp w w'
/-- A number, bytes and an error. -/
def RetNB (v : Int) (l : List Int) (err : Int) (n : Nat) (w : World) (e : Ending) (w' : World) : Prop :=
  ∃ A c, e = .returned (.tuple #[.int .i64 v, .slice A n c, .int .i64 err]) ∧ Hid (B8.Rd w' A l) ∧ Hid (l.length ≤ c ∧ c ≤ 9223372036854775807) ∧ Kp w w'
/-- Numbers, bytes and an error. -/
def RetLB (v l : List Int) (err : Int) (m n : Nat) (w : World) (e : Ending) (w' : World) : Prop :=
  ∃ A c B d, e = .returned (.tuple #[.slice A m c, .slice B n d, .int .i64 err]) ∧ Hid (Rd w' A v) ∧ Hid (B8.Rd w' B l) ∧ Hid (l.length ≤ d ∧ d ≤ 9223372036854775807) ∧ Kp w w'
def I64l (xs : List Int) : Prop := ∀ x ∈ xs, I64 x

theorem run_str {W : World} {A : Option Addr} {bs : List Int} {n : Nat} (c : Nat) (h : B8.Rd W A bs) (hn : n = bs.length) : (convert 44 9 (.slice A n c)).run Try.prog W = .ok (.string (strOfNums bs)) W := by
  subst hn
  cases A with
  | none =>
    have e : bs = [] := by
      rcases Nat.eq_zero_or_pos bs.length with h0 | h0
      · exact List.eq_nil_of_length_eq_zero h0
      · obtain ⟨_, e, _⟩ := h.2 h0; cases e
    subst e
    exact run_convert_bytes_nil W 44 5 Try.underlying44 Try.underlying5 _ _ 9 Try.underlying9
  | some ad =>
    have hl : (loadCells ad bs.length).run Try.prog W = .ok (bs.map (Value.int .u8)).toArray W := by
      have := run_loadCells_list (P := Try.prog) W ad (bs.map (Value.int .u8)) (fun j v hj => by
        rw [List.getElem?_map, Option.map_eq_some_iff] at hj
        obtain ⟨x, hx, rfl⟩ := hj
        obtain ⟨ad', e, _, hc⟩ := h.2 (by have := (List.getElem?_eq_some_iff.1 hx).1; omega)
        injection e with e
        subst e
        exact hc j x hx)
      simpa using this
    rw [run_convert_bytes_string W 44 9 5 _ bs.length c Try.underlying44 Try.underlying5 Try.underlying9, run_bytesToString W _ bs.length c bs hl, foldl_push_bytes]
    simp [strOfNums, ByteArray.empty, ByteArray.emptyWithCapacity]
    rfl

end Go.Proofs.Ytdcpekkkenckeaa
