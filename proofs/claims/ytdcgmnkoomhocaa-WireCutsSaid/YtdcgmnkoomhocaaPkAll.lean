import Derived.Handy
import Derived.Lib.Bytes
import GoSem.Op.String
import Derived.Test.YtdcgmnkoomhocaaShAll
import Derived.Tactics
import Derived.Tactics2
import Derived.Defers
import Derived.Recover
import Derived.Laws.Pointers
set_option maxRecDepth 100000
/- Plain facts of layer 8: numbers as bytes, lists of numbers as bytes. No program stands here. -/
namespace Go.Proofs.PkM

/-! ### A number's bytes -/
/-- So many bytes, the highest first; of a number below 0 those of it and 256 to so many. -/
def byteL (n : Int) : Nat → List Int
  | 0 => []
  | k + 1 => byteL (n / 256) k ++ [n % 256]
/-- The number whose bytes these are. -/
def valL (bs : List Int) : Int := bs.foldl (fun u b => u * 256 + b) 0
def Bytes (bs : List Int) : Prop := ∀ b ∈ bs, 0 ≤ b ∧ b ≤ 255
def pw : Nat → Int
  | 0 => 1
  | k + 1 => 256 * pw k

theorem byte_len (k : Nat) : ∀ n, (byteL n k).length = k := by
  induction k with
  | zero => intro n; rfl
  | succ k ih => intro n; simp [byteL, ih]
theorem byte_bytes (k : Nat) : ∀ n, Bytes (byteL n k) := by
  induction k with
  | zero => intro n b hb; cases hb
  | succ k ih =>
    intro n b hb
    simp only [byteL, List.mem_append, List.mem_singleton] at hb
    rcases hb with hb | rfl
    · exact ih _ b hb
    · omega
theorem val_snoc (bs : List Int) (b : Int) : valL (bs ++ [b]) = valL bs * 256 + b := by unfold valL; rw [List.foldl_append]; rfl
theorem pw_pos (k : Nat) : 1 ≤ pw k := by
  induction k with
  | zero => decide
  | succ k ih => show 1 ≤ 256 * pw k; omega
theorem mod_pw (n : Int) (k : Nat) : n % (256 * pw k) = n / 256 % pw k * 256 + n % 256 := by
  have hp := pw_pos k
  have e1 := Int.mul_ediv_add_emod n 256
  have e2 := Int.mul_ediv_add_emod (n / 256) (pw k)
  have m1 := Int.emod_nonneg n (show (256 : Int) ≠ 0 by omega)
  have m2 := Int.emod_lt_of_pos n (show (0 : Int) < 256 by omega)
  have m3 := Int.emod_nonneg (n / 256) (show pw k ≠ 0 by omega)
  have m4 := Int.emod_lt_of_pos (n / 256) (show 0 < pw k by omega)
  have e3 : n = (n / 256 % pw k * 256 + n % 256) + (256 * pw k) * (n / 256 / pw k) := by
    have : 256 * pw k * (n / 256 / pw k) = 256 * (pw k * (n / 256 / pw k)) := Int.mul_assoc ..
    omega
  have h1 : (n / 256 % pw k * 256 + n % 256 + 256 * pw k * (n / 256 / pw k)) % (256 * pw k) = n / 256 % pw k * 256 + n % 256 := by
    rw [Int.add_mul_emod_self_left, Int.emod_eq_of_lt (by omega) (by omega)]
  rw [← e3] at h1
  exact h1
/-- What is read of a number's bytes. -/
theorem val_byte (k : Nat) : ∀ n, valL (byteL n k) = n % pw k := by
  induction k with
  | zero => intro n; show (0 : Int) = n % 1; omega
  | succ k ih =>
    intro n
    rw [byteL, val_snoc, ih]
    show _ = n % (256 * pw k)
    rw [mod_pw]
theorem byte_add (k : Nat) : ∀ n m, byteL (n + pw k * m) k = byteL n k := by
  induction k with
  | zero => intro n m; rfl
  | succ k ih =>
    intro n m
    have e1 : n + pw (k + 1) * m = n + 256 * (pw k * m) := by show n + 256 * pw k * m = _; rw [Int.mul_assoc]
    rw [byteL, byteL, e1]
    have e2 : (n + 256 * (pw k * m)) / 256 = n / 256 + pw k * m := by omega
    have e3 : (n + 256 * (pw k * m)) % 256 = n % 256 := by omega
    rw [e2, e3, ih]
/-- The bytes of what was read are those bytes. -/
theorem byte_val : ∀ (k : Nat) (bs : List Int), bs.length = k → Bytes bs → byteL (valL bs) k = bs := by
  intro k
  induction k with
  | zero => intro bs h _; rw [List.eq_nil_of_length_eq_zero h]; rfl
  | succ k ih =>
    intro bs h hb
    obtain ⟨l, x, rfl⟩ : ∃ l x, bs = l ++ [x] := ⟨bs.dropLast, bs.getLast (by intro e; rw [e] at h; simp at h), (List.dropLast_concat_getLast _).symm⟩
    have hx := hb x (by simp)
    rw [val_snoc, byteL]
    have e1 : (valL l * 256 + x) / 256 = valL l := by omega
    have e2 : (valL l * 256 + x) % 256 = x := by omega
    rw [e1, e2, ih l (by simpa using h) fun b h => hb b (by simp [h])]
theorem val_range : ∀ (k : Nat) (bs : List Int), bs.length = k → Bytes bs → 0 ≤ valL bs ∧ valL bs < pw k := by
  intro k
  induction k with
  | zero => intro bs h _; rw [List.eq_nil_of_length_eq_zero h]; decide
  | succ k ih =>
    intro bs h hb
    obtain ⟨l, x, rfl⟩ : ∃ l x, bs = l ++ [x] := ⟨bs.dropLast, bs.getLast (by intro e; rw [e] at h; simp at h), (List.dropLast_concat_getLast _).symm⟩
    have hx := hb x (by simp)
    have := ih l (by simpa using h) fun b h => hb b (by simp [h])
    rw [val_snoc]
    show _ ∧ _ < 256 * pw k
    omega

/-! ### What the calls answer -/
def sizB (size : Int) : Bool := size == 1 || size == 2 || size == 8
def mayB (n size : Int) : Bool := (size == 1 && decide (0 ≤ n ∧ n ≤ 255)) || (size == 2 && decide (0 ≤ n ∧ n ≤ 65535)) || size == 8
/-- As an int. -/
def asInt (u : Int) : Int := if u < 9223372036854775808 then u else u - 18446744073709551616
def putV (b : List Int) (n size : Int) : List Int × Int := if mayB n size = true then (b ++ byteL n size.toNat, 0) else ([], 40)
def takeV (b : List Int) (size : Int) : Int × List Int × Int := if sizB size = true ∧ size ≤ b.length then (asInt (valL (b.take size.toNat)), b.drop size.toNat, 0) else (0, [], 40)
/-- All numbers, one behind the other. -/
def allB (l : List Int) (k : Nat) : List Int := l.flatMap fun n => byteL n k
def listV (b l : List Int) (size : Int) : List Int × Int :=
  if l.length ≤ 255 ∧ sizB size = true ∧ ∀ n ∈ l, mayB n size = true then (b ++ [(l.length : Int)] ++ allB l size.toNat, 0) else ([], 40)
/-- So many numbers that bytes begin with, and what is behind. -/
def manyV (k : Nat) : Nat → List Int → Option (List Int × List Int)
  | 0, b => some ([], b)
  | m + 1, b => if b.length < k then none else (manyV k m (b.drop k)).map fun p => (asInt (valL (b.take k)) :: p.1, p.2)
def takeListV (b : List Int) (size : Int) : List Int × List Int × Int :=
  if sizB size = true ∧ 1 ≤ b.length then match manyV size.toNat (b.getD 0 0).toNat (b.drop 1) with
    | some (l, r) => (l, r, 0)
    | none => ([], [], 40)
  else ([], [], 40)

theorem siz_cases {size : Int} (h : sizB size = true) : size = 1 ∨ size = 2 ∨ size = 8 := by unfold sizB at h; simp at h; omega
theorem may_siz {n size : Int} (h : mayB n size = true) : sizB size = true := by unfold mayB at h; unfold sizB; simp at h ⊢; omega
/-- A number of a size is what is read of its bytes. -/
theorem as_byte {n size : Int} (h : mayB n size = true) (hn : -9223372036854775808 ≤ n ∧ n ≤ 9223372036854775807) : asInt (valL (byteL n size.toNat)) = n := by
  rw [val_byte]
  unfold mayB at h
  simp at h
  unfold asInt
  rcases h with (⟨rfl, h⟩ | ⟨rfl, h⟩) | rfl
  · have e : n % pw (1 : Int).toNat = n := by show n % 256 = n; omega
    rw [e, if_pos (by omega)]
  · have e : n % pw (2 : Int).toNat = n := by show n % 65536 = n; omega
    rw [e, if_pos (by omega)]
  · have h8 : pw (8 : Int).toNat = 18446744073709551616 := by decide
    rw [h8]
    split <;> omega
/-- What is read of so many bytes is a number of that size, and its bytes are they. -/
theorem as_val {size : Int} {bs : List Int} (hs : sizB size = true) (hl : bs.length = size.toNat) (hb : Bytes bs) : mayB (asInt (valL bs)) size = true ∧ byteL (asInt (valL bs)) size.toNat = bs ∧ -9223372036854775808 ≤ asInt (valL bs) ∧ asInt (valL bs) ≤ 9223372036854775807 := by
  have hr := val_range _ bs hl hb
  have hv := byte_val _ bs hl hb
  rcases siz_cases hs with rfl | rfl | rfl
  · have h1 : pw (1 : Int).toNat = 256 := by decide
    rw [h1] at hr
    have e : asInt (valL bs) = valL bs := by unfold asInt; rw [if_pos (by omega)]
    rw [e]
    exact ⟨by unfold mayB; simp; omega, hv, by omega, by omega⟩
  · have h1 : pw (2 : Int).toNat = 65536 := by decide
    rw [h1] at hr
    have e : asInt (valL bs) = valL bs := by unfold asInt; rw [if_pos (by omega)]
    rw [e]
    exact ⟨by unfold mayB; simp; omega, hv, by omega, by omega⟩
  · have h1 : pw (8 : Int).toNat = 18446744073709551616 := by decide
    rw [h1] at hr
    refine ⟨by unfold mayB; simp, ?_, ?_, ?_⟩
    · by_cases c : valL bs < 9223372036854775808
      · rw [show asInt (valL bs) = valL bs by unfold asInt; rw [if_pos c]]; exact hv
      · rw [show asInt (valL bs) = valL bs + pw (8 : Int).toNat * (-1) by unfold asInt; rw [if_neg c, h1]; omega, byte_add]; exact hv
    · unfold asInt; split <;> omega
    · unfold asInt; split <;> omega

/-! ### What follows -/
theorem siz_len {n size : Int} (h : sizB size = true) : ((byteL n size.toNat).length : Int) = size := by
  rw [byte_len]
  rcases siz_cases h with rfl | rfl | rfl <;> rfl
/-- PackBack's first clause. -/
theorem put_take {n size : Int} {r : List Int} (h : mayB n size = true) (hn : -9223372036854775808 ≤ n ∧ n ≤ 9223372036854775807) : takeV (byteL n size.toNat ++ r) size = (n, r, 0) := by
  have hs := may_siz h
  have hl := siz_len (n := n) hs
  unfold takeV
  have e1 : (byteL n size.toNat ++ r).take size.toNat = byteL n size.toNat := by
    rw [List.take_append_of_le_length (by rw [byte_len]; exact Nat.le_refl _), List.take_of_length_le (by rw [byte_len]; exact Nat.le_refl _)]
  have e2 : (byteL n size.toNat ++ r).drop size.toNat = r := by
    rw [List.drop_append_of_le_length (by rw [byte_len]; exact Nat.le_refl _), List.drop_eq_nil_of_le (by rw [byte_len]; exact Nat.le_refl _)]; rfl
  rw [if_pos ⟨hs, by rw [List.length_append]; push_cast; omega⟩, e1, e2, as_byte h hn]
theorem all_len {l : List Int} {k : Nat} : (allB l k).length = k * l.length := by
  induction l with
  | nil => simp [allB]
  | cons n l ih =>
    have e : allB (n :: l) k = byteL n k ++ allB l k := rfl
    rw [e, List.length_append, ih, byte_len, List.length_cons, Nat.mul_succ]; omega
theorem many_all {size : Int} (r : List Int) : ∀ {l : List Int}, (∀ n ∈ l, mayB n size = true) → (∀ n ∈ l, -9223372036854775808 ≤ n ∧ n ≤ 9223372036854775807) → manyV size.toNat l.length (allB l size.toNat ++ r) = some (l, r) := by
  intro l
  induction l with
  | nil => intro _ _; rfl
  | cons n l ih =>
    intro h1 h2
    have e : allB (n :: l) size.toNat ++ r = byteL n size.toNat ++ (allB l size.toNat ++ r) := by show (byteL n size.toNat ++ allB l size.toNat) ++ r = _; rw [List.append_assoc]
    have hl := byte_len size.toNat n
    have e1 : (byteL n size.toNat ++ (allB l size.toNat ++ r)).take size.toNat = byteL n size.toNat := by
      rw [List.take_append_of_le_length (by omega), List.take_of_length_le (by omega)]
    have e2 : (byteL n size.toNat ++ (allB l size.toNat ++ r)).drop size.toNat = allB l size.toNat ++ r := by
      rw [List.drop_append_of_le_length (by omega), List.drop_eq_nil_of_le (by omega)]; rfl
    rw [e, List.length_cons, manyV, if_neg (by rw [List.length_append]; omega), e1, e2, ih (fun n h => h1 n (by simp [h])) (fun n h => h2 n (by simp [h])), as_byte (h1 n (by simp)) (h2 n (by simp))]
    rfl
/-- PackBack's second clause. -/
theorem list_take {l b : List Int} {size : Int} (r : List Int) (hl : ∀ n ∈ l, -9223372036854775808 ≤ n ∧ n ≤ 9223372036854775807) (h : listV [] l size = (b, 0)) : takeListV (b ++ r) size = (l, r, 0) := by
  unfold listV at h
  split at h
  · rename_i g
    injection h with h _
    subst h
    obtain ⟨g1, g2, g3⟩ := g
    unfold takeListV
    have e1 : (([] ++ [(l.length : Int)] ++ allB l size.toNat) ++ r).getD 0 0 = (l.length : Int) := rfl
    have e2 : (([] ++ [(l.length : Int)] ++ allB l size.toNat) ++ r).drop 1 = allB l size.toNat ++ r := rfl
    rw [if_pos ⟨g2, by simp⟩, e1, e2, Int.toNat_natCast, many_all r g3 hl]
  · injection h with _ h; cases h
theorem many_back {size : Int} (hs : sizB size = true) : ∀ {m : Nat} {b l r : List Int}, Bytes b → manyV size.toNat m b = some (l, r) → l.length = m ∧ (∀ n ∈ l, mayB n size = true) ∧ (∀ n ∈ l, -9223372036854775808 ≤ n ∧ n ≤ 9223372036854775807) ∧ allB l size.toNat ++ r = b := by
  intro m
  induction m with
  | zero =>
    intro b l r _ h
    injection h with h
    injection h with h1 h2
    subst h1 h2
    exact ⟨rfl, fun _ h => (by cases h), fun _ h => (by cases h), rfl⟩
  | succ m ih =>
    intro b l r hb h
    rw [manyV] at h
    split at h
    · cases h
    · rename_i g
      cases e : manyV size.toNat m (b.drop size.toNat) with
      | none => rw [e] at h; cases h
      | some p =>
        rw [e] at h
        injection h with h
        injection h with h1 h2
        subst h1 h2
        obtain ⟨p1, p2⟩ := p
        obtain ⟨i1, i2, i3, i4⟩ := ih (fun x hx => hb x (List.mem_of_mem_drop hx)) e
        have ht : (b.take size.toNat).length = size.toNat := by rw [List.length_take]; omega
        obtain ⟨a1, a2, a3⟩ := as_val hs ht fun x hx => hb x (List.mem_of_mem_take hx)
        refine ⟨by simp [i1], ?_, ?_, ?_⟩
        · intro n hn
          rcases List.mem_cons.1 hn with rfl | hn
          · exact a1
          · exact i2 n hn
        · intro n hn
          rcases List.mem_cons.1 hn with rfl | hn
          · exact a3
          · exact i3 n hn
        · show (byteL (asInt (valL (b.take size.toNat))) size.toNat ++ allB p1 size.toNat) ++ p2 = b
          rw [a2, List.append_assoc, i4, List.take_append_drop]
/-- PackBack's third clause. -/
theorem take_list {b u v : List Int} {size : Int} (hb : Bytes b) (h : takeListV b size = (u, v, 0)) : ∃ c, listV [] u size = (c, 0) ∧ c ++ v = b := by
  unfold takeListV at h
  split at h
  · rename_i g
    obtain ⟨g1, g2⟩ := g
    match b, g2 with
    | x :: b, _ =>
      have hx := hb x (by simp)
      cases e : manyV size.toNat ((x :: b).getD 0 0).toNat ((x :: b).drop 1) with
      | none => rw [e] at h; injection h with _ h; injection h with _ h; cases h
      | some p =>
        rw [e] at h
        obtain ⟨p1, p2⟩ := p
        injection h with h1 h
        injection h with h2 _
        have h1' : p1 = u := h1
        have h2' : p2 = v := h2
        subst h1' h2'
        have hb' : Bytes ((x :: b).drop 1) := fun y hy => hb y (List.mem_of_mem_drop hy)
        obtain ⟨i1, i2, i3, i4⟩ := many_back g1 hb' e
        have hl : (p1.length : Int) = x := by
          have : ((x :: b).getD 0 0).toNat = x.toNat := rfl
          rw [this] at i1; omega
        refine ⟨[] ++ [(p1.length : Int)] ++ allB p1 size.toNat, ?_, ?_⟩
        · unfold listV; rw [if_pos ⟨by omega, g1, i2⟩]
        · rw [hl]
          show x :: (allB p1 size.toNat ++ p2) = x :: b
          rw [i4]; rfl
  · injection h with _ h; injection h with _ h; cases h
end Go.Proofs.PkM

/- Plain facts of layer 8's laws: bytes as strings, how they stand, what is cut, many numbers, numbers in more bytes. -/
namespace Go.Proofs.PkM
open Go

/-! ### Bytes as strings -/
theorem u8_inj {a b : Int} (ha : 0 ≤ a ∧ a ≤ 255) (hb : 0 ≤ b ∧ b ≤ 255) (h : UInt8.ofNat a.toNat = UInt8.ofNat b.toNat) : a = b := by
  have e := congrArg UInt8.toNat h
  rw [UInt8.toNat_ofNat_of_lt' (by show a.toNat < 256; omega), UInt8.toNat_ofNat_of_lt' (by show b.toNat < 256; omega)] at e
  omega
theorem str_inj : ∀ {a b : List Int}, Bytes a → Bytes b → Lib.bytesOf a = Lib.bytesOf b → a = b
  | [], [], _, _, _ => rfl
  | [], _ :: _, _, _, h => by cases h
  | _ :: _, [], _, _, h => by cases h
  | x :: a, y :: b, ha, hb, h => by
    injection h with h1 h2
    rw [u8_inj (ha x (by simp)) (hb y (by simp)) h1, str_inj (fun z hz => ha z (by simp [hz])) (fun z hz => hb z (by simp [hz])) h2]
theorem str_eq {a b : List Int} (ha : Bytes a) (hb : Bytes b) {r : Bool} (h : (a == b) = r) : ((strOfNums a).toList == (strOfNums b).toList) = r := by
  rw [Lib.strOfNums_toList, Lib.strOfNums_toList]
  by_cases c : a = b
  · subst c; simp at h ⊢; exact h
  · have : Lib.bytesOf a ≠ Lib.bytesOf b := fun e => c (str_inj ha hb e)
    have e1 : (a == b) = false := by simpa using c
    rw [e1] at h
    rw [← h]
    simpa using this
theorem str_add (a b : List Int) : strOfNums a ++ strOfNums b = strOfNums (a ++ b) := by
  apply ByteArray.ext
  apply Array.toList_inj.1
  simp [strOfNums]

/-! ### How they stand -/
theorem fold_val (bs : List Int) : ∀ u : Int, bs.foldl (fun u b => u * 256 + b) u = u * pw bs.length + valL bs := by
  induction bs with
  | nil => intro u; show u = u * 1 + 0; omega
  | cons b bs ih =>
    intro u
    show bs.foldl _ (u * 256 + b) = u * (256 * pw bs.length) + bs.foldl _ (0 * 256 + b)
    rw [ih, ih]
    have e1 : (u * 256 + b) * pw bs.length = u * (256 * pw bs.length) + b * pw bs.length := by rw [Int.add_mul, Int.mul_assoc]
    have e2 : (0 * 256 + b) * pw bs.length = b * pw bs.length := by rw [Int.zero_mul, Int.zero_add]
    omega
theorem val_cons (b : Int) (bs : List Int) : valL (b :: bs) = b * pw bs.length + valL bs := by
  show bs.foldl _ (0 * 256 + b) = _
  rw [fold_val, Int.zero_mul, Int.zero_add]
theorem less_val : ∀ {x y : List Int}, x.length = y.length → Bytes x → Bytes y → Op.bytesLess (Lib.bytesOf x) (Lib.bytesOf y) = decide (valL x < valL y)
  | [], [], _, _, _ => by simp [Lib.bytesOf, Op.bytesLess]
  | [], _ :: _, h, _, _ => by simp at h
  | _ :: _, [], h, _, _ => by simp at h
  | a :: x, b :: y, h, hx, hy => by
    have hl : x.length = y.length := by simpa using h
    have ih := less_val hl (fun z hz => hx z (by simp [hz])) (fun z hz => hy z (by simp [hz]))
    have ra := hx a (by simp)
    have rb := hy b (by simp)
    have vx := val_range _ x rfl fun z hz => hx z (by simp [hz])
    have vy := val_range _ y rfl fun z hz => hy z (by simp [hz])
    rw [← hl] at vy
    show (decide (UInt8.ofNat a.toNat < UInt8.ofNat b.toNat) || (UInt8.ofNat a.toNat == UInt8.ofNat b.toNat && Op.bytesLess (Lib.bytesOf x) (Lib.bytesOf y))) = _
    rw [ih, val_cons, val_cons, ← hl]
    have e1 : (UInt8.ofNat a.toNat < UInt8.ofNat b.toNat) ↔ a < b := by
      rw [UInt8.lt_iff_toNat_lt, UInt8.toNat_ofNat_of_lt' (by show a.toNat < 256; omega), UInt8.toNat_ofNat_of_lt' (by show b.toNat < 256; omega)]
      omega
    generalize pw x.length = P at *
    by_cases c : a < b
    · have h1 : valL x < P := vx.2
      have h2 : (a + 1) * P ≤ b * P := Int.mul_le_mul_of_nonneg_right (by omega) (by omega)
      rw [Int.add_mul, Int.one_mul] at h2
      have h3 : a * P + valL x < b * P + valL y := by omega
      simp [e1, c, h3]
    · by_cases d : a = b
      · subst d
        have h3 : (a * P + valL x < a * P + valL y) ↔ valL x < valL y := by omega
        simp [e1, h3]
      · have h2 : (b + 1) * P ≤ a * P := Int.mul_le_mul_of_nonneg_right (by omega) (by omega)
        rw [Int.add_mul, Int.one_mul] at h2
        have h3 : ¬ (a * P + valL x < b * P + valL y) := by omega
        have h4 : ¬ UInt8.ofNat a.toNat = UInt8.ofNat b.toNat := fun e => d (u8_inj ra rb e)
        simp [e1, c, h3, h4]
theorem less_ahead (b x y : List Int) : Op.bytesLess (Lib.bytesOf (b ++ x)) (Lib.bytesOf (b ++ y)) = Op.bytesLess (Lib.bytesOf x) (Lib.bytesOf y) := by
  induction b with
  | nil => rfl
  | cons z b ih =>
    show (decide (UInt8.ofNat z.toNat < UInt8.ofNat z.toNat) || (UInt8.ofNat z.toNat == UInt8.ofNat z.toNat && Op.bytesLess (Lib.bytesOf (b ++ x)) (Lib.bytesOf (b ++ y)))) = _
    rw [ih]
    simp
/-- PackOrder. -/
theorem put_order {b : List Int} {m n size : Int} (hm : mayB m size = true) (hn : mayB n size = true) (m0 : 0 ≤ m) (n0 : 0 ≤ n) (mi : m ≤ 9223372036854775807) (ni : n ≤ 9223372036854775807) :
    Op.bytesLess (strOfNums (b ++ byteL m size.toNat)).toList (strOfNums (b ++ byteL n size.toNat)).toList = decide (m < n) := by
  rw [Lib.strOfNums_toList, Lib.strOfNums_toList, less_ahead, less_val (by rw [byte_len, byte_len]) (byte_bytes _ _) (byte_bytes _ _), val_byte, val_byte]
  have key : ∀ x : Int, mayB x size = true → 0 ≤ x → x ≤ 9223372036854775807 → x % pw size.toNat = x := fun x hx x0 xi => by
    unfold mayB at hx
    simp at hx
    rcases hx with (⟨rfl, hx⟩ | ⟨rfl, hx⟩) | rfl
    · have h1 : pw (1 : Int).toNat = 256 := by decide
      rw [h1]; omega
    · have h1 : pw (2 : Int).toNat = 65536 := by decide
      rw [h1]; omega
    · have h1 : pw (8 : Int).toNat = 18446744073709551616 := by decide
      rw [h1]; omega
  rw [key m hm m0 mi, key n hn n0 ni]

/-! ### What is cut -/
theorem many_short {k : Nat} : ∀ {m : Nat} {b : List Int}, b.length < k * m → manyV k m b = none := by
  intro m
  induction m with
  | zero => intro b h; simp at h
  | succ m ih =>
    intro b h
    rw [manyV]
    by_cases c : b.length < k
    · rw [if_pos c]
    · rw [if_neg c, ih (by rw [List.length_drop]; rw [Nat.mul_succ] at h; omega)]
      rfl
theorem list_is {b l c : List Int} {size : Int} (h : listV b l size = (c, 0)) : l.length ≤ 255 ∧ sizB size = true ∧ (∀ n ∈ l, mayB n size = true) ∧ c = b ++ [(l.length : Int)] ++ allB l size.toNat := by
  unfold listV at h
  split at h
  · rename_i g; injection h with h _; exact ⟨g.1, g.2.1, g.2.2, h.symm⟩
  · injection h with _ h; cases h
theorem list_len {l c : List Int} {size : Int} (h : listV [] l size = (c, 0)) : (c.length : Int) = 1 + size * l.length := by
  obtain ⟨_, h2, _, rfl⟩ := list_is h
  have hs : (size.toNat : Int) = size := by rcases siz_cases h2 with rfl | rfl | rfl <;> rfl
  rw [List.length_append, all_len]
  show ((1 + size.toNat * l.length : Nat) : Int) = _
  push_cast
  rw [hs]
/-- PackCuts. -/
theorem list_cut {l c : List Int} {size : Int} (h : listV [] l size = (c, 0)) {k : Nat} (hk : k < c.length) : takeListV (c.take k) size = ([], [], 40) := by
  have hl := list_len h
  obtain ⟨_, h2, _, rfl⟩ := list_is h
  have hs : (size.toNat : Int) = size := by rcases siz_cases h2 with rfl | rfl | rfl <;> rfl
  unfold takeListV
  cases k with
  | zero => rw [if_neg (by simp)]
  | succ k =>
    have e1 : (([] ++ [(l.length : Int)] ++ allB l size.toNat).take (k + 1)).getD 0 0 = (l.length : Int) := rfl
    have e2 : (([] ++ [(l.length : Int)] ++ allB l size.toNat).take (k + 1)).drop 1 = (allB l size.toNat).take k := rfl
    rw [if_pos ⟨h2, by simp⟩, e1, e2, Int.toNat_natCast, many_short]
    rw [List.length_take]
    have hc : ([] ++ [(l.length : Int)] ++ allB l size.toNat).length = 1 + size.toNat * l.length := by
      rw [List.length_append, all_len]; rfl
    rw [hc] at hk
    omega

/-! ### Many numbers -/
theorem all_snoc (l : List Int) (n : Int) (k : Nat) : allB (l ++ [n]) k = allB l k ++ byteL n k := by unfold allB; simp
/-- PackMany: where one is none of the size, there is no list. -/
theorem list_none {l b : List Int} {size n : Int} (hn : n ∈ l) (h : mayB n size = false) : listV b l size = ([], 40) := by
  unfold listV
  rw [if_neg]
  rintro ⟨_, _, g⟩
  rw [g n hn] at h
  cases h
theorem take_all {n size : Int} {l : List Int} (h : mayB n size = true) (hn : -9223372036854775808 ≤ n ∧ n ≤ 9223372036854775807) : takeV (allB (n :: l) size.toNat) size = (n, allB l size.toNat, 0) := put_take h hn

/-! ### In more bytes -/
theorem wide_one {n : Int} (h : 0 ≤ n ∧ n ≤ 255) : byteL n 8 = List.replicate 7 0 ++ byteL n 1 := by
  have e : ∀ k, byteL 0 k = List.replicate k 0 := fun k => by
    induction k with
    | zero => rfl
    | succ k ih => rw [byteL, show (0 : Int) / 256 = 0 by decide, show (0 : Int) % 256 = 0 by decide, ih]; exact List.replicate_succ'.symm
  show byteL (n / 256) 7 ++ [n % 256] = _
  rw [show n / 256 = 0 by omega, e]
  rfl
theorem wide_two {n : Int} (h : 0 ≤ n ∧ n ≤ 65535) : byteL n 8 = List.replicate 6 0 ++ byteL n 2 := by
  have e : ∀ k, byteL 0 k = List.replicate k 0 := fun k => by
    induction k with
    | zero => rfl
    | succ k ih => rw [byteL, show (0 : Int) / 256 = 0 by decide, show (0 : Int) % 256 = 0 by decide, ih]; exact List.replicate_succ'.symm
  show (byteL (n / 256 / 256) 6 ++ [n / 256 % 256]) ++ [n % 256] = List.replicate 6 0 ++ ((byteL (n / 256 / 256) 0 ++ [n / 256 % 256]) ++ [n % 256])
  rw [show n / 256 / 256 = 0 by omega, e, List.append_assoc]
  rfl
end Go.Proofs.PkM

/- Layer 8, plain facts: a number's bytes one by one, the number of bytes one by one, lists that end early. No program stands here. -/
namespace Go.Proofs.PkM

theorem pw_step (k : Nat) (n : Int) : n / 256 / pw k = n / pw (k + 1) := by
  show n / 256 / pw k = n / (256 * pw k)
  rw [Int.ediv_ediv_of_nonneg (by omega)]
theorem byte_hd (k : Nat) : ∀ n, byteL n (k + 1) = (n / pw k % 256) :: byteL n k := by
  induction k with
  | zero => intro n; show [] ++ [n % 256] = [n / 1 % 256]; simp
  | succ k ih =>
    intro n
    rw [byteL, ih, pw_step]
    rfl
/-- So far so many of a number's bytes are there. -/
def Wr (r cur : List Int) (n : Int) (j : Nat) : Prop := r = cur ++ byteL n j
theorem wr_start (bs : List Int) (n : Int) (k : Nat) : Wr (bs ++ byteL n k) bs n k := rfl
theorem wr_step {r cur : List Int} {n : Int} {k : Nat} (h : Wr r cur n (k + 1)) : Wr r (cur ++ [n / pw k % 256]) n k := by
  unfold Wr at h ⊢
  rw [h, byte_hd]
  simp
theorem wr_end {r cur : List Int} {n : Int} (h : Wr r cur n 0) : r = cur := by
  unfold Wr at h
  rw [h]
  simp [byteL]
theorem wr_len {r cur : List Int} {n : Int} {j : Nat} (h : Wr r cur n j) : cur.length + j = r.length := by
  unfold Wr at h
  rw [h, List.length_append, byte_len]

/-! ### A number of bytes -/
theorem val_take {bs : List Int} {k : Nat} {x : Int} (h : bs[k]? = some x) : valL (bs.take (k + 1)) = valL (bs.take k) * 256 + x := by
  rw [List.take_add_one, h]
  exact val_snoc _ _
theorem pw_mono {a b : Nat} (h : a ≤ b) : pw a ≤ pw b := by
  induction h with
  | refl => exact Int.le_refl _
  | step _ ih => have := pw_pos a; show pw a ≤ 256 * pw _; omega
theorem val_small {bs : List Int} {k : Nat} (hb : Bytes bs) (hk : k ≤ bs.length) (h7 : k ≤ 7) : 0 ≤ valL (bs.take k) ∧ valL (bs.take k) < 72057594037927936 := by
  have h := val_range k (bs.take k) (by rw [List.length_take]; omega) (fun b h => hb b (List.mem_of_mem_take h))
  have h2 := pw_mono h7
  have h3 : pw 7 = 72057594037927936 := by decide
  omega

/-! ### Lists -/
/-- The numbers that are left are numbers of the size. -/
def Ok (l : List Int) (size : Int) : Prop := ∀ n ∈ l, mayB n size = true
theorem ok_hd {l : List Int} {k : Nat} {x size : Int} (h : Ok (l.drop k) size) (hx : l[k]? = some x) : mayB x size = true := by
  refine h x ?_
  rw [List.mem_iff_getElem?]
  exact ⟨0, by rw [List.getElem?_drop]; simpa using hx⟩
theorem drop_hd {l : List Int} {k : Nat} {x : Int} (hx : l[k]? = some x) : l.drop k = x :: l.drop (k + 1) := by
  obtain ⟨h, e⟩ := List.getElem?_eq_some_iff.1 hx
  rw [List.drop_eq_getElem_cons h, e]
theorem ok_tl {l : List Int} {k : Nat} {x size : Int} (hx : l[k]? = some x) (h : mayB x size = true) : Ok (l.drop k) size ↔ Ok (l.drop (k + 1)) size := by
  rw [drop_hd hx]
  unfold Ok
  constructor
  · intro g n hn; exact g n (List.mem_cons_of_mem _ hn)
  · intro g n hn
    rcases List.mem_cons.1 hn with rfl | hn
    · exact h
    · exact g n hn
theorem ok_end {l : List Int} {k : Nat} (size : Int) (hk : l.length ≤ k) : Ok (l.drop k) size := by
  rw [List.drop_eq_nil_of_le hk]
  intro n hn; cases hn
/-- Lists: so far so many numbers stand there. -/
def Wl (r cur l : List Int) (k sz : Nat) : Prop := r = cur ++ allB (l.drop k) sz
theorem wl_step {r cur l : List Int} {k sz : Nat} {x : Int} (h : Wl r cur l k sz) (hx : l[k]? = some x) : Wl r (cur ++ byteL x sz) l (k + 1) sz := by
  unfold Wl at h ⊢
  rw [h, drop_hd hx, List.append_assoc]
  rfl
theorem wl_end {r cur l : List Int} {k sz : Nat} (h : Wl r cur l k sz) (hk : l.length ≤ k) : r = cur := by
  unfold Wl at h
  rw [h, List.drop_eq_nil_of_le hk]
  simp [allB]
theorem wl_len {r cur l : List Int} {k sz : Nat} (h : Wl r cur l k sz) : cur.length ≤ r.length := by
  unfold Wl at h
  rw [h, List.length_append]; omega

/-- What is read: so many numbers are read, and of what is left the rest will be. -/
def Rl (o : Option (List Int × List Int)) (done rest : List Int) (sz m : Nat) : Prop := o = (manyV sz m rest).map fun p => (done ++ p.1, p.2)
theorem rl_start (sz m : Nat) (b : List Int) : Rl (manyV sz m b) [] b sz m := by
  unfold Rl
  cases manyV sz m b <;> rfl
theorem rl_step {o : Option (List Int × List Int)} {done rest : List Int} {sz m : Nat} (h : Rl o done rest sz (m + 1)) (hl : sz ≤ rest.length) : Rl o (done ++ [asInt (valL (rest.take sz))]) (rest.drop sz) sz m := by
  unfold Rl at h ⊢
  rw [h, manyV, if_neg (by omega)]
  cases manyV sz m (rest.drop sz) with
  | none => rfl
  | some p => simp
theorem rl_bad {o : Option (List Int × List Int)} {done rest : List Int} {sz m : Nat} (h : Rl o done rest sz (m + 1)) (hl : ¬ sz ≤ rest.length) : o = none := by
  unfold Rl at h
  rw [h, manyV, if_pos (by omega)]
  rfl
theorem rl_end {o : Option (List Int × List Int)} {done rest : List Int} {sz : Nat} (h : Rl o done rest sz 0) : o = some (done, rest) := by
  unfold Rl at h
  rw [h]
  simp [manyV]
/-- A row that fills up. -/
theorem fill_set (done : List Int) (x : Int) (m : Nat) : (done ++ List.replicate (m + 1) 0).set done.length x = (done ++ [x]) ++ List.replicate m 0 := by
  rw [List.replicate_succ, List.set_append_right _ _ (by omega), Nat.sub_self, List.set_cons_zero]
  simp
end Go.Proofs.PkM

/- A []byte: what it reads as, one of the call's own: appended to, made, stored into (as the texts of []int, in a namespace of its own). -/
namespace Go.Proofs.Ytdcgmnkoomhocaa.B8
open Go.RowKit Go.Proofs.Ytdcgmnkoomhocaa


theorem u8_info : (Try.prog.info? 5).map (fun i => (i.zero, i.size, i.bytes)) = some (some (.int .u8 0), 1, 1) := by kernel_rfl

/-- The cells from A on are the numbers xs. -/
def Rd (w : World) (A : Option Addr) (xs : List Int) : Prop :=
  xs.length ≤ 9223372036854775807 ∧ (0 < xs.length → ∃ ad, A = some ad ∧ ad.block < w.heap.size ∧ ∀ j u, xs[j]? = some u → w.cell? (ad.add j) = some (.int .u8 u))
/-- The value is a []int of the numbers xs. -/
def Ints (w : World) (v : Value) (xs : List Int) : Prop := ∃ A c, v = .slice A xs.length c ∧ xs.length ≤ c ∧ c ≤ maxLen ∧ Rd w A xs

section
variable {w w' : World} {A : Option Addr} {xs : List Int} {v : Value}
theorem Rd.nil (w : World) (A : Option Addr) : Rd w A [] := ⟨by simp, fun h => absurd h (by simp)⟩
theorem Rd.len (h : Rd w A xs) : xs.length ≤ 9223372036854775807 := h.1
theorem Rd.at_ (h : Rd w A xs) {k : Nat} (hk : k < xs.length) : ∃ ad x, A = some ad ∧ ad.block < w.heap.size ∧ xs[k]? = some x ∧ w.cell? (ad.add k) = some (.int .u8 x) := by
  obtain ⟨ad, e, hb, hc⟩ := h.2 (by omega)
  exact ⟨ad, xs[k], e, hb, List.getElem?_eq_getElem hk, hc k _ (List.getElem?_eq_getElem hk)⟩
theorem Rd.keep (h : Rd w A xs) (hs : w.heap.size ≤ w'.heap.size) (hk : ∀ p : Addr, p.block < w.heap.size → w'.cell? p = w.cell? p) : Rd w' A xs :=
  ⟨h.1, fun hn => by
    obtain ⟨ad, e, hb, hc⟩ := h.2 hn
    exact ⟨ad, e, Nat.lt_of_lt_of_le hb hs, fun j u hu => (hk _ (by rw [block_of_add]; exact hb)).trans (hc j u hu)⟩⟩
theorem Rd.kp (h : Rd w A xs) (k : Kp w w') : Rd w' A xs := h.keep k.size fun _ hp => k.cell hp
theorem Ints.kp (h : Ints w v xs) (k : Kp w w') : Ints w' v xs := by
  obtain ⟨A, c, e, h1, h2, h3⟩ := h
  exact ⟨A, c, e, h1, h2, h3.kp k⟩
theorem Rd.drew (h : Rd w A xs) : Rd w.drew A xs := h
theorem Rd.drewN (h : Rd w A xs) (k : Nat) : Rd (w.drewN k) A xs := h
theorem Rd.below {B : Nat} (h : Rd w A xs) (hB : w.heap.size ≤ B) (k : Below B w w') : Rd w' A xs := h.kp (k.mono hB)
theorem Ints.nil (w : World) : Ints w (.slice none 0 0) [] := ⟨none, 0, rfl, by simp, by simp, Rd.nil _ _⟩
theorem Ints.of_own {base : Nat} {e : TypeId} (h : w.ownsRow base e 1 v xs.length (xs.map (Value.int .u8))) : Ints w v xs := by
  have hl := h
  rcases h.2 with ⟨rfl, h0⟩ | ⟨g, cap, cur, rfl, _, hh, hn, hc, hcs, ht⟩
  · have : xs = [] := List.eq_nil_of_length_eq_zero h0
    subst this
    exact Ints.nil w
  · refine ⟨_, cap, rfl, hn, hc, by unfold maxLen at hc; omega, fun hp => ⟨_, rfl, ?_, fun j u hu => ?_⟩⟩
    · obtain ⟨g', cap', e', _, hlt⟩ := hl.form hp
      injection e' with e1
      injection e1 with e1
      injection e1 with e1
      subst e1; exact hlt
    · exact hl.cells (g := g) rfl j (.int .u8 u) (by simp [hu])
end

/-- The value is a []int of the call's own (its row lies from block B on): the numbers xs. -/
def Own (B : Nat) (w : World) (v : Value) (xs : List Int) : Prop := w.ownsRow B 5 1 v xs.length (xs.map (Value.int .u8))

section
variable {w w' : World} {B : Nat} {v : Value} {xs ys : List Int} {A : Option Addr}
theorem Own.ints (h : Own B w v xs) : Ints w v xs := Ints.of_own h
theorem Own.form (h : Own B w v xs) : ∃ A c, v = .slice A xs.length c ∧ Rd w A xs := by
  obtain ⟨A, c, e, _, _, hr⟩ := h.ints
  exact ⟨A, c, e, hr⟩
theorem Own.nil_ (w : World) (B : Nat) : Own B w (.slice none 0 0) [] := World.ownsRow_nil w B 5 1
theorem Own.from_ (h : Own B w v xs) {k : Nat} (hk : v.ownBlock = some k) : B ≤ k := by
  rcases h.2 with ⟨rfl, _⟩ | ⟨g, cap, cur, rfl, hb, _⟩
  · cases hk
  · have : g = k := by simpa [Value.ownBlock] using hk
    omega
theorem Own.drew (h : Own B w v xs) : Own B w.drew v xs := h
theorem Own.drewN (h : Own B w v xs) (n : Nat) : Own B (w.drewN n) v xs := h
theorem Own.of_block (h : Own B w v xs) (hk : ∀ g, v.ownBlock = some g → w'.heap[g]? = w.heap[g]?) : Own B w' v xs := by
  refine ⟨h.1, ?_⟩
  rcases h.2 with h0 | ⟨g, cap, cur, rfl, hb, hg, r⟩
  · exact .inl h0
  · exact .inr ⟨g, cap, cur, rfl, hb, (hk g rfl).trans hg, r⟩
theorem Own.kp (h : Own B w v xs) (k : Kp w w') : Own B w' v xs := h.of_block fun g hg => k.block g (by
  rcases h.2 with ⟨rfl, _⟩ | ⟨g', cap, cur, rfl, _, hh, _⟩
  · cases hg
  · injection hg with hg
    subst hg
    rcases Nat.lt_or_ge g' w.heap.size with hlt | hge
    · exact hlt
    · rw [Array.getElem?_eq_none hge] at hh; cases hh)
theorem Rd.lit (w : World) (xs : List Int) (h : xs.length ≤ 1000000) (t : TypeId) : Rd (w.alloc (.cells (xs.map (Value.int .u8)).toArray t)) (some ⟨w.heap.size, 0, none⟩) xs :=
  ⟨by omega, fun _ => ⟨_, rfl, by simp, fun j u hu => by
    rw [Go.WideShapes.add_plain, Nat.zero_add, World.cell?_alloc_at _ t _ j rfl]
    simp [hu]⟩⟩
theorem Own.lit (w : World) (xs : List Int) (h : xs.length ≤ 1000000) (hB : B ≤ w.heap.size) :
    Own B (w.alloc (.cells (xs.map (Value.int .u8)).toArray 5)) (.slice (some ⟨w.heap.size, 0, none⟩) xs.length xs.length) xs := by
  have := World.ownsRow_lit (base := B) (e := 5) (size := 1) w (xs.map (Value.int .u8)).toArray xs.length hB (by unfold maxLen; omega) (by simp)
  simpa [Own] using this

theorem Own.zero (w : World) (hB : B ≤ w.heap.size) : Own B (w.alloc (.cells #[] 5)) (.slice (some ⟨w.heap.size, 0, none⟩) 0 0) [] := Own.lit w [] (by simp) hB
theorem Own.one (w : World) (x : Int) (hB : B ≤ w.heap.size) : Own B (w.alloc (.cells #[.int .u8 x] 5)) (.slice (some ⟨w.heap.size, 0, none⟩) 1 1) [x] := Own.lit w [x] (by simp) hB
theorem Own.two (w : World) (x y : Int) (hB : B ≤ w.heap.size) : Own B (w.alloc (.cells #[.int .u8 x, .int .u8 y] 5)) (.slice (some ⟨w.heap.size, 0, none⟩) 2 2) [x, y] := Own.lit w [x, y] (by simp) hB
theorem Rd.one (w : World) (x : Int) (t : TypeId) : Rd (w.alloc (.cells #[.int .u8 x] t)) (some ⟨w.heap.size, 0, none⟩) [x] := Rd.lit w [x] (by simp) t
theorem Rd.two (w : World) (x y : Int) (t : TypeId) : Rd (w.alloc (.cells #[.int .u8 x, .int .u8 y] t)) (some ⟨w.heap.size, 0, none⟩) [x, y] := Rd.lit w [x, y] (by simp) t
theorem Rd.alloc_ (h : Rd w A xs) (o : Obj) : Rd (w.alloc o) A xs := h.kp (Kp.alloc_ w o)
/-- The number in a slice's slot: how long it is. -/
def lenOf : Value → Nat | .slice _ n _ => n | _ => 0

theorem app_nil (h : Own B w v xs) (c : Nat) (ty : TypeId) : (Builtin.append_ #[23, 23] ty #[v, .slice none 0 c]).run Try.prog w = .ok v w := by
  obtain ⟨i, hi, _, _, _⟩ := info_parts u8_info
  have ht := run_underlying (P := Try.prog) (w := w) Try.underlying23
  rcases h.2 with ⟨rfl, _⟩ | ⟨g, cap, cur, rfl, _, _, hn, _⟩
  · simp [Builtin.append_, ht, sizeOf, typeInfo, hi, Builtin.lenOf, Builtin.firstCells]
  · simp [Builtin.append_, ht, sizeOf, typeInfo, hi, Builtin.lenOf, Builtin.firstCells, hn, storeCells]

/-- What append leaves. -/
theorem run_app (ho : Own B w v xs) (c : Nat) (hr : Rd w A ys) (hs : xs.length + ys.length ≤ 1000000) (hB : B ≤ w.heap.size) (ty : TypeId) :
    ∃ zs A' c' w', zs = xs ++ ys ∧ (Builtin.append_ #[23, 23] ty #[v, .slice A ys.length c]).run Try.prog w = .ok (.slice A' zs.length c') w' ∧ Own B w' (.slice A' zs.length c') zs ∧ Below B w w' := by
  by_cases hy : ys = []
  · subst hy
    obtain ⟨A', c', rfl, _⟩ := ho.form
    cases A with
    | none => exact ⟨xs, A', c', w, by simp, app_nil ho c ty, ho, Below.refl _ _⟩
    | some ad =>
      obtain ⟨i, hi, hz, h1, h2⟩ := info_parts u8_info
      obtain ⟨v', w', hrun, hown, hg, _, _⟩ := run_append_own_at (P := Try.prog) w B 23 ty 5 i _ 1 1 Try.underlying23 hi hz h1 h2 rfl (by omega) _ _ _ ho ad 0 c [] rfl (by simp) (by simp) (by unfold maxLen; omega) (by omega) hB
      have hown' : Own B w' v' xs := by simpa [Own] using hown
      obtain ⟨A2, c2, rfl, _⟩ := hown'.form
      refine ⟨xs, A2, c2, w', by simp, hrun, hown', (Below.refl _ _).grown hg hB fun k hk => ho.from_ hk⟩
  · obtain ⟨ad, rfl, hlt, hc⟩ := hr.2 (List.length_pos_iff.2 hy)
    obtain ⟨i, hi, hz, h1, h2⟩ := info_parts u8_info
    obtain ⟨v', w', hrun, hown, hg, _, _⟩ := run_append_own_at (P := Try.prog) w B 23 ty 5 i _ 1 1 Try.underlying23 hi hz h1 h2 rfl (by omega) _ _ _ ho ad ys.length c (ys.map (Value.int .u8)) (by simp)
      (fun j u hu => by
        rw [List.getElem?_map, Option.map_eq_some_iff] at hu
        obtain ⟨x, hx, rfl⟩ := hu
        exact hc j x hx) (ints_oneCell _ _) (by unfold maxLen; omega) (by omega) hB
    have hown' : Own B w' v' (xs ++ ys) := by simpa [Own] using hown
    obtain ⟨A2, c2, rfl, _⟩ := hown'.form
    refine ⟨xs ++ ys, A2, c2, w', rfl, hrun, hown', (Below.refl _ _).grown hg hB fun k hk => ho.from_ hk⟩

/-- append, for the walk. -/
theorem wpList_app {ops : Array Oper} {rest : List Oper} {o : Oper} {a : Act} {Q : Exit → Act → World → Prop} (hgd : Region.wanted o (yielded ops a.tmps) = true) (s x : Operand)
    (hop : o.op = .call { callee := .builtin .append, args := #[s, x], argTypes := #[23, 23] })
    (v : Value) (xs : List Int) (hs : a.eval s = v) (ho : Own B w v xs) (A : Option Addr) (c : Nat) (ys : List Int) (n : Nat) (hx : a.eval x = .slice A n c) (hn : n = ys.length) (hr : Rd w A ys)
    (hl : xs.length + ys.length ≤ 1000000) (hB : B ≤ w.heap.size)
    (h : ∀ zs A' c' w', Hid (zs = xs ++ ys) → Own B w' (.slice A' zs.length c') zs → Below B w w' → wpList Try.prog ops Q rest (a.put o.dst (.slice A' zs.length c')) w') : wpList Try.prog ops Q (o :: rest) a w := by
  refine BigFrame.wpList_want hgd fun K hK => ?_
  subst hn
  obtain ⟨zs, A', c', w', e, hrun, h1, h2⟩ := run_app ho c hr hl hB o.type
  unfold Oper.wp execOp
  simp only [hop, resolve, invoke, builtin, Sem.run_bind, Sem.run_pure, Result.andThen_ok, List.map_toArray, List.map_cons, List.map_nil, hs, hx, hrun]
  exact hK _ _ (h zs A' c' w' e h1 h2)

/-- A made row of noughts, written out. -/
theorem run_mk (w : World) (n : Nat) (hn : n ≤ 1000000) :
    (Instr.makeSlice 23 (.int .i64 (n : Int)) (.int .i64 (n : Int))).run Try.prog w = .ok (.slice (some ⟨w.heap.size, 0, none⟩) n n) (w.alloc (.cells (List.replicate n (Value.int .u8 0)).toArray 5)) := by
  obtain ⟨i, hi, hz, h1, h2⟩ := info_parts u8_info
  have hr := run_make (P := Try.prog) w 23 5 i _ Try.underlying23 hi hz .i64 .i64 n n (by omega) (Int.le_refl _) (by rw [h2]; omega) (by omega)
  simp only [Int.toNat_natCast, h1, Nat.mul_one] at hr
  rw [hr]
  congr 3
  exact Array.toList_inj.1 (by rw [show (Value.int IntKind.u8 0).cells = #[Value.int .u8 0] from rfl, toList_madeCells_one])
theorem run_mk0 (w : World) (n : Nat) (hn : n ≤ 1000000) :
    (Instr.makeSlice 23 (.int .i64 0) (.int .i64 (n : Int))).run Try.prog w = .ok (.slice (some ⟨w.heap.size, 0, none⟩) 0 n) (w.alloc (.cells (List.replicate n (Value.int .u8 0)).toArray 5)) := by
  obtain ⟨i, hi, hz, h1, h2⟩ := info_parts u8_info
  have hr := run_make (P := Try.prog) w 23 5 i _ Try.underlying23 hi hz .i64 .i64 0 n (by omega) (by omega) (by rw [h2]; omega) (by omega)
  simp only [Int.toNat_natCast, Int.toNat_zero, h1, Nat.mul_one] at hr
  rw [hr]
  congr 3
  exact Array.toList_inj.1 (by rw [show (Value.int IntKind.u8 0).cells = #[Value.int .u8 0] from rfl, toList_madeCells_one])

/-- The same, the cells a letter. -/
theorem mk_ (n : Nat) (hn : n ≤ 1000000) : ∃ cs : Array Value, (∀ W : World, (Instr.makeSlice 23 (.int .i64 (n : Int)) (.int .i64 (n : Int))).run Try.prog W = .ok (.slice (some ⟨W.heap.size, 0, none⟩) n n) (W.alloc (.cells cs 5))) ∧
    ∀ (W : World) (B : Nat), B ≤ W.heap.size → Own B (W.alloc (.cells cs 5)) (.slice (some ⟨W.heap.size, 0, none⟩) n n) (List.replicate n 0) :=
  ⟨_, fun W => run_mk W n hn, fun W B hB => by
    have := Own.lit (B := B) W (List.replicate n 0) (by simpa using hn) hB
    simpa using this⟩
theorem mk0_ (n : Nat) (hn : n ≤ 1000000) : ∃ cs : Array Value, (∀ W : World, (Instr.makeSlice 23 (.int .i64 0) (.int .i64 (n : Int))).run Try.prog W = .ok (.slice (some ⟨W.heap.size, 0, none⟩) 0 n) (W.alloc (.cells cs 5))) ∧
    ∀ (W : World) (B : Nat), B ≤ W.heap.size → Own B (W.alloc (.cells cs 5)) (.slice (some ⟨W.heap.size, 0, none⟩) 0 n) [] :=
  ⟨_, fun W => run_mk0 W n hn, fun W B hB => by
    have := World.ownsRow_made (base := B) (e := 5) (size := 1) W (List.replicate n (Value.int .u8 0)).toArray n hB (by unfold maxLen; omega) (by simp)
    simpa [Own] using this⟩

/-- Stored into. -/
theorem Own.set_ {g cap n : Nat} {xs : List Int} (h : Own B w (.slice (some ⟨g, 0, none⟩) n cap) xs) (j : Nat) (u : Int) : Own B (w.setCell ⟨g, j, none⟩ (.int .u8 u)) (.slice (some ⟨g, 0, none⟩) n cap) (xs.set j u) := by
  have hn : n = xs.length := by
    obtain ⟨A, c, e, _⟩ := h.form
    injection e
  subst hn
  have := (World.ownsRow.stored h j (.int .u8 u)).1
  simpa [Own, List.map_set] using this
theorem Own.cell_ {g cap n : Nat} {xs : List Int} (h : Own B w (.slice (some ⟨g, 0, none⟩) n cap) xs) {j : Nat} {u : Int} (hu : xs[j]? = some u) : w.cell? ⟨g, j, none⟩ = some (.int .u8 u) := by
  have hn : n = xs.length := by
    obtain ⟨A, c, e, _⟩ := h.form
    injection e
  subst hn
  rw [World.ownsRow.cellAt h j (by have := (List.getElem?_eq_some_iff.1 hu).1; omega)]
  simp [hu]
theorem Own.froz_ {g cap n : Nat} {xs : List Int} (h : Own B w (.slice (some ⟨g, 0, none⟩) n cap) xs) (j : Nat) : w.frozen? ⟨g, j, none⟩ = false := by
  have hn : n = xs.length := by
    obtain ⟨A, c, e, _⟩ := h.form
    injection e
  subst hn
  exact World.ownsRow.frozenAt h j
end
end Go.Proofs.Ytdcgmnkoomhocaa.B8

/- Layer 8's calls: what each answers, as one statement each; bytes as strings, for the walk. -/
namespace Go.Proofs.Ytdcgmnkoomhocaa
open Go.RowKit Go.Proofs.ShM Go.Proofs.PkM
set_option linter.unusedVariables false

theorem kp_al {w w' : World} (h : Kp w w') (o : Obj) : Kp w (w'.alloc o) := h.tr (Kp.alloc_ _ _)
/-- Bytes and an error. -/
def RetB (l : List Int) (err : Int) (n : Nat) (w : World) (e : Ending) (w' : World) : Prop :=
  ∃ A c, e = .returned (.tuple #[.slice A n c, .int .i64 err]) ∧ Hid (B8.Rd w' A l) ∧ Hid (l.length ≤ c ∧ c ≤ 9223372036854775807) ∧ Kp w w'
/-- A number, bytes and an error. -/
def RetNB (v : Int) (l : List Int) (err : Int) (n : Nat) (w : World) (e : Ending) (w' : World) : Prop :=
  ∃ A c, e = .returned (.tuple #[.int .i64 v, .slice A n c, .int .i64 err]) ∧ Hid (B8.Rd w' A l) ∧ Hid (l.length ≤ c ∧ c ≤ 9223372036854775807) ∧ Kp w w'
/-- Numbers, bytes and an error. -/
def RetLB (v l : List Int) (err : Int) (m n : Nat) (w : World) (e : Ending) (w' : World) : Prop :=
  ∃ A c B d, e = .returned (.tuple #[.slice A m c, .slice B n d, .int .i64 err]) ∧ Hid (Rd w' A v) ∧ Hid (B8.Rd w' B l) ∧ Hid (l.length ≤ d ∧ d ≤ 9223372036854775807) ∧ Kp w w'
def I64l (xs : List Int) : Prop := ∀ x ∈ xs, I64 x

/-- What the four calls answer. -/
structure PkC : Prop where
  put : ∀ (A : Option Addr) (c m : Nat) (bs : List Int) (n size : Int) (r : List Int) (err : Int) (k : Nat) (W : World), B8.Rd W A bs → bs.length ≤ c → c ≤ 9223372036854775807 → bs.length ≤ 200000 → Bytes bs → I64 n → I64 size → m = bs.length → putV bs n size = (r, err) → r.length = k →
    Calls Try.prog 15 #[.slice A m c, .int .i64 n, .int .i64 size] W (RetB r err k W)
  take : ∀ (A : Option Addr) (c m : Nat) (bs : List Int) (size v : Int) (r : List Int) (err : Int) (k : Nat) (W : World), B8.Rd W A bs → bs.length ≤ c → c ≤ 9223372036854775807 → bs.length ≤ 200000 → Bytes bs → I64 size → m = bs.length → takeV bs size = (v, r, err) → r.length = k →
    Calls Try.prog 20 #[.slice A m c, .int .i64 size] W (RetNB v r err k W)
  list : ∀ (A B : Option Addr) (c d m p : Nat) (bs l : List Int) (size : Int) (r : List Int) (err : Int) (k : Nat) (W : World), B8.Rd W A bs → bs.length ≤ c → c ≤ 9223372036854775807 → bs.length ≤ 200000 → Bytes bs → Rd W B l → l.length ≤ 300 → I64l l → I64 size → m = bs.length → p = l.length → listV bs l size = (r, err) → r.length = k →
    Calls Try.prog 16 #[.slice A m c, .slice B p d, .int .i64 size] W (RetB r err k W)
  takeList : ∀ (A : Option Addr) (c m : Nat) (bs : List Int) (size : Int) (v r : List Int) (err : Int) (j k : Nat) (W : World), B8.Rd W A bs → bs.length ≤ c → c ≤ 9223372036854775807 → bs.length ≤ 200000 → Bytes bs → I64 size → m = bs.length → takeListV bs size = (v, r, err) → v.length = j → r.length = k →
    Calls Try.prog 21 #[.slice A m c, .int .i64 size] W (RetLB v r err j k W)

theorem run_str {W : World} {A : Option Addr} {bs : List Int} {n : Nat} (c : Nat) (h : B8.Rd W A bs) (hn : n = bs.length) : (convert 23 9 (.slice A n c)).run Try.prog W = .ok (.string (strOfNums bs)) W := by
  subst hn
  cases A with
  | none =>
    have e : bs = [] := by
      rcases Nat.eq_zero_or_pos bs.length with h0 | h0
      · exact List.eq_nil_of_length_eq_zero h0
      · obtain ⟨_, e, _⟩ := h.2 h0; cases e
    subst e
    exact run_convert_bytes_nil W 23 5 Try.underlying23 Try.underlying5 _ _ 9 Try.underlying9
  | some ad =>
    have hl : (loadCells ad bs.length).run Try.prog W = .ok (bs.map (Value.int .u8)).toArray W := by
      have := run_loadCells_list (P := Try.prog) W ad (bs.map (Value.int .u8)) (fun j v hj => by
        rw [List.getElem?_map, Option.map_eq_some_iff] at hj
        obtain ⟨x, hx, rfl⟩ := hj
        obtain ⟨ad', e, _, hc⟩ := h.2 (by have := (List.getElem?_eq_some_iff.1 hx).1; omega)
        injection e with e
        subst e
        exact hc j x hx)
      simpa using this
    rw [run_convert_bytes_string W 23 9 5 _ bs.length c Try.underlying23 Try.underlying5 Try.underlying9, run_bytesToString W _ bs.length c bs hl, foldl_push_bytes]
    simp [strOfNums, ByteArray.empty, ByteArray.emptyWithCapacity]
    rfl

end Go.Proofs.Ytdcgmnkoomhocaa

/- Layer 8 of the program: told, must, isSize, isOf, slices.Clone: what each answers, or ends at. -/
namespace Go.Proofs.Ytdcgmnkoomhocaa
open Go.RowKit Go.Proofs.ShM Go.Proofs.PkM
set_option linter.unusedVariables false
set_option maxHeartbeats 4000000

abbrev thrown40 : Ending := .panicked [{ v := .iface 26 (.int .i64 40), recovered := false }]
theorem told_nil (w : World) : Calls Try.prog 28 #[.nilIface] w fun e w' => e = .returned (.int .i64 0) ∧ w' = w := by
  go_enter Try.func28, Try.ntmps28
  go_wp2
  go_ret
  exact ⟨rfl, rfl⟩
theorem told_err (w : World) : Calls Try.prog 28 #[.iface 26 (.int .i64 40)] w fun e w' => e = .returned (.int .i64 40) ∧ w' = w := by
  have hta : (Instr.typeAssert (.iface 26 (.int .i64 40)) 20 26 true).run Try.prog w = .ok (.tuple #[.int .i64 40, .bool true]) w := by kernel_rfl
  go_enter Try.func28, Try.ntmps28
  go_wp2
  go_ret
  exact ⟨rfl, rfl⟩
theorem must_yes (w : World) : Calls Try.prog 43 #[.bool true] w fun e w' => e = .returned (.tuple #[]) ∧ w' = w := by
  go_enter Try.func43, Try.ntmps43
  go_wp2
  first | (go_ret; exact ⟨rfl, rfl⟩) | (go_end0; exact ⟨rfl, rfl⟩)
theorem must_no (w : World) : Calls Try.prog 43 #[.bool false] w fun e w' => e = thrown40 ∧ w' = w := by
  go_enter Try.func43, Try.ntmps43
  go_wp2
  exact ⟨rfl, rfl, rfl⟩
theorem isSize_any (n : Int) (w : World) : Calls Try.prog 45 #[.int .i64 n] w fun e w' => e = .returned (.bool (sizB n)) ∧ w' = w := by
  obtain ⟨r, hr⟩ : ∃ r, r = sizB n := ⟨_, rfl⟩
  rw [← hr]
  by_cases h : n = 1 ∨ n = 2 ∨ n = 8
  · obtain rfl : r = true := by rw [hr]; rcases h with rfl | rfl | rfl <;> rfl
    clear hr
    rcases h with rfl | rfl | rfl
    all_goals
      go_enter Try.func45, Try.ntmps45
      go_wp2
      go_ret
      exact ⟨rfl, rfl⟩
  · obtain rfl : r = false := by rw [hr]; unfold sizB; simp; omega
    clear hr
    have h1 : (n == 1) = false := by simp; omega
    have h2 : (n == 2) = false := by simp; omega
    have h8 : (n == 8) = false := by simp; omega
    clear h
    go_enter Try.func45, Try.ntmps45
    go_wp2
    go_ret
    exact ⟨rfl, rfl⟩
theorem isOf_any (n size : Int) (w : World) : Calls Try.prog 44 #[.int .i64 n, .int .i64 size] w fun e w' => e = .returned (.bool (mayB n size)) ∧ w' = w := by
  obtain ⟨r, hr⟩ : ∃ r, r = mayB n size := ⟨_, rfl⟩
  rw [← hr]
  have HI := fun W => isSize_any size W
  by_cases hs : sizB size = true
  · rw [hs] at HI
    have HI := Lib.hid HI
    rcases siz_cases hs with rfl | rfl | rfl
    · by_cases h0 : (0 : Int) ≤ n
      · by_cases h1 : n < 256
        · obtain rfl : r = true := by rw [hr]; unfold mayB; simp; omega
          clear hs hr
          go_enter Try.func44, Try.ntmps44
          go_wp2_with fail
          refine (HI.out _).mono ?_; rintro e w1 ⟨rfl, rfl⟩
          go_wp2
          go_ret
          exact ⟨rfl, rfl⟩
        · obtain rfl : r = false := by rw [hr]; unfold mayB; simp; omega
          clear hs hr
          go_enter Try.func44, Try.ntmps44
          go_wp2_with fail
          refine (HI.out _).mono ?_; rintro e w1 ⟨rfl, rfl⟩
          go_wp2
          go_ret
          exact ⟨by simp [h1], rfl⟩
      · obtain rfl : r = false := by rw [hr]; unfold mayB; simp; omega
        clear hs hr
        go_enter Try.func44, Try.ntmps44
        go_wp2_with fail
        refine (HI.out _).mono ?_; rintro e w1 ⟨rfl, rfl⟩
        go_wp2
        go_ret
        exact ⟨rfl, rfl⟩
    · by_cases h0 : (0 : Int) ≤ n
      · by_cases h1 : n < 65536
        · obtain rfl : r = true := by rw [hr]; unfold mayB; simp; omega
          clear hs hr
          go_enter Try.func44, Try.ntmps44
          go_wp2_with fail
          refine (HI.out _).mono ?_; rintro e w1 ⟨rfl, rfl⟩
          go_wp2
          go_ret
          exact ⟨rfl, rfl⟩
        · obtain rfl : r = false := by rw [hr]; unfold mayB; simp; omega
          clear hs hr
          go_enter Try.func44, Try.ntmps44
          go_wp2_with fail
          refine (HI.out _).mono ?_; rintro e w1 ⟨rfl, rfl⟩
          go_wp2
          go_ret
          exact ⟨by simp [h1], rfl⟩
      · obtain rfl : r = false := by rw [hr]; unfold mayB; simp; omega
        clear hs hr
        go_enter Try.func44, Try.ntmps44
        go_wp2_with fail
        refine (HI.out _).mono ?_; rintro e w1 ⟨rfl, rfl⟩
        go_wp2
        go_ret
        exact ⟨rfl, rfl⟩
    · obtain rfl : r = true := by rw [hr]; unfold mayB; simp
      clear hs hr
      go_enter Try.func44, Try.ntmps44
      go_wp2_with fail
      refine (HI.out _).mono ?_; rintro e w1 ⟨rfl, rfl⟩
      go_wp2
      go_ret
      exact ⟨rfl, rfl⟩
  · have hs' : sizB size = false := by simpa using hs
    rw [hs'] at HI
    have HI := Lib.hid HI
    obtain rfl : r = false := by
      rw [hr]
      cases hm : mayB n size with
      | false => rfl
      | true => exact absurd (may_siz hm) hs
    clear hs hr hs'
    go_enter Try.func44, Try.ntmps44
    go_wp2_with fail
    refine (HI.out _).mono ?_; rintro e w1 ⟨rfl, rfl⟩
    go_wp2
    go_ret
    exact ⟨rfl, rfl⟩

/-- The answer is bytes of the call's own. -/
def RetBO (xs : List Int) (w : World) (e : Ending) (w' : World) : Prop := ∃ A c, e = .returned (.slice A xs.length c) ∧ B8.Own w.heap.size w' (.slice A xs.length c) xs ∧ Kp w w'
theorem clone8_any (A : Option Addr) (c : Nat) (xs : List Int) (w : World) (h : B8.Rd w A xs) (hs : xs.length ≤ 1000000) :
    Calls Try.prog 30 #[.slice A xs.length c] w (RetBO xs w) := by
  have qT : ∀ (w : World) (a : Option Addr) (n c : Nat), (binOp .eql 23 (.slice a n c) (.slice none 0 0)).run Try.prog w = .ok (.bool a.isNone) w := fun w a n c => Lib.run_eql_slice_nil w _ _ a n c 0 0 Try.underlying23
  cases A with
  | none =>
    obtain rfl : xs = [] := by
      cases xs with
      | nil => rfl
      | cons x xs => obtain ⟨ad, e, _⟩ := h.2 (by simp); cases e
    go_enter Try.func30, Try.ntmps30
    go_wp2
    go_ret
    exact ⟨none, 0, rfl, B8.Own.nil_ _ _, Kp.refl _⟩
  | some ad =>
    go_enter Try.func30, Try.ntmps30
    go_wp2_with (at_builtin; refine B8.wpList_app rfl (.tmp 5) (.tmp 6) rfl _ [] rfl (B8.Own.zero w (Nat.le_refl _)) (some ad) c xs _ rfl rfl (h.alloc_ _) (by simpa using hs) (by simp) ?_; intro z1 A1 c1 w1 HZ o1 b1; have K1 := Lib.hid ((Kp.alloc_ w _).trans b1); have R1 := Lib.hid o1; clear o1 b1)
    go_ret
    have hz : z1 = xs := by have := HZ.out; simpa using this
    subst hz
    exact ⟨A1, c1, rfl, R1.out, K1.out⟩
end Go.Proofs.Ytdcgmnkoomhocaa

/- Layer 8 of the program: write: a number's bytes behind bytes of the call's own. -/
namespace Go.Proofs.Ytdcgmnkoomhocaa
open Go.RowKit Go.Proofs.ShM Go.Proofs.PkM
set_option linter.unusedVariables false
set_option maxHeartbeats 4000000

/-- The answer is bytes of the call's own (from block B on). -/
def RetWk (B : Nat) (r : List Int) (W : World) (e : Ending) (W' : World) : Prop := ∃ E f, e = .returned (.slice E r.length f) ∧ B8.Own B W' (.slice E r.length f) r ∧ Below B W W'

theorem mul8 (k : Nat) (hk : k < 8) : IntKind.i64.wrap (8 * (k : Int)) = 8 * (k : Int) := by
  match k, hk with
  | 0, _ | 1, _ | 2, _ | 3, _ | 4, _ | 5, _ | 6, _ | 7, _ => rfl
theorem pw_pow (k : Nat) : (2 : Int) ^ (8 * k) = pw k := by
  induction k with
  | zero => rfl
  | succ k ih =>
    show _ = 256 * pw k
    rw [Nat.mul_succ, Int.pow_add, ih, Int.mul_comm]
    rfl

theorem write_yes (B : Nat) (D : Option Addr) (m d : Nat) (bs : List Int) (n size : Int) (W : World) (hO : B8.Own B W (.slice D m d) bs) (hB : B ≤ W.heap.size) (hl : bs.length ≤ 300000) (h : mayB n size = true) :
    Calls Try.prog 29 #[.slice D m d, .int .i64 n, .int .i64 size] W (RetWk B (bs ++ byteL n size.toNat) W) := by
  have hs := siz_cases (may_siz h)
  have HI := fun W => isOf_any n size W
  rw [h] at HI
  have HI := Lib.hid HI
  have HM := Lib.hid must_yes
  obtain ⟨sz, hsz, hsz2, hsz3⟩ : ∃ sz : Nat, size = (sz : Int) ∧ sz ≤ 8 ∧ 1 ≤ sz := ⟨size.toNat, by omega, by omega, by omega⟩
  subst hsz
  rw [Int.toNat_natCast]
  have H0 := Lib.hid (wr_start bs n sz)
  obtain ⟨r, hr⟩ : ∃ r, r = bs ++ byteL n sz := ⟨_, rfl⟩
  rw [← hr] at H0 ⊢
  have hr' : Hid (r.length ≤ 300008) := by show r.length ≤ 300008; rw [hr, List.length_append, byte_len]; omega
  have hO := Lib.hid hO
  have hL := Lib.hid hl
  have hBW := Lib.hid hB
  clear hr h hs hl hB
  have hm : m = bs.length := by obtain ⟨A, c, e, _⟩ := hO.out.form; injection e
  subst hm
  go_enter Try.func29, Try.ntmps29
  go_wp2_with fail
  refine (HI.out _).mono ?_; rintro e w1 ⟨rfl, rfl⟩
  go_wp2_with fail
  refine (HM.out _).mono ?_; rintro e w1 ⟨rfl, rfl⟩
  go_wp2
  go_loopw [0, 7] (fun v i wx => ∃ (j : Nat) (E : Option Addr) (f : Nat) (cur : List Int) (t : Int), v = .slice E cur.length f ∧ i = .int .i64 t ∧ Hid (t = (j : Int) - 1) ∧ Hid (j ≤ sz) ∧ Hid (Wr r cur n j) ∧ Hid (B8.Own B wx (.slice E cur.length f) cur) ∧ Hid (Below B w1 wx)) (fun _ i _ => (intOf i + 1).toNat)
  case atStart => exact ⟨sz, D, d, bs, _, rfl, by go_num, (by show (_ : Int) = _; go_num), Nat.le_refl _, H0.out, hO.out, Below.refl _ _⟩
  case round =>
    obtain ⟨j, E, f, cur, t, rfl, rfl, ht, hj, hT, hOw, hk⟩ := hrel
    match j, hj with
    | 0, hj =>
      obtain rfl : t = -1 := by have := ht.out; omega
      obtain rfl := wr_end hT.out
      go_wp2
      go_ret
      exact ⟨E, f, rfl, hOw.out, hk.out⟩
    | k + 1, hj =>
      obtain rfl : t = (k : Int) := by have := ht.out; push_cast at this; omega
      have hk8 : k < 8 := by have := hj.out; omega
      have e1 := mul8 k hk8
      obtain ⟨y, hy⟩ : ∃ y, n / 2 ^ (8 * k) % 256 = y := ⟨_, rfl⟩
      have hT2 := Lib.hid (wr_step hT.out)
      have hy2 : Hid (n / pw k % 256 = y) := by rw [← pw_pow]; exact hy
      have hl2 := wr_len hT2.out
      rw [hy2.out] at hT2
      have hl3 := Lib.hid (show cur.length + 1 ≤ 300008 by have := hr'.out; rw [List.length_append] at hl2; simp at hl2; omega)
      have hO1 := Lib.hid (hOw.out.kp (Kp.alloc_ wr (.cells #[.int .u8 y] 5)))
      have hR1 := Lib.hid (B8.Rd.one wr y 5)
      have hB1 : Hid (B ≤ (wr.alloc (.cells #[.int .u8 y] 5)).heap.size) := by show B ≤ _; have := hk.out.size; have := hBW.out; simp; omega
      clear hl2
      go_wp2_with (at_builtin; refine B8.wpList_app rfl (.tmp 18) (.tmp 24) rfl _ cur rfl hO1.out _ 1 [y] 1 rfl rfl hR1.out (by have := hl3.out; simp; omega) hB1.out ?_; intro z1 A1 c1 w5 HZ o1 b1; have K1 := Lib.hid (hk.out.trans (((Below.refl _ _).alloc (by have := hk.out.size; have := hBW.out; omega) _).trans b1)); have O1 := Lib.hid o1; clear o1 b1)
      go_roundw
      case rel => exact ⟨k, A1, c1, z1, _, rfl, rfl, (by show (_ : Int) = _; go_num), (by show k ≤ sz; have := hj.out; omega), (by rw [HZ.out]; exact hT2.out), O1.out, K1.out⟩
      case measure => simp [intOf]
theorem write_no (D : Option Addr) (m d : Nat) (n size : Int) (W : World) (h : mayB n size = false) :
    Calls Try.prog 29 #[.slice D m d, .int .i64 n, .int .i64 size] W fun e W' => e = thrown40 ∧ W' = W := by
  have HI := fun W => isOf_any n size W
  rw [h] at HI
  have HI := Lib.hid HI
  have HM := Lib.hid must_no
  clear h
  go_enter Try.func29, Try.ntmps29
  go_wp2_with fail
  refine (HI.out _).mono ?_; rintro e w1 ⟨rfl, rfl⟩
  go_wp2_with fail
  refine (HM.out _).mono ?_; rintro e w1 ⟨rfl, rfl⟩
  go_wp2
  exact ⟨rfl, rfl, rfl⟩
end Go.Proofs.Ytdcgmnkoomhocaa

/- Layer 8 of the program: writeList: a list's bytes behind bytes of the call's own. -/
namespace Go.Proofs.Ytdcgmnkoomhocaa
open Go.RowKit Go.Proofs.ShM Go.Proofs.PkM
set_option linter.unusedVariables false
set_option maxHeartbeats 4000000

/-- The call ended at the error. -/
def RetTh (B : Nat) (W : World) (e : Ending) (W' : World) : Prop := e = thrown40 ∧ Below B W W'
theorem writeList_yes (B : Nat) (D A : Option Addr) (m d p c : Nat) (bs l : List Int) (size : Int) (W : World) (hO : B8.Own B W (.slice D m d) bs) (hB : B ≤ W.heap.size) (hl : bs.length ≤ 200000) (hR : ∀ W', Below B W W' → Rd W' A l) (hp : p = l.length) (hl2 : l.length ≤ 255) (hs : sizB size = true) (h : Ok l size) :
    Calls Try.prog 32 #[.slice D m d, .slice A p c, .int .i64 size] W (RetWk B (bs ++ [(l.length : Int)] ++ allB l size.toNat) W) := by
  have HI := fun W => isSize_any size W
  rw [hs] at HI
  have HI := Lib.hid HI
  have HM := Lib.hid must_yes
  obtain ⟨r, hr⟩ : ∃ r, r = bs ++ [(l.length : Int)] ++ allB l size.toNat := ⟨_, rfl⟩
  have H0 : Hid (Wl r (bs ++ [(l.length : Int)]) l 0 size.toNat) := hr
  have hr' : Hid (r.length ≤ 250000) := by
    show r.length ≤ 250000
    rw [hr, List.length_append, List.length_append, all_len]
    have h8 : size.toNat ≤ 8 := by rcases siz_cases hs with rfl | rfl | rfl <;> decide
    have : size.toNat * l.length ≤ 8 * 255 := Nat.mul_le_mul h8 hl2
    simp; omega
  rw [← hr]
  have H1 : Hid (Calls Try.prog 29 #[.slice D m d, .int .i64 (l.length : Int), .int .i64 1] W (RetWk B (bs ++ [(l.length : Int)]) W)) := by
    have e : byteL (l.length : Int) (1 : Int).toNat = [(l.length : Int)] := by show [(l.length : Int) % 256] = _; congr 1; omega
    have h1 := write_yes B D m d bs (l.length : Int) 1 W hO hB (by omega) (by unfold mayB; simp; omega)
    rw [e] at h1
    exact h1
  have HOK := Lib.hid (show Ok (l.drop 0) size from h)
  have hA : ∀ W', Below B W W' → Rd W' A l := hR
  have HA := Lib.hid hA
  have HB := Lib.hid hB
  have HW : Hid (∀ (D : Option Addr) (d : Nat) (cur : List Int) (x : Int) (W' : World), B8.Own B W' (.slice D cur.length d) cur → B ≤ W'.heap.size → cur.length ≤ 250000 → mayB x size = true → Calls Try.prog 29 #[.slice D cur.length d, .int .i64 x, .int .i64 size] W' (RetWk B (cur ++ byteL x size.toNat) W')) :=
    fun D d cur x W' h1 h2 h3 h4 => write_yes B D _ d cur x size W' h1 h2 (by omega) h4
  have hL : Hid (l.length ≤ 255) := hl2
  clear hr h hs hl hR hO hA hB hl2
  subst hp
  go_enter Try.func32, Try.ntmps32
  go_wp2_with fail
  refine (HI.out _).mono ?_; rintro e w1 ⟨rfl, rfl⟩
  go_wp2_with fail
  refine (HM.out _).mono ?_; rintro e w1 ⟨rfl, rfl⟩
  go_wp2_with fail
  refine (Hid.out H1).mono ?_; rintro e w2 ⟨E0, f0, rfl, o0, k0⟩
  obtain ⟨b0, hb0⟩ : ∃ b0, b0 = bs ++ [(l.length : Int)] := ⟨_, rfl⟩
  rw [← hb0] at H0 o0 ⊢
  have O0 := Lib.hid o0
  have K0 := Lib.hid k0
  clear H1 hb0 o0 k0
  go_wp2
  go_loopw [0, 18] (fun v i wx => ∃ (k : Nat) (E : Option Addr) (f : Nat) (cur : List Int), v = .slice E cur.length f ∧ i = .int .i64 (k : Int) ∧ Hid (k ≤ l.length) ∧ Hid (Wl r cur l k size.toNat) ∧ Hid (Ok (l.drop k) size) ∧ Hid (B8.Own B wx (.slice E cur.length f) cur) ∧ Hid (Below B w1 wx)) (fun _ i _ => l.length - (intOf i).toNat)
  case atStart => exact ⟨0, E0, f0, _, rfl, rfl, Nat.zero_le _, H0.out, HOK.out, O0.out, K0.out⟩
  case round =>
    obtain ⟨k, E, f, cur, rfl, rfl, hk, hT, hOk, hOw, hK⟩ := hrel
    by_cases hj : k < l.length
    · have hj' : (k : Int) < (l.length : Int) := by omega
      have hLL := hL.out
      obtain ⟨ad, x, rfl, hlt, hx, hc⟩ := (HA.out wr hK.out).at_ hj
      have hm := ok_hd hOk.out hx
      have HT2 := Lib.hid (wl_step hT.out hx)
      have HK2 := Lib.hid ((ok_tl hx hm).1 hOk.out)
      have HC := Lib.hid (HW.out E f cur x wr hOw.out (by have := hK.out.size; have := HB.out; omega) (by have := wl_len hT.out; have := hr'.out; omega) hm)
      clear hx hm
      go_wp2_with fail
      refine (Hid.out HC).mono ?_; rintro e w5 ⟨E5, f5, rfl, o5, k5⟩
      generalize cur ++ byteL x size.toNat = cur2 at HT2 o5 ⊢
      have O5 := Lib.hid o5
      have K5 := Lib.hid (hK.out.trans k5)
      clear o5 k5 HC
      go_wp2
      go_roundw
      case rel => exact ⟨k + 1, E5, f5, cur2, rfl, by go_num, (by show k + 1 ≤ l.length; omega), HT2.out, HK2.out, O5.out, K5.out⟩
      case measure => simp [intOf]; omega
    · have hj' : ¬ (k : Int) < (l.length : Int) := by omega
      obtain rfl := wl_end hT.out (by omega)
      go_wp2
      go_ret
      exact ⟨E, f, rfl, hOw.out, hK.out⟩
theorem writeList_bad (B : Nat) (D A : Option Addr) (m d p c : Nat) (bs l : List Int) (size : Int) (W : World) (hO : B8.Own B W (.slice D m d) bs) (hB : B ≤ W.heap.size) (hl : bs.length ≤ 200000) (hR : ∀ W', Below B W W' → Rd W' A l) (hp : p = l.length) (hl2 : l.length ≤ 255) (hs : sizB size = true) (h : ¬ Ok l size) :
    Calls Try.prog 32 #[.slice D m d, .slice A p c, .int .i64 size] W (RetTh B W) := by
  have HI := fun W => isSize_any size W
  rw [hs] at HI
  have HI := Lib.hid HI
  have HM := Lib.hid must_yes
  have hz : Hid (size.toNat ≤ 8) := by show size.toNat ≤ 8; rcases siz_cases hs with rfl | rfl | rfl <;> decide
  have H1 : Hid (Calls Try.prog 29 #[.slice D m d, .int .i64 (l.length : Int), .int .i64 1] W (RetWk B (bs ++ [(l.length : Int)]) W)) := by
    have e : byteL (l.length : Int) (1 : Int).toNat = [(l.length : Int)] := by show [(l.length : Int) % 256] = _; congr 1; omega
    have h1 := write_yes B D m d bs (l.length : Int) 1 W hO hB (by omega) (by unfold mayB; simp; omega)
    rw [e] at h1
    exact h1
  have HOK := Lib.hid (show ¬ Ok (l.drop 0) size from h)
  have hA : ∀ W', Below B W W' → Rd W' A l := hR
  have HA := Lib.hid hA
  have HB := Lib.hid hB
  have HW : Hid (∀ (D : Option Addr) (d : Nat) (cur : List Int) (x : Int) (W' : World), B8.Own B W' (.slice D cur.length d) cur → B ≤ W'.heap.size → cur.length ≤ 250000 → mayB x size = true → Calls Try.prog 29 #[.slice D cur.length d, .int .i64 x, .int .i64 size] W' (RetWk B (cur ++ byteL x size.toNat) W')) :=
    fun D d cur x W' h1 h2 h3 h4 => write_yes B D _ d cur x size W' h1 h2 (by omega) h4
  have hL : Hid (l.length ≤ 255) := hl2
  have HL0 := Lib.hid hl
  clear h hs hl hR hO hA hB hl2
  subst hp
  go_enter Try.func32, Try.ntmps32
  go_wp2_with fail
  refine (HI.out _).mono ?_; rintro e w1 ⟨rfl, rfl⟩
  go_wp2_with fail
  refine (HM.out _).mono ?_; rintro e w1 ⟨rfl, rfl⟩
  go_wp2_with fail
  refine (Hid.out H1).mono ?_; rintro e w2 ⟨E0, f0, rfl, o0, k0⟩
  obtain ⟨b0, hb0⟩ : ∃ b0, b0 = bs ++ [(l.length : Int)] := ⟨_, rfl⟩
  have H0 : Hid (b0.length ≤ 200001 + 8 * 0) := by show b0.length ≤ 200001 + 8 * 0; rw [hb0, List.length_append, List.length_singleton]; have := HL0.out; omega
  rw [← hb0] at o0 ⊢
  have O0 := Lib.hid o0
  have K0 := Lib.hid k0
  clear H1 hb0 o0 k0
  go_wp2
  go_loopw [0, 18] (fun v i wx => ∃ (k : Nat) (E : Option Addr) (f : Nat) (cur : List Int), v = .slice E cur.length f ∧ i = .int .i64 (k : Int) ∧ Hid (k ≤ l.length) ∧ Hid (cur.length ≤ 200001 + 8 * k) ∧ Hid (¬ Ok (l.drop k) size) ∧ Hid (B8.Own B wx (.slice E cur.length f) cur) ∧ Hid (Below B w1 wx)) (fun _ i _ => l.length - (intOf i).toNat)
  case atStart => exact ⟨0, E0, f0, _, rfl, rfl, Nat.zero_le _, H0.out, HOK.out, O0.out, K0.out⟩
  case round =>
    obtain ⟨k, E, f, cur, rfl, rfl, hk, hT, hOk, hOw, hK⟩ := hrel
    by_cases hj : k < l.length
    · have hj' : (k : Int) < (l.length : Int) := by omega
      have hLL := hL.out
      obtain ⟨ad, x, rfl, hlt, hx, hc⟩ := (HA.out wr hK.out).at_ hj
      by_cases hm : mayB x size = true
      · have HT2 : Hid ((cur ++ byteL x size.toNat).length ≤ 200001 + 8 * (k + 1)) := by show (cur ++ byteL x size.toNat).length ≤ 200001 + 8 * (k + 1); rw [List.length_append, byte_len]; have := hT.out; have := hz.out; omega
        have HK2 := Lib.hid (fun g => hOk.out ((ok_tl hx hm).2 g))
        have HC := Lib.hid (HW.out E f cur x wr hOw.out (by have := hK.out.size; have := HB.out; omega) (by have := hT.out; omega) hm)
        clear hx hm
        go_wp2_with fail
        refine (Hid.out HC).mono ?_; rintro e w5 ⟨E5, f5, rfl, o5, k5⟩
        generalize cur ++ byteL x size.toNat = cur2 at HT2 o5 ⊢
        have O5 := Lib.hid o5
        have K5 := Lib.hid (hK.out.trans k5)
        clear o5 k5 HC
        go_wp2
        go_roundw
        case rel => exact ⟨k + 1, E5, f5, cur2, rfl, by go_num, (by show k + 1 ≤ l.length; omega), HT2.out, HK2.out, O5.out, K5.out⟩
        case measure => simp [intOf]; omega
      · have HC := Lib.hid (write_no E cur.length f x size wr (by simpa using hm))
        clear hx hm
        go_wp2_with fail
        refine (Hid.out HC).mono ?_; rintro e w5 ⟨rfl, rfl⟩
        go_wp2
        exact ⟨rfl, rfl, hK.out⟩
    · exact absurd (ok_end size (by omega)) hOk.out
theorem writeList_long (B : Nat) (D A : Option Addr) (m d p c : Nat) (l : List Int) (size : Int) (W : World) (hp : p = l.length) (hl : ¬ l.length ≤ 255) (hl2 : l.length ≤ 300) (hs : sizB size = true) :
    Calls Try.prog 32 #[.slice D m d, .slice A p c, .int .i64 size] W (RetTh B W) := by
  have HI := fun W => isSize_any size W
  rw [hs] at HI
  have HI := Lib.hid HI
  have HM := Lib.hid must_yes
  have H1 := Lib.hid (write_no D m d (l.length : Int) 1 W (by unfold mayB; simp; omega))
  clear hs hl hl2
  subst hp
  go_enter Try.func32, Try.ntmps32
  go_wp2_with fail
  refine (HI.out _).mono ?_; rintro e w1 ⟨rfl, rfl⟩
  go_wp2_with fail
  refine (HM.out _).mono ?_; rintro e w1 ⟨rfl, rfl⟩
  go_wp2_with fail
  refine (Hid.out H1).mono ?_; rintro e w2 ⟨rfl, rfl⟩
  go_wp2
  exact ⟨rfl, rfl, Below.refl _ _⟩
theorem writeList_size (B : Nat) (D A : Option Addr) (m d p c : Nat) (size : Int) (W : World) (hs : sizB size = false) :
    Calls Try.prog 32 #[.slice D m d, .slice A p c, .int .i64 size] W (RetTh B W) := by
  have HI := fun W => isSize_any size W
  rw [hs] at HI
  have HI := Lib.hid HI
  have HM := Lib.hid must_no
  clear hs
  go_enter Try.func32, Try.ntmps32
  go_wp2_with fail
  refine (HI.out _).mono ?_; rintro e w1 ⟨rfl, rfl⟩
  go_wp2_with fail
  refine (HM.out _).mono ?_; rintro e w1 ⟨rfl, rfl⟩
  go_wp2
  exact ⟨rfl, rfl, Below.refl _ _⟩
end Go.Proofs.Ytdcgmnkoomhocaa

/- Layer 8 of the program: read: a number from bytes. -/
namespace Go.Proofs.Ytdcgmnkoomhocaa
open Go.RowKit Go.Proofs.ShM Go.Proofs.PkM
set_option linter.unusedVariables false
set_option maxHeartbeats 4000000

/-- A number, and bytes that lie in memory, with room. -/
def RetR (A0 : Option Addr) (bs : List Int) (v : Int) (r : List Int) (W : World) (e : Ending) (W' : World) : Prop := ∃ A c, e = .returned (.tuple #[.int .i64 v, .slice A r.length c]) ∧ (∀ V, B8.Rd V A0 bs → B8.Rd V A r) ∧ r.length ≤ c ∧ c ≤ 9223372036854775807 ∧ Kp W W'

theorem B8.Rd.drop_ {w : World} {ad : Addr} {xs : List Int} (h : B8.Rd w (some ad) xs) (k : Nat) : B8.Rd w (some (ad.add k)) (xs.drop k) := by
  refine ⟨by rw [List.length_drop]; have := h.1; omega, fun hp => ⟨_, rfl, ?_, fun j u hj => ?_⟩⟩
  · obtain ⟨_, e, hb, _⟩ := h.2 (by rw [List.length_drop] at hp; omega)
    injection e with e
    subst e
    rw [block_of_add]; exact hb
  · obtain ⟨_, e, _, hc⟩ := h.2 (by rw [List.length_drop] at hp; omega)
    injection e with e
    subst e
    rw [List.getElem?_drop] at hj
    have := hc (k + j) u hj
    rw [Addr.add_add]
    exact this
theorem or_byte (u x : Int) (h0 : 0 ≤ u) (h1 : u < 72057594037927936) (hx : 0 ≤ x) (hx2 : x ≤ 255) : bits .or .i64 (wrap64 (u * 256)) x = PkM.asInt (u * 256 + x) := by
  have e1 : BitVec.ofInt 64 (wrap64 (u * 256)) = BitVec.ofNat 64 (u.toNat * 256) := by
    apply BitVec.eq_of_toNat_eq
    rw [BitVec.toNat_ofInt, BitVec.toNat_ofNat]
    unfold wrap64
    omega
  have e2 : BitVec.ofInt 64 x = BitVec.ofNat 64 x.toNat := by
    apply BitVec.eq_of_toNat_eq
    rw [BitVec.toNat_ofInt, BitVec.toNat_ofNat]
    omega
  have e3 : (BitVec.ofInt 64 (wrap64 (u * 256)) ||| BitVec.ofInt 64 x).toNat = u.toNat * 256 + x.toNat := by
    rw [BitVec.toNat_or, e1, e2, BitVec.toNat_ofNat, BitVec.toNat_ofNat, Nat.mod_eq_of_lt (by omega), Nat.mod_eq_of_lt (by omega)]
    have := Nat.two_pow_add_eq_or_of_lt (i := 8) (b := x.toNat) (by omega) u.toNat
    rw [Nat.mul_comm] at this
    exact this.symm
  have e5 : bits .or .i64 (wrap64 (u * 256)) x = IntKind.i64.wrap (((BitVec.ofInt 64 (wrap64 (u * 256)) ||| BitVec.ofInt 64 x).toNat : Nat) : Int) := rfl
  rw [e5, e3]
  have e4 : ((u.toNat * 256 + x.toNat : Nat) : Int) = u * 256 + x := by omega
  rw [e4]
  rw [IntKind.wrap_i64]
  unfold PkM.asInt
  split <;> omega
theorem read_yes (A : Option Addr) (m c : Nat) (bs : List Int) (size : Int) (W : World) (hR : B8.Rd W A bs) (hc1 : bs.length ≤ c) (hc2 : c ≤ 9223372036854775807) (hb : Bytes bs) (hm : m = bs.length) (hs : sizB size = true) (hl : size ≤ bs.length) (hbl : bs.length ≤ 200000) :
    Calls Try.prog 38 #[.slice A m c, .int .i64 size] W (RetR A bs (PkM.asInt (valL (bs.take size.toNat))) (bs.drop size.toNat) W) := by
  have HI := fun W => isSize_any size W
  rw [hs] at HI
  have HI := Lib.hid HI
  have HM := Lib.hid must_yes
  obtain ⟨sz, hsz, hsz2, hsz3⟩ : ∃ sz : Nat, size = (sz : Int) ∧ sz ≤ 8 ∧ 1 ≤ sz := by
    rcases siz_cases hs with rfl | rfl | rfl
    · exact ⟨1, rfl, by omega, by omega⟩
    · exact ⟨2, rfl, by omega, by omega⟩
    · exact ⟨8, rfl, by omega, by omega⟩
  subst hsz
  rw [Int.toNat_natCast]
  have hl' : sz ≤ bs.length := by omega
  have hz : (bs.drop sz).length = bs.length - sz := List.length_drop
  obtain ⟨v, hv⟩ : ∃ v, v = PkM.asInt (valL (bs.take sz)) := ⟨_, rfl⟩
  obtain ⟨r, hr⟩ : ∃ r, r = bs.drop sz := ⟨_, rfl⟩
  rw [← hv, ← hr]
  rw [← hr] at hz
  have HZ := Lib.hid hz
  have HV := Lib.hid (And.intro hv hr)
  have HRd := Lib.hid hR
  have HBy := Lib.hid hb
  clear hz hR hb hs hl hv hr
  subst hm
  go_enter Try.func38, Try.ntmps38
  go_wp2_with fail
  refine (HI.out _).mono ?_; rintro e w1 ⟨rfl, rfl⟩
  go_wp2_with fail
  refine (HM.out _).mono ?_; rintro e w1 ⟨rfl, rfl⟩
  obtain ⟨ad, rfl, hlt, _⟩ := HRd.out.2 (by omega)
  go_wp2
  go_loopw [6, 22] (fun v i wx => ∃ k : Nat, v = .int .i64 (PkM.asInt (valL (bs.take k))) ∧ i = .int .i64 (k : Int) ∧ Hid (k ≤ sz) ∧ wx = w1) (fun _ i _ => sz - (intOf i).toNat)
  case atStart => exact ⟨0, rfl, rfl, Nat.zero_le _, rfl⟩
  case round =>
    obtain ⟨k, rfl, rfl, hk, rfl⟩ := hrel
    by_cases hj : k < sz
    · have hj' : (k : Int) < (sz : Int) := by omega
      obtain ⟨_, x, he, _, hx, hcell⟩ := HRd.out.at_ (show k < bs.length by omega)
      injection he with he
      subst he
      have hx0 := HBy.out x (List.mem_of_getElem? hx)
      obtain ⟨hu0, hu1⟩ := val_small HBy.out (show k ≤ bs.length by omega) (show k ≤ 7 by omega)
      have hv := val_take hx
      obtain ⟨u, hu⟩ : ∃ u, u = valL (bs.take k) := ⟨_, rfl⟩
      rw [← hu] at hv hu0 hu1 ⊢
      have e1 : PkM.asInt u = u := by unfold PkM.asInt; rw [if_pos (by omega)]
      have e3 := or_byte u x hu0 hu1 hx0.1 hx0.2
      rw [← hv] at e3
      rw [e1]
      have HX := Lib.hid e3
      clear hu hu0 hu1 hx hv e1 e3
      go_wp2
      go_roundw
      case rel => exact ⟨k + 1, by rw [HX.out], by go_num, (by show k + 1 ≤ sz; omega), (by first | rfl | trivial)⟩
      case measure => simp [intOf]; omega
    · have hj' : ¬ (k : Int) < (sz : Int) := by omega
      obtain rfl : k = sz := by have := hk.out; omega
      rw [← HV.out.1]
      clear hk
      go_wp2_with fail
      go_quiet (fail)
      have HD : Hid ((∀ V, B8.Rd V (some ad) bs → B8.Rd V (if c = k then some ad else some (ad.add k)) r) ∧ r.length ≤ c - k ∧ c - k ≤ 9223372036854775807) := by
        refine ⟨fun V hV => ?_, by rw [HZ.out]; omega, by omega⟩
        rw [HV.out.2]
        by_cases hck : c = k
        · rw [List.drop_eq_nil_of_le (by omega)]
          exact B8.Rd.nil _ _
        · rw [if_neg hck]
          exact hV.drop_ k
      rw [← HZ.out]
      generalize (if c = k then some ad else some (ad.add k)) = A2 at HD ⊢
      go_wp2
      go_ret2
      exact ⟨A2, c - k, rfl, fun V hV => HD.out.1 V hV, HD.out.2.1, HD.out.2.2, Kp.drewN_ _ _⟩
theorem read_short (A : Option Addr) (m c : Nat) (size : Int) (W : World) (hs : sizB size = true) (hl : ¬ size ≤ (m : Int)) :
    Calls Try.prog 38 #[.slice A m c, .int .i64 size] W fun e W' => e = thrown40 ∧ W' = W := by
  have HI := fun W => isSize_any size W
  rw [hs] at HI
  have HI := Lib.hid HI
  have HM := Lib.hid must_no
  clear hs
  go_enter Try.func38, Try.ntmps38
  go_wp2_with fail
  refine (HI.out _).mono ?_; rintro e w1 ⟨rfl, rfl⟩
  go_wp2_with fail
  rw [show decide (size ≤ (m : Int)) = false from by simp; omega]
  refine (HM.out _).mono ?_; rintro e w1 ⟨rfl, rfl⟩
  go_wp2
  exact ⟨rfl, rfl, rfl⟩
theorem read_size (A : Option Addr) (m c : Nat) (size : Int) (W : World) (hs : sizB size = false) :
    Calls Try.prog 38 #[.slice A m c, .int .i64 size] W fun e W' => e = thrown40 ∧ W' = W := by
  have HI := fun W => isSize_any size W
  rw [hs] at HI
  have HI := Lib.hid HI
  have HM := Lib.hid must_no
  clear hs
  go_enter Try.func38, Try.ntmps38
  go_wp2_with fail
  refine (HI.out _).mono ?_; rintro e w1 ⟨rfl, rfl⟩
  go_wp2_with fail
  refine (HM.out _).mono ?_; rintro e w1 ⟨rfl, rfl⟩
  go_wp2
  exact ⟨rfl, rfl, rfl⟩
end Go.Proofs.Ytdcgmnkoomhocaa

/- Layer 8 of the program: readList: a list from bytes. -/
namespace Go.Proofs.Ytdcgmnkoomhocaa
open Go.RowKit Go.Proofs.ShM Go.Proofs.PkM
set_option linter.unusedVariables false
set_option maxHeartbeats 4000000

/-- Numbers, and bytes that lie in memory, with room; or the error. -/
def RetRL (A0 : Option Addr) (bs : List Int) (o : Option (List Int × List Int)) (W : World) (e : Ending) (W' : World) : Prop :=
  (o = none ∧ RetTh W.heap.size W e W') ∨ ∃ v r, o = some (v, r) ∧ ∃ B b D d, e = .returned (.tuple #[.slice B v.length b, .slice D r.length d]) ∧ Own W.heap.size W' (.slice B v.length b) v ∧ (∀ V, B8.Rd V A0 bs → B8.Rd V D r) ∧ r.length ≤ d ∧ d ≤ 9223372036854775807 ∧ Kp W W'

theorem readList_size (A : Option Addr) (m c : Nat) (size : Int) (W : World) (hs : sizB size = false) :
    Calls Try.prog 40 #[.slice A m c, .int .i64 size] W fun e W' => e = thrown40 ∧ W' = W := by
  have HI := fun W => isSize_any size W
  rw [hs] at HI
  have HI := Lib.hid HI
  have HM := Lib.hid must_no
  clear hs
  go_enter Try.func40, Try.ntmps40
  go_wp2_with fail
  refine (HI.out _).mono ?_; rintro e w1 ⟨rfl, rfl⟩
  go_wp2_with fail
  refine (HM.out _).mono ?_; rintro e w1 ⟨rfl, rfl⟩
  go_wp2
  exact ⟨rfl, rfl, rfl⟩
theorem readList_nil (A : Option Addr) (m c : Nat) (size : Int) (W : World) (hs : sizB size = true) (hm : m = 0) :
    Calls Try.prog 40 #[.slice A m c, .int .i64 size] W fun e W' => e = thrown40 ∧ W' = W := by
  have HI := fun W => isSize_any size W
  rw [hs] at HI
  have HI := Lib.hid HI
  have HM := Lib.hid must_yes
  have HR := Lib.hid (read_short A m c 1 W (by decide) (by omega))
  clear hs hm
  go_enter Try.func40, Try.ntmps40
  go_wp2_with fail
  refine (HI.out _).mono ?_; rintro e w1 ⟨rfl, rfl⟩
  go_wp2_with fail
  refine (HM.out _).mono ?_; rintro e w1 ⟨rfl, rfl⟩
  go_wp2_with fail
  refine (Hid.out HR).mono ?_; rintro e w1 ⟨rfl, rfl⟩
  go_wp2
  exact ⟨rfl, rfl, rfl⟩
theorem readList_any (A : Option Addr) (m c : Nat) (bs : List Int) (size : Int) (W : World) (hR : B8.Rd W A bs) (hc1 : bs.length ≤ c) (hc2 : c ≤ 9223372036854775807) (hb : Bytes bs) (hm : m = bs.length) (hs : sizB size = true) (hl : 1 ≤ bs.length) (hbl : bs.length ≤ 200000) :
    Calls Try.prog 40 #[.slice A m c, .int .i64 size] W (RetRL A bs (manyV size.toNat (bs.getD 0 0).toNat (bs.drop 1)) W) := by
  have HI := fun W => isSize_any size W
  rw [hs] at HI
  have HI := Lib.hid HI
  have HM := Lib.hid must_yes
  have HR := Lib.hid (read_yes A m c bs 1 W hR hc1 hc2 hb hm (by decide) (by omega) hbl)
  have HRD : Hid (∀ (D : Option Addr) (d : Nat) (rest : List Int) (W : World), B8.Rd W D rest → rest.length ≤ d → d ≤ 9223372036854775807 → Bytes rest → size ≤ rest.length → rest.length ≤ 200000 → Calls Try.prog 38 #[.slice D rest.length d, .int .i64 size] W (RetR D rest (PkM.asInt (valL (rest.take size.toNat))) (rest.drop size.toNat) W)) :=
    fun D d rest W h1 h2 h3 h4 h5 h6 => read_yes D _ d rest size W h1 h2 h3 h4 rfl hs h5 h6
  have HRS : Hid (∀ (D : Option Addr) (d m : Nat) (W : World), ¬ size ≤ (m : Int) → Calls Try.prog 38 #[.slice D m d, .int .i64 size] W fun e W' => e = thrown40 ∧ W' = W) :=
    fun D d m W h => read_short D m d size W hs h
  obtain ⟨cnt, hcnt, hcnt2, hv⟩ : ∃ cnt : Nat, cnt = (bs.getD 0 0).toNat ∧ cnt ≤ 255 ∧ PkM.asInt (valL (bs.take (1 : Int).toNat)) = (cnt : Int) := by
    match bs, hl with
    | x :: bs, _ =>
      have hx := hb x (by simp)
      refine ⟨x.toNat, rfl, by omega, ?_⟩
      have e : valL ((x :: bs).take (1 : Int).toNat) = x := by show 0 * 256 + x = x; omega
      rw [e]
      unfold PkM.asInt
      rw [if_pos (by omega)]
      omega
  rw [← hcnt, show bs.drop 1 = bs.drop (1 : Int).toNat from rfl]
  rw [hv] at HR
  obtain ⟨b0, hb0⟩ : ∃ b0, b0 = bs.drop (1 : Int).toNat := ⟨_, rfl⟩
  have HB0 : Hid (Bytes b0 ∧ b0.length ≤ 200000) := ⟨by rw [hb0]; exact fun y hy => hb y (List.mem_of_mem_drop hy), by rw [hb0, List.length_drop]; omega⟩
  rw [← hb0] at HR ⊢
  obtain ⟨sz, hsz, hsz2⟩ : ∃ sz : Nat, size = (sz : Int) ∧ size.toNat = sz := ⟨size.toNat, by rcases siz_cases hs with rfl | rfl | rfl <;> rfl, rfl⟩
  rw [hsz2] at HRD ⊢
  subst hsz
  obtain ⟨o, ho⟩ : ∃ o, o = manyV sz cnt b0 := ⟨_, rfl⟩
  have H0 : Hid (Rl o [] b0 sz cnt) := by rw [ho]; exact rl_start _ _ _
  rw [← ho]
  obtain ⟨cs, hmk, hown⟩ := mk_ cnt (by omega)
  have HOW := Lib.hid hown
  have HRd := Lib.hid hR
  clear hR hb hs hl hv hb0 hcnt ho hown hsz2
  subst hm
  go_enter Try.func40, Try.ntmps40
  go_wp2_with fail
  refine (HI.out _).mono ?_; rintro e w1 ⟨rfl, rfl⟩
  go_wp2_with fail
  refine (HM.out _).mono ?_; rintro e w1 ⟨rfl, rfl⟩
  go_wp2_with fail
  refine (Hid.out HR).mono ?_; rintro e w2 ⟨D0, d0, rfl, i0, j0, l0, k0⟩
  have I0 := Lib.hid (And.intro i0 (And.intro j0 (And.intro l0 k0)))
  clear i0 j0 l0 k0 HR
  have HO2 := Lib.hid (HOW.out w2 w1.heap.size I0.out.2.2.2.size)
  have hge : Hid (w1.heap.size ≤ w2.heap.size) := I0.out.2.2.2.size
  have HK2 : Hid (Kp w1 (w2.alloc (.cells cs 3))) := I0.out.2.2.2.trans (Below.alloc (Below.refl _ _) hge.out _)
  obtain ⟨G, hG⟩ : ∃ G, G = w2.heap.size := ⟨_, rfl⟩
  have hGH : Hid (w1.heap.size ≤ G) := by show _ ≤ G; rw [hG]; exact hge.out
  rw [← hG] at HO2
  have hGW : Hid (w2.heap.size = G) := hG.symm
  clear hG hge
  go_wp2
  rw [hGW.out]
  go_loopw [0, 21] (fun v i wx => ∃ (k : Nat) (D : Option Addr) (d : Nat) (rest done : List Int), v = .slice D rest.length d ∧ i = .int .i64 (k : Int) ∧ Hid (k ≤ cnt) ∧ Hid (done.length = k) ∧ Hid (Rl o done rest sz (cnt - k)) ∧ Hid (Bytes rest ∧ rest.length ≤ 200000 ∧ rest.length ≤ d ∧ d ≤ 9223372036854775807) ∧ Hid (∀ V, B8.Rd V A bs → B8.Rd V D rest) ∧ Hid (Own w1.heap.size wx (.slice (some ⟨G, 0, none⟩) cnt cnt) (done ++ List.replicate (cnt - k) 0)) ∧ Hid (Kp w1 wx)) (fun _ i _ => cnt - (intOf i).toNat)
  case atStart => exact ⟨0, D0, d0, b0, [], rfl, rfl, Nat.zero_le _, rfl, H0.out, ⟨HB0.out.1, HB0.out.2, I0.out.2.1, I0.out.2.2.1⟩, I0.out.1, HO2.out, HK2.out⟩
  case round =>
    obtain ⟨k, D, d, rest, done, rfl, rfl, hk, hdn, hT, hB, hV, hOw, hK⟩ := hrel
    by_cases hj : k < cnt
    · have hj' : (k : Int) < (cnt : Int) := by omega
      obtain ⟨p, hp⟩ : ∃ p, cnt - k = p + 1 := ⟨cnt - k - 1, by omega⟩
      rw [hp] at hT hOw
      by_cases hq : sz ≤ rest.length
      · have HC := Lib.hid (HRD.out D d rest wr (hV.out _ (HRd.out.kp hK.out)) hB.out.2.2.1 hB.out.2.2.2 hB.out.1 (by omega) hB.out.2.1)
        have HT2 := Lib.hid (rl_step hT.out hq)
        obtain ⟨x, hx⟩ : ∃ x, x = PkM.asInt (valL (rest.take sz)) := ⟨_, rfl⟩
        rw [← hx] at HC HT2
        have HB2 : Hid (Bytes (rest.drop sz) ∧ (rest.drop sz).length ≤ 200000) := ⟨fun y hy => hB.out.1 y (List.mem_of_mem_drop hy), by rw [List.length_drop]; have := hB.out.2.1; omega⟩
        obtain ⟨rest2, hr2⟩ : ∃ rest2, rest2 = rest.drop sz := ⟨_, rfl⟩
        rw [← hr2] at HC HT2 HB2
        clear hx hr2 hq
        go_wp2_with fail
        refine (Hid.out HC).mono ?_; rintro e w5 ⟨D5, d5, rfl, i5, j5, l5, k5⟩
        have I5 := Lib.hid (And.intro (fun V hh => i5 V (hV.out V hh)) (And.intro j5 (And.intro l5 (hK.out.tr k5))))
        have hO5 := Lib.hid (hOw.out.kp k5)
        have e1 := hO5.out.cell_ (j := k) (u := 0) (by rw [← hdn.out, List.getElem?_append_right (Nat.le_refl _), Nat.sub_self]; rfl)
        have e2 := hO5.out.froz_ k
        clear i5 j5 l5 k5 HC
        go_wp2
        have HO6 := Lib.hid (hO5.out.set_ k x)
        rw [← hdn.out, fill_set, hdn.out] at HO6
        have HK6 : Hid (Kp w1 (w5.setCell ⟨G, k, none⟩ (.int .i64 x))) := Below.setCell I5.out.2.2.2 hGH.out _
        have hp2 : cnt - (k + 1) = p := by omega
        go_roundw
        case rel => exact ⟨k + 1, D5, d5, rest2, done ++ [x], rfl, rfl, (by show k + 1 ≤ cnt; omega), (by show (done ++ [x]).length = k + 1; rw [List.length_append, hdn.out]; rfl), (by rw [hp2]; exact HT2.out), ⟨HB2.out.1, HB2.out.2, I5.out.2.1, I5.out.2.2.1⟩, I5.out.1, (by rw [hp2]; exact HO6.out), HK6.out⟩
        case measure => simp [intOf]; omega
      · obtain rfl := rl_bad hT.out hq
        have HC := Lib.hid (HRS.out D d rest.length wr (by omega))
        clear hq
        go_wp2_with fail
        refine (Hid.out HC).mono ?_; rintro e w5 ⟨rfl, rfl⟩
        go_wp2
        exact ⟨rfl, .inl ⟨rfl, rfl, hK.out⟩⟩
    · have hj' : ¬ (k : Int) < (cnt : Int) := by omega
      obtain rfl : k = cnt := by have := hk.out; omega
      rw [Nat.sub_self] at hT hOw
      have HE := Lib.hid (rl_end hT.out)
      go_wp2
      go_ret2
      have h1 : Own w1.heap.size wr (.slice (some ⟨G, 0, none⟩) k k) done := by have := hOw.out; simpa using this
      exact .inr ⟨done, rest, HE.out, some ⟨G, 0, none⟩, k, D, d, (by rw [hdn.out]; rfl), (by rw [hdn.out]; exact h1), hV.out, hB.out.2.2.1, hB.out.2.2.2, hK.out⟩
end Go.Proofs.Ytdcgmnkoomhocaa

/- Layer 8 of the program: what each deferred call leaves: the error in its box. -/
namespace Go.Proofs.Ytdcgmnkoomhocaa
open Go.RowKit Go.Proofs.ShM Go.Proofs.PkM
set_option linter.unusedVariables false
set_option maxHeartbeats 4000000

theorem set_same {w : World} {p : Addr} {x : Value} (v : Value) (h : w.cell? p = some x) : (w.setCell p v).cell? p = some v := by
  simp [go_sem, h]
theorem put1_idle (p : Addr) (x : Int) (w : World) (hp : w.cell? p = some (.int .i64 x)) (hfp : w.frozen? p = false) :
    CallsD Try.prog 27 #[.pointer (some p)] .returning w fun e u' w' => e = .returned (.tuple #[]) ∧ u' = .returning ∧ w' = w.setCell p (.int .i64 0) := by
  refine callsD_of_wpS Try.func27 rfl fun c₀ cs hu => ?_
  apply wpS_region
  simp [wpOpsS, go_sem, recoverD, hu, Try.ntmps27]
  refine (told_nil w).mono ?_
  rintro e w' ⟨rfl, rfl⟩
  simp [go_sem, hp, hfp]
  cases c₀
  simp_all [bodyPostS, results, Try.results27]
theorem put1_thrown (p : Addr) (x : Int) (older : List PanicEntry) (w : World) (hp : w.cell? p = some (.int .i64 x)) (hfp : w.frozen? p = false) :
    CallsD Try.prog 27 #[.pointer (some p)] (.panicking ({ v := .iface 26 (.int .i64 40), recovered := false } :: older)) w fun e u' w' => e = .returned (.tuple #[]) ∧ u' = .panicking ({ v := .iface 26 (.int .i64 40), recovered := true } :: older) ∧ w' = w.setCell p (.int .i64 40) := by
  refine callsD_of_wpS Try.func27 rfl fun c₀ cs hu => ?_
  apply wpS_region
  simp [wpOpsS, go_sem, recoverD, hu, Try.ntmps27]
  refine (told_err w).mono ?_
  rintro e w' ⟨rfl, rfl⟩
  simp [go_sem, hp, hfp]
  cases c₀
  simp_all [bodyPostS, results, Try.results27]
theorem take1_idle (p : Addr) (x : Int) (w : World) (hp : w.cell? p = some (.int .i64 x)) (hfp : w.frozen? p = false) :
    CallsD Try.prog 37 #[.pointer (some p)] .returning w fun e u' w' => e = .returned (.tuple #[]) ∧ u' = .returning ∧ w' = w.setCell p (.int .i64 0) := by
  refine callsD_of_wpS Try.func37 rfl fun c₀ cs hu => ?_
  apply wpS_region
  simp [wpOpsS, go_sem, recoverD, hu, Try.ntmps37]
  refine (told_nil w).mono ?_
  rintro e w' ⟨rfl, rfl⟩
  simp [go_sem, hp, hfp]
  cases c₀
  simp_all [bodyPostS, results, Try.results37]
theorem take1_thrown (p : Addr) (x : Int) (older : List PanicEntry) (w : World) (hp : w.cell? p = some (.int .i64 x)) (hfp : w.frozen? p = false) :
    CallsD Try.prog 37 #[.pointer (some p)] (.panicking ({ v := .iface 26 (.int .i64 40), recovered := false } :: older)) w fun e u' w' => e = .returned (.tuple #[]) ∧ u' = .panicking ({ v := .iface 26 (.int .i64 40), recovered := true } :: older) ∧ w' = w.setCell p (.int .i64 40) := by
  refine callsD_of_wpS Try.func37 rfl fun c₀ cs hu => ?_
  apply wpS_region
  simp [wpOpsS, go_sem, recoverD, hu, Try.ntmps37]
  refine (told_err w).mono ?_
  rintro e w' ⟨rfl, rfl⟩
  simp [go_sem, hp, hfp]
  cases c₀
  simp_all [bodyPostS, results, Try.results37]
theorem list1_idle (p : Addr) (x : Int) (w : World) (hp : w.cell? p = some (.int .i64 x)) (hfp : w.frozen? p = false) :
    CallsD Try.prog 31 #[.pointer (some p)] .returning w fun e u' w' => e = .returned (.tuple #[]) ∧ u' = .returning ∧ w' = w.setCell p (.int .i64 0) := by
  refine callsD_of_wpS Try.func31 rfl fun c₀ cs hu => ?_
  apply wpS_region
  simp [wpOpsS, go_sem, recoverD, hu, Try.ntmps31]
  refine (told_nil w).mono ?_
  rintro e w' ⟨rfl, rfl⟩
  simp [go_sem, hp, hfp]
  cases c₀
  simp_all [bodyPostS, results, Try.results31]
theorem list1_thrown (p : Addr) (x : Int) (older : List PanicEntry) (w : World) (hp : w.cell? p = some (.int .i64 x)) (hfp : w.frozen? p = false) :
    CallsD Try.prog 31 #[.pointer (some p)] (.panicking ({ v := .iface 26 (.int .i64 40), recovered := false } :: older)) w fun e u' w' => e = .returned (.tuple #[]) ∧ u' = .panicking ({ v := .iface 26 (.int .i64 40), recovered := true } :: older) ∧ w' = w.setCell p (.int .i64 40) := by
  refine callsD_of_wpS Try.func31 rfl fun c₀ cs hu => ?_
  apply wpS_region
  simp [wpOpsS, go_sem, recoverD, hu, Try.ntmps31]
  refine (told_err w).mono ?_
  rintro e w' ⟨rfl, rfl⟩
  simp [go_sem, hp, hfp]
  cases c₀
  simp_all [bodyPostS, results, Try.results31]
theorem takeList1_idle (p : Addr) (x : Int) (w : World) (hp : w.cell? p = some (.int .i64 x)) (hfp : w.frozen? p = false) :
    CallsD Try.prog 39 #[.pointer (some p)] .returning w fun e u' w' => e = .returned (.tuple #[]) ∧ u' = .returning ∧ w' = w.setCell p (.int .i64 0) := by
  refine callsD_of_wpS Try.func39 rfl fun c₀ cs hu => ?_
  apply wpS_region
  simp [wpOpsS, go_sem, recoverD, hu, Try.ntmps39]
  refine (told_nil w).mono ?_
  rintro e w' ⟨rfl, rfl⟩
  simp [go_sem, hp, hfp]
  cases c₀
  simp_all [bodyPostS, results, Try.results39]
theorem takeList1_thrown (p : Addr) (x : Int) (older : List PanicEntry) (w : World) (hp : w.cell? p = some (.int .i64 x)) (hfp : w.frozen? p = false) :
    CallsD Try.prog 39 #[.pointer (some p)] (.panicking ({ v := .iface 26 (.int .i64 40), recovered := false } :: older)) w fun e u' w' => e = .returned (.tuple #[]) ∧ u' = .panicking ({ v := .iface 26 (.int .i64 40), recovered := true } :: older) ∧ w' = w.setCell p (.int .i64 40) := by
  refine callsD_of_wpS Try.func39 rfl fun c₀ cs hu => ?_
  apply wpS_region
  simp [wpOpsS, go_sem, recoverD, hu, Try.ntmps39]
  refine (told_err w).mono ?_
  rintro e w' ⟨rfl, rfl⟩
  simp [go_sem, hp, hfp]
  cases c₀
  simp_all [bodyPostS, results, Try.results39]
end Go.Proofs.Ytdcgmnkoomhocaa

/- Layer 8 of the program: Put and List: what each answers. -/
namespace Go.Proofs.Ytdcgmnkoomhocaa
open Go.RowKit Go.Proofs.ShM Go.Proofs.PkM
set_option linter.unusedVariables false
set_option maxHeartbeats 4000000

theorem B8.own_room {B n c : Nat} {A : Option Addr} {xs : List Int} {w : World} (h : B8.Own B w (.slice A n c) xs) : B8.Rd w A xs ∧ xs.length ≤ c ∧ c ≤ 9223372036854775807 := by
  obtain ⟨A', c', e, h1, h2, h3⟩ := h.ints
  injection e with e1 e2 e3
  subst e1 e3
  exact ⟨h3, h1, by unfold maxLen at h2; omega⟩
set_option maxRecDepth 100000 in
theorem put_thrown (A : Option Addr) (m c : Nat) (bs : List Int) (n size : Int) (w : World) (hA : B8.Rd w A bs) (hm : m = bs.length) (hc : bs.length ≤ 200000)
    (HB : Hid (∀ D d W0 W, Kp w W0 → W0.heap.size = w.heap.size + 1 → Kp W0 W → B8.Own (w.heap.size + 1) W (.slice D bs.length d) bs → Calls Try.prog 29 #[.slice D bs.length d, .int .i64 n, .int .i64 size] W (RetTh (w.heap.size + 1) W))) :
    Calls Try.prog 15 #[.slice A m c, .int .i64 n, .int .i64 size] w (RetB [] 40 0 w) := by
  subst hm
  have hmf : ∀ (fn : Fn) (first cap : Array Value) (w : World), (Instr.makeFunc fn first cap).run Try.prog w = .ok (.func fn first cap) w := fun _ _ _ _ => rfl
  obtain ⟨W0, HW0⟩ : ∃ W0, Hid (W0 = w.alloc (.cells #[.int .i64 0] 26)) := ⟨_, rfl⟩
  have hs0 : Hid (W0.heap.size = w.heap.size + 1) := by show _ = _; rw [HW0.out]; simp
  have hk0 : Hid (Kp w W0) := by show Kp _ _; rw [HW0.out]; exact Kp.alloc_ _ _
  have c0 : Hid (W0.cell? ⟨w.heap.size, 0, none⟩ = some (.int .i64 0) ∧ W0.frozen? ⟨w.heap.size, 0, none⟩ = false) := by show _ ∧ _; rw [HW0.out]; simp [go_sem]
  have HC := Lib.hid (clone8_any A c bs W0 (hA.kp hk0.out) (by omega))
  rw [HW0.out] at HC
  go_enter_defers Try.func15, Try.ntmps15
  go_wp2_with fail
  refine (Hid.out HC).mono ?_; rintro e w2 ⟨E, d, rfl, o2, k2⟩
  rw [← HW0.out] at o2 k2
  have K2 := Lib.hid k2
  have O2 := Lib.hid (show B8.Own (w.heap.size + 1) w2 (.slice E bs.length d) bs by rw [← hs0.out]; exact o2)
  have HBW := Lib.hid (HB.out E d W0 w2 hk0.out hs0.out K2.out O2.out)
  clear o2 k2 HC
  go_wp2_with fail
  refine (Hid.out HBW).mono ?_; rintro e W' ⟨rfl, k⟩
  have hW : Hid (Below (w.heap.size + 1) W0 W') := by show Below _ _ _; rw [← hs0.out] at k ⊢; exact K2.out.trans k
  clear k HBW
  go_wp2_with fail
  refine leaves_cons (f := 27) (args := #[.pointer (some ⟨w.heap.size, 0, none⟩)]) (by simp) (by simp [go_sem]) ?_
  have x1 : W'.cell? ⟨w.heap.size, 0, none⟩ = some (.int .i64 0) := by rw [hW.out.cell (by simp)]; exact c0.out.1
  refine (put1_thrown ⟨w.heap.size, 0, none⟩ 0 [] _ x1 (by rw [hW.out.frozen (by simp)]; exact c0.out.2)).mono ?_
  rintro e u' w'' ⟨rfl, rfl, rfl⟩
  have y1 : (W'.setCell ⟨w.heap.size, 0, none⟩ (.int .i64 40)).cell? ⟨w.heap.size, 0, none⟩ = some (.int .i64 40) := set_same _ x1
  have hk : Kp w (W'.setCell ⟨w.heap.size, 0, none⟩ (.int .i64 40)) := Below.setCell (hk0.out.trans (hW.out.mono (by omega))) (by simp) _
  simp [Leaves, settle, results, Try.results15, go_sem, y1]
  exact ⟨none, 0, rfl, B8.Rd.nil _ _, ⟨by simp, by omega⟩, hk⟩
set_option maxRecDepth 100000 in
theorem put_fine (A : Option Addr) (m c : Nat) (bs r : List Int) (n size : Int) (w : World) (hA : B8.Rd w A bs) (hm : m = bs.length) (hc : bs.length ≤ 200000)
    (HB : Hid (∀ D d W0 W, Kp w W0 → W0.heap.size = w.heap.size + 1 → Kp W0 W → B8.Own (w.heap.size + 1) W (.slice D bs.length d) bs → Calls Try.prog 29 #[.slice D bs.length d, .int .i64 n, .int .i64 size] W (RetWk (w.heap.size + 1) r W))) :
    Calls Try.prog 15 #[.slice A m c, .int .i64 n, .int .i64 size] w (RetB r 0 r.length w) := by
  subst hm
  have hmf : ∀ (fn : Fn) (first cap : Array Value) (w : World), (Instr.makeFunc fn first cap).run Try.prog w = .ok (.func fn first cap) w := fun _ _ _ _ => rfl
  obtain ⟨W0, HW0⟩ : ∃ W0, Hid (W0 = w.alloc (.cells #[.int .i64 0] 26)) := ⟨_, rfl⟩
  have hs0 : Hid (W0.heap.size = w.heap.size + 1) := by show _ = _; rw [HW0.out]; simp
  have hk0 : Hid (Kp w W0) := by show Kp _ _; rw [HW0.out]; exact Kp.alloc_ _ _
  have c0 : Hid (W0.cell? ⟨w.heap.size, 0, none⟩ = some (.int .i64 0) ∧ W0.frozen? ⟨w.heap.size, 0, none⟩ = false) := by show _ ∧ _; rw [HW0.out]; simp [go_sem]
  have HC := Lib.hid (clone8_any A c bs W0 (hA.kp hk0.out) (by omega))
  rw [HW0.out] at HC
  go_enter_defers Try.func15, Try.ntmps15
  go_wp2_with fail
  refine (Hid.out HC).mono ?_; rintro e w2 ⟨E, d, rfl, o2, k2⟩
  rw [← HW0.out] at o2 k2
  have K2 := Lib.hid k2
  have O2 := Lib.hid (show B8.Own (w.heap.size + 1) w2 (.slice E bs.length d) bs by rw [← hs0.out]; exact o2)
  have HBW := Lib.hid (HB.out E d W0 w2 hk0.out hs0.out K2.out O2.out)
  clear o2 k2 HC
  go_wp2_with fail
  refine (Hid.out HBW).mono ?_; rintro e W' ⟨F, f, rfl, own, k⟩
  have hW : Hid (Below (w.heap.size + 1) W0 W') := by show Below _ _ _; rw [← hs0.out] at k ⊢; exact K2.out.trans k
  have hown := Lib.hid own
  clear k own HBW
  have x1 : W'.cell? ⟨w.heap.size, 0, none⟩ = some (.int .i64 0) := by rw [hW.out.cell (by simp)]; exact c0.out.1
  have z1 : W'.frozen? ⟨w.heap.size, 0, none⟩ = false := by rw [hW.out.frozen (by simp)]; exact c0.out.2
  go_wp2
  refine leaves_cons (f := 27) (args := #[.pointer (some ⟨w.heap.size, 0, none⟩)]) (by simp) (by simp [go_sem]) ?_
  have y1 : (W'.setCell ⟨w.heap.size, 0, none⟩ (.int .i64 0)).cell? ⟨w.heap.size, 0, none⟩ = some (.int .i64 0) := set_same _ x1
  refine (put1_idle ⟨w.heap.size, 0, none⟩ 0 _ y1 (by simp [go_sem, z1])).mono ?_
  rintro e u' w'' ⟨rfl, rfl, rfl⟩
  have q1 := set_same (.int .i64 0) y1
  have hk : Kp w ((W'.setCell ⟨w.heap.size, 0, none⟩ (.int .i64 0)).setCell ⟨w.heap.size, 0, none⟩ (.int .i64 0)) := Below.setCell (Below.setCell (hk0.out.trans (hW.out.mono (by omega))) (by simp) _) (by simp) _
  obtain ⟨rd, l1, l2⟩ := B8.own_room (hown.out.of_block (w' := (W'.setCell ⟨w.heap.size, 0, none⟩ (.int .i64 0)).setCell ⟨w.heap.size, 0, none⟩ (.int .i64 0)) fun g hg => by
    have hge := hown.out.from_ hg
    rw [Below.heap_setCell _ _ _ _ (by simp; omega), Below.heap_setCell _ _ _ _ (by simp; omega)])
  simp [Leaves, settle, results, Try.results15, go_sem, q1]
  exact ⟨F, f, rfl, rd, ⟨l1, l2⟩, hk⟩
set_option maxRecDepth 100000 in
theorem list_thrown (A : Option Addr) (m c : Nat) (bs : List Int) (L : Option Addr) (p q : Nat) (size : Int) (w : World) (hA : B8.Rd w A bs) (hm : m = bs.length) (hc : bs.length ≤ 200000)
    (HB : Hid (∀ D d W0 W, Kp w W0 → W0.heap.size = w.heap.size + 1 → Kp W0 W → B8.Own (w.heap.size + 1) W (.slice D bs.length d) bs → Calls Try.prog 32 #[.slice D bs.length d, .slice L p q, .int .i64 size] W (RetTh (w.heap.size + 1) W))) :
    Calls Try.prog 16 #[.slice A m c, .slice L p q, .int .i64 size] w (RetB [] 40 0 w) := by
  subst hm
  have hmf : ∀ (fn : Fn) (first cap : Array Value) (w : World), (Instr.makeFunc fn first cap).run Try.prog w = .ok (.func fn first cap) w := fun _ _ _ _ => rfl
  obtain ⟨W0, HW0⟩ : ∃ W0, Hid (W0 = w.alloc (.cells #[.int .i64 0] 26)) := ⟨_, rfl⟩
  have hs0 : Hid (W0.heap.size = w.heap.size + 1) := by show _ = _; rw [HW0.out]; simp
  have hk0 : Hid (Kp w W0) := by show Kp _ _; rw [HW0.out]; exact Kp.alloc_ _ _
  have c0 : Hid (W0.cell? ⟨w.heap.size, 0, none⟩ = some (.int .i64 0) ∧ W0.frozen? ⟨w.heap.size, 0, none⟩ = false) := by show _ ∧ _; rw [HW0.out]; simp [go_sem]
  have HC := Lib.hid (clone8_any A c bs W0 (hA.kp hk0.out) (by omega))
  rw [HW0.out] at HC
  go_enter_defers Try.func16, Try.ntmps16
  go_wp2_with fail
  refine (Hid.out HC).mono ?_; rintro e w2 ⟨E, d, rfl, o2, k2⟩
  rw [← HW0.out] at o2 k2
  have K2 := Lib.hid k2
  have O2 := Lib.hid (show B8.Own (w.heap.size + 1) w2 (.slice E bs.length d) bs by rw [← hs0.out]; exact o2)
  have HBW := Lib.hid (HB.out E d W0 w2 hk0.out hs0.out K2.out O2.out)
  clear o2 k2 HC
  go_wp2_with fail
  refine (Hid.out HBW).mono ?_; rintro e W' ⟨rfl, k⟩
  have hW : Hid (Below (w.heap.size + 1) W0 W') := by show Below _ _ _; rw [← hs0.out] at k ⊢; exact K2.out.trans k
  clear k HBW
  go_wp2_with fail
  refine leaves_cons (f := 31) (args := #[.pointer (some ⟨w.heap.size, 0, none⟩)]) (by simp) (by simp [go_sem]) ?_
  have x1 : W'.cell? ⟨w.heap.size, 0, none⟩ = some (.int .i64 0) := by rw [hW.out.cell (by simp)]; exact c0.out.1
  refine (list1_thrown ⟨w.heap.size, 0, none⟩ 0 [] _ x1 (by rw [hW.out.frozen (by simp)]; exact c0.out.2)).mono ?_
  rintro e u' w'' ⟨rfl, rfl, rfl⟩
  have y1 : (W'.setCell ⟨w.heap.size, 0, none⟩ (.int .i64 40)).cell? ⟨w.heap.size, 0, none⟩ = some (.int .i64 40) := set_same _ x1
  have hk : Kp w (W'.setCell ⟨w.heap.size, 0, none⟩ (.int .i64 40)) := Below.setCell (hk0.out.trans (hW.out.mono (by omega))) (by simp) _
  simp [Leaves, settle, results, Try.results16, go_sem, y1]
  exact ⟨none, 0, rfl, B8.Rd.nil _ _, ⟨by simp, by omega⟩, hk⟩
set_option maxRecDepth 100000 in
theorem list_fine (A : Option Addr) (m c : Nat) (bs r : List Int) (L : Option Addr) (p q : Nat) (size : Int) (w : World) (hA : B8.Rd w A bs) (hm : m = bs.length) (hc : bs.length ≤ 200000)
    (HB : Hid (∀ D d W0 W, Kp w W0 → W0.heap.size = w.heap.size + 1 → Kp W0 W → B8.Own (w.heap.size + 1) W (.slice D bs.length d) bs → Calls Try.prog 32 #[.slice D bs.length d, .slice L p q, .int .i64 size] W (RetWk (w.heap.size + 1) r W))) :
    Calls Try.prog 16 #[.slice A m c, .slice L p q, .int .i64 size] w (RetB r 0 r.length w) := by
  subst hm
  have hmf : ∀ (fn : Fn) (first cap : Array Value) (w : World), (Instr.makeFunc fn first cap).run Try.prog w = .ok (.func fn first cap) w := fun _ _ _ _ => rfl
  obtain ⟨W0, HW0⟩ : ∃ W0, Hid (W0 = w.alloc (.cells #[.int .i64 0] 26)) := ⟨_, rfl⟩
  have hs0 : Hid (W0.heap.size = w.heap.size + 1) := by show _ = _; rw [HW0.out]; simp
  have hk0 : Hid (Kp w W0) := by show Kp _ _; rw [HW0.out]; exact Kp.alloc_ _ _
  have c0 : Hid (W0.cell? ⟨w.heap.size, 0, none⟩ = some (.int .i64 0) ∧ W0.frozen? ⟨w.heap.size, 0, none⟩ = false) := by show _ ∧ _; rw [HW0.out]; simp [go_sem]
  have HC := Lib.hid (clone8_any A c bs W0 (hA.kp hk0.out) (by omega))
  rw [HW0.out] at HC
  go_enter_defers Try.func16, Try.ntmps16
  go_wp2_with fail
  refine (Hid.out HC).mono ?_; rintro e w2 ⟨E, d, rfl, o2, k2⟩
  rw [← HW0.out] at o2 k2
  have K2 := Lib.hid k2
  have O2 := Lib.hid (show B8.Own (w.heap.size + 1) w2 (.slice E bs.length d) bs by rw [← hs0.out]; exact o2)
  have HBW := Lib.hid (HB.out E d W0 w2 hk0.out hs0.out K2.out O2.out)
  clear o2 k2 HC
  go_wp2_with fail
  refine (Hid.out HBW).mono ?_; rintro e W' ⟨F, f, rfl, own, k⟩
  have hW : Hid (Below (w.heap.size + 1) W0 W') := by show Below _ _ _; rw [← hs0.out] at k ⊢; exact K2.out.trans k
  have hown := Lib.hid own
  clear k own HBW
  have x1 : W'.cell? ⟨w.heap.size, 0, none⟩ = some (.int .i64 0) := by rw [hW.out.cell (by simp)]; exact c0.out.1
  have z1 : W'.frozen? ⟨w.heap.size, 0, none⟩ = false := by rw [hW.out.frozen (by simp)]; exact c0.out.2
  go_wp2
  refine leaves_cons (f := 31) (args := #[.pointer (some ⟨w.heap.size, 0, none⟩)]) (by simp) (by simp [go_sem]) ?_
  have y1 : (W'.setCell ⟨w.heap.size, 0, none⟩ (.int .i64 0)).cell? ⟨w.heap.size, 0, none⟩ = some (.int .i64 0) := set_same _ x1
  refine (list1_idle ⟨w.heap.size, 0, none⟩ 0 _ y1 (by simp [go_sem, z1])).mono ?_
  rintro e u' w'' ⟨rfl, rfl, rfl⟩
  have q1 := set_same (.int .i64 0) y1
  have hk : Kp w ((W'.setCell ⟨w.heap.size, 0, none⟩ (.int .i64 0)).setCell ⟨w.heap.size, 0, none⟩ (.int .i64 0)) := Below.setCell (Below.setCell (hk0.out.trans (hW.out.mono (by omega))) (by simp) _) (by simp) _
  obtain ⟨rd, l1, l2⟩ := B8.own_room (hown.out.of_block (w' := (W'.setCell ⟨w.heap.size, 0, none⟩ (.int .i64 0)).setCell ⟨w.heap.size, 0, none⟩ (.int .i64 0)) fun g hg => by
    have hge := hown.out.from_ hg
    rw [Below.heap_setCell _ _ _ _ (by simp; omega), Below.heap_setCell _ _ _ _ (by simp; omega)])
  simp [Leaves, settle, results, Try.results16, go_sem, q1]
  exact ⟨F, f, rfl, rd, ⟨l1, l2⟩, hk⟩
end Go.Proofs.Ytdcgmnkoomhocaa

/- Layer 8 of the program: Take and TakeList: what each answers. -/
namespace Go.Proofs.Ytdcgmnkoomhocaa
open Go.RowKit Go.Proofs.ShM Go.Proofs.PkM
set_option linter.unusedVariables false
set_option maxHeartbeats 4000000

set_option maxRecDepth 100000 in
theorem take_thrown (A : Option Addr) (m c : Nat) (bs : List Int) (size : Int) (w : World) (hA : B8.Rd w A bs) (hm : m = bs.length)
    (HB : Hid (∀ W, Kp w W → Calls Try.prog 38 #[.slice A bs.length c, .int .i64 size] W (RetTh W.heap.size W))) :
    Calls Try.prog 20 #[.slice A m c, .int .i64 size] w (RetNB 0 [] 40 0 w) := by
  subst hm
  have hmf : ∀ (fn : Fn) (first cap : Array Value) (w : World), (Instr.makeFunc fn first cap).run Try.prog w = .ok (.func fn first cap) w := fun _ _ _ _ => rfl
  obtain ⟨W0, HW0⟩ : ∃ W0, Hid (W0 = w.alloc (.cells #[.int .i64 0] 26)) := ⟨_, rfl⟩
  have hs0 : Hid (W0.heap.size = w.heap.size + 1) := by show _ = _; rw [HW0.out]; simp
  have hk0 : Hid (Kp w W0) := by show Kp _ _; rw [HW0.out]; exact Kp.alloc_ _ _
  have c0 : Hid (W0.cell? ⟨w.heap.size, 0, none⟩ = some (.int .i64 0) ∧ W0.frozen? ⟨w.heap.size, 0, none⟩ = false) := by show _ ∧ _; rw [HW0.out]; simp [go_sem]
  have HBW := Lib.hid (HB.out W0 hk0.out)
  rw [HW0.out] at HBW
  have hA0 := Lib.hid (hA.kp hk0.out)
  clear HB
  go_enter_defers Try.func20, Try.ntmps20
  go_wp2_with fail
  refine (Hid.out HBW).mono ?_; rintro e W' ⟨rfl, k⟩
  rw [← HW0.out] at k
  have hW : Hid (Below (w.heap.size + 1) W0 W') := by show Below _ _ _; rw [← hs0.out]; exact k
  clear k HBW
  go_wp2_with fail
  refine leaves_cons (f := 37) (args := #[.pointer (some ⟨w.heap.size, 0, none⟩)]) (by simp) (by simp [go_sem]) ?_
  have x1 : W'.cell? ⟨w.heap.size, 0, none⟩ = some (.int .i64 0) := by rw [hW.out.cell (by simp)]; exact c0.out.1
  refine (take1_thrown ⟨w.heap.size, 0, none⟩ 0 [] _ x1 (by rw [hW.out.frozen (by simp)]; exact c0.out.2)).mono ?_
  rintro e u' w'' ⟨rfl, rfl, rfl⟩
  have y1 : (W'.setCell ⟨w.heap.size, 0, none⟩ (.int .i64 40)).cell? ⟨w.heap.size, 0, none⟩ = some (.int .i64 40) := set_same _ x1
  have hk : Kp w (W'.setCell ⟨w.heap.size, 0, none⟩ (.int .i64 40)) := Below.setCell (hk0.out.trans (hW.out.mono (by omega))) (by simp) _
  simp [Leaves, settle, results, Try.results20, go_sem, y1]
  exact ⟨none, 0, rfl, B8.Rd.nil _ _, ⟨by simp, by omega⟩, hk⟩
set_option maxRecDepth 100000 in
theorem take_fine (A : Option Addr) (m c : Nat) (bs : List Int) (v : Int) (r : List Int) (size : Int) (w : World) (hA : B8.Rd w A bs) (hm : m = bs.length) (hr : r.length ≤ 200000)
    (HB : Hid (∀ W, Kp w W → Calls Try.prog 38 #[.slice A bs.length c, .int .i64 size] W (RetR A bs v r W))) :
    Calls Try.prog 20 #[.slice A m c, .int .i64 size] w (RetNB v r 0 r.length w) := by
  subst hm
  have hmf : ∀ (fn : Fn) (first cap : Array Value) (w : World), (Instr.makeFunc fn first cap).run Try.prog w = .ok (.func fn first cap) w := fun _ _ _ _ => rfl
  obtain ⟨W0, HW0⟩ : ∃ W0, Hid (W0 = w.alloc (.cells #[.int .i64 0] 26)) := ⟨_, rfl⟩
  have hs0 : Hid (W0.heap.size = w.heap.size + 1) := by show _ = _; rw [HW0.out]; simp
  have hk0 : Hid (Kp w W0) := by show Kp _ _; rw [HW0.out]; exact Kp.alloc_ _ _
  have c0 : Hid (W0.cell? ⟨w.heap.size, 0, none⟩ = some (.int .i64 0) ∧ W0.frozen? ⟨w.heap.size, 0, none⟩ = false) := by show _ ∧ _; rw [HW0.out]; simp [go_sem]
  have HBW := Lib.hid (HB.out W0 hk0.out)
  rw [HW0.out] at HBW
  have hA0 := Lib.hid (hA.kp hk0.out)
  clear HB
  go_enter_defers Try.func20, Try.ntmps20
  go_wp2_with fail
  refine (Hid.out HBW).mono ?_; rintro e W1 ⟨D, d, rfl, i, _, _, k⟩
  rw [← HW0.out] at k
  have K1 := Lib.hid k
  have HC := Lib.hid (clone8_any D d r W1 (i W1 (hA0.out.kp K1.out)) (by omega))
  clear k HBW i
  go_wp2_with fail
  refine (Hid.out HC).mono ?_; rintro e W' ⟨F, f, rfl, own, k⟩
  have hW : Hid (Below (w.heap.size + 1) W0 W') := by show Below _ _ _; rw [← hs0.out]; exact K1.out.tr k
  have hown := Lib.hid own
  clear own k HC
  have x1 : W'.cell? ⟨w.heap.size, 0, none⟩ = some (.int .i64 0) := by rw [hW.out.cell (by simp)]; exact c0.out.1
  have z1 : W'.frozen? ⟨w.heap.size, 0, none⟩ = false := by rw [hW.out.frozen (by simp)]; exact c0.out.2
  go_wp2
  refine leaves_cons (f := 37) (args := #[.pointer (some ⟨w.heap.size, 0, none⟩)]) (by simp) (by simp [go_sem]) ?_
  have y1 : (W'.setCell ⟨w.heap.size, 0, none⟩ (.int .i64 0)).cell? ⟨w.heap.size, 0, none⟩ = some (.int .i64 0) := set_same _ x1
  refine (take1_idle ⟨w.heap.size, 0, none⟩ 0 _ y1 (by simp [go_sem, z1])).mono ?_
  rintro e u' w'' ⟨rfl, rfl, rfl⟩
  have q1 := set_same (.int .i64 0) y1
  have hk : Kp w ((W'.setCell ⟨w.heap.size, 0, none⟩ (.int .i64 0)).setCell ⟨w.heap.size, 0, none⟩ (.int .i64 0)) := Below.setCell (Below.setCell (hk0.out.trans (hW.out.mono (by omega))) (by simp) _) (by simp) _
  have hh1 : w.heap.size + 1 ≤ W1.heap.size := by rw [← hs0.out]; exact K1.out.size
  obtain ⟨rd, l1, l2⟩ := B8.own_room (hown.out.of_block (w' := (W'.setCell ⟨w.heap.size, 0, none⟩ (.int .i64 0)).setCell ⟨w.heap.size, 0, none⟩ (.int .i64 0)) fun g hg => by
    have hge := hown.out.from_ hg
    rw [Below.heap_setCell _ _ _ _ (by simp; omega), Below.heap_setCell _ _ _ _ (by simp; omega)])
  simp [Leaves, settle, results, Try.results20, go_sem, q1]
  exact ⟨F, f, rfl, rd, ⟨l1, l2⟩, hk⟩
set_option maxRecDepth 100000 in
theorem takeList_thrown (A : Option Addr) (m c : Nat) (bs : List Int) (size : Int) (w : World) (hA : B8.Rd w A bs) (hm : m = bs.length)
    (HB : Hid (∀ W, Kp w W → Calls Try.prog 40 #[.slice A bs.length c, .int .i64 size] W (RetTh W.heap.size W))) :
    Calls Try.prog 21 #[.slice A m c, .int .i64 size] w (RetLB [] [] 40 0 0 w) := by
  subst hm
  have hmf : ∀ (fn : Fn) (first cap : Array Value) (w : World), (Instr.makeFunc fn first cap).run Try.prog w = .ok (.func fn first cap) w := fun _ _ _ _ => rfl
  obtain ⟨W0, HW0⟩ : ∃ W0, Hid (W0 = w.alloc (.cells #[.int .i64 0] 26)) := ⟨_, rfl⟩
  have hs0 : Hid (W0.heap.size = w.heap.size + 1) := by show _ = _; rw [HW0.out]; simp
  have hk0 : Hid (Kp w W0) := by show Kp _ _; rw [HW0.out]; exact Kp.alloc_ _ _
  have c0 : Hid (W0.cell? ⟨w.heap.size, 0, none⟩ = some (.int .i64 0) ∧ W0.frozen? ⟨w.heap.size, 0, none⟩ = false) := by show _ ∧ _; rw [HW0.out]; simp [go_sem]
  have HBW := Lib.hid (HB.out W0 hk0.out)
  rw [HW0.out] at HBW
  have hA0 := Lib.hid (hA.kp hk0.out)
  clear HB
  go_enter_defers Try.func21, Try.ntmps21
  go_wp2_with fail
  refine (Hid.out HBW).mono ?_; rintro e W' ⟨rfl, k⟩
  rw [← HW0.out] at k
  have hW : Hid (Below (w.heap.size + 1) W0 W') := by show Below _ _ _; rw [← hs0.out]; exact k
  clear k HBW
  go_wp2_with fail
  refine leaves_cons (f := 39) (args := #[.pointer (some ⟨w.heap.size, 0, none⟩)]) (by simp) (by simp [go_sem]) ?_
  have x1 : W'.cell? ⟨w.heap.size, 0, none⟩ = some (.int .i64 0) := by rw [hW.out.cell (by simp)]; exact c0.out.1
  refine (takeList1_thrown ⟨w.heap.size, 0, none⟩ 0 [] _ x1 (by rw [hW.out.frozen (by simp)]; exact c0.out.2)).mono ?_
  rintro e u' w'' ⟨rfl, rfl, rfl⟩
  have y1 : (W'.setCell ⟨w.heap.size, 0, none⟩ (.int .i64 40)).cell? ⟨w.heap.size, 0, none⟩ = some (.int .i64 40) := set_same _ x1
  have hk : Kp w (W'.setCell ⟨w.heap.size, 0, none⟩ (.int .i64 40)) := Below.setCell (hk0.out.trans (hW.out.mono (by omega))) (by simp) _
  simp [Leaves, settle, results, Try.results21, go_sem, y1]
  exact ⟨none, 0, none, 0, rfl, Rd.nil _ _, B8.Rd.nil _ _, ⟨by simp, by omega⟩, hk⟩
set_option maxRecDepth 100000 in
theorem takeList_fine (A : Option Addr) (m c : Nat) (bs : List Int) (v r : List Int) (size : Int) (w : World) (hA : B8.Rd w A bs) (hm : m = bs.length) (hr : r.length ≤ 200000)
    (HB : Hid (∀ W, Kp w W → Calls Try.prog 40 #[.slice A bs.length c, .int .i64 size] W (fun e W' => ∃ B b D d, e = .returned (.tuple #[.slice B v.length b, .slice D r.length d]) ∧ Own W.heap.size W' (.slice B v.length b) v ∧ (∀ V, B8.Rd V A bs → B8.Rd V D r) ∧ r.length ≤ d ∧ d ≤ 9223372036854775807 ∧ Kp W W'))) :
    Calls Try.prog 21 #[.slice A m c, .int .i64 size] w (RetLB v r 0 v.length r.length w) := by
  subst hm
  have hmf : ∀ (fn : Fn) (first cap : Array Value) (w : World), (Instr.makeFunc fn first cap).run Try.prog w = .ok (.func fn first cap) w := fun _ _ _ _ => rfl
  obtain ⟨W0, HW0⟩ : ∃ W0, Hid (W0 = w.alloc (.cells #[.int .i64 0] 26)) := ⟨_, rfl⟩
  have hs0 : Hid (W0.heap.size = w.heap.size + 1) := by show _ = _; rw [HW0.out]; simp
  have hk0 : Hid (Kp w W0) := by show Kp _ _; rw [HW0.out]; exact Kp.alloc_ _ _
  have c0 : Hid (W0.cell? ⟨w.heap.size, 0, none⟩ = some (.int .i64 0) ∧ W0.frozen? ⟨w.heap.size, 0, none⟩ = false) := by show _ ∧ _; rw [HW0.out]; simp [go_sem]
  have HBW := Lib.hid (HB.out W0 hk0.out)
  rw [HW0.out] at HBW
  have hA0 := Lib.hid (hA.kp hk0.out)
  clear HB
  go_enter_defers Try.func21, Try.ntmps21
  go_wp2_with fail
  refine (Hid.out HBW).mono ?_; rintro e W1 ⟨P, b, D, d, rfl, ov, i, _, _, k⟩
  rw [← HW0.out] at k
  rw [← HW0.out] at ov
  have OV := Lib.hid ov
  clear ov
  have K1 := Lib.hid k
  have HC := Lib.hid (clone8_any D d r W1 (i W1 (hA0.out.kp K1.out)) (by omega))
  clear k HBW i
  go_wp2_with fail
  refine (Hid.out HC).mono ?_; rintro e W' ⟨F, f, rfl, own, k⟩
  have hW : Hid (Below (w.heap.size + 1) W0 W') := by show Below _ _ _; rw [← hs0.out]; exact K1.out.tr k
  have hown := Lib.hid own
  have OV2 := Lib.hid (OV.out.kp k)
  clear own k HC
  have x1 : W'.cell? ⟨w.heap.size, 0, none⟩ = some (.int .i64 0) := by rw [hW.out.cell (by simp)]; exact c0.out.1
  have z1 : W'.frozen? ⟨w.heap.size, 0, none⟩ = false := by rw [hW.out.frozen (by simp)]; exact c0.out.2
  go_wp2
  refine leaves_cons (f := 39) (args := #[.pointer (some ⟨w.heap.size, 0, none⟩)]) (by simp) (by simp [go_sem]) ?_
  have y1 : (W'.setCell ⟨w.heap.size, 0, none⟩ (.int .i64 0)).cell? ⟨w.heap.size, 0, none⟩ = some (.int .i64 0) := set_same _ x1
  refine (takeList1_idle ⟨w.heap.size, 0, none⟩ 0 _ y1 (by simp [go_sem, z1])).mono ?_
  rintro e u' w'' ⟨rfl, rfl, rfl⟩
  have q1 := set_same (.int .i64 0) y1
  have hk : Kp w ((W'.setCell ⟨w.heap.size, 0, none⟩ (.int .i64 0)).setCell ⟨w.heap.size, 0, none⟩ (.int .i64 0)) := Below.setCell (Below.setCell (hk0.out.trans (hW.out.mono (by omega))) (by simp) _) (by simp) _
  have hh1 : w.heap.size + 1 ≤ W1.heap.size := by rw [← hs0.out]; exact K1.out.size
  obtain ⟨rd, l1, l2⟩ := B8.own_room (hown.out.of_block (w' := (W'.setCell ⟨w.heap.size, 0, none⟩ (.int .i64 0)).setCell ⟨w.heap.size, 0, none⟩ (.int .i64 0)) fun g hg => by
    have hge := hown.out.from_ hg
    rw [Below.heap_setCell _ _ _ _ (by simp; omega), Below.heap_setCell _ _ _ _ (by simp; omega)])
  obtain ⟨_, _, ev, rv⟩ := (OV2.out.of_block (w' := (W'.setCell ⟨w.heap.size, 0, none⟩ (.int .i64 0)).setCell ⟨w.heap.size, 0, none⟩ (.int .i64 0)) fun g hg => by
    have hge := OV2.out.from_ hg
    rw [hs0.out] at hge
    rw [Below.heap_setCell _ _ _ _ (by simp; omega), Below.heap_setCell _ _ _ _ (by simp; omega)]).form
  injection ev with ev1 ev2 ev3
  rw [← ev1] at rv
  simp [Leaves, settle, results, Try.results21, go_sem, q1]
  exact ⟨P, b, F, f, rfl, rv, rd, ⟨l1, l2⟩, hk⟩
end Go.Proofs.Ytdcgmnkoomhocaa

/- Layer 8 of the program: the four calls answer what the document says. -/
namespace Go.Proofs.Ytdcgmnkoomhocaa
open Go.RowKit Go.Proofs.ShM Go.Proofs.PkM
set_option linter.unusedVariables false

theorem to_t {B : Nat} {W W' : World} {e : Ending} (h : e = thrown40 ∧ W' = W) : RetTh B W e W' := ⟨h.1, by rw [h.2]; exact Below.refl _ _⟩
theorem kp_of {w W0 W : World} (h : W0.heap.size = w.heap.size + 1) (k : Kp W0 W) {W' : World} (b : Below (w.heap.size + 1) W W') : Kp W0 W' := by
  rw [← h] at b
  exact k.trans b
theorem pkc : PkC where
  put := by
    intro A c m bs n size r err k W hR hc1 hc2 hl hb hn hs hm hv hk
    unfold putV at hv
    by_cases h : mayB n size = true
    · rw [if_pos h] at hv
      injection hv with h1 h2
      subst h1 h2 hk
      exact put_fine A m c bs _ n size W hR hm hl (fun D d W0 W1 k0 e0 k1 o => write_yes _ D _ d bs n size W1 o (by rw [← e0]; exact k1.size) (by omega) h)
    · rw [if_neg h] at hv
      injection hv with h1 h2
      subst h1 h2 hk
      exact put_thrown A m c bs n size W hR hm hl (fun D d W0 W1 k0 e0 k1 o => (write_no D _ d n size W1 (by simpa using h)).mono fun _ _ => to_t)
  take := by
    intro A c m bs size v r err k W hR hc1 hc2 hl hb hs hm hv hk
    unfold takeV at hv
    by_cases h : sizB size = true ∧ size ≤ bs.length
    · rw [if_pos h] at hv
      injection hv with h1 h2
      injection h2 with h2 h3
      subst h1 h2 h3 hk
      exact take_fine A m c bs _ _ size W hR hm (by rw [List.length_drop]; omega) (fun W1 k1 => read_yes A _ c bs size W1 (hR.kp k1) hc1 hc2 hb rfl h.1 h.2 hl)
    · rw [if_neg h] at hv
      injection hv with h1 h2
      injection h2 with h2 h3
      subst h1 h2 h3 hk
      refine take_thrown A m c bs size W hR hm (fun W1 k1 => ?_)
      by_cases h1 : sizB size = true
      · exact (read_short A _ c size W1 h1 (fun g => h ⟨h1, g⟩)).mono fun _ _ => to_t
      · exact (read_size A _ c size W1 (by simpa using h1)).mono fun _ _ => to_t
  list := by
    intro A B c d m p bs l size r err k W hR hc1 hc2 hl hb hL hl2 hi hs hm hp hv hk
    unfold listV at hv
    by_cases h : l.length ≤ 255 ∧ sizB size = true ∧ ∀ n ∈ l, mayB n size = true
    · rw [if_pos h] at hv
      injection hv with h1 h2
      subst h1 h2 hk
      exact list_fine A m c bs _ B p d size W hR hm hl (fun D d' W0 W1 k0 e0 k1 o => writeList_yes _ D B _ d' p d bs l size W1 o (by rw [← e0]; exact k1.size) hl (fun W' b => (hL.kp k0).kp (kp_of e0 k1 b)) hp h.1 h.2.1 h.2.2)
    · rw [if_neg h] at hv
      injection hv with h1 h2
      subst h1 h2 hk
      refine list_thrown A m c bs B p d size W hR hm hl (fun D d' W0 W1 k0 e0 k1 o => ?_)
      by_cases h1 : sizB size = true
      · by_cases h2 : l.length ≤ 255
        · exact writeList_bad _ D B _ d' p d bs l size W1 o (by rw [← e0]; exact k1.size) hl (fun W' b => (hL.kp k0).kp (kp_of e0 k1 b)) hp h2 h1 (fun g => h ⟨h2, h1, g⟩)
        · exact writeList_long _ D B _ d' p d l size W1 hp h2 hl2 h1
      · exact writeList_size _ D B _ d' p d size W1 (by simpa using h1)
  takeList := by
    intro A c m bs size v r err j k W hR hc1 hc2 hl hb hs hm hv hj hk
    unfold takeListV at hv
    by_cases h : sizB size = true ∧ 1 ≤ bs.length
    · rw [if_pos h] at hv
      have HL := fun W1 k1 => readList_any A _ c bs size W1 (hR.kp k1) hc1 hc2 hb rfl h.1 h.2 hl
      cases e : manyV size.toNat (bs.getD 0 0).toNat (bs.drop 1) with
      | none =>
        rw [e] at hv HL
        injection hv with h1 h2
        injection h2 with h2 h3
        subst h1 h2 h3 hj hk
        refine takeList_thrown A m c bs size W hR hm (fun W1 k1 => (HL W1 k1).mono fun _ _ g => ?_)
        rcases g with g | ⟨v, r, g, _⟩
        · exact g.2
        · cases g
      | some q =>
        obtain ⟨q1, q2⟩ := q
        have hq : q2.length ≤ 200000 := by
          have hd := (many_back h.1 (fun x hx => hb x (List.mem_of_mem_drop hx)) e).2.2.2
          have := congrArg List.length hd
          rw [List.length_append, List.length_drop] at this
          omega
        rw [e] at hv HL
        injection hv with h1 h2
        injection h2 with h2 h3
        subst h1 h2 h3 hj hk
        refine takeList_fine A m c bs _ _ size W hR hm hq (fun W1 k1 => (HL W1 k1).mono fun _ _ g => ?_)
        rcases g with g | ⟨v, r, g, g2⟩
        · cases g.1
        · injection g with g
          injection g with g3 g4
          subst g3 g4
          exact g2
    · rw [if_neg h] at hv
      injection hv with h1 h2
      injection h2 with h2 h3
      subst h1 h2 h3 hj hk
      refine takeList_thrown A m c bs size W hR hm (fun W1 k1 => ?_)
      by_cases h1 : sizB size = true
      · exact (readList_nil A _ c size W1 h1 (by have : ¬ 1 ≤ bs.length := fun g => h ⟨h1, g⟩; omega)).mono fun _ _ => to_t
      · exact (readList_size A _ c size W1 (by simpa using h1)).mono fun _ _ => to_t
end Go.Proofs.Ytdcgmnkoomhocaa
