/- Plain facts of layer 8's laws: bytes as strings, how they stand, what is cut, many numbers, numbers in more bytes. -/
import Derived.Test.YtngdblojglcfpaaPkM
import Derived.Lib.Bytes
import GoSem.Op.String
namespace Go.Proofs.PkM
open Go

/-! ### Bytes as strings -/
theorem u8_inj {a b : Int} (ha : 0 ≤ a ∧ a ≤ 255) (hb : 0 ≤ b ∧ b ≤ 255) (h : UInt8.ofNat a.toNat = UInt8.ofNat b.toNat) : a = b := by
  have e := congrArg UInt8.toNat h
  rw [UInt8.toNat_ofNat_of_lt' (by show a.toNat < 256; omega), UInt8.toNat_ofNat_of_lt' (by show b.toNat < 256; omega)] at e
  omega
theorem str_inj : ∀ {a b : List Int}, Bytes a → Bytes b → Lib.bytesOf a = Lib.bytesOf b → a = b
  | [], [], _, _, _ => rfl
  | [], _ :: _, _, _, h => by cases h
  | _ :: _, [], _, _, h => by cases h
  | x :: a, y :: b, ha, hb, h => by
    injection h with h1 h2
    rw [u8_inj (ha x (by simp)) (hb y (by simp)) h1, str_inj (fun z hz => ha z (by simp [hz])) (fun z hz => hb z (by simp [hz])) h2]
theorem str_eq {a b : List Int} (ha : Bytes a) (hb : Bytes b) {r : Bool} (h : (a == b) = r) : ((strOfNums a).toList == (strOfNums b).toList) = r := by
  rw [Lib.strOfNums_toList, Lib.strOfNums_toList]
  by_cases c : a = b
  · subst c; simp at h ⊢; exact h
  · have : Lib.bytesOf a ≠ Lib.bytesOf b := fun e => c (str_inj ha hb e)
    have e1 : (a == b) = false := by simpa using c
    rw [e1] at h
    rw [← h]
    simpa using this
theorem str_add (a b : List Int) : strOfNums a ++ strOfNums b = strOfNums (a ++ b) := by
  apply ByteArray.ext
  apply Array.toList_inj.1
  simp [strOfNums]

/-! ### How they stand -/
theorem fold_val (bs : List Int) : ∀ u : Int, bs.foldl (fun u b => u * 256 + b) u = u * pw bs.length + valL bs := by
  induction bs with
  | nil => intro u; show u = u * 1 + 0; omega
  | cons b bs ih =>
    intro u
    show bs.foldl _ (u * 256 + b) = u * (256 * pw bs.length) + bs.foldl _ (0 * 256 + b)
    rw [ih, ih]
    have e1 : (u * 256 + b) * pw bs.length = u * (256 * pw bs.length) + b * pw bs.length := by rw [Int.add_mul, Int.mul_assoc]
    have e2 : (0 * 256 + b) * pw bs.length = b * pw bs.length := by rw [Int.zero_mul, Int.zero_add]
    omega
theorem val_cons (b : Int) (bs : List Int) : valL (b :: bs) = b * pw bs.length + valL bs := by
  show bs.foldl _ (0 * 256 + b) = _
  rw [fold_val, Int.zero_mul, Int.zero_add]
theorem less_val : ∀ {x y : List Int}, x.length = y.length → Bytes x → Bytes y → Op.bytesLess (Lib.bytesOf x) (Lib.bytesOf y) = decide (valL x < valL y)
  | [], [], _, _, _ => by simp [Lib.bytesOf, Op.bytesLess]
  | [], _ :: _, h, _, _ => by simp at h
  | _ :: _, [], h, _, _ => by simp at h
  | a :: x, b :: y, h, hx, hy => by
    have hl : x.length = y.length := by simpa using h
    have ih := less_val hl (fun z hz => hx z (by simp [hz])) (fun z hz => hy z (by simp [hz]))
    have ra := hx a (by simp)
    have rb := hy b (by simp)
    have vx := val_range _ x rfl fun z hz => hx z (by simp [hz])
    have vy := val_range _ y rfl fun z hz => hy z (by simp [hz])
    rw [← hl] at vy
    show (decide (UInt8.ofNat a.toNat < UInt8.ofNat b.toNat) || (UInt8.ofNat a.toNat == UInt8.ofNat b.toNat && Op.bytesLess (Lib.bytesOf x) (Lib.bytesOf y))) = _
    rw [ih, val_cons, val_cons, ← hl]
    have e1 : (UInt8.ofNat a.toNat < UInt8.ofNat b.toNat) ↔ a < b := by
      rw [UInt8.lt_iff_toNat_lt, UInt8.toNat_ofNat_of_lt' (by show a.toNat < 256; omega), UInt8.toNat_ofNat_of_lt' (by show b.toNat < 256; omega)]
      omega
    generalize pw x.length = P at *
    by_cases c : a < b
    · have h1 : valL x < P := vx.2
      have h2 : (a + 1) * P ≤ b * P := Int.mul_le_mul_of_nonneg_right (by omega) (by omega)
      rw [Int.add_mul, Int.one_mul] at h2
      have h3 : a * P + valL x < b * P + valL y := by omega
      simp [e1, c, h3]
    · by_cases d : a = b
      · subst d
        have h3 : (a * P + valL x < a * P + valL y) ↔ valL x < valL y := by omega
        simp [e1, h3]
      · have h2 : (b + 1) * P ≤ a * P := Int.mul_le_mul_of_nonneg_right (by omega) (by omega)
        rw [Int.add_mul, Int.one_mul] at h2
        have h3 : ¬ (a * P + valL x < b * P + valL y) := by omega
        have h4 : ¬ UInt8.ofNat a.toNat = UInt8.ofNat b.toNat := fun e => d (u8_inj ra rb e)
        simp [e1, c, h3, h4]
theorem less_ahead (b x y : List Int) : Op.bytesLess (Lib.bytesOf (b ++ x)) (Lib.bytesOf (b ++ y)) = Op.bytesLess (Lib.bytesOf x) (Lib.bytesOf y) := by
  induction b with
  | nil => rfl
  | cons z b ih =>
    show (decide (UInt8.ofNat z.toNat < UInt8.ofNat z.toNat) || (UInt8.ofNat z.toNat == UInt8.ofNat z.toNat && Op.bytesLess (Lib.bytesOf (b ++ x)) (Lib.bytesOf (b ++ y)))) = _
    rw [ih]
    simp
/-- PackOrder. -/
theorem put_order {b : List Int} {m n size : Int} (hm : mayB m size = true) (hn : mayB n size = true) (m0 : 0 ≤ m) (n0 : 0 ≤ n) (mi : m ≤ 9223372036854775807) (ni : n ≤ 9223372036854775807) :
    Op.bytesLess (strOfNums (b ++ byteL m size.toNat)).toList (strOfNums (b ++ byteL n size.toNat)).toList = decide (m < n) := by
  rw [Lib.strOfNums_toList, Lib.strOfNums_toList, less_ahead, less_val (by rw [byte_len, byte_len]) (byte_bytes _ _) (byte_bytes _ _), val_byte, val_byte]
  have key : ∀ x : Int, mayB x size = true → 0 ≤ x → x ≤ 9223372036854775807 → x % pw size.toNat = x := fun x hx x0 xi => by
    unfold mayB at hx
    simp at hx
    rcases hx with (⟨rfl, hx⟩ | ⟨rfl, hx⟩) | rfl
    · have h1 : pw (1 : Int).toNat = 256 := by decide
      rw [h1]; omega
    · have h1 : pw (2 : Int).toNat = 65536 := by decide
      rw [h1]; omega
    · have h1 : pw (8 : Int).toNat = 18446744073709551616 := by decide
      rw [h1]; omega
  rw [key m hm m0 mi, key n hn n0 ni]

/-! ### What is cut -/
theorem many_short {k : Nat} : ∀ {m : Nat} {b : List Int}, b.length < k * m → manyV k m b = none := by
  intro m
  induction m with
  | zero => intro b h; simp at h
  | succ m ih =>
    intro b h
    rw [manyV]
    by_cases c : b.length < k
    · rw [if_pos c]
    · rw [if_neg c, ih (by rw [List.length_drop]; rw [Nat.mul_succ] at h; omega)]
      rfl
theorem list_is {b l c : List Int} {size : Int} (h : listV b l size = (c, 0)) : l.length ≤ 255 ∧ sizB size = true ∧ (∀ n ∈ l, mayB n size = true) ∧ c = b ++ [(l.length : Int)] ++ allB l size.toNat := by
  unfold listV at h
  split at h
  · rename_i g; injection h with h _; exact ⟨g.1, g.2.1, g.2.2, h.symm⟩
  · injection h with _ h; cases h
theorem list_len {l c : List Int} {size : Int} (h : listV [] l size = (c, 0)) : (c.length : Int) = 1 + size * l.length := by
  obtain ⟨_, h2, _, rfl⟩ := list_is h
  have hs : (size.toNat : Int) = size := by rcases siz_cases h2 with rfl | rfl | rfl <;> rfl
  rw [List.length_append, all_len]
  show ((1 + size.toNat * l.length : Nat) : Int) = _
  push_cast
  rw [hs]
/-- PackCuts. -/
theorem list_cut {l c : List Int} {size : Int} (h : listV [] l size = (c, 0)) {k : Nat} (hk : k < c.length) : takeListV (c.take k) size = ([], [], 40) := by
  have hl := list_len h
  obtain ⟨_, h2, _, rfl⟩ := list_is h
  have hs : (size.toNat : Int) = size := by rcases siz_cases h2 with rfl | rfl | rfl <;> rfl
  unfold takeListV
  cases k with
  | zero => rw [if_neg (by simp)]
  | succ k =>
    have e1 : (([] ++ [(l.length : Int)] ++ allB l size.toNat).take (k + 1)).getD 0 0 = (l.length : Int) := rfl
    have e2 : (([] ++ [(l.length : Int)] ++ allB l size.toNat).take (k + 1)).drop 1 = (allB l size.toNat).take k := rfl
    rw [if_pos ⟨h2, by simp⟩, e1, e2, Int.toNat_natCast, many_short]
    rw [List.length_take]
    have hc : ([] ++ [(l.length : Int)] ++ allB l size.toNat).length = 1 + size.toNat * l.length := by
      rw [List.length_append, all_len]; rfl
    rw [hc] at hk
    omega

/-! ### Many numbers -/
theorem all_snoc (l : List Int) (n : Int) (k : Nat) : allB (l ++ [n]) k = allB l k ++ byteL n k := by unfold allB; simp
/-- PackMany: where one is none of the size, there is no list. -/
theorem list_none {l b : List Int} {size n : Int} (hn : n ∈ l) (h : mayB n size = false) : listV b l size = ([], 40) := by
  unfold listV
  rw [if_neg]
  rintro ⟨_, _, g⟩
  rw [g n hn] at h
  cases h
theorem take_all {n size : Int} {l : List Int} (h : mayB n size = true) (hn : -9223372036854775808 ≤ n ∧ n ≤ 9223372036854775807) : takeV (allB (n :: l) size.toNat) size = (n, allB l size.toNat, 0) := put_take h hn

/-! ### In more bytes -/
theorem wide_one {n : Int} (h : 0 ≤ n ∧ n ≤ 255) : byteL n 8 = List.replicate 7 0 ++ byteL n 1 := by
  have e : ∀ k, byteL 0 k = List.replicate k 0 := fun k => by
    induction k with
    | zero => rfl
    | succ k ih => rw [byteL, show (0 : Int) / 256 = 0 by decide, show (0 : Int) % 256 = 0 by decide, ih]; exact List.replicate_succ'.symm
  show byteL (n / 256) 7 ++ [n % 256] = _
  rw [show n / 256 = 0 by omega, e]
  rfl
theorem wide_two {n : Int} (h : 0 ≤ n ∧ n ≤ 65535) : byteL n 8 = List.replicate 6 0 ++ byteL n 2 := by
  have e : ∀ k, byteL 0 k = List.replicate k 0 := fun k => by
    induction k with
    | zero => rfl
    | succ k ih => rw [byteL, show (0 : Int) / 256 = 0 by decide, show (0 : Int) % 256 = 0 by decide, ih]; exact List.replicate_succ'.symm
  show (byteL (n / 256 / 256) 6 ++ [n / 256 % 256]) ++ [n % 256] = List.replicate 6 0 ++ ((byteL (n / 256 / 256) 0 ++ [n / 256 % 256]) ++ [n % 256])
  rw [show n / 256 / 256 = 0 by omega, e, List.append_assoc]
  rfl
end Go.Proofs.PkM
