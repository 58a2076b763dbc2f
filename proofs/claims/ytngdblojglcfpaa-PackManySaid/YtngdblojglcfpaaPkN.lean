/- Layer 8, plain facts: a number's bytes one by one, the number of bytes one by one, lists that end early. No program stands here. -/
import Derived.Test.YtngdblojglcfpaaPkM
namespace Go.Proofs.PkM

theorem pw_step (k : Nat) (n : Int) : n / 256 / pw k = n / pw (k + 1) := by
  show n / 256 / pw k = n / (256 * pw k)
  rw [Int.ediv_ediv_of_nonneg (by omega)]
theorem byte_hd (k : Nat) : ∀ n, byteL n (k + 1) = (n / pw k % 256) :: byteL n k := by
  induction k with
  | zero => intro n; show [] ++ [n % 256] = [n / 1 % 256]; simp
  | succ k ih =>
    intro n
    rw [byteL, ih, pw_step]
    rfl
/-- So far so many of a number's bytes are there. -/
def Wr (r cur : List Int) (n : Int) (j : Nat) : Prop := r = cur ++ byteL n j
theorem wr_start (bs : List Int) (n : Int) (k : Nat) : Wr (bs ++ byteL n k) bs n k := rfl
theorem wr_step {r cur : List Int} {n : Int} {k : Nat} (h : Wr r cur n (k + 1)) : Wr r (cur ++ [n / pw k % 256]) n k := by
  unfold Wr at h ⊢
  rw [h, byte_hd]
  simp
theorem wr_end {r cur : List Int} {n : Int} (h : Wr r cur n 0) : r = cur := by
  unfold Wr at h
  rw [h]
  simp [byteL]
theorem wr_len {r cur : List Int} {n : Int} {j : Nat} (h : Wr r cur n j) : cur.length + j = r.length := by
  unfold Wr at h
  rw [h, List.length_append, byte_len]

/-! ### A number of bytes -/
theorem val_take {bs : List Int} {k : Nat} {x : Int} (h : bs[k]? = some x) : valL (bs.take (k + 1)) = valL (bs.take k) * 256 + x := by
  rw [List.take_add_one, h]
  exact val_snoc _ _
theorem pw_mono {a b : Nat} (h : a ≤ b) : pw a ≤ pw b := by
  induction h with
  | refl => exact Int.le_refl _
  | step _ ih => have := pw_pos a; show pw a ≤ 256 * pw _; omega
theorem val_small {bs : List Int} {k : Nat} (hb : Bytes bs) (hk : k ≤ bs.length) (h7 : k ≤ 7) : 0 ≤ valL (bs.take k) ∧ valL (bs.take k) < 72057594037927936 := by
  have h := val_range k (bs.take k) (by rw [List.length_take]; omega) (fun b h => hb b (List.mem_of_mem_take h))
  have h2 := pw_mono h7
  have h3 : pw 7 = 72057594037927936 := by decide
  omega

/-! ### Lists -/
/-- The numbers that are left are numbers of the size. -/
def Ok (l : List Int) (size : Int) : Prop := ∀ n ∈ l, mayB n size = true
theorem ok_hd {l : List Int} {k : Nat} {x size : Int} (h : Ok (l.drop k) size) (hx : l[k]? = some x) : mayB x size = true := by
  refine h x ?_
  rw [List.mem_iff_getElem?]
  exact ⟨0, by rw [List.getElem?_drop]; simpa using hx⟩
theorem drop_hd {l : List Int} {k : Nat} {x : Int} (hx : l[k]? = some x) : l.drop k = x :: l.drop (k + 1) := by
  obtain ⟨h, e⟩ := List.getElem?_eq_some_iff.1 hx
  rw [List.drop_eq_getElem_cons h, e]
theorem ok_tl {l : List Int} {k : Nat} {x size : Int} (hx : l[k]? = some x) (h : mayB x size = true) : Ok (l.drop k) size ↔ Ok (l.drop (k + 1)) size := by
  rw [drop_hd hx]
  unfold Ok
  constructor
  · intro g n hn; exact g n (List.mem_cons_of_mem _ hn)
  · intro g n hn
    rcases List.mem_cons.1 hn with rfl | hn
    · exact h
    · exact g n hn
theorem ok_end {l : List Int} {k : Nat} (size : Int) (hk : l.length ≤ k) : Ok (l.drop k) size := by
  rw [List.drop_eq_nil_of_le hk]
  intro n hn; cases hn
/-- Lists: so far so many numbers stand there. -/
def Wl (r cur l : List Int) (k sz : Nat) : Prop := r = cur ++ allB (l.drop k) sz
theorem wl_step {r cur l : List Int} {k sz : Nat} {x : Int} (h : Wl r cur l k sz) (hx : l[k]? = some x) : Wl r (cur ++ byteL x sz) l (k + 1) sz := by
  unfold Wl at h ⊢
  rw [h, drop_hd hx, List.append_assoc]
  rfl
theorem wl_end {r cur l : List Int} {k sz : Nat} (h : Wl r cur l k sz) (hk : l.length ≤ k) : r = cur := by
  unfold Wl at h
  rw [h, List.drop_eq_nil_of_le hk]
  simp [allB]
theorem wl_len {r cur l : List Int} {k sz : Nat} (h : Wl r cur l k sz) : cur.length ≤ r.length := by
  unfold Wl at h
  rw [h, List.length_append]; omega

/-- What is read: so many numbers are read, and of what is left the rest will be. -/
def Rl (o : Option (List Int × List Int)) (done rest : List Int) (sz m : Nat) : Prop := o = (manyV sz m rest).map fun p => (done ++ p.1, p.2)
theorem rl_start (sz m : Nat) (b : List Int) : Rl (manyV sz m b) [] b sz m := by
  unfold Rl
  cases manyV sz m b <;> rfl
theorem rl_step {o : Option (List Int × List Int)} {done rest : List Int} {sz m : Nat} (h : Rl o done rest sz (m + 1)) (hl : sz ≤ rest.length) : Rl o (done ++ [asInt (valL (rest.take sz))]) (rest.drop sz) sz m := by
  unfold Rl at h ⊢
  rw [h, manyV, if_neg (by omega)]
  cases manyV sz m (rest.drop sz) with
  | none => rfl
  | some p => simp
theorem rl_bad {o : Option (List Int × List Int)} {done rest : List Int} {sz m : Nat} (h : Rl o done rest sz (m + 1)) (hl : ¬ sz ≤ rest.length) : o = none := by
  unfold Rl at h
  rw [h, manyV, if_pos (by omega)]
  rfl
theorem rl_end {o : Option (List Int × List Int)} {done rest : List Int} {sz : Nat} (h : Rl o done rest sz 0) : o = some (done, rest) := by
  unfold Rl at h
  rw [h]
  simp [manyV]
/-- A row that fills up. -/
theorem fill_set (done : List Int) (x : Int) (m : Nat) : (done ++ List.replicate (m + 1) 0).set done.length x = (done ++ [x]) ++ List.replicate m 0 := by
  rw [List.replicate_succ, List.set_append_right _ _ (by omega), Nat.sub_self, List.set_cons_zero]
  simp
end Go.Proofs.PkM
