/- slices.Repeat of one number: what it answers. -/
import Derived.Test.YtdekchfapblgeaaTnA
import Derived.Test.YtdekchfapblgeaaTnMul
import Derived.Laws.CopyOwn
import Derived.Deep.DeepCutAuto
namespace Go.Proofs.Ytdekchfapblgeaa
open Go.RowKit Go.Proofs.ShM

/-- m numbers n, then noughts, k cells. -/
def repL (n : Int) (m k : Nat) : List Int := List.replicate m n ++ List.replicate (k - m) 0
theorem repL_len {n : Int} {m k : Nat} (h : m ≤ k) : (repL n m k).length = k := by unfold repL; simp; omega
theorem repL_end (n : Int) (k : Nat) : repL n k k = List.replicate k n := by unfold repL; simp
/-- The row, as cells. -/
def repC (n : Int) (m k : Nat) : List Value := (repL n m k).map (Value.int .i64)
theorem repC_len {n : Int} {m k : Nat} (h : m ≤ k) : (repC n m k).length = k := by unfold repC; rw [List.length_map, repL_len h]
theorem repC_zero (n : Int) (k : Nat) : List.replicate k (Value.int .i64 0) = repC n 0 k := by unfold repC repL; simp
theorem rep_splice (n : Int) (m k c : Nat) : splice (repC n m k) m (List.replicate c (Value.int .i64 n)) = repC n (m + c) k := by
  unfold splice repC repL
  simp only [List.map_append, List.map_replicate, List.length_replicate]
  rw [List.take_append_of_le_length (by simp), List.take_of_length_le (by simp), List.drop_append]
  simp only [List.length_replicate, List.drop_replicate]
  rw [show m - (m + c) = 0 by omega, show m + c - m = c by omega, show k - m - c = k - (m + c) by omega, ← List.append_assoc, List.replicate_append_replicate]
  rfl
theorem repC_at {n : Int} {m k j : Nat} (h : j < m) : (repC n m k)[j]? = some (Value.int .i64 n) := by
  unfold repC repL
  rw [List.getElem?_map, List.getElem?_append_left (by simpa using h), List.getElem?_replicate, if_pos h]; rfl
theorem alloc_new (w : World) (o : Obj) : (w.alloc o).heap[w.heap.size]? = some o := by
  show (w.heap.push o)[w.heap.size]? = some o
  simp
theorem cell_of_row {w : World} {g : Nat} {cs : List Value} {t : TypeId} (h : w.heap[g]? = some (.cells cs.toArray t (0, 0))) (j : Nat) {v : Value} (hv : cs[j]? = some v) : w.cell? ⟨g, j, none⟩ = some v := by
  simp [World.cell?, h, hv]
theorem Own.of_row {B g k : Nat} {w : World} {xs : List Int} (hg : w.heap[g]? = some (.cells (xs.map (Value.int .i64)).toArray 3 (0, 0))) (hB : B ≤ g) (hk : xs.length = k) (hm : k ≤ 1000000) : Own B w (.slice (some ⟨g, 0, none⟩) k k) xs := by
  subst hk
  exact ⟨by simp, .inr ⟨g, xs.length, _, rfl, hB, hg, Nat.le_refl _, by unfold maxLen; omega, by simp, by rw [Nat.mul_one]; exact List.take_of_length_le (by simp)⟩⟩

theorem RetO.on {xs : List Int} {n c : Nat} {A : Option Addr} {w w' : World} (hn : n = xs.length) (h : Own w.heap.size w' (.slice A n c) xs) (k : Kp w w') : RetO xs w (.returned (.slice A n c)) w' := by
  subst hn; exact ⟨A, c, rfl, h, k⟩

set_option maxHeartbeats 2000000 in
theorem repeat_any (n : Int) (k : Nat) (b : Nat) (w : World) (h0 : 0 < k) (hk : k ≤ 64) (hb : b < w.heap.size) (hc : w.cell? ⟨b, 0, none⟩ = some (.int .i64 n)) :
    Calls Try.prog 28 #[.slice (some ⟨b, 0, none⟩) 1 1, .int .i64 (k : Int)] w (RetO (List.replicate k n) w) := by
  have HM : Hid (Calls Try.prog 42 #[.int .u64 1, .int .u64 (k : Int)] w fun e w' => e = .returned (.tuple #[.int .u64 0, .int .u64 (k : Int)]) ∧ w = w') := by
    have hh := mul_any 1 k (by omega) (by omega) w
    rw [show 1 * k / 18446744073709551616 = 0 by omega, show 1 * k % 18446744073709551616 = k by omega] at hh
    exact hh
  have e1 : IntKind.u64.wrap (k : Int) = k := IntWalk.u64_in _ (by omega)
  have e2 : IntKind.i64.wrap (k : Int) = k := IntWalk.i64_in _ (by omega)
  have d1 : decide ((9223372036854775807 : Int) < (k : Int)) = false := by simp; omega
  have hmk := fun W => run_mk W k (by omega)
  obtain ⟨cs, hcs⟩ : ∃ cs, cs = (List.replicate k (Value.int .i64 0)).toArray := ⟨_, rfl⟩
  rw [← hcs] at hmk
  have HCS := Lib.hid hcs
  have HC := Lib.hid hc
  clear hcs hc
  go_enter Try.func28, Try.ntmps28
  go_wp2_with fail
  refine (Calls.mono (Hid.out HM)) ?_; rintro e w1 ⟨rfl, rfl⟩
  go_upto_region 7 with fail
  have hs1 : (Try.prog.info? 3).map (·.size) = some 1 := by kernel_rfl
  have hrow : (w.alloc (.cells cs 3)).heap[w.heap.size]? = some (.cells (repC n 0 k).toArray 3 (0, 0)) := by rw [HCS.out, repC_zero n]; exact alloc_new w _
  have hsrc : (w.alloc (.cells cs 3)).cell? ⟨b, 0, none⟩ = some (.int .i64 n) := ((Kp.alloc_ w _).cell (p := ⟨b, 0, none⟩) hb).trans HC.out
  have hpos : 0 < (List.replicate 1 (Value.int .i64 n)).length → some (⟨w.heap.size, 0, none⟩ : Addr) = some ⟨w.heap.size, 0, none⟩ ∧ ∃ ad, some (⟨b, 0, none⟩ : Addr) = some ad ∧ ∀ j v, (List.replicate 1 (Value.int .i64 n))[j]? = some v → (w.alloc (.cells cs 3)).cell? (ad.add j) = some v := fun _ => ⟨rfl, ⟨b, 0, none⟩, rfl, fun j v hv => by
    cases j with
    | zero => injection hv with hv; rw [← hv]; exact hsrc
    | succ j => simp at hv⟩
  go_wp2_with (refine wpList_copy_splice rfl (.tmp 31) (.tmp 32) 22 22 rfl 3 Try.underlying22 hs1 _ _ _ _ _ _ rfl rfl w.heap.size 0 (repC n 0 k) 3 hrow (List.replicate 1 (Value.int .i64 n)) (by show 1 = min 1 k; omega) hpos (by rw [repC_len (Nat.zero_le _)]; simp; omega) (by simp [Value.oneCell']) w.heap.size w (Kp.alloc_ w _) (Nat.le_refl _) ?_; intro w2 HR hB)
  clear hpos hrow hsrc d1 e1 e2 hmk
  go_loopw [8] (fun i wr => ∃ m : Nat, i = .int .i64 m ∧ m ≤ k ∧ 1 ≤ m ∧ Hid (wr.heap[w.heap.size]? = some (.cells (repC n m k).toArray 3 (0, 0))) ∧ Hid (Below w.heap.size w wr)) (fun i _ => k - (intOf i).toNat)
  case atStart => exact ⟨1, rfl, h0, Nat.le_refl _, by have := HR.out; rw [rep_splice n 0 k 1] at this; exact this, hB⟩
  case round =>
    obtain ⟨m, rfl, hm, hm1, hr, hbl⟩ := hrel
    by_cases hlt : m < k
    · obtain ⟨c, hcn⟩ : ∃ c, c = min m (k - m) := ⟨_, rfl⟩
      have hc1 : c ≤ m := by omega
      have hc2 : m + c ≤ k := by omega
      have hc3 : 1 ≤ c := by omega
      have HCN := Lib.hid hcn
      have hne : ¬ k = m := by omega
      clear hcn
      have hone : ∀ v ∈ List.replicate c (Value.int .i64 n), v.oneCell' = true := fun v hv => by obtain ⟨_, rfl⟩ := List.mem_replicate.1 hv; rfl
      have hsrc : ∀ j v, (List.replicate c (Value.int .i64 n))[j]? = some v → wr.drew.cell? ((⟨w.heap.size, 0, none⟩ : Addr).add j) = some v := fun j v hv => by
        rw [Go.WideShapes.add_plain, Nat.zero_add]
        have hj : j < c := by simpa using (List.getElem?_eq_some_iff.1 hv).1
        rw [List.getElem?_replicate, if_pos hj] at hv
        exact (cell_of_row hr.out j (repC_at (by omega))).trans hv
      have HO := Lib.hid (And.intro hone hsrc)
      clear hone hsrc
      go_wp2
      go_region_law (refine step_copy_splice rfl (.tmp 41) (.tmp 44) 22 22 rfl 3 Try.underlying22 hs1 (some ⟨w.heap.size, m, none⟩) (some ⟨w.heap.size, 0, none⟩) (k - m) (k - m) m k (by simp [Act.eval, Act.put]) (by simp [Act.eval, Act.put]) w.heap.size m (repC n m k) 3 hr.out (List.replicate c (Value.int .i64 n)) (by simpa using HCN.out) (fun _ => ⟨rfl, _, rfl, HO.out.2⟩) (by rw [repC_len hm]; simpa using hc2) HO.out.1 w.heap.size w hbl.out.drew (Nat.le_refl _) ?_; intro w4 HG4 hb4)
      have HB := Lib.hid hb4
      clear hb4
      have e1 : IntKind.i64.wrap ((m : Int) + (c : Int)) = (m : Int) + (c : Int) := IntWalk.i64_in _ (by omega)
      go_wp2
      go_roundw
      case rel =>
        repeat apply Exists.intro
        refine ⟨⟨m + c, ?_, hc2, by omega, by have := HG4.out; rw [rep_splice n m k c] at this; exact this, HB.out⟩, rfl⟩
        simp [e1]
      case measure => simp [intOf, Act.put, e1]; omega
    · obtain rfl : m = k := by omega
      have HR2 := Lib.hid hr.out
      go_wp2
      go_ret
      have hrow := hr.out
      unfold repC at hrow
      rw [repL_end] at hrow
      exact RetO.on (by simp) (Own.of_row hrow (Nat.le_refl _) (by simp) (by omega)) hbl.out
end Go.Proofs.Ytdekchfapblgeaa
