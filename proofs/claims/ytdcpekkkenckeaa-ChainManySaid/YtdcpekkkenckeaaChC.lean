/- Layer 17's calls: what each answers, as one statement each. -/
import Derived.Test.YtdcpekkkenckeaaR17C
namespace Go.Proofs.Ytdcpekkkenckeaa
open Go.RowKit Go.Proofs.ShM Go.Proofs.GrM Go.Proofs.ImM Go.Proofs.ChM
set_option linter.unusedVariables false

/-- A number of an int. -/
abbrev In64 (n : Int) : Prop := -9223372036854775808 ≤ n ∧ n ≤ 9223372036854775807
/-- A tensor of few sides and numbers, all within int. -/
def SmVt (t : T) : Prop := t.1.length ≤ 100 ∧ t.2.length ≤ 100 ∧ N64 t.1 ∧ N64 t.2
/-- Few versions, of few sides and numbers, all within int. -/
def SmV (l : List Nd) : Prop := l.length ≤ 100 ∧ ∀ v ∈ l, In64 v.1 ∧ SmVt v.2
/-- What the calls answer. -/
structure ChC : Prop where
  check : ∀ (A : Option Addr) (c n : Nat) (l : List Nd) (b : Bool) (W : World), RdG W A l → l.length ≤ c ∧ c ≤ 9223372036854775807 → SmV l → n = l.length → chkV l = b →
    Calls Try.prog 17 #[.slice A n c] W fun e W' => e = .returned (.bool b) ∧ Kp W W'
  newer : ∀ (A : Option Addr) (c n : Nat) (l : List Nd) (s : Int) (b : Bool) (W : World), RdG W A l → l.length ≤ c ∧ c ≤ 9223372036854775807 → SmV l → n = l.length → In64 s → newerC l s = b →
    Calls Try.prog 19 #[.slice A n c, .int .i64 s] W fun e W' => e = .returned (.bool b) ∧ Kp W W'
  read : ∀ (A : Option Addr) (c n : Nat) (l : List Nd) (s : Int) (t : T) (b : Bool) (x y : Nat) (W : World), RdG W A l → l.length ≤ c ∧ c ≤ 9223372036854775807 → SmV l → n = l.length → In64 s → readC l s = (t, b) → t.1.length = x → t.2.length = y →
    Calls Try.prog 11 #[.slice A n c, .int .i64 s] W (RetTB t b x y W)
  put : ∀ (A P Q : Option Addr) (c n a e b f : Nat) (l m : List Nd) (s err : Int) (t : T) (j : Nat) (W : World), RdG W A l → l.length ≤ c ∧ c ≤ 9223372036854775807 → SmV l → n = l.length → In64 s → TRm W P e Q f t → SmVt t → a = t.1.length → b = t.2.length → putC l s t = (m, err) → m.length = j →
    Calls Try.prog 13 #[.slice A n c, .int .i64 s, .agg #[.slice P a e, .slice Q b f]] W (RetVe m err j W)
  trim : ∀ (A : Option Addr) (c n j : Nat) (l m : List Nd) (s : Int) (W : World), RdG W A l → l.length ≤ c ∧ c ≤ 9223372036854775807 → SmV l → n = l.length → In64 s → trimC l s = m → m.length = j →
    Calls Try.prog 21 #[.slice A n c, .int .i64 s] W (RetV m j W)

theorem sm_nil : SmV [] := ⟨Nat.zero_le _, fun _ h => by cases h⟩
theorem sm_snoc {l : List Nd} {s : Int} {t : T} (h : SmV l) (hl : l.length ≤ 90) (hs : In64 s) (ht : SmVt t) : SmV (l ++ [(s, t.1, t.2)]) := by
  refine ⟨by rw [List.length_append, List.length_singleton]; omega, fun v hv => ?_⟩
  rcases List.mem_append.1 hv with hv | hv
  · exact h.2 v hv
  · rw [List.mem_singleton] at hv
    subst hv
    exact ⟨hs, ht⟩
theorem sm_take {l : List Nd} (h : SmV l) (k : Nat) : SmV (l.take k) := ⟨by rw [List.length_take]; have := h.1; omega, fun v hv => h.2 v (List.mem_of_mem_take hv)⟩
theorem sm_drop {l : List Nd} (h : SmV l) (k : Nat) : SmV (l.drop k) := ⟨by rw [List.length_drop]; have := h.1; omega, fun v hv => h.2 v (List.mem_of_mem_drop hv)⟩
theorem sm_put {l m : List Nd} {s err : Int} {t : T} (h : putC l s t = (m, err)) (hl : SmV l) (hn : l.length ≤ 90) (hs : In64 s) (ht : SmVt t) : SmV m := by
  by_cases e : err = 0
  · subst e
    obtain ⟨_, _, _, _, _, _, rfl⟩ := put_ok' h
    exact sm_snoc hl hn hs ht
  · rw [put_err' h e]; exact hl
theorem sm_trim {l : List Nd} (h : SmV l) (s : Int) : SmV (trimC l s) := by
  unfold trimC
  split
  · exact sm_drop h _
  · exact h
theorem sm_few {l : List Nd} (h : fewC l = true) (g : ∀ v ∈ l, In64 v.1 ∧ N64 v.2.1 ∧ N64 v.2.2) : SmV l ∧ l.length ≤ 30 := by
  unfold fewC at h
  rw [Bool.and_eq_true, List.all_eq_true, decide_eq_true_iff] at h
  refine ⟨⟨by omega, fun v hv => ?_⟩, by omega⟩
  have h1 := h.1 v hv
  unfold fewV at h1
  simp only [Bool.and_eq_true, decide_eq_true_eq] at h1
  have := g v hv
  exact ⟨this.1, by omega, by omega, this.2.1, this.2.2⟩
end Go.Proofs.Ytdcpekkkenckeaa
