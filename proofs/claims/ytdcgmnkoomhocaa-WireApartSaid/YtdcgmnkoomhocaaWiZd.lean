/- The landed wire: Read: plain facts. -/
import Derived.Test.YtdcgmnkoomhocaaR12N
namespace Go.Proofs.WiM
open Go.Proofs.ShM Go.Proofs.GrM Go.Proofs.PkM Go.Proofs.Ytdcgmnkoomhocaa
theorem enc_37 {l : List Nd} (h : checkB l = true) : ∀ k : Nat, k ≤ l.length → (encN (l.take k)).length ≤ 37 * k
  | 0, _ => by simp [encN]
  | k + 1, hk => by
    have ht : l[k]? = some l[k] := List.getElem?_eq_getElem (by omega)
    obtain ⟨_, _, g1, g2, _⟩ := small_nd h ht
    rw [enc_take ht, List.length_append]
    have i := enc_37 h k (by omega)
    have : (nodeW l[k]).length = 3 + l[k].2.1.length + 8 * l[k].2.2.length := by
      unfold nodeW
      rw [List.length_cons, List.length_append, List.length_cons, List.length_cons, all_len, all_len]; omega
    omega
theorem read_long {b : List Int} (h : 889 < b.length) : readV b = ([], 120) := by
  rcases read_cases b with ⟨l, e1, e2, e3⟩ | e
  · exfalso
    obtain ⟨hc, hb⟩ := write_is e3
    have h1 := enc_37 hc l.length (Nat.le_refl _)
    have h2 := (check_iff.1 hc).2.1
    rw [List.take_length] at h1
    rw [hb, List.length_cons] at h
    omega
  · exact e
theorem read_m {m : Nat} {r : List Int} : readO ((m : Int) :: r) = (readN m r).map (·.1) := by
  unfold readO
  rw [if_pos (by simp)]
  show (readN ((m : Int)).toNat r).map (·.1) = _
  rw [Int.toNat_natCast]
theorem read_bad {m : Nat} {r : List Int} (h : readN m r = none) : readV ((m : Int) :: r) = ([], 120) := read_none (by rw [read_m, h]; rfl)
theorem read_rest {m : Nat} {r c : List Int} {l : List Nd} (hb : Bytes r) (h : readN m r = some (l, c)) (hc : c ≠ []) : readV ((m : Int) :: r) = ([], 120) := by
  rw [read_some (l := l) (by rw [read_m, h]; rfl)]
  refine if_neg fun e => hc ?_
  obtain ⟨e1, e2, e3⟩ := read_back hb h
  have e4 := (write_is e).2
  injection e4 with _ e5
  rw [← e2] at e5
  have := congrArg List.length e5
  rw [List.length_append] at this
  exact List.eq_nil_of_length_eq_zero (by omega)
theorem read_whole {m : Nat} {r : List Int} {l : List Nd} (hb : Bytes r) (h : readN m r = some (l, [])) : readV ((m : Int) :: r) = if checkB l = true then (l, 0) else ([], 120) := by
  rw [read_some (l := l) (by rw [read_m, h]; rfl)]
  obtain ⟨e1, e2, e3⟩ := read_back hb h
  rw [List.append_nil] at e2
  unfold writeV
  by_cases g : checkB l = true
  · rw [if_pos g, if_pos g, e1, e2, if_pos rfl]
  · rw [if_neg g, if_neg g, if_neg (fun e => by injection e with _ e; cases e)]
theorem tn_yes {cur r1 r2 r3 args nums : List Int} {op : Int} (h1 : takeV cur 1 = (op, r1, 0)) (h2 : takeListV r1 1 = (args, r2, 0)) (h3 : takeListV r2 8 = (nums, r3, 0)) : takeNd cur = some ((op, args, nums), r3) := by
  unfold takeNd; rw [h1, h2, h3, if_pos ⟨rfl, rfl, rfl⟩]
theorem tn_no1 {cur r1 : List Int} {op f : Int} (h1 : takeV cur 1 = (op, r1, f)) (g : f ≠ 0) : takeNd cur = none := by
  unfold takeNd; rw [h1, if_neg fun h => g h.1]
theorem tn_no2 {cur r1 r2 args : List Int} {op e f : Int} (h1 : takeV cur 1 = (op, r1, e)) (h2 : takeListV r1 1 = (args, r2, f)) (g : f ≠ 0) : takeNd cur = none := by
  unfold takeNd; rw [h1, h2, if_neg fun h => g h.2.1]
theorem tn_no3 {cur r1 r2 r3 args nums : List Int} {op e e2 f : Int} (h1 : takeV cur 1 = (op, r1, e)) (h2 : takeListV r1 1 = (args, r2, e2)) (h3 : takeListV r2 8 = (nums, r3, f)) (g : f ≠ 0) : takeNd cur = none := by
  unfold takeNd; rw [h1, h2, h3, if_neg fun h => g h.2.2]
/-- What is still to be read, and what is left. -/
def Ro (o : Option (List Nd × List Int)) (dn : List Nd) (m : Nat) (cur : List Int) : Prop := (readN m cur).map (fun p => (dn ++ p.1, p.2)) = o
theorem ro_start (m : Nat) (r : List Int) : Ro (readN m r) [] m r := by
  unfold Ro
  cases readN m r <;> rfl
theorem ro_step {o : Option (List Nd × List Int)} {dn : List Nd} {m : Nat} {cur r : List Int} {t : Nd} (h : Ro o dn (m + 1) cur) (ht : takeNd cur = some (t, r)) : Ro o (dn ++ [t]) m r := by
  unfold Ro at *
  rw [readN, ht] at h
  have h : ((readN m r).map fun q => (t :: q.1, q.2)).map (fun p => (dn ++ p.1, p.2)) = o := h
  rw [← h, Option.map_map]
  congr 1
  funext p
  simp
theorem ro_bad {o : Option (List Nd × List Int)} {dn : List Nd} {m : Nat} {cur : List Int} (h : Ro o dn (m + 1) cur) (ht : takeNd cur = none) : o = none := by
  unfold Ro at h
  rw [readN, ht] at h
  rw [← h]; rfl
theorem ro_end {o : Option (List Nd × List Int)} {dn : List Nd} {cur : List Int} (h : Ro o dn 0 cur) : o = some (dn, cur) := by
  unfold Ro at h
  rw [readN] at h
  rw [← h]; simp
end Go.Proofs.WiM
