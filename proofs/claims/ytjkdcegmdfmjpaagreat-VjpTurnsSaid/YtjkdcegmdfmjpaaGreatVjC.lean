import Derived.Test.YtjkdcegmdfmjpaaGreatTk
import Derived.Test.YtjkdcegmdfmjpaaGreatVjN
import Derived.Test.YtjkdcegmdfmjpaaGreatEvC
import Derived.Test.YtjkdcegmdfmjpaaGreatR9A
import Derived.Test.YtjkdcegmdfmjpaaGreatGrAll
set_option maxHeartbeats 16000000
set_option maxRecDepth 100000
set_option linter.unusedVariables false
set_option linter.unusedSimpArgs false
namespace Go.Proofs.YtjkdcegmdfmjpaaGreat
open Go.RowKit Go.Proofs.ShM Go.Proofs.GrM Go.Proofs.InM Go.Proofs.ImM Go.Proofs.EvM
def RetVp (ts : List T) (err : Int) (k : Nat) (w : World) (e : Ending) (w' : World) : Prop :=
 ∃ A c, e = .returned (.tuple #[.slice A k c, .int .i64 err]) ∧ Hid (RdT w' A ts) ∧ Hid (ts.length ≤ c ∧ c ≤ 9223372036854775807) ∧ Kp w w'
structure VjC : Prop where
 node : ∀ (A B P Q R S : Option Addr) (n m c d a b e f g h k d2 : Nat) (nd : Nd) (t u : T) (ts ps : List T) (err : Int) (x y : Nat) (W : World), Rd W A nd.2.1 → Rd W B nd.2.2 → n = nd.2.1.length → m = nd.2.2.length → n ≤ c ∧ c ≤ 9223372036854775807 → m ≤ d ∧ d ≤ 9223372036854775807 → n ≤ 100 → m ≤ 100 → Nd64 nd →
  RdT W S ts → ts.length ≤ h → h ≤ 9223372036854775807 → SmTs ts → g = ts.length → TRc W P e Q f t → SmT t → a = t.1.length → b = t.2.length → RdT W R ps → ps.length ≤ d2 → d2 ≤ 9223372036854775807 → SmTs ps → k = ps.length →
  nodeE nd.1 nd.2.2 ts t ps = (u, err) → u.1.length = x → u.2.length = y →
  Calls Tryz.prog 9 #[.agg #[.int .i64 nd.1, .slice A n c, .slice B m d], .slice S g h, .agg #[.slice P a e, .slice Q b f], .slice R k d2] W (RetV1 u err x y W)
 back : ∀ (A B P Q P2 Q2 S : Option Addr) (n m c d a b e f a2 b2 e2 f2 g h : Nat) (nd : Nd) (out u : T) (ts : List T) (xs : List T) (err : Int) (x : Nat) (W : World), Rd W A nd.2.1 → Rd W B nd.2.2 → n = nd.2.1.length → m = nd.2.2.length → n ≤ c ∧ c ≤ 9223372036854775807 → m ≤ d ∧ d ≤ 9223372036854775807 → n ≤ 100 → m ≤ 100 → Nd64 nd →
  RdT W S ts → ts.length ≤ h → h ≤ 9223372036854775807 → SmTs ts → g = ts.length → TRc W P e Q f out → SmT out → a = out.1.length → b = out.2.length → TRc W P2 e2 Q2 f2 u → SmT u → a2 = u.1.length → b2 = u.2.length →
  backV nd.1 nd.2.2 ts out u = (xs, err) → xs.length = x →
  Calls Tryz.prog 10 #[.agg #[.int .i64 nd.1, .slice A n c, .slice B m d], .slice S g h, .agg #[.slice P a e, .slice Q b f], .agg #[.slice P2 a2 e2, .slice Q2 b2 f2]] W (RetVp xs err x W)
 full : ∀ (A : Option Addr) (c m : Nat) (s : List Int) (n : Int) (u : T) (x y : Nat) (W : World), Rd W A s → m = s.length → fullV s n = (u.1, u.2, 0) → u.1.length = x → u.2.length = y →
  Calls Tryz.prog 11 #[.slice A m c, .int .i64 n] W (RetV1 u 0 x y W)
theorem rdt_two {w : World} {P Q R S : Option Addr} {t u : T} {a b c d : Nat} (h : TRc w P a Q b t) (g : TRc w R c S d u) (ty : TypeId) :
  RdT (w.alloc (.cells #[.slice P t.1.length a, .slice Q t.2.length b, .slice R u.1.length c, .slice S u.2.length d] ty)) (some ⟨w.heap.size, 0, none⟩) [t, u] := by
 refine ⟨by simp, [(.slice P t.1.length a, .slice Q t.2.length b), (.slice R u.1.length c, .slice S u.2.length d)], ⟨rfl, fun j p t' h1 h2 => ?_⟩, fun _ => ⟨_, rfl, by simp, fun j x hu => ?_⟩⟩
 ·match j with
  | 0 =>
   have e1 : (Value.slice P t.1.length a, Value.slice Q t.2.length b) = p := by simpa using h1
   have e2 : t = t' := by simpa using h2
   subst e1 e2
   exact ⟨P, a, Q, b, rfl, h.r.alloc_ _, fun _ _ _ => trivial, fun _ _ _ => trivial, h.c1, h.c2⟩
  | 1 =>
   have e1 : (Value.slice R u.1.length c, Value.slice S u.2.length d) = p := by simpa using h1
   have e2 : u = t' := by simpa using h2
   subst e1 e2
   exact ⟨R, c, S, d, rfl, g.r.alloc_ _, fun _ _ _ => trivial, fun _ _ _ => trivial, g.c1, g.c2⟩
  | j + 2 => simp at h1
 ·rw [Go.WideShapes.add_plain, Nat.zero_add, World.cell?_alloc_at _ ty _ j rfl]
  have : (flat [(Value.slice P t.1.length a, Value.slice Q t.2.length b), (Value.slice R u.1.length c, Value.slice S u.2.length d)])[j]? = #[Value.slice P t.1.length a, Value.slice Q t.2.length b, Value.slice R u.1.length c, Value.slice S u.2.length d][j]? := by simp [flat]
  rw [← this]; exact hu
theorem rd_two_cells {w : World} {X : Nat → Prop} {A : Option Addr} {ts : List T} (h : RdX w X A ts) {k : Nat} {t : T} (ht : ts[k]? = some t) : ∃ ad P c Q d, A = some ad ∧ ad.block < w.heap.size ∧ w.cell? (ad.add (k * 2)) = some (.slice P t.1.length c) ∧ w.cell? ⟨(ad.add (k * 2)).block, (ad.add (k * 2)).off + 1, none⟩ = some (.slice Q t.2.length d) ∧ TRc w P c Q d t := by
 obtain ⟨ad, u, P, c, Q, d, e, hb, hu, h1, h2, r, _, _, b1, b2⟩ := h.at_c (List.getElem?_eq_some_iff.1 ht).1
 rw [ht] at hu
 injection hu with hu
 subst hu
 exact ⟨ad, P, c, Q, d, e, hb, h1, h2, r, b1, b2⟩
theorem trc_at {w : World} {A : Option Addr} {ts : List T} (h : RdT w A ts) {k : Nat} (hk : k < ts.length) : ∃ ad t P c Q d, A = some ad ∧ ad.block < w.heap.size ∧ ts[k]? = some t ∧ w.cell? (ad.add (k * 2)) = some (.slice P t.1.length c) ∧ w.cell? ⟨(ad.add (k * 2)).block, (ad.add (k * 2)).off + 1, none⟩ = some (.slice Q t.2.length d) ∧ TRc w P c Q d t := by
 obtain ⟨ad, t, P, c, Q, d, e, hb, ht, h1, h2, r, _, _, b1, b2⟩ := h.at_c hk
 exact ⟨ad, t, P, c, Q, d, e, hb, ht, h1, h2, r, b1, b2⟩
def FewT (S : Option Addr) (g h : Nat) (w : World) (q : Bool) : Prop := ∀ W, Kp w W → Calls Tryz.prog 7 #[.slice S g h, .int .i64 10] W fun e w' => e = .returned (.bool q) ∧ Kp W w'
theorem few_t {S : Option Addr} {h : Nat} {ts : List T} {w : World} (hR : RdT w S ts) {q : Bool} (hq : fewT ts 10 = q) : FewT S ts.length h w q := fun W k => by rw [← hq]; exact rfew9_any S h ts 10 W (hR.kp k)
theorem few_sm {t : T} (h : fewV t.1.length t.2.length = true) (n : N64 t.1 ∧ N64 t.2) : SmT t := by
 unfold fewV at h
 simp only [Bool.and_eq_true, decide_eq_true_eq] at h
 exact ⟨by omega, by omega, n.1, n.2⟩
theorem few_sms {ts : List T} (h : fewT ts 10 = true) (n : ∀ t ∈ ts, N64 t.1 ∧ N64 t.2) : SmTs ts := by
 unfold fewT at h
 simp only [Bool.and_eq_true, List.all_eq_true, decide_eq_true_eq] at h
 exact ⟨by omega, fun t ht => few_sm (h.1 t ht) (n t ht)⟩
end Go.Proofs.YtjkdcegmdfmjpaaGreat
