/- Layer 13's calls: what each answers, as one statement each; the law's first calls. -/
import Derived.Test.YtdbncanedokinaaGreatEvL
import Derived.Test.YtdbncanedokinaaGreatR9A
import Derived.Test.YtdbncanedokinaaGreatR9B
import Derived.Test.YtdbncanedokinaaGreatInMem
import Derived.Test.YtdbncanedokinaaGreatGrAll
set_option maxRecDepth 100000
set_option linter.unusedSimpArgs false
namespace Go.Proofs.YtdbncanedokinaaGreat
open Go.RowKit Go.Proofs.ShM Go.Proofs.GrM Go.Proofs.InM Go.Proofs.ImM Go.Proofs.EvM
set_option linter.unusedVariables false

/-- A tensor of few sides and numbers, all within int. -/
def SmT (t : T) : Prop := t.1.length ≤ 100 ∧ t.2.length ≤ 100 ∧ N64 t.1 ∧ N64 t.2
/-- Few tensors. -/
def SmTs (ts : List T) : Prop := ts.length ≤ 100 ∧ ∀ t ∈ ts, SmT t
/-- A tensor that lies in memory, with room. -/
structure TRc (w : World) (P : Option Addr) (c : Nat) (Q : Option Addr) (d : Nat) (t : T) : Prop where
  r : TR w P t.1 Q t.2
  c1 : t.1.length ≤ c ∧ c ≤ 9223372036854775807
  c2 : t.2.length ≤ d ∧ d ≤ 9223372036854775807
theorem TRc.kp {w w' : World} {P Q : Option Addr} {c d : Nat} {t : T} (h : TRc w P c Q d t) (k : Kp w w') : TRc w' P c Q d t := ⟨h.r.kp k, h.c1, h.c2⟩
/-- Shapes, a number and an error. -/
def RetLs (ss : List (List Int)) (at_ err : Int) (k : Nat) (w : World) (e : Ending) (w' : World) : Prop :=
  ∃ A c, e = .returned (.tuple #[.slice A k c, .int .i64 at_, .int .i64 err]) ∧ Hid (RdL w' A ss) ∧ Hid (ss.length ≤ c ∧ c ≤ 9223372036854775807) ∧ Kp w w'
/-- Tensors, a number and an error. -/
def RetVs (ts : List T) (at_ err : Int) (k : Nat) (w : World) (e : Ending) (w' : World) : Prop :=
  ∃ A c, e = .returned (.tuple #[.slice A k c, .int .i64 at_, .int .i64 err]) ∧ Hid (RdT w' A ts) ∧ Hid (ts.length ≤ c ∧ c ≤ 9223372036854775807) ∧ Kp w w'
/-- A tensor and an error. -/
def RetV1 (t : T) (err : Int) (a b : Nat) (w : World) (e : Ending) (w' : World) : Prop :=
  ∃ P c Q d, e = .returned (.tuple #[.agg #[.slice P a c, .slice Q b d], .int .i64 err]) ∧ Hid (TRc w' P c Q d t) ∧ Kp w w'
/-- What the calls answer. -/
structure EvC : Prop where
  check : ∀ (A : Option Addr) (c m : Nat) (l : List Nd) (b : Bool) (W : World), RdG W A l → l.length ≤ c → c ≤ 9223372036854775807 → SmallG l → m = l.length → checkB l = b →
    Calls Tryz.prog 16 #[.slice A m c] W fun e W' => e = .returned (.bool b) ∧ Kp W W'
  params : ∀ (A : Option Addr) (c m k : Nat) (l : List Nd) (r : List Int) (W : World), RdG W A l → l.length ≤ c → c ≤ 9223372036854775807 → SmallG l → m = l.length → paramsV l = r → r.length = k →
    Calls Tryz.prog 17 #[.slice A m c] W (RetG r k W)
  inputs : ∀ (A : Option Addr) (c m k : Nat) (l : List Nd) (r : List Int × Bool) (W : World), RdG W A l → l.length ≤ c → c ≤ 9223372036854775807 → SmallG l → m = l.length → inputsV l = r → r.1.length = k →
    Calls Tryz.prog 19 #[.slice A m c] W (RetSh r.1 r.2 k W)
  shapes : ∀ (A : Option Addr) (c m : Nat) (l : List Nd) (s : List (List Int)) (at_ err : Int) (k : Nat) (W : World), RdG W A l → l.length ≤ c → c ≤ 9223372036854775807 → SmallG l → m = l.length → shapesV l = (s, at_, err) → s.length = k →
    Calls Tryz.prog 11 #[.slice A m c] W (RetLs s at_ err k W)
  all : ∀ (A P Q R : Option Addr) (c m a b e f k d : Nat) (l : List Nd) (t : T) (ps v : List T) (at_ err : Int) (j : Nat) (W : World), RdG W A l → l.length ≤ c → c ≤ 9223372036854775807 → SmallG l → m = l.length →
    TRc W P e Q f t → SmT t → a = t.1.length → b = t.2.length → RdT W R ps → ps.length ≤ d → d ≤ 9223372036854775807 → SmTs ps → k = ps.length → allE l t ps = (v, at_, err) → v.length = j →
    Calls Tryz.prog 10 #[.slice A m c, .agg #[.slice P a e, .slice Q b f], .slice R k d] W (RetVs v at_ err j W)
  node : ∀ (A B P Q R S : Option Addr) (n m c d a b e f g h k d2 : Nat) (nd : Nd) (t u : T) (ts ps : List T) (err : Int) (x y : Nat) (W : World), Rd W A nd.2.1 → Rd W B nd.2.2 → n = nd.2.1.length → m = nd.2.2.length → n ≤ c ∧ c ≤ 9223372036854775807 → m ≤ d ∧ d ≤ 9223372036854775807 → n ≤ 100 → m ≤ 100 → Nd64 nd →
    RdT W S ts → ts.length ≤ h → h ≤ 9223372036854775807 → SmTs ts → g = ts.length → TRc W P e Q f t → SmT t → a = t.1.length → b = t.2.length → RdT W R ps → ps.length ≤ d2 → d2 ≤ 9223372036854775807 → SmTs ps → k = ps.length →
    nodeE nd.1 nd.2.2 ts t ps = (u, err) → u.1.length = x → u.2.length = y →
    Calls Tryz.prog 14 #[.agg #[.int .i64 nd.1, .slice A n c, .slice B m d], .slice S g h, .agg #[.slice P a e, .slice Q b f], .slice R k d2] W (RetV1 u err x y W)

/-- Few tensors, and one that is as few. -/
def fewE (t : T) (ps : List T) : Bool := fewV t.1.length t.2.length && fewT ps 10
theorem few13_any (P Q R : Option Addr) (a b c d k e : Nat) (t : T) (ps : List T) (w : World) (ha : a = t.1.length) (hb : b = t.2.length) (hk : k = ps.length) (hT : TR w P t.1 Q t.2) (hR : RdT w R ps) {q : Bool} (hq : fewE t ps = q) :
    Calls Tryz.prog 9 #[.agg #[.slice P a c, .slice Q b d], .slice R k e] w fun e w' => e = .returned (.bool q) ∧ Kp w w' := by
  have la := hT.s.len
  have lb := hT.d.len
  have F0 : Hid (Bk (w.alloc (.cells #[.slice P a c, .slice Q b d] 25)) w.heap.size P a c Q b d) := Bk.new rfl
  have K0 : Hid (Kp w (w.alloc (.cells #[.slice P a c, .slice Q b d] 25))) := Kp.alloc_ _ _
  obtain ⟨x, hx⟩ : ∃ x, x = fewV t.1.length t.2.length := ⟨_, rfl⟩
  obtain ⟨y, hy⟩ : ∃ y, y = fewT ps 10 := ⟨_, rfl⟩
  have HX : Hid (Calls Tryz.prog 20 #[.agg #[.slice P a c, .slice Q b d]] (w.alloc (.cells #[.slice P a c, .slice Q b d] 25)) fun e w' => e = .returned (.bool x) ∧ Kp (w.alloc (.cells #[.slice P a c, .slice Q b d] 25)) w') := by
    show Calls _ _ _ _ _
    rw [hx, ha, hb]
    exact few_any P Q c d t.1.length t.2.length _ la lb
  have HY : Hid (∀ W, Kp w W → Calls Tryz.prog 21 #[.slice R k e, .int .i64 10] W fun e w' => e = .returned (.bool y) ∧ Kp W w') := fun W kw => by
    rw [hy, hk]
    exact rfew9_any R e ps 10 W (hR.kp kw)
  have hq' : q = (x && y) := by rw [← hq, hx, hy]; rfl
  have p0 := F0.out.c0
  have p1 := F0.out.c1
  clear hq hx hy ha hb hk hT hR la lb
  cases x with
  | false =>
    obtain rfl : q = false := hq'
    go_enter Tryz.func9, Tryz.ntmps9
    go_wp2_with fail
    refine (Hid.out HX).mono ?_; rintro e0 w1 ⟨rfl, k1⟩
    have K1 := Lib.hid (K0.out.tr k1)
    clear k1 p0 p1
    go_wp2
    go_ret
    exact ⟨rfl, K1.out⟩
  | true =>
    obtain rfl : q = y := hq'
    go_enter Tryz.func9, Tryz.ntmps9
    go_wp2_with fail
    refine (Hid.out HX).mono ?_; rintro e0 w1 ⟨rfl, k1⟩
    have K1 := Lib.hid (K0.out.tr k1)
    clear k1 p0 p1
    go_wp2_with fail
    refine (HY.out _ K1.out).mono ?_; rintro e0 w2 ⟨rfl, k2⟩
    have K2 := Lib.hid (K1.out.tr k2)
    clear k2
    go_wp2
    go_ret
    exact ⟨rfl, K2.out⟩
end Go.Proofs.YtdbncanedokinaaGreat
