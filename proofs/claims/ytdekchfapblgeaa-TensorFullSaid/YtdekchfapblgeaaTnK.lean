/- The calls of layer 3 at any lengths, the answers written out; those whose answers the document fixes are as it says (awake). -/
import Derived.Test.YtdekchfapblgeaaTnJ
namespace Go.Proofs.Ytdekchfapblgeaa
open Go.RowKit Go.Proofs.ShM

/-- A tensor that is there. -/
structure TR (w : World) (A : Option Addr) (l : List Int) (B : Option Addr) (m : List Int) : Prop where
  s : Rd w A l
  d : Rd w B m
theorem TR.kp {w w' : World} {A B : Option Addr} {l m : List Int} (h : TR w A l B m) (k : Kp w w') : TR w' A l B m := ⟨h.s.kp k, h.d.kp k⟩
theorem TR.alloc_ {w : World} {A B : Option Addr} {l m : List Int} (h : TR w A l B m) (o : Obj) : TR (w.alloc o) A l B m := h.kp (Kp.alloc_ w o)
/-- The answer is the tensor, so many sides and numbers, and the error. -/
def RetU (l m : List Int) (a b : Nat) (err : Int) (w : World) (e : Ending) (w' : World) : Prop :=
  ∃ A c B d, e = .returned (.tuple #[.agg #[.slice A a c, .slice B b d], .int .i64 err]) ∧ TR w' A l B m ∧ Kp w w'
theorem RetT.u {r : Tn} {l m : List Int} {a b : Nat} {err : Int} {w : World} {e : Ending} {w' : World} (h : RetT r w e w') (hr : r = (l, m, err)) (ha : l.length = a) (hb : m.length = b) : RetU l m a b err w e w' := by
  subst hr ha hb
  obtain ⟨A, c, B, d, h1, h2, h3, h4⟩ := h
  exact ⟨A, c, B, d, h1, ⟨h2, h3⟩, h4⟩

section
variable {A B C : Option Addr} {c d e n m o a b : Nat} {l k : List Int} {err : Int} {w : World}
theorem spread_u (s xs g : List Int) (h : TR w A s B xs) (hC : Rd w C g) (hn : n = s.length) (hm : m = xs.length) (ho : o = g.length) (hr : spreadV s xs g = (l, k, err)) (ha : l.length = a) (hb : k.length = b) :
    Calls Try.prog 16 #[.agg #[.slice A n c, .slice B m d], .slice C o e] w (RetU l k a b err w) := by
  subst hn hm ho
  exact (spread_any A B C c d e s xs g w h.s h.d hC).mono fun _ _ r => r.u hr ha hb
theorem fold_u (g xs s : List Int) (h : TR w A g B xs) (hC : Rd w C s) (hi : I64s xs) (hn : n = g.length) (hm : m = xs.length) (ho : o = s.length) (hr : foldV g xs s = (l, k, err)) (ha : l.length = a) (hb : k.length = b) :
    Calls Try.prog 18 #[.agg #[.slice A n c, .slice B m d], .slice C o e] w (RetU l k a b err w) := by
  subst hn hm ho
  exact (fold_any A B C c d e g xs s w h.s h.d hC hi).mono fun _ _ r => r.u hr ha hb
theorem with_u (s xs t : List Int) (x : Int) (h : TR w A s B xs) (hC : Rd w C t) (hn : n = s.length) (hm : m = xs.length) (ho : o = t.length) (hr : withV s xs t x = (l, k, err)) (ha : l.length = a) (hb : k.length = b) :
    Calls Try.prog 14 #[.agg #[.slice A n c, .slice B m d], .slice C o e, .int .i64 x] w (RetU l k a b err w) := by
  subst hn hm ho
  exact (with_any A B C c d e s xs t x w h.s h.d hC).mono fun _ _ r => r.u hr ha hb
theorem full_u (s : List Int) (x : Int) (h : Rd w A s) (hn : n = s.length) (hr : fullV s x = (l, k, err)) (ha : l.length = a) (hb : k.length = b) :
    Calls Try.prog 11 #[.slice A n c, .int .i64 x] w (RetU l k a b err w) := by
  subst hn
  exact (full_any A c s x w h).mono fun _ _ r => r.u hr ha hb
theorem at_u (s xs t : List Int) (h : TR w A s B xs) (hC : Rd w C t) (hn : n = s.length) (hm : m = xs.length) (ho : o = t.length) {x : Int} (hr : atV s xs t = (x, err)) :
    Calls Try.prog 20 #[.agg #[.slice A n c, .slice B m d], .slice C o e] w (RetK x err w) := by
  subst hn hm ho
  have hh := at_any A B C c d e s xs t w h.s h.d hC
  rw [hr] at hh
  exact hh
theorem tcheck_u (s xs : List Int) (h : TR w A s B xs) (hn : n = s.length) (hm : m = xs.length) {r : Bool} (hr : tokV s xs = r) :
    Calls Try.prog 22 #[.agg #[.slice A n c, .slice B m d]] w fun e w' => e = .returned (.bool r) ∧ Kp w w' := by
  subst hn hm hr
  exact tcheck_any A B c d s xs w h.s h.d
end
theorem Rd.three_ {w : World} {x y z : Int} {t : TypeId} {g : Nat} (hg : g = w.heap.size) : Rd (w.alloc (.cells #[.int .i64 x, .int .i64 y, .int .i64 z] t)) (some ⟨g, 0, none⟩) [x, y, z] := Rd.litg w [x, y, z] (by simp) t g hg

/-- A tensor's box. -/
structure Bx (W : World) (b : Nat) (A : Option Addr) (n c : Nat) (B : Option Addr) (m d : Nat) : Prop where
  c0 : W.cell? ⟨b, 0, none⟩ = some (.slice A n c)
  c1 : W.cell? ⟨b, 1, none⟩ = some (.slice B m d)
  lt : b < W.heap.size
theorem Bx.kp {W W' : World} {b n c m d : Nat} {A B : Option Addr} (h : Bx W b A n c B m d) (k : Kp W W') : Bx W' b A n c B m d :=
  ⟨(k.cell (p := ⟨b, 0, none⟩) h.lt).trans h.c0, (k.cell (p := ⟨b, 1, none⟩) h.lt).trans h.c1, Nat.lt_of_lt_of_le h.lt k.size⟩
theorem Bx.alloc_ {W : World} {b n c m d : Nat} {A B : Option Addr} (h : Bx W b A n c B m d) (o : Obj) : Bx (W.alloc o) b A n c B m d := h.kp (Kp.alloc_ W o)
theorem Bx.new {W : World} {b n c m d : Nat} {A B : Option Addr} {t : TypeId} (h : b = W.heap.size) : Bx (W.alloc (.cells #[.slice A n c, .slice B m d] t)) b A n c B m d := by
  subst h; exact ⟨by simp, by simp, by simp⟩

set_option maxHeartbeats 4000000 in
set_option maxRecDepth 100000 in
theorem tnawake_any (w : World) : Calls Try.prog 9 #[] w fun e w' => e = .returned (.bool true) ∧ Kp w w' := by
  go_enter Try.func9, Try.ntmps9
  go_wp2_with fail
  refine (spread_u [3] [1, 2, 3] [2, 3] (a := 2) (b := 6) ⟨(((Rd.one_ rfl).alloc_ _).alloc_ _).alloc_ _, ((Rd.three_ (by simp)).alloc_ _).alloc_ _⟩ (Rd.two_ (by simp)) rfl rfl rfl (l := [2, 3]) (k := [1, 2, 3, 1, 2, 3]) (err := 0) (by decide) rfl rfl).mono ?_
  rintro e w1 ⟨A1, c1, B1, d1, rfl, t1, k1⟩
  have K1 := Lib.hid ((((Kp.alloc_ _ _).al _).al _).al _ |>.tr k1)
  have TT : Hid (TR w1 (some ⟨w.heap.size, 0, none⟩) [3] (some ⟨w.heap.size + 1, 0, none⟩) [1, 2, 3]) := TR.kp ⟨(((Rd.one_ rfl).alloc_ _).alloc_ _).alloc_ _, ((Rd.three_ (by simp)).alloc_ _).alloc_ _⟩ k1
  have TB : Hid (Bx w1 (w.heap.size + 1 + 1) (some ⟨w.heap.size, 0, none⟩) 1 1 (some ⟨w.heap.size + 1, 0, none⟩) 3 3) := ((Bx.new (by simp)).alloc_ _).kp k1
  have ST := Lib.hid t1
  clear k1 t1
  go_wp2_with fail
  refine (fold_u [2, 3] [1, 2, 3, 1, 2, 3] [3] (a := 1) (b := 3) ((ST.out.alloc_ _).alloc_ _) (Rd.one_ (by simp)) (by unfold I64s; decide) rfl rfl rfl (l := [3]) (k := [2, 4, 6]) (err := 0) (by decide) rfl rfl).mono ?_
  rintro e w2 ⟨A2, c2, B2, d2, rfl, t2, k2⟩
  have K2 := Lib.hid (K1.out.tr (((Kp.alloc_ _ _).al _).tr k2))
  have TT := Lib.hid (((TT.out.alloc_ _).alloc_ _).kp k2)
  have TB := Lib.hid (((TB.out.alloc_ _).alloc_ _).kp k2)
  have ST := Lib.hid (((ST.out.alloc_ _).alloc_ _).kp k2)
  have SB : Hid (Bx w2 w1.heap.size A1 2 c1 B1 6 d1) := ((Bx.new rfl).alloc_ _).kp k2
  have FT := Lib.hid t2
  clear k2 t2
  obtain ⟨s0, s1, sl⟩ := SB.out
  go_wp2_with fail
  refine (at_u [2, 3] [1, 2, 3, 1, 2, 3] [1, 2] ((ST.out.alloc_ _).alloc_ _) (Rd.two_ (by simp)) rfl rfl rfl (x := 3) (err := 0) (by decide)).mono ?_
  rintro e w3 ⟨rfl, k3⟩
  have K3 := Lib.hid (K2.out.tr (((Kp.alloc_ _ _).al _).tr k3))
  have TT := Lib.hid (((TT.out.alloc_ _).alloc_ _).kp k3)
  have TB := Lib.hid (((TB.out.alloc_ _).alloc_ _).kp k3)
  have ST := Lib.hid (((ST.out.alloc_ _).alloc_ _).kp k3)
  have SB := Lib.hid (((SB.out.alloc_ _).alloc_ _).kp k3)
  have FT := Lib.hid (((FT.out.alloc_ _).alloc_ _).kp k3)
  have FB : Hid (Bx w3 w2.heap.size A2 1 c2 B2 3 d2) := ((Bx.new rfl).alloc_ _).kp k3
  clear k3 s0 s1 sl
  obtain ⟨t0, t1, tl⟩ := TB.out
  go_wp2_with fail
  refine (with_u [3] [1, 2, 3] [0] 9 (a := 1) (b := 3) (TT.out.alloc_ _) (Rd.one_ (by simp)) rfl rfl rfl (l := [3]) (k := [9, 2, 3]) (err := 0) (by decide) rfl rfl).mono ?_
  rintro e w4 ⟨A4, c4, B4, d4, rfl, t4, k4⟩
  have K4 := Lib.hid (K3.out.tr ((Kp.alloc_ _ _).tr k4))
  have TT := Lib.hid ((TT.out.alloc_ _).kp k4)
  have TB := Lib.hid ((TB.out.alloc_ _).kp k4)
  have ST := Lib.hid ((ST.out.alloc_ _).kp k4)
  have SB := Lib.hid ((SB.out.alloc_ _).kp k4)
  have FT := Lib.hid ((FT.out.alloc_ _).kp k4)
  have FB := Lib.hid ((FB.out.alloc_ _).kp k4)
  have WT := Lib.hid t4
  clear k4 t4 t0 t1 tl
  go_wp2_with fail
  refine (full_u [2] 7 (a := 1) (b := 2) (Rd.one_ (by simp)) rfl (l := [2]) (k := [7, 7]) (err := 0) (by decide) rfl rfl).mono ?_
  rintro e w5 ⟨A5, c5, B5, d5, rfl, t5, k5⟩
  have K5 := Lib.hid (K4.out.tr (((Kp.alloc_ _ _).al _).tr k5))
  have TT := Lib.hid (((TT.out.alloc_ _).alloc_ _).kp k5)
  have TB := Lib.hid (((TB.out.alloc_ _).alloc_ _).kp k5)
  have ST := Lib.hid (((ST.out.alloc_ _).alloc_ _).kp k5)
  have SB := Lib.hid (((SB.out.alloc_ _).alloc_ _).kp k5)
  have FT := Lib.hid (((FT.out.alloc_ _).alloc_ _).kp k5)
  have FB := Lib.hid (((FB.out.alloc_ _).alloc_ _).kp k5)
  have WT := Lib.hid (((WT.out.alloc_ _).alloc_ _).kp k5)
  have WB : Hid (Bx w5 w4.heap.size A4 1 c4 B4 3 d4) := ((Bx.new rfl).alloc_ _).kp k5
  have UT := Lib.hid t5
  clear k5 t5
  go_wp2_with fail
  refine (at_u [2] [] [] ⟨Rd.one_ (by simp), Rd.nil _ _⟩ (Rd.nil _ _) rfl rfl rfl (x := 0) (err := 30) (by decide)).mono ?_
  rintro e w6 ⟨rfl, k6⟩
  have K6 := Lib.hid (K5.out.tr (((Kp.alloc_ _ _).al _).tr k6))
  have TT := Lib.hid (((TT.out.alloc_ _).alloc_ _).kp k6)
  have TB := Lib.hid (((TB.out.alloc_ _).alloc_ _).kp k6)
  have ST := Lib.hid (((ST.out.alloc_ _).alloc_ _).kp k6)
  have SB := Lib.hid (((SB.out.alloc_ _).alloc_ _).kp k6)
  have FT := Lib.hid (((FT.out.alloc_ _).alloc_ _).kp k6)
  have FB := Lib.hid (((FB.out.alloc_ _).alloc_ _).kp k6)
  have WT := Lib.hid (((WT.out.alloc_ _).alloc_ _).kp k6)
  have WB := Lib.hid (((WB.out.alloc_ _).alloc_ _).kp k6)
  have UT := Lib.hid (((UT.out.alloc_ _).alloc_ _).kp k6)
  have UB : Hid (Bx w6 w5.heap.size A5 1 c5 B5 2 d5) := ((Bx.new rfl).alloc_ _).kp k6
  clear k6
  obtain ⟨s0, s1, sl⟩ := SB.out
  go_wp2_with fail
  refine (same_n [1, 2, 3, 1, 2, 3] [1, 2, 3, 1, 2, 3] (ST.out.alloc_ _).d (Rd.litg _ [1, 2, 3, 1, 2, 3] (by simp) _ _ rfl) rfl rfl (r := true) (by decide)).mono ?_
  rintro e w7 ⟨rfl, q7, h7⟩
  have k7 : Kp w6 w7 := (Kp.alloc_ _ _).tr (by rw [h7]; exact Kp.drewN_ _ _)
  have K7 := Lib.hid (K6.out.tr k7)
  have TT := Lib.hid (TT.out.kp k7)
  have TB := Lib.hid (TB.out.kp k7)
  have FT := Lib.hid (FT.out.kp k7)
  have FB := Lib.hid (FB.out.kp k7)
  have WT := Lib.hid (WT.out.kp k7)
  have WB := Lib.hid (WB.out.kp k7)
  have UT := Lib.hid (UT.out.kp k7)
  have UB := Lib.hid (UB.out.kp k7)
  clear k7 h7 s0 s1 sl
  obtain ⟨s0, s1, sl⟩ := FB.out
  go_wp2_with fail
  refine (same_n [2, 4, 6] [2, 4, 6] (FT.out.alloc_ _).d (Rd.three_ rfl) rfl rfl (r := true) (by decide)).mono ?_
  rintro e w8 ⟨rfl, q8, h8⟩
  have k8 : Kp w7 w8 := (Kp.alloc_ _ _).tr (by rw [h8]; exact Kp.drewN_ _ _)
  have K8 := Lib.hid (K7.out.tr k8)
  have TT := Lib.hid (TT.out.kp k8)
  have TB := Lib.hid (TB.out.kp k8)
  have WT := Lib.hid (WT.out.kp k8)
  have WB := Lib.hid (WB.out.kp k8)
  have UT := Lib.hid (UT.out.kp k8)
  have UB := Lib.hid (UB.out.kp k8)
  clear k8 h8 s0 s1 sl
  obtain ⟨s0, s1, sl⟩ := WB.out
  go_wp2_with fail
  refine (same_n [9, 2, 3] [9, 2, 3] (WT.out.alloc_ _).d (Rd.three_ rfl) rfl rfl (r := true) (by decide)).mono ?_
  rintro e w9 ⟨rfl, q9, h9⟩
  have k9 : Kp w8 w9 := (Kp.alloc_ _ _).tr (by rw [h9]; exact Kp.drewN_ _ _)
  have K9 := Lib.hid (K8.out.tr k9)
  have TT := Lib.hid (TT.out.kp k9)
  have TB := Lib.hid (TB.out.kp k9)
  have UT := Lib.hid (UT.out.kp k9)
  have UB := Lib.hid (UB.out.kp k9)
  clear k9 h9 s0 s1 sl
  obtain ⟨s0, s1, sl⟩ := UB.out
  go_wp2_with fail
  refine (same_n [7, 7] [7, 7] (UT.out.alloc_ _).d (Rd.two_ rfl) rfl rfl (r := true) (by decide)).mono ?_
  rintro e w10 ⟨rfl, q10, h10⟩
  have k10 : Kp w9 w10 := (Kp.alloc_ _ _).tr (by rw [h10]; exact Kp.drewN_ _ _)
  have K10 := Lib.hid (K9.out.tr k10)
  have TT := Lib.hid (TT.out.kp k10)
  have TB := Lib.hid (TB.out.kp k10)
  clear k10 h10 s0 s1 sl
  obtain ⟨s0, s1, sl⟩ := TB.out
  go_wp2_with fail
  refine (tcheck_u [3] [1, 2, 3] TT.out rfl rfl (r := true) (by decide)).mono ?_
  rintro e w11 ⟨rfl, k11⟩
  go_wp2
  go_ret
  exact ⟨rfl, K10.out.tr k11⟩
end Go.Proofs.Ytdekchfapblgeaa
