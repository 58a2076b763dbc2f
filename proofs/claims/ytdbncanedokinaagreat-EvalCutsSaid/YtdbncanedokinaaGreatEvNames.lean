/- EvalNames, over the contracts of the calls. -/
import Derived.Test.YtdbncanedokinaaGreatEvAw
import Derived.BigQuiet
import Derived.Deep.QuietTactic
namespace Go.Proofs.YtdbncanedokinaaGreat
open Go.RowKit Go.Proofs.ShM Go.Proofs.GrM Go.Proofs.InM Go.Proofs.ImM Go.Proofs.EvM
set_option linter.unusedVariables false
set_option maxRecDepth 100000
set_option linter.unusedSimpArgs false
set_option maxHeartbeats 8000000

theorem fewE_iff {t : T} {ps : List T} (h : fewE t ps = true) : (t.1.length ≤ 100 ∧ t.2.length ≤ 100) ∧ ps.length ≤ 10 ∧ ∀ u ∈ ps, u.1.length ≤ 100 ∧ u.2.length ≤ 100 := by
  unfold fewE fewT fewV at h
  simp only [Bool.and_eq_true, List.all_eq_true, decide_eq_true_eq] at h
  obtain ⟨h1, h2, h3⟩ := h
  exact ⟨h1, by omega, h2⟩
theorem sm_t {t : T} {ps : List T} (h : fewE t ps = true) (n1 : N64 t.1) (n2 : N64 t.2) : SmT t := ⟨(fewE_iff h).1.1, (fewE_iff h).1.2, n1, n2⟩
theorem sm_ts {t : T} {ps : List T} (h : fewE t ps = true) (n : ∀ u ∈ ps, N64 u.1 ∧ N64 u.2) : SmTs ps := ⟨by have := (fewE_iff h).2.1; omega, fun u hu => ⟨((fewE_iff h).2.2 u hu).1, ((fewE_iff h).2.2 u hu).2, (n u hu).1, (n u hu).2⟩⟩
/-- Whether few, answered. -/
def FewE (P Q R : Option Addr) (a b e f k d : Nat) (w : World) (q : Bool) : Prop := ∀ W, Kp w W → Calls Tryz.prog 9 #[.agg #[.slice P a e, .slice Q b f], .slice R k d] W fun e w' => e = .returned (.bool q) ∧ Kp W w'
theorem few_e {P Q R : Option Addr} {e f d : Nat} {t : T} {ps : List T} {w : World} (hT : TRc w P e Q f t) (hR : RdT w R ps) {q : Bool} (hq : fewE t ps = q) : FewE P Q R t.1.length t.2.length e f ps.length d w q :=
  fun W k => few13_any P Q R _ _ e f _ d t ps W rfl rfl rfl (hT.r.kp k) (hR.kp k) hq
def FewL (A : Option Addr) (c n : Nat) (w : World) (q : Bool) : Prop := ∀ W, Kp w W → Calls Tryz.prog 8 #[.slice A n c] W fun e w' => e = .returned (.bool q) ∧ w' = W
theorem few_l {A : Option Addr} {c : Nat} {l : List Nd} {w : World} (h : RdG w A l) {q : Bool} (hq : fewN l = q) : FewL A c l.length w q := fun W k => by rw [← hq]; exact rfew10_any A c l W (h.kp k)
def CkL (A : Option Addr) (c n : Nat) (w : World) (q : Bool) : Prop := ∀ W, Kp w W → Calls Tryz.prog 16 #[.slice A n c] W fun e w' => e = .returned (.bool q) ∧ Kp W w'
theorem trc_old {w : World} {P Q : Option Addr} {c d : Nat} {t : T} (h : TRc w P c Q d t) : (∀ ad, P = some ad → 0 < t.1.length → ad.block < w.heap.size) ∧ ∀ ad, Q = some ad → 0 < t.2.length → ad.block < w.heap.size :=
  ⟨fun ad e hp => by obtain ⟨ad', e', hb, _⟩ := h.r.s.2 hp; rw [e] at e'; injection e' with e'; subst e'; exact hb, fun ad e hp => by obtain ⟨ad', e', hb, _⟩ := h.r.d.2 hp; rw [e] at e'; injection e' with e'; subst e'; exact hb⟩
/-- A row of one tensor that is older than what is appended to. -/
theorem one_row {w w0 : World} {B : Nat} {v : Value} {done : List T} {P Q : Option Addr} {c d : Nat} {t : T} (h : TRc w0 P c Q d t) (k : Kp w0 w) (o : OwnT B w v done) (hB : w0.heap.size ≤ B) :
    RdX (w.alloc (.cells #[.slice P t.1.length c, .slice Q t.2.length d] 25)) (fun k => v.ownBlock ≠ some k) (some ⟨w.heap.size, 0, none⟩) [t] :=
  RdX.one (X := fun k => v.ownBlock ≠ some k) (h.r.kp k) (fun ad e hp e2 => by have := o.from_ e2; have := (trc_old h).1 ad e hp; omega) (fun ad e hp e2 => by have := o.from_ e2; have := (trc_old h).2 ad e hp; omega) h.c1 h.c2 _
theorem trc_at {w : World} {A : Option Addr} {ts : List T} (h : RdT w A ts) {k : Nat} (hk : k < ts.length) : ∃ ad t P c Q d, A = some ad ∧ ad.block < w.heap.size ∧ ts[k]? = some t ∧ w.cell? (ad.add (k * 2)) = some (.slice P t.1.length c) ∧ w.cell? ⟨(ad.add (k * 2)).block, (ad.add (k * 2)).off + 1, none⟩ = some (.slice Q t.2.length d) ∧ TRc w P c Q d t := by
  obtain ⟨ad, t, P, c, Q, d, e, hb, ht, h1, h2, r, _, _, b1, b2⟩ := h.at_c hk
  exact ⟨ad, t, P, c, Q, d, e, hb, ht, h1, h2, r, b1, b2⟩
theorem change_step {names : List Int} {oth : T} {ps : List T} {k : Nat} (h : k < ps.length) : (changeT names oth ps).take (k + 1) = (changeT names oth ps).take k ++ [if names.contains (k : Int) = true then ps.getD k eT else oth] := by
  rw [List.take_add_one, change_at h]; rfl
theorem same_ts (y : List T) {k : Nat} (hk : y.length = k) (W : World) (E F : Option Addr) (c d : Nat) (h : RdT W E y) (g : RdT W F y) :
    Calls Tryz.prog 12 #[.slice E k c, .slice F k d] W fun e w' => e = .returned (.bool true) ∧ Kp W w' := by
  subst hk
  refine (rsame9_any E F c d y y W h g).mono ?_
  rintro e w' ⟨rfl, k⟩
  exact ⟨by simp, k⟩

theorem enames_far (HW : ∀ w : World, Calls Tryz.prog 7 #[] w fun e w' => e = .returned (.bool true) ∧ Kp w w') (A P Q R P2 Q2 : Option Addr) (c n a b e f k d a2 b2 e2 f2 : Nat) (w : World)
    (h : FewL A c n w false ∨ FewL A c n w true ∧ (FewE P Q R a b e f k d w false ∨ FewE P Q R a b e f k d w true ∧ (FewE P2 Q2 none a2 b2 e2 f2 0 0 w false ∨ FewE P2 Q2 none a2 b2 e2 f2 0 0 w true ∧ CkL A c n w false))) :
    Calls Tryz.prog 4 #[.slice A n c, .agg #[.slice P a e, .slice Q b f], .slice R k d, .agg #[.slice P2 a2 e2, .slice Q2 b2 f2]] w fun e w' => e = .returned (.bool true) ∧ Kp w w' := by
  have HAW := Lib.hid HW
  clear HW
  have F5 : Hid (Bk ((w.alloc (.cells #[.slice P a e, .slice Q b f] 25)).alloc (.cells #[.slice P2 a2 e2, .slice Q2 b2 f2] 25)) w.heap.size P a e Q b f) := (Bk.new rfl).alloc_ _
  have F7 : Hid (Bk ((w.alloc (.cells #[.slice P a e, .slice Q b f] 25)).alloc (.cells #[.slice P2 a2 e2, .slice Q2 b2 f2] 25)) (w.heap.size + 1) P2 a2 e2 Q2 b2 f2) := Bk.new (by simp)
  have K0 : Hid (Kp w ((w.alloc (.cells #[.slice P a e, .slice Q b f] 25)).alloc (.cells #[.slice P2 a2 e2, .slice Q2 b2 f2] 25))) := (Kp.alloc_ _ _).tr (Kp.alloc_ _ _)
  rcases h with h | ⟨h, h | ⟨h2, h | ⟨h3, h4⟩⟩⟩
  · have H := Lib.hid h
    clear h
    go_enter Tryz.func4, Tryz.ntmps4
    go_wp2_with fail
    refine (HAW.out _).mono ?_; rintro e0 w1 ⟨rfl, k1⟩
    have K1 := Lib.hid (K0.out.tr k1)
    clear k1
    go_wp2_with fail
    refine (H.out _ K1.out).mono ?_; rintro e0 w2 ⟨rfl, rfl⟩
    go_wp2
    go_ret
    exact ⟨rfl, K1.out⟩
  · have H := Lib.hid h
    have HL := Lib.hid ‹FewL A c n w true›
    clear h
    go_enter Tryz.func4, Tryz.ntmps4
    go_wp2_with fail
    refine (HAW.out _).mono ?_; rintro e0 w1 ⟨rfl, k1⟩
    have K1 := Lib.hid (K0.out.tr k1)
    have F5 := Lib.hid (F5.out.kp k1)
    have p0 := F5.out.c0
    have p1 := F5.out.c1
    clear k1
    go_wp2_with fail
    refine (HL.out _ K1.out).mono ?_; rintro e0 w2 ⟨rfl, rfl⟩
    go_wp2_with fail
    refine (H.out _ K1.out).mono ?_; rintro e0 w2 ⟨rfl, k2⟩
    have K2 := Lib.hid (K1.out.tr k2)
    clear k2 p0 p1
    go_wp2
    go_ret
    exact ⟨rfl, K2.out⟩
  · have H := Lib.hid h
    have HL := Lib.hid ‹FewL A c n w true›
    have H2 := Lib.hid h2
    clear h h2
    go_enter Tryz.func4, Tryz.ntmps4
    go_wp2_with fail
    refine (HAW.out _).mono ?_; rintro e0 w1 ⟨rfl, k1⟩
    have K1 := Lib.hid (K0.out.tr k1)
    have F5 := Lib.hid (F5.out.kp k1)
    have F7 := Lib.hid (F7.out.kp k1)
    have p0 := F5.out.c0
    have p1 := F5.out.c1
    clear k1
    go_wp2_with fail
    refine (HL.out _ K1.out).mono ?_; rintro e0 w2 ⟨rfl, rfl⟩
    go_wp2_with fail
    refine (H2.out _ K1.out).mono ?_; rintro e0 w2 ⟨rfl, k2⟩
    have K2 := Lib.hid (K1.out.tr k2)
    have F7 := Lib.hid (F7.out.kp k2)
    have q0 := F7.out.c0
    have q1 := F7.out.c1
    clear k2 p0 p1
    go_wp2_with fail
    refine (H.out _ K2.out).mono ?_; rintro e0 w3 ⟨rfl, k3⟩
    have K3 := Lib.hid (K2.out.tr k3)
    clear k3 q0 q1
    go_wp2
    go_ret
    exact ⟨rfl, K3.out⟩
  · have HL := Lib.hid ‹FewL A c n w true›
    have H2 := Lib.hid h2
    have H3 := Lib.hid h3
    have H4 := Lib.hid h4
    clear h2 h3 h4
    go_enter Tryz.func4, Tryz.ntmps4
    go_wp2_with fail
    refine (HAW.out _).mono ?_; rintro e0 w1 ⟨rfl, k1⟩
    have K1 := Lib.hid (K0.out.tr k1)
    have F5 := Lib.hid (F5.out.kp k1)
    have F7 := Lib.hid (F7.out.kp k1)
    have p0 := F5.out.c0
    have p1 := F5.out.c1
    clear k1
    go_wp2_with fail
    refine (HL.out _ K1.out).mono ?_; rintro e0 w2 ⟨rfl, rfl⟩
    go_wp2_with fail
    refine (H2.out _ K1.out).mono ?_; rintro e0 w2 ⟨rfl, k2⟩
    have K2 := Lib.hid (K1.out.tr k2)
    have F7 := Lib.hid (F7.out.kp k2)
    have q0 := F7.out.c0
    have q1 := F7.out.c1
    clear k2 p0 p1
    go_wp2_with fail
    refine (H3.out _ K2.out).mono ?_; rintro e0 w3 ⟨rfl, k3⟩
    have K3 := Lib.hid (K2.out.tr k3)
    clear k3 q0 q1
    go_wp2_with fail
    refine (H4.out _ K3.out).mono ?_; rintro e0 w4 ⟨rfl, k4⟩
    have K4 := Lib.hid (K3.out.tr k4)
    clear k4
    go_wp2
    go_ret
    exact ⟨rfl, K4.out⟩

theorem enames_main (C : EvC) (A P Q R P2 Q2 : Option Addr) (c e f d e2 f2 : Nat) (l : List Nd) (t u : T) (ps : List T) (w : World) (RL : RdG w A l) (L : l.length ≤ c) (M : c ≤ 9223372036854775807) (hS : SmallG l) (hf : fewN l = true) (hc : checkB l = true)
    (RT : TRc w P e Q f t) (ST : SmT t) (RP : RdT w R ps) (SP : SmTs ps) (LP : ps.length ≤ d ∧ d ≤ 9223372036854775807) (RU : TRc w P2 e2 Q2 f2 u) (SU : SmT u) (h1 : fewE t ps = true) (h2 : fewE u [] = true) :
    Calls Tryz.prog 4 #[.slice A l.length c, .agg #[.slice P t.1.length e, .slice Q t.2.length f], .slice R ps.length d, .agg #[.slice P2 u.1.length e2, .slice Q2 u.2.length f2]] w fun e w' => e = .returned (.bool true) ∧ Kp w w' := by
  have HC := Lib.hid C
  have HAW := Lib.hid (evawake_any C)
  have HFL := Lib.hid (few_l (c := c) RL hf)
  have HF1 := Lib.hid (few_e RT RP (d := d) h1)
  have HF2 : Hid (FewE P2 Q2 none u.1.length u.2.length e2 f2 0 0 w true) := few_e (d := 0) RU (RdX.nil_ _ _ _) h2
  have HCK : Hid (CkL A c l.length w true) := fun W k => C.check A c l.length l true W (RL.kp k) L M hS rfl hc
  obtain ⟨names, hnm⟩ : ∃ names, paramsV l = names := ⟨_, rfl⟩
  obtain ⟨sh, is, hin⟩ : ∃ sh is, inputsV l = (sh, is) := ⟨_, _, rfl⟩
  obtain ⟨v, at_, err, hv⟩ : ∃ v at_ err, allE l t ps = (v, at_, err) := ⟨_, _, _, rfl⟩
  obtain ⟨ch, hch⟩ : ∃ ch, ch = changeT names u ps := ⟨_, rfl⟩
  have hall := names_all hc t u ps
  rw [hv, hnm, ← hch, hin] at hall
  have HCH := Lib.hid hch
  have hcl : ch.length = ps.length := by rw [hch, change_len]
  have hchs : SmTs ch := ⟨by rw [hcl]; exact SP.1, fun x hx => by
    obtain ⟨k, hk⟩ := List.mem_iff_getElem?.1 hx
    have hkl : k < ps.length := by rw [← hcl]; exact (List.getElem?_eq_some_iff.1 hk).1
    rw [hch, change_at hkl] at hk
    injection hk with hk
    rw [← hk]
    split
    · rw [List.getD_eq_getElem?_getD, List.getElem?_eq_getElem hkl]
      exact SP.2 _ (List.getElem_mem hkl)
    · exact SU⟩
  have HPAR : Hid (∀ W, Kp w W → Calls Tryz.prog 17 #[.slice A l.length c] W (RetG names names.length W)) := fun W k => C.params A c l.length names.length l names W (RL.kp k) L M hS rfl hnm rfl
  have HINP : Hid (∀ W, Kp w W → Calls Tryz.prog 19 #[.slice A l.length c] W (RetSh sh is sh.length W)) := fun W k => C.inputs A c l.length sh.length l (sh, is) W (RL.kp k) L M hS rfl hin rfl
  have HIN : Hid (∀ (E : Option Addr) (g : Nat) (x : Int) (W : World), Rd W E names → Calls Tryz.prog 18 #[.slice E names.length g, .int .i64 x] W fun e w' => e = .returned (.bool (names.contains x)) ∧ w' = W) := fun E g x W h => rin_any10 E g names x W h
  have HA1 : Hid (∀ W, Kp w W → Calls Tryz.prog 10 #[.slice A l.length c, .agg #[.slice P t.1.length e, .slice Q t.2.length f], .slice R ps.length d] W (RetVs v at_ err v.length W)) := fun W k =>
    C.all A P Q R c l.length t.1.length t.2.length e f ps.length d l t ps v at_ err v.length W (RL.kp k) L M hS rfl (RT.kp k) ST rfl rfl (RP.kp k) LP.1 LP.2 SP rfl hv rfl
  have HA2 : Hid (∀ W E g, Kp w W → RdT W E ch → ch.length ≤ g ∧ g ≤ 9223372036854775807 → Calls Tryz.prog 10 #[.slice A l.length c, (if is = true then .agg #[.slice P t.1.length e, .slice Q t.2.length f] else .agg #[.slice P2 u.1.length e2, .slice Q2 u.2.length f2]), .slice E ch.length g] W (RetVs v at_ err v.length W)) := fun W E g k hE hg => by
    cases is with
    | true => exact C.all A P Q E c l.length t.1.length t.2.length e f ch.length g l t ch v at_ err v.length W (RL.kp k) L M hS rfl (RT.kp k) ST rfl rfl hE hg.1 hg.2 hchs rfl hall.symm rfl
    | false => exact C.all A P2 Q2 E c l.length u.1.length u.2.length e2 f2 ch.length g l u ch v at_ err v.length W (RL.kp k) L M hS rfl (RU.kp k) SU rfl rfl hE hg.1 hg.2 hchs rfl hall.symm rfl
  have qe : ∀ x : Int, (x == x) = true := fun x => by simp
  have qe1 := qe at_
  have qe2 := qe err
  have HRP := Lib.hid RP
  have HRU := Lib.hid RU
  have hpl : ps.length ≤ 100 := SP.1
  obtain ⟨a, ha⟩ : ∃ a, a = t.1.length := ⟨_, rfl⟩
  obtain ⟨b, hb⟩ : ∃ b, b = t.2.length := ⟨_, rfl⟩
  obtain ⟨a2, ha2⟩ : ∃ a, a = u.1.length := ⟨_, rfl⟩
  obtain ⟨b2, hb2⟩ : ∃ b, b = u.2.length := ⟨_, rfl⟩
  have HUL := Lib.hid (And.intro ha2 hb2)
  rw [← ha, ← hb] at HF1 HA1 HA2 ⊢
  rw [← ha2, ← hb2] at HF2 HA2 ⊢
  have F5 : Hid (Bk ((w.alloc (.cells #[.slice P a e, .slice Q b f] 25)).alloc (.cells #[.slice P2 a2 e2, .slice Q2 b2 f2] 25)) w.heap.size P a e Q b f) := (Bk.new rfl).alloc_ _
  have F7 : Hid (Bk ((w.alloc (.cells #[.slice P a e, .slice Q b f] 25)).alloc (.cells #[.slice P2 a2 e2, .slice Q2 b2 f2] 25)) (w.heap.size + 1) P2 a2 e2 Q2 b2 f2) := Bk.new (by simp)
  have K0 : Hid (Kp w ((w.alloc (.cells #[.slice P a e, .slice Q b f] 25)).alloc (.cells #[.slice P2 a2 e2, .slice Q2 b2 f2] 25))) := (Kp.alloc_ _ _).tr (Kp.alloc_ _ _)
  clear C RL L M hS hf hc RT ST RP SP LP RU SU h1 h2 hnm hin hv hch hall hcl hchs qe ha hb ha2 hb2
  go_enter Tryz.func4, Tryz.ntmps4
  go_wp2_with fail
  refine (HAW.out _).mono ?_; rintro e0 w1 ⟨rfl, k_⟩
  have K := Lib.hid (K0.out.tr k_)
  have F5 := Lib.hid (F5.out.kp k_)
  have F7 := Lib.hid (F7.out.kp k_)
  have p0 := F5.out.c0
  have p1 := F5.out.c1
  clear k_
  go_wp2_with fail
  refine (HFL.out _ K.out).mono ?_; rintro e0 w2 ⟨rfl, rfl⟩
  go_wp2_with fail
  refine (HF1.out _ K.out).mono ?_; rintro e0 w3 ⟨rfl, k_⟩
  have K := Lib.hid (K.out.tr k_)
  have F5 := Lib.hid (F5.out.kp k_)
  have F7 := Lib.hid (F7.out.kp k_)
  have q0 := F7.out.c0
  have q1 := F7.out.c1
  clear k_ p0 p1
  go_wp2_with fail
  refine (HF2.out _ K.out).mono ?_; rintro e0 w4 ⟨rfl, k_⟩
  have K := Lib.hid (K.out.tr k_)
  have F5 := Lib.hid (F5.out.kp k_)
  have F7 := Lib.hid (F7.out.kp k_)
  clear k_ q0 q1
  go_wp2_with fail
  refine (HCK.out _ K.out).mono ?_; rintro e0 w5 ⟨rfl, k_⟩
  have K := Lib.hid (K.out.tr k_)
  have F5 := Lib.hid (F5.out.kp k_)
  have F7 := Lib.hid (F7.out.kp k_)
  clear k_
  go_wp2_with fail
  refine (HPAR.out _ K.out).mono ?_; rintro e0 w6 ⟨E6, c6, rfl, r6, _, k_⟩
  have K := Lib.hid (K.out.tr k_)
  have F5 := Lib.hid (F5.out.kp k_)
  have F7 := Lib.hid (F7.out.kp k_)
  clear k_
  go_wp2
  go_loopw [11, 12] (fun x i wx => ∃ (k : Nat) (E : Option Addr) (g : Nat) (done : List T), x = .slice E done.length g ∧ i = .int .i64 (k : Int) ∧ Hid (k ≤ ps.length) ∧ Hid (done = ch.take k) ∧ Hid (OwnT w6.heap.size wx (.slice E done.length g) done) ∧ Hid (Kp w6 wx)) (fun _ i _ => ps.length - (intOf i).toNat)
  case atStart => exact ⟨0, none, 0, [], rfl, rfl, Nat.zero_le _, (by show [] = _; rw [List.take_zero]), OwnT.nil_ _ _, Kp.refl _⟩
  case round =>
    obtain ⟨k, E, g, done, rfl, rfl, hk, hD, hO, hK⟩ := hrel
    have KW := Lib.hid (K.out.tr hK.out)
    by_cases hj : k < ps.length
    · have hj' : (k : Int) < (ps.length : Int) := by omega
      have hdl : done.length ≤ 100 := by rw [hD.out, List.length_take]; omega
      have HI := Lib.hid (HIN.out E6 c6 (k : Int) wr (r6.out.kp hK.out))
      have hst := change_step (names := names) (oth := u) hj
      rw [← HCH.out] at hst
      obtain ⟨q, hq⟩ : ∃ q, q = names.contains (k : Int) := ⟨_, rfl⟩
      rw [← hq] at HI hst
      have HST := Lib.hid hst
      clear hq hst
      cases q with
      | true =>
        obtain ⟨ad, x, P3, c3, Q3, d3, rfl, hlt, hx, g1, g2, hR3⟩ := trc_at HRP.out hj
        have HG : Hid (ps.getD k eT = x) := by show _ = _; rw [List.getD_eq_getElem?_getD, hx]; rfl
        have G1 := (KW.out.cell (p := ad.add (k * 2)) (by rw [block_of_add]; exact hlt)).trans g1
        have G2 := (KW.out.cell (p := ⟨(ad.add (k * 2)).block, (ad.add (k * 2)).off + 1, none⟩) (by rw [block_of_add]; exact hlt)).trans g2
        have HROW := Lib.hid (one_row hR3 KW.out hO.out K.out.size)
        have HO2 := Lib.hid (hO.out.kp (Kp.alloc_ wr (.cells #[.slice P3 x.1.length c3, .slice Q3 x.2.length d3] 25)))
        have HS2 : Hid (w6.heap.size ≤ (wr.alloc (.cells #[.slice P3 x.1.length c3, .slice Q3 x.2.length d3] 25)).heap.size) := by show _ ≤ _; have := hK.out.size; simp; omega
        have hlt2 := Nat.lt_of_lt_of_le hlt KW.out.size
        obtain ⟨n1, hn1⟩ : ∃ n, n = x.1.length := ⟨_, rfl⟩
        obtain ⟨n2, hn2⟩ : ∃ n, n = x.2.length := ⟨_, rfl⟩
        rw [← hn1] at G1 HROW HO2 HS2
        rw [← hn2] at G2 HROW HO2 HS2
        clear g1 g2 hx hR3 hn1 hn2
        go_wp2_with fail
        refine HI.out.mono ?_; rintro e0 w7 ⟨rfl, rfl⟩
        go_wp2_with (at_builtin; refine wpList_appT (B := w6.heap.size) rfl (.tmp 54) (.tmp 59) rfl _ done rfl HO2.out _ 1 [x] 1 rfl rfl HROW.out (by simp; omega) HS2.out ?_; intro z1 A1 c1 w8 HZ o1 b1 _; have O8 := Lib.hid o1; have K8 : Hid (Kp w6 w8) := (hK.out.tr (Kp.alloc_ _ _)).trans b1; clear o1 b1)
        go_roundw
        case rel => exact ⟨k + 1, A1, c1, z1, rfl, by go_num, (by show k + 1 ≤ ps.length; omega), (by show z1 = _; rw [HZ.out, HST.out, ← hD.out, if_pos trivial, HG.out]), O8.out, K8.out⟩
        case measure => simp [intOf]; omega
      | false =>
        have F7w := F7.out.kp hK.out
        have q0 := F7w.c0
        have q1 := F7w.c1
        have HROW := Lib.hid (one_row HRU.out KW.out hO.out K.out.size)
        rw [← HUL.out.1, ← HUL.out.2] at HROW
        have HO2 := Lib.hid (hO.out.kp (Kp.alloc_ wr (.cells #[.slice P2 a2 e2, .slice Q2 b2 f2] 25)))
        have HS2 : Hid (w6.heap.size ≤ (wr.alloc (.cells #[.slice P2 a2 e2, .slice Q2 b2 f2] 25)).heap.size) := by show _ ≤ _; have := hK.out.size; simp; omega
        clear F7w
        go_wp2_with fail
        refine HI.out.mono ?_; rintro e0 w7 ⟨rfl, rfl⟩
        go_wp2_with (at_builtin; refine wpList_appT (B := w6.heap.size) rfl (.tmp 61) (.tmp 63) rfl _ done rfl HO2.out _ 1 [u] 1 rfl rfl HROW.out (by simp; omega) HS2.out ?_; intro z1 A1 c1 w8 HZ o1 b1 _; have O8 := Lib.hid o1; have K8 : Hid (Kp w6 w8) := (hK.out.tr (Kp.alloc_ _ _)).trans b1; clear o1 b1)
        go_roundw
        case rel => exact ⟨k + 1, A1, c1, z1, rfl, by go_num, (by show k + 1 ≤ ps.length; omega), (by show z1 = _; rw [HZ.out, HST.out, ← hD.out, if_neg (by simp)]), O8.out, K8.out⟩
        case measure => simp [intOf]; omega
    · have hj' : ¬ (k : Int) < (ps.length : Int) := by omega
      have hdc : done = ch := by rw [hD.out, List.take_of_length_le (by rw [HCH.out, change_len]; omega)]
      subst hdc
      have F5w := Lib.hid (F5.out.kp hK.out)
      have F7w := Lib.hid (F7.out.kp hK.out)
      clear hD hk hj
      go_wp2_with fail
      refine (HINP.out _ KW.out).mono ?_; rintro e0 w7 ⟨E7, c7, rfl, _, _, k_⟩
      have K := Lib.hid (KW.out.tr k_)
      have F5 := Lib.hid (F5w.out.kp k_)
      have F7 := Lib.hid (F7w.out.kp k_)
      have HO := Lib.hid (hO.out.kp k_)
      clear k_
      cases is with
      | true =>
        simp only [if_true] at HA2
        have q0 := F7.out.c0
        have q1 := F7.out.c1
        have q2 := (F5.out.alloc_ (.cells #[.slice P2 a2 e2, .slice Q2 b2 f2] 25)).c0
        have q3 := (F5.out.alloc_ (.cells #[.slice P2 a2 e2, .slice Q2 b2 f2] 25)).c1
        have q4 := (F5.out.alloc_ (.cells #[.slice P a e, .slice Q b f] 25)).c0
        have q5 := (F5.out.alloc_ (.cells #[.slice P a e, .slice Q b f] 25)).c1
        have F15 : Hid (Bk (w7.alloc (.cells #[.slice P a e, .slice Q b f] 25)) w7.heap.size P a e Q b f) := Bk.new rfl
        have K7 : Hid (Kp w7 (w7.alloc (.cells #[.slice P a e, .slice Q b f] 25))) := Kp.alloc_ _ _
        go_wp2_with fail
        refine (HA1.out _ (K.out.tr K7.out)).mono ?_; rintro e0 w8 ⟨E8, c8, rfl, r8, _, k_⟩
        have K8 := Lib.hid (K7.out.tr k_)
        have F15 := Lib.hid (F15.out.kp k_)
        have p0 := F15.out.c0
        have p1 := F15.out.c1
        obtain ⟨A9, c9, e9, m9, l9⟩ := (HO.out.kp K8.out).form
        injection e9 with e91 e92 e93
        subst e91 e93
        have M9 := Lib.hid m9
        have L9 := Lib.hid l9
        clear k_ q0 q1 q2 q3 q4 q5 e92 m9 l9
        go_wp2_with fail
        refine (HA2.out _ _ _ (K.out.tr K8.out) M9.out L9.out).mono ?_; rintro e0 w10 ⟨E10, c10, rfl, r10, _, k_⟩
        have K := Lib.hid ((K.out.tr K8.out).tr k_)
        have r8 := Lib.hid (r8.out.kp k_)
        clear k_ p0 p1
        go_wp2_with fail
        refine (same_ts v rfl _ E8 E10 c8 c10 r8.out r10.out).mono ?_; rintro e0 w11 ⟨rfl, k_⟩
        have K := Lib.hid (K.out.tr k_)
        clear k_
        go_wp2
        go_ret
        exact ⟨rfl, K.out⟩
      | false =>
        simp only [Bool.false_eq_true, if_false] at HA2
        have q0 := F7.out.c0
        have q1 := F7.out.c1
        have q4 := (F5.out.alloc_ (.cells #[.slice P2 a2 e2, .slice Q2 b2 f2] 25)).c0
        have q5 := (F5.out.alloc_ (.cells #[.slice P2 a2 e2, .slice Q2 b2 f2] 25)).c1
        have F15 : Hid (Bk (w7.alloc (.cells #[.slice P2 a2 e2, .slice Q2 b2 f2] 25)) w7.heap.size P2 a2 e2 Q2 b2 f2) := Bk.new rfl
        have K7 : Hid (Kp w7 (w7.alloc (.cells #[.slice P2 a2 e2, .slice Q2 b2 f2] 25))) := Kp.alloc_ _ _
        go_wp2_with fail
        refine (HA1.out _ (K.out.tr K7.out)).mono ?_; rintro e0 w8 ⟨E8, c8, rfl, r8, _, k_⟩
        have K8 := Lib.hid (K7.out.tr k_)
        have F15 := Lib.hid (F15.out.kp k_)
        have p0 := F15.out.c0
        have p1 := F15.out.c1
        obtain ⟨A9, c9, e9, m9, l9⟩ := (HO.out.kp K8.out).form
        injection e9 with e91 e92 e93
        subst e91 e93
        have M9 := Lib.hid m9
        have L9 := Lib.hid l9
        clear k_ q0 q1 q4 q5 e92 m9 l9
        go_wp2_with fail
        refine (HA2.out _ _ _ (K.out.tr K8.out) M9.out L9.out).mono ?_; rintro e0 w10 ⟨E10, c10, rfl, r10, _, k_⟩
        have K := Lib.hid ((K.out.tr K8.out).tr k_)
        have r8 := Lib.hid (r8.out.kp k_)
        clear k_ p0 p1
        go_wp2_with fail
        refine (same_ts v rfl _ E8 E10 c8 c10 r8.out r10.out).mono ?_; rintro e0 w11 ⟨rfl, k_⟩
        have K := Lib.hid (K.out.tr k_)
        clear k_
        go_wp2
        go_ret
        exact ⟨rfl, K.out⟩
theorem enames_walk (C : EvC) (A P Q R P2 Q2 : Option Addr) (c e f d e2 f2 : Nat) (l : List Nd) (t u : T) (ps : List T) (w : World) (RL : RdG w A l) (N : ∀ t ∈ l, Nd64 t) (L : l.length ≤ c) (M : c ≤ 9223372036854775807)
    (RT : TRc w P e Q f t) (n1 : N64 t.1 ∧ N64 t.2) (RP : RdT w R ps) (NP : ∀ t ∈ ps, N64 t.1 ∧ N64 t.2) (LP : ps.length ≤ d ∧ d ≤ 9223372036854775807) (RU : TRc w P2 e2 Q2 f2 u) (n2 : N64 u.1 ∧ N64 u.2) :
    Calls Tryz.prog 4 #[.slice A l.length c, .agg #[.slice P t.1.length e, .slice Q t.2.length f], .slice R ps.length d, .agg #[.slice P2 u.1.length e2, .slice Q2 u.2.length f2]] w fun e w' => e = .returned (.bool true) ∧ Kp w w' := by
  cases hf : fewN l with
  | false => exact enames_far (evawake_any C) A P Q R P2 Q2 c _ _ _ e f _ d _ _ e2 f2 w (.inl (few_l RL hf))
  | true =>
  cases h1 : fewE t ps with
  | false => exact enames_far (evawake_any C) A P Q R P2 Q2 c _ _ _ e f _ d _ _ e2 f2 w (.inr ⟨few_l RL hf, .inl (few_e RT RP h1)⟩)
  | true =>
  have h2' : FewE P2 Q2 none u.1.length u.2.length e2 f2 0 0 w (fewE u []) := few_e (d := 0) RU (RdX.nil_ _ _ _) rfl
  cases h2 : fewE u [] with
  | false => rw [h2] at h2'; exact enames_far (evawake_any C) A P Q R P2 Q2 c _ _ _ e f _ d _ _ e2 f2 w (.inr ⟨few_l RL hf, .inr ⟨few_e RT RP h1, .inl h2'⟩⟩)
  | true =>
  rw [h2] at h2'
  have hS := small_few hf N
  cases hc : checkB l with
  | false => exact enames_far (evawake_any C) A P Q R P2 Q2 c _ _ _ e f _ d _ _ e2 f2 w (.inr ⟨few_l RL hf, .inr ⟨few_e RT RP h1, .inr ⟨h2', fun W k => C.check A c l.length l false W (RL.kp k) L M hS rfl hc⟩⟩⟩)
  | true => exact enames_main C A P Q R P2 Q2 c e f d e2 f2 l t u ps w RL L M hS hf hc RT (sm_t h1 n1.1 n1.2) RP (sm_ts h1 NP) LP RU (sm_t h2 n2.1 n2.2) h1 h2
end Go.Proofs.YtdbncanedokinaaGreat
