/- What was put is taken again, whatever stands behind; bytes of which a list was taken are its bytes, and the rest: the law's call returns true. -/
import Derived.Test.YtngdblojglcfpaaPkCuts
import Derived.Deep.Cut
import Derived.Deep.CutBlock
import Derived.Deep.CutRange
import Derived.Deep.DeepCutAuto
namespace Go.Proofs.Ytngdblojglcfpaa
open Go.RowKit Go.Proofs.ShM Go.Proofs.PkM
set_option linter.unusedVariables false

theorem put_cases8 (b : List Int) (n size : Int) : (mayB n size = true ∧ putV b n size = (b ++ byteL n size.toNat, 0)) ∨ (mayB n size = false ∧ putV b n size = ([], 40)) := by
  unfold putV
  cases h : mayB n size with
  | true => exact Or.inl ⟨rfl, by rw [if_pos rfl]⟩
  | false => exact Or.inr ⟨rfl, by rw [if_neg (by simp)]⟩
theorem take_cases8 (b : List Int) (size : Int) : (∃ v r, takeListV b size = (v, r, 0)) ∨ takeListV b size = ([], [], 40) := by
  unfold takeListV
  split
  · split
    · exact Or.inl ⟨_, _, rfl⟩
    · exact Or.inr rfl
  · exact Or.inr rfl
theorem take_i64 {b u v : List Int} {size : Int} (hb : Bytes b) (h : takeListV b size = (u, v, 0)) : I64l u := by
  unfold takeListV at h
  split at h
  · rename_i g
    split at h
    · rename_i l r hm
      injection h with h1 h2
      subst h1
      exact (many_back g.1 (fun x hx => hb x (List.mem_of_mem_drop hx)) hm).2.2.1
    · injection h with _ h; injection h with _ h; cases h
  · injection h with _ h; injection h with _ h; cases h
theorem siz_8 {size : Int} (h : sizB size = true) : size.toNat ≤ 8 := by rcases siz_cases h with rfl | rfl | rfl <;> decide
theorem B8.own_rd {B n c : Nat} {A : Option Addr} {xs : List Int} {w : World} (h : B8.Own B w (.slice A n c) xs) : B8.Rd w A xs ∧ xs.length ≤ c ∧ c ≤ 9223372036854775807 := by
  obtain ⟨A', c', e, h1, h2, h3⟩ := h.ints
  injection e with e1 e2 e3
  subst e1 e2 e3
  exact ⟨h3, h1, by unfold maxLen at h2; omega⟩
theorem str_self (bs : List Int) : ((strOfNums bs).toList == (strOfNums bs).toList) = true := by simp

set_option maxHeartbeats 4000000 in
theorem pback_far (HW : ∀ w : World, Calls Try.prog 8 #[] w fun e w' => e = .returned (.bool true) ∧ Kp w w') (A B : Option Addr) (c d p q : Nat) (n size : Int) (w : World) (h : ((3000 : Int) < (q : Int)) ∨ (¬ (3000 : Int) < (q : Int)) ∧ (300 : Int) < (p : Int)) (hp : p ≤ 9223372036854775807) (hq : q ≤ 9223372036854775807) :
    Calls Try.prog 3 #[.int .i64 n, .slice A p c, .int .i64 size, .slice B q d] w fun e w' => e = .returned (.bool true) ∧ Kp w w' := by
  have HAW := Lib.hid HW
  clear HW
  rcases h with h | ⟨h, g⟩
  all_goals
    go_enter Try.func3, Try.ntmps3
    go_wp2_with fail
    refine (HAW.out _).mono ?_; rintro e0 w1 ⟨rfl, k1⟩
    go_wp2
    go_ret
    exact ⟨rfl, k1⟩

set_option maxHeartbeats 8000000 in
set_option maxRecDepth 100000 in
theorem pback_with (A B : Option Addr) (c d p q : Nat) (n size : Int) (l bh ra rr rb y s u v cc : List Int) (x : Int) (e1 e2 e3 e4 e5 e6 : Int) (a1 b1 a3 b2 b3 m4 m5 a6 : Nat) (w : World)
    (h1 : ¬ (3000 : Int) < (q : Int)) (h2 : ¬ (300 : Int) < (p : Int)) (hq3 : q ≤ 3000) (RL : Hid (Rd w A l)) (RB : Hid (B8.Rd w B bh)) (LL : Hid (l.length = p ∧ bh.length = q ∧ ra.length = a1 ∧ rb.length = a3 ∧ a1 ≤ 3000 ∧ a3 ≤ 3000 ∧ rr.length = b1 ∧ y.length = m4 ∧ s.length = b2 ∧ v.length = b3 ∧ cc.length = a6))
    (HW : Hid (∀ w : World, Calls Try.prog 8 #[] w fun e w' => e = .returned (.bool true) ∧ Kp w w'))
    (H1 : Hid (e1 = 40 ∨ (e1 = 0 ∧ e2 = 0 ∧ x = n ∧ rr = bh))) (H2 : Hid (e3 = 40 ∨ (e3 = 0 ∧ e4 = 0 ∧ y = l ∧ s = bh))) (H3 : Hid (e5 = 40 ∨ (e5 = 0 ∧ e6 = 0 ∧ cc ++ v = bh)))
    (C1 : Hid (∀ W, Kp w W → Calls Try.prog 9 #[.slice none 0 0, .int .i64 n, .int .i64 size] W (RetB ra e1 a1 W)))
    (C2 : Hid (∀ W D c0 k, B8.Rd W D (ra ++ bh) → (ra ++ bh).length ≤ c0 → c0 ≤ 9223372036854775807 → k = (ra ++ bh).length → Calls Try.prog 10 #[.slice D k c0, .int .i64 size] W (RetNB x rr e2 b1 W)))
    (C3 : Hid (∀ W, Kp w W → Calls Try.prog 11 #[.slice none 0 0, .slice A p c, .int .i64 size] W (RetB rb e3 a3 W)))
    (C4 : Hid (∀ W D c0 k, B8.Rd W D (rb ++ bh) → (rb ++ bh).length ≤ c0 → c0 ≤ 9223372036854775807 → k = (rb ++ bh).length → Calls Try.prog 12 #[.slice D k c0, .int .i64 size] W (RetLB y s e4 m4 b2 W)))
    (C5 : Hid (∀ W, Kp w W → Calls Try.prog 12 #[.slice B q d, .int .i64 size] W (RetLB u v e5 m5 b3 W)))
    (C6 : Hid (∀ W D d0, Rd W D u → Calls Try.prog 11 #[.slice none 0 0, .slice D m5 d0, .int .i64 size] W (RetB cc e6 a6 W))) :
    Calls Try.prog 3 #[.int .i64 n, .slice A p c, .int .i64 size, .slice B q d] w fun e w' => e = .returned (.bool true) ∧ Kp w w' := by
  go_enter Try.func3, Try.ntmps3
  go_wp2_with fail
  refine (HW.out _).mono ?_; rintro e0 w1 ⟨rfl, k1⟩
  have K := Lib.hid k1
  clear k1
  go_wp2_with fail
  refine (C1.out _ K.out).mono ?_; rintro e0 w2 ⟨A2, c2, rfl, rA2, l2, k2⟩
  have K := Lib.hid (K.out.tr k2)
  clear k2
  go_wp2_with (first
    | (at_builtin; refine B8.wpList_app (B := w2.heap.size) rfl (.tmp 44) (.tmp 45) rfl _ [] rfl (B8.Own.zero w2 (Nat.le_refl _)) A2 c2 ra _ rfl LL.out.2.2.1.symm (rA2.out.alloc_ _) (by have := LL.out.2.2.2.2.1; have := LL.out.2.2.1; simp; omega) (by simp) ?_; intro z30 D30 f30 v30 HZ30 o30 b30_; have HO30 := Lib.hid o30; have RB30 := Lib.hid (RB.out.kp (K.out.tr ((Kp.alloc_ _ _).trans b30_))); have HS30 := Lib.hid b30_.size; have HB30 := Lib.hid b30_; clear o30 b30_)
    | (at_builtin; refine B8.wpList_app (B := w2.heap.size) rfl (.tmp 46) (.tmp 47) rfl _ z30 rfl HO30.out B d bh _ rfl LL.out.2.1.symm RB30.out (by have e1 := LL.out.2.1; have e2 := LL.out.2.2.1; have e3 := LL.out.2.2.2.2.1; rw [HZ30.out]; simp; omega) (by have := HS30.out; rw [World.size_alloc] at this; omega) ?_; intro y30 E30 g30 u30 HY30 o30 b30_; have HP30 := Lib.hid o30; have HQ30 := Lib.hid b30_; clear o30 b30_))
  have e300 : z30 = ra := by have := HZ30.out; simpa using this
  have e301 : y30 = ra ++ bh := by rw [HY30.out, e300]
  subst e301
  have kk30 : Kp w2 u30 := ((Kp.alloc_ _ _).trans HB30.out).trans HQ30.out
  obtain ⟨ra30, rb30, rc30⟩ := B8.own_rd HP30.out
  have K := Lib.hid (K.out.tr kk30)
  refine (C2.out _ _ _ _ ra30 rb30 rc30 rfl).mono ?_; rintro e0 w5 ⟨A5, c5, rfl, r5, l5, k5⟩
  have K := Lib.hid (K.out.tr k5)
  clear k5 HO30 RB30 HS30 HB30 HP30 HQ30 HZ30 HY30 e300 kk30 ra30 rb30 rc30 rA2 l2
  go_wp2_with fail
  refine (C3.out _ K.out).mono ?_; rintro e0 w6 ⟨A6, c6, rfl, rA6, l6, k6⟩
  have r5 := Lib.hid (r5.out.kp k6)
  have K := Lib.hid (K.out.tr k6)
  clear k6
  go_wp2_with (first
    | (at_builtin; refine B8.wpList_app (B := w6.heap.size) rfl (.tmp 61) (.tmp 62) rfl _ [] rfl (B8.Own.zero w6 (Nat.le_refl _)) A6 c6 rb _ rfl LL.out.2.2.2.1.symm (rA6.out.alloc_ _) (by have := LL.out.2.2.2.2.2.1; have := LL.out.2.2.2.1; simp; omega) (by simp) ?_; intro z40 D40 f40 v40 HZ40 o40 b40_; have HO40 := Lib.hid o40; have RB40 := Lib.hid (RB.out.kp (K.out.tr ((Kp.alloc_ _ _).trans b40_))); have HS40 := Lib.hid b40_.size; have HB40 := Lib.hid b40_; clear o40 b40_)
    | (at_builtin; refine B8.wpList_app (B := w6.heap.size) rfl (.tmp 63) (.tmp 64) rfl _ z40 rfl HO40.out B d bh _ rfl LL.out.2.1.symm RB40.out (by have e1 := LL.out.2.1; have e2 := LL.out.2.2.2.1; have e3 := LL.out.2.2.2.2.2.1; rw [HZ40.out]; simp; omega) (by have := HS40.out; rw [World.size_alloc] at this; omega) ?_; intro y40 E40 g40 u40 HY40 o40 b40_; have HP40 := Lib.hid o40; have HQ40 := Lib.hid b40_; clear o40 b40_))
  have e400 : z40 = rb := by have := HZ40.out; simpa using this
  have e401 : y40 = rb ++ bh := by rw [HY40.out, e400]
  subst e401
  have kk40 : Kp w6 u40 := ((Kp.alloc_ _ _).trans HB40.out).trans HQ40.out
  obtain ⟨ra40, rb40, rc40⟩ := B8.own_rd HP40.out
  have K := Lib.hid (K.out.tr kk40)
  have r5 := Lib.hid (r5.out.kp kk40)
  refine (C4.out _ _ _ _ ra40 rb40 rc40 rfl).mono ?_; rintro e0 w9 ⟨A9, c9, B9, d9, rfl, r9, s9, l9, k9⟩
  have r5 := Lib.hid (r5.out.kp k9)
  have K := Lib.hid (K.out.tr k9)
  clear k9 HO40 RB40 HS40 HB40 HP40 HQ40 HZ40 HY40 e400 kk40 ra40 rb40 rc40 rA6 l6
  go_wp2_with fail
  refine (C5.out _ K.out).mono ?_; rintro e0 w10 ⟨A10, c10, B10, d10, rfl, u10, v10, l10, k10⟩
  have r5 := Lib.hid (r5.out.kp k10)
  have r9 := Lib.hid (r9.out.kp k10)
  have s9 := Lib.hid (s9.out.kp k10)
  have K := Lib.hid (K.out.tr k10)
  clear k10
  go_wp2_with fail
  refine (C6.out _ _ _ u10.out).mono ?_; rintro e0 w11 ⟨A11, c11, rfl, r11, l11, k11⟩
  have r5 := Lib.hid (r5.out.kp k11)
  have r9 := Lib.hid (r9.out.kp k11)
  have s9 := Lib.hid (s9.out.kp k11)
  have v10 := Lib.hid (v10.out.kp k11)
  have K := Lib.hid (K.out.tr k11)
  clear k11
  have HST : Hid (∀ V, Kp w11 V → ((convert 23 9 (.slice A5 b1 c5)).run Try.prog V = .ok (.string (strOfNums rr)) V) ∧ ((convert 23 9 (.slice B q d)).run Try.prog V = .ok (.string (strOfNums bh)) V) ∧ ((convert 23 9 (.slice B9 b2 d9)).run Try.prog V = .ok (.string (strOfNums s)) V) ∧ ((convert 23 9 (.slice A11 a6 c11)).run Try.prog V = .ok (.string (strOfNums cc)) V) ∧ ((convert 23 9 (.slice B10 b3 d10)).run Try.prog V = .ok (.string (strOfNums v)) V)) := fun V kV =>
    ⟨run_str _ (r5.out.kp kV) LL.out.2.2.2.2.2.2.1.symm, run_str _ (RB.out.kp (K.out.tr kV)) LL.out.2.1.symm, run_str _ (s9.out.kp kV) LL.out.2.2.2.2.2.2.2.2.1.symm, run_str _ (r11.out.kp kV) LL.out.2.2.2.2.2.2.2.2.2.2.symm, run_str _ (v10.out.kp kV) LL.out.2.2.2.2.2.2.2.2.2.1.symm⟩
  have hss := Lib.hid str_self
  go_upto_region 10 with fail
  go_cut [25] (fun v wx => v = .bool true ∧ wx = w11)
  case first =>
    obtain ⟨q1, q2, _, _, _⟩ := HST.out _ (Kp.refl _)
    rcases H1.out with h | ⟨h, g2, g3, g4⟩
    · subst h
      go_wp2
      go_meet
      exact ⟨rfl, rfl⟩
    · subst h g2 g3 g4
      have q3 := hss.out rr
      go_wp2
      go_meet
      exact ⟨rfl, rfl⟩
  case rest =>
    obtain ⟨rfl, rfl⟩ := hcut
    go_upto_region 11 with fail
    go_cut [26] (fun v wy => v = .bool true ∧ Hid (Kp wc wy))
    case first =>
      rcases H2.out with h | ⟨h, g2, g3, g4⟩
      · subst h
        go_wp2
        go_meet
        exact ⟨rfl, Kp.refl _⟩
      · subst h g2 g3 g4
        go_wp2_with fail
        refine (same_n y y r9.out (RL.out.kp K.out) LL.out.2.2.2.2.2.2.2.1.symm LL.out.1.symm (r := true) (by simp)).mono ?_; rintro e0 w12 ⟨rfl, m12, rfl⟩
        obtain ⟨_, q2, q3, _, _⟩ := HST.out _ (Kp.drewN_ wc m12)
        have q4 := hss.out s
        go_wp2
        go_meet
        exact ⟨rfl, Kp.drewN_ _ _⟩
    case rest =>
      obtain ⟨rfl, k12⟩ := hcut
      have HST2 := Lib.hid (HST.out _ k12.out)
      obtain ⟨_, q2, _, q4, q5⟩ := HST2.out
      rcases H3.out with h | ⟨h, g2, g3⟩
      · subst h
        go_wp2
        go_ret
        exact ⟨rfl, K.out.tr k12.out⟩
      · subst h g2 g3
        have q3 := hss.out (cc ++ v)
        have q6 := str_add cc v
        have q7 : ¬ 9223372036854775807 < (strOfNums cc).size + (strOfNums v).size := by
          have h1 : (strOfNums cc).size = cc.length := strOfNums_size cc
          have h3 : (strOfNums v).size = v.length := strOfNums_size v
          have h4 : (cc ++ v).length = cc.length + v.length := List.length_append
          have h5 := LL.out.2.1
          omega
        go_wp2
        go_ret
        exact ⟨rfl, K.out.tr k12.out⟩

set_option maxHeartbeats 4000000 in
theorem pback_walk (C : PkC) (A B : Option Addr) (c d : Nat) (n size : Int) (l bh : List Int) (w : World) (hA : Rd w A l) (hB : B8.Rd w B bh) (hl : I64l l) (hb : Bytes bh) (hn : I64 n) (hs : I64 size) (hd : bh.length ≤ d ∧ d ≤ 9223372036854775807) :
    Calls Try.prog 3 #[.int .i64 n, .slice A l.length c, .int .i64 size, .slice B bh.length d] w fun e w' => e = .returned (.bool true) ∧ Kp w w' := by
  have hlA := hA.len
  have hlB := hB.1
  by_cases f0 : 3000 < bh.length
  · exact pback_far (pkawake_any C) A B c d l.length bh.length n size w (Or.inl (by omega)) (by omega) (by omega)
  by_cases f1 : 300 < l.length
  · exact pback_far (pkawake_any C) A B c d l.length bh.length n size w (Or.inr ⟨by omega, by omega⟩) (by omega) (by omega)
  obtain ⟨ra, e1, hput⟩ : ∃ ra e1, putV [] n size = (ra, e1) := ⟨_, _, rfl⟩
  obtain ⟨rb, e3, hlist⟩ : ∃ rb e3, listV [] l size = (rb, e3) := ⟨_, _, rfl⟩
  obtain ⟨x, rr, e2, htake⟩ : ∃ x rr e2, takeV (ra ++ bh) size = (x, rr, e2) := ⟨_, _, _, rfl⟩
  obtain ⟨y, s, e4, htl⟩ : ∃ y s e4, takeListV (rb ++ bh) size = (y, s, e4) := ⟨_, _, _, rfl⟩
  obtain ⟨u, v, e5, htl2⟩ : ∃ u v e5, takeListV bh size = (u, v, e5) := ⟨_, _, _, rfl⟩
  obtain ⟨cc, e6, hlist2⟩ : ∃ cc e6, listV [] u size = (cc, e6) := ⟨_, _, rfl⟩
  have nob : Bytes [] := fun _ h => by cases h
  have P1 : (e1 = 40 ∨ (e1 = 0 ∧ e2 = 0 ∧ x = n ∧ rr = bh)) ∧ ra.length ≤ 8 ∧ Bytes ra := by
    rcases put_cases8 [] n size with ⟨hm, h⟩ | ⟨hm, h⟩
    · rw [hput] at h
      injection h with h1 h2
      subst h1 h2
      have h3 := put_take (r := bh) hm hn
      rw [List.nil_append] at htake ⊢
      rw [htake] at h3
      injection h3 with h4 h5
      injection h5 with h5 h6
      have h7 := siz_8 (may_siz hm)
      exact ⟨Or.inr ⟨rfl, h6, h4, h5⟩, by rw [byte_len]; exact h7, byte_bytes _ _⟩
    · rw [hput] at h
      injection h with h1 h2
      subst h1 h2
      exact ⟨Or.inl rfl, Nat.zero_le _, nob⟩
  have P2 : (e3 = 40 ∨ (e3 = 0 ∧ e4 = 0 ∧ y = l ∧ s = bh)) ∧ rb.length ≤ 3000 ∧ Bytes rb := by
    rcases list_cases [] l size with ⟨r, h⟩ | h
    · rw [hlist] at h
      injection h with h1 h2
      subst h1 h2
      have h3 := list_take bh hl hlist
      rw [htl] at h3
      injection h3 with h4 h5
      injection h5 with h5 h6
      obtain ⟨h255, hsz, _, _⟩ := list_is hlist
      have h7 := list_len hlist
      refine ⟨Or.inr ⟨rfl, h6, h4, h5⟩, ?_, list_bytes nob hlist⟩
      rcases siz_cases hsz with h8 | h8 | h8 <;> subst h8 <;> omega
    · rw [hlist] at h
      injection h with h1 h2
      subst h1 h2
      exact ⟨Or.inl rfl, Nat.zero_le _, nob⟩
  have P3 : (e5 = 40 ∨ (e5 = 0 ∧ e6 = 0 ∧ cc ++ v = bh)) ∧ u.length ≤ 300 ∧ I64l u := by
    rcases take_cases8 bh size with ⟨v', r', h⟩ | h
    · rw [htl2] at h
      injection h with h1 h2
      injection h2 with h2 h3
      subst h3
      obtain ⟨c', h4, h5⟩ := take_list hb htl2
      rw [hlist2] at h4
      injection h4 with h6 h7
      subst h6 h7
      obtain ⟨h255, _, _, _⟩ := list_is hlist2
      exact ⟨Or.inr ⟨rfl, rfl, h5⟩, by omega, take_i64 hb htl2⟩
    · rw [htl2] at h
      injection h with h1 h2
      injection h2 with h2 h3
      subst h1 h2 h3
      exact ⟨Or.inl rfl, Nat.zero_le _, fun _ h => by cases h⟩
  obtain ⟨P1, P4, P5⟩ := P1
  obtain ⟨P2, P6, P7⟩ := P2
  obtain ⟨P3, P8, P9⟩ := P3
  refine pback_with A B c d l.length bh.length n size l bh ra rr rb y s u v cc x e1 e2 e3 e4 e5 e6 ra.length rr.length rb.length s.length v.length y.length u.length cc.length w (by omega) (by omega) (by omega) hA hB ⟨rfl, rfl, rfl, rfl, by omega, P6, rfl, rfl, rfl, rfl, rfl⟩ (pkawake_any C) P1 P2 P3 ?_ ?_ ?_ ?_ ?_ ?_
  · exact fun W _ => C.put none 0 0 [] n size ra e1 ra.length W (B8.Rd.nil _ _) (by simp) (by simp) (by simp) nob hn hs rfl hput rfl
  · exact fun W D c0 k r h1 h2 hk => C.take D c0 k (ra ++ bh) size x rr e2 rr.length W r h1 h2 (by rw [List.length_append]; omega) (byte_app P5 hb) hs hk htake rfl
  · exact fun W k => C.list none A 0 c 0 l.length [] l size rb e3 rb.length W (B8.Rd.nil _ _) (by simp) (by simp) (by simp) nob (hA.kp k) (by omega) hl hs rfl rfl hlist rfl
  · exact fun W D c0 k r h1 h2 hk => C.takeList D c0 k (rb ++ bh) size y s e4 y.length s.length W r h1 h2 (by rw [List.length_append]; omega) (byte_app P7 hb) hs hk htl rfl rfl
  · exact fun W k => C.takeList B d bh.length bh size u v e5 u.length v.length W (hB.kp k) hd.1 hd.2 (by omega) hb hs rfl htl2 rfl rfl
  · exact fun W D d0 r => C.list none D 0 d0 0 u.length [] u size cc e6 cc.length W (B8.Rd.nil _ _) (by simp) (by simp) (by simp) nob r P8 P9 hs rfl rfl hlist2 rfl
end Go.Proofs.Ytngdblojglcfpaa
