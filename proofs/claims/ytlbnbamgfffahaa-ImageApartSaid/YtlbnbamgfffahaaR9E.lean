/- The document's layer 9: Read. -/
import Derived.Test.YtlbnbamgfffahaaR9D
namespace Go.Proofs.Ytlbnbamgfffahaa
open Go.RowKit Go.Proofs.ShM Go.Proofs.PkM Go.Proofs.ImM
set_option linter.unusedVariables false
set_option maxHeartbeats 4000000

/-- So far these tensors were read; the rest is read of the rest. -/
def Rt (o : Option (List T)) (done : List T) (n : Nat) (rest : List Int) : Prop := o = (ireadO n rest).map (done ++ ·)
theorem rt_start (n : Nat) (b : List Int) : Rt (ireadO n b) [] n b := by
  unfold Rt
  cases ireadO n b <;> rfl
theorem rt_end {o : Option (List T)} {done : List T} {n : Nat} {rest : List Int} (h : Rt o done n rest) (h0 : rest.length = 0) : o = some done := by
  unfold Rt ireadO at h
  rw [if_pos h0] at h
  simpa using h
theorem rt_step {o : Option (List T)} {done : List T} {n : Nat} {rest r : List Int} {t : T} (h : Rt o done (n + 1) rest) (h0 : rest.length ≠ 0) (ht : itakeO rest = some (t, r)) : Rt o (done ++ [t]) n r := by
  unfold Rt at h ⊢
  rw [ireadO, if_neg h0] at h
  simp only [ht] at h
  rw [h]
  cases ireadO n r <;> simp
theorem rt_bad {o : Option (List T)} {done : List T} {n : Nat} {rest : List Int} (h : Rt o done (n + 1) rest) (h0 : rest.length ≠ 0) (ht : itakeO rest = none) : o = none := by
  unfold Rt at h
  rw [ireadO, if_neg h0] at h
  simp only [ht] at h
  rw [h]; rfl
def outR : Option (List T) → List T × Int
  | some l => (l, 0)
  | none => ([], 50)
/-- Tensors in a row of the call's own, and an error. -/
def RetTsE (ts : List T) (err : Int) (w : World) (e : Ending) (w' : World) : Prop := ∃ A c, e = .returned (.tuple #[.slice A ts.length c, .int .i64 err]) ∧ OwnT w.heap.size w' (.slice A ts.length c) ts ∧ Kp w w'
theorem ap_own {w w' : World} {v : Value} {A : Option Addr} {n c : Nat} {xs : List Int} {ts : List T} {B : Nat} (ho : OwnT B w v ts) (h : Own w.heap.size w' (.slice A n c) xs) : ∀ ad, A = some ad → 0 < xs.length → v.ownBlock ≠ some ad.block := by
  rintro ad rfl _ e
  have h1 := ho.row_lt e
  have h2 := h.from_ (k := ad.block) rfl
  omega
theorem rread9_any (A : Option Addr) (c : Nat) (bs : List Int) (w : World) (hR : B8.Rd w A bs) (hc1 : bs.length ≤ c) (hc2 : c ≤ 9223372036854775807) (hb : Bytes bs) (hbl : bs.length ≤ 200000) :
    Calls Try.prog 18 #[.slice A bs.length c] w (RetTsE (ireadV bs).1 (ireadV bs).2 w) := by
  obtain ⟨o, ho⟩ : ∃ o, o = ireadO bs.length bs := ⟨_, rfl⟩
  obtain ⟨V, hV⟩ : ∃ V, V = ireadV bs := ⟨_, rfl⟩
  have HV : Hid (V = outR o) := by show V = _; rw [hV, ho]; rfl
  rw [← hV]
  have H0 : Hid (Rt o [] bs.length bs) := by show Rt _ _ _ _; rw [ho]; exact rt_start _ _
  have HRd := Lib.hid hR
  have HBy := Lib.hid hb
  have HTK : Hid (∀ (D : Option Addr) (d : Nat) (rest : List Int) (W : World), B8.Rd W D rest → rest.length ≤ d → d ≤ 9223372036854775807 → Bytes rest → rest.length ≤ 200000 → Calls Try.prog 16 #[.slice D rest.length d] W (RetTE D rest (itakeV rest).1 (itakeV rest).2.1 (itakeV rest).2.2 W)) :=
    fun D d rest W h1 h2 h3 h4 h5 => rtake9_any D d rest W h1 h2 h3 h4 h5
  clear ho hV hR hb
  go_enter Try.func18, Try.ntmps18
  go_wp2
  go_loopw [0, 4] (fun v q wx => ∃ (n : Nat) (D : Option Addr) (d : Nat) (rest : List Int) (done : List T) (E : Option Addr) (f : Nat), v = .slice D rest.length d ∧ q = .slice E done.length f ∧ Hid (rest.length ≤ n) ∧ Hid (done.length + rest.length ≤ bs.length) ∧ Hid (Rt o done n rest) ∧ Hid (Bytes rest ∧ rest.length ≤ d ∧ d ≤ 9223372036854775807) ∧ Hid (∀ V, B8.Rd V A bs → B8.Rd V D rest) ∧ Hid (OwnT w.heap.size wx (.slice E done.length f) done) ∧ Hid (Kp w wx)) (fun v _ _ => lenOf v)
  case atStart => exact ⟨bs.length, A, c, bs, [], none, 0, rfl, rfl, Nat.le_refl _, (by show 0 + bs.length ≤ bs.length; omega), H0.out, ⟨HBy.out, hc1, hc2⟩, fun _ h => h, OwnT.nil_ _ _, Kp.refl _⟩
  case round =>
    obtain ⟨n, D, d, rest, done, E, f, rfl, rfl, hn, hsum, hT, hB, hVV, hO, hK⟩ := hrel
    by_cases hj : rest.length = 0
    · have hj' : ¬ (0 : Int) < (rest.length : Int) := by omega
      have hVe : Hid (V = (done, 0)) := by show V = _; rw [HV.out, rt_end hT.out hj]; rfl
      clear hj
      go_wp2
      go_ret2
      rw [hVe.out]
      exact ⟨E, f, rfl, hO.out, hK.out⟩
    · have hj' : (0 : Int) < (rest.length : Int) := by omega
      obtain ⟨p, hp⟩ : ∃ p, n = p + 1 := ⟨n - 1, by have := hn.out; omega⟩
      rw [hp] at hT
      have HC := Lib.hid (HTK.out D d rest wr (hVV.out _ (HRd.out.kp hK.out)) hB.out.2.1 hB.out.2.2 hB.out.1 (by have := hsum.out; omega))
      cases hi : itakeO rest with
      | none =>
        have hv : itakeV rest = (([], []), [], 50) := by unfold itakeV; rw [hi]
        rw [hv] at HC
        have hVe : Hid (V = ([], 50)) := by show V = _; rw [HV.out, rt_bad hT.out hj hi]; rfl
        clear hj hi hv
        go_wp2_with fail
        refine (Hid.out HC).mono ?_; rintro e w5 ⟨P, a, Q, b, R, c5, rfl, _, _, _, _, _, k5⟩
        have K5 := Lib.hid (hK.out.tr k5)
        clear k5 HC
        go_wp2
        go_ret2
        rw [hVe.out]
        exact ⟨none, 0, rfl, OwnT.nil_ _ _, K5.out.al _⟩
      | some y =>
        obtain ⟨t, r⟩ := y
        have hv : itakeV rest = (t, r, 0) := by unfold itakeV; rw [hi]
        rw [hv] at HC
        have HT2 := Lib.hid (rt_step hT.out hj hi)
        obtain ⟨_, _, _, q4⟩ := take_put_t hB.out.1 hi
        have hrl : Hid (r.length + 1 ≤ rest.length) := by
          show _ ≤ _
          have := congrArg List.length q4
          rw [List.length_append, tn_len] at this
          omega
        have hBr : Hid (Bytes r) := fun x hx => hB.out.1 x (by rw [← q4]; exact List.mem_append_right _ hx)
        clear hj hi hv q4
        go_wp2_with fail
        refine (Hid.out HC).mono ?_; rintro e w5 ⟨P, a, Q, b, R, c5, rfl, o1, o2, i5, j5, l5, k5⟩
        have I5 := Lib.hid (And.intro (fun V hh => i5 V (hVV.out V hh)) (And.intro j5 (And.intro l5 (hK.out.tr k5))))
        have ap1 := Lib.hid (ap_own hO.out o1)
        have ap2 := Lib.hid (ap_own hO.out o2)
        have hTR : Hid (TR w5 P t.1 Q t.2) := ⟨own_rdn o1, own_rdn o2⟩
        have hO5 := Lib.hid (hO.out.kp k5)
        clear o1 o2 i5 j5 l5 k5 HC
        have hF : Hid (Bk (w5.alloc (.cells #[.slice P t.1.length a, .slice Q t.2.length b] 26)) w5.heap.size P t.1.length a Q t.2.length b) := Bk.new rfl
        have g0 := hF.out.c0
        have g1 := hF.out.c1
        have hO6 := Lib.hid ((hO5.out.kp (Kp.alloc_ w5 (.cells #[.slice P t.1.length a, .slice Q t.2.length b] 26))).kp (Kp.alloc_ _ (.cells #[.slice P t.1.length a, .slice Q t.2.length b] 26)))
        have hR6 : Hid (RdX ((w5.alloc (.cells #[.slice P t.1.length a, .slice Q t.2.length b] 26)).alloc (.cells #[.slice P t.1.length a, .slice Q t.2.length b] 26)) (fun k => (Value.slice E done.length f).ownBlock ≠ some k) (some ⟨w5.heap.size + 1, 0, none⟩) [t]) := by
          have h := RdX.one (X := fun k => (Value.slice E done.length f).ownBlock ≠ some k) (hTR.out.alloc_ (.cells #[.slice P t.1.length a, .slice Q t.2.length b] 26)) (c := a) (d := b) ap1.out ap2.out 26
          rw [World.size_alloc] at h
          exact h
        have hs6 : Hid (w.heap.size ≤ ((w5.alloc (.cells #[.slice P t.1.length a, .slice Q t.2.length b] 26)).alloc (.cells #[.slice P t.1.length a, .slice Q t.2.length b] 26)).heap.size) := by show w.heap.size ≤ _; have := I5.out.2.2.2.size; simp; omega
        go_wp2_with (at_builtin; go_loud (refine wpList_appT rfl (.tmp 20) (.tmp 22) rfl _ done rfl hO6.out _ 1 [t] 1 rfl rfl hR6.out (by have := hsum.out; simp; omega) hs6.out ?_; intro z1 A1 c1 w6 HZ o1 b1 _; have K6 : Hid (Kp w w6) := (((I5.out.2.2.2.al _).al _).trans b1); have O6 := Lib.hid o1; clear o1 b1))
        go_roundw
        case rel => exact ⟨p, R, c5, r, z1, A1, c1, rfl, rfl, (by show r.length ≤ p; have := hrl.out; have := hn.out; omega), (by show z1.length + r.length ≤ bs.length; rw [HZ.out, List.length_append]; have := hrl.out; have := hsum.out; simp; omega), (by rw [HZ.out]; exact HT2.out), ⟨hBr.out, I5.out.2.1, I5.out.2.2.1⟩, I5.out.1, O6.out, K6.out⟩
        case measure => show r.length < rest.length; have := hrl.out; omega
end Go.Proofs.Ytlbnbamgfffahaa
