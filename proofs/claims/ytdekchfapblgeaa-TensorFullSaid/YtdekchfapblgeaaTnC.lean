/- A tensor with another number at an index: what it answers, and the document's. -/
import Derived.Test.YtdekchfapblgeaaTnB
import Derived.Deep.DeepCutAuto
import Derived.Deep.RegionHeld3
namespace Go.Proofs.Ytdekchfapblgeaa
open Go.RowKit Go.Proofs.ShM

section
variable {w w' : World} {A B : Option Addr} {xs : List Int} {v : Value} {b n c : Nat}
theorem Rd.put_ (h : Rd w A xs) {p : Addr} (hp : ∀ ad, A = some ad → ad.block ≠ p.block) (u : Value) : Rd (w.setCell p u) A xs :=
  ⟨h.1, fun hn => by
    obtain ⟨ad, e, hb, hc⟩ := h.2 hn
    refine ⟨ad, e, by rw [World.size_setCell]; exact hb, fun j x hx => ?_⟩
    rw [World.cell?_setCell_other]
    · exact hc j x hx
    · intro e'
      exact hp ad e (by rw [e', block_of_add])⟩
theorem Own.put_ (h : Own b w v xs) {p : Addr} (hp : p.block < b) (u : Value) : Own b (w.setCell p u) v xs :=
  h.of_block fun g hg => by
    have := h.from_ hg
    exact Below.heap_setCell _ _ _ g (by omega)
/-- A list of the call's own that is not empty. -/
theorem Own.addr (h : Own b w (.slice A n c) xs) (hx : 0 < xs.length) : ∃ g, A = some ⟨g, 0, none⟩ ∧ b ≤ g ∧ g < w.heap.size := by
  rcases h.2 with ⟨e, h0⟩ | ⟨g, cap, cur, e, hb, hh, _⟩
  · omega
  · injection e with e1 _ _
    exact ⟨g, e1, hb, (Array.getElem?_eq_some_iff.1 hh).1⟩
theorem Own.where_ (h : Own b w v xs) {g : Nat} (hg : v.ownBlock = some g) : b ≤ g ∧ g < w.heap.size := by
  rcases h.2 with ⟨rfl, _⟩ | ⟨g', cap, cur, rfl, hb, hh, _⟩
  · cases hg
  · injection hg with hg
    subst hg
    exact ⟨hb, (Array.getElem?_eq_some_iff.1 hh).1⟩
theorem Own.ad (h : Own b w (.slice A n c) xs) {ad : Addr} (hA : A = some ad) : b ≤ ad.block ∧ ad.block < w.heap.size := by
  subst hA
  exact h.where_ rfl
theorem Kp.al (h : Kp w w') (o : Obj) : Kp w (w'.alloc o) := h.tr (Kp.alloc_ _ _)
theorem Own.mono (h : Own b w v xs) {b' : Nat} (hb : b' ≤ b) : Own b' w v xs := by
  refine ⟨h.1, ?_⟩
  rcases h.2 with h0 | ⟨g, cap, cur, e, hg, r⟩
  · exact .inl h0
  · exact .inr ⟨g, cap, cur, e, Nat.le_trans hb hg, r⟩
end

/-- The answer is the tensor and the error; nothing that was there has changed. -/
def RetT (r : Tn) (w : World) (e : Ending) (w' : World) : Prop :=
  ∃ A c B d, e = .returned (.tuple #[.agg #[.slice A r.1.length c, .slice B r.2.1.length d], .int .i64 r.2.2]) ∧ Rd w' A r.1 ∧ Rd w' B r.2.1 ∧ Kp w w'
theorem RetT.of {r : Tn} {l m : List Int} {err : Int} {w w' : World} {A B : Option Addr} {c d : Nat} (h : r = (l, m, err)) (hA : Rd w' A l) (hB : Rd w' B m) (k : Kp w w') :
    RetT r w (.returned (.tuple #[.agg #[.slice A l.length c, .slice B m.length d], .int .i64 err])) w' := by
  subst h; exact ⟨A, c, B, d, rfl, hA, hB, k⟩
theorem RetT.on {r : Tn} {l m : List Int} {a b : Nat} {err : Int} {w w' : World} {A B : Option Addr} {c d : Nat} (h : r = (l, m, err)) (ha : a = l.length) (hb : b = m.length) (hA : Rd w' A l) (hB : Rd w' B m) (k : Kp w w') :
    RetT r w (.returned (.tuple #[.agg #[.slice A a c, .slice B b d], .int .i64 err])) w' := by
  subst ha hb; exact RetT.of h hA hB k
theorem RetT.err {r : Tn} {err : Int} {w w' : World} (h : r = ([], [], err)) (k : Kp w w') : RetT r w (.returned (.tuple #[.agg #[.slice none 0 0, .slice none 0 0], .int .i64 err])) w' :=
  RetT.of (A := none) (B := none) h (Rd.nil _ _) (Rd.nil _ _) k

/-- The tensor handed in lies in a block, its answer's block behind it. -/
structure Fr (w : World) (A : Option Addr) (n c : Nat) (B : Option Addr) (m d : Nat) (w' : World) : Prop where
  kp : Kp w w'
  b0 : w'.cell? ⟨w.heap.size, 0, none⟩ = some (.slice A n c)
  b1 : w'.cell? ⟨w.heap.size, 1, none⟩ = some (.slice B m d)
  r0 : w'.cell? ⟨w.heap.size + 1, 0, none⟩ = some (.slice none 0 0)
  r1 : w'.cell? ⟨w.heap.size + 1, 1, none⟩ = some (.slice none 0 0)
  f0 : w'.frozen? ⟨w.heap.size + 1, 0, none⟩ = false
  f1 : w'.frozen? ⟨w.heap.size + 1, 1, none⟩ = false
  sz : w.heap.size + 2 ≤ w'.heap.size
theorem Fr.tr {w : World} {A : Option Addr} {n c : Nat} {B : Option Addr} {m d : Nat} {a b : World} (h : Fr w A n c B m d a) (k : Kp a b) : Fr w A n c B m d b where
  kp := h.kp.tr k
  b0 := (k.cell (p := ⟨w.heap.size, 0, none⟩) (by have := h.sz; show w.heap.size < _; omega)).trans h.b0
  b1 := (k.cell (p := ⟨w.heap.size, 1, none⟩) (by have := h.sz; show w.heap.size < _; omega)).trans h.b1
  r0 := (k.cell (p := ⟨w.heap.size + 1, 0, none⟩) (by have := h.sz; show w.heap.size + 1 < _; omega)).trans h.r0
  r1 := (k.cell (p := ⟨w.heap.size + 1, 1, none⟩) (by have := h.sz; show w.heap.size + 1 < _; omega)).trans h.r1
  f0 := (k.frozen (p := ⟨w.heap.size + 1, 0, none⟩) (by have := h.sz; show w.heap.size + 1 < _; omega)).trans h.f0
  f1 := (k.frozen (p := ⟨w.heap.size + 1, 1, none⟩) (by have := h.sz; show w.heap.size + 1 < _; omega)).trans h.f1
  sz := Nat.le_trans h.sz k.size
theorem Fr.mk_ (w : World) (A : Option Addr) (n c : Nat) (B : Option Addr) (m d : Nat) (t : TypeId) : Fr w A n c B m d ((w.alloc (.cells #[.slice A n c, .slice B m d] t)).alloc (.cells #[.slice none 0 0, .slice none 0 0] t)) where
  kp := (Kp.alloc_ _ _).tr (Kp.alloc_ _ _)
  b0 := by simp
  b1 := by simp
  r0 := by simp
  r1 := by simp
  f0 := by simp
  f1 := by simp
  sz := by simp
theorem Fr.end_ {w : World} {A : Option Addr} {n c : Nat} {B : Option Addr} {m d : Nat} {a : World} (h : Fr w A n c B m d a) (x y : Value) : Kp w ((a.setCell ⟨w.heap.size + 1, 0, none⟩ x).setCell ⟨w.heap.size + 1, 1, none⟩ y) :=
  (h.kp.setCell (p := ⟨w.heap.size + 1, 0, none⟩) (by simp) x).setCell (p := ⟨w.heap.size + 1, 1, none⟩) (by simp) y

/-- A list of the call's own, all since w1. -/
def RetC (w1 : World) (xs : List Int) (W : World) (e : Ending) (w' : World) : Prop :=
  ∃ A c, e = .returned (.slice A xs.length c) ∧ Hid (Own W.heap.size w' (.slice A xs.length c) xs) ∧ Hid (Kp w1 w') ∧ Hid (Kp W w') ∧ (∀ p : Addr, p.block < w1.heap.size → w'.cell? p = w1.cell? p) ∧ (∀ p : Addr, p.block < W.heap.size → w'.cell? p = W.cell? p) ∧ (∀ p : Addr, p.block < W.heap.size → w'.frozen? p = W.frozen? p) ∧ W.heap.size ≤ w'.heap.size
theorem clone_c {w w1 : World} {A : Option Addr} {xs : List Int} (c : Nat) (h : Rd w A xs) (hk : Kp w w1) (hs : xs.length ≤ 1000000) :
    Hid (∀ W, Kp w1 W → Calls Try.prog 30 #[.slice A xs.length c] W (RetC w1 xs W)) :=
  fun W k => (clone_any A c xs W (h.kp (hk.tr k)) hs).mono fun _ _ ⟨A', c', e, o, kk⟩ => ⟨A', c', e, o, k.tr kk, kk, fun _ hp => (k.tr kk).cell hp, fun _ hp => kk.cell hp, fun _ hp => kk.frozen hp, kk.size⟩
/-- A new tensor of the call's own. -/
def WR (w1 : World) (s xs : List Int) (v : Value) (wx : World) : Prop :=
  ∃ g AS cS gd cd, v = .pointer (some ⟨g, 0, none⟩) ∧ w1.heap.size ≤ g ∧ w1.heap.size ≤ gd ∧ g ≠ gd ∧ Kp w1 wx ∧ wx.cell? ⟨g, 0, none⟩ = some (.slice AS s.length cS) ∧ wx.cell? ⟨g, 1, none⟩ = some (.slice (some ⟨gd, 0, none⟩) xs.length cd) ∧
    Rd wx AS s ∧ Own w1.heap.size wx (.slice (some ⟨gd, 0, none⟩) xs.length cd) xs ∧ ∀ ad, AS = some ad → ad.block ≠ gd ∧ w1.heap.size ≤ ad.block

theorem cell_ne {w : World} {p q : Addr} {u v : Value} (h : p ≠ q) (hc : w.cell? q = some v) : (w.setCell p u).cell? q = some v := by
  rw [World.cell?_setCell_other]
  · exact hc
  · exact h
theorem some_ne {w : World} {p q : Addr} {u : Value} (h : p ≠ q) (hc : (w.cell? q).isSome = true) : ((w.setCell p u).cell? q).isSome = true := by
  rw [World.cell?_setCell_other]
  · exact hc
  · exact h
theorem WR.set_ {w1 w2 w3 : World} {s xs : List Int} {AS AD : Option Addr} {cS cD bS bD g : Nat} (hx : 0 < xs.length) (oS : Own bS w2 (.slice AS s.length cS) s) (k23 : Kp w2 w3) (oD : Own bD w3 (.slice AD xs.length cD) xs) (hS : w1.heap.size ≤ bS) (hD : w2.heap.size ≤ bD)
    (k13 : Kp w1 w3) (hg : w1.heap.size ≤ g) (gD : g < bD) (gS : g < bS ∨ w2.heap.size ≤ g) (c0 : (w3.cell? ⟨g, 0, none⟩).isSome = true) (c1 : (w3.cell? ⟨g, 1, none⟩).isSome = true) :
    WR w1 s xs (.pointer (some ⟨g, 0, none⟩)) ((w3.setCell ⟨g, 0, none⟩ (.slice AS s.length cS)).setCell ⟨g, 1, none⟩ (.slice AD xs.length cD)) := by
  obtain ⟨gd, rfl, hd1, hd2⟩ := oD.addr hx
  have c1' : ((w3.setCell ⟨g, 0, none⟩ (.slice AS s.length cS)).cell? ⟨g, 1, none⟩).isSome = true := some_ne (by simp) c1
  refine ⟨g, AS, cS, gd, cD, rfl, hg, by omega, by omega, (k13.setCell (p := ⟨g, 0, none⟩) hg _).setCell (p := ⟨g, 1, none⟩) hg _, ?_, World.cell?_setCell_same' _ _ _ c1', ?_, ?_, ?_⟩
  · exact cell_ne (by simp) (World.cell?_setCell_same' _ _ _ c0)
  · have hne : ∀ ad, AS = some ad → ad.block ≠ g := fun ad e => by have := oS.ad e; omega
    exact ((oS.sl.rd.kp k23).put_ hne _).put_ hne _
  · exact (((oD.put_ (p := ⟨g, 0, none⟩) gD _).put_ (p := ⟨g, 1, none⟩) gD _)).mono (by omega)
  · exact fun ad e => by have := oS.ad e; omega
theorem WR.new_ {w1 w2 w3 : World} {s xs : List Int} {AS AD : Option Addr} {cS cD bS bD : Nat} (t : TypeId) (hx : 0 < xs.length) (oS : Own bS w2 (.slice AS s.length cS) s) (k23 : Kp w2 w3) (oD : Own bD w3 (.slice AD xs.length cD) xs) (hS : w1.heap.size ≤ bS) (hD : w2.heap.size ≤ bD)
    (k13 : Kp w1 w3) (h12 : w1.heap.size ≤ w2.heap.size) :
    WR w1 s xs (.pointer (some ⟨w3.heap.size, 0, none⟩)) (w3.alloc (.cells #[.slice AS s.length cS, .slice AD xs.length cD] t)) := by
  obtain ⟨gd, rfl, hd1, hd2⟩ := oD.addr hx
  refine ⟨w3.heap.size, AS, cS, gd, cD, rfl, k13.size, by omega, by omega, k13.al _, by simp, by simp, (oS.sl.rd.kp k23).kp (Kp.alloc_ _ _), (oD.kp (Kp.alloc_ _ _)).mono (by omega), ?_⟩
  exact fun ad e => by have := oS.ad e; omega

set_option maxHeartbeats 2000000 in
theorem with_any (A B C : Option Addr) (c d g : Nat) (s xs t : List Int) (n : Int) (w : World) (hA : Rd w A s) (hB : Rd w B xs) (hC : Rd w C t) :
    Calls Try.prog 14 #[.agg #[.slice A s.length c, .slice B xs.length d], .slice C t.length g, .int .i64 n] w (RetT (withV s xs t n) w) := by
  have hl := hA.len
  have gl := hB.len
  have kl := hC.len
  have F0 := Lib.hid (Fr.mk_ w A s.length c B xs.length d 24)
  have HT := Lib.hid (pin_any A B C c d g s xs t _ (hA.kp F0.out.kp) (hB.kp F0.out.kp) (hC.kp F0.out.kp))
  rcases TnB.pin_cases s xs t with ⟨e, he, hp⟩ | ⟨k, hk, hp, ht⟩
  · rw [hp] at HT
    have HF := Lib.hid (TnB.with_err n hp he)
    clear hp
    rcases he with rfl | rfl
    all_goals
      go_enter Try.func14, Try.ntmps14
      go_wp2_with fail
      refine (Calls.mono (Hid.out HT)) ?_; rintro e w1 ⟨rfl, k1⟩
      have F1 := Lib.hid (F0.out.tr k1)
      obtain ⟨_, b0, b1, r0, r1, f0, f1, _⟩ := F1.out
      clear k1
      go_wp2
      refine bodyPost_ret (by simp [results, Try.results14, go_sem, r0, r1]; try rfl) rfl ?_
      exact RetT.err HF.out (F1.out.end_ _ _)
  · rw [hp] at HT
    have HF := Lib.hid (TnB.with_yes n hp)
    clear hp
    go_enter Try.func14, Try.ntmps14
    go_wp2_with fail
    refine (Calls.mono (Hid.out HT)) ?_; rintro e w1 ⟨rfl, k1⟩
    have F1 := Lib.hid (F0.out.tr k1)
    obtain ⟨_, b0, b1, r0, r1, f0, f1, _⟩ := F1.out
    clear k1
    have hs3 : s.length ≤ 1000000 := by have := (ok_iff.1 (tok_len ht).1).1; omega
    have hx3 : xs.length ≤ 1000000 := by have := (tok_len ht).2.2.2; omega
    have HS := clone_c c hA F1.out.kp hs3
    have HD := clone_c d hB F1.out.kp hx3
    have z1 : w.heap.size < w1.heap.size := by have := F1.out.sz; omega
    have z2 : w.heap.size + 1 < w1.heap.size := by have := F1.out.sz; omega
    have hpos : 0 < xs.length := by omega
    have HSS : Hid (∀ W, Kp w1 W → W.cell? ⟨w.heap.size, 0, none⟩ = some (.slice A s.length c) ∧ W.cell? ⟨w.heap.size, 1, none⟩ = some (.slice B xs.length d)) := fun W k => ⟨(F1.out.tr k).b0, (F1.out.tr k).b1⟩
    clear ht hs3 hx3
    go_wp2
    go_cut [10] (fun v wx => WR w1 s xs v wx)
    case first =>
      go_region_held3 (fun W => W.cell? ⟨w.heap.size, 0, none⟩ = some (.slice A s.length c) ∧ W.cell? ⟨w.heap.size, 1, none⟩ = some (.slice B xs.length d)) (first | exact HSS.out _ (by (repeat (first | (with_reducible refine Below.drew ?_) | (with_reducible refine Kp.al ?_ _))); first | (with_reducible exact kD1.out) | (with_reducible exact kS1.out) | (with_reducible exact Kp.refl _)) | exact ⟨cell_ne (fun e => by have e := congrArg Addr.block e; dsimp only at e; omega) (cell_ne (fun e => by have e := congrArg Addr.block e; dsimp only at e; omega) (HSS.out _ (by (repeat (first | (with_reducible refine Below.drew ?_) | (with_reducible refine Kp.al ?_ _))); first | (with_reducible exact kD1.out) | (with_reducible exact kS1.out) | (with_reducible exact Kp.refl _))).1), cell_ne (fun e => by have e := congrArg Addr.block e; dsimp only at e; omega) (cell_ne (fun e => by have e := congrArg Addr.block e; dsimp only at e; omega) (HSS.out _ (by (repeat (first | (with_reducible refine Below.drew ?_) | (with_reducible refine Kp.al ?_ _))); first | (with_reducible exact kD1.out) | (with_reducible exact kS1.out) | (with_reducible exact Kp.refl _))).2)⟩)
        (first
        | (go_at_call_of 30 A; refine (HS.out _ (by (repeat (first | (with_reducible refine Below.drew ?_) | (with_reducible refine Kp.al ?_ _))); with_reducible exact Kp.refl _)).mono ?_; rintro e w2 ⟨AS, cS, rfl, oS, kS1, kS, cellS1, cellS, frozS, szS⟩; have y1 : w.heap.size < w2.heap.size := Nat.lt_of_lt_of_le z1 kS1.out.size; have y2 : w.heap.size ≠ w2.heap.size := Nat.ne_of_lt y1; try simp only [World.size_alloc, World.size_drew] at szS; try (have y3 : w1.heap.size < w2.heap.size := szS))
        | (go_at_call_of 30 B; refine (HD.out _ (by (repeat (first | (with_reducible refine Below.drew ?_) | (with_reducible refine Kp.al ?_ _))); with_reducible exact kS1.out)).mono ?_; rintro e w3 ⟨AD, cD, rfl, oD, kD1, kD, cellD1, cellD, frozD, szD⟩; try simp only [World.size_alloc] at szD))
      all_goals go_wp2
      all_goals go_meet
      all_goals
        have h12 := kS1.out.size
        have hz : w1.drew.heap.size = w1.heap.size := rfl
        first
        | exact WR.new_ _ hpos oS.out kD.out oD.out (by first | omega | (simp only [World.size_alloc]; omega) | (simp only [World.size_alloc, World.size_drew]; omega)) (by first | omega | (simp only [World.size_alloc]; omega) | (simp only [World.size_alloc, World.size_drew]; omega)) kD1.out h12
        | exact WR.set_ hpos oS.out ((Kp.alloc_ _ _).tr kD.out) oD.out (by first | omega | (simp only [World.size_alloc]; omega) | (simp only [World.size_alloc, World.size_drew]; omega)) (by first | omega | (simp only [World.size_alloc]; omega) | (simp only [World.size_alloc, World.size_drew]; omega)) kD1.out h12 (by first | omega | (simp only [World.size_alloc]; omega) | (simp only [World.size_alloc, World.size_drew]; omega)) (.inr (Nat.le_refl _)) (by simp [cellD]) (by simp [cellD])
        | exact WR.set_ hpos oS.out kD.out oD.out (by first | omega | (simp only [World.size_alloc]; omega) | (simp only [World.size_alloc, World.size_drew]; omega)) (by first | omega | (simp only [World.size_alloc]; omega) | (simp only [World.size_alloc, World.size_drew]; omega)) kD1.out (Nat.le_refl _) (by first | omega | (simp only [World.size_alloc]; omega) | (simp only [World.size_alloc, World.size_drew]; omega)) (.inl (by first | omega | (simp only [World.size_alloc]; omega) | (simp only [World.size_alloc, World.size_drew]; omega))) (by simp [cellD, cellS, y3]) (by simp [cellD, cellS, y3])
    case rest =>
      obtain ⟨g, AS, cS, gd, cd, rfl, hg1, hg2, hgd, kx, q0, q1, rS, oD, hAS⟩ := hcut
      have F2 := Lib.hid (F1.out.tr kx)
      clear HS HD b0 b1 r0 r1 f0 f1
      obtain ⟨x, hx⟩ : ∃ x, xs[k]? = some x := ⟨xs[k], List.getElem?_eq_getElem hk⟩
      have e1 := oD.cell_ hx
      have e2 := oD.froz_ k
      have ne : gd ≠ g := fun e => hgd e.symm
      have p0 : ∀ v, (wc.setCell ⟨gd, k, none⟩ v).cell? ⟨g, 0, none⟩ = some (.slice AS s.length cS) := fun v => cell_ne (fun e => ne (congrArg Addr.block e)) q0
      have p1 : ∀ v, (wc.setCell ⟨gd, k, none⟩ v).cell? ⟨g, 1, none⟩ = some (.slice (some ⟨gd, 0, none⟩) xs.length cd) := fun v => cell_ne (fun e => ne (congrArg Addr.block e)) q1
      obtain ⟨_, _, _, r0, r1, f0, f1, _⟩ := F2.out
      have hr : gd ≠ w.heap.size + 1 := by have := F1.out.sz; omega
      have s0 : ∀ v, (wc.setCell ⟨gd, k, none⟩ v).cell? ⟨w.heap.size + 1, 0, none⟩ = some (.slice none 0 0) := fun v => cell_ne (fun e => hr (congrArg Addr.block e)) r0
      have s1 : ∀ v, (wc.setCell ⟨gd, k, none⟩ v).cell? ⟨w.heap.size + 1, 1, none⟩ = some (.slice none 0 0) := fun v => cell_ne (fun e => hr (congrArg Addr.block e)) r1
      have hkp := F2.out.kp.setCell (p := ⟨gd, k, none⟩) (by show w.heap.size ≤ gd; omega) (.int .i64 n)
      go_wp2
      refine bodyPost_ret (by simp [results, Try.results14, go_sem, s0, s1]; try rfl) rfl ?_
      have hne : ∀ ad, AS = some ad → ad.block ≠ w.heap.size + 1 := fun ad e => by have := (hAS ad e).2; omega
      exact RetT.on HF.out rfl (List.length_set ..).symm (((rS.put_ (p := ⟨gd, k, none⟩) (fun ad e => (hAS ad e).1) _).put_ (p := ⟨w.heap.size + 1, 0, none⟩) hne _).put_ (p := ⟨w.heap.size + 1, 1, none⟩) hne _)
        (((oD.set_ k n).put_ (p := ⟨w.heap.size + 1, 0, none⟩) z2 _).put_ (p := ⟨w.heap.size + 1, 1, none⟩) z2 _).sl.rd
        ((hkp.setCell (p := ⟨w.heap.size + 1, 0, none⟩) (by simp) _).setCell (p := ⟨w.heap.size + 1, 1, none⟩) (by simp) _)
end Go.Proofs.Ytdekchfapblgeaa
