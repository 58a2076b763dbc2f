/- Folding: what it answers. -/
import Derived.Test.YtdekchfapblgeaaTnI
namespace Go.Proofs.Ytdekchfapblgeaa
open Go.RowKit Go.Shelf Go.Proofs.ShM Go.Proofs.FixM
attribute [local go_sem] Oper.semAt_some

namespace TnJ
def stepP (f : Nat → Nat) (d : List Int) (k : Nat) (zs : List Int) : Option (List Int) :=
  if (addV (zs.getD (f k) 0) (d.getD k 0)).2 = 0 then some (zs.set (f k) (addV (zs.getD (f k) 0) (d.getD k 0)).1) else none
/-- Each of these, added at its place. -/
def foldP (f : Nat → Nat) (d : List Int) : List Nat → List Int → Option (List Int)
  | [], zs => some zs
  | k :: ks, zs => (stepP f d k zs).bind (foldP f d ks)
theorem foldP_append (f : Nat → Nat) (d : List Int) (b : List Nat) : ∀ (a : List Nat) (zs : List Int), foldP f d (a ++ b) zs = (foldP f d a zs).bind (foldP f d b) := by
  intro a
  induction a with
  | nil => intro zs; rfl
  | cons k ks ih =>
    intro zs
    simp only [List.cons_append, foldP]
    cases stepP f d k zs with
    | none => rfl
    | some z => exact ih z
theorem foldP_snoc {f : Nat → Nat} {d : List Int} {pre : List Nat} {k : Nat} {zs ys : List Int} (h : foldP f d pre zs = some ys) : foldP f d (pre ++ [k]) zs = stepP f d k ys := by
  rw [foldP_append, h]
  show (stepP f d k ys).bind (foldP f d []) = _
  cases stepP f d k ys <;> rfl
theorem step_inv {f : Nat → Nat} {d : List Int} {k : Nat} {zs ys : List Int} (h : stepP f d k zs = some ys) (hz : I64s zs) : I64s ys ∧ ys.length = zs.length := by
  unfold stepP at h
  split at h
  · injection h with h
    subst h
    exact ⟨hz.set_ _ add_in, by simp⟩
  · cases h
theorem foldP_inv {f : Nat → Nat} {d : List Int} : ∀ {pre : List Nat} {zs ys : List Int}, foldP f d pre zs = some ys → I64s zs → I64s ys ∧ ys.length = zs.length := by
  intro pre
  induction pre with
  | nil => intro zs ys h hz; injection h with h; subst h; exact ⟨hz, rfl⟩
  | cons k ks ih =>
    intro zs ys h hz
    simp only [foldP, Option.bind_eq_some_iff] at h
    obtain ⟨z, h1, h2⟩ := h
    obtain ⟨a, b⟩ := step_inv h1 hz
    obtain ⟨a', b'⟩ := ih h2 a
    exact ⟨a', b'.trans b⟩
theorem fold_form (f : Nat → Nat) (d : List Int) : ∀ (zs : List Int) (k : Nat), (foldG f zs k d).2 = 0 ∨ foldG f zs k d = ([], 10) := by
  induction d with
  | nil => intro zs k; exact .inl rfl
  | cons x d ih =>
    intro zs k
    simp only [foldG]
    split
    · exact ih _ _
    · rename_i hne
      rcases TnG.add_two (zs.getD (f k) 0) x with ⟨v, hv⟩ | hv
      · rw [hv] at hne; exact absurd rfl hne
      · rw [hv]; exact .inr rfl
theorem foldP_range' (f : Nat → Nat) (d : List Int) : ∀ (e : List Int) (k : Nat) (zs : List Int), d.drop k = e → foldP f d (List.range' k e.length) zs = if (foldG f zs k e).2 = 0 then some (foldG f zs k e).1 else none := by
  intro e
  induction e with
  | nil => intro k zs _; rfl
  | cons x e ih =>
    intro k zs h
    have hx : d[k]? = some x := by have := congrArg (·[0]?) h; simpa using this
    have he : d.drop (k + 1) = e := by rw [← List.drop_drop, h]; rfl
    rw [List.length_cons, List.range'_succ]
    simp only [foldP, stepP, foldG, List.getD_eq_getElem?_getD, hx, Option.getD_some]
    split
    · exact ih (k + 1) _ he
    · rename_i hne
      rfl
theorem foldP_all (f : Nat → Nat) (d zs : List Int) : foldP f d (List.range d.length) zs = if (foldG f zs 0 d).2 = 0 then some (foldG f zs 0 d).1 else none := by
  rw [List.range_eq_range']; exact foldP_range' f d d 0 zs rfl
theorem fold_done {f : Nat → Nat} {d zs ys : List Int} (h : foldP f d (List.range d.length) zs = some ys) : foldG f zs 0 d = (ys, 0) := by
  rw [foldP_all] at h
  split at h
  · rename_i h0
    injection h with h
    exact Prod.ext h h0
  · cases h
theorem fold_over {f : Nat → Nat} {d zs : List Int} {k : Nat} (hk : k ≤ d.length) (h : foldP f d (List.range k) zs = none) : foldG f zs 0 d = ([], 10) := by
  have e : List.range d.length = List.range k ++ (List.range d.length).drop k := by
    have := List.take_append_drop k (List.range d.length)
    rw [List.take_range, show min k d.length = k by omega] at this
    exact this.symm
  have h2 : foldP f d (List.range d.length) zs = none := by rw [e, foldP_append, h]; rfl
  rw [foldP_all] at h2
  rcases fold_form f d zs 0 with h0 | h0
  · rw [if_pos h0] at h2; cases h2
  · exact h0
theorem step_yes {f : Nat → Nat} {d zs : List Int} {k m : Nat} {x y v : Int} (hf : f k = m) (hx : d[k]? = some x) (hy : zs[m]? = some y) (hv : addV y x = (v, 0)) : stepP f d k zs = some (zs.set m v) := by
  unfold stepP
  rw [hf, List.getD_eq_getElem?_getD, List.getD_eq_getElem?_getD, hx, hy]
  simp [hv]
theorem step_no {f : Nat → Nat} {d zs : List Int} {k m : Nat} {x y : Int} (hf : f k = m) (hx : d[k]? = some x) (hy : zs[m]? = some y) (hv : addV y x = (0, 10)) : stepP f d k zs = none := by
  unfold stepP
  rw [hf, List.getD_eq_getElem?_getD, List.getD_eq_getElem?_getD, hx, hy]
  simp [hv]
end TnJ

theorem keeps_drewN (W : World) (n : Nat) : KeepsOthers W (W.drewN n) := ⟨Nat.le_refl _, fun _ _ h _ => h⟩
/-- The tensor handed in, its answer's block, and the error's. -/
structure Fe (w : World) (A : Option Addr) (n c : Nat) (B : Option Addr) (m d : Nat) (er : Int) (w' : World) : Prop where
  fr : Fr w A n c B m d w'
  e0 : w'.cell? ⟨w.heap.size + 1 + 1, 0, none⟩ = some (.int .i64 er)
  ef : w'.frozen? ⟨w.heap.size + 1 + 1, 0, none⟩ = false
  sz : w.heap.size + 3 ≤ w'.heap.size
section
variable {w a b : World} {A B : Option Addr} {n c m d : Nat} {er : Int}
theorem Fe.tb (h : Fe w A n c B m d er a) (k : Below (w.heap.size + 3) a b) : Fe w A n c B m d er b where
  fr := h.fr.tb (k.mono (by omega))
  e0 := (k.cell (p := ⟨w.heap.size + 1 + 1, 0, none⟩) (by show w.heap.size + 1 + 1 < _; omega)).trans h.e0
  ef := (k.frozen (p := ⟨w.heap.size + 1 + 1, 0, none⟩) (by show w.heap.size + 1 + 1 < _; omega)).trans h.ef
  sz := Nat.le_trans h.sz k.size
theorem Fe.tr (h : Fe w A n c B m d er a) (k : Kp a b) : Fe w A n c B m d er b := h.tb (k.mono h.sz)
theorem Fe.mk_ (w : World) (A : Option Addr) (n c : Nat) (B : Option Addr) (m d : Nat) (t u : TypeId) : Fe w A n c B m d 0 (((w.alloc (.cells #[.slice A n c, .slice B m d] t)).alloc (.cells #[.slice none 0 0, .slice none 0 0] t)).alloc (.cells #[.int .i64 0] u)) where
  fr := (Fr.mk_ w A n c B m d t).tr (Kp.alloc_ _ _)
  e0 := by simp [go_sem]
  ef := by simp [go_sem]
  sz := by simp
end

section
variable {w a : World} {A B : Option Addr} {n c m d D : Nat} {er : Int}
/-- The world at the return. -/
def finE (w a : World) (x y z : Value) : World := (finW w a x y).setCell ⟨w.heap.size + 1 + 1, 0, none⟩ z
theorem finE_K (hD : a.heap[D]? = some (.deferred (some []))) (hne : w.heap.size + 2 < D) (x y z : Value) : (finE w a x y z).heap[D]? = some (.deferred (some [])) := by
  unfold finE
  rw [Below.heap_setCell _ _ _ D (by show D ≠ w.heap.size + 1 + 1; omega)]
  exact fin_K hD (by omega) x y
theorem put_B {W : World} (hK : W.heap[D]? = some (.deferred (some []))) : Below D W (W.putObj D (.deferred none)) :=
  (Below.refl D _).grown (grownBy_putObj' _ D _) (Nat.le_of_lt (Array.getElem?_eq_some_iff.1 hK).1) (fun k e => by cases e; exact Nat.le_refl _)
theorem Fe.finE_fe (h : Fe w A n c B m d er a) (x y : Value) (z : Int) : (finE w a x y (.int .i64 z)).cell? ⟨w.heap.size + 1, 0, none⟩ = some x ∧ (finE w a x y (.int .i64 z)).cell? ⟨w.heap.size + 1, 1, none⟩ = some y ∧ (finE w a x y (.int .i64 z)).cell? ⟨w.heap.size + 1 + 1, 0, none⟩ = some (.int .i64 z) := by
  unfold finE finW
  refine ⟨cell_ne (by simp) (cell_ne (by simp) (World.cell?_setCell_same' _ _ _ (by rw [h.fr.r0]; rfl))), cell_ne (by simp) (World.cell?_setCell_same' _ _ _ (some_ne (by simp) (by rw [h.fr.r1]; rfl))), ?_⟩
  exact World.cell?_setCell_same' _ _ _ (some_ne (by simp) (some_ne (by simp) (by rw [h.e0]; rfl)))
theorem Fe.finE_kp (h : Fe w A n c B m d er a) (x y z : Value) : Kp w (finE w a x y z) := (h.fr.end_ x y).setCell (p := ⟨w.heap.size + 1 + 1, 0, none⟩) (by show w.heap.size ≤ w.heap.size + 1 + 1; omega) z
theorem Fe.to_err (h : Fe w A n c B m d er a) (z : Int) : Fe w A n c B m d z (finE w a (.slice none 0 0) (.slice none 0 0) (.int .i64 z)) := by
  obtain ⟨q0, q1, q2⟩ := h.finE_fe (.slice none 0 0) (.slice none 0 0) z
  have hs : (finE w a (.slice none 0 0) (.slice none 0 0) (.int .i64 z)).heap.size = a.heap.size := by unfold finE finW; rw [World.size_setCell, World.size_setCell, World.size_setCell]
  refine ⟨⟨h.finE_kp _ _ _, ?_, ?_, q0, q1, ?_, ?_, by rw [hs]; exact h.fr.sz⟩, q2, ?_, by rw [hs]; exact h.sz⟩
  · unfold finE finW; exact cell_ne (by simp) (cell_ne (by simp) (cell_ne (by simp) h.fr.b0))
  · unfold finE finW; exact cell_ne (by simp) (cell_ne (by simp) (cell_ne (by simp) h.fr.b1))
  · unfold finE finW; rw [World.frozen?_setCell, World.frozen?_setCell, World.frozen?_setCell]; exact h.fr.f0
  · unfold finE finW; rw [World.frozen?_setCell, World.frozen?_setCell, World.frozen?_setCell]; exact h.fr.f1
  · unfold finE finW; rw [World.frozen?_setCell, World.frozen?_setCell, World.frozen?_setCell]; exact h.ef
theorem Own.finE {b : Nat} {v : Value} {xs : List Int} (h : Own b a v xs) (hb : w.heap.size + 2 < b) (hD : a.heap[D]? = some (.deferred (some []))) (hne : w.heap.size + 2 < D) (x y z : Value) : Own b ((finE w a x y z).putObj D (.deferred none)) v xs :=
  ownsRow_putObj (((h.put_ (p := ⟨w.heap.size + 1, 0, none⟩) (by show w.heap.size + 1 < b; omega) x).put_ (p := ⟨w.heap.size + 1, 1, none⟩) (by show w.heap.size + 1 < b; omega) y).put_ (p := ⟨w.heap.size + 1 + 1, 0, none⟩) hb z) _ (finE_K hD hne x y z) rfl
end

set_option maxRecDepth 100000 in
set_option maxHeartbeats 4000000 in
theorem fold_true (A B C : Option Addr) (c d e : Nat) (g xs s : List Int) (w : World) (hA : Rd w A g) (hB : Rd w B xs) (hC : Rd w C s) (hi : I64s xs) (ht : tokV g xs = true) (hf : fitsV s g = true) :
    Calls Try.prog 18 #[.agg #[.slice A g.length c, .slice B xs.length d], .slice C s.length e] w (RetT (foldV g xs s) w) := by
  have hl := hA.len
  have gl := hB.len
  have kl := hC.len
  have F0 := Lib.hid (Fe.mk_ w A g.length c B xs.length d 24 27)
  have HT := Lib.hid (tcheck_any A B c d g xs _ (hA.kp F0.out.fr.kp) (hB.kp F0.out.fr.kp))
  rw [ht] at HT
  have HG : Hid (∀ W, Kp w W → Calls Try.prog 26 #[.slice C s.length e, .slice A g.length c] W fun e w' => e = .returned (.bool true) ∧ Kp W w') := fun W k => by rw [← hf]; exact fits_any C A e c s g W (hC.kp k) (hA.kp k)
  have hg := (fits_al hf).1
  have hp := ok_prod hg
  have hz := size_ok hg
  obtain ⟨M, hM⟩ : ∃ M : Nat, sizeV s = M := ⟨(sizeV s).toNat, by omega⟩
  have hxl : sizeV g = (xs.length : Int) := by have := (tok_iff.1 ht); rw [size_ok this.1]; exact this.2.symm
  have hfl : foldL s g xs = foldG (fun i => (srcI s g i).toNat) (List.replicate M 0) 0 xs := by unfold foldL; rw [hM, Int.toNat_natCast]
  have HY : Hid (∀ zs, TnJ.foldP (fun i => (srcI s g i).toNat) xs (List.range xs.length) (List.replicate M 0) = some zs → foldV g xs s = (s, zs, 0)) := fun zs r => TnG.fold_yes ht hf (hfl.trans (TnJ.fold_done r))
  have HN : Hid (∀ k, k ≤ xs.length → TnJ.foldP (fun i => (srcI s g i).toNat) xs (List.range k) (List.replicate M 0) = none → foldV g xs s = ([], [], 10)) := fun k hk r => TnG.fold_err ht hf (hfl.trans (TnJ.fold_over hk r))
  have HS : Hid (∀ W, Kp w W → Calls Try.prog 29 #[.slice C s.length e] W fun e w' => e = .returned (.int .i64 (M : Int)) ∧ W = w') := fun W kk => by
    have hh := size_any C e s W (hC.kp kk)
    rw [hM] at hh
    exact hh
  have HM : Hid (∀ k : Nat, k < xs.length → ∃ m : Nat, srcI s g k = (m : Int) ∧ m < M) := fun k hk => TnG.dst_nat ht hf hM hk
  have HPS : Hid (∀ (n Bs Bf : Nat) (w0 : World), 1 ≤ n → Qp w Bs Bf A g.length c C s.length e w0 → SeqStopsK Fence.wide n Try.prog 46 #[.pointer (some ⟨Bs, 0, none⟩), .pointer (some ⟨Bf, 0, none⟩)] (plEnc s g xs.length) (fun W W' => Qp w Bs Bf A g.length c C s.length e W → Qp w Bs Bf A g.length c C s.length e W')
      (fun ys => ys.map (·.1) = List.range xs.length) (fun pre => ∃ k, k ≤ xs.length ∧ pre.map (·.1) = List.range k) xs.length w0) := fun n Bs Bf w0 hn hq => places_stops C A e c s g xs.length Bs Bf n w w0 hC hA hf hxl hn hq
  have n1 : 0 < M := by omega
  have n2 : M ≤ 64 := by omega
  have hs3 : s.length ≤ 1000000 := by have := (ok_iff.1 hg).1; omega
  have HCL : Hid (∀ W, Kp w W → Calls Try.prog 30 #[.slice C s.length e] W (RetO s W)) := fun W kk => clone_any C e s W (hC.kp kk) hs3
  have hx64 : xs.length ≤ 64 := (tok_len ht).2.2.2
  obtain ⟨cs, hmk, hown0⟩ := mk_ M (by omega)
  have HOW := Lib.hid hown0
  have HBX := Lib.hid hB
  have HIX := Lib.hid hi
  clear ht hf hg hp hz hM hown0 hs3 hxl hfl hi
  refine (callsIn_wide (n := 4)).1 ?_
  refine callsIn_of_wp_marks Try.func18 rfl trivial ?_ rfl
  simp only [Try.ntmps18, List.size_toArray, List.length_cons, List.length_nil, Nat.reduceAdd, Nat.reduceSub, Array.replicate_succ, Array.replicate_zero, List.push_toArray, List.append_toArray, List.nil_append, List.cons_append]
  gi_wp2_with fail
  refine ⟨trivial, (callsIn_wide.2 HT.out).mono ?_⟩; rintro en w1 ⟨rfl, k1⟩
  have F1 := Lib.hid (F0.out.tr k1)
  have b0 := F1.out.fr.b0
  have b1 := F1.out.fr.b1
  clear k1
  gi_wp2_with fail
  refine ⟨trivial, (callsIn_wide.2 (HG.out _ F1.out.fr.kp)).mono ?_⟩; rintro en w2 ⟨rfl, k2⟩
  have F2 := Lib.hid (F1.out.tr k2)
  clear k2 b0 b1
  gi_wp2_with fail
  refine ⟨trivial, (callsIn_wide.2 (HS.out _ F2.out.fr.kp)).mono ?_⟩; rintro en w3 ⟨rfl, rfl⟩
  have b0 := F2.out.fr.b0
  have y1 : w.heap.size < w2.heap.size := by have := F2.out.sz; omega
  have y2 : w.heap.size < w2.heap.size + 1 := by omega
  gi_wp2_with fail
  refine ⟨trivial, (callsIn_wide.2 (places_any _ _ _ _ _ _ _)).mono ?_⟩; rintro en w4 ⟨rfl, rfl⟩
  gi_wp2_with fail
  have hmx : Try.prog.follows .mixedOrders = true := by kernel_rfl
  obtain ⟨W1, hW1⟩ : ∃ W1, ((((w2.alloc (.cells cs 3)).alloc (.cells #[.slice (some ⟨w2.heap.size, 0, none⟩) M M] 22)).alloc (.cells #[.slice A g.length c] 22)).alloc (.cells #[.slice C s.length e] 22)) = W1 := ⟨_, rfl⟩
  have FW : Hid (Fe w A g.length c B xs.length d 0 W1) := by show Fe w A g.length c B xs.length d 0 W1; rw [← hW1]; exact (((F2.out.tr (Kp.alloc_ _ _)).tr (Kp.alloc_ _ _)).tr (Kp.alloc_ _ _)).tr (Kp.alloc_ _ _)
  have SW : Hid (W1.heap.size = w2.heap.size + 4 ∧ w.heap.size + 3 ≤ w2.heap.size) := ⟨by rw [← hW1]; simp, F2.out.sz⟩
  have OW : Hid (Own (w.heap.size + 3) W1 (.slice (some ⟨w2.heap.size, 0, none⟩) M M) (List.replicate M 0)) := by
    show Own (w.heap.size + 3) W1 _ _; rw [← hW1]; exact (((HOW.out w2 (w.heap.size + 3) F2.out.sz).kp (Kp.alloc_ _ _)).kp (Kp.alloc_ _ _)).kp (Kp.alloc_ _ _)
  have BW : Hid (W1.cell? ⟨w2.heap.size + 1, 0, none⟩ = some (.slice (some ⟨w2.heap.size, 0, none⟩) M M)) := by show W1.cell? _ = _; rw [← hW1]; simp [go_sem]
  have QW : Hid (Qp w (w2.heap.size + 1 + 1) (w2.heap.size + 1 + 1 + 1) A g.length c C s.length e W1) := by
    refine Lib.hid ⟨by rw [← hW1]; simp [go_sem], by rw [← hW1]; simp [go_sem], FW.out.fr.kp, ?_, ?_⟩
    · have := SW.out.1; omega
    · have := SW.out.1; omega
  rw [hW1]
  clear hW1 b0 y1 y2 hmk
  have hw1 : w.heap.size ≤ W1.heap.size := FW.out.fr.kp.size
  refine wpIn_rangeFunc_ownF rfl (by omega) (gf := 46) (lb := #[.pointer (some ⟨w2.heap.size + 1 + 1, 0, none⟩), .pointer (some ⟨w2.heap.size + 1 + 1 + 1, 0, none⟩)]) rfl trivial (enters_of Try.func46 (by kernel_rfl) rfl)
    (HPS.out _ _ _ W1 (by omega) QW.out) (fun h k q => k (h q))
    (fun W l o o' hl h ho hw q => q.tb (belowK_b (w := W1) (Nat.le_refl _) W l o o' hl h ho hw) (by have := SW.out.1; omega) (by have := SW.out.1; omega) hw1)
    (Below.refl _ _) (fun _ => rfl)
    (fun pre W => W1.heap.size ≤ W.heap.size ∧ Fe w A g.length c B xs.length d 0 W ∧ W.cell? ⟨w2.heap.size + 1, 0, none⟩ = some (.slice (some ⟨w2.heap.size, 0, none⟩) M M) ∧ ∃ zs, TnJ.foldP (fun i => (srcI s g i).toNat) xs (pre.map (·.1)) (List.replicate M 0) = some zs ∧ Own (w.heap.size + 3) W (.slice (some ⟨w2.heap.size, 0, none⟩) M M) zs)
    (fun c0 pre W => W1.heap.size ≤ W.heap.size ∧ c0 = .ret ∧ Fe w A g.length c B xs.length d 10 W ∧ TnJ.foldP (fun i => (srcI s g i).toNat) xs (pre.map (·.1)) (List.replicate M 0) = none)
    (fun pre W W' row hs hg hr => by
      have hb := below_grown hs.1 hg hr
      have := SW.out
      obtain ⟨h1, h2, h3, zs, h4, h5⟩ := hs
      exact ⟨Nat.le_trans h1 hb.size, h2.tb (hb.mono (by omega)), (hb.cell (p := ⟨w2.heap.size + 1, 0, none⟩) (by show w2.heap.size + 1 < _; omega)).trans h3, zs, h4, h5.tb hb (by omega)⟩)
    (fun c0 pre W W' row hs hg hr => by
      have hb := below_grown hs.1 hg hr
      have := SW.out
      exact ⟨Nat.le_trans hs.1 hb.size, hs.2.1, hs.2.2.1.tb (hb.mono (by omega)), hs.2.2.2⟩)
    ⟨Nat.le_refl _, FW.out, BW.out, _, rfl, OW.out⟩
    (fun x => { tmps := #[.agg #[.slice A g.length c, .slice B xs.length d], .slice C s.length e, .pointer (some ⟨w.heap.size, 0, none⟩), undef, .pointer (some ⟨w.heap.size + 1, 0, none⟩), .pointer (some ⟨w.heap.size + 1 + 1, 0, none⟩), .pointer (some ⟨w2.heap.size + 1, 0, none⟩), .int .i64 (x.1 : Int), .int .i64 (srcI s g x.1), undef, undef,
      .agg #[.slice A g.length c, .slice B xs.length d], .bool true, .bool false, undef, .slice C s.length e, .pointer (some ⟨w.heap.size, 0, none⟩), .slice A g.length c, .bool true, .bool false, undef, .slice C s.length e, .int .i64 (M : Int), .slice (some ⟨w2.heap.size, 0, none⟩) M M, .pointer (some ⟨w.heap.size, 0, none⟩), .slice A g.length c, .slice C s.length e,
      .func (.func 46) #[] #[.pointer (some ⟨w2.heap.size + 1 + 1, 0, none⟩), .pointer (some ⟨w2.heap.size + 1 + 1 + 1, 0, none⟩)], .int .i64 (x.1 : Int), .int .i64 (srcI s g x.1), undef, undef, undef, undef, undef, undef, undef, undef, undef, undef, undef, undef, undef, undef, undef, undef, undef, undef, undef, undef, undef, undef, undef, undef, undef], defers := [] }) ?assign ?body ?done ?stop
  case assign =>
    intro l x W K hK
    gi_wp2
    exact hK
  case body =>
    rintro l pre ⟨k, hk⟩ W ⟨hsz, hfe, hbx, zs, hfp, hown⟩ _
    obtain ⟨m, hm, hmx2⟩ := HM.out k hk
    obtain ⟨bd, x, rfl, hbl, hx, hc⟩ := HBX.out.at_ hk
    dsimp only
    rw [hm]
    obtain ⟨hz1, hz2⟩ := TnJ.foldP_inv hfp (I64s.rep (by omega))
    rw [List.length_replicate] at hz2
    obtain ⟨y, hy⟩ : ∃ y, zs[m]? = some y := ⟨zs[m]'(by rw [hz2]; exact hmx2), List.getElem?_eq_getElem _⟩
    have hi1 : I64 x := HIX.out.get hx
    have hi2 : I64 y := hz1.get hy
    have HAD : Hid (∀ W, Calls Try.prog 38 #[.int .i64 y, .int .i64 x] W fun e w' => e = .returned (.tuple #[.int .i64 (addV y x).1, .int .i64 (addV y x).2]) ∧ W = w') := fun W => add_any y x hi2 hi1 W
    have hmm : (fun i : Nat => (srcI s g i).toNat) k = m := by show (srcI s g k).toNat = m; omega
    have b1 := hfe.fr.b1
    have c1 : W.cell? (bd.add k) = some (.int .i64 x) := (hfe.fr.kp.cell (by rw [block_of_add]; exact hbl)).trans hc
    have e1 := hown.cell_ hy
    have e2 := hown.froz_ m
    have HO := Lib.hid hown
    have HFE := Lib.hid hfe
    have i1 : (0 : Int) ≤ (m : Int) := by omega
    have i2 : (m : Int) < (M : Int) := by omega
    have i3 : (k : Int) < (xs.length : Int) := by omega
    have i4 : (0 : Int) ≤ (k : Int) := by omega
    have HSW := Lib.hid SW.out
    have r0 := hfe.fr.r0
    have r1 := hfe.fr.r1
    have f0 := hfe.fr.f0
    have f1 := hfe.fr.f1
    have g0 := hfe.e0
    have g1 := hfe.ef
    have hne : w2.heap.size ≠ w2.heap.size + 1 := by omega
    rcases TnG.add_two y x with ⟨v, hv⟩ | hv
    · rw [hv] at HAD
      have HST : Hid (TnJ.foldP (fun i => (srcI s g i).toNat) xs ((pre ++ [(⟨k, hk⟩ : Pl xs.length)]).map (·.1)) (List.replicate M 0) = some (zs.set m v)) := by
        show TnJ.foldP _ _ _ _ = _
        rw [List.map_append]
        exact (TnJ.foldP_snoc hfp).trans (TnJ.step_yes hmm hx hy hv)
      clear hv hmm hm hx hc hown hbl hfp hz1 hz2 hy hi1 hi2
      gi_wp2
      refine round_quiet hmx (by kernel_rfl) (by kernel_rfl) (fun ⟨_, _, h⟩ => h) ?_
      repeat (quiet_step ((go_at_call 38; exact quiet_same (HAD.out _))))
      refine wpQuiet_nil ?_
      rintro w7 ⟨nq, rfl⟩
      gi_wp2
      refine ⟨KeepsOthers.trans (keeps_drewN W nq) (KeepsOthers.setCell _ _ _), fun q => (q.tr (Kp.drewN_ _ _)).put (p := ⟨w2.heap.size, m, none⟩) (by show w2.heap.size ≠ _; omega) (by show w2.heap.size ≠ _; omega) (by show w.heap.size ≤ w2.heap.size; have := HSW.out.2; omega) _, ?_, ?_, ?_, zs.set m v, HST.out, (HO.out.drewN nq).set_ m v⟩
      · rw [World.size_setCell]; exact hsz
      · exact (HFE.out.tr (Kp.drewN_ _ _)).tb ((Below.refl _ _).setCell (p := ⟨w2.heap.size, m, none⟩) HSW.out.2 _)
      · exact cell_ne (fun e => hne (congrArg Addr.block e)) hbx
    · rw [hv] at HAD
      have HST : Hid (TnJ.foldP (fun i => (srcI s g i).toNat) xs ((pre ++ [(⟨k, hk⟩ : Pl xs.length)]).map (·.1)) (List.replicate M 0) = none) := by
        show TnJ.foldP _ _ _ _ = _
        rw [List.map_append]
        exact (TnJ.foldP_snoc hfp).trans (TnJ.step_no hmm hx hy hv)
      clear hv hmm hm hx hc hown hbl hfp hz1 hz2 hy hi1 hi2
      gi_wp2
      refine round_quiet hmx (by kernel_rfl) (by kernel_rfl) (fun ⟨_, _, h⟩ => h) ?_
      repeat (quiet_step ((go_at_call 38; exact quiet_same (HAD.out _))))
      refine wpQuiet_nil ?_
      rintro w7 ⟨nq, rfl⟩
      gi_wp2
      refine ⟨KeepsOthers.trans (keeps_drewN W nq) (((KeepsOthers.setCell _ _ _).trans (KeepsOthers.setCell _ _ _)).trans (KeepsOthers.setCell _ _ _)), ?_, rfl, (HFE.out.tr (Kp.drewN_ _ _)).to_err 10, HST.out⟩
      rw [World.size_setCell, World.size_setCell, World.size_setCell]; exact hsz
  case done =>
    rintro D ys W hD hS ⟨hsz, hfe, hbx, zs, hfp, hown⟩ hK
    have hDl : D < W.heap.size := (Array.getElem?_eq_some_iff.1 hK).1
    rw [hS] at hfp
    have HF := Lib.hid (HY.out zs hfp)
    have HZL : Hid (M = zs.length) := by show M = _; have := (TnJ.foldP_inv hfp (I64s.rep (by omega))).2; rw [List.length_replicate] at this; exact this.symm
    have HO := Lib.hid hown
    have HFE := Lib.hid hfe
    have HKD := Lib.hid hK
    have y1 : w2.heap.size + 1 < W.heap.size := by have := SW.out.1; omega
    have HCW : Hid (Kp w W.drew) := hfe.fr.kp.drew
    clear hown hK hfp
    have r0 := hfe.fr.r0
    have r1 := hfe.fr.r1
    have f0 := hfe.fr.f0
    have f1 := hfe.fr.f1
    have g0 := hfe.e0
    have g1 := hfe.ef
    have y2 : w.heap.size + 1 < W.heap.size := by have := hfe.sz; omega
    have y3 : w.heap.size + 1 + 1 < W.heap.size := by have := hfe.sz; omega
    gi_wp2
    refine wpIn_calm ?_
    gi_region_with_o (refine ⟨trivial, ?_⟩; gi_at_call 30; refine (callsIn_wide.2 (HCL.out _ HCW.out)).mono ?_; rintro en w5 ⟨AS, cS, rfl, oS, kS⟩; have cellF : ∀ p : Addr, p.block < W.heap.size → w5.cell? p = W.cell? p := fun p hp => kS.cell hp; have frozF : ∀ p : Addr, p.block < W.heap.size → w5.frozen? p = W.frozen? p := fun p hp => kS.frozen hp; have HOS := Lib.hid oS; have HKS : Hid (Kp W w5) := ⟨kS.os, kS.tape, kS.output, kS.size, kS.block⟩; clear oS kS)
    all_goals gi_wp2
    all_goals
      have hK5 : w5.heap[D]? = some (.deferred (some [])) := (HKS.out.block D hDl).trans HKD.out
      have hD2 : w.heap.size + 2 < D := by have := SW.out.1; have := SW.out.2; omega
      have hF5 := HFE.out.tr HKS.out
      refine ret_marks (v := .tuple #[.agg #[.slice AS s.length cS, .slice (some ⟨w2.heap.size, 0, none⟩) M M], .int .i64 0]) (finE_K hK5 hD2 _ _ _) (by
        have hp := put_B (finE_K (w := w) hK5 hD2 (.slice AS s.length cS) (.slice (some ⟨w2.heap.size, 0, none⟩) M M) (.int .i64 0))
        obtain ⟨q0, q1, q2⟩ := hF5.finE_fe (.slice AS s.length cS) (.slice (some ⟨w2.heap.size, 0, none⟩) M M) 0
        have p0 := (hp.cell (p := ⟨w.heap.size + 1, 0, none⟩) (by show w.heap.size + 1 < D; omega)).trans q0
        have p1 := (hp.cell (p := ⟨w.heap.size + 1, 1, none⟩) (by show w.heap.size + 1 < D; omega)).trans q1
        have p2 := (hp.cell (p := ⟨w.heap.size + 1 + 1, 0, none⟩) (by show w.heap.size + 1 + 1 < D; omega)).trans q2
        unfold finE finW at p0 p1 p2
        simp [results, Try.results18, go_sem, p0, p1, p2]) ?_
      exact RetT.on HF.out rfl HZL.out (HOS.out.finE (by show _ < W.heap.size; omega) hK5 hD2 _ _ _).sl.rd ((HO.out.kp HKS.out).finE (Nat.lt_succ_self _) hK5 hD2 _ _ _).sl.rd ((hF5.finE_kp _ _ _).trans ((put_B (finE_K hK5 hD2 _ _ _)).mono (by omega)))
  case stop =>
    rintro D c0 pre W hD ⟨k, hk, hpre⟩ ⟨hsz, rfl, hfe, hfp⟩ hK
    rw [hpre] at hfp
    have HF := Lib.hid (HN.out k hk hfp)
    have hD2 : w.heap.size + 2 < D := by have := SW.out.1; have := SW.out.2; omega
    have hp := put_B hK
    have p0 := (hp.cell (p := ⟨w.heap.size + 1, 0, none⟩) (by show w.heap.size + 1 < D; omega)).trans hfe.fr.r0
    have p1 := (hp.cell (p := ⟨w.heap.size + 1, 1, none⟩) (by show w.heap.size + 1 < D; omega)).trans hfe.fr.r1
    have p2 := (hp.cell (p := ⟨w.heap.size + 1 + 1, 0, none⟩) (by show w.heap.size + 1 + 1 < D; omega)).trans hfe.e0
    have HP := Lib.hid (And.intro p0 (And.intro p1 p2))
    have HKK := Lib.hid (And.intro hK (hfe.fr.kp.trans (hp.mono (by omega))))
    clear p0 p1 p2 hK hp
    gi_wp2
    refine ret_marks (v := .tuple #[.agg #[.slice none 0 0, .slice none 0 0], .int .i64 10]) HKK.out.1 (by
      obtain ⟨p0, p1, p2⟩ := HP.out
      simp [results, Try.results18, go_sem, p0, p1, p2]) ?_
    exact RetT.err HF.out HKK.out.2

set_option maxHeartbeats 2000000 in
theorem fold_any (A B C : Option Addr) (c d e : Nat) (g xs s : List Int) (w : World) (hA : Rd w A g) (hB : Rd w B xs) (hC : Rd w C s) (hi : I64s xs) :
    Calls Try.prog 18 #[.agg #[.slice A g.length c, .slice B xs.length d], .slice C s.length e] w (RetT (foldV g xs s) w) := by
  have hl := hA.len
  have gl := hB.len
  have kl := hC.len
  cases ht : tokV g xs with
  | false =>
    have F0 := Lib.hid (Fe.mk_ w A g.length c B xs.length d 24 27)
    have HT := Lib.hid (tcheck_any A B c d g xs _ (hA.kp F0.out.fr.kp) (hB.kp F0.out.fr.kp))
    rw [ht] at HT
    have HF := Lib.hid (TnG.fold_no s ht)
    clear ht
    go_enter Try.func18, Try.ntmps18
    go_wp2_with fail
    refine (Calls.mono (Hid.out HT)) ?_; rintro e w1 ⟨rfl, k1⟩
    have F1 := Lib.hid (F0.out.tr k1)
    obtain ⟨⟨_, b0, b1, r0, r1, f0, f1, _⟩, g0, g1, _⟩ := F1.out
    clear k1
    go_wp2
    refine bodyPost_ret (v := .tuple #[.agg #[.slice none 0 0, .slice none 0 0], .int .i64 30]) (by
      obtain ⟨q0, q1, q2⟩ := F1.out.finE_fe (.slice none 0 0) (.slice none 0 0) 30
      unfold finE finW at q0 q1 q2
      simp [results, Try.results18, go_sem, q0, q1, q2]) rfl ?_
    exact RetT.err HF.out (F1.out.finE_kp _ _ _)
  | true =>
    cases hf : fitsV s g with
    | true => exact fold_true A B C c d e g xs s w hA hB hC hi ht hf
    | false =>
      have F0 := Lib.hid (Fe.mk_ w A g.length c B xs.length d 24 27)
      have HT := Lib.hid (tcheck_any A B c d g xs _ (hA.kp F0.out.fr.kp) (hB.kp F0.out.fr.kp))
      rw [ht] at HT
      have HG : Hid (∀ W, Kp w W → Calls Try.prog 26 #[.slice C s.length e, .slice A g.length c] W fun e w' => e = .returned (.bool false) ∧ Kp W w') := fun W k => by rw [← hf]; exact fits_any C A e c s g W (hC.kp k) (hA.kp k)
      have HF := Lib.hid (TnG.fold_misfit ht hf)
      clear ht hf
      go_enter Try.func18, Try.ntmps18
      go_wp2_with fail
      refine (Calls.mono (Hid.out HT)) ?_; rintro e w1 ⟨rfl, k1⟩
      have F1 := Lib.hid (F0.out.tr k1)
      obtain ⟨⟨_, b0, b1, _, _, _, _, _⟩, _, _, _⟩ := F1.out
      clear k1
      go_wp2_with fail
      refine (Calls.mono (HG.out _ F1.out.fr.kp)) ?_; rintro e w2 ⟨rfl, k2⟩
      have F2 := Lib.hid (F1.out.tr k2)
      clear b0 b1 k2
      obtain ⟨⟨_, b0, b1, r0, r1, f0, f1, _⟩, g0, g1, _⟩ := F2.out
      go_wp2
      refine bodyPost_ret (v := .tuple #[.agg #[.slice none 0 0, .slice none 0 0], .int .i64 20]) (by
        obtain ⟨q0, q1, q2⟩ := F2.out.finE_fe (.slice none 0 0) (.slice none 0 0) 20
        unfold finE finW at q0 q1 q2
        simp [results, Try.results18, go_sem, q0, q1, q2]) rfl ?_
      exact RetT.err HF.out (F2.out.finE_kp _ _ _)
end Go.Proofs.Ytdekchfapblgeaa
