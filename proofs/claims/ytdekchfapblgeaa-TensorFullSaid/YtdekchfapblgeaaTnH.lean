/- The places of a shape, each with the place it comes from: what the range over a function hands on. -/
import Derived.Test.YtdekchfapblgeaaTnG
import Derived.RangeFuncNested
import Derived.RangeFuncBound
import Derived.RangeFuncCalls
import Derived.RangeFuncLeaves
import Derived.Shelf.Abstract
import Derived.Shelf.RegionOpen
import Derived.OwnWalkIn
import Derived.TacticsInMore
import Derived.LoopNIn
import Derived.LoopIn
namespace Go.Proofs.Ytdekchfapblgeaa
open Go.RowKit Go.Shelf Go.Proofs.ShM Go.Proofs.FixM
attribute [local go_sem] Oper.semAt_some

theorem Kp.grown {w w' : World} (k : Kp w w') : w.grownBy w' none := ⟨k.os, k.tape, k.output, k.size, fun j hj _ => k.block j hj⟩
/-- The two shapes' boxes, and the shapes. -/
structure Qp (w : World) (Bs Bf : Nat) (C : Option Addr) (gl e : Nat) (A : Option Addr) (sl c : Nat) (W : World) : Prop where
  bs : W.cell? ⟨Bs, 0, none⟩ = some (.slice C gl e)
  bf : W.cell? ⟨Bf, 0, none⟩ = some (.slice A sl c)
  kp : Kp w W
  ls : Bs < W.heap.size
  lf : Bf < W.heap.size
theorem Qp.tb {w : World} {Bs Bf : Nat} {C : Option Addr} {gl e : Nat} {A : Option Addr} {sl c B : Nat} {W W' : World} (h : Qp w Bs Bf C gl e A sl c W) (k : Below B W W') (hs : Bs < B) (hf : Bf < B) (hw : w.heap.size ≤ B) : Qp w Bs Bf C gl e A sl c W' where
  bs := (k.cell (p := ⟨Bs, 0, none⟩) hs).trans h.bs
  bf := (k.cell (p := ⟨Bf, 0, none⟩) hf).trans h.bf
  kp := h.kp.trans (k.mono hw)
  ls := Nat.lt_of_lt_of_le h.ls k.size
  lf := Nat.lt_of_lt_of_le h.lf k.size
theorem Qp.tr {w : World} {Bs Bf : Nat} {C : Option Addr} {gl e : Nat} {A : Option Addr} {sl c : Nat} {W W' : World} (h : Qp w Bs Bf C gl e A sl c W) (k : Kp W W') : Qp w Bs Bf C gl e A sl c W' :=
  h.tb k h.ls h.lf h.kp.size
/-- A place, with the place that it comes from. -/
abbrev Pl (N : Nat) := { k : Nat // k < N }
abbrev plEnc (s g : List Int) (N : Nat) (x : Pl N) : Array Value := #[.int .i64 (x.1 : Int), .int .i64 (srcI s g x.1)]

set_option maxHeartbeats 1000000 in
theorem places_any (A C : Option Addr) (c e n m : Nat) (w : World) :
    Calls Try.prog 35 #[.slice C n e, .slice A m c] w fun en w' => en = .returned (.func (.func 46) #[] #[.pointer (some ⟨w.heap.size, 0, none⟩), .pointer (some ⟨w.heap.size + 1, 0, none⟩)]) ∧
      w' = (w.alloc (.cells #[.slice C n e] 22)).alloc (.cells #[.slice A m c] 22) := by
  go_enter Try.func35, Try.ntmps35
  go_wp2
  go_ret
  exact ⟨rfl, rfl⟩

set_option maxRecDepth 100000 in
set_option maxHeartbeats 2000000 in
theorem places_stops (A C : Option Addr) (c e : Nat) (s g : List Int) (N Bs Bf n : Nat) (w w0 : World) (hA : Rd w A s) (hC : Rd w C g) (hf : fitsV s g = true) (hN : sizeV g = N) (hn : 1 ≤ n) (hQ : Qp w Bs Bf C g.length e A s.length c w0) :
    SeqStopsK Fence.wide n Try.prog 46 #[.pointer (some ⟨Bs, 0, none⟩), .pointer (some ⟨Bf, 0, none⟩)] (plEnc s g N) (fun W W' => Qp w Bs Bf C g.length e A s.length c W → Qp w Bs Bf C g.length e A s.length c W')
      (fun xs => xs.map (·.1) = List.range N) (fun pre => ∃ k, k ≤ N ∧ pre.map (·.1) = List.range k) N w0 := fun l J Jx W hW hJ hJx hY h0 => by
  have hQW := hQ.tr hW
  have n2 : N ≤ 64 := by have := size_le g; omega
  have HS : Hid (∀ W', Kp w W' → Calls Try.prog 29 #[.slice C g.length e] W' fun en w' => en = .returned (.int .i64 (N : Int)) ∧ W' = w') := fun W' kk => by
    have hh := size_any C e g W' (hC.kp kk)
    rw [hN] at hh
    exact hh
  have HQ1 : Hid (∀ W' (k : Nat), Kp w W' → k < N → Calls Try.prog 47 #[.slice C g.length e, .int .i64 (k : Int), .slice A s.length c] W' fun en w' => en = .returned (.int .i64 (srcI s g k)) ∧ Kp W' w') := fun W' k kk hk => source_any A C c e s g k W' (hA.kp kk) (hC.kp kk) hf (by omega) (by omega)
  have HJ := Lib.hid hJ
  have HY := Lib.hid hY
  obtain ⟨gl, hgl⟩ : ∃ gl, gl = g.length := ⟨_, rfl⟩
  rw [← hgl] at HS HQ1 hQW HY
  clear hgl hJx hJ hY hA hC hf hN hQ hW
  refine callsIn_of_wp Try.func46 rfl trivial ?_ rfl
  simp only [Try.ntmps46, List.size_toArray, List.length_cons, List.length_nil, Nat.reduceAdd, Nat.reduceSub, Array.replicate_succ, Array.replicate_zero, List.push_toArray, List.append_toArray, List.nil_append, List.cons_append]
  have hbs := hQW.bs
  gi_wp2_with (refine ⟨trivial, ?_⟩; gi_at_call 29; refine (callsIn_wide.2 (HS.out _ hQW.kp)).mono ?_; rintro en w2 ⟨rfl, rfl⟩)
  gi_loopw [4, 7] (fun _ i wr => ∃ (pre : List (Pl N)) (k : Nat), i = .int .i64 k ∧ k ≤ N ∧ Hid (pre.map (·.1) = List.range k) ∧ Hid (J pre wr) ∧ Hid (Qp w Bs Bf C gl e A s.length c wr)) (fun _ i _ => N - (intOf i).toNat)
  case atStart => exact ⟨[], 0, rfl, Nat.zero_le _, rfl, h0, hQW⟩
  case round =>
    clear hbs
    obtain ⟨pre, k, rfl, hkN, hpre, hJp, hQr⟩ := hrel
    have hb1 := hQr.out.bs
    have hb2 := hQr.out.bf
    by_cases hlt : k < N
    · have HL : Hid (pre.length < N) := by show _ < N; have := congrArg List.length hpre.out; simp at this; omega
      gi_wp2_with (refine ⟨trivial, ?_⟩; gi_at_call 47; refine (callsIn_wide.2 (HQ1.out _ k hQr.out.kp hlt)).mono ?_; rintro en w2 ⟨rfl, k2⟩; have hJ2 := HJ.out pre _ _ none hJp.out k2.grown (fun r e => by cases e); obtain ⟨fn, tmps, assign, body, hy, hR⟩ := HY.out pre ⟨k, hlt⟩ w2 hJ2 HL.out; dsimp only [plEnc] at hy; have HQ2 := Lib.hid (hQr.out.tr k2); clear k2 hJ2)
      have hmap : Hid ((pre ++ [(⟨k, hlt⟩ : Pl N)]).map (·.1) = List.range (k + 1)) := by show _ = _; rw [List.map_append, hpre.out, List.range_succ]; rfl
      refine hR.mono ?_
      rintro en W3 (⟨rfl, hJ3, hk3⟩ | ⟨rfl, hJx3⟩)
      · have H3 := Lib.hid (And.intro hJ3 (hk3 HQ2.out))
        clear hJ3 hk3
        gi_wp2
        go_roundw
        case rel => exact ⟨pre ++ [⟨k, hlt⟩], k + 1, by go_num, hlt, hmap, Lib.hid H3.out.1, Lib.hid H3.out.2⟩
        case measure => simp [intOf]; omega
      · gi_wp2
        refine bodyPost_ret (results_none rfl _ _ _) rfl ?_
        exact ⟨⟨_, rfl⟩, .inr ⟨_, ⟨k + 1, hlt, hmap.out⟩, hJx3⟩⟩
    · obtain rfl : k = N := by omega
      gi_wp2
      go_end0
      exact ⟨⟨_, rfl⟩, .inl ⟨pre, hpre.out, hJp.out⟩⟩
end Go.Proofs.Ytdekchfapblgeaa
