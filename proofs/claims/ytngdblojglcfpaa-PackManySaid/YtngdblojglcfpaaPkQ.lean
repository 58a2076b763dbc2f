/- Layer 8 of the program: what each deferred call leaves: the error in its box. -/
import Derived.Test.YtngdblojglcfpaaPkP
import Derived.Tactics
import Derived.Tactics2
import Derived.Defers
import Derived.Recover
import Derived.Laws.Pointers
namespace Go.Proofs.Ytngdblojglcfpaa
open Go.RowKit Go.Proofs.ShM Go.Proofs.PkM
set_option linter.unusedVariables false
set_option maxHeartbeats 4000000

theorem set_same {w : World} {p : Addr} {x : Value} (v : Value) (h : w.cell? p = some x) : (w.setCell p v).cell? p = some v := by
  simp [go_sem, h]
theorem put1_idle (p : Addr) (x : Int) (w : World) (hp : w.cell? p = some (.int .i64 x)) (hfp : w.frozen? p = false) :
    CallsD Try.prog 14 #[.pointer (some p)] .returning w fun e u' w' => e = .returned (.tuple #[]) ∧ u' = .returning ∧ w' = w.setCell p (.int .i64 0) := by
  refine callsD_of_wpS Try.func14 rfl fun c₀ cs hu => ?_
  apply wpS_region
  simp [wpOpsS, go_sem, recoverD, hu, Try.ntmps14]
  refine (told_nil w).mono ?_
  rintro e w' ⟨rfl, rfl⟩
  simp [go_sem, hp, hfp]
  cases c₀
  simp_all [bodyPostS, results, Try.results14]
theorem put1_thrown (p : Addr) (x : Int) (older : List PanicEntry) (w : World) (hp : w.cell? p = some (.int .i64 x)) (hfp : w.frozen? p = false) :
    CallsD Try.prog 14 #[.pointer (some p)] (.panicking ({ v := .iface 25 (.int .i64 40), recovered := false } :: older)) w fun e u' w' => e = .returned (.tuple #[]) ∧ u' = .panicking ({ v := .iface 25 (.int .i64 40), recovered := true } :: older) ∧ w' = w.setCell p (.int .i64 40) := by
  refine callsD_of_wpS Try.func14 rfl fun c₀ cs hu => ?_
  apply wpS_region
  simp [wpOpsS, go_sem, recoverD, hu, Try.ntmps14]
  refine (told_err w).mono ?_
  rintro e w' ⟨rfl, rfl⟩
  simp [go_sem, hp, hfp]
  cases c₀
  simp_all [bodyPostS, results, Try.results14]
theorem take1_idle (p : Addr) (x : Int) (w : World) (hp : w.cell? p = some (.int .i64 x)) (hfp : w.frozen? p = false) :
    CallsD Try.prog 18 #[.pointer (some p)] .returning w fun e u' w' => e = .returned (.tuple #[]) ∧ u' = .returning ∧ w' = w.setCell p (.int .i64 0) := by
  refine callsD_of_wpS Try.func18 rfl fun c₀ cs hu => ?_
  apply wpS_region
  simp [wpOpsS, go_sem, recoverD, hu, Try.ntmps18]
  refine (told_nil w).mono ?_
  rintro e w' ⟨rfl, rfl⟩
  simp [go_sem, hp, hfp]
  cases c₀
  simp_all [bodyPostS, results, Try.results18]
theorem take1_thrown (p : Addr) (x : Int) (older : List PanicEntry) (w : World) (hp : w.cell? p = some (.int .i64 x)) (hfp : w.frozen? p = false) :
    CallsD Try.prog 18 #[.pointer (some p)] (.panicking ({ v := .iface 25 (.int .i64 40), recovered := false } :: older)) w fun e u' w' => e = .returned (.tuple #[]) ∧ u' = .panicking ({ v := .iface 25 (.int .i64 40), recovered := true } :: older) ∧ w' = w.setCell p (.int .i64 40) := by
  refine callsD_of_wpS Try.func18 rfl fun c₀ cs hu => ?_
  apply wpS_region
  simp [wpOpsS, go_sem, recoverD, hu, Try.ntmps18]
  refine (told_err w).mono ?_
  rintro e w' ⟨rfl, rfl⟩
  simp [go_sem, hp, hfp]
  cases c₀
  simp_all [bodyPostS, results, Try.results18]
theorem list1_idle (p : Addr) (x : Int) (w : World) (hp : w.cell? p = some (.int .i64 x)) (hfp : w.frozen? p = false) :
    CallsD Try.prog 20 #[.pointer (some p)] .returning w fun e u' w' => e = .returned (.tuple #[]) ∧ u' = .returning ∧ w' = w.setCell p (.int .i64 0) := by
  refine callsD_of_wpS Try.func20 rfl fun c₀ cs hu => ?_
  apply wpS_region
  simp [wpOpsS, go_sem, recoverD, hu, Try.ntmps20]
  refine (told_nil w).mono ?_
  rintro e w' ⟨rfl, rfl⟩
  simp [go_sem, hp, hfp]
  cases c₀
  simp_all [bodyPostS, results, Try.results20]
theorem list1_thrown (p : Addr) (x : Int) (older : List PanicEntry) (w : World) (hp : w.cell? p = some (.int .i64 x)) (hfp : w.frozen? p = false) :
    CallsD Try.prog 20 #[.pointer (some p)] (.panicking ({ v := .iface 25 (.int .i64 40), recovered := false } :: older)) w fun e u' w' => e = .returned (.tuple #[]) ∧ u' = .panicking ({ v := .iface 25 (.int .i64 40), recovered := true } :: older) ∧ w' = w.setCell p (.int .i64 40) := by
  refine callsD_of_wpS Try.func20 rfl fun c₀ cs hu => ?_
  apply wpS_region
  simp [wpOpsS, go_sem, recoverD, hu, Try.ntmps20]
  refine (told_err w).mono ?_
  rintro e w' ⟨rfl, rfl⟩
  simp [go_sem, hp, hfp]
  cases c₀
  simp_all [bodyPostS, results, Try.results20]
theorem takeList1_idle (p : Addr) (x : Int) (w : World) (hp : w.cell? p = some (.int .i64 x)) (hfp : w.frozen? p = false) :
    CallsD Try.prog 22 #[.pointer (some p)] .returning w fun e u' w' => e = .returned (.tuple #[]) ∧ u' = .returning ∧ w' = w.setCell p (.int .i64 0) := by
  refine callsD_of_wpS Try.func22 rfl fun c₀ cs hu => ?_
  apply wpS_region
  simp [wpOpsS, go_sem, recoverD, hu, Try.ntmps22]
  refine (told_nil w).mono ?_
  rintro e w' ⟨rfl, rfl⟩
  simp [go_sem, hp, hfp]
  cases c₀
  simp_all [bodyPostS, results, Try.results22]
theorem takeList1_thrown (p : Addr) (x : Int) (older : List PanicEntry) (w : World) (hp : w.cell? p = some (.int .i64 x)) (hfp : w.frozen? p = false) :
    CallsD Try.prog 22 #[.pointer (some p)] (.panicking ({ v := .iface 25 (.int .i64 40), recovered := false } :: older)) w fun e u' w' => e = .returned (.tuple #[]) ∧ u' = .panicking ({ v := .iface 25 (.int .i64 40), recovered := true } :: older) ∧ w' = w.setCell p (.int .i64 40) := by
  refine callsD_of_wpS Try.func22 rfl fun c₀ cs hu => ?_
  apply wpS_region
  simp [wpOpsS, go_sem, recoverD, hu, Try.ntmps22]
  refine (told_err w).mono ?_
  rintro e w' ⟨rfl, rfl⟩
  simp [go_sem, hp, hfp]
  cases c₀
  simp_all [bodyPostS, results, Try.results22]
end Go.Proofs.Ytngdblojglcfpaa
