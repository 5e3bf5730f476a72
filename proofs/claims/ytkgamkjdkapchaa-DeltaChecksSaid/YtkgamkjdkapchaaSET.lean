/-
  The closure that compares targets.
-/
import Derived.WalkKit
import Derived.Test.YtkgamkjdkapchaaSCT
namespace Go.Proofs.Ytkgamkjdkapchaa
set_option linter.unusedVariables false
set_option linter.unusedSimpArgs false
set_option linter.unusedVariables false
open Go Go.RowKit Go.Shelf Go.Lib Go.Sort
set_option maxHeartbeats 1000000 in
theorem closureT_c (x y : TV) (W : World) : Calls Try.prog 56 #[.agg (cellsT x).toArray, .agg (cellsT y).toArray] W fun e w' => e = .returned (.int .i64 (Lib.compareInt x.o y.o)) ∧ ∃ q os', w' = grow (W.drewN q) os' := by
  have hcon := fun W' => AnyG.cmp_Compare_int Try.cmpI x.o y.o W'
  change ∀ W', Calls Try.prog 57 _ _ _ at hcon
  generalize Lib.compareInt x.o y.o = r at hcon ⊢
  show Calls Try.prog 56 #[.agg #[.int .i64 x.o, .int .i64 x.l, .int .i64 x.x], .agg #[.int .i64 y.o, .int .i64 y.l, .int .i64 y.x]] W _
  go_enter Try.func56, Try.ntmps56
  go_wp2_with (go_at_call 57; refine (hcon _).mono ?_; rintro e w' ⟨rfl, rfl⟩)
  go_ret
  exact ⟨rfl, 0, _, by rw [alloc_eq_grow, alloc_eq_grow, grow_grow]; rfl⟩
end Go.Proofs.Ytkgamkjdkapchaa
