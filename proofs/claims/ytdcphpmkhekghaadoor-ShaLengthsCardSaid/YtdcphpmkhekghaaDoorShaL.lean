/-
  The tables that start-up lays.
-/
import Derived.Test.YtdcphpmkhekghaaDoorFr
import Derived.Test.YtdcphpmkhekghaaDoorShaA
namespace Go.Proofs.YtdcphpmkhekghaaDoor
set_option linter.unusedVariables false
open Go Go.RowKit Go.ChangeShapes Go.WideShapes Go.ChangeAt Go.Joins Go.Deep

theorem g0n : Tryd.prog.globalNamed "graft/sha.squareRoots" = some 0 := by kernel_rfl
theorem g1n : Tryd.prog.globalNamed "graft/sha.cubeRoots" = some 1 := by kernel_rfl
theorem t0n : (Tryd.prog.globals[0]?).map (·.type) = some 49 := by kernel_rfl
theorem t1n : (Tryd.prog.globals[1]?).map (·.type) = some 68 := by kernel_rfl
theorem c0n : Tryd.prog.cellsOf 49 = 8 := by kernel_rfl
theorem c1n : Tryd.prog.cellsOf 68 = 64 := by kernel_rfl
theorem c2n : Tryd.prog.cellsOf 48 = 1 := by kernel_rfl
theorem dIV : (Rows.laid_graft_sha_squareRoots : DataW Unit) = .agg (IV.map fun x => .lit (.int .u32 x)) := by kernel_rfl
theorem dKT : (Rows.laid_graft_sha_cubeRoots : DataW Unit) = .agg (KT.map fun x => .lit (.int .u32 x)) := by kernel_rfl
theorem rowI_of_var {W : World} {nm : String} {g n : Nat} {cs : Array Value} {T : List Int} (hg : Tryd.prog.globalNamed nm = some g) (hv : W.var? Tryd.prog nm = some cs) (hc : cs.toList = T.map (Value.int .u32)) (hn : T.length = n) : RowI W g 0 n .u32 T := fun j hj => by
  rw [Nat.zero_add, World.var?_cell hg hv j, ← Array.getElem?_toList, hc]
  exact ints_get (by omega)
theorem of_laid {W : World} (h : laidMetH Tryd.prog [("graft/sha.squareRoots", Rows.laid_graft_sha_squareRoots), ("graft/sha.cubeRoots", Rows.laid_graft_sha_cubeRoots)] W) : 1 < W.heap.size ∧ RowI W 0 0 8 .u32 IV ∧ RowI W 1 0 64 .u32 KT := by
  rw [MakeChecks.laidMetH_plain _ _ _ (by kernel_rfl)] at h
  obtain ⟨ps, ⟨g0, t0, cs0, f0, p0, q0, hg0, ht0, hv0, hd0, ⟨g1, t1, cs1, f1, p1, q1, hg1, ht1, hv1, hd1, _, _⟩, _⟩, _, _⟩ := h
  obtain rfl := Option.some.inj (g0n.symm.trans hg0)
  obtain rfl := Option.some.inj (g1n.symm.trans hg1)
  obtain rfl := Option.some.inj (t0n.symm.trans ht0)
  obtain rfl := Option.some.inj (t1n.symm.trans ht1)
  rw [dIV] at hd0
  rw [dKT] at hd1
  have r0 := rowI_of_var g0n hv0 (cells_of_table Tryd.underlying49 Tryd.underlying48 c2n c0n hd0) (n := 8) rfl
  have r1 := rowI_of_var g1n hv1 (cells_of_table Tryd.underlying68 Tryd.underlying48 c2n c1n hd1) (n := 64) rfl
  exact ⟨World.block_lt_of_cell? W _ (r1 0 (by omega)), r0, r1⟩
theorem door_met (os : Os) (args : Array Value) : laidMetH Tryd.prog [("graft/sha.squareRoots", Rows.laid_graft_sha_squareRoots), ("graft/sha.cubeRoots", Rows.laid_graft_sha_cubeRoots)] ((World.doorLaid Tryd.prog 100 os).forCall (fun _ _ => 0) ⟨#[], args, []⟩).memory :=
  laidMetH_of_parts3 (fuel := 8) (laidMet_of_run' 8 (by kernel_rfl) (by kernel_rfl)) (by kernel_rfl) (by kernel_rfl)
end Go.Proofs.YtdcphpmkhekghaaDoor
