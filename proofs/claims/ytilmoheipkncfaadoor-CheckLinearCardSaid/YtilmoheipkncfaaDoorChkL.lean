/-
  The tables that start-up lays.
-/
import Derived.Test.YtilmoheipkncfaaDoorFr
import Derived.Test.YtilmoheipkncfaaDoorCrc
import Derived.Test.YtilmoheipkncfaaDoorSrc
namespace Go.Proofs.YtilmoheipkncfaaDoor
set_option linter.unusedVariables false
open Go Go.RowKit Go.ChangeShapes Go.WideShapes Go.ChangeAt Go.Joins Go.Deep

theorem g0n : Tryd.prog.globalNamed "graft/check.lowHalf" = some 0 := by kernel_rfl
theorem g1n : Tryd.prog.globalNamed "graft/check.highHalf" = some 1 := by kernel_rfl
theorem t0n : (Tryd.prog.globals[0]?).map (·.type) = some 47 := by kernel_rfl
theorem t1n : (Tryd.prog.globals[1]?).map (·.type) = some 47 := by kernel_rfl
theorem c0n : Tryd.prog.cellsOf 47 = 16 := by kernel_rfl
theorem c2n : Tryd.prog.cellsOf 25 = 1 := by kernel_rfl
theorem dLO : (Rows.laid_graft_check_lowHalf : DataW Unit) = .agg (LOWT.map fun x => .lit (.int .u32 x)) := by kernel_rfl
theorem dHI : (Rows.laid_graft_check_highHalf : DataW Unit) = .agg (HIGHT.map fun x => .lit (.int .u32 x)) := by kernel_rfl
theorem rowI_of_var {W : World} {nm : String} {g n : Nat} {cs : Array Value} {T : List Int} (hg : Tryd.prog.globalNamed nm = some g) (hv : W.var? Tryd.prog nm = some cs) (hc : cs.toList = T.map (Value.int .u32)) (hn : T.length = n) : RowI W g 0 n .u32 T := fun j hj => by
  rw [Nat.zero_add, World.var?_cell hg hv j, ← Array.getElem?_toList, hc]
  exact ints_get (by omega)
theorem of_laid {W : World} (h : laidMetH Tryd.prog [("graft/check.lowHalf", Rows.laid_graft_check_lowHalf), ("graft/check.highHalf", Rows.laid_graft_check_highHalf)] W) : 1 < W.heap.size ∧ RowI W 0 0 16 .u32 LOWT ∧ RowI W 1 0 16 .u32 HIGHT := by
  rw [MakeChecks.laidMetH_plain _ _ _ (by kernel_rfl)] at h
  obtain ⟨ps, ⟨g0, t0, cs0, f0, p0, q0, hg0, ht0, hv0, hd0, ⟨g1, t1, cs1, f1, p1, q1, hg1, ht1, hv1, hd1, _, _⟩, _⟩, _, _⟩ := h
  obtain rfl := Option.some.inj (g0n.symm.trans hg0)
  obtain rfl := Option.some.inj (g1n.symm.trans hg1)
  obtain rfl := Option.some.inj (t0n.symm.trans ht0)
  obtain rfl := Option.some.inj (t1n.symm.trans ht1)
  rw [dLO] at hd0
  rw [dHI] at hd1
  have r0 := rowI_of_var g0n hv0 (cells_of_table Tryd.underlying47 Tryd.underlying25 c2n c0n hd0) (n := 16) rfl
  have r1 := rowI_of_var g1n hv1 (cells_of_table Tryd.underlying47 Tryd.underlying25 c2n c0n hd1) (n := 16) rfl
  exact ⟨World.block_lt_of_cell? W _ (r1 0 (by omega)), r0, r1⟩
theorem door_met (os : Os) (args : Array Value) : laidMetH Tryd.prog [("graft/check.lowHalf", Rows.laid_graft_check_lowHalf), ("graft/check.highHalf", Rows.laid_graft_check_highHalf)] ((World.doorLaid Tryd.prog 100 os).forCall (fun _ _ => 0) ⟨#[], args, []⟩).memory :=
  laidMetH_of_parts3 (fuel := 8) (laidMet_of_run' 8 (by kernel_rfl) (by kernel_rfl)) (by kernel_rfl) (by kernel_rfl)
theorem wf_u16b {n : Int} (h : (Lit.int .u16 n).wf = true) : 0 ≤ n ∧ n ≤ 65535 := by
  simp [Lit.wf, IntKind.min, IntKind.max, IntKind.signed, IntKind.bits] at h
  exact h
theorem wf_u32b {n : Int} (h : (Lit.int .u32 n).wf = true) : 0 ≤ n ∧ n ≤ 4294967295 := by
  simp [Lit.wf, IntKind.min, IntKind.max, IntKind.signed, IntKind.bits] at h
  exact h
end Go.Proofs.YtilmoheipkncfaaDoor
