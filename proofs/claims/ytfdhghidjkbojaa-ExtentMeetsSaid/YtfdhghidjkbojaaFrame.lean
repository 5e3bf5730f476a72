/-
  Arguments opened: extents and slices of extents that can be read as data.
-/
import Derived.Test.YtfdhghidjkbojaaExtF
import Derived.ProofKit
import Derived.OpenShut
import Derived.ShutString
import Derived.ChangeOld
import Derived.Below
import Derived.Carry
import Derived.Lib.SmallJoins
import Derived.Deep.SlicePairs
namespace Go.Proofs.Ytfdhghidjkbojaa
set_option linter.unusedVariables false
set_option linter.unusedSimpArgs false
open Go.RowKit Go.ChangeShapes Go.WideShapes Go.ChangeAt Go.Joins Go.Deep

theorem own_knob : ownKnob Try.prog.godebug = none := by kernel_rfl
theorem laid_out : laidOutB Try.prog = true := by kernel_rfl
theorem cells_ext : Try.prog.cellsOf 23 = 2 := by kernel_rfl
theorem bounds_i64 {n : Int} (h : (Lit.int .i64 n).wf = true) : -9223372036854775808 ≤ n ∧ n ≤ 9223372036854775807 := by
  simp [Lit.wf, IntKind.min, IntKind.max, IntKind.signed, IntKind.bits] at h
  exact h

/-- A cell behind a call, behind a new block. -/
theorem keep_cell {W w' : World} (hb : Below W.heap.size W w') {b o : Nat} {v : Value} (c : W.cell? ⟨b, o, none⟩ = some v) : w'.cell? ⟨b, o, none⟩ = some v := (hb.cell (p := ⟨b, o, none⟩) (World.block_lt_of_cell? W _ c)).trans c
theorem alloc_cell {W : World} {x : Obj} {b o : Nat} {v : Value} (c : W.cell? ⟨b, o, none⟩ = some v) : (W.alloc x).cell? ⟨b, o, none⟩ = some v := (old_cell (World.block_lt_of_cell? W _ c)).trans c

theorem open_ext {H : Type} {enc : TypeId × Value → H} {W : World} {base : Nat} {v : Value} {d : DataW H} {ps : List MemPlace} (hv : Value.okWide Try.prog W .any base 23 v)
    (h : DataW.Trod enc Try.prog W 0 (fun _ => true) true 23 v d ps) :
    ∃ o l : Int, v = .agg #[.int .i64 o, .int .i64 l] ∧ (-9223372036854775808 ≤ o ∧ o ≤ 9223372036854775807) ∧ (-9223372036854775808 ≤ l ∧ l ≤ 9223372036854775807) := by
  obtain ⟨c0, c1, y0, y1, m, rfl, _, _, h0, h1⟩ := open_agg2 Try.underlying23 (by kernel_rfl) cells_ext hv h
  obtain ⟨a, e0, _, wa⟩ := DataW.trod_int Try.underlying3 h0
  obtain ⟨b, e1, _, wb⟩ := DataW.trod_int Try.underlying3 h1
  simp at e0 e1
  subst e0 e1
  exact ⟨a, b, rfl, bounds_i64 wa, bounds_i64 wb⟩

theorem open_exts {H : Type} {enc : TypeId × Value → H} {W : World} {base : Nat} {v : Value} {d : DataW H} {ps : List MemPlace} (hv : Value.okWide Try.prog W .any base 35 v)
    (h : DataW.Trod enc Try.prog W 0 (fun _ => true) true 35 v d ps) :
    ∃ (a : Option Addr) (len cap : Nat) (xs : List (Int × Int)), v = .slice a len cap ∧ len ≤ maxLen ∧ IsExts W a len xs ∧ ∀ i, i < len → (-9223372036854775808 ≤ eo xs i ∧ eo xs i ≤ 9223372036854775807) ∧ (-9223372036854775808 ≤ el xs i ∧ el xs i ≤ 9223372036854775807) := by
  obtain ⟨a0, len0, cap0, rfl⟩ := okWide_slice Try.underlying35 hv
  obtain ⟨fuel, hf⟩ := h
  rcases open_slice_pairs Try.underlying35 Try.underlying23 cells_ext rfl rfl (by kernel_rfl) (by kernel_rfl) hf with ⟨hcs, _⟩ | ⟨a, len, cap, m, n, V0, V1, D0, D1, P0, P1, hcs, hb, hl, hm, hmm, _, hi⟩
  · simp [Value.cells] at hcs
    obtain ⟨rfl, rfl, rfl⟩ := hcs
    exact ⟨none, 0, 0, [], rfl, Nat.zero_le _, ⟨rfl, .inl rfl⟩, fun i hi => absurd hi (Nat.not_lt_zero _)⟩
  · simp [Value.cells] at hcs
    obtain ⟨rfl, rfl, rfl⟩ := hcs
    have hlm : len0 ≤ m := by rw [hmm]; split <;> omega
    have each : ∀ i, i < len0 → ∃ q : Int × Int, W.cell? (a.add (i * 2)) = some (.int .i64 q.1) ∧ W.cell? (a.add (i * 2 + 1)) = some (.int .i64 q.2) ∧ (-9223372036854775808 ≤ q.1 ∧ q.1 ≤ 9223372036854775807) ∧ (-9223372036854775808 ≤ q.2 ∧ q.2 ≤ 9223372036854775807) := by
      intro i hlt
      obtain ⟨g0, g1, t0, t1⟩ := hi i (by omega)
      obtain ⟨x, e0, _, wa⟩ := DataW.trod_int Try.underlying3 t0
      obtain ⟨y, e1, _, wb⟩ := DataW.trod_int Try.underlying3 t1
      simp at e0 e1
      rw [e0] at g0
      rw [e1] at g1
      exact ⟨(x, y), g0, g1, bounds_i64 wa, bounds_i64 wb⟩
    obtain ⟨q, hq⟩ := choose_lt each
    have hget : ∀ i, i < len0 → ((List.range len0).map q).getD i (0, 0) = q i := fun i hlt => by simp [hlt]
    refine ⟨some a, len0, cap0, (List.range len0).map q, rfl, by omega, ⟨by simp, ?_⟩, fun i hlt => ?_⟩
    · by_cases hz : len0 = 0
      · exact .inl hz
      · right
        obtain ⟨b, off, spot⟩ := a
        have h0 := (hq 0 (by omega)).1
        have hspot : spot = none := by simpa [Addr.add] using World.cell?_spot h0
        subst hspot
        refine ⟨b, off, rfl, ?_, fun i hlt => ?_⟩
        · exact World.block_lt_of_cell? W _ h0
        · obtain ⟨g0, g1, _⟩ := hq i hlt
          unfold eo el
          rw [hget i hlt]
          rw [add_plain] at g0 g1
          exact ⟨g0, g1⟩
    · unfold eo el
      rw [hget i hlt]
      exact (hq i hlt).2.2
end Go.Proofs.Ytfdhghidjkbojaa
