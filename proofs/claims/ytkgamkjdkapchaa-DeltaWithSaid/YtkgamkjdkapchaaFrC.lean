/-
  Arguments opened: commands, extents, arrays of three numbers.
-/
import Derived.Test.YtkgamkjdkapchaaFr
import Derived.Test.YtkgamkjdkapchaaFrB
import Derived.SizedLaws
namespace Go.Proofs.Ytkgamkjdkapchaa
set_option linter.unusedVariables false
set_option linter.unusedSimpArgs false
set_option linter.unusedVariables false
set_option maxRecDepth 100000
open Go Go.RowKit Go.ChangeShapes Go.WideShapes Go.ChangeAt Go.Joins Go.Deep
theorem cells_ext : Try.prog.cellsOf 49 = 2 := by kernel_rfl
theorem cells_cmd : Try.prog.cellsOf 40 = 5 := by kernel_rfl
theorem bytes_u8 : Try.prog.bytesOf 5 = 1 := by kernel_rfl
theorem open_ext {H : Type} {enc : TypeId × Value → H} {W : World} {base : Nat} {v : Value} {d : DataW H} {ps : List MemPlace} (hv : Value.okWide Try.prog W .any base 49 v)
    (h : DataW.Trod enc Try.prog W 0 (fun _ => true) true 49 v d ps) :
    ∃ o l : Int, v = .agg #[.int .i64 o, .int .i64 l] ∧ (-9223372036854775808 ≤ o ∧ o ≤ 9223372036854775807) ∧ (-9223372036854775808 ≤ l ∧ l ≤ 9223372036854775807) := by
  obtain ⟨c0, c1, y0, y1, m, rfl, _, _, h0, h1⟩ := open_agg2 Try.underlying49 (by kernel_rfl) cells_ext hv h
  obtain ⟨a, e0, _, wa⟩ := DataW.trod_int Try.underlying3 h0
  obtain ⟨b, e1, _, wb⟩ := DataW.trod_int Try.underlying3 h1
  simp at e0 e1
  subst e0 e1
  exact ⟨a, b, rfl, wf_i64b wa, wf_i64b wb⟩
theorem array5 {α : Type} {cs : Array α} (h : cs.size = 5) : ∃ c0 c1 c2 c3 c4, cs = #[c0, c1, c2, c3, c4] := by
  obtain ⟨l⟩ := cs
  match l, h with
  | [c0, c1, c2, c3, c4], _ => exact ⟨c0, c1, c2, c3, c4, rfl⟩
/-- A slice of numbers, its reach. -/
theorem open_bytesR {H : Type} {enc : TypeId × Value → H} {P : Program} {W : World} {t e : TypeId} {fuel : Nat} {v : Value} {y : DataW H × List MemPlace} (ht : P.underlying t = some (.slice e)) (he : P.underlying e = some (.int .u8)) (hc : P.cellsOf e = 1)
    (hf : DataW.trod enc P W 0 (fun _ => true) true fuel t [v] = some y) : ∃ (A : Option Addr) (m c : Nat) (B : List Int), v = .slice A m c ∧ m ≤ c ∧ c ≤ 9223372036854775807 ∧ Src W A m .u8 B ∧ (∀ x ∈ B, 0 ≤ x ∧ x ≤ 255) ∧ (c = 0 ∨ c * P.bytesOf e ∈ y.1.weights P t) := by
  rcases open_ints ht he hc hf with ⟨hcs, _⟩ | ⟨a, len, cap, zs, hcs, _, hl, hm, hz, hx, hcell, hwf⟩
  · simp at hcs
    subst hcs
    exact ⟨none, 0, 0, [], rfl, Nat.le_refl _, by omega, ⟨rfl, .inl rfl⟩, by simp, .inl rfl⟩
  · simp at hcs
    subst hcs
    simp only [if_true] at hz
    refine ⟨some a, len, cap, zs.take len, rfl, hl, hm, ⟨by simp; omega, ?_⟩, fun x hx => wf_u8b (hwf x (List.mem_of_mem_take hx)), .inr ?_⟩
    · by_cases h0 : len = 0
      · exact .inl h0
      · right
        obtain ⟨b, off, spot⟩ := a
        have hc0 := hcell 0 (by omega)
        have hspot : spot = none := by simpa [Addr.add] using World.cell?_spot hc0
        subst hspot
        refine ⟨b, off, rfl, World.block_lt_of_cell? W _ hc0, fun j hj => ?_⟩
        have := hcell j (by omega)
        rw [addr_add] at this
        rw [this]
        simp [List.getD_eq_getElem?_getD, List.getElem?_take, hj]
    · have hlen : (lits .u8 (zs.take len) : List (DataW H)).length + (lits .u8 (zs.drop len) : List (DataW H)).length = cap := by
        simp only [lits, List.length_map, List.length_take, List.length_drop]
        omega
      rw [hx]
      simp only [DataW.weights, ht, hlen]
      exact List.mem_cons_self
theorem open_cmd {H : Type} {enc : TypeId × Value → H} {W : World} {base : Nat} {v : Value} {d : DataW H} {ps : List MemPlace} (hv : Value.okWide Try.prog W .any base 40 v)
    (h : DataW.Trod enc Try.prog W 0 (fun _ => true) true 40 v d ps) (hsz : ∀ q ∈ d.weights Try.prog 40, q ≤ reachBytes) :
    ∃ (k t f l : Int) (A : Option Addr) (m c : Nat) (B : List Int), v = .agg #[.int .i64 k, .int .i64 t, .int .i64 f, .int .i64 l, .slice A m c] ∧ (-9223372036854775808 ≤ k ∧ k ≤ 9223372036854775807) ∧ (-9223372036854775808 ≤ t ∧ t ≤ 9223372036854775807) ∧
      (-9223372036854775808 ≤ f ∧ f ≤ 9223372036854775807) ∧ (-9223372036854775808 ≤ l ∧ l ≤ 9223372036854775807) ∧ m ≤ c ∧ c ≤ 140737488355327 ∧ (∀ x ∈ B, 0 ≤ x ∧ x ≤ 255) ∧ Src W A m .u8 B := by
  obtain ⟨cs, rfl, hcz⟩ := okWide_struct Try.underlying40 hv
  obtain ⟨c0, c1, c2, c3, c4, rfl⟩ := array5 (hcz.trans cells_cmd)
  obtain ⟨fuel, hf⟩ := h
  obtain ⟨xs, n, _, hx, hl, hlen, hfs⟩ := DataW.trod_struct Try.underlying40 hf
  match xs, hlen with
  | [y0, y1, y2, y3, y4], _ =>
    have ci : Try.prog.cellsOf 3 = 1 := by kernel_rfl
    have cb : Try.prog.cellsOf 38 = 1 := by kernel_rfl
    have g0 : DataW.trod enc Try.prog W 0 (fun _ => true) true n 3 [c0] = some y0 := by simpa [Value.cells, ci, cb] using hfs 0 _ rfl
    have g1 : DataW.trod enc Try.prog W 0 (fun _ => true) true n 3 [c1] = some y1 := by simpa [Value.cells, ci, cb] using hfs 1 _ rfl
    have g2 : DataW.trod enc Try.prog W 0 (fun _ => true) true n 3 [c2] = some y2 := by simpa [Value.cells, ci, cb] using hfs 2 _ rfl
    have g3 : DataW.trod enc Try.prog W 0 (fun _ => true) true n 3 [c3] = some y3 := by simpa [Value.cells, ci, cb] using hfs 3 _ rfl
    have g4 : DataW.trod enc Try.prog W 0 (fun _ => true) true n 38 [c4] = some y4 := by simpa [Value.cells, ci, cb] using hfs 4 _ rfl
    obtain ⟨k, e0, _, wk⟩ := DataW.trod_int Try.underlying3 g0
    obtain ⟨t, e1, _, wt⟩ := DataW.trod_int Try.underlying3 g1
    obtain ⟨f, e2, _, wf⟩ := DataW.trod_int Try.underlying3 g2
    obtain ⟨l, e3, _, wl⟩ := DataW.trod_int Try.underlying3 g3
    obtain ⟨A, m, c, B, e4, hmc, hcm, hs, hB, hw⟩ := open_bytesR Try.underlying38 Try.underlying5 (by kernel_rfl) g4
    simp at e0 e1 e2 e3
    subst e0 e1 e2 e3 e4
    simp only [Prod.mk.injEq] at hx
    have hcR : c ≤ 140737488355327 := by
      rcases hw with hw | hw
      · omega
      · have := hsz (c * Try.prog.bytesOf 5) (by
          rw [hx.1]
          simp only [List.map_cons, List.map_nil, DataW.weights, Try.underlying40, DataW.weightsEach, Array.toList]
          simp only [List.mem_append]
          exact .inr (.inr (.inr (.inr (.inl hw)))))
        rw [bytes_u8] at this
        simp only [reachBytes] at this
        omega
    exact ⟨k, t, f, l, A, m, c, B, rfl, wf_i64b wk, wf_i64b wt, wf_i64b wf, wf_i64b wl, hmc, hcR, hB, hs⟩
end Go.Proofs.Ytkgamkjdkapchaa
