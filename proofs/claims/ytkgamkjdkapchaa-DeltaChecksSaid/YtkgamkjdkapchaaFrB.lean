/-
  A slice of slices of bytes that came in, with the bounds of its numbers.
-/
import Derived.Test.YtkgamkjdkapchaaFr
namespace Go.Proofs.Ytkgamkjdkapchaa
set_option linter.unusedVariables false
set_option linter.unusedSimpArgs false
open Go Go.RowKit Go.ChangeShapes Go.WideShapes Go.ChangeAt Go.Joins Go.Deep
section
variable {H : Type} {enc : TypeId × Value → H} {P : Program} {W : World} {base fuel : Nat} {sp : Nat → Bool} {held : Bool} {t e : TypeId} {kd : IntKind}
theorem open_bssB {q : TypeId} {v : Value} {d : DataW H} {ps : List MemPlace} (ht : P.underlying t = some (.slice e)) (he : P.underlying e = some (.slice q)) (hq : P.underlying q = some (.int .u8)) (ce : P.cellsOf e = 1) (cq : P.cellsOf q = 1) (hv : Value.okWide P W .any base t v)
    (h : DataW.Trod enc P W 0 (fun _ => true) true t v d ps) : ∃ (A : Option Addr) (m c : Nat) (Ps : List (List Int)), v = .slice A m c ∧ m ≤ c ∧ c ≤ 9223372036854775807 ∧
      (Ps.length = m ∧ (m = 0 ∨ ∃ b off, A = some ⟨b, off, none⟩ ∧ b < W.heap.size ∧ ∀ i, i < m → ∃ Ai mi ci, W.cell? ⟨b, off + i, none⟩ = some (.slice Ai mi ci) ∧ Src W Ai mi .u8 (Ps.getD i []) ∧ mi ≤ ci)) ∧ ∀ x ∈ Ps.flatten, 0 ≤ x ∧ x ≤ 255 := by
  obtain ⟨a0, len0, cap0, rfl⟩ := okWide_slice ht hv
  obtain ⟨fuel, hf⟩ := h
  rcases open_int_rows ht he hq ce cq hf with ⟨hcs, _⟩ | ⟨a, len, cap, A, L, C, Z, hcs, _, hl, hm, _, hrow⟩
  · simp [Value.cells] at hcs
    obtain ⟨rfl, rfl, rfl⟩ := hcs
    exact ⟨none, 0, 0, [], rfl, Nat.le_refl _, by omega, ⟨rfl, .inl rfl⟩, by simp⟩
  · simp [Value.cells] at hcs
    obtain ⟨rfl, rfl, rfl⟩ := hcs
    refine ⟨some a, len0, cap0, (List.range len0).map fun r => (Z r).take (L r), rfl, hl, hm, ⟨by simp, ?_⟩, ?_⟩
    · by_cases h0 : len0 = 0
      · exact .inl h0
      · right
        obtain ⟨b, off, spot⟩ := a
        have hc0 := (hrow 0 (by omega)).1
        have hspot : spot = none := by simpa [Addr.add] using World.cell?_spot hc0
        subst hspot
        refine ⟨b, off, rfl, World.block_lt_of_cell? W _ hc0, fun i hi => ?_⟩
        obtain ⟨g1, g2, g3, g4, g5, g6, g7⟩ := hrow i (by omega)
        rw [addr_add] at g1
        refine ⟨A i, L i, C i, g1, ?_, g2⟩
        have hget : ((List.range len0).map fun r => (Z r).take (L r)).getD i [] = (Z i).take (L i) := by simp [hi]
        rw [hget]
        refine ⟨by simp; omega, ?_⟩
        by_cases hl0 : L i = 0
        · exact .inl hl0
        · right
          cases hA : A i with
          | none => have := g6 hA; omega
          | some a' =>
            obtain ⟨_, hz⟩ := g7 a' hA
            obtain ⟨b', off', spot'⟩ := a'
            have hc1 := hz 0 (by omega)
            have hspot' : spot' = none := by simpa [Addr.add] using World.cell?_spot hc1
            subst hspot'
            refine ⟨b', off', rfl, World.block_lt_of_cell? W _ hc1, fun j hj => ?_⟩
            have := hz j (by omega)
            rw [addr_add] at this
            rw [this]
            simp [List.getD_eq_getElem?_getD, List.getElem?_take, hj]
    · intro x hx
      obtain ⟨l, hl1, hl2⟩ := List.mem_flatten.1 hx
      obtain ⟨r, hr, rfl⟩ := List.mem_map.1 hl1
      have hr' := List.mem_range.1 hr
      obtain ⟨_, _, _, _, g5, _, _⟩ := hrow r (by omega)
      exact wf_u8b (g5 x (List.mem_of_mem_take hl2))
end
end Go.Proofs.Ytkgamkjdkapchaa
