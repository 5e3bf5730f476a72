/-
  Arguments opened: slices of numbers with their reach, slices of structs.
-/
import Derived.Test.YtdllgfkcakhoeaaFr
import Derived.SizedLaws
namespace Go.Proofs.Ytdllgfkcakhoeaa
set_option linter.unusedVariables false
set_option linter.unusedSimpArgs false
set_option linter.unusedVariables false
set_option maxRecDepth 100000
open Go Go.RowKit Go.ChangeShapes Go.WideShapes Go.ChangeAt Go.Joins Go.Deep
theorem bytes_u8 : Try.prog.bytesOf 5 = 1 := by kernel_rfl
/-- A slice of numbers, its reach. -/
theorem open_bytesR {H : Type} {enc : TypeId × Value → H} {P : Program} {W : World} {t e : TypeId} {fuel : Nat} {v : Value} {y : DataW H × List MemPlace} (ht : P.underlying t = some (.slice e)) (he : P.underlying e = some (.int .u8)) (hc : P.cellsOf e = 1)
    (hf : DataW.trod enc P W 0 (fun _ => true) true fuel t [v] = some y) : ∃ (A : Option Addr) (m c : Nat) (B : List Int), v = .slice A m c ∧ m ≤ c ∧ c ≤ 9223372036854775807 ∧ Src W A m .u8 B ∧ (∀ x ∈ B, 0 ≤ x ∧ x ≤ 255) ∧ (c = 0 ∨ c * P.bytesOf e ∈ y.1.weights P t) := by
  rcases open_ints ht he hc hf with ⟨hcs, _⟩ | ⟨a, len, cap, zs, hcs, _, hl, hm, hz, hx, hcell, hwf⟩
  · simp at hcs
    subst hcs
    exact ⟨none, 0, 0, [], rfl, Nat.le_refl _, by omega, ⟨rfl, .inl rfl⟩, by simp, .inl rfl⟩
  · simp at hcs
    subst hcs
    simp only [if_true] at hz
    refine ⟨some a, len, cap, zs.take len, rfl, hl, hm, ⟨by simp; omega, ?_⟩, fun x hx => wf_u8b (hwf x (List.mem_of_mem_take hx)), .inr ?_⟩
    · by_cases h0 : len = 0
      · exact .inl h0
      · right
        obtain ⟨b, off, spot⟩ := a
        have hc0 := hcell 0 (by omega)
        have hspot : spot = none := by simpa [Addr.add] using World.cell?_spot hc0
        subst hspot
        refine ⟨b, off, rfl, World.block_lt_of_cell? W _ hc0, fun j hj => ?_⟩
        have := hcell j (by omega)
        rw [addr_add] at this
        rw [this]
        simp [List.getD_eq_getElem?_getD, List.getElem?_take, hj]
    · have hlen : (lits .u8 (zs.take len) : List (DataW H)).length + (lits .u8 (zs.drop len) : List (DataW H)).length = cap := by
        simp only [lits, List.length_map, List.length_take, List.length_drop]
        omega
      rw [hx]
      simp only [DataW.weights, ht, hlen]
      exact List.mem_cons_self
theorem weights_all' {H : Type} {P : Program} {e : TypeId} {d : DataW H} {q : Nat} (h : q ∈ d.weights P e) : ∀ {l : List (DataW H)}, d ∈ l → q ∈ DataW.weightsAll P e l
  | c :: l, hd => by
    unfold DataW.weightsAll
    rcases List.mem_cons.1 hd with rfl | hd
    · exact List.mem_append.2 (.inl h)
    · exact List.mem_append.2 (.inr (weights_all' h hd))
/-- A slice of structs, each read by its own law. -/
theorem open_structs {H T : Type} {enc : TypeId × Value → H} {P : Program} {W : World} {t e : TypeId} {fuel s : Nat} {v : Value} {y : DataW H × List MemPlace} (cells : T → List Value) (hs : ∀ x, (cells x).length = s) (hs0 : 0 < s) (Pr : T → Prop)
    (ht : P.underlying t = some (.slice e)) (hc : P.cellsOf e = s)
    (open1 : ∀ (fuel : Nat) (cs : List Value) (y : DataW H × List MemPlace), DataW.trod enc P W 0 (fun _ => true) true fuel e cs = some y → (∀ q ∈ y.1.weights P e, q ≤ reachBytes) → ∃ x, cs = cells x ∧ Pr x)
    (hf : DataW.trod enc P W 0 (fun _ => true) true fuel t [v] = some y) (hsz : ∀ q ∈ y.1.weights P t, q ≤ reachBytes) :
    ∃ (A : Option Addr) (m c : Nat) (Xs : List T), v = .slice A m c ∧ m ≤ c ∧ c ≤ 9223372036854775807 ∧ (Xs.length = m ∧ (m = 0 ∨ ∃ b off, A = some ⟨b, off, none⟩ ∧ b < W.heap.size ∧ ∀ (i : Nat) (x : T), Xs[i]? = some x → ∀ j u, (cells x)[j]? = some u → W.cell? ⟨b, off + s * i + j, none⟩ = some u)) ∧ (∀ (i : Nat) (x : T), Xs[i]? = some x → Pr x) ∧ (A = none → m = 0) := by
  rcases DataW.trod_slice ht hf with ⟨hcs, _⟩ | ⟨a, len, cap, elems, rest, n, _, hcs, hx, hb, hl, hm, hlen, hel, _, _⟩
  · simp at hcs
    subst hcs
    exact ⟨none, 0, 0, [], rfl, Nat.le_refl _, by omega, ⟨rfl, .inl rfl⟩, fun i x h => by simp at h, fun _ => rfl⟩
  · simp at hcs
    subst hcs
    have each : ∀ i, i < len → ∃ x : T, (∀ j u, (cells x)[j]? = some u → W.cell? ((a.add (i * s)).add j) = some u) ∧ Pr x := fun i hi => by
      have hei : elems[i]? = some elems[i] := List.getElem?_eq_getElem (by omega)
      have h1 := hel i hi
      rw [hei, hc] at h1
      obtain ⟨cs', hc1, hc2⟩ := Option.bind_eq_some_iff.1 h1
      obtain ⟨x, rfl, hp⟩ := open1 _ _ _ hc2 (fun q hq => hsz q (by
        rw [hx]
        simp only [DataW.weights, ht]
        exact List.mem_cons_of_mem _ (List.mem_append.2 (.inl (weights_all' hq (List.mem_map.2 ⟨_, List.getElem_mem _, rfl⟩))))))
      obtain ⟨_, _, hat⟩ := World.cells?_some hc1
      exact ⟨x, fun j u hu => by rw [hat j (by have := (List.getElem?_eq_some_iff.1 hu).1; rw [hs x] at this; exact this)]; exact hu, hp⟩
    obtain ⟨Xs, hXl, hXs⟩ : ∃ Xs : List T, Xs.length = len ∧ ∀ (i : Nat) (x : T), Xs[i]? = some x → (∀ j u, (cells x)[j]? = some u → W.cell? ((a.add (i * s)).add j) = some u) ∧ Pr x := by
      have hch : ∀ i : Fin len, ∃ x : T, (∀ j u, (cells x)[j]? = some u → W.cell? ((a.add (i.1 * s)).add j) = some u) ∧ Pr x := fun i => each i.1 i.2
      refine ⟨List.ofFn fun i => Classical.choose (hch i), by simp, fun i x hx => ?_⟩
      rw [List.getElem?_ofFn] at hx
      split at hx
      · cases hx
        exact Classical.choose_spec (hch ⟨i, by assumption⟩)
      · cases hx
    refine ⟨some a, len, cap, Xs, rfl, hl, by unfold maxLen at hm; omega, ⟨hXl, ?_⟩, fun i x hx => (hXs i x hx).2, fun h => by cases h⟩
    by_cases h0 : len = 0
    · exact .inl h0
    · right
      obtain ⟨b, off, spot⟩ := a
      have hx0 : Xs[0]? = some Xs[0] := List.getElem?_eq_getElem (by omega)
      have hc0 := (hXs 0 _ hx0).1 0 _ (List.getElem?_eq_getElem (by rw [hs]; exact hs0))
      have hspot : spot = none := by
        have := World.cell?_spot hc0
        simpa [Addr.add] using this
      subst hspot
      refine ⟨b, off, rfl, by have := World.block_lt_of_cell? W _ hc0; rw [addr_add, addr_add] at this; exact this, fun i x hx j u hu => ?_⟩
      have := (hXs i x hx).1 j u hu
      rw [addr_add, addr_add] at this
      rw [show off + s * i + j = off + i * s + j by rw [Nat.mul_comm]]; exact this
end Go.Proofs.Ytdllgfkcakhoeaa
