/-
  What commands are, without where their data lie; when lists of commands are the same.
-/
import Derived.Test.YtkgamkjdkapchaaTot
import Derived.Test.YtkgamkjdkapchaaCmE
namespace Go.Proofs.Ytkgamkjdkapchaa
set_option linter.unusedVariables false
set_option linter.unusedSimpArgs false
set_option linter.unusedVariables false
open Go Go.RowKit
/-- The bytes of the commands lie in memory. -/
def DatC (w : World) (Cs : List CV) : Prop := ∀ (i : Nat) (x : CV), Cs[i]? = some x → Src w x.A x.m .u8 x.B ∧ Bytes x.B
theorem DatC.at_ {w0 w : World} {H : List Ent} {Cs : List CV} (h : DatC w0 Cs) (hs : St w0 H w) (hH : ∀ b, b < w0.heap.size → ∀ e ∈ H, e.g ≠ b) : DatC w Cs := fun i x hx => ⟨(h i x hx).1.at_ hs hH, (h i x hx).2⟩
def valC (x : CV) : Int × Int × Int × Int × List Int := (x.k, x.t, x.f, x.l, x.B)
def sameC (Cs Es : List CV) : Prop := Cs.map valC = Es.map valC
instance (Cs Es : List CV) : Decidable (sameC Cs Es) := by unfold sameC; infer_instance
abbrev sameV (x y : CV) : Prop := sameP x.k x.t x.f x.l y.k y.t y.f y.l x.B y.B
theorem sameV_iff {x y : CV} : sameV x y ↔ valC x = valC y := by unfold sameV sameP valC; simp only [Prod.mk.injEq]
theorem sameC_len {Cs Es : List CV} (h : sameC Cs Es) : Cs.length = Es.length := by have := congrArg List.length h; simpa using this
theorem sameC_at {Cs Es : List CV} (h : sameC Cs Es) {i : Nat} {x y : CV} (hx : Cs[i]? = some x) (hy : Es[i]? = some y) : sameV x y := by
  have h1 := congrArg (·[i]?) h
  simp only [List.getElem?_map, hx, hy, Option.map_some, Option.some.injEq] at h1
  exact sameV_iff.2 h1
theorem sameC_of {Cs Es : List CV} (hl : Cs.length = Es.length) (h : ∀ (i : Nat) (x y : CV), Cs[i]? = some x → Es[i]? = some y → sameV x y) : sameC Cs Es := by
  apply List.ext_getElem?
  intro i
  rw [List.getElem?_map, List.getElem?_map]
  cases hx : Cs[i]? with
  | none =>
    rw [List.getElem?_eq_none_iff] at hx
    rw [List.getElem?_eq_none (by omega)]
  | some x =>
    have hi := (List.getElem?_eq_some_iff.1 hx).1
    have hy : Es[i]? = some Es[i] := List.getElem?_eq_getElem (by omega)
    rw [hy]
    simp only [Option.map_some, Option.some.injEq]
    exact sameV_iff.1 (h i x _ hx hy)
theorem sameC_succ {Cs Es : List CV} {i : Nat} {x y : CV} (h : ∀ (j : Nat) (x y : CV), j < i → Cs[j]? = some x → Es[j]? = some y → sameV x y) (hx : Cs[i]? = some x) (hy : Es[i]? = some y) (hs : sameV x y) : ∀ (j : Nat) (x y : CV), j < i + 1 → Cs[j]? = some x → Es[j]? = some y → sameV x y := fun j x' y' hj hx' hy' => by
  by_cases e : j = i
  · subst e; rw [hx] at hx'; rw [hy] at hy'; cases hx'; cases hy'; exact hs
  · exact h j x' y' (by omega) hx' hy'
theorem sameC_refl (Cs : List CV) : sameC Cs Cs := rfl
theorem sameC_tg {Cs Es : List CV} {i : Nat} (h : sameC Cs Es) : True := trivial
def sameD (o n : Int) (H1 H2 : List Int) (Cs : List CV) (o2 n2 : Int) (G1 G2 : List Int) (Es : List CV) : Prop := o = o2 ∧ n = n2 ∧ H1 = G1 ∧ H2 = G2 ∧ sameC Cs Es
instance (o n : Int) (H1 H2 : List Int) (Cs : List CV) (o2 n2 : Int) (G1 G2 : List Int) (Es : List CV) : Decidable (sameD o n H1 H2 Cs o2 n2 G1 G2 Es) := by unfold sameD; infer_instance
end Go.Proofs.Ytkgamkjdkapchaa
