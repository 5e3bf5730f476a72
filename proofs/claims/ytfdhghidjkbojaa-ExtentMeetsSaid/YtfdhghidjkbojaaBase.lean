/-
  Small lemmas on worlds, returns and kept memory, which the walks of this seat share.
-/
import Derived.Test.YtfdhghidjkbojaaRows
import Derived.Test.YtfdhghidjkbojaaLin
import Derived.WalkKit
import Derived.WalkSpells
import Derived.WalkLawsBesides
import Derived.Deep.RegionHeld3
import Derived.Deep.QuietTactic
import Derived.BigQuiet
import Derived.Lib.Hide
import Derived.Handy
import Derived.Deep.CutBlock
import Derived.Deep.DeepCutAuto
namespace Go.Proofs.Ytfdhghidjkbojaa
set_option linter.unusedVariables false
set_option linter.unusedSimpArgs false
open Go.RowKit

theorem ret_bool {a b : Bool} (h : a = b) : Ending.returned (.bool a) = .returned (.bool b) := by rw [h]
theorem ret_int {k : IntKind} {a b : Int} (h : a = b) : Ending.returned (.int k a) = .returned (.int k b) := by rw [h]
theorem ret_val {a b : Value} (h : a = b) : Ending.returned a = .returned b := by rw [h]
theorem below_drewN {B : Nat} {a w : World} (h : Below B a w) (n : Nat) : Below B a (w.drewN n) := ⟨h.os, h.tape, h.output, h.size, h.block⟩

/-- The world at hand is given a name, and what is known of it is said. -/
theorem wp_world {P : Program} {c : Code} {Q : Exit → Act → World → Prop} {a : Act} (W : World) (S : World → Prop) (hS : S W) (h : ∀ w1, S w1 → c.wp P Q a w1) : c.wp P Q a W := h W hS

theorem wpFrom_world {P : Program} {md : Region.Mode} {ops : Array Oper} {k : Nat} {Q : Exit → Act → World → Prop} {a : Act} (W : World) (S : World → Prop) (hS : S W) (h : ∀ w1, S w1 → wpFrom P md ops Q k a w1) : wpFrom P md ops Q k a W := h W hS

/-- What stands before a piece of code and what stands behind it: said once for all its ways. -/
def CutPost (act : Act) (S : World → Prop) : Exit → Act → World → Prop
  | .normal, a, w => a = act ∧ S w
  | _, _, _ => False
theorem wp_cut1 {P : Program} {c : Code} {Q : Exit → Act → World → Prop} {a : Act} {W : World} (act : Act) (S : World → Prop) (h : c.wp P (CutPost act S) a W) (h2 : ∀ w', S w' → Q .normal act w') : c.wp P Q a W :=
  Code.wp_mono (fun e a' w' hc => by
    cases e <;> first | exact (hc : False).elim | (obtain ⟨ha, hr⟩ := hc; subst ha; exact h2 w' hr)) h
theorem wp_cut {P : Program} {c : Code} {Q : Exit → Act → World → Prop} {a : Act} {W : World} (R : Act → World → Prop) (h : c.wp P (fun e a' w' => e = .normal ∧ R a' w') a W) (h2 : ∀ a' w', R a' w' → Q .normal a' w') : c.wp P Q a W :=
  Code.wp_mono (fun e a' w' ⟨he, hr⟩ => by subst he; exact h2 a' w' hr) h

/-- What lies in w0 lies in w1 as it lay: as rules for the walk, and whole. -/
abbrev Kept (w0 w1 : World) : Prop :=
  (∀ b o, (w0.cell? ⟨b, o, none⟩).isSome = true → w1.cell? ⟨b, o, none⟩ = w0.cell? ⟨b, o, none⟩) ∧ (∀ b o, (w0.cell? ⟨b, o, none⟩).isSome = true → w1.frozen? ⟨b, o, none⟩ = w0.frozen? ⟨b, o, none⟩) ∧ Below w0.heap.size w0 w1
theorem some_lt {w : World} {b o : Nat} (h : (w.cell? ⟨b, o, none⟩).isSome = true) : b < w.heap.size := by
  obtain ⟨u, hu⟩ := Option.isSome_iff_exists.1 h
  exact World.block_lt_of_cell? w _ hu
theorem kept_of {w0 w' : World} (h : Below w0.heap.size w0 w') : (∀ b o, (w0.cell? ⟨b, o, none⟩).isSome = true → w'.cell? ⟨b, o, none⟩ = w0.cell? ⟨b, o, none⟩) ∧ (∀ b o, (w0.cell? ⟨b, o, none⟩).isSome = true → w'.frozen? ⟨b, o, none⟩ = w0.frozen? ⟨b, o, none⟩) ∧ Below w0.heap.size w0 w' :=
  ⟨fun b o hb => h.cell (p := ⟨b, o, none⟩) (some_lt hb), fun b o hb => h.frozen (p := ⟨b, o, none⟩) (some_lt hb), h⟩
theorem below_step {N : Nat} {w0 w1 w2 : World} (h : Below N w0 w1) (h2 : Below w1.heap.size w1 w2) (hN : N ≤ w0.heap.size) : Below N w0 w2 := h.trans (h2.mono (Nat.le_trans hN h.size))
theorem kept_refl (w0 : World) : (∀ b o, (w0.cell? ⟨b, o, none⟩).isSome = true → w0.cell? ⟨b, o, none⟩ = w0.cell? ⟨b, o, none⟩) ∧ (∀ b o, (w0.cell? ⟨b, o, none⟩).isSome = true → w0.frozen? ⟨b, o, none⟩ = w0.frozen? ⟨b, o, none⟩) ∧ Below w0.heap.size w0 w0 := kept_of (Below.refl _ _)
theorem kept_drew (w0 : World) : (∀ b o, (w0.cell? ⟨b, o, none⟩).isSome = true → w0.drew.cell? ⟨b, o, none⟩ = w0.cell? ⟨b, o, none⟩) ∧ (∀ b o, (w0.cell? ⟨b, o, none⟩).isSome = true → w0.drew.frozen? ⟨b, o, none⟩ = w0.frozen? ⟨b, o, none⟩) ∧ Below w0.heap.size w0 w0.drew := kept_of (Below.drew (Below.refl _ _))
theorem kept_step {w0 w1 w2 : World} (h : (∀ b o, (w0.cell? ⟨b, o, none⟩).isSome = true → w1.cell? ⟨b, o, none⟩ = w0.cell? ⟨b, o, none⟩) ∧ (∀ b o, (w0.cell? ⟨b, o, none⟩).isSome = true → w1.frozen? ⟨b, o, none⟩ = w0.frozen? ⟨b, o, none⟩) ∧ Below w0.heap.size w0 w1) (h2 : Below w1.heap.size w1 w2) :
    (∀ b o, (w0.cell? ⟨b, o, none⟩).isSome = true → w2.cell? ⟨b, o, none⟩ = w0.cell? ⟨b, o, none⟩) ∧ (∀ b o, (w0.cell? ⟨b, o, none⟩).isSome = true → w2.frozen? ⟨b, o, none⟩ = w0.frozen? ⟨b, o, none⟩) ∧ Below w0.heap.size w0 w2 := kept_of (below_step h.2.2 h2 (Nat.le_refl _))
/-- Behind a call that only makes memory. -/
theorem below_call {N : Nat} {w0 W w' : World} (h : Below N w0 W) (hb : Below W.heap.size W w') (hN : N ≤ W.heap.size) : Below N w0 w' := h.trans (hb.mono hN)
/-- What lies there lies there behind a new block. -/
theorem frozen_alloc_some (w : World) (a : Addr) (o : Obj) (h : (w.cell? a).isSome = true) : (w.alloc o).frozen? a = w.frozen? a := by
  obtain ⟨u, hu⟩ := Option.isSome_iff_exists.1 h
  exact ((Below.refl w.heap.size w).alloc (Nat.le_refl _) o).frozen (World.block_lt_of_cell? w a hu)
theorem drewN_cell (w : World) (n : Nat) (a : Addr) : (w.drewN n).cell? a = w.cell? a := rfl
theorem old_cell {w : World} {x : Obj} {b o : Nat} (h : b < w.heap.size) : (w.alloc x).cell? ⟨b, o, none⟩ = w.cell? ⟨b, o, none⟩ := ((Below.refl w.heap.size w).alloc (Nat.le_refl _) x).cell (p := ⟨b, o, none⟩) h
theorem old_frozen {w : World} {x : Obj} {b o : Nat} (h : b < w.heap.size) : (w.alloc x).frozen? ⟨b, o, none⟩ = w.frozen? ⟨b, o, none⟩ := ((Below.refl w.heap.size w).alloc (Nat.le_refl _) x).frozen (p := ⟨b, o, none⟩) h
/-- The larger and the smaller of two numbers, as the walk spells them. -/
def maxI (a b : Int) : Int := if a < b then b else a
def minI (a b : Int) : Int := if b < a then b else a
theorem maxI_lt {a b : Int} (h : a < b) : maxI a b = b := if_pos h
theorem maxI_ge {a b : Int} (h : ¬ a < b) : maxI a b = a := if_neg h
theorem minI_lt {a b : Int} (h : b < a) : minI a b = b := if_pos h
theorem minI_ge {a b : Int} (h : ¬ b < a) : minI a b = a := if_neg h
theorem maxI_is (a b : Int) : maxI a b = max a b := by unfold maxI; split <;> omega
theorem minI_is (a b : Int) : minI a b = min a b := by unfold minI; split <;> omega
theorem maxI_bd (a b : Int) : a ≤ maxI a b ∧ b ≤ maxI a b ∧ (maxI a b ≤ a ∨ maxI a b ≤ b) := by rw [maxI_is]; omega
theorem minI_bd (a b : Int) : minI a b ≤ a ∧ minI a b ≤ b ∧ (a ≤ minI a b ∨ b ≤ minI a b) := by rw [minI_is]; omega
end Go.Proofs.Ytfdhghidjkbojaa
