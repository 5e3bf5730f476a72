/-
  Sums over commands: copied and literal bytes.
-/
import Derived.Test.YtkgamkjdkapchaaCom
namespace Go.Proofs.Ytkgamkjdkapchaa
set_option linter.unusedVariables false
set_option linter.unusedSimpArgs false
set_option linter.unusedVariables false
open Go Go.RowKit
def totI (f : CV → Int) (Cs : List CV) (i : Nat) : Int := ((Cs.take i).map f).sum
def cpV (x : CV) : Int := if x.k = 1 then x.l else 0
def ltV (x : CV) : Int := if x.k = 1 then 0 else (x.m : Int)
def lnV (x : CV) : Int := lenV x.k x.l x.m
theorem cpV1 {x : CV} (h : x.k = 1) : cpV x = x.l := if_pos h
theorem cpV2 {x : CV} (h : ¬ x.k = 1) : cpV x = 0 := if_neg h
theorem ltV1 {x : CV} (h : x.k = 1) : ltV x = 0 := if_pos h
theorem ltV2 {x : CV} (h : ¬ x.k = 1) : ltV x = (x.m : Int) := if_neg h
theorem totI_zero (f : CV → Int) (Cs : List CV) : totI f Cs 0 = 0 := by unfold totI; simp
theorem totI_succ {f : CV → Int} {Cs : List CV} {i : Nat} {x : CV} (hx : Cs[i]? = some x) : totI f Cs (i + 1) = totI f Cs i + f x := by
  unfold totI; rw [List.take_add_one, hx]; simp [List.sum_append]
theorem totI_all {f : CV → Int} {Cs : List CV} {m : Nat} (hm : Cs.length = m) : totI f Cs m = (Cs.map f).sum := by
  unfold totI; rw [List.take_of_length_le (by omega)]
theorem sum_nonneg' {l : List Int} (h : ∀ x ∈ l, 0 ≤ x) : 0 ≤ l.sum := by
  induction l with
  | nil => simp
  | cons a l ih => rw [List.sum_cons]; have := h a (by simp); have := ih (fun x hx => h x (by simp [hx])); omega
theorem totI_bd {f : CV → Int} {Cs : List CV} (hf : ∀ x ∈ Cs, 0 ≤ f x) (i : Nat) : 0 ≤ totI f Cs i ∧ totI f Cs i ≤ (Cs.map f).sum := by
  have h1 : 0 ≤ totI f Cs i := sum_nonneg' (fun y hy => by
    obtain ⟨x, hx, rfl⟩ := List.mem_map.1 hy
    exact hf x (List.mem_of_mem_take hx))
  have h2 : 0 ≤ ((Cs.drop i).map f).sum := sum_nonneg' (fun y hy => by
    obtain ⟨x, hx, rfl⟩ := List.mem_map.1 hy
    exact hf x (List.mem_of_mem_drop hx))
  have h3 : (Cs.map f).sum = totI f Cs i + ((Cs.drop i).map f).sum := by
    unfold totI
    rw [← List.sum_append, ← List.map_append, List.take_append_drop]
  omega
theorem cp_lt (Cs : List CV) : (Cs.map cpV).sum + (Cs.map ltV).sum = sumT (Cs.map tg) := by
  induction Cs with
  | nil => simp [sumT]
  | cons x l ih =>
    rw [List.map_cons, List.map_cons, List.map_cons, sumT_cons, List.sum_cons, List.sum_cons, ← ih]
    have : cpV x + ltV x = (tg x).2 := by unfold cpV ltV tg lenV; dsimp only; split <;> omega
    omega
theorem ln_sum (Cs : List CV) : (Cs.map lnV).sum = sumT (Cs.map tg) := by unfold sumT lnV tg; simp [List.map_map, Function.comp_def]
/-- What holds of a delta without a fault. -/
structure ValidC (o n : Int) (Cs : List CV) : Prop where
  len : okLen o n
  single : ∀ (i : Nat) (x : CV), Cs[i]? = some x → singleV o n x = 0
  tidy : tidyT 0 n (Cs.map tg)
  cover : coverT 0 n (Cs.map tg)
  sum : sumT (Cs.map tg) = n
  pos : ∀ x ∈ Cs, 0 ≤ cpV x ∧ 0 ≤ ltV x ∧ 1 ≤ lnV x
theorem validC {o n : Int} {Cs : List CV} (h : (faultI o n Cs).1 = 0) : ValidC o n Cs := by
  obtain ⟨h1, h2, h3, h4⟩ := faultI_valid h
  have ht := tidy_of h2 h3
  have hc := gap_cover h4
  have h1' := h1
  unfold okLen at h1'
  have hs := sum_of_cover (a := 0) (by omega) ht hc
  refine ⟨h1, h2, ht, hc, by omega, fun x hx => ?_⟩
  obtain ⟨i, hi⟩ := List.mem_iff_getElem?.1 hx
  have := single_vld (h2 i x hi)
  have h5 := this.2.1
  unfold cpV ltV lnV
  unfold lenV at h5 ⊢
  split at h5 <;> rename_i hk <;> simp only [hk, if_true, if_false] <;> omega
theorem ValidC.tot {o n : Int} {Cs : List CV} (h : ValidC o n Cs) (i : Nat) : 0 ≤ totI cpV Cs i ∧ totI cpV Cs i ≤ n ∧ 0 ≤ totI ltV Cs i ∧ totI ltV Cs i ≤ n ∧ 0 ≤ totI lnV Cs i ∧ totI lnV Cs i ≤ n ∧ n ≤ 4611686018427387903 := by
  have h1 := totI_bd (f := cpV) (fun x hx => (h.pos x hx).1) i
  have h2 := totI_bd (f := ltV) (fun x hx => (h.pos x hx).2.1) i
  have h3 := totI_bd (f := lnV) (fun x hx => by have := (h.pos x hx).2.2; omega) i
  have h4 := cp_lt Cs
  have h5 := h.sum
  have h6 := ln_sum Cs
  have h7 := sum_nonneg' (l := Cs.map cpV) (fun y hy => by obtain ⟨x, hx, rfl⟩ := List.mem_map.1 hy; exact (h.pos x hx).1)
  have h8 := sum_nonneg' (l := Cs.map ltV) (fun y hy => by obtain ⟨x, hx, rfl⟩ := List.mem_map.1 hy; exact (h.pos x hx).2.1)
  have h9 := h.len
  unfold okLen at h9
  omega
theorem ValidC.vld {o n : Int} {Cs : List CV} (h : ValidC o n Cs) : ∀ (i : Nat) (x : CV), Cs[i]? = some x → vld x.t (lenV x.k x.l x.m) := fun i x hx => (single_vld (h.single i x hx)).1
theorem ValidC.adds {o n : Int} {Cs : List CV} (h : ValidC o n Cs) : (Cs.map cpV).sum + (Cs.map ltV).sum = n := by rw [cp_lt, h.sum]
end Go.Proofs.Ytkgamkjdkapchaa
