/-
  The reference: pad.
-/
import Derived.Test.YtdcphpmkhekghaaDoorShaT
namespace Go.Proofs.YtdcphpmkhekghaaDoor
set_option linter.unusedVariables false
set_option linter.unusedSimpArgs false
open Go Go.RowKit


def padE (n : Nat) : Nat → List Int
  | 0 => 128 :: List.replicate (zerosN n) 0
  | k + 1 => padE n k ++ [IntKind.u8.wrap (shrI .u64 (mulW .u64 n 8) (56 - 8 * k))]
theorem padE_len (n : Nat) : ∀ k, (padE n k).length = zerosN n + 1 + k
  | 0 => by simp [padE]
  | k + 1 => by simp [padE, padE_len n k]; omega
theorem end_pad (n : Nat) : ∀ k, k ≤ 8 → endB n k = padE n k ++ List.replicate (8 - k) 0
  | 0, _ => by
    simp only [endB, padE]
    rw [show zerosN n + 9 = (zerosN n + 8) + 1 by omega, List.replicate_succ, List.set_cons_zero, List.cons_append, List.replicate_append_replicate]
  | k + 1, h => by
    have ih := end_pad n k (by omega)
    have hl := padE_len n k
    simp only [endB, padE, ih]
    rw [show 8 - k = (8 - (k + 1)) + 1 by omega, List.replicate_succ, List.set_append_right _ _ (by omega), hl, show zerosN n + k + 1 - (zerosN n + 1 + k) = 0 by omega, List.set_cons_zero]
    simp
theorem end_pad8 (n : Nat) : padE n 8 = endB n 8 := by simpa using (end_pad n 8 (Nat.le_refl _)).symm
def padZ (M : List Int) (k : Nat) : List Int := M ++ 128 :: List.replicate k 0
theorem pad_more (M : List Int) (k : Nat) : padZ M (k + 1) = padZ M k ++ [0] := by
  unfold padZ
  rw [List.replicate_succ']; simp

set_option maxRecDepth 100000 in
set_option maxHeartbeats 400000 in
theorem rpad_c (M : List Int) (A : Option Addr) (m c0 : Nat) (w : World) (hsM : Src w A m .u8 M) (hmc : m ≤ c0) (hm : m ≤ 1000) : Calls Tryd.prog 29 #[.slice A m c0] w fun e w' => ∃ v He, e = .returned v ∧ Own w.heap.size 5 .u8 v (M ++ endB m 8) He ∧ St w He w' := by
  refine calls_from (args := [.slice A m c0]) Tryd.func29 rfl Tryd.ntmps29 (by simp) ?_
  refine TC.sub (Sub.cons (i := 0) rfl (Sub.nil)) ?_
  refine TC.seq ?_
  refine TC.regionL ?_
  refine TL.gets (Wants.none rfl) rfl (Gets.assign rfl rfl) ?_
  refine TL.nil ?_
  refine TE.then ?_
  refine TC.seq ?_
  refine TC.regionL ?_
  refine TL.emptySlice (Wants.none rfl) rfl rfl Tryd.underlying22 size5 (fun g1 hg1 => ?_)
  refine TL.gets (Wants.none rfl) rfl (Gets.move rfl rfl) ?_
  refine TL.appendOwn (H := []) (He := [⟨g1, 5, ([] : List Int).map (Value.int .u8), 0⟩]) (Wants.none rfl) rfl rfl Tryd.underlying22 mk5 rfl rfl rfl (W := []) (B := M) (.inr ⟨g1, 0, rfl, rfl, hg1, Nat.le_refl _, by unfold maxLen; omega⟩) (fun w hs => hsM.at_ hs (fun b hb => ne_app ne_nil (ne_cons (by show g1 ≠ b; omega) ne_nil))) (by simp only [List.length_nil]; omega) (by simp only [List.length_nil]; omega) (fun vo Ho ho hne => ?_)
  rw [List.nil_append] at ho
  refine TL.gets (Wants.none rfl) rfl (Gets.assign rfl rfl) ?_
  refine TL.nil ?_
  refine TE.then ?_
  refine TC.seq ?_
  refine TC.regionL ?_
  refine TL.gets (Wants.none rfl) rfl (Gets.move rfl rfl) ?_
  refine TL.buildSlice (Wants.none rfl) rfl rfl Tryd.underlying22 size5 zero5 rfl (by decide) (by decide) (cells := #[.int .u8 128]) (tot := 1) (by kernel_rfl) (cs := [.int .u8 128]) rfl rfl (fun g2 hg2 => ?_)
  refine TL.appendOwn (H := [⟨g2, 5, [Value.int .u8 128], 1⟩]) (sl := 1) (t := 22) (e := 5) (kd := .u8) (Wants.none rfl) rfl rfl Tryd.underlying22 mk5 rfl rfl rfl (W := M) (B := [128]) ho (fun w hs => src_ent (W := [128]) (hs.has ⟨g2, 5, [Value.int .u8 128], 1⟩ (by simp)) rfl) (by have hMl := hsM.1; omega) (by have hMl := hsM.1; omega) (fun vo Ho ho hne => ?_)
  refine TL.gets (Wants.none rfl) rfl (Gets.assign rfl rfl) ?_
  refine TL.nil ?_
  refine TE.then ?_
  refine TC.sub (Sub.cons (i := 0) rfl (Sub.cons (i := 2) rfl (Sub.cons (i := 3) rfl (Sub.nil)))) ?_
  refine TC.seq ?_
  refine TC.block ?_
  refine TC.loop (ι := WV) (fun x => [(0, .slice A m c0), (3, x.v)]) (fun x => [] ++ x.He) (fun x => zerosN m - x.k) (fun x => Own w.heap.size 5 .u8 x.v (padZ M x.k) x.He ∧ x.k ≤ zerosN m) (⟨0, vo, Ho⟩ : WV) ⟨by show Own _ _ _ vo (padZ M 0) Ho; exact ho, by show 0 ≤ zerosN m; omega⟩ (Sub.slice (i := 0) rfl rfl (by first | omega | (dsimp only; omega) | rfl) (by first | omega | (dsimp only; omega) | rfl) (Sub.cons (i := 3) rfl (Sub.nil))) (fun w h => h.drop (by assumption)) (fun x hC0 => ?_)
  obtain ⟨k, v, He⟩ := x
  obtain ⟨hown, hC2⟩ := hC0
  dsimp only at hown hC2 ⊢
  have hWl : (padZ M k).length = m + 1 + k := by unfold padZ; simp [hsM.1]; omega
  have hz : zerosN m = (119 - m % 64) % 64 := rfl
  have hown0 := hown
  obtain ⟨g, c, hv, hHe, hN, hc, hm2⟩ := hown.resolve_left (fun h => by have := congrArg List.length h.2.1; rw [hWl] at this; simp at this)
  rw [hWl] at hv hc
  subst hv; subst hHe
  refine TC.seq ?_
  refine TC.seq ?_
  refine TC.regionL ?_
  refine TL.gets (Wants.none rfl) rfl (Gets.move rfl rfl) ?_
  refine TL.gets (Wants.none rfl) rfl (Gets.lenSlice rfl Tryd.underlying22 rfl) ?_
  refine TL.gets (Wants.none rfl) rfl (Gets.rem rfl rfl rfl (by omega) (r := (((m : Int) + (k : Int) + 1) % 64)) (tmod_pos (by omega) (by first | rfl | omega))) ?_
  refine TL.gets (Wants.none rfl) rfl (Gets.neq rfl rfl rfl) ?_
  refine TL.nil ?_
  refine TE.then ?_
  refine TC.split rfl (fun hq0 => ?_) (fun hq0 => ?_)
  · refine TC.skip ?_
    refine TE.then ?_
    refine TC.block ?_
    refine TC.regionL ?_
    refine TL.gets (Wants.none rfl) rfl (Gets.move rfl rfl) ?_
    refine TL.buildSlice (Wants.none rfl) rfl rfl Tryd.underlying22 size5 zero5 rfl (by decide) (by decide) (cells := #[.int .u8 0]) (tot := 1) (by kernel_rfl) (cs := [.int .u8 0]) rfl rfl (fun g3 hg3 => ?_)
    refine TL.appendOwn (H := [⟨g3, 5, [Value.int .u8 0], 1⟩]) (He := [⟨g, 5, (padZ M k).map (Value.int .u8), c⟩]) (sl := 1) (t := 22) (e := 5) (kd := .u8) (Wants.none rfl) rfl rfl Tryd.underlying22 mk5 rfl rfl rfl (W := padZ M k) (B := [0]) (.inr ⟨g, c, by rw [hWl], rfl, hN, by rw [hWl]; exact hc, hm2⟩) (fun w hs => src_ent (W := [0]) (hs.has ⟨g3, 5, [Value.int .u8 0], 1⟩ (by simp)) rfl) (by have := zerosN_lt m; rw [hWl]; omega) (by have := zerosN_lt m; rw [hWl]; omega) (fun vo Ho ho hne => ?_)
    refine TL.gets (Wants.none rfl) rfl (Gets.assign rfl rfl) ?_
    refine TL.nil ?_
    refine TE.blockN ?_
    exact TE.back (⟨k + 1, vo, Ho⟩ : WV) (by show zerosN m - (k + 1) < zerosN m - k; omega) ⟨by show Own _ _ _ vo (padZ M (k + 1)) Ho; rw [pad_more]; exact ho, by show k + 1 ≤ zerosN m; omega⟩ (Sub.slice (i := 0) rfl rfl (by first | omega | (dsimp only; omega) | rfl) (by first | omega | (dsimp only; omega) | rfl) (Sub.cons (i := 3) rfl (Sub.nil))) (fun w h => h.drop (by assumption))
  · have hkz : zerosN m = k := by omega
    refine TC.exit ?_
    refine TE.thenX ?_
    refine TE.thenX ?_
    refine TE.blockX ?_
    refine TE.then ?_
    refine TC.seq ?_
    refine TC.regionL ?_
    refine TL.gets (Wants.none rfl) rfl (Gets.move rfl rfl) ?_
    refine TL.gets (Wants.none rfl) rfl (Gets.lenSlice rfl Tryd.underlying22 rfl) ?_
    refine TL.gets (Wants.none rfl) rfl (Gets.conv rfl Tryd.underlying3 Tryd.underlying62 rfl (r := (m : Int)) (wu64 rfl (by omega))) ?_
    refine TL.gets (Wants.none rfl) rfl (Gets.mulU rfl rfl rfl) ?_
    refine TL.gets (Wants.none rfl) rfl (Gets.assign rfl rfl) ?_
    refine TL.nil ?_
    refine TE.then ?_
    refine TC.sub (Sub.cons (i := 3) rfl (Sub.cons (i := 4) rfl (Sub.nil))) ?_
    refine TC.seq ?_
    refine TC.seq ?_
    refine TC.regionL ?_
    refine TL.gets (Wants.none rfl) rfl (Gets.assign rfl rfl) ?_
    refine TL.nil ?_
    refine TE.then ?_
    refine TC.block ?_
    refine TC.loop (ι := WV) (fun x => [(3, x.v), (4, .int .u64 (mulW .u64 (m : Int) 8)), (5, .int .i64 (7 - (x.k : Int)))]) (fun x => [] ++ x.He) (fun x => 8 - x.k) (fun x => Own w.heap.size 5 .u8 x.v (M ++ padE m x.k) x.He ∧ x.k ≤ 8) (⟨0, .slice (some ⟨g, 0, none⟩) (m + 1 + k) c, [⟨g, 5, (padZ M k).map (Value.int .u8), c⟩]⟩ : WV) ⟨by show Own _ _ _ _ (M ++ padE m 0) _; rw [show padE m 0 = 128 :: List.replicate (zerosN m) 0 from rfl, hkz]; exact hown0, by show 0 ≤ 8; omega⟩ (Sub.cons (i := 3) rfl (Sub.int (i := 4) rfl (by first | rfl | omega) (Sub.int (i := 5) rfl (by first | omega | rfl) (Sub.nil)))) (fun w h => h) (fun x hC1 => ?_)
    obtain ⟨k, v, He⟩ := x
    obtain ⟨hown, hC2⟩ := hC1
    dsimp only at hown hC2 ⊢
    refine TC.seq ?_
    refine TC.seq ?_
    refine TC.regionL ?_
    refine TL.gets (Wants.none rfl) rfl (Gets.move rfl rfl) ?_
    refine TL.gets (Wants.none rfl) rfl (Gets.geq rfl rfl rfl) ?_
    refine TL.nil ?_
    refine TE.then ?_
    refine TC.split rfl (fun hq1 => ?_) (fun hq1 => ?_)
    · refine TC.skip ?_
      refine TE.then ?_
      refine TC.seq ?_
      refine TC.block ?_
      refine TC.regionL ?_
      refine TL.gets (Wants.none rfl) rfl (Gets.move rfl rfl) ?_
      refine TL.gets (Wants.none rfl) rfl (Gets.move rfl rfl) ?_
      refine TL.gets (Wants.none rfl) rfl (Gets.move rfl rfl) ?_
      refine TL.gets (Wants.none rfl) rfl (Gets.mul rfl rfl rfl (r := (56 - 8 * (k : Int))) (w64 (by omega) (by omega))) ?_
      refine TL.gets (Wants.none rfl) rfl (Gets.shr rfl rfl rfl (by omega) (r := (shrI .u64 (mulW .u64 (m : Int) 8) (56 - 8 * (k : Int)))) rfl) ?_
      refine TL.gets (Wants.none rfl) rfl (Gets.conv rfl Tryd.underlying62 Tryd.underlying5 rfl (r := (IntKind.u8.wrap (shrI .u64 (mulW .u64 (m : Int) 8) (56 - 8 * (k : Int))))) rfl) ?_
      refine TL.buildSlice (Wants.none rfl) rfl rfl Tryd.underlying22 size5 zero5 rfl (by decide) (by decide) (cells := #[.int .u8 (IntKind.u8.wrap (shrI .u64 (mulW .u64 (m : Int) 8) (56 - 8 * (k : Int))))]) (tot := 1) (by kernel_rfl) (cs := [.int .u8 (IntKind.u8.wrap (shrI .u64 (mulW .u64 (m : Int) 8) (56 - 8 * (k : Int))))]) rfl rfl (fun g4 hg4 => ?_)
      refine TL.appendOwn (H := [⟨g4, 5, [Value.int .u8 (IntKind.u8.wrap (shrI .u64 (mulW .u64 (m : Int) 8) (56 - 8 * (k : Int))))], 1⟩]) (sl := 1) (t := 22) (e := 5) (kd := .u8) (Wants.none rfl) rfl rfl Tryd.underlying22 mk5 rfl rfl rfl (W := M ++ padE m k) (B := [(IntKind.u8.wrap (shrI .u64 (mulW .u64 (m : Int) 8) (56 - 8 * (k : Int))))]) hown (fun w hs => src_ent (W := [(IntKind.u8.wrap (shrI .u64 (mulW .u64 (m : Int) 8) (56 - 8 * (k : Int))))]) (hs.has ⟨g4, 5, [Value.int .u8 (IntKind.u8.wrap (shrI .u64 (mulW .u64 (m : Int) 8) (56 - 8 * (k : Int))))], 1⟩ (by simp)) rfl) (by have := padE_len m k; have := zerosN_lt m; have hap : (M ++ padE m k).length = M.length + (padE m k).length := List.length_append; have hMl := hsM.1; omega) (by have := padE_len m k; have := zerosN_lt m; have hap : (M ++ padE m k).length = M.length + (padE m k).length := List.length_append; have hMl := hsM.1; omega) (fun vo Ho ho hne => ?_)
      refine TL.gets (Wants.none rfl) rfl (Gets.assign rfl rfl) ?_
      refine TL.nil ?_
      refine TE.blockN ?_
      refine TE.then ?_
      refine TC.sub (Sub.cons (i := 3) rfl (Sub.cons (i := 4) rfl (Sub.cons (i := 5) rfl (Sub.nil)))) ?_
      refine TC.regionL ?_
      refine TL.gets (Wants.none rfl) rfl (Gets.move rfl rfl) ?_
      refine TL.gets (Wants.none rfl) rfl (Gets.sub rfl rfl rfl (r := (6 - (k : Int))) (w64 (by omega) (by omega))) ?_
      refine TL.gets (Wants.none rfl) rfl (Gets.assign rfl rfl) ?_
      refine TL.nil ?_
      exact TE.back (⟨k + 1, vo, Ho⟩ : WV) (by show 8 - (k + 1) < 8 - k; omega) ⟨by show Own _ _ _ vo (M ++ padE m (k + 1)) Ho; rw [padE, ← List.append_assoc]; exact ho, by show k + 1 ≤ 8; omega⟩ (Sub.cons (i := 3) rfl (Sub.int (i := 4) rfl (by first | rfl | omega) (Sub.int (i := 5) rfl (by show (6 - (k : Int)) = 7 - ((k + 1 : Nat) : Int); omega) (Sub.nil)))) (fun w h => h.drop (by assumption))
    · obtain rfl : k = 8 := by omega
      refine TC.exit ?_
      refine TE.thenX ?_
      refine TE.thenX ?_
      refine TE.blockX ?_
      refine TE.then ?_
      refine TC.seq ?_
      refine TC.regionL ?_
      refine TL.gets (Wants.none rfl) rfl (Gets.move rfl rfl) ?_
      refine TL.gets (Wants.none rfl) rfl (Gets.assign rfl rfl) ?_
      refine TL.nil ?_
      refine TE.then ?_
      refine TC.ret ?_
      exact TE.ret1 rfl rfl (fun w hs => ⟨v, He, rfl, by rw [← end_pad8]; exact hown, hs⟩)
end Go.Proofs.YtdcphpmkhekghaaDoor
