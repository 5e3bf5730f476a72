/-
  The law's few.
-/
import Derived.Test.YtdllgfkcakhoeaaWcG
import Derived.Test.YtdllgfkcakhoeaaFrW
import Derived.Test.YtdllgfkcakhoeaaAuto
namespace Go.Proofs.Ytdllgfkcakhoeaa
set_option linter.unusedVariables false
set_option linter.unusedSimpArgs false
open Go Go.RowKit
theorem agg49 : (isAgg 49).run Try.prog = fun w => .ok true w := isAgg_yes Try.underlying49 rfl
theorem size49 : (Try.prog.info? 49).map (·.size) = some 3 := by kernel_rfl
theorem zero49 : (Try.prog.info? 49).bind (·.zero) = some (.agg #[.int .i64 0, .int .i64 0, .slice none 0 0]) := by kernel_rfl
instance : Fld Try.prog 49 0 0 := ⟨⟨_, _, _, Try.underlying49, rfl, size3, rfl⟩⟩
instance : Fld Try.prog 49 1 1 := ⟨⟨_, _, _, Try.underlying49, rfl, size3, rfl⟩⟩
instance : Fld Try.prog 49 2 2 := ⟨⟨_, _, _, Try.underlying49, rfl, size22, rfl⟩⟩
instance : Siz Try.prog 49 3 := ⟨size49⟩
instance : Sli Try.prog 44 49 := ⟨Try.underlying44⟩
instance : Zer Try.prog 49 [Value.int .i64 0, Value.int .i64 0, Value.slice none 0 0] := ⟨⟨_, zero49, rfl⟩⟩
theorem few_succ {Os : List OV} {i : Nat} {x : OV} (h : ∀ (j : Nat) (x : OV), j < i → Os[j]? = some x → goodO x) (hx : Os[i]? = some x) (hg : goodO x) : ∀ (j : Nat) (x : OV), j < i + 1 → Os[j]? = some x → goodO x := fun j y hj hy => by
  by_cases e : j = i
  · subst e; rw [hx] at hy; cases hy; exact hg
  · exact h j y (by omega) hy

set_option maxRecDepth 100000 in
set_option maxHeartbeats 400000 in
theorem few_c (Os : List OV) (A : Option Addr) (m c : Nat) (w : World) (hS : SrcO w A m Os) (hmc : m ≤ c) (hcm : c ≤ 9223372036854775807) (hN : ∀ (i : Nat) (x : OV), Os[i]? = some x → OkO w x) : Calls Try.prog 16 #[.slice A m c] w fun e w' => e = .returned (.bool (decide (fewO m Os))) ∧ St w [] w' := by
  refine calls_from (args := [.slice A m c]) Try.func16 rfl Try.ntmps16 (by simp) ?_
  refine TC.pr [0] ?_
  iterate 13 refine gx ?_
  refine TC.split rfl (fun hq0 => ?_) (fun hq0 => ?_)
  · iterate 7 refine gx ?_
    exact TE.ret1 rfl rfl (fun w hs => ⟨by rw [decide_eq_false (p := fewO m Os) (fun h => by have h1 := h.1; first | omega | (have h2 := h.2 i x hx; unfold goodO at h2; omega))], hs⟩)
  · iterate 11 refine gx ?_
    refine TC.loop (ι := Nat) (fun i => [(8, .slice A m c), (9, .int .i64 (m : Int)), (10, .int .i64 (i : Int))]) (fun i => []) (fun i => m - i) (fun i => i ≤ m ∧ ∀ (j : Nat) (x : OV), j < i → Os[j]? = some x → goodO x) 0 ⟨Nat.zero_le _, fun j x hj => absurd hj (Nat.not_lt_zero j)⟩ (Sub.slice (i := 8) rfl rfl (by first | omega | (dsimp only; omega) | rfl) (by first | omega | (dsimp only; omega) | rfl) (Sub.int (i := 9) rfl (by first | omega | rfl) (Sub.int (i := 10) rfl (by first | omega | rfl) (Sub.nil)))) (fun w h => h) (fun i hC0 => ?_)
    obtain ⟨hC0, hC1⟩ := hC0
    iterate 6 refine gx ?_
    refine TC.split rfl (fun hq1 => ?_) (fun hq1 => ?_)
    · obtain ⟨b, off, hAe, hb, hrw⟩ := hS.some_ (i := i) (by omega)
      subst hAe
      obtain ⟨x, hx⟩ := hS.get (i := i) (by omega)
      have hox := hN i x hx
      unfold OkO at hox
      iterate 6 refine gx ?_
      refine TL.gets (Wants.none rfl) rfl (Gets.idxSlice rfl Try.underlying44 size49 rfl rfl (i := i) (by omega) (by omega) (off' := (off + 3 * i)) (by omega)) ?_
      refine TL.gets (Wants.none rfl) rfl (Gets.loadN rfl agg49 size49 rfl rfl (Row.old (fun jj u h => hrw i x hx jj u h) hb ne_nil)) ?_
      refine TL.al (fun g1 hg1 => ?_)
      iterate 8 refine gx ?_
      by_cases c1 : 100 < (x.m : Int)
      · refine TL.gets (Wants.none rfl) rfl (Gets.isTrue (Gets.gtr rfl rfl rfl) c1) ?_
        iterate 22 refine gx ?_
        refine TC.pr [8, 9, 10, 37] ?_
        refine TC.yes rfl ?_
        iterate 11 refine gx ?_
        exact TE.ret1 rfl rfl (fun w hs => ⟨by rw [decide_eq_false (p := fewO m Os) (fun h => by have h1 := h.1; first | omega | (have h2 := h.2 i x hx; unfold goodO at h2; omega))], (hs.drop (by assumption))⟩)
      · refine TL.gets (Wants.none rfl) rfl (Gets.isFalse (Gets.gtr rfl rfl rfl) c1) ?_
        iterate 3 refine gx ?_
        by_cases c2 : 3 ≤ x.k
        · refine TL.gets (Wants.yes rfl rfl rfl) rfl (Gets.isTrue (Gets.geq rfl rfl rfl) c2) ?_
          iterate 3 refine gx ?_
          by_cases c3 : x.n = 0
          · refine TL.gets (Wants.yes rfl rfl rfl) rfl (Gets.isTrue (Gets.eql rfl rfl rfl) c3) ?_
            iterate 14 refine gx ?_
            refine TC.pr [8, 9, 10, 37] ?_
            refine TC.yes rfl ?_
            iterate 11 refine gx ?_
            exact TE.ret1 rfl rfl (fun w hs => ⟨by rw [decide_eq_false (p := fewO m Os) (fun h => by have h1 := h.1; first | omega | (have h2 := h.2 i x hx; unfold goodO at h2; omega))], (hs.drop (by assumption))⟩)
          · refine TL.gets (Wants.yes rfl rfl rfl) rfl (Gets.isFalse (Gets.eql rfl rfl rfl) c3) ?_
            iterate 5 refine gx ?_
            by_cases c4 : 1152921504606846976 < x.n
            · refine TL.gets (Wants.yes rfl rfl rfl) rfl (Gets.isTrue (Gets.gtr rfl rfl rfl) c4) ?_
              iterate 8 refine gx ?_
              refine TC.pr [8, 9, 10, 37] ?_
              refine TC.yes rfl ?_
              iterate 11 refine gx ?_
              exact TE.ret1 rfl rfl (fun w hs => ⟨by rw [decide_eq_false (p := fewO m Os) (fun h => by have h1 := h.1; first | omega | (have h2 := h.2 i x hx; unfold goodO at h2; omega))], (hs.drop (by assumption))⟩)
            · refine TL.gets (Wants.yes rfl rfl rfl) rfl (Gets.isFalse (Gets.gtr rfl rfl rfl) c4) ?_
              iterate 8 refine gx ?_
              refine TC.pr [8, 9, 10, 37] ?_
              refine TC.split rfl (fun h5 => ?_) (fun h5 => ?_)
              · iterate 11 refine gx ?_
                exact TE.ret1 rfl rfl (fun w hs => ⟨by rw [decide_eq_false (p := fewO m Os) (fun h => by have h1 := h.1; first | omega | (have h2 := h.2 i x hx; unfold goodO at h2; omega))], (hs.drop (by assumption))⟩)
              · iterate 4 refine gx ?_
                refine TL.gets (Wants.none rfl) rfl (Gets.add rfl rfl rfl (r := ((i : Int) + 1)) (w64 (by omega) (by omega))) ?_
                iterate 2 refine gx ?_
                exact TE.back (i + 1) (by omega) ⟨by omega, few_succ hC1 hx (by unfold goodO; omega)⟩ (Sub.slice (i := 8) rfl (by first | rfl | (congr 2; omega)) (by first | omega | (dsimp only; omega) | rfl) (by first | omega | (dsimp only; omega) | rfl) (Sub.int (i := 9) rfl (by first | omega | rfl) (Sub.int (i := 10) rfl (by first | omega | rfl) (Sub.nil)))) (fun w h => h.drop (by assumption))
        · refine TL.gets (Wants.yes rfl rfl rfl) rfl (Gets.isFalse (Gets.geq rfl rfl rfl) c2) ?_
          iterate 9 refine gx ?_
          by_cases c4 : 1152921504606846976 < x.n
          · refine TL.gets (Wants.yes rfl rfl rfl) rfl (Gets.isTrue (Gets.gtr rfl rfl rfl) c4) ?_
            iterate 8 refine gx ?_
            refine TC.pr [8, 9, 10, 37] ?_
            refine TC.yes rfl ?_
            iterate 11 refine gx ?_
            exact TE.ret1 rfl rfl (fun w hs => ⟨by rw [decide_eq_false (p := fewO m Os) (fun h => by have h1 := h.1; first | omega | (have h2 := h.2 i x hx; unfold goodO at h2; omega))], (hs.drop (by assumption))⟩)
          · refine TL.gets (Wants.yes rfl rfl rfl) rfl (Gets.isFalse (Gets.gtr rfl rfl rfl) c4) ?_
            iterate 8 refine gx ?_
            refine TC.pr [8, 9, 10, 37] ?_
            refine TC.split rfl (fun h7 => ?_) (fun h7 => ?_)
            · iterate 11 refine gx ?_
              exact TE.ret1 rfl rfl (fun w hs => ⟨by rw [decide_eq_false (p := fewO m Os) (fun h => by have h1 := h.1; first | omega | (have h2 := h.2 i x hx; unfold goodO at h2; omega))], (hs.drop (by assumption))⟩)
            · iterate 4 refine gx ?_
              refine TL.gets (Wants.none rfl) rfl (Gets.add rfl rfl rfl (r := ((i : Int) + 1)) (w64 (by omega) (by omega))) ?_
              iterate 2 refine gx ?_
              exact TE.back (i + 1) (by omega) ⟨by omega, few_succ hC1 hx (by unfold goodO; omega)⟩ (Sub.slice (i := 8) rfl (by first | rfl | (congr 2; omega)) (by first | omega | (dsimp only; omega) | rfl) (by first | omega | (dsimp only; omega) | rfl) (Sub.int (i := 9) rfl (by first | omega | rfl) (Sub.int (i := 10) rfl (by first | omega | rfl) (Sub.nil)))) (fun w h => h.drop (by assumption))
    · iterate 11 refine gx ?_
      exact TE.ret1 rfl rfl (fun w hs => ⟨by rw [decide_eq_true (p := fewO m Os) ⟨by omega, fun j x hx => hC1 j x (by have := (List.getElem?_eq_some_iff.1 hx).1; have := hS.1; omega) hx⟩], hs⟩)
end Go.Proofs.Ytdllgfkcakhoeaa
