/-
  The reference of layer 6: Fits, Append.
-/
import Derived.Test.YtdllgfkcakhoeaaWir
import Derived.Test.YtdllgfkcakhoeaaMk
import Derived.Test.YtdllgfkcakhoeaaRows
import Derived.Test.YtdllgfkcakhoeaaAuto
namespace Go.Proofs.Ytdllgfkcakhoeaa
set_option linter.unusedVariables false
set_option linter.unusedSimpArgs false
open Go Go.RowKit
theorem mk5 : (Try.prog.info? 5).map (fun i => (i.zero, i.size, i.bytes)) = some (some (.int .u8 0), 1, 1) := by kernel_rfl
theorem size5 : (Try.prog.info? 5).map (·.size) = some 1 := by kernel_rfl
theorem zero5 : (Try.prog.info? 5).bind (·.zero) = some (.int .u8 0) := by kernel_rfl
set_option maxRecDepth 100000 in
set_option maxHeartbeats 400000 in
theorem rfits_c (x n : Int) (w : World) : Calls Try.prog 21 #[.int .u64 x, .int .i64 n] w fun e w' => e = .returned (.bool (decide (fitV x n))) ∧ St w [] w' := by
  refine calls_from (args := [.int .u64 x, .int .i64 n]) Try.func21 rfl Try.ntmps21 (by simp) ?_
  refine TC.pr [0, 1] ?_
  iterate 8 refine gx ?_
  by_cases c1 : 1 ≤ n
  · refine TL.gets (Wants.none rfl) rfl (Gets.isTrue (Gets.geq rfl rfl rfl) c1) ?_
    iterate 2 refine gx ?_
    by_cases c2 : n ≤ 8
    · refine TL.gets (Wants.yes rfl rfl rfl) rfl (Gets.isTrue (Gets.leq rfl rfl rfl) c2) ?_
      iterate 3 refine gx ?_
      by_cases c3 : n = 8
      · refine TL.gets (Wants.yes rfl rfl rfl) rfl (Gets.isTrue (Gets.eql rfl rfl rfl) c3) ?_
        iterate 12 refine gx ?_
        exact TE.ret1 rfl rfl (fun w hs => ⟨dec_t (by unfold fitV; omega), hs⟩)
      · refine TL.gets (Wants.yes rfl rfl rfl) rfl (Gets.isFalse (Gets.eql rfl rfl rfl) c3) ?_
        iterate 3 refine gx ?_
        refine TL.gets (Wants.yes rfl rfl rfl) rfl (Gets.mul rfl rfl rfl (r := (8 * n)) (w64 (by omega) (by omega))) ?_
        refine TL.gets (Wants.yes rfl rfl rfl) rfl (Gets.shr rfl rfl rfl (by omega) (r := (shrI .u64 x (8 * n))) rfl) ?_
        iterate 7 refine gx ?_
        exact TE.ret1 rfl rfl (fun w hs => ⟨dec_iff (by unfold fitV; omega), hs⟩)
    · refine TL.gets (Wants.yes rfl rfl rfl) rfl (Gets.isFalse (Gets.leq rfl rfl rfl) c2) ?_
      iterate 16 refine gx ?_
      exact TE.ret1 rfl rfl (fun w hs => ⟨dec_f (by unfold fitV; omega), hs⟩)
  · refine TL.gets (Wants.none rfl) rfl (Gets.isFalse (Gets.geq rfl rfl rfl) c1) ?_
    iterate 19 refine gx ?_
    exact TE.ret1 rfl rfl (fun w hs => ⟨dec_f (by unfold fitV; omega), hs⟩)

set_option maxRecDepth 100000 in
set_option maxHeartbeats 400000 in
theorem rapp_c (x n : Int) (hn : 1 ≤ n ∧ n ≤ 8) (B : List Int) (A : Option Addr) (m c : Nat) (w : World) (hsB : Src w A m .u8 B) (hmc : m ≤ c) (hm : m ≤ 1000000) : Calls Try.prog 22 #[.slice A m c, .int .u64 x, .int .i64 n] w fun e w' => ∃ v He, e = .returned v ∧ Own w.heap.size 5 .u8 v (B ++ beV x n) He ∧ St w He w' := by
  refine calls_from (args := [.slice A m c, .int .u64 x, .int .i64 n]) Try.func22 rfl Try.ntmps22 (by simp) ?_
  refine TC.pr [0, 1, 2] ?_
  iterate 7 refine gx ?_
  refine TL.emptySlice (Wants.none rfl) rfl rfl Try.underlying22 size5 (fun g1 hg1 => ?_)
  refine gx ?_
  refine TL.appendOwn (H := []) (He := [⟨g1, 5, ([] : List Int).map (Value.int .u8), 0⟩]) (Wants.none rfl) rfl rfl Try.underlying22 mk5 rfl rfl rfl (W := []) (B := B) (.inr ⟨g1, 0, rfl, rfl, hg1, Nat.le_refl _, by unfold maxLen; omega⟩) (fun w hs => hsB.at_ hs (fun b hb => ne_app ne_nil (ne_cons (by show g1 ≠ b; omega) ne_nil))) (by simp only [List.length_nil]; omega) (by simp only [List.length_nil]; omega) (fun vo Ho ho hne => ?_)
  rw [List.nil_append] at ho
  iterate 7 refine gx ?_
  refine TL.gets (Wants.none rfl) rfl (Gets.sub rfl rfl rfl (r := (n - 1)) (w64 (by omega) (by omega))) ?_
  iterate 3 refine gx ?_
  refine TC.pr [1, 6, 7, 8] ?_
  refine gx ?_
  refine TC.loop (ι := WN) (fun x0 => [(1, .int .u64 x), (7, x0.v), (8, .int .i64 (n - (x0.k : Int) - 1))]) (fun x0 => [] ++ x0.He) (fun x0 => n.toNat - x0.k) (fun x0 => Own w.heap.size 5 .u8 x0.v (B ++ beP x n x0.k) x0.He ∧ x0.k ≤ n.toNat) (⟨0, vo, Ho⟩ : WN) ⟨by show Own _ _ _ vo (B ++ beP x n 0) Ho; rw [beP_zero, List.append_nil]; exact ho, by show 0 ≤ n.toNat; omega⟩ (Sub.int (i := 1) rfl (by first | rfl | omega) (Sub.cons (i := 7) rfl (Sub.int (i := 8) rfl (by show n - 1 = n - ((0 : Nat) : Int) - 1; omega) (Sub.nil)))) (fun w h => h) (fun x0 hC0 => ?_)
  obtain ⟨k, v, He⟩ := x0
  obtain ⟨hown, hC2⟩ := hC0
  dsimp only at hown hC2 ⊢
  iterate 7 refine gx ?_
  refine TC.split rfl (fun hq0 => ?_) (fun hq0 => ?_)
  · iterate 8 refine gx ?_
    refine TL.gets (Wants.none rfl) rfl (Gets.mul rfl rfl rfl (r := (8 * n - 8 * (k : Int) - 8)) (w64 (by omega) (by omega))) ?_
    refine TL.gets (Wants.none rfl) rfl (Gets.shr rfl rfl rfl (by omega) (r := (shrI .u64 x (8 * n - 8 * (k : Int) - 8))) rfl) ?_
    refine TL.gets (Wants.none rfl) rfl (Gets.conv rfl Try.underlying34 Try.underlying5 rfl (r := (IntKind.u8.wrap (shrI .u64 x (8 * n - 8 * (k : Int) - 8)))) rfl) ?_
    refine TL.buildSlice (Wants.none rfl) rfl rfl Try.underlying22 size5 zero5 rfl (by decide) (by decide) (cells := #[.int .u8 (IntKind.u8.wrap (shrI .u64 x (8 * n - 8 * (k : Int) - 8)))]) (tot := 1) (by kernel_rfl) (cs := [.int .u8 (IntKind.u8.wrap (shrI .u64 x (8 * n - 8 * (k : Int) - 8)))]) rfl rfl (fun g2 hg2 => ?_)
    refine TL.appendOwn (H := [⟨g2, 5, [Value.int .u8 (IntKind.u8.wrap (shrI .u64 x (8 * n - 8 * (k : Int) - 8)))], 1⟩]) (sl := 1) (t := 22) (e := 5) (kd := .u8) (Wants.none rfl) rfl rfl Try.underlying22 mk5 rfl rfl rfl (W := B ++ beP x n k) (B := [(IntKind.u8.wrap (shrI .u64 x (8 * n - 8 * (k : Int) - 8)))]) hown (fun w hs => src_ent (W := [(IntKind.u8.wrap (shrI .u64 x (8 * n - 8 * (k : Int) - 8)))]) (hs.has ⟨g2, 5, [Value.int .u8 (IntKind.u8.wrap (shrI .u64 x (8 * n - 8 * (k : Int) - 8)))], 1⟩ (by simp)) rfl) (by have := beP_len x n k; have hap : (B ++ beP x n k).length = B.length + (beP x n k).length := List.length_append; have hBl := hsB.1; omega) (by have := beP_len x n k; have hap : (B ++ beP x n k).length = B.length + (beP x n k).length := List.length_append; have hBl := hsB.1; omega) (fun vo Ho ho hne => ?_)
    iterate 4 refine gx ?_
    refine TC.pr [1, 7, 8] ?_
    iterate 2 refine gx ?_
    refine TL.gets (Wants.none rfl) rfl (Gets.sub rfl rfl rfl (r := (n - (k : Int) - 2)) (w64 (by omega) (by omega))) ?_
    iterate 2 refine gx ?_
    exact TE.back (⟨k + 1, vo, Ho⟩ : WN) (by show n.toNat - (k + 1) < n.toNat - k; omega) ⟨by show Own _ _ _ vo (B ++ beP x n (k + 1)) Ho; rw [beP_succ, ← List.append_assoc]; exact ho, by show k + 1 ≤ n.toNat; omega⟩ (Sub.int (i := 1) rfl (by first | rfl | omega) (Sub.cons (i := 7) rfl (Sub.int (i := 8) rfl (by show n - (k : Int) - 2 = n - ((k + 1 : Nat) : Int) - 1; omega) (Sub.nil)))) (fun w h => h.drop (by assumption))
  · obtain rfl : k = n.toNat := by omega
    iterate 12 refine gx ?_
    exact TE.ret1 rfl rfl (fun w hs => ⟨v, He, rfl, hown, hs⟩)
end Go.Proofs.Ytdllgfkcakhoeaa
