/-
  WireAppends: the walk.
-/
import Derived.Test.YtdllgfkcakhoeaaWrD
import Derived.Test.YtdllgfkcakhoeaaWcG
import Derived.Test.YtdllgfkcakhoeaaAuto
namespace Go.Proofs.Ytdllgfkcakhoeaa
set_option linter.unusedVariables false
set_option linter.unusedSimpArgs false
open Go Go.RowKit
theorem enters7 : Enters Try.prog 7 := ⟨_, Try.func7, by kernel_rfl, by kernel_rfl⟩
theorem enters8 : Enters Try.prog 8 := ⟨_, Try.func8, by kernel_rfl, by kernel_rfl⟩
set_option maxRecDepth 100000 in
set_option maxHeartbeats 1000000 in
theorem wireAppends_walk (Ab : Option Addr) (mb cb : Nat) (Bb : List Int) (Al : Option Addr) (ml cl : Nat) (Xl : List FV) (w : World) (hsb : Src w Ab mb .u8 Bb) (hmcb : mb ≤ cb) (hcmb : cb ≤ 9223372036854775807) (hBb : ∀ x ∈ Bb, 0 ≤ x ∧ x ≤ 255) (hsl : SrcF w Al ml Xl) (hmcl : ml ≤ cl) (hcml : cl ≤ 9223372036854775807) (hNl : NumsF Xl) : Calls Try.prog 3 #[.slice Ab mb cb, .slice Al ml cl] w fun e w' => e = .returned (.bool true) ∧ St w [] w' := by
  refine calls_from (args := [.slice Ab mb cb, .slice Al ml cl]) Try.func3 rfl Try.ntmps3 (by simp) ?_
  refine TC.pr [0, 1] ?_
  iterate 10 refine gx ?_
  by_cases c1 : 300 < (mb : Int)
  · refine TL.gets (Wants.none rfl) rfl (Gets.isTrue (Gets.gtr rfl rfl rfl) c1) ?_
    iterate 7 refine gx ?_
    refine TC.pr [0, 1, 4, 18] ?_
    refine TC.yes rfl ?_
    iterate 2 refine gx ?_
    refine TL.call0 (Wants.none rfl) rfl enters7 rfl rfl (v := .bool true) (fun w hs => alive_c w) ?_
    iterate 5 refine gx ?_
    exact TE.ret1 rfl rfl (fun w hs => ⟨rfl, hs⟩)
  · refine TL.gets (Wants.none rfl) rfl (Gets.isFalse (Gets.gtr rfl rfl rfl) c1) ?_
    iterate 3 refine gx ?_
    by_cases c2 : 60 < (ml : Int)
    · refine TL.gets (Wants.yes rfl rfl rfl) rfl (Gets.isTrue (Gets.gtr rfl rfl rfl) c2) ?_
      iterate 3 refine gx ?_
      refine TC.pr [0, 1, 4, 18] ?_
      refine TC.yes rfl ?_
      iterate 2 refine gx ?_
      refine TL.call0 (Wants.none rfl) rfl enters7 rfl rfl (v := .bool true) (fun w hs => alive_c w) ?_
      iterate 5 refine gx ?_
      exact TE.ret1 rfl rfl (fun w hs => ⟨rfl, hs⟩)
    · refine TL.gets (Wants.yes rfl rfl rfl) rfl (Gets.isFalse (Gets.gtr rfl rfl rfl) c2) ?_
      iterate 3 refine gx ?_
      refine TC.pr [0, 1, 4, 18] ?_
      refine TC.no rfl ?_
      iterate 5 refine gx ?_
      refine TL.call (ι := WF) (V := fun y => .tuple #[y.v1, y.v2, .bool (decide (fitAll Xl))]) (R := fun y => OwnS w.heap.size 36 2 y.v1 ml (flatF Xl) y.H1 ∧ Own w.heap.size 5 .u8 y.v2 y.W y.H2 ∧ (fitAll Xl → y.W = encF Xl) ∧ y.W.length ≤ 8 * ml) (H' := fun y => [] ++ (y.H2 ++ y.H1)) (Wants.none rfl) rfl enters8 rfl rfl (fun w hs => (fields_c Xl Al ml cl w (hsl.at_ hs (fun b hb => ne_nil)) hmcl (by omega)).mono fun e w' ⟨v1, H1, v2, W, H2, he, h1, h2, h3, h4, hw⟩ => ⟨⟨0, v1, H1, v2, W, H2⟩, he, ⟨h1.mono hs.size, own_mono h2 hs.size, h3, h4⟩, st_call hs hw (Fresh.app (w0 := w) h2.new h1.new)⟩) (fun y hR => ?_)
      obtain ⟨_, v1, H1, v2, W, H2⟩ := y
      obtain ⟨hv1, hv2, hW, hWl⟩ := hR
      dsimp only at hv1 hv2 hW hWl ⊢
      have hT : Fresh w (H2 ++ H1) := Fresh.app hv2.new hv1.new
      obtain ⟨Af, cf, rfl, hcf, hcf2⟩ := hv1.form
      obtain ⟨Aw, cw, rfl, hcw, hcw2⟩ := hv2.form
      iterate 6 refine gx ?_
      by_cases c3 : fitAll Xl
      · refine TL.gets (Wants.none rfl) rfl (Gets.isTrue (Gets.assign rfl rfl) c3) ?_
        iterate 2 refine gx ?_
        refine TC.pr [0, 4, 5, 6, 7] ?_
        iterate 2 refine gx ?_
        refine TL.emptySlice (Wants.none rfl) rfl rfl Try.underlying22 size5 (fun g1 hg1 => ?_)
        refine gx ?_
        refine TL.heap (H' := ((H2 ++ H1)) ++ [(⟨g1, 5, ([] : List Int).map (Value.int .u8), 0⟩ : Ent)]) (fun w h => h.perm (List.perm_append_comm (l₁ := [(⟨g1, 5, ([] : List Int).map (Value.int .u8), 0⟩ : Ent)]) (l₂ := (H2 ++ H1)))) ?_
        refine TL.appendOwn (H := (H2 ++ H1)) (He := [(⟨g1, 5, ([] : List Int).map (Value.int .u8), 0⟩ : Ent)]) (Wants.none rfl) rfl rfl Try.underlying22 mk5 rfl rfl rfl (W := []) (B := Bb) (.inr ⟨g1, 0, rfl, rfl, hg1, Nat.le_refl _, by unfold maxLen; omega⟩) (fun w hs => hsb.at_ hs (fun b hb => ne_app (hT.ne hb) (ne_cons (by show g1 ≠ b; omega) ne_nil))) (by simp only [List.length_nil]; omega) (by simp only [List.length_nil]; omega) (fun vo28 Ho28 ho28 hne28 => ?_)
        rw [List.nil_append] at ho28
        have hF28 : Fresh w ((H2 ++ H1) ++ Ho28) := Fresh.app hT ho28.new
        refine TL.buildSlice (Wants.none rfl) rfl rfl Try.underlying22 size5 zero5 rfl (by decide) (by decide) (cells := #[.int .u8 77]) (tot := 1) (by kernel_rfl) (cs := [.int .u8 77]) rfl rfl (fun g2 hg2 => ?_)
        refine TL.heap (H' := ([(⟨g2, 5, [Value.int .u8 77], 1⟩ : Ent)] ++ (H2 ++ H1)) ++ Ho28) (fun w h => by rw [List.append_assoc]; exact h) ?_
        refine TL.appendOwn (H := [(⟨g2, 5, [Value.int .u8 77], 1⟩ : Ent)] ++ (H2 ++ H1)) (He := Ho28) (Wants.none rfl) rfl rfl Try.underlying22 mk5 rfl rfl rfl (W := Bb) (B := [77]) ho28 (fun w hs => src_ent (W := [77]) (hs.has ⟨g2, 5, [Value.int .u8 77], 1⟩ (by simp)) rfl) (by have := hsb.1; first | omega | (simp only [List.length_cons, List.length_nil]; omega)) (by have := hsb.1; first | omega | (simp only [List.length_cons, List.length_nil]; omega)) (fun vo30 Ho30 ho30 hne30 => ?_)
        have hl30 : (Bb ++ [(77 : Int)]).length = mb + 1 := by simp [hsb.1]
        obtain ⟨go, co, hvo, hHo, hgo, hco, hcoM⟩ := ho30.resolve_left (fun h => by have := congrArg List.length h.2.1; rw [hl30] at this; simp at this)
        rw [hl30] at hvo hco
        subst hvo; subst hHo
        refine TL.heap (H' := [(⟨go, 5, (Bb ++ [(77 : Int)]).map (Value.int .u8), co⟩ : Ent), ⟨g2, 5, [Value.int .u8 77], 1⟩] ++ (H2 ++ H1)) (fun w h => h.perm List.perm_append_comm) ?_
        iterate 3 refine gx ?_
        refine TC.pr [0, 4, 5, 6, 7, 8] ?_
        iterate 5 refine gx ?_
        refine TL.gets (Wants.none rfl) rfl (Gets.sliceS rfl Try.underlying22 size5 rfl bnd.dflt (bnd.at_ (l := mb) rfl (by omega)) (by omega) (by omega) (cutA_zero _ _ _) (ln := mb) (cp := co) (by omega) (by omega)) ?_
        refine gx ?_
        refine TL.call (ι := Value × List Ent) (V := fun y => .tuple #[y.1, .bool true]) (R := fun y => Own w.heap.size 5 .u8 y.1 (Bb ++ encF Xl) y.2) (H' := fun y => [⟨go, 5, (Bb ++ [(77 : Int)]).map (Value.int .u8), co⟩, ⟨g2, 5, [Value.int .u8 77], 1⟩] ++ (H2 ++ H1) ++ y.2) (Wants.none rfl) rfl enters9 rfl rfl (fun w hs => (wapp_yes Bb Xl (some ⟨go, 0, none⟩) Af mb co ml cf w (src_pre (B := Bb) (C := [77]) ((hs.has (⟨go, 5, (Bb ++ [(77 : Int)]).map (Value.int .u8), co⟩) (by simp))) hsb.1) (hv1.srcF (fun e he => hs.has e (by simp [he]))) hNl (by omega) (by unfold maxLen at *; omega) (by omega) (by omega) (by omega) (by omega) c3).mono fun e w' ⟨v, He, he, ho, hw⟩ => ⟨(v, He), he, own_mono ho hs.size, st_call hs hw ho.new⟩) (fun y hR => ?_)
        obtain ⟨v4, H4⟩ := y
        dsimp only at hR ⊢
        obtain ⟨A4, c4, rfl, hc4, hc42⟩ := hR.form
        refine TL.heap (H' := [⟨go, 5, (Bb ++ [(77 : Int)]).map (Value.int .u8), co⟩, ⟨g2, 5, [Value.int .u8 77], 1⟩] ++ ((H2 ++ H1) ++ H4)) (fun w h => by rw [← List.append_assoc]; exact h) ?_
        have hFtH4 := Fresh.app hT hR.new
        iterate 7 refine gx ?_
        refine TC.pr [0, 4, 6, 7, 8, 9, 10] ?_
        iterate 7 refine gx ?_
        refine TC.pr [0, 4, 6, 8, 9, 10, 41] ?_
        refine TC.no rfl ?_
        iterate 4 refine gx ?_
        refine TL.call0 (Wants.none rfl) rfl enters7 rfl rfl (v := .bool true) (fun w hs => alive_c w) ?_
        iterate 5 refine gx ?_
        refine TL.emptySlice (Wants.yes rfl rfl rfl) rfl rfl Try.underlying22 size5 (fun g3 hg3 => ?_)
        refine gx ?_
        refine TL.heap (H' := ([(⟨go, 5, (Bb ++ [(77 : Int)]).map (Value.int .u8), co⟩ : Ent), (⟨g2, 5, [Value.int .u8 77], 1⟩ : Ent)] ++ ((H2 ++ H1) ++ H4)) ++ [(⟨g3, 5, ([] : List Int).map (Value.int .u8), 0⟩ : Ent)]) (fun w h => h.perm (List.perm_append_comm (l₁ := [(⟨g3, 5, ([] : List Int).map (Value.int .u8), 0⟩ : Ent)]) (l₂ := [(⟨go, 5, (Bb ++ [(77 : Int)]).map (Value.int .u8), co⟩ : Ent), (⟨g2, 5, [Value.int .u8 77], 1⟩ : Ent)] ++ ((H2 ++ H1) ++ H4)))) ?_
        refine TL.appendOwn (H := [(⟨go, 5, (Bb ++ [(77 : Int)]).map (Value.int .u8), co⟩ : Ent), (⟨g2, 5, [Value.int .u8 77], 1⟩ : Ent)] ++ ((H2 ++ H1) ++ H4)) (He := [(⟨g3, 5, ([] : List Int).map (Value.int .u8), 0⟩ : Ent)]) (Wants.yes rfl rfl rfl) rfl rfl Try.underlying22 mk5 rfl rfl rfl (W := []) (B := Bb) (.inr ⟨g3, 0, rfl, rfl, hg3, Nat.le_refl _, by unfold maxLen; omega⟩) (fun w hs => hsb.at_ hs (fun b hb => ne_app (ne_app (ne_cons (by show go ≠ b; omega) (ne_cons (by show g2 ≠ b; omega) ne_nil)) (hFtH4.ne hb)) (ne_cons (by show g3 ≠ b; omega) ne_nil))) (by simp only [List.length_nil]; omega) (by simp only [List.length_nil]; omega) (fun vo60 Ho60 ho60 hne60 => ?_)
        rw [List.nil_append] at ho60
        have hF60 : Fresh w (((H2 ++ H1) ++ H4) ++ Ho60) := Fresh.app hFtH4 ho60.new
        refine gx ?_
        refine TL.heap (H' := ([(⟨go, 5, (Bb ++ [(77 : Int)]).map (Value.int .u8), co⟩ : Ent), (⟨g2, 5, [Value.int .u8 77], 1⟩ : Ent)] ++ ((H2 ++ H1) ++ H4)) ++ Ho60) (fun w h => by rw [List.append_assoc]; exact h) ?_
        refine TL.appendOwn (H := [(⟨go, 5, (Bb ++ [(77 : Int)]).map (Value.int .u8), co⟩ : Ent), (⟨g2, 5, [Value.int .u8 77], 1⟩ : Ent)] ++ ((H2 ++ H1) ++ H4)) (He := Ho60) (Wants.yes rfl rfl rfl) rfl rfl Try.underlying22 mk5 rfl rfl rfl (W := Bb) (B := W) ho60 (fun w hs => hv2.srcOf (fun e he => hs.has e (by simp [he]))) (by have := hsb.1; omega) (by have := hsb.1; omega) (fun vo62 Ho62 ho62 hne62 => ?_)
        obtain ⟨A62, c62, rfl, hc62, hd62⟩ := ho62.form
        refine TL.heap (H' := [(⟨go, 5, (Bb ++ [(77 : Int)]).map (Value.int .u8), co⟩ : Ent), (⟨g2, 5, [Value.int .u8 77], 1⟩ : Ent)] ++ (((H2 ++ H1) ++ H4) ++ Ho62)) (fun w h => by rw [← List.append_assoc]; exact h) ?_
        have hF62 : Fresh w (((H2 ++ H1) ++ H4) ++ Ho62) := Fresh.app hFtH4 ho62.new
        refine TL.call0 (Wants.yes rfl rfl rfl) rfl enters10 rfl rfl (v := .bool true) (fun w hs => calls_yes (by rw [hW c3]) (sequal_c (Bb ++ encF Xl) (Bb ++ W) A4 A62 _ c4 _ c62 w (hR.srcOf (fun e he => hs.has e (by simp [he]))) (ho62.srcOf (fun e he => hs.has e (by simp [he]))) hc4 hc62 (by omega) (by omega))) ?_
        iterate 5 refine gx ?_
        refine TL.gets (Wants.yes rfl rfl rfl) rfl (Gets.idxSlice rfl Try.underlying22 size5 rfl rfl (i := mb) (by omega) (by omega) (off' := mb) (by omega)) ?_
        refine TL.gets (Wants.yes rfl rfl rfl) rfl (Gets.load1 rfl agg5 rfl (At.ent (i := 0) (ent := ⟨go, 5, (Bb ++ [(77 : Int)]).map (Value.int .u8), co⟩) (off := mb) rfl rfl (by have := ints_get (kd := .u8) (W := (Bb ++ [(77 : Int)])) (i := mb) (by rw [hl30]; omega); (first | exact this | (refine Eq.trans ?_ this; congr 1; omega))))) ?_
        refine TL.gets (Wants.yes rfl rfl rfl) rfl (Gets.isTrue (Gets.eql rfl rfl rfl) (getD_last hsb.1)) ?_
        iterate 5 refine gx ?_
        exact TE.ret1 rfl rfl (fun w hs => ⟨rfl, St.left (H := []) hs (Fresh.cons (by assumption) (Fresh.cons (by assumption) hF62))⟩)
      · refine TL.gets (Wants.none rfl) rfl (Gets.isFalse (Gets.assign rfl rfl) c3) ?_
        iterate 2 refine gx ?_
        refine TC.pr [0, 4, 5, 6, 7] ?_
        iterate 2 refine gx ?_
        refine TL.emptySlice (Wants.none rfl) rfl rfl Try.underlying22 size5 (fun g4 hg4 => ?_)
        refine gx ?_
        refine TL.heap (H' := ((H2 ++ H1)) ++ [(⟨g4, 5, ([] : List Int).map (Value.int .u8), 0⟩ : Ent)]) (fun w h => h.perm (List.perm_append_comm (l₁ := [(⟨g4, 5, ([] : List Int).map (Value.int .u8), 0⟩ : Ent)]) (l₂ := (H2 ++ H1)))) ?_
        refine TL.appendOwn (H := (H2 ++ H1)) (He := [(⟨g4, 5, ([] : List Int).map (Value.int .u8), 0⟩ : Ent)]) (Wants.none rfl) rfl rfl Try.underlying22 mk5 rfl rfl rfl (W := []) (B := Bb) (.inr ⟨g4, 0, rfl, rfl, hg4, Nat.le_refl _, by unfold maxLen; omega⟩) (fun w hs => hsb.at_ hs (fun b hb => ne_app (hT.ne hb) (ne_cons (by show g4 ≠ b; omega) ne_nil))) (by simp only [List.length_nil]; omega) (by simp only [List.length_nil]; omega) (fun vo28 Ho28 ho28 hne28 => ?_)
        rw [List.nil_append] at ho28
        have hF28 : Fresh w ((H2 ++ H1) ++ Ho28) := Fresh.app hT ho28.new
        refine TL.buildSlice (Wants.none rfl) rfl rfl Try.underlying22 size5 zero5 rfl (by decide) (by decide) (cells := #[.int .u8 77]) (tot := 1) (by kernel_rfl) (cs := [.int .u8 77]) rfl rfl (fun g5 hg5 => ?_)
        refine TL.heap (H' := ([(⟨g5, 5, [Value.int .u8 77], 1⟩ : Ent)] ++ (H2 ++ H1)) ++ Ho28) (fun w h => by rw [List.append_assoc]; exact h) ?_
        refine TL.appendOwn (H := [(⟨g5, 5, [Value.int .u8 77], 1⟩ : Ent)] ++ (H2 ++ H1)) (He := Ho28) (Wants.none rfl) rfl rfl Try.underlying22 mk5 rfl rfl rfl (W := Bb) (B := [77]) ho28 (fun w hs => src_ent (W := [77]) (hs.has ⟨g5, 5, [Value.int .u8 77], 1⟩ (by simp)) rfl) (by have := hsb.1; first | omega | (simp only [List.length_cons, List.length_nil]; omega)) (by have := hsb.1; first | omega | (simp only [List.length_cons, List.length_nil]; omega)) (fun vo30 Ho30 ho30 hne30 => ?_)
        have hl30 : (Bb ++ [(77 : Int)]).length = mb + 1 := by simp [hsb.1]
        obtain ⟨go, co, hvo, hHo, hgo, hco, hcoM⟩ := ho30.resolve_left (fun h => by have := congrArg List.length h.2.1; rw [hl30] at this; simp at this)
        rw [hl30] at hvo hco
        subst hvo; subst hHo
        refine TL.heap (H' := [(⟨go, 5, (Bb ++ [(77 : Int)]).map (Value.int .u8), co⟩ : Ent), ⟨g5, 5, [Value.int .u8 77], 1⟩] ++ (H2 ++ H1)) (fun w h => h.perm List.perm_append_comm) ?_
        iterate 3 refine gx ?_
        refine TC.pr [0, 4, 5, 6, 7, 8] ?_
        iterate 5 refine gx ?_
        refine TL.gets (Wants.none rfl) rfl (Gets.sliceS rfl Try.underlying22 size5 rfl bnd.dflt (bnd.at_ (l := mb) rfl (by omega)) (by omega) (by omega) (cutA_zero _ _ _) (ln := mb) (cp := co) (by omega) (by omega)) ?_
        refine gx ?_
        refine TL.call (ι := (Option Addr × Nat) × List Ent) (V := fun y => .tuple #[.slice y.1.1 0 y.1.2, .bool false]) (R := fun y => Fresh w y.2) (H' := fun y => [⟨go, 5, (Bb ++ [(77 : Int)]).map (Value.int .u8), co⟩, ⟨g5, 5, [Value.int .u8 77], 1⟩] ++ (H2 ++ H1) ++ y.2) (Wants.none rfl) rfl enters9 rfl rfl (fun w hs => (wapp_no Bb Xl (some ⟨go, 0, none⟩) Af mb co ml cf w (src_pre (B := Bb) (C := [77]) ((hs.has (⟨go, 5, (Bb ++ [(77 : Int)]).map (Value.int .u8), co⟩) (by simp))) hsb.1) (hv1.srcF (fun e he => hs.has e (by simp [he]))) hNl (by omega) (by unfold maxLen at *; omega) (by omega) (by omega) (by omega) (by omega) c3).mono fun e w' ⟨A', c', He, he, ho, hw⟩ => ⟨((A', c'), He), he, fun e he => Nat.le_trans hs.size (ho e he), st_call hs hw ho⟩) (fun y hR => ?_)
        obtain ⟨⟨A4, c4⟩, H4⟩ := y
        dsimp only at hR ⊢
        refine TL.heap (H' := [⟨go, 5, (Bb ++ [(77 : Int)]).map (Value.int .u8), co⟩, ⟨g5, 5, [Value.int .u8 77], 1⟩] ++ ((H2 ++ H1) ++ H4)) (fun w h => by rw [← List.append_assoc]; exact h) ?_
        have hFtH4 := Fresh.app hT hR
        iterate 7 refine gx ?_
        refine TC.pr [0, 4, 6, 7, 8, 9, 10] ?_
        iterate 7 refine gx ?_
        refine TC.pr [0, 4, 6, 8, 9, 10, 41] ?_
        refine TC.yes rfl ?_
        iterate 2 refine gx ?_
        refine TL.call0 (Wants.none rfl) rfl enters7 rfl rfl (v := .bool true) (fun w hs => alive_c w) ?_
        iterate 7 refine gx ?_
        refine TL.gets (Wants.yes rfl rfl rfl) rfl (Gets.isTrue (Gets.eql rfl rfl rfl) rfl) ?_
        iterate 6 refine gx ?_
        exact TE.ret1 rfl rfl (fun w hs => ⟨rfl, St.left (H := []) hs (Fresh.cons (by assumption) (Fresh.cons (by assumption) hFtH4))⟩)
end Go.Proofs.Ytdllgfkcakhoeaa
