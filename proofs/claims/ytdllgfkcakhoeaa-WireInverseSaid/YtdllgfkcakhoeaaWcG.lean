/-
  The law's example.
-/
import Derived.Test.YtdllgfkcakhoeaaWcF
import Derived.Test.YtdllgfkcakhoeaaAuto
namespace Go.Proofs.Ytdllgfkcakhoeaa
set_option linter.unusedVariables false
set_option linter.unusedSimpArgs false
open Go Go.RowKit
theorem enters10 : Enters Try.prog 10 := ⟨_, Try.func10, by kernel_rfl, by kernel_rfl⟩
theorem enters11 : Enters Try.prog 11 := ⟨_, Try.func11, by kernel_rfl, by kernel_rfl⟩
theorem enters13 : Enters Try.prog 13 := ⟨_, Try.func13, by kernel_rfl, by kernel_rfl⟩
theorem enters9 : Enters Try.prog 9 := ⟨_, Try.func9, by kernel_rfl, by kernel_rfl⟩
theorem geq41 : Try.prog.eqGuardType Try.prog.depth 41 = false := by kernel_rfl
theorem sih41 : Try.prog.stoodInHeld 41 = false := by kernel_rfl

theorem eq_succ {A B : List Int} {i : Nat} (h : ∀ j, j < i → A.getD j 0 = B.getD j 0) (h2 : A.getD i 0 = B.getD i 0) : ∀ j, j < i + 1 → A.getD j 0 = B.getD j 0 := fun j hj => by
  by_cases e : j = i
  · rw [e]; exact h2
  · exact h j (by omega)

set_option maxRecDepth 100000 in
set_option maxHeartbeats 400000 in
theorem sequal_c (PA PB : List Int) (A A2 : Option Addr) (m c m2 c2 : Nat) (w : World) (hsA : Src w A m .u8 PA) (hsB : Src w A2 m2 .u8 PB) (hmc : m ≤ c) (hmc2 : m2 ≤ c2) (hcm : c ≤ 9223372036854775807) (hcm2 : c2 ≤ 9223372036854775807) : Calls Try.prog 10 #[.slice A m c, .slice A2 m2 c2] w fun e w' => e = .returned (.bool (decide (PA = PB))) ∧ St w [] w' := by
  refine calls_from (args := [.slice A m c, .slice A2 m2 c2]) Try.func10 rfl Try.ntmps10 (by simp) ?_
  refine TC.pr [0, 1] ?_
  iterate 15 refine gx ?_
  refine TC.split rfl (fun hq0 => ?_) (fun hq0 => ?_)
  · iterate 7 refine gx ?_
    exact TE.ret1 rfl rfl (fun w hs => ⟨by rw [decide_eq_false (fun he => by have l1 := hsA.1; have l2 := hsB.1; have l3 := congrArg List.length he; have l4 := fun j => congrArg (fun z : List Int => z.getD j 0) he; first | omega | exact absurd (l4 i) hq2)], hs⟩)
  · iterate 10 refine gx ?_
    refine TC.pr [0, 1, 4, 12, 13] ?_
    refine gx ?_
    refine TC.loop (ι := Nat) (fun i => [(0, .slice A m c), (1, .slice A2 m2 c2), (12, .int .i64 (m : Int)), (13, .int .i64 (i : Int))]) (fun i => []) (fun i => m - i) (fun i => i ≤ m ∧ ∀ j, j < i → PA.getD j 0 = PB.getD j 0) 0 ⟨Nat.zero_le _, fun j hj => absurd hj (Nat.not_lt_zero j)⟩ (Sub.slice (i := 0) rfl rfl (by first | omega | (dsimp only; omega) | rfl) (by first | omega | (dsimp only; omega) | rfl) (Sub.slice (i := 1) rfl rfl (by first | omega | (dsimp only; omega) | rfl) (by first | omega | (dsimp only; omega) | rfl) (Sub.int (i := 12) rfl (by first | omega | rfl) (Sub.int (i := 13) rfl (by first | omega | rfl) (Sub.nil))))) (fun w h => h) (fun i hC0 => ?_)
    obtain ⟨hC0, hC1⟩ := hC0
    iterate 6 refine gx ?_
    refine TC.split rfl (fun hq1 => ?_) (fun hq1 => ?_)
    · obtain ⟨b, off, hA, hb, hr⟩ := hsA.2.resolve_left (by omega)
      obtain ⟨b2, off2, hA2, hb2, hr2⟩ := hsB.2.resolve_left (by omega)
      subst hA; subst hA2
      iterate 11 refine gx ?_
      refine TC.mix (by kernel_rfl) [0, 0, 0, 1, 0, 0, 0, 1, 0] rfl (by kernel_rfl) ?_
      iterate 2 refine gx ?_
      refine TM.free (Wants.none rfl) rfl (fun _ => Gets.idxSlice rfl Try.underlying22 size5 rfl rfl (i := i) (by omega) (by omega) (off' := (off + i)) (by omega)) ?_
      refine TM.gets (Wants.none rfl) rfl (Gets.load1 rfl agg5 rfl (At.rowI hr (i := i) (by omega) (by omega) hb ne_nil)) ?_
      iterate 2 refine gx ?_
      refine TM.free (Wants.none rfl) rfl (fun _ => Gets.idxSlice rfl Try.underlying22 size5 rfl rfl (i := i) (by omega) (by omega) (off' := (off2 + i)) (by omega)) ?_
      refine TM.gets (Wants.none rfl) rfl (Gets.load1 rfl agg5 rfl (At.rowI hr2 (i := i) (by omega) (by omega) hb2 ne_nil)) ?_
      iterate 3 refine gx ?_
      refine TC.pr [0, 1, 12, 13, 24] ?_
      refine TC.split rfl (fun hq2 => ?_) (fun hq2 => ?_)
      · iterate 11 refine gx ?_
        exact TE.ret1 rfl rfl (fun w hs => ⟨by rw [decide_eq_false (fun he => by have l1 := hsA.1; have l2 := hsB.1; have l3 := congrArg List.length he; have l4 := fun j => congrArg (fun z : List Int => z.getD j 0) he; first | omega | exact absurd (l4 i) hq2)], hs⟩)
      · iterate 4 refine gx ?_
        refine TL.gets (Wants.none rfl) rfl (Gets.add rfl rfl rfl (r := ((i : Int) + 1)) (w64 (by omega) (by omega))) ?_
        iterate 2 refine gx ?_
        exact TE.back (i + 1) (by omega) ⟨by omega, eq_succ hC1 (by omega)⟩ (Sub.slice (i := 0) rfl (by first | rfl | (congr 2; omega)) (by first | omega | (dsimp only; omega) | rfl) (by first | omega | (dsimp only; omega) | rfl) (Sub.slice (i := 1) rfl (by first | rfl | (congr 2; omega)) (by first | omega | (dsimp only; omega) | rfl) (by first | omega | (dsimp only; omega) | rfl) (Sub.int (i := 12) rfl (by first | omega | rfl) (Sub.int (i := 13) rfl (by first | omega | rfl) (Sub.nil))))) (fun w h => h)
    · iterate 11 refine gx ?_
      exact TE.ret1 rfl rfl (fun w hs => ⟨by rw [decide_eq_true (list_of_getD (by have := hsA.1; have := hsB.1; omega) (fun j hj => hC1 j (by have := hsA.1; omega)))], hs⟩)

theorem srcF_one {w : World} {g t : Nat} {x : FV} (hl : Ent.lies ⟨g, t, cellsF x, 2⟩ w) : SrcF w (some ⟨g, 0, none⟩) 1 [x] :=
  ⟨rfl, .inr ⟨g, 0, rfl, hl.lt, fun i y hy j u hu => by
    have hi : i = 0 := by have := (List.getElem?_eq_some_iff.1 hy).1; simp at this; omega
    subst hi
    simp at hy; subst hy
    rw [show 0 + 2 * 0 + j = j by omega]
    exact hl.cell hu⟩⟩
theorem enc_ex : [(9 : Int)] ++ encF [⟨258, 3⟩] = [9, 0, 1, 2] := by decide +kernel
theorem fit_ex : fitAll [⟨258, 3⟩] := fun f hf => by rw [List.mem_singleton.1 hf]; show fitV 258 3; decide +kernel
theorem nums_ex : NumsF [⟨258, 3⟩] := fun i f hf => by
  have := List.mem_of_getElem? hf
  rw [List.mem_singleton.1 this]; exact ⟨⟨by decide, by decide⟩, by decide, by decide⟩
theorem bytes_ex : Bytes [9, 0, 1, 2] := by intro x hx; simp only [List.mem_cons, List.not_mem_nil, or_false] at hx; omega

set_option maxRecDepth 100000 in
set_option maxHeartbeats 1000000 in
theorem alive_c (w : World) : Calls Try.prog 7 #[] w fun e w' => e = .returned (.bool true) ∧ St w [] w' := by
  refine calls_from (args := []) Try.func7 rfl Try.ntmps7 (by simp) ?_
  refine TC.pr [] ?_
  iterate 7 refine gx ?_
  refine TL.buildSlice (Wants.none rfl) rfl rfl Try.underlying22 size5 zero5 rfl (by decide) (by decide) (cells := #[.int .u8 9]) (tot := 1) (by kernel_rfl) (cs := [.int .u8 9]) rfl rfl (fun g1 hg1 => ?_)
  refine TL.gets (Wants.none rfl) rfl (Gets.build rfl (vs := [(0, Value.int .u64 258), (1, Value.int .i64 3)]) rfl (fun w => by first | rfl | kernel_rfl) (v := .agg ([Value.int .u64 258, Value.int .i64 3]).toArray)) ?_
  refine TL.buildSlice (Wants.none rfl) rfl rfl Try.underlying25 size36 zero36 rfl (by decide) (by decide) (cells := #[.int .u64 258, .int .i64 3]) (tot := 2) (by kernel_rfl) (cs := [.int .u64 258, .int .i64 3]) rfl rfl (fun g2 hg2 => ?_)
  refine TL.call (ι := Value × List Ent) (V := fun y => .tuple #[y.1, .bool true]) (R := fun y => Own w.heap.size 5 .u8 y.1 ([9] ++ encF [⟨258, 3⟩]) y.2) (H' := fun y => [⟨g2, 36, [Value.int .u64 258, Value.int .i64 3], 2⟩, ⟨g1, 5, [Value.int .u8 9], 1⟩] ++ y.2) (Wants.none rfl) rfl enters9 rfl rfl (fun w hs => (wapp_yes [9] [⟨258, 3⟩] (some ⟨g1, 0, none⟩) (some ⟨g2, 0, none⟩) 1 1 1 1 w (src_ent (W := [9]) (hs.has (⟨g1, 5, [Value.int .u8 9], 1⟩) (by simp)) rfl) (srcF_one (x := ⟨258, 3⟩) (hs.has (⟨g2, 36, [Value.int .u64 258, Value.int .i64 3], 2⟩) (by simp))) nums_ex (by omega) (by omega) (by omega) (by omega) (by omega) (by omega) fit_ex).mono fun e w' ⟨v, He, he, ho, hw⟩ => ⟨(v, He), he, own_mono ho hs.size, st_call hs hw ho.new⟩) (fun y hR => ?_)
  obtain ⟨v4, H4⟩ := y
  dsimp only at hR ⊢
  rw [enc_ex] at hR
  obtain ⟨A4, c4, rfl, hc4, hc42⟩ := hR.form
  have hc40 : 4 ≤ c4 := hc4
  iterate 7 refine gx ?_
  refine TC.pr [0, 1, 2] ?_
  iterate 3 refine gx ?_
  refine TL.call (ι := Nat × (Option Addr × Nat) × List Ent) (V := fun y => .pointer (some ⟨y.1, 0, none⟩)) (R := fun y => (Own w.heap.size 5 .u8 (.slice y.2.1.1 4 y.2.1.2) [9, 0, 1, 2] y.2.2) ∧ w.heap.size ≤ y.1) (H' := fun y => [⟨g2, 36, [Value.int .u64 258, Value.int .i64 3], 2⟩, ⟨g1, 5, [Value.int .u8 9], 1⟩] ++ H4 ++ (⟨y.1, 63, rdC y.2.1.1 4 y.2.1.2 0 0 0, rdN⟩ :: y.2.2)) (Wants.none rfl) rfl enters11 rfl rfl (fun w hs => (new_c [9, 0, 1, 2] A4 4 c4 w (hR.srcOf (fun e he => hs.has e (by simp [he]))) (by omega) (by omega)).mono fun e w' ⟨g, A', c', He, he, ho, hg, hw⟩ => ⟨(g, (A', c'), He), he, ⟨own_mono ho hs.size, Nat.le_trans hs.size hg⟩, st_call hs hw (Fresh.cons (w0 := w) hg ho.new)⟩) (fun y hR => ?_)
  obtain ⟨gr, ⟨Ad, cd⟩, Hd⟩ := y
  obtain ⟨hod, hgr⟩ := hR
  dsimp only at hod hgr ⊢
  have hFd : Fresh w Hd := hod.new
  obtain ⟨hcd, hcd2⟩ : 4 ≤ cd ∧ cd ≤ 9223372036854775807 := by obtain ⟨_, _, h1, h2, h3⟩ := hod.form; cases h1; exact ⟨by omega, h3⟩
  refine TL.heap (H' := ([(⟨gr, 63, [Value.slice Ad 4 cd, Value.int .i64 0, Value.int .i64 0, Value.int .i64 0], 4⟩ : Ent)] ++ ([⟨g2, 36, [Value.int .u64 258, Value.int .i64 3], 2⟩, ⟨g1, 5, [Value.int .u8 9], 1⟩] ++ H4)) ++ Hd) (fun w h => h.perm List.perm_middle) ?_
  refine TL.heap (H' := ([⟨gr, 63, [Value.slice Ad 4 cd, Value.int .i64 0, Value.int .i64 0, Value.int .i64 0], 4⟩, ⟨g2, 36, [Value.int .u64 258, Value.int .i64 3], 2⟩, ⟨g1, 5, [Value.int .u8 9], 1⟩] ++ H4) ++ Hd) (fun w h => h) ?_
  refine TL.heap (H' := [⟨gr, 63, [Value.slice Ad 4 cd, Value.int .i64 0, Value.int .i64 0, Value.int .i64 0], 4⟩, ⟨g2, 36, [Value.int .u64 258, Value.int .i64 3], 2⟩, ⟨g1, 5, [Value.int .u8 9], 1⟩] ++ (H4 ++ Hd)) (fun w h => by rw [← List.append_assoc]; exact h) ?_
  have hFtHd := Fresh.app hR.new hFd
  iterate 6 refine gx ?_
  refine TL.buildSlice (Wants.none rfl) rfl rfl Try.underlying22 size5 zero5 rfl (by decide) (by decide) (cells := #[.int .u8 9, .int .u8 0, .int .u8 1, .int .u8 2]) (tot := 4) (by kernel_rfl) (cs := [.int .u8 9, .int .u8 0, .int .u8 1, .int .u8 2]) rfl rfl (fun g3 hg3 => ?_)
  refine TL.call0 (Wants.none rfl) rfl enters10 rfl rfl (v := .bool true) (fun w hs => calls_yes rfl (sequal_c ([9, 0, 1, 2]) ([9, 0, 1, 2]) A4 (some ⟨g3, 0, none⟩) 4 c4 4 4 w (hR.srcOf (fun e he => hs.has e (by simp [he]))) (src_ent (W := [9, 0, 1, 2]) (hs.has (⟨g3, 5, [Value.int .u8 9, Value.int .u8 0, Value.int .u8 1, Value.int .u8 2], 4⟩) (by simp)) rfl) (by omega) (by omega) (by omega) (by omega))) ?_
  iterate 5 refine gx ?_
  refine TL.gets (Wants.yes rfl rfl rfl) rfl (Gets.ptrNe rfl Try.underlying32 rfl rfl) ?_
  iterate 3 refine gx ?_
  refine TL.call (ι := Unit) (V := fun _ => .int .u64 (valB (([9, 0, 1, 2].drop 0).take 1))) (R := fun _ => True) (H' := fun _ => [⟨g3, 5, [Value.int .u8 9, Value.int .u8 0, Value.int .u8 1, Value.int .u8 2], 4⟩, ⟨gr, 63, [Value.slice Ad 4 cd, Value.int .i64 1, Value.int .i64 0, Value.int .i64 0], 4⟩, ⟨g2, 36, [Value.int .u64 258, Value.int .i64 3], 2⟩, ⟨g1, 5, [Value.int .u8 9], 1⟩] ++ (H4 ++ Hd)) (Wants.yes rfl rfl rfl) rfl enters12 rfl rfl (fun w hs => (uint_ok gr Ad 4 cd 0 1 0 (by omega) (by omega) w (hs.has (⟨gr, 63, [Value.slice Ad 4 cd, Value.int .i64 0, Value.int .i64 0, Value.int .i64 0], 4⟩) (by simp)) (by omega) (by omega) (by omega) [9, 0, 1, 2] (hod.srcX (fun q9 hq9 => (show St _ (([⟨g3, 5, [Value.int .u8 9, Value.int .u8 0, Value.int .u8 1, Value.int .u8 2], 4⟩, ⟨gr, 63, [Value.slice Ad 4 cd, Value.int .i64 0, Value.int .i64 0, Value.int .i64 0], 4⟩, ⟨g2, 36, [Value.int .u64 258, Value.int .i64 3], 2⟩, ⟨g1, 5, [Value.int .u8 9], 1⟩] : List Ent) ++ ((H4 ++ Hd))) _ from hs).has q9 (List.mem_append_right _ (by simp [hq9]))) (fun q9 hq9 z9 hz9 => by rw [List.mem_singleton.1 hz9]; exact (show St _ (([⟨g3, 5, [Value.int .u8 9, Value.int .u8 0, Value.int .u8 1, Value.int .u8 2], 4⟩, ⟨gr, 63, [Value.slice Ad 4 cd, Value.int .i64 0, Value.int .i64 0, Value.int .i64 0], 4⟩, ⟨g2, 36, [Value.int .u64 258, Value.int .i64 3], 2⟩, ⟨g1, 5, [Value.int .u8 9], 1⟩] : List Ent) ++ ((H4 ++ Hd))) _ from hs).beside (d := ⟨gr, 63, [Value.slice Ad 4 cd, Value.int .i64 0, Value.int .i64 0, Value.int .i64 0], 4⟩) (by simp) q9 (by simp [hq9]))) bytes_ex).mono fun e w' ⟨he, hw⟩ => ⟨(), he, trivial, St.turn (i := 1) (e := ⟨gr, 63, [Value.slice Ad 4 cd, Value.int .i64 1, Value.int .i64 0, Value.int .i64 0], 4⟩) hs rfl rfl hw⟩) (fun _ _ => ?_)
  refine TL.gets (Wants.yes rfl rfl rfl) rfl (Gets.isTrue (Gets.eql rfl rfl rfl) (by decide)) ?_
  iterate 3 refine gx ?_
  refine TL.call (ι := Unit) (V := fun _ => .int .u64 (valB (([9, 0, 1, 2].drop 1).take 3))) (R := fun _ => True) (H' := fun _ => [⟨g3, 5, [Value.int .u8 9, Value.int .u8 0, Value.int .u8 1, Value.int .u8 2], 4⟩, ⟨gr, 63, [Value.slice Ad 4 cd, Value.int .i64 4, Value.int .i64 0, Value.int .i64 0], 4⟩, ⟨g2, 36, [Value.int .u64 258, Value.int .i64 3], 2⟩, ⟨g1, 5, [Value.int .u8 9], 1⟩] ++ (H4 ++ Hd)) (Wants.yes rfl rfl rfl) rfl enters12 rfl rfl (fun w hs => (uint_ok gr Ad 4 cd 1 3 0 (by omega) (by omega) w (hs.has (⟨gr, 63, [Value.slice Ad 4 cd, Value.int .i64 1, Value.int .i64 0, Value.int .i64 0], 4⟩) (by simp)) (by omega) (by omega) (by omega) [9, 0, 1, 2] (hod.srcX (fun q9 hq9 => (show St _ (([⟨g3, 5, [Value.int .u8 9, Value.int .u8 0, Value.int .u8 1, Value.int .u8 2], 4⟩, ⟨gr, 63, [Value.slice Ad 4 cd, Value.int .i64 1, Value.int .i64 0, Value.int .i64 0], 4⟩, ⟨g2, 36, [Value.int .u64 258, Value.int .i64 3], 2⟩, ⟨g1, 5, [Value.int .u8 9], 1⟩] : List Ent) ++ ((H4 ++ Hd))) _ from hs).has q9 (List.mem_append_right _ (by simp [hq9]))) (fun q9 hq9 z9 hz9 => by rw [List.mem_singleton.1 hz9]; exact (show St _ (([⟨g3, 5, [Value.int .u8 9, Value.int .u8 0, Value.int .u8 1, Value.int .u8 2], 4⟩, ⟨gr, 63, [Value.slice Ad 4 cd, Value.int .i64 1, Value.int .i64 0, Value.int .i64 0], 4⟩, ⟨g2, 36, [Value.int .u64 258, Value.int .i64 3], 2⟩, ⟨g1, 5, [Value.int .u8 9], 1⟩] : List Ent) ++ ((H4 ++ Hd))) _ from hs).beside (d := ⟨gr, 63, [Value.slice Ad 4 cd, Value.int .i64 1, Value.int .i64 0, Value.int .i64 0], 4⟩) (by simp) q9 (by simp [hq9]))) bytes_ex).mono fun e w' ⟨he, hw⟩ => ⟨(), he, trivial, St.turn (i := 1) (e := ⟨gr, 63, [Value.slice Ad 4 cd, Value.int .i64 4, Value.int .i64 0, Value.int .i64 0], 4⟩) hs rfl rfl hw⟩) (fun _ _ => ?_)
  refine TL.gets (Wants.yes rfl rfl rfl) rfl (Gets.isTrue (Gets.eql rfl rfl rfl) (by decide)) ?_
  iterate 3 refine gx ?_
  refine TL.call0 (Wants.yes rfl rfl rfl) rfl enters13 rfl rfl (v := .int .i64 ((4 : Int) - 4)) (fun w hs => rest_c gr Ad 4 cd 4 0 0 w (hs.has (⟨gr, 63, [Value.slice Ad 4 cd, Value.int .i64 4, Value.int .i64 0, Value.int .i64 0], 4⟩) (by simp)) (by omega) (by omega) (by omega)) ?_
  refine TL.gets (Wants.yes rfl rfl rfl) rfl (Gets.isTrue (Gets.eql rfl rfl rfl) (by omega)) ?_
  iterate 3 refine gx ?_
  refine TL.call0 (Wants.yes rfl rfl rfl) rfl enters15 rfl rfl (v := .agg ([Value.int .i64 0, Value.int .i64 0]).toArray) (fun w hs => fault_c gr Ad 4 cd 4 0 0 w (hs.has (⟨gr, 63, [Value.slice Ad 4 cd, Value.int .i64 4, Value.int .i64 0, Value.int .i64 0], 4⟩) (by simp))) ?_
  refine TL.gets (Wants.yes rfl rfl rfl) rfl (Gets.build rfl (vs := []) rfl (fun w => by first | rfl | kernel_rfl) (v := .agg ([Value.int .i64 0, Value.int .i64 0]).toArray)) ?_
  refine TL.gets (Wants.yes rfl rfl rfl) rfl (Gets.isTrue (Gets.pairEq rfl Try.underlying41 (by decide) (by decide) rfl rfl Try.underlying39 Try.underlying3 sih41 geq41 rfl rfl) ⟨rfl, rfl⟩) ?_
  iterate 5 refine gx ?_
  exact TE.ret1 rfl rfl (fun w hs => ⟨rfl, St.left (H := []) hs (Fresh.cons (by assumption) (Fresh.cons (by assumption) (Fresh.cons (by assumption) (Fresh.cons (by assumption) hFtHd))))⟩)
end Go.Proofs.Ytdllgfkcakhoeaa
