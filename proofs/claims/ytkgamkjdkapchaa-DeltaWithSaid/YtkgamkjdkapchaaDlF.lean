/-
  alive; DeltaChecks: the walk.
-/
import Derived.Test.YtkgamkjdkapchaaDlCode
namespace Go.Proofs.Ytkgamkjdkapchaa
set_option linter.unusedVariables false
set_option linter.unusedSimpArgs false
open Go Go.RowKit
theorem agg30 : (isAgg 30).run Try.prog = fun w => .ok false w := isAgg_no Try.underlying30 rfl
theorem enters8 : Enters Try.prog 8 := ⟨_, Try.func8, by kernel_rfl, by kernel_rfl⟩
theorem enters9 : Enters Try.prog 9 := ⟨_, Try.func9, by kernel_rfl, by kernel_rfl⟩
theorem enters12 : Enters Try.prog 12 := ⟨_, Try.func12, by kernel_rfl, by kernel_rfl⟩
theorem enters24 : Enters Try.prog 24 := ⟨_, Try.func24, by kernel_rfl, by kernel_rfl⟩
theorem size30 : (Try.prog.info? 30).map (·.size) = some 1 := by kernel_rfl
theorem zero5 : (Try.prog.info? 5).bind (·.zero) = some (.int .u8 0) := by kernel_rfl
set_option maxRecDepth 100000 in
set_option maxHeartbeats 2000000 in
theorem alive_c (w : World) : Calls Try.prog 9 #[] w fun e w' => e = .returned (.bool true) ∧ St w [] w' := by
  refine calls_from (args := []) Try.func9 rfl Try.ntmps9 (by simp) ?_
  refine TC.sub (Sub.nil) ?_
  refine TC.seq ?_
  refine TC.regionL ?_
  refine TL.gets (Wants.none rfl) rfl (Gets.assign rfl rfl) ?_
  refine TL.nil ?_
  refine TE.then ?_
  refine TC.seq ?_
  refine TC.regionL ?_
  refine TL.gets (Wants.none rfl) rfl (Gets.build rfl (vs := [(0, Value.int .i64 1), (1, Value.int .i64 2), (3, Value.int .i64 4)]) rfl (fun w => by first | rfl | kernel_rfl) (v := .agg ([Value.int .i64 1, Value.int .i64 2, Value.int .i64 0, Value.int .i64 4, Value.slice none 0 0]).toArray)) ?_
  refine TL.alloc (Wants.none rfl) rfl rfl zero40 (cs := [Value.int .i64 0, Value.int .i64 0, Value.int .i64 0, Value.int .i64 0, Value.slice none 0 0]) rfl (tot := 5) (by simp) (fun g1 hg1 => ?_)
  refine TL.storeW (Wants.none rfl) rfl rfl size40 rfl (vs := [Value.int .i64 1, Value.int .i64 2, Value.int .i64 0, Value.int .i64 4, Value.slice none 0 0]) rfl (by simp []) (by simp [Value.oneCell']) (i := 0) (ent := ⟨g1, 40, [Value.int .i64 0, Value.int .i64 0, Value.int .i64 0, Value.int .i64 0, Value.slice none 0 0], 5⟩) rfl rfl (by simp []) (H' := [⟨g1, 40, [Value.int .i64 1, Value.int .i64 2, Value.int .i64 0, Value.int .i64 4, Value.slice none 0 0], 5⟩]) rfl ?_
  refine TL.nil ?_
  refine TE.then ?_
  refine TC.seq ?_
  refine TC.regionL ?_
  refine TL.buildSlice (Wants.none rfl) rfl rfl Try.underlying38 size5 zero5 rfl (by decide) (by decide) (cells := #[.int .u8 97, .int .u8 98]) (tot := 2) (by kernel_rfl) (cs := [.int .u8 97, .int .u8 98]) rfl rfl (fun g2 hg2 => ?_)
  refine TL.mark (Wants.none rfl) rfl rfl Try.underlying38 Try.underlying5 rfl (i := 0) (ent := ⟨g2, 5, [Value.int .u8 97, Value.int .u8 98], 2⟩) rfl rfl (W := [97, 98]) rfl (by omega) (fun w1 hw1 hrw hgw => ?_)
  have hsr : Src w1 (some ⟨g2, 0, none⟩) 2 .u8 [97, 98] := ⟨rfl, .inr ⟨g2, 0, rfl, hgw, hrw⟩⟩
  have hl1 := hw1.has ⟨g1, 40, [Value.int .i64 1, Value.int .i64 2, Value.int .i64 0, Value.int .i64 4, Value.slice none 0 0], 5⟩ (by simp)
  have hlt1 : g1 < w1.heap.size := hl1.lt
  refine TL.gets (Wants.none rfl) rfl (Gets.build rfl (vs := [(0, Value.int .i64 2), (4, Value.slice (some ⟨g2, 0, none⟩) 2 2)]) rfl (fun w => by first | rfl | kernel_rfl) (v := .agg ([Value.int .i64 2, Value.int .i64 0, Value.int .i64 0, Value.int .i64 0, Value.slice (some ⟨g2, 0, none⟩) 2 2]).toArray)) ?_
  refine TL.alloc (Wants.none rfl) rfl rfl zero40 (cs := [Value.int .i64 0, Value.int .i64 0, Value.int .i64 0, Value.int .i64 0, Value.slice none 0 0]) rfl (tot := 5) (by simp) (fun g3 hg3 => ?_)
  refine TL.storeW (Wants.none rfl) rfl rfl size40 rfl (vs := [Value.int .i64 2, Value.int .i64 0, Value.int .i64 0, Value.int .i64 0, Value.slice (some ⟨g2, 0, none⟩) 2 2]) rfl (by simp []) (by simp [Value.oneCell']) (i := 0) (ent := ⟨g3, 40, [Value.int .i64 0, Value.int .i64 0, Value.int .i64 0, Value.int .i64 0, Value.slice none 0 0], 5⟩) rfl rfl (by simp []) (H' := [⟨g3, 40, [Value.int .i64 2, Value.int .i64 0, Value.int .i64 0, Value.int .i64 0, Value.slice (some ⟨g2, 0, none⟩) 2 2], 5⟩]) rfl ?_
  refine TL.nil ?_
  refine TE.then ?_
  refine TC.seq ?_
  refine TC.regionL ?_
  refine TL.gets (Wants.none rfl) rfl (Gets.loadN rfl agg40 size40 rfl rfl ((Row.old (vs := [Value.int .i64 1, Value.int .i64 2, Value.int .i64 0, Value.int .i64 4, Value.slice none 0 0]) (fun jj u h => by rw [Nat.zero_add]; exact hl1.cell h) hlt1 (ne_cons (by show g3 ≠ g1; omega) ne_nil)))) ?_
  refine TL.gets (Wants.none rfl) rfl (Gets.loadN rfl agg40 size40 rfl (vs := [Value.int .i64 2, Value.int .i64 0, Value.int .i64 0, Value.int .i64 0, Value.slice (some ⟨g2, 0, none⟩) 2 2]) (by simp []) (Row.all (i := 0) (ent := ⟨g3, 40, [Value.int .i64 2, Value.int .i64 0, Value.int .i64 0, Value.int .i64 0, Value.slice (some ⟨g2, 0, none⟩) 2 2], 5⟩) rfl rfl rfl)) ?_
  refine TL.buildSlice (Wants.none rfl) rfl rfl Try.underlying23 size40 zero40 rfl (by decide) (by decide) (cells := #[.int .i64 1, .int .i64 2, .int .i64 0, .int .i64 4, .slice none 0 0, .int .i64 2, .int .i64 0, .int .i64 0, .int .i64 0, .slice (some ⟨g2, 0, none⟩) 2 2]) (tot := 10) (by kernel_rfl) (cs := [.int .i64 1, .int .i64 2, .int .i64 0, .int .i64 4, .slice none 0 0, .int .i64 2, .int .i64 0, .int .i64 0, .int .i64 0, .slice (some ⟨g2, 0, none⟩) 2 2]) rfl rfl (fun g4 hg4 => ?_)
  refine TL.gets (Wants.none rfl) rfl (Gets.congr (u := .agg #[.int .i64 4, .int .i64 6, .int .u8 0, .int .u8 0, .int .u8 0, .int .u8 0, .int .u8 0, .int .u8 0, .int .u8 0, .int .u8 0, .int .u8 0, .int .u8 0, .int .u8 0, .int .u8 0, .int .u8 0, .int .u8 0, .int .u8 0, .int .u8 0, .int .u8 0, .int .u8 0, .int .u8 0, .int .u8 0, .int .u8 0, .int .u8 0, .int .u8 0, .int .u8 0, .int .u8 0, .int .u8 0, .int .u8 0, .int .u8 0, .int .u8 0, .int .u8 0, .int .u8 0, .int .u8 0, .int .u8 0, .int .u8 0, .int .u8 0, .int .u8 0, .int .u8 0, .int .u8 0, .int .u8 0, .int .u8 0, .int .u8 0, .int .u8 0, .int .u8 0, .int .u8 0, .int .u8 0, .int .u8 0, .int .u8 0, .int .u8 0, .int .u8 0, .int .u8 0, .int .u8 0, .int .u8 0, .int .u8 0, .int .u8 0, .int .u8 0, .int .u8 0, .int .u8 0, .int .u8 0, .int .u8 0, .int .u8 0, .int .u8 0, .int .u8 0, .int .u8 0, .int .u8 0, .slice (some ⟨g4, 0, none⟩) 2 2]) (Gets.build rfl (vs := [(0, .int .i64 4), (1, .int .i64 6), (4, Value.slice (some ⟨g4, 0, none⟩) 2 2)]) rfl (fun w => by first | rfl | kernel_rfl)) rfl) ?_
  refine TL.alloc (Wants.none rfl) rfl rfl zero25 (cs := [Value.int .i64 0, Value.int .i64 0] ++ ((List.replicate 64 0).map (Value.int .u8) ++ ([Value.slice none 0 0]))) rfl (tot := 67) (by simp) (fun g5 hg5 => ?_)
  refine TL.storeW (Wants.none rfl) rfl rfl size25 rfl (vs := [Value.int .i64 4, Value.int .i64 6] ++ ((List.replicate 32 0).map (Value.int .u8) ++ ((List.replicate 32 0).map (Value.int .u8) ++ ([Value.slice (some ⟨g4, 0, none⟩) 2 2])))) rfl (by simp []) (ones_app (by simp [Value.oneCell']) (ones_app ints_one (ones_app ints_one (by simp [Value.oneCell'])))) (i := 0) (ent := ⟨g5, 25, [Value.int .i64 0, Value.int .i64 0] ++ ((List.replicate 64 0).map (Value.int .u8) ++ ([Value.slice none 0 0])), 67⟩) rfl rfl (by simp []) (H' := [⟨g5, 25, [Value.int .i64 4, Value.int .i64 6] ++ ((List.replicate 32 0).map (Value.int .u8) ++ ((List.replicate 32 0).map (Value.int .u8) ++ ([Value.slice (some ⟨g4, 0, none⟩) 2 2]))), 67⟩, ⟨g4, 40, [Value.int .i64 1, Value.int .i64 2, Value.int .i64 0, Value.int .i64 4, Value.slice none 0 0, Value.int .i64 2, Value.int .i64 0, Value.int .i64 0, Value.int .i64 0, Value.slice (some ⟨g2, 0, none⟩) 2 2], 10⟩, ⟨g3, 40, [Value.int .i64 2, Value.int .i64 0, Value.int .i64 0, Value.int .i64 0, Value.slice (some ⟨g2, 0, none⟩) 2 2], 5⟩]) rfl ?_
  refine TL.nil ?_
  refine TE.then ?_
  refine TC.sub (Sub.cons (i := 0) rfl (Sub.cons (i := 1) rfl (Sub.cons (i := 3) rfl (Sub.nil)))) ?_
  refine TC.seq ?_
  refine TC.regionL ?_
  refine TL.gets (Wants.none rfl) rfl (Gets.loadN rfl agg25 size25 rfl (vs := [Value.int .i64 4, Value.int .i64 6] ++ ((List.replicate 32 0).map (Value.int .u8) ++ ((List.replicate 32 0).map (Value.int .u8) ++ ([Value.slice (some ⟨g4, 0, none⟩) 2 2])))) (by simp []) (Row.all (i := 0) (ent := ⟨g5, 25, [Value.int .i64 4, Value.int .i64 6] ++ ((List.replicate 32 0).map (Value.int .u8) ++ ((List.replicate 32 0).map (Value.int .u8) ++ ([Value.slice (some ⟨g4, 0, none⟩) 2 2]))), 67⟩) rfl rfl rfl)) ?_
  refine TL.call0 (Wants.none rfl) rfl enters11 rfl rfl (v := .agg ([Value.int .i64 ((faultI 4 6 [exA, (exB (some ⟨g2, 0, none⟩))]).1), Value.int .i64 ((faultI 4 6 [exA, (exB (some ⟨g2, 0, none⟩))]).2)]).toArray) (fun w hs => dcheck_c 4 6 (List.replicate 32 0) (List.replicate 32 0) (by rfl) (by rfl) (some ⟨g4, 0, none⟩) 2 2 [exA, (exB (some ⟨g2, 0, none⟩))] (by decide) (ex_num g2) w (lies_srcC (hs.has (⟨g4, 40, [Value.int .i64 1, Value.int .i64 2, Value.int .i64 0, Value.int .i64 4, Value.slice none 0 0, Value.int .i64 2, Value.int .i64 0, Value.int .i64 0, Value.int .i64 0, Value.slice (some ⟨g2, 0, none⟩) 2 2], 10⟩) (by simp)) rfl rfl) (ex_dat (hsr.at_ hs (fun b hb => (ne_cons (by show g5 ≠ b; omega) (ne_cons (by show g4 ≠ b; omega) (ne_cons (by show g3 ≠ b; omega) ne_nil)))))) (ex_few g2) (by omega) (by omega)) ?_
  refine TL.gets (Wants.none rfl) rfl (Gets.build rfl (vs := []) rfl (fun w => by first | rfl | kernel_rfl) (v := .agg ([Value.int .i64 0, Value.int .i64 0]).toArray)) ?_
  refine TL.gets (Wants.none rfl) rfl (Gets.isTrue (Gets.pairEq rfl Try.underlying32 (by decide) (by decide) rfl rfl Try.underlying30 Try.underlying3 sih32 geq32 rfl rfl) (by rw [ex_ok]; exact ⟨rfl, rfl⟩)) ?_
  refine TL.gets (Wants.none rfl) rfl (Gets.move rfl rfl) ?_
  refine TL.gets (Wants.yes rfl rfl rfl) rfl (Gets.loadN rfl agg25 size25 rfl (vs := [Value.int .i64 4, Value.int .i64 6] ++ ((List.replicate 32 0).map (Value.int .u8) ++ ((List.replicate 32 0).map (Value.int .u8) ++ ([Value.slice (some ⟨g4, 0, none⟩) 2 2])))) (by simp []) (Row.all (i := 0) (ent := ⟨g5, 25, [Value.int .i64 4, Value.int .i64 6] ++ ((List.replicate 32 0).map (Value.int .u8) ++ ((List.replicate 32 0).map (Value.int .u8) ++ ([Value.slice (some ⟨g4, 0, none⟩) 2 2]))), 67⟩) rfl rfl rfl)) ?_
  refine TL.gets (Wants.yes rfl rfl rfl) rfl (Gets.loadN rfl agg40 size40 rfl rfl ((Row.old (vs := [Value.int .i64 1, Value.int .i64 2, Value.int .i64 0, Value.int .i64 4, Value.slice none 0 0]) (fun jj u h => by rw [Nat.zero_add]; exact hl1.cell h) hlt1 (ne_cons (by show g5 ≠ g1; omega) (ne_cons (by show g4 ≠ g1; omega) (ne_cons (by show g3 ≠ g1; omega) ne_nil)))))) ?_
  refine TL.buildSlice (Wants.yes rfl rfl rfl) rfl rfl Try.underlying23 size40 zero40 rfl (by decide) (by decide) (cells := #[.int .i64 1, .int .i64 2, .int .i64 0, .int .i64 4, .slice none 0 0]) (tot := 5) (by kernel_rfl) (cs := [.int .i64 1, .int .i64 2, .int .i64 0, .int .i64 4, .slice none 0 0]) rfl rfl (fun g6 hg6 => ?_)
  refine TL.call (ι := (Option Addr × Nat) × (List CV × List Ent)) (V := fun y => .agg ([Value.int .i64 4, Value.int .i64 6] ++ ((List.replicate 32 0).map (Value.int .u8) ++ ((List.replicate 32 0).map (Value.int .u8) ++ ([Value.slice y.1.1 1 y.1.2])))).toArray) (R := fun y => (1 ≤ y.1.2 ∧ y.1.2 ≤ 9223372036854775807) ∧ OwnD w1.heap.size y.1.1 1 y.2.1 y.2.2 ∧ sameE y.2.1 ([exA])) (H' := fun y => [⟨g6, 40, [Value.int .i64 1, Value.int .i64 2, Value.int .i64 0, Value.int .i64 4, Value.slice none 0 0], 5⟩, ⟨g5, 25, [Value.int .i64 4, Value.int .i64 6] ++ ((List.replicate 32 0).map (Value.int .u8) ++ ((List.replicate 32 0).map (Value.int .u8) ++ ([Value.slice (some ⟨g4, 0, none⟩) 2 2]))), 67⟩, ⟨g4, 40, [Value.int .i64 1, Value.int .i64 2, Value.int .i64 0, Value.int .i64 4, Value.slice none 0 0, Value.int .i64 2, Value.int .i64 0, Value.int .i64 0, Value.int .i64 0, Value.slice (some ⟨g2, 0, none⟩) 2 2], 10⟩, ⟨g3, 40, [Value.int .i64 2, Value.int .i64 0, Value.int .i64 0, Value.int .i64 0, Value.slice (some ⟨g2, 0, none⟩) 2 2], 5⟩] ++ y.2.2) (Wants.yes rfl rfl rfl) rfl enters21 rfl rfl (fun w hs => (dwith_c 4 6 (List.replicate 32 0) (List.replicate 32 0) (by rfl) (by rfl) (some ⟨g4, 0, none⟩) 2 2 (some ⟨g6, 0, none⟩) 1 1 ([exA]) (by decide) ex1_num w (lies_srcC (hs.has (⟨g6, 40, [Value.int .i64 1, Value.int .i64 2, Value.int .i64 0, Value.int .i64 4, Value.slice none 0 0], 5⟩) (by simp)) rfl rfl) ex1_dat ex1_few).mono fun e w' ⟨A', c', Fs, He, he, hc, ho, hsm, hw⟩ => ⟨((A', c'), (Fs, He)), he, ⟨hc, ho.mono hs.size, hsm⟩, st_call hs hw ho.1⟩) (fun y hR => ?_)
  obtain ⟨⟨Ax, cx⟩, Fx, Ex⟩ := y
  obtain ⟨hcx, hox, hsmx⟩ := hR
  dsimp only at hcx hox hsmx ⊢
  have hFx : Fresh w1 Ex := hox.1
  refine TL.call0 (Wants.yes rfl rfl rfl) rfl enters11 rfl rfl (v := .agg ([Value.int .i64 ((faultI 4 6 [exA]).1), Value.int .i64 ((faultI 4 6 [exA]).2)]).toArray) (fun w hs => (dcheck_c 4 6 (List.replicate 32 0) (List.replicate 32 0) (by rfl) (by rfl) Ax 1 cx Fx (by decide) hox.num w (hox.src (fun e he => hs.has e (by simp [he]))) (hox.dat (fun e he => hs.has e (by simp [he]))) (ex1_few.same hsmx) (by omega) (by omega)).mono fun e w' h => by rw [faultI_same hsmx] at h; exact h) ?_
  refine TL.gets (Wants.yes rfl rfl rfl) rfl (Gets.build rfl (vs := [(0, Value.int .i64 3)]) rfl (fun w => by first | rfl | kernel_rfl) (v := .agg ([Value.int .i64 3, Value.int .i64 0]).toArray)) ?_
  refine TL.gets (Wants.yes rfl rfl rfl) rfl (Gets.isTrue (Gets.pairEq rfl Try.underlying32 (by decide) (by decide) rfl rfl Try.underlying30 Try.underlying3 sih32 geq32 rfl rfl) (by rw [ex_gap]; exact ⟨rfl, rfl⟩)) ?_
  refine TL.gets (Wants.none rfl) rfl (Gets.pickT rfl rfl rfl) ?_
  refine TL.gets (Wants.none rfl) rfl (Gets.move rfl rfl) ?_
  refine TL.gets (Wants.yes rfl rfl rfl) rfl (Gets.loadN rfl agg25 size25 rfl (vs := [Value.int .i64 4, Value.int .i64 6] ++ ((List.replicate 32 0).map (Value.int .u8) ++ ((List.replicate 32 0).map (Value.int .u8) ++ ([Value.slice (some ⟨g4, 0, none⟩) 2 2])))) (by simp []) (Row.all (i := 1) (ent := ⟨g5, 25, [Value.int .i64 4, Value.int .i64 6] ++ ((List.replicate 32 0).map (Value.int .u8) ++ ((List.replicate 32 0).map (Value.int .u8) ++ ([Value.slice (some ⟨g4, 0, none⟩) 2 2]))), 67⟩) rfl rfl rfl)) ?_
  refine TL.call0 (Wants.yes rfl rfl rfl) rfl enters24 rfl rfl (v := .int .i64 (findI ([exA, (exB (some ⟨g2, 0, none⟩))]) 1)) (fun w hs => dfind_c 4 6 (List.replicate 32 0) (List.replicate 32 0) (by rfl) (by rfl) (some ⟨g4, 0, none⟩) 2 2 [exA, (exB (some ⟨g2, 0, none⟩))] (by decide) (ex_num g2) w (lies_srcC (hs.has (⟨g4, 40, [Value.int .i64 1, Value.int .i64 2, Value.int .i64 0, Value.int .i64 4, Value.slice none 0 0, Value.int .i64 2, Value.int .i64 0, Value.int .i64 0, Value.int .i64 0, Value.slice (some ⟨g2, 0, none⟩) 2 2], 10⟩) (by simp)) rfl rfl) (ex_dat (hsr.at_ hs (fun b hb => (ne_app (ne_cons (by show g6 ≠ b; omega) (ne_cons (by show g5 ≠ b; omega) (ne_cons (by show g4 ≠ b; omega) (ne_cons (by show g3 ≠ b; omega) ne_nil)))) (hFx.ne hb))))) (ex_few g2) (ex_validC _) 1) ?_
  refine TL.gets (Wants.yes rfl rfl rfl) rfl (Gets.isTrue (Gets.eql rfl rfl rfl) (ex_find _)) ?_
  refine TL.gets (Wants.none rfl) rfl (Gets.pickT rfl rfl rfl) ?_
  refine TL.gets (Wants.none rfl) rfl (Gets.move rfl rfl) ?_
  refine TL.gets (Wants.yes rfl rfl rfl) rfl (Gets.loadN rfl agg25 size25 rfl (vs := [Value.int .i64 4, Value.int .i64 6] ++ ((List.replicate 32 0).map (Value.int .u8) ++ ((List.replicate 32 0).map (Value.int .u8) ++ ([Value.slice (some ⟨g4, 0, none⟩) 2 2])))) (by simp []) (Row.all (i := 1) (ent := ⟨g5, 25, [Value.int .i64 4, Value.int .i64 6] ++ ((List.replicate 32 0).map (Value.int .u8) ++ ((List.replicate 32 0).map (Value.int .u8) ++ ([Value.slice (some ⟨g4, 0, none⟩) 2 2]))), 67⟩) rfl rfl rfl)) ?_
  refine TL.call0 (Wants.yes rfl rfl rfl) rfl enters12 rfl rfl (v := .bool true) (fun w hs => (dvalid_c 4 6 (List.replicate 32 0) (List.replicate 32 0) (by rfl) (by rfl) (some ⟨g4, 0, none⟩) 2 2 [exA, (exB (some ⟨g2, 0, none⟩))] (by decide) (ex_num g2) w (lies_srcC (hs.has (⟨g4, 40, [Value.int .i64 1, Value.int .i64 2, Value.int .i64 0, Value.int .i64 4, Value.slice none 0 0, Value.int .i64 2, Value.int .i64 0, Value.int .i64 0, Value.int .i64 0, Value.slice (some ⟨g2, 0, none⟩) 2 2], 10⟩) (by simp)) rfl rfl) (ex_dat (hsr.at_ hs (fun b hb => (ne_app (ne_cons (by show g6 ≠ b; omega) (ne_cons (by show g5 ≠ b; omega) (ne_cons (by show g4 ≠ b; omega) (ne_cons (by show g3 ≠ b; omega) ne_nil)))) (hFx.ne hb))))) (ex_few g2) (by omega) (by omega)).mono fun e w' h => by rw [decide_eq_true (p := (faultI 4 6 [exA, (exB (some ⟨g2, 0, none⟩))]).1 = 0) (by rw [ex_ok])] at h; exact h) ?_
  refine TL.gets (Wants.none rfl) rfl (Gets.pickT rfl rfl rfl) ?_
  refine TL.gets (Wants.none rfl) rfl (Gets.assign rfl rfl) ?_
  refine TL.nil ?_
  refine TE.then ?_
  refine TC.ret ?_
  exact TE.ret1 rfl rfl (fun w hs => ⟨rfl, by have h2 := St.left (H := [⟨g6, 40, [Value.int .i64 1, Value.int .i64 2, Value.int .i64 0, Value.int .i64 4, Value.slice none 0 0], 5⟩, ⟨g5, 25, [Value.int .i64 4, Value.int .i64 6] ++ ((List.replicate 32 0).map (Value.int .u8) ++ ((List.replicate 32 0).map (Value.int .u8) ++ ([Value.slice (some ⟨g4, 0, none⟩) 2 2]))), 67⟩, ⟨g4, 40, [Value.int .i64 1, Value.int .i64 2, Value.int .i64 0, Value.int .i64 4, Value.slice none 0 0, Value.int .i64 2, Value.int .i64 0, Value.int .i64 0, Value.int .i64 0, Value.slice (some ⟨g2, 0, none⟩) 2 2], 10⟩, ⟨g3, 40, [Value.int .i64 2, Value.int .i64 0, Value.int .i64 0, Value.int .i64 0, Value.slice (some ⟨g2, 0, none⟩) 2 2], 5⟩]) hs hFx; exact ((hw1.call' ((((h2.drop (by assumption)).drop (by assumption)).drop (by assumption)).drop (by assumption))).drop (by assumption))⟩)

set_option maxRecDepth 100000 in
set_option maxHeartbeats 2000000 in
theorem dchecks_no (o n : Int) (H1 H2 : List Int) (hH1 : H1.length = 32) (hH2 : H2.length = 32) (A : Option Addr) (m c : Nat) (Cs : List CV) (hml : m ≤ 9223372036854775807 ∧ ((-9223372036854775808 ≤ o ∧ o ≤ 9223372036854775807) ∧ (-9223372036854775808 ≤ n ∧ n ≤ 9223372036854775807))) (hN : NumsC Cs) (w : World) (hC : SrcC w A m Cs) (hD : DatC w Cs) (hf : ¬ fewP Cs) : Calls Try.prog 3 #[.agg ([Value.int .i64 o, Value.int .i64 n] ++ (H1.map (Value.int .u8) ++ (H2.map (Value.int .u8) ++ ([Value.slice A m c])))).toArray] w fun e w' => e = .returned (.bool true) ∧ St w [] w' := by
  refine calls_from (args := [.agg ([Value.int .i64 o, Value.int .i64 n] ++ (H1.map (Value.int .u8) ++ (H2.map (Value.int .u8) ++ ([Value.slice A m c])))).toArray]) Try.func3 rfl Try.ntmps3 (by simp) ?_
  refine TC.sub (Sub.cons (i := 0) rfl (Sub.nil)) ?_
  refine TC.seq ?_
  refine TC.regionL ?_
  refine TL.box (Wants.none rfl) rfl rfl rfl (cs := [Value.int .i64 o, Value.int .i64 n] ++ (H1.map (Value.int .u8) ++ (H2.map (Value.int .u8) ++ ([Value.slice A m c])))) (by simp [Value.cells]) (tot := 67) (by simp [hH1, hH2]) (fun g1 hg1 => ?_)
  refine TL.gets (Wants.none rfl) rfl (Gets.assign rfl rfl) ?_
  refine TL.nil ?_
  refine TE.then ?_
  refine TC.seq ?_
  refine TC.seq ?_
  refine TC.regionL ?_
  refine TL.gets (Wants.none rfl) rfl (Gets.loadN rfl agg25 size25 rfl (vs := [Value.int .i64 o, Value.int .i64 n] ++ (H1.map (Value.int .u8) ++ (H2.map (Value.int .u8) ++ ([Value.slice A m c])))) (by simp [hH1, hH2]) (Row.all (i := 0) (ent := ⟨g1, 25, [Value.int .i64 o, Value.int .i64 n] ++ (H1.map (Value.int .u8) ++ (H2.map (Value.int .u8) ++ ([Value.slice A m c]))), 67⟩) rfl rfl rfl)) ?_
  refine TL.call0 (Wants.none rfl) rfl enters8 rfl rfl (v := .bool false) (fun w hs => (few_c o n H1 H2 hH1 hH2 A m c Cs (by omega) hN w (hC.at_ hs (fun b hb => (ne_cons (by show g1 ≠ b; omega) ne_nil)))).mono fun e w' h => by rw [decide_eq_false (p := fewP Cs) hf] at h; exact h) ?_
  refine TL.gets (Wants.none rfl) rfl (Gets.not rfl rfl) ?_
  refine TL.nil ?_
  refine TE.then ?_
  refine TC.yes rfl ?_
  refine TC.seq ?_
  refine TC.regionL ?_
  refine TL.call0 (Wants.none rfl) rfl enters9 rfl rfl (v := .bool true) (fun w hs => alive_c w) ?_
  refine TL.gets (Wants.none rfl) rfl (Gets.assign rfl rfl) ?_
  refine TL.nil ?_
  refine TE.then ?_
  refine TC.ret ?_
  refine TE.thenR ?_
  exact TE.ret1 rfl rfl (fun w hs => ⟨rfl, (hs.drop (by assumption))⟩)

set_option maxRecDepth 100000 in
set_option maxHeartbeats 2000000 in
theorem dchecks_yes (o n : Int) (H1 H2 : List Int) (hH1 : H1.length = 32) (hH2 : H2.length = 32) (A : Option Addr) (m c : Nat) (Cs : List CV) (hml : m ≤ 9223372036854775807 ∧ ((-9223372036854775808 ≤ o ∧ o ≤ 9223372036854775807) ∧ (-9223372036854775808 ≤ n ∧ n ≤ 9223372036854775807))) (hN : NumsC Cs) (w : World) (hC : SrcC w A m Cs) (hD : DatC w Cs) (hf : fewP Cs) : Calls Try.prog 3 #[.agg ([Value.int .i64 o, Value.int .i64 n] ++ (H1.map (Value.int .u8) ++ (H2.map (Value.int .u8) ++ ([Value.slice A m c])))).toArray] w fun e w' => e = .returned (.bool true) ∧ St w [] w' := by
  have hmm : m ≤ 1000000000 := by have := hf.2; have := hC.1; omega
  refine calls_from (args := [.agg ([Value.int .i64 o, Value.int .i64 n] ++ (H1.map (Value.int .u8) ++ (H2.map (Value.int .u8) ++ ([Value.slice A m c])))).toArray]) Try.func3 rfl Try.ntmps3 (by simp) ?_
  refine TC.sub (Sub.cons (i := 0) rfl (Sub.nil)) ?_
  refine TC.seq ?_
  refine TC.regionL ?_
  refine TL.box (Wants.none rfl) rfl rfl rfl (cs := [Value.int .i64 o, Value.int .i64 n] ++ (H1.map (Value.int .u8) ++ (H2.map (Value.int .u8) ++ ([Value.slice A m c])))) (by simp [Value.cells]) (tot := 67) (by simp [hH1, hH2]) (fun g1 hg1 => ?_)
  refine TL.gets (Wants.none rfl) rfl (Gets.assign rfl rfl) ?_
  refine TL.nil ?_
  refine TE.then ?_
  refine TC.seq ?_
  refine TC.seq ?_
  refine TC.regionL ?_
  refine TL.gets (Wants.none rfl) rfl (Gets.loadN rfl agg25 size25 rfl (vs := [Value.int .i64 o, Value.int .i64 n] ++ (H1.map (Value.int .u8) ++ (H2.map (Value.int .u8) ++ ([Value.slice A m c])))) (by simp [hH1, hH2]) (Row.all (i := 0) (ent := ⟨g1, 25, [Value.int .i64 o, Value.int .i64 n] ++ (H1.map (Value.int .u8) ++ (H2.map (Value.int .u8) ++ ([Value.slice A m c]))), 67⟩) rfl rfl rfl)) ?_
  refine TL.call0 (Wants.none rfl) rfl enters8 rfl rfl (v := .bool true) (fun w hs => (few_c o n H1 H2 hH1 hH2 A m c Cs (by omega) hN w (hC.at_ hs (fun b hb => (ne_cons (by show g1 ≠ b; omega) ne_nil)))).mono fun e w' h => by rw [decide_eq_true (p := fewP Cs) hf] at h; exact h) ?_
  refine TL.gets (Wants.none rfl) rfl (Gets.not rfl rfl) ?_
  refine TL.nil ?_
  refine TE.then ?_
  refine TC.no rfl ?_
  refine TC.skip ?_
  refine TE.then ?_
  refine TC.seq ?_
  refine TC.regionL ?_
  refine TL.gets (Wants.none rfl) rfl (Gets.loadN rfl agg25 size25 rfl (vs := [Value.int .i64 o, Value.int .i64 n] ++ (H1.map (Value.int .u8) ++ (H2.map (Value.int .u8) ++ ([Value.slice A m c])))) (by simp [hH1, hH2]) (Row.all (i := 0) (ent := ⟨g1, 25, [Value.int .i64 o, Value.int .i64 n] ++ (H1.map (Value.int .u8) ++ (H2.map (Value.int .u8) ++ ([Value.slice A m c]))), 67⟩) rfl rfl rfl)) ?_
  refine TL.call0 (Wants.none rfl) rfl enters10 rfl rfl (v := .tuple #[.int .i64 ((faultI o n Cs).1), .int .i64 ((faultI o n Cs).2)]) (fun w hs => rdcheck_c o n H1 H2 hH1 hH2 A m c Cs hmm hN w (hC.at_ hs (fun b hb => (ne_cons (by show g1 ≠ b; omega) ne_nil)))) ?_
  refine TL.gets (Wants.none rfl) rfl (Gets.move rfl rfl) ?_
  refine TL.gets (Wants.none rfl) rfl (Gets.extract rfl rfl rfl) ?_
  refine TL.gets (Wants.none rfl) rfl (Gets.extract rfl rfl rfl) ?_
  refine TL.gets (Wants.none rfl) rfl (Gets.assign rfl rfl) ?_
  refine TL.gets (Wants.none rfl) rfl (Gets.assign rfl rfl) ?_
  refine TL.nil ?_
  refine TE.then ?_
  refine TC.sub (Sub.cons (i := 1) rfl (Sub.cons (i := 2) rfl (Sub.cons (i := 3) rfl (Sub.cons (i := 4) rfl (Sub.nil))))) ?_
  refine TC.seq ?_
  refine TC.regionL ?_
  refine TL.gets (Wants.none rfl) rfl (Gets.loadN rfl agg25 size25 rfl (vs := [Value.int .i64 o, Value.int .i64 n] ++ (H1.map (Value.int .u8) ++ (H2.map (Value.int .u8) ++ ([Value.slice A m c])))) (by simp [hH1, hH2]) (Row.all (i := 0) (ent := ⟨g1, 25, [Value.int .i64 o, Value.int .i64 n] ++ (H1.map (Value.int .u8) ++ (H2.map (Value.int .u8) ++ ([Value.slice A m c]))), 67⟩) rfl rfl rfl)) ?_
  refine TL.call0 (Wants.none rfl) rfl enters11 rfl rfl (v := .agg ([Value.int .i64 ((faultI o n Cs).1), Value.int .i64 ((faultI o n Cs).2)]).toArray) (fun w hs => dcheck_c o n H1 H2 hH1 hH2 A m c Cs hmm hN w (hC.at_ hs (fun b hb => (ne_cons (by show g1 ≠ b; omega) ne_nil))) (hD.at_ hs (fun b hb => (ne_cons (by show g1 ≠ b; omega) ne_nil))) hf.q (by omega) (by omega)) ?_
  refine TL.alloc (Wants.none rfl) rfl rfl zero32 (cs := [Value.int .i64 0, Value.int .i64 0]) rfl (tot := 2) (by simp) (fun g2 hg2 => ?_)
  refine TL.storeW (Wants.none rfl) rfl rfl size32 rfl (vs := [Value.int .i64 ((faultI o n Cs).1), Value.int .i64 ((faultI o n Cs).2)]) rfl (by simp []) (by simp [Value.oneCell']) (i := 0) (ent := ⟨g2, 32, [Value.int .i64 0, Value.int .i64 0], 2⟩) rfl rfl (by simp []) (H' := [⟨g2, 32, [Value.int .i64 ((faultI o n Cs).1), Value.int .i64 ((faultI o n Cs).2)], 2⟩, ⟨g1, 25, [Value.int .i64 o, Value.int .i64 n] ++ (H1.map (Value.int .u8) ++ (H2.map (Value.int .u8) ++ ([Value.slice A m c]))), 67⟩]) rfl ?_
  refine TL.nil ?_
  refine TE.then ?_
  refine TC.seq ?_
  refine TC.regionL ?_
  refine TL.call0 (Wants.none rfl) rfl enters9 rfl rfl (v := .bool true) (fun w hs => alive_c w) ?_
  refine TL.gets (Wants.none rfl) rfl (Gets.move rfl rfl) ?_
  refine TL.gets (Wants.yes rfl rfl rfl) rfl (Gets.fieldAddr rfl Try.underlying32 rfl size30 rfl (off' := 0) (by first | rfl | omega)) ?_
  refine TL.gets (Wants.yes rfl rfl rfl) rfl (Gets.load1 rfl agg30 rfl (At.ent (i := 0) (ent := ⟨g2, 32, [Value.int .i64 ((faultI o n Cs).1), Value.int .i64 ((faultI o n Cs).2)], 2⟩) (off := 0) rfl rfl (by exact rfl))) ?_
  refine TL.gets (Wants.yes rfl rfl rfl) rfl (Gets.move rfl rfl) ?_
  refine TL.gets (Wants.yes rfl rfl rfl) rfl (Gets.isTrue (Gets.eql rfl rfl rfl) rfl) ?_
  refine TL.gets (Wants.none rfl) rfl (Gets.pickT rfl rfl rfl) ?_
  refine TL.gets (Wants.none rfl) rfl (Gets.move rfl rfl) ?_
  refine TL.gets (Wants.yes rfl rfl rfl) rfl (Gets.fieldAddr rfl Try.underlying32 rfl size3 rfl (off' := 1) (by first | rfl | omega)) ?_
  refine TL.gets (Wants.yes rfl rfl rfl) rfl (Gets.load1 rfl agg3 rfl (At.ent (i := 0) (ent := ⟨g2, 32, [Value.int .i64 ((faultI o n Cs).1), Value.int .i64 ((faultI o n Cs).2)], 2⟩) (off := 1) rfl rfl (by exact rfl))) ?_
  refine TL.gets (Wants.yes rfl rfl rfl) rfl (Gets.move rfl rfl) ?_
  refine TL.gets (Wants.yes rfl rfl rfl) rfl (Gets.isTrue (Gets.eql rfl rfl rfl) rfl) ?_
  refine TL.gets (Wants.none rfl) rfl (Gets.pickT rfl rfl rfl) ?_
  refine TL.gets (Wants.none rfl) rfl (Gets.move rfl rfl) ?_
  refine TL.gets (Wants.yes rfl rfl rfl) rfl (Gets.loadN rfl agg25 size25 rfl (vs := [Value.int .i64 o, Value.int .i64 n] ++ (H1.map (Value.int .u8) ++ (H2.map (Value.int .u8) ++ ([Value.slice A m c])))) (by simp [hH1, hH2]) (Row.all (i := 1) (ent := ⟨g1, 25, [Value.int .i64 o, Value.int .i64 n] ++ (H1.map (Value.int .u8) ++ (H2.map (Value.int .u8) ++ ([Value.slice A m c]))), 67⟩) rfl rfl rfl)) ?_
  refine TL.call0 (Wants.yes rfl rfl rfl) rfl enters12 rfl rfl (v := .bool (decide ((faultI o n Cs).1 = 0))) (fun w hs => dvalid_c o n H1 H2 hH1 hH2 A m c Cs hmm hN w (hC.at_ hs (fun b hb => (ne_cons (by show g2 ≠ b; omega) (ne_cons (by show g1 ≠ b; omega) ne_nil)))) (hD.at_ hs (fun b hb => (ne_cons (by show g2 ≠ b; omega) (ne_cons (by show g1 ≠ b; omega) ne_nil)))) hf.q (by omega) (by omega)) ?_
  refine TL.gets (Wants.yes rfl rfl rfl) rfl (Gets.move rfl rfl) ?_
  refine TL.gets (Wants.yes rfl rfl rfl) rfl (Gets.eql rfl rfl rfl) ?_
  refine TL.gets (Wants.yes rfl rfl rfl) rfl (Gets.isTrue (Gets.boolEqP rfl Try.underlying4 rfl rfl) Iff.rfl) ?_
  refine TL.gets (Wants.none rfl) rfl (Gets.pickT rfl rfl rfl) ?_
  refine TL.gets (Wants.none rfl) rfl (Gets.assign rfl rfl) ?_
  refine TL.nil ?_
  refine TE.then ?_
  refine TC.ret ?_
  exact TE.ret1 rfl rfl (fun w hs => ⟨rfl, ((hs.drop (by assumption)).drop (by assumption))⟩)


theorem deltaChecks_walk (o n : Int) (H1 H2 : List Int) (hH1 : H1.length = 32) (hH2 : H2.length = 32) (A : Option Addr) (m c : Nat) (Cs : List CV) (w : World) (bo : -9223372036854775808 ≤ o ∧ o ≤ 9223372036854775807) (bn : -9223372036854775808 ≤ n ∧ n ≤ 9223372036854775807) (hmc : m ≤ c) (hcm : c ≤ 9223372036854775807) (hN : NumsC Cs) (hC : SrcC w A m Cs) (hD : DatC w Cs) (hA : A = none → m = 0) (hB1 : Bytes H1) (hB2 : Bytes H2) : Calls Try.prog 3 #[.agg ([Value.int .i64 o, Value.int .i64 n] ++ (H1.map (Value.int .u8) ++ (H2.map (Value.int .u8) ++ ([Value.slice A m c])))).toArray] w fun e w' => e = .returned (.bool true) ∧ St w [] w' := by
  by_cases hf : fewP Cs
  · exact dchecks_yes o n H1 H2 hH1 hH2 A m c Cs (by omega) hN w hC hD hf
  · exact dchecks_no o n H1 H2 hH1 hH2 A m c Cs (by omega) hN w hC hD hf
end Go.Proofs.Ytkgamkjdkapchaa
