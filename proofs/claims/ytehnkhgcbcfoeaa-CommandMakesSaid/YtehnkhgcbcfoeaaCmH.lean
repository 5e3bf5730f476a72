/-
  The chapter's example.
-/
import Derived.Test.YtehnkhgcbcfoeaaCmG
namespace Go.Proofs.Ytehnkhgcbcfoeaa
set_option linter.unusedVariables false
set_option linter.unusedSimpArgs false
open Go Go.RowKit
theorem enters12 : Enters Try.prog 12 := ⟨_, Try.func12, by kernel_rfl, by kernel_rfl⟩
theorem enters22 : Enters Try.prog 22 := ⟨_, Try.func22, by kernel_rfl, by kernel_rfl⟩
theorem enters25 : Enters Try.prog 25 := ⟨_, Try.func25, by kernel_rfl, by kernel_rfl⟩
set_option maxRecDepth 100000 in
set_option maxHeartbeats 1000000 in
theorem alive_c (w : World) : Calls Try.prog 9 #[] w fun e w' => e = .returned (.bool true) ∧ St w [] w' := by
  refine calls_from (args := []) Try.func9 rfl Try.ntmps9 (by simp) ?_
  refine TC.sub (Sub.nil) ?_
  refine TC.seq ?_
  refine TC.regionL ?_
  refine TL.gets (Wants.none rfl) rfl (Gets.assign rfl rfl) ?_
  refine TL.nil ?_
  refine TE.then ?_
  refine TC.seq ?_
  refine TC.regionL ?_
  refine TL.call0 (Wants.none rfl) rfl enters10 rfl rfl (v := .agg ([Value.int .i64 1, Value.int .i64 10, Value.int .i64 3, Value.int .i64 5, Value.slice none 0 0]).toArray) (fun w hs => copy_c 10 3 5 w) ?_
  refine TL.gets (Wants.none rfl) rfl (Gets.build rfl (vs := [(0, Value.int .i64 12), (1, Value.int .i64 2)]) rfl (fun w => by first | rfl | kernel_rfl) (v := .agg ([Value.int .i64 12, Value.int .i64 2]).toArray)) ?_
  refine TL.call0 (Wants.none rfl) rfl enters22 rfl rfl (v := .tuple #[.agg ([Value.int .i64 1, Value.int .i64 12, Value.int .i64 5, Value.int .i64 2, Value.slice none 0 0]).toArray, .bool true]) (fun w hs => part1 10 3 5 none 0 0 12 2 (by unfold vld; omega) (by omega) rfl (by unfold vld; omega) (by unfold vld; omega) (by omega) (by unfold inside_; omega) w) ?_
  refine TL.gets (Wants.none rfl) rfl (Gets.move rfl rfl) ?_
  refine TL.gets (Wants.none rfl) rfl (Gets.extract rfl rfl rfl) ?_
  refine TL.gets (Wants.none rfl) rfl (Gets.extract rfl rfl rfl) ?_
  refine TL.alloc (Wants.none rfl) rfl rfl zero27 (cs := [Value.int .i64 0, Value.int .i64 0, Value.int .i64 0, Value.int .i64 0, Value.slice none 0 0]) rfl (tot := 5) (by simp) (fun g1 hg1 => ?_)
  refine TL.storeW (Wants.none rfl) rfl rfl size27 rfl (vs := [Value.int .i64 1, Value.int .i64 12, Value.int .i64 5, Value.int .i64 2, Value.slice none 0 0]) rfl (by simp []) (by simp [Value.oneCell']) (i := 0) (ent := ⟨g1, 27, [Value.int .i64 0, Value.int .i64 0, Value.int .i64 0, Value.int .i64 0, Value.slice none 0 0], 5⟩) rfl rfl (by simp []) (H' := [⟨g1, 27, [Value.int .i64 1, Value.int .i64 12, Value.int .i64 5, Value.int .i64 2, Value.slice none 0 0], 5⟩]) rfl ?_
  refine TL.gets (Wants.none rfl) rfl (Gets.assign rfl rfl) ?_
  refine TL.nil ?_
  refine TE.then ?_
  refine TC.sub (Sub.cons (i := 0) rfl (Sub.cons (i := 1) rfl (Sub.cons (i := 2) rfl (Sub.nil)))) ?_
  refine TC.seq ?_
  refine TC.mix (by kernel_rfl) [0, 0, 1, 0, 1, 0, 0, 1, 1, 0, 0, 0, 1, 1, 1, 0, 0] rfl (by kernel_rfl) ?_
  refine TM.free (Wants.none rfl) rfl (fun _ => Gets.move rfl rfl) ?_
  refine TM.free (Wants.none rfl) rfl (fun _ => Gets.move rfl rfl) ?_
  refine TM.gets (Wants.yes rfl rfl rfl) rfl (Gets.loadN rfl agg27 size27 rfl (vs := [Value.int .i64 1, Value.int .i64 12, Value.int .i64 5, Value.int .i64 2, Value.slice none 0 0]) (by simp []) (Row.all (i := 0) (ent := ⟨g1, 27, [Value.int .i64 1, Value.int .i64 12, Value.int .i64 5, Value.int .i64 2, Value.slice none 0 0], 5⟩) rfl rfl rfl)) ?_
  refine TM.free (Wants.yes rfl rfl rfl) rfl (fun _ => Gets.build rfl (vs := [(0, Value.int .i64 1), (1, Value.int .i64 12), (2, Value.int .i64 5), (3, Value.int .i64 2)]) rfl (fun w => by first | rfl | kernel_rfl) (v := .agg ([Value.int .i64 1, Value.int .i64 12, Value.int .i64 5, Value.int .i64 2, Value.slice none 0 0]).toArray)) ?_
  refine TM.call0 (Wants.yes rfl rfl rfl) rfl enters12 rfl rfl (v := .bool true) (fun w hs => (rsame_c 1 12 5 2 1 12 5 2 none none 0 0 0 0 ([] : List Int) ([] : List Int) bytes_no bytes_no w src_no src_no).mono fun e w' h => by rw [decide_eq_true (p := sameP 1 12 5 2 1 12 5 2 ([] : List Int) ([] : List Int)) (⟨rfl, rfl, rfl, rfl, rfl⟩)] at h; exact h) ?_
  refine TM.free (Wants.none rfl) rfl (fun _ => Gets.pickT rfl rfl rfl) ?_
  refine TM.free (Wants.none rfl) rfl (fun _ => Gets.move rfl rfl) ?_
  refine TM.gets (Wants.yes rfl rfl rfl) rfl (Gets.loadN rfl agg27 size27 rfl (vs := [Value.int .i64 1, Value.int .i64 12, Value.int .i64 5, Value.int .i64 2, Value.slice none 0 0]) (by simp []) (Row.all (i := 0) (ent := ⟨g1, 27, [Value.int .i64 1, Value.int .i64 12, Value.int .i64 5, Value.int .i64 2, Value.slice none 0 0], 5⟩) rfl rfl rfl)) ?_
  refine TM.call0 (Wants.yes rfl rfl rfl) rfl enters13 rfl rfl (v := .int .i64 0) (fun w hs => (check_c 1 12 5 2 none 0 0 (by omega) (by omega) (by omega) (by omega) w).mono fun e w' h => by rw [(codeV1.2 (by unfold vld; omega))] at h; exact h) ?_
  refine TM.free (Wants.yes rfl rfl rfl) rfl (fun _ => Gets.isTrue (Gets.eql rfl rfl rfl) rfl) ?_
  refine TM.free (Wants.none rfl) rfl (fun _ => Gets.pickT rfl rfl rfl) ?_
  refine TM.free (Wants.none rfl) rfl (fun _ => Gets.move rfl rfl) ?_
  refine TM.gets (Wants.yes rfl rfl rfl) rfl (Gets.loadN rfl agg27 size27 rfl (vs := [Value.int .i64 1, Value.int .i64 12, Value.int .i64 5, Value.int .i64 2, Value.slice none 0 0]) (by simp []) (Row.all (i := 0) (ent := ⟨g1, 27, [Value.int .i64 1, Value.int .i64 12, Value.int .i64 5, Value.int .i64 2, Value.slice none 0 0], 5⟩) rfl rfl rfl)) ?_
  refine TM.call0 (Wants.yes rfl rfl rfl) rfl enters10 rfl rfl (v := .agg ([Value.int .i64 1, Value.int .i64 12, Value.int .i64 5, Value.int .i64 2, Value.slice none 0 0]).toArray) (fun w hs => copy_c 12 5 2 w) ?_
  refine TM.call0 (Wants.yes rfl rfl rfl) rfl enters25 rfl rfl (v := .bool true) (fun w hs => (same_c 1 12 5 2 1 12 5 2 none none 0 0 0 0 ([] : List Int) ([] : List Int) bytes_no bytes_no w src_no src_no).mono fun e w' h => by rw [decide_eq_true (p := sameP 1 12 5 2 1 12 5 2 ([] : List Int) ([] : List Int)) (⟨rfl, rfl, rfl, rfl, rfl⟩)] at h; exact h) ?_
  refine TM.free (Wants.none rfl) rfl (fun _ => Gets.pickT rfl rfl rfl) ?_
  refine TM.free (Wants.none rfl) rfl (fun _ => Gets.assign rfl rfl) ?_
  refine TM.nil ?_
  refine TE.then ?_
  refine TC.ret ?_
  exact TE.ret1 rfl rfl (fun w hs => ⟨rfl, (hs.drop (by assumption))⟩)
end Go.Proofs.Ytehnkhgcbcfoeaa
