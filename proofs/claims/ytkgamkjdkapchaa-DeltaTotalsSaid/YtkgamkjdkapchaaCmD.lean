/-
  Contracts of the reference: Len, Target, Source, Check, Overlaps.
-/
import Derived.Test.YtkgamkjdkapchaaCmC
namespace Go.Proofs.Ytkgamkjdkapchaa
set_option linter.unusedVariables false
set_option linter.unusedSimpArgs false
open Go Go.RowKit
theorem enters20 : Enters Try.prog 20 := ⟨_, Try.func20, by kernel_rfl, by kernel_rfl⟩
theorem enters28 : Enters Try.prog 28 := ⟨_, Try.func28, by kernel_rfl, by kernel_rfl⟩
theorem enters60 : Enters Try.prog 60 := ⟨_, Try.func60, by kernel_rfl, by kernel_rfl⟩
theorem enters61 : Enters Try.prog 61 := ⟨_, Try.func61, by kernel_rfl, by kernel_rfl⟩
set_option maxRecDepth 100000 in
set_option maxHeartbeats 400000 in
theorem rlen1 (t f l : Int) (A : Option Addr) (m c : Nat) (w : World) : Calls Try.prog 20 #[.agg ([Value.int .i64 1, Value.int .i64 t, Value.int .i64 f, Value.int .i64 l, Value.slice A m c]).toArray] w fun e w' => e = .returned (.int .i64 l) ∧ St w [] w' := by
  refine calls_from (args := [.agg ([Value.int .i64 1, Value.int .i64 t, Value.int .i64 f, Value.int .i64 l, Value.slice A m c]).toArray]) Try.func20 rfl Try.ntmps20 (by simp) ?_
  refine TC.sub (Sub.cons (i := 0) rfl (Sub.nil)) ?_
  refine TC.seq ?_
  refine TC.regionL ?_
  refine TL.box (Wants.none rfl) rfl rfl rfl (cs := [Value.int .i64 1, Value.int .i64 t, Value.int .i64 f, Value.int .i64 l, Value.slice A m c]) (by simp [Value.cells]) (tot := 5) (by simp []) (fun g1 hg1 => ?_)
  refine TL.gets (Wants.none rfl) rfl (Gets.assign rfl rfl) ?_
  refine TL.nil ?_
  refine TE.then ?_
  refine TC.seq ?_
  refine TC.seq ?_
  refine TC.regionL ?_
  refine TL.gets (Wants.none rfl) rfl (Gets.fieldAddr rfl Try.underlying40 rfl size3 rfl (off' := 0) (by first | rfl | omega)) ?_
  refine TL.gets (Wants.none rfl) rfl (Gets.load1 rfl agg3 rfl (At.ent (i := 0) (ent := ⟨g1, 40, [Value.int .i64 1, Value.int .i64 t, Value.int .i64 f, Value.int .i64 l, Value.slice A m c], 5⟩) (off := 0) rfl rfl (by exact rfl))) ?_
  refine TL.gets (Wants.none rfl) rfl (Gets.isTrue (Gets.eql rfl rfl rfl) rfl) ?_
  refine TL.nil ?_
  refine TE.then ?_
  refine TC.yes rfl ?_
  refine TC.seq ?_
  refine TC.regionL ?_
  refine TL.gets (Wants.none rfl) rfl (Gets.fieldAddr rfl Try.underlying40 rfl size3 rfl (off' := 3) (by first | rfl | omega)) ?_
  refine TL.gets (Wants.none rfl) rfl (Gets.load1 rfl agg3 rfl (At.ent (i := 0) (ent := ⟨g1, 40, [Value.int .i64 1, Value.int .i64 t, Value.int .i64 f, Value.int .i64 l, Value.slice A m c], 5⟩) (off := 3) rfl rfl (by exact rfl))) ?_
  refine TL.gets (Wants.none rfl) rfl (Gets.assign rfl rfl) ?_
  refine TL.nil ?_
  refine TE.then ?_
  refine TC.ret ?_
  refine TE.thenR ?_
  exact TE.ret1 rfl rfl (fun w hs => ⟨ret_i (rfl), (hs.drop (by assumption))⟩)

set_option maxRecDepth 100000 in
set_option maxHeartbeats 400000 in
theorem rlen2 (k t f l : Int) (A : Option Addr) (m c : Nat) (h1 : ¬ k = 1) (w : World) : Calls Try.prog 20 #[.agg ([Value.int .i64 k, Value.int .i64 t, Value.int .i64 f, Value.int .i64 l, Value.slice A m c]).toArray] w fun e w' => e = .returned (.int .i64 (m : Int)) ∧ St w [] w' := by
  refine calls_from (args := [.agg ([Value.int .i64 k, Value.int .i64 t, Value.int .i64 f, Value.int .i64 l, Value.slice A m c]).toArray]) Try.func20 rfl Try.ntmps20 (by simp) ?_
  refine TC.sub (Sub.cons (i := 0) rfl (Sub.nil)) ?_
  refine TC.seq ?_
  refine TC.regionL ?_
  refine TL.box (Wants.none rfl) rfl rfl rfl (cs := [Value.int .i64 k, Value.int .i64 t, Value.int .i64 f, Value.int .i64 l, Value.slice A m c]) (by simp [Value.cells]) (tot := 5) (by simp []) (fun g1 hg1 => ?_)
  refine TL.gets (Wants.none rfl) rfl (Gets.assign rfl rfl) ?_
  refine TL.nil ?_
  refine TE.then ?_
  refine TC.seq ?_
  refine TC.seq ?_
  refine TC.regionL ?_
  refine TL.gets (Wants.none rfl) rfl (Gets.fieldAddr rfl Try.underlying40 rfl size3 rfl (off' := 0) (by first | rfl | omega)) ?_
  refine TL.gets (Wants.none rfl) rfl (Gets.load1 rfl agg3 rfl (At.ent (i := 0) (ent := ⟨g1, 40, [Value.int .i64 k, Value.int .i64 t, Value.int .i64 f, Value.int .i64 l, Value.slice A m c], 5⟩) (off := 0) rfl rfl (by exact rfl))) ?_
  refine TL.gets (Wants.none rfl) rfl (Gets.isFalse (Gets.eql rfl rfl rfl) h1) ?_
  refine TL.nil ?_
  refine TE.then ?_
  refine TC.no rfl ?_
  refine TC.skip ?_
  refine TE.then ?_
  refine TC.seq ?_
  refine TC.regionL ?_
  refine TL.gets (Wants.none rfl) rfl (Gets.fieldAddr rfl Try.underlying40 rfl size38 rfl (off' := 4) (by first | rfl | omega)) ?_
  refine TL.gets (Wants.none rfl) rfl (Gets.load1 rfl agg38 rfl (At.ent (i := 0) (ent := ⟨g1, 40, [Value.int .i64 k, Value.int .i64 t, Value.int .i64 f, Value.int .i64 l, Value.slice A m c], 5⟩) (off := 4) rfl rfl (by exact rfl))) ?_
  refine TL.gets (Wants.none rfl) rfl (Gets.lenSlice rfl Try.underlying38 rfl) ?_
  refine TL.gets (Wants.none rfl) rfl (Gets.assign rfl rfl) ?_
  refine TL.nil ?_
  refine TE.then ?_
  refine TC.ret ?_
  exact TE.ret1 rfl rfl (fun w hs => ⟨ret_i (rfl), (hs.drop (by assumption))⟩)

set_option maxRecDepth 100000 in
set_option maxHeartbeats 400000 in
theorem rtarget1 (t f l : Int) (A : Option Addr) (m c : Nat) (w : World) : Calls Try.prog 28 #[.agg ([Value.int .i64 1, Value.int .i64 t, Value.int .i64 f, Value.int .i64 l, Value.slice A m c]).toArray] w fun e w' => e = .returned (.agg ([Value.int .i64 t, Value.int .i64 l]).toArray) ∧ St w [] w' := by
  refine calls_from (args := [.agg ([Value.int .i64 1, Value.int .i64 t, Value.int .i64 f, Value.int .i64 l, Value.slice A m c]).toArray]) Try.func28 rfl Try.ntmps28 (by simp) ?_
  refine TC.sub (Sub.cons (i := 0) rfl (Sub.nil)) ?_
  refine TC.seq ?_
  refine TC.regionL ?_
  refine TL.box (Wants.none rfl) rfl rfl rfl (cs := [Value.int .i64 1, Value.int .i64 t, Value.int .i64 f, Value.int .i64 l, Value.slice A m c]) (by simp [Value.cells]) (tot := 5) (by simp []) (fun g1 hg1 => ?_)
  refine TL.alloc (Wants.none rfl) rfl rfl zero49 (cs := [Value.int .i64 0, Value.int .i64 0]) rfl (tot := 2) (by simp) (fun g2 hg2 => ?_)
  refine TL.nil ?_
  refine TE.then ?_
  refine TC.seq ?_
  refine TC.mixS [⟨g1, 40, [Value.int .i64 1, Value.int .i64 t, Value.int .i64 f, Value.int .i64 l, Value.slice A m c], 5⟩] [⟨g2, 49, [Value.int .i64 0, Value.int .i64 0], 2⟩] (by kernel_rfl) [0, 1, 1, 1, 0, 4] [0, 1, 2, 3, 4, 5] [fun _ _ => True, fun _ _ => True, fun _ _ => True, fun _ _ => True, fun _ _ => True, fun _ _ => True] (by kernel_rfl) (by kernel_rfl) (perm_pick (p := [1, 0]) (by kernel_rfl) rfl) (Fresh.cons (by assumption) Fresh.nil) ?_
  refine TR.free (Wants.none rfl) rfl (fun _ => Gets.fieldAddr rfl Try.underlying40 rfl size3 rfl (off' := 1) (by first | rfl | omega)) ?_
  refine TR.gets (Wants.none rfl) rfl (fun Z hZ => Gets.load1 rfl agg3 rfl (At.ent (i := 0) (ent := ⟨g1, 40, [Value.int .i64 1, Value.int .i64 t, Value.int .i64 f, Value.int .i64 l, Value.slice A m c], 5⟩) (off := 1) rfl rfl (by exact rfl))) ?_
  refine TR.gets (Wants.none rfl) rfl (fun Z hZ => Gets.loadN rfl agg40 size40 rfl (vs := [Value.int .i64 1, Value.int .i64 t, Value.int .i64 f, Value.int .i64 l, Value.slice A m c]) (by simp []) (Row.all (i := 0) (ent := ⟨g1, 40, [Value.int .i64 1, Value.int .i64 t, Value.int .i64 f, Value.int .i64 l, Value.slice A m c], 5⟩) rfl rfl rfl)) ?_
  refine TR.call0 (Wants.none rfl) rfl enters20 rfl rfl (v := .int .i64 l) (fun Z w hZ hs => rlen1 t f l A m c w) ?_
  refine TR.free (Wants.none rfl) rfl (fun _ => Gets.build rfl (vs := [(0, Value.int .i64 t), (1, Value.int .i64 l)]) rfl (fun w => by first | rfl | kernel_rfl) (v := .agg ([Value.int .i64 t, Value.int .i64 l]).toArray)) ?_
  refine TR.storeW (Wants.none rfl) rfl rfl size49 rfl (vs := [Value.int .i64 t, Value.int .i64 l]) rfl rfl (by simp [Value.oneCell']) (i := 0) (ent := ⟨g2, 49, [Value.int .i64 0, Value.int .i64 0], 2⟩) rfl rfl rfl (D' := [⟨g2, 49, [Value.int .i64 t, Value.int .i64 l], 2⟩]) rfl (Fresh.cons (by assumption) Fresh.nil) ?_
  refine TR.nil ?_
  refine TE.then ?_
  refine TC.ret ?_
  exact TE.retC rfl agg49 size49 rfl (vs := [Value.int .i64 t, Value.int .i64 l]) rfl (Row.all (i := 1) (ent := ⟨g2, 49, [Value.int .i64 t, Value.int .i64 l], 2⟩) rfl rfl rfl) (fun w hs => ⟨rfl, ((hs.drop (by assumption)).drop (by assumption))⟩)

set_option maxRecDepth 100000 in
set_option maxHeartbeats 400000 in
theorem rtarget2 (k t f l : Int) (A : Option Addr) (m c : Nat) (h1 : ¬ k = 1) (w : World) : Calls Try.prog 28 #[.agg ([Value.int .i64 k, Value.int .i64 t, Value.int .i64 f, Value.int .i64 l, Value.slice A m c]).toArray] w fun e w' => e = .returned (.agg ([Value.int .i64 t, Value.int .i64 (m : Int)]).toArray) ∧ St w [] w' := by
  refine calls_from (args := [.agg ([Value.int .i64 k, Value.int .i64 t, Value.int .i64 f, Value.int .i64 l, Value.slice A m c]).toArray]) Try.func28 rfl Try.ntmps28 (by simp) ?_
  refine TC.sub (Sub.cons (i := 0) rfl (Sub.nil)) ?_
  refine TC.seq ?_
  refine TC.regionL ?_
  refine TL.box (Wants.none rfl) rfl rfl rfl (cs := [Value.int .i64 k, Value.int .i64 t, Value.int .i64 f, Value.int .i64 l, Value.slice A m c]) (by simp [Value.cells]) (tot := 5) (by simp []) (fun g1 hg1 => ?_)
  refine TL.alloc (Wants.none rfl) rfl rfl zero49 (cs := [Value.int .i64 0, Value.int .i64 0]) rfl (tot := 2) (by simp) (fun g2 hg2 => ?_)
  refine TL.nil ?_
  refine TE.then ?_
  refine TC.seq ?_
  refine TC.mixS [⟨g1, 40, [Value.int .i64 k, Value.int .i64 t, Value.int .i64 f, Value.int .i64 l, Value.slice A m c], 5⟩] [⟨g2, 49, [Value.int .i64 0, Value.int .i64 0], 2⟩] (by kernel_rfl) [0, 1, 1, 1, 0, 4] [0, 1, 2, 3, 4, 5] [fun _ _ => True, fun _ _ => True, fun _ _ => True, fun _ _ => True, fun _ _ => True, fun _ _ => True] (by kernel_rfl) (by kernel_rfl) (perm_pick (p := [1, 0]) (by kernel_rfl) rfl) (Fresh.cons (by assumption) Fresh.nil) ?_
  refine TR.free (Wants.none rfl) rfl (fun _ => Gets.fieldAddr rfl Try.underlying40 rfl size3 rfl (off' := 1) (by first | rfl | omega)) ?_
  refine TR.gets (Wants.none rfl) rfl (fun Z hZ => Gets.load1 rfl agg3 rfl (At.ent (i := 0) (ent := ⟨g1, 40, [Value.int .i64 k, Value.int .i64 t, Value.int .i64 f, Value.int .i64 l, Value.slice A m c], 5⟩) (off := 1) rfl rfl (by exact rfl))) ?_
  refine TR.gets (Wants.none rfl) rfl (fun Z hZ => Gets.loadN rfl agg40 size40 rfl (vs := [Value.int .i64 k, Value.int .i64 t, Value.int .i64 f, Value.int .i64 l, Value.slice A m c]) (by simp []) (Row.all (i := 0) (ent := ⟨g1, 40, [Value.int .i64 k, Value.int .i64 t, Value.int .i64 f, Value.int .i64 l, Value.slice A m c], 5⟩) rfl rfl rfl)) ?_
  refine TR.call0 (Wants.none rfl) rfl enters20 rfl rfl (v := .int .i64 (m : Int)) (fun Z w hZ hs => rlen2 k t f l A m c (by omega) w) ?_
  refine TR.free (Wants.none rfl) rfl (fun _ => Gets.build rfl (vs := [(0, Value.int .i64 t), (1, Value.int .i64 (m : Int))]) rfl (fun w => by first | rfl | kernel_rfl) (v := .agg ([Value.int .i64 t, Value.int .i64 (m : Int)]).toArray)) ?_
  refine TR.storeW (Wants.none rfl) rfl rfl size49 rfl (vs := [Value.int .i64 t, Value.int .i64 (m : Int)]) rfl rfl (by simp [Value.oneCell']) (i := 0) (ent := ⟨g2, 49, [Value.int .i64 0, Value.int .i64 0], 2⟩) rfl rfl rfl (D' := [⟨g2, 49, [Value.int .i64 t, Value.int .i64 (m : Int)], 2⟩]) rfl (Fresh.cons (by assumption) Fresh.nil) ?_
  refine TR.nil ?_
  refine TE.then ?_
  refine TC.ret ?_
  exact TE.retC rfl agg49 size49 rfl (vs := [Value.int .i64 t, Value.int .i64 (m : Int)]) rfl (Row.all (i := 1) (ent := ⟨g2, 49, [Value.int .i64 t, Value.int .i64 (m : Int)], 2⟩) rfl rfl rfl) (fun w hs => ⟨rfl, ((hs.drop (by assumption)).drop (by assumption))⟩)

set_option maxRecDepth 100000 in
set_option maxHeartbeats 400000 in
theorem rsource_c (k t f l : Int) (A : Option Addr) (m c : Nat) (w : World) : Calls Try.prog 61 #[.agg ([Value.int .i64 k, Value.int .i64 t, Value.int .i64 f, Value.int .i64 l, Value.slice A m c]).toArray] w fun e w' => e = .returned (.agg ([Value.int .i64 f, Value.int .i64 l]).toArray) ∧ St w [] w' := by
  refine calls_from (args := [.agg ([Value.int .i64 k, Value.int .i64 t, Value.int .i64 f, Value.int .i64 l, Value.slice A m c]).toArray]) Try.func61 rfl Try.ntmps61 (by simp) ?_
  refine TC.sub (Sub.cons (i := 0) rfl (Sub.nil)) ?_
  refine TC.seq ?_
  refine TC.regionL ?_
  refine TL.box (Wants.none rfl) rfl rfl rfl (cs := [Value.int .i64 k, Value.int .i64 t, Value.int .i64 f, Value.int .i64 l, Value.slice A m c]) (by simp [Value.cells]) (tot := 5) (by simp []) (fun g1 hg1 => ?_)
  refine TL.alloc (Wants.none rfl) rfl rfl zero49 (cs := [Value.int .i64 0, Value.int .i64 0]) rfl (tot := 2) (by simp) (fun g2 hg2 => ?_)
  refine TL.nil ?_
  refine TE.then ?_
  refine TC.seq ?_
  refine TC.regionL ?_
  refine TL.gets (Wants.none rfl) rfl (Gets.fieldAddr rfl Try.underlying40 rfl size3 rfl (off' := 2) (by first | rfl | omega)) ?_
  refine TL.gets (Wants.none rfl) rfl (Gets.load1 rfl agg3 rfl (At.ent (i := 1) (ent := ⟨g1, 40, [Value.int .i64 k, Value.int .i64 t, Value.int .i64 f, Value.int .i64 l, Value.slice A m c], 5⟩) (off := 2) rfl rfl (by exact rfl))) ?_
  refine TL.gets (Wants.none rfl) rfl (Gets.fieldAddr rfl Try.underlying40 rfl size3 rfl (off' := 3) (by first | rfl | omega)) ?_
  refine TL.gets (Wants.none rfl) rfl (Gets.load1 rfl agg3 rfl (At.ent (i := 1) (ent := ⟨g1, 40, [Value.int .i64 k, Value.int .i64 t, Value.int .i64 f, Value.int .i64 l, Value.slice A m c], 5⟩) (off := 3) rfl rfl (by exact rfl))) ?_
  refine TL.gets (Wants.none rfl) rfl (Gets.build rfl (vs := [(0, Value.int .i64 f), (1, Value.int .i64 l)]) rfl (fun w => by first | rfl | kernel_rfl) (v := .agg ([Value.int .i64 f, Value.int .i64 l]).toArray)) ?_
  refine TL.storeW (Wants.none rfl) rfl rfl size49 rfl (vs := [Value.int .i64 f, Value.int .i64 l]) rfl (by simp []) (by simp [Value.oneCell']) (i := 0) (ent := ⟨g2, 49, [Value.int .i64 0, Value.int .i64 0], 2⟩) rfl rfl (by simp []) (H' := [⟨g2, 49, [Value.int .i64 f, Value.int .i64 l], 2⟩, ⟨g1, 40, [Value.int .i64 k, Value.int .i64 t, Value.int .i64 f, Value.int .i64 l, Value.slice A m c], 5⟩]) rfl ?_
  refine TL.nil ?_
  refine TE.then ?_
  refine TC.ret ?_
  exact TE.retC rfl agg49 size49 rfl (vs := [Value.int .i64 f, Value.int .i64 l]) rfl (Row.all (i := 0) (ent := ⟨g2, 49, [Value.int .i64 f, Value.int .i64 l], 2⟩) rfl rfl rfl) (fun w hs => ⟨rfl, ((hs.drop (by assumption)).drop (by assumption))⟩)

set_option maxRecDepth 100000 in
set_option maxHeartbeats 400000 in
theorem rcheck1 (t f l : Int) (A : Option Addr) (m c : Nat) (bt : -9223372036854775808 ≤ t ∧ t ≤ 9223372036854775807) (bf : -9223372036854775808 ≤ f ∧ f ≤ 9223372036854775807) (bl : -9223372036854775808 ≤ l ∧ l ≤ 9223372036854775807) (w : World) : Calls Try.prog 43 #[.agg ([Value.int .i64 1, Value.int .i64 t, Value.int .i64 f, Value.int .i64 l, Value.slice A m c]).toArray] w fun e w' => e = .returned (.int .i64 (codeV 1 t f l m)) ∧ St w [] w' := by
  refine calls_from (args := [.agg ([Value.int .i64 1, Value.int .i64 t, Value.int .i64 f, Value.int .i64 l, Value.slice A m c]).toArray]) Try.func43 rfl Try.ntmps43 (by simp) ?_
  refine TC.sub (Sub.cons (i := 0) rfl (Sub.nil)) ?_
  refine TC.seq ?_
  refine TC.regionL ?_
  refine TL.box (Wants.none rfl) rfl rfl rfl (cs := [Value.int .i64 1, Value.int .i64 t, Value.int .i64 f, Value.int .i64 l, Value.slice A m c]) (by simp [Value.cells]) (tot := 5) (by simp []) (fun g1 hg1 => ?_)
  refine TL.gets (Wants.none rfl) rfl (Gets.assign rfl rfl) ?_
  refine TL.nil ?_
  refine TE.then ?_
  refine TC.seq ?_
  refine TC.seq ?_
  refine TC.regionL ?_
  refine TL.gets (Wants.none rfl) rfl (Gets.fieldAddr rfl Try.underlying40 rfl size3 rfl (off' := 0) (by first | rfl | omega)) ?_
  refine TL.gets (Wants.none rfl) rfl (Gets.load1 rfl agg3 rfl (At.ent (i := 0) (ent := ⟨g1, 40, [Value.int .i64 1, Value.int .i64 t, Value.int .i64 f, Value.int .i64 l, Value.slice A m c], 5⟩) (off := 0) rfl rfl (by exact rfl))) ?_
  refine TL.gets (Wants.none rfl) rfl (Gets.isFalse (Gets.neq rfl rfl rfl) (by decide)) ?_
  refine TL.gets (Wants.none rfl) rfl (Gets.move rfl rfl) ?_
  refine TL.pass rfl rfl rfl rfl rfl ?_
  refine TL.pass rfl rfl rfl rfl rfl ?_
  refine TL.pass rfl rfl rfl rfl rfl ?_
  refine TL.gets (Wants.none rfl) rfl (Gets.pickF rfl rfl rfl) ?_
  refine TL.nil ?_
  refine TE.then ?_
  refine TC.sub (Sub.cons (i := 1) rfl (Sub.cons (i := 2) rfl (Sub.cons (i := 10) rfl (Sub.nil)))) ?_
  refine TC.no rfl ?_
  refine TC.skip ?_
  refine TE.then ?_
  refine TC.seq ?_
  refine TC.seq ?_
  refine TC.regionL ?_
  refine TL.gets (Wants.none rfl) rfl (Gets.loadN rfl agg40 size40 rfl (vs := [Value.int .i64 1, Value.int .i64 t, Value.int .i64 f, Value.int .i64 l, Value.slice A m c]) (by simp []) (Row.all (i := 0) (ent := ⟨g1, 40, [Value.int .i64 1, Value.int .i64 t, Value.int .i64 f, Value.int .i64 l, Value.slice A m c], 5⟩) rfl rfl rfl)) ?_
  refine TL.call0 (Wants.none rfl) rfl enters20 rfl rfl (v := .int .i64 l) (fun w hs => rlen1 t f l A m c w) ?_
  refine TL.gets (Wants.none rfl) rfl (Gets.eql rfl rfl rfl) ?_
  refine TL.nil ?_
  refine TE.then ?_
  refine TC.split rfl (fun c0 => ?_) (fun c0 => ?_)
  · refine TC.seq ?_
    refine TC.regionL ?_
    refine TL.gets (Wants.none rfl) rfl (Gets.assign rfl rfl) ?_
    refine TL.nil ?_
    refine TE.then ?_
    refine TC.ret ?_
    refine TE.thenR ?_
    exact TE.ret1 rfl rfl (fun w hs => ⟨ret_i (by unfold codeV; (repeat' split) <;> first | rfl | (exfalso; (try unfold vld at *); omega)), (hs.drop (by assumption))⟩)
  · refine TC.skip ?_
    refine TE.then ?_
    refine TC.seq ?_
    refine TC.seq ?_
    refine TC.regionL ?_
    refine TL.gets (Wants.none rfl) rfl (Gets.loadN rfl agg40 size40 rfl (vs := [Value.int .i64 1, Value.int .i64 t, Value.int .i64 f, Value.int .i64 l, Value.slice A m c]) (by simp []) (Row.all (i := 0) (ent := ⟨g1, 40, [Value.int .i64 1, Value.int .i64 t, Value.int .i64 f, Value.int .i64 l, Value.slice A m c], 5⟩) rfl rfl rfl)) ?_
    refine TL.call0 (Wants.none rfl) rfl enters28 rfl rfl (v := .agg ([Value.int .i64 t, Value.int .i64 l]).toArray) (fun w hs => rtarget1 t f l A m c w) ?_
    by_cases ct : vld t l
    · refine TL.call0 (Wants.none rfl) rfl enters60 rfl rfl (v := .bool true) (fun w hs => (rvalid_c t l (by omega) (by omega) w).mono fun e w' h => by rw [decide_eq_true (p := vld t l) ct] at h; exact h) ?_
      refine TL.gets (Wants.none rfl) rfl (Gets.not rfl rfl) ?_
      refine TL.nil ?_
      refine TE.then ?_
      refine TC.sub (Sub.cons (i := 1) rfl (Sub.cons (i := 2) rfl (Sub.cons (i := 17) rfl (Sub.nil)))) ?_
      refine TC.no rfl ?_
      refine TC.skip ?_
      refine TE.then ?_
      refine TC.seq ?_
      refine TC.seq ?_
      refine TC.regionL ?_
      refine TL.gets (Wants.none rfl) rfl (Gets.fieldAddr rfl Try.underlying40 rfl size3 rfl (off' := 0) (by first | rfl | omega)) ?_
      refine TL.gets (Wants.none rfl) rfl (Gets.load1 rfl agg3 rfl (At.ent (i := 0) (ent := ⟨g1, 40, [Value.int .i64 1, Value.int .i64 t, Value.int .i64 f, Value.int .i64 l, Value.slice A m c], 5⟩) (off := 0) rfl rfl (by exact rfl))) ?_
      refine TL.gets (Wants.none rfl) rfl (Gets.isTrue (Gets.eql rfl rfl rfl) rfl) ?_
      refine TL.gets (Wants.none rfl) rfl (Gets.move rfl rfl) ?_
      refine TL.gets (Wants.yes rfl rfl rfl) rfl (Gets.fieldAddr rfl Try.underlying40 rfl size38 rfl (off' := 4) (by first | rfl | omega)) ?_
      refine TL.gets (Wants.yes rfl rfl rfl) rfl (Gets.load1 rfl agg38 rfl (At.ent (i := 0) (ent := ⟨g1, 40, [Value.int .i64 1, Value.int .i64 t, Value.int .i64 f, Value.int .i64 l, Value.slice A m c], 5⟩) (off := 4) rfl rfl (by exact rfl))) ?_
      refine TL.gets (Wants.yes rfl rfl rfl) rfl (Gets.lenSlice rfl Try.underlying38 rfl) ?_
      by_cases cm : 0 < (m : Int)
      · refine TL.gets (Wants.yes rfl rfl rfl) rfl (Gets.isTrue (Gets.gtr rfl rfl rfl) cm) ?_
        refine TL.gets (Wants.yes rfl rfl rfl) rfl (Gets.move rfl rfl) ?_
        refine TL.pass rfl rfl rfl rfl rfl ?_
        refine TL.pass rfl rfl rfl rfl rfl ?_
        refine TL.pass rfl rfl rfl rfl rfl ?_
        refine TL.pass rfl rfl rfl rfl rfl ?_
        refine TL.gets (Wants.yes rfl rfl rfl) rfl (Gets.pickT rfl rfl rfl) ?_
        refine TL.gets (Wants.none rfl) rfl (Gets.pickT rfl rfl rfl) ?_
        refine TL.nil ?_
        refine TE.then ?_
        refine TC.sub (Sub.cons (i := 1) rfl (Sub.cons (i := 2) rfl (Sub.cons (i := 32) rfl (Sub.nil)))) ?_
        refine TC.yes rfl ?_
        refine TC.seq ?_
        refine TC.regionL ?_
        refine TL.gets (Wants.none rfl) rfl (Gets.assign rfl rfl) ?_
        refine TL.nil ?_
        refine TE.then ?_
        refine TC.ret ?_
        refine TE.thenR ?_
        exact TE.ret1 rfl rfl (fun w hs => ⟨ret_i (by unfold codeV; (repeat' split) <;> first | rfl | (exfalso; (try unfold vld at *); omega)), (hs.drop (by assumption))⟩)
      · refine TL.gets (Wants.yes rfl rfl rfl) rfl (Gets.isFalse (Gets.gtr rfl rfl rfl) cm) ?_
        refine TL.gets (Wants.yes rfl rfl rfl) rfl (Gets.move rfl rfl) ?_
        refine TL.gets (Wants.yes rfl rfl rfl) rfl (Gets.loadN rfl agg40 size40 rfl (vs := [Value.int .i64 1, Value.int .i64 t, Value.int .i64 f, Value.int .i64 l, Value.slice A m c]) (by simp []) (Row.all (i := 0) (ent := ⟨g1, 40, [Value.int .i64 1, Value.int .i64 t, Value.int .i64 f, Value.int .i64 l, Value.slice A m c], 5⟩) rfl rfl rfl)) ?_
        refine TL.call0 (Wants.yes rfl rfl rfl) rfl enters61 rfl rfl (v := .agg ([Value.int .i64 f, Value.int .i64 l]).toArray) (fun w hs => rsource_c 1 t f l A m c w) ?_
        by_cases cf : vld f l
        · refine TL.call0 (Wants.yes rfl rfl rfl) rfl enters60 rfl rfl (v := .bool true) (fun w hs => (rvalid_c f l (by omega) (by omega) w).mono fun e w' h => by rw [decide_eq_true (p := vld f l) cf] at h; exact h) ?_
          refine TL.gets (Wants.yes rfl rfl rfl) rfl (Gets.not rfl rfl) ?_
          refine TL.gets (Wants.yes rfl rfl rfl) rfl (Gets.pickF rfl rfl rfl) ?_
          refine TL.gets (Wants.none rfl) rfl (Gets.pickT rfl rfl rfl) ?_
          refine TL.nil ?_
          refine TE.then ?_
          refine TC.sub (Sub.cons (i := 1) rfl (Sub.cons (i := 2) rfl (Sub.cons (i := 32) rfl (Sub.nil)))) ?_
          refine TC.no rfl ?_
          refine TC.skip ?_
          refine TE.then ?_
          refine TC.seq ?_
          refine TC.seq ?_
          refine TC.regionL ?_
          refine TL.gets (Wants.none rfl) rfl (Gets.fieldAddr rfl Try.underlying40 rfl size3 rfl (off' := 0) (by first | rfl | omega)) ?_
          refine TL.gets (Wants.none rfl) rfl (Gets.load1 rfl agg3 rfl (At.ent (i := 0) (ent := ⟨g1, 40, [Value.int .i64 1, Value.int .i64 t, Value.int .i64 f, Value.int .i64 l, Value.slice A m c], 5⟩) (off := 0) rfl rfl (by exact rfl))) ?_
          refine TL.gets (Wants.none rfl) rfl (Gets.isFalse (Gets.eql rfl rfl rfl) (by decide)) ?_
          refine TL.gets (Wants.none rfl) rfl (Gets.move rfl rfl) ?_
          refine TL.pass rfl rfl rfl rfl rfl ?_
          refine TL.pass rfl rfl rfl rfl rfl ?_
          refine TL.pass rfl rfl rfl rfl rfl ?_
          refine TL.pass rfl rfl rfl rfl rfl ?_
          refine TL.passU rfl rfl rfl rfl ?_
          refine TL.passU rfl rfl rfl rfl ?_
          refine TL.passU rfl rfl rfl rfl ?_
          refine TL.pass rfl rfl rfl rfl rfl ?_
          refine TL.gets (Wants.none rfl) rfl (Gets.pickF rfl rfl rfl) ?_
          refine TL.nil ?_
          refine TE.then ?_
          refine TC.sub (Sub.cons (i := 2) rfl (Sub.cons (i := 45) rfl (Sub.nil))) ?_
          refine TC.no rfl ?_
          refine TC.skip ?_
          refine TE.then ?_
          refine TC.seq ?_
          refine TC.regionL ?_
          refine TL.gets (Wants.none rfl) rfl (Gets.assign rfl rfl) ?_
          refine TL.nil ?_
          refine TE.then ?_
          refine TC.ret ?_
          exact TE.ret1 rfl rfl (fun w hs => ⟨ret_i (by unfold codeV; (repeat' split) <;> first | rfl | (exfalso; (try unfold vld at *); omega)), (hs.drop (by assumption))⟩)
        · refine TL.call0 (Wants.yes rfl rfl rfl) rfl enters60 rfl rfl (v := .bool false) (fun w hs => (rvalid_c f l (by omega) (by omega) w).mono fun e w' h => by rw [decide_eq_false (p := vld f l) cf] at h; exact h) ?_
          refine TL.gets (Wants.yes rfl rfl rfl) rfl (Gets.not rfl rfl) ?_
          refine TL.gets (Wants.yes rfl rfl rfl) rfl (Gets.pickF rfl rfl rfl) ?_
          refine TL.gets (Wants.none rfl) rfl (Gets.pickT rfl rfl rfl) ?_
          refine TL.nil ?_
          refine TE.then ?_
          refine TC.sub (Sub.cons (i := 1) rfl (Sub.cons (i := 2) rfl (Sub.cons (i := 32) rfl (Sub.nil)))) ?_
          refine TC.yes rfl ?_
          refine TC.seq ?_
          refine TC.regionL ?_
          refine TL.gets (Wants.none rfl) rfl (Gets.assign rfl rfl) ?_
          refine TL.nil ?_
          refine TE.then ?_
          refine TC.ret ?_
          refine TE.thenR ?_
          exact TE.ret1 rfl rfl (fun w hs => ⟨ret_i (by unfold codeV; (repeat' split) <;> first | rfl | (exfalso; (try unfold vld at *); omega)), (hs.drop (by assumption))⟩)
    · refine TL.call0 (Wants.none rfl) rfl enters60 rfl rfl (v := .bool false) (fun w hs => (rvalid_c t l (by omega) (by omega) w).mono fun e w' h => by rw [decide_eq_false (p := vld t l) ct] at h; exact h) ?_
      refine TL.gets (Wants.none rfl) rfl (Gets.not rfl rfl) ?_
      refine TL.nil ?_
      refine TE.then ?_
      refine TC.sub (Sub.cons (i := 1) rfl (Sub.cons (i := 2) rfl (Sub.cons (i := 17) rfl (Sub.nil)))) ?_
      refine TC.yes rfl ?_
      refine TC.seq ?_
      refine TC.regionL ?_
      refine TL.gets (Wants.none rfl) rfl (Gets.assign rfl rfl) ?_
      refine TL.nil ?_
      refine TE.then ?_
      refine TC.ret ?_
      refine TE.thenR ?_
      exact TE.ret1 rfl rfl (fun w hs => ⟨ret_i (by unfold codeV; (repeat' split) <;> first | rfl | (exfalso; (try unfold vld at *); omega)), (hs.drop (by assumption))⟩)

set_option maxRecDepth 100000 in
set_option maxHeartbeats 400000 in
theorem rcheck2 (t f l : Int) (A : Option Addr) (m c : Nat) (hmr : m ≤ 9223372036854775807) (bt : -9223372036854775808 ≤ t ∧ t ≤ 9223372036854775807) (bf : -9223372036854775808 ≤ f ∧ f ≤ 9223372036854775807) (bl : -9223372036854775808 ≤ l ∧ l ≤ 9223372036854775807) (w : World) : Calls Try.prog 43 #[.agg ([Value.int .i64 2, Value.int .i64 t, Value.int .i64 f, Value.int .i64 l, Value.slice A m c]).toArray] w fun e w' => e = .returned (.int .i64 (codeV 2 t f l m)) ∧ St w [] w' := by
  refine calls_from (args := [.agg ([Value.int .i64 2, Value.int .i64 t, Value.int .i64 f, Value.int .i64 l, Value.slice A m c]).toArray]) Try.func43 rfl Try.ntmps43 (by simp) ?_
  refine TC.sub (Sub.cons (i := 0) rfl (Sub.nil)) ?_
  refine TC.seq ?_
  refine TC.regionL ?_
  refine TL.box (Wants.none rfl) rfl rfl rfl (cs := [Value.int .i64 2, Value.int .i64 t, Value.int .i64 f, Value.int .i64 l, Value.slice A m c]) (by simp [Value.cells]) (tot := 5) (by simp []) (fun g1 hg1 => ?_)
  refine TL.gets (Wants.none rfl) rfl (Gets.assign rfl rfl) ?_
  refine TL.nil ?_
  refine TE.then ?_
  refine TC.seq ?_
  refine TC.seq ?_
  refine TC.regionL ?_
  refine TL.gets (Wants.none rfl) rfl (Gets.fieldAddr rfl Try.underlying40 rfl size3 rfl (off' := 0) (by first | rfl | omega)) ?_
  refine TL.gets (Wants.none rfl) rfl (Gets.load1 rfl agg3 rfl (At.ent (i := 0) (ent := ⟨g1, 40, [Value.int .i64 2, Value.int .i64 t, Value.int .i64 f, Value.int .i64 l, Value.slice A m c], 5⟩) (off := 0) rfl rfl (by exact rfl))) ?_
  refine TL.gets (Wants.none rfl) rfl (Gets.isTrue (Gets.neq rfl rfl rfl) (by decide)) ?_
  refine TL.gets (Wants.none rfl) rfl (Gets.move rfl rfl) ?_
  refine TL.gets (Wants.yes rfl rfl rfl) rfl (Gets.fieldAddr rfl Try.underlying40 rfl size3 rfl (off' := 0) (by first | rfl | omega)) ?_
  refine TL.gets (Wants.yes rfl rfl rfl) rfl (Gets.load1 rfl agg3 rfl (At.ent (i := 0) (ent := ⟨g1, 40, [Value.int .i64 2, Value.int .i64 t, Value.int .i64 f, Value.int .i64 l, Value.slice A m c], 5⟩) (off := 0) rfl rfl (by exact rfl))) ?_
  refine TL.gets (Wants.yes rfl rfl rfl) rfl (Gets.isFalse (Gets.neq rfl rfl rfl) (by decide)) ?_
  refine TL.gets (Wants.none rfl) rfl (Gets.pickT rfl rfl rfl) ?_
  refine TL.nil ?_
  refine TE.then ?_
  refine TC.sub (Sub.cons (i := 1) rfl (Sub.cons (i := 2) rfl (Sub.cons (i := 10) rfl (Sub.nil)))) ?_
  refine TC.no rfl ?_
  refine TC.skip ?_
  refine TE.then ?_
  refine TC.seq ?_
  refine TC.seq ?_
  refine TC.regionL ?_
  refine TL.gets (Wants.none rfl) rfl (Gets.loadN rfl agg40 size40 rfl (vs := [Value.int .i64 2, Value.int .i64 t, Value.int .i64 f, Value.int .i64 l, Value.slice A m c]) (by simp []) (Row.all (i := 0) (ent := ⟨g1, 40, [Value.int .i64 2, Value.int .i64 t, Value.int .i64 f, Value.int .i64 l, Value.slice A m c], 5⟩) rfl rfl rfl)) ?_
  refine TL.call0 (Wants.none rfl) rfl enters20 rfl rfl (v := .int .i64 (m : Int)) (fun w hs => rlen2 2 t f l A m c (by omega) w) ?_
  refine TL.gets (Wants.none rfl) rfl (Gets.eql rfl rfl rfl) ?_
  refine TL.nil ?_
  refine TE.then ?_
  refine TC.split rfl (fun c0 => ?_) (fun c0 => ?_)
  · refine TC.seq ?_
    refine TC.regionL ?_
    refine TL.gets (Wants.none rfl) rfl (Gets.assign rfl rfl) ?_
    refine TL.nil ?_
    refine TE.then ?_
    refine TC.ret ?_
    refine TE.thenR ?_
    exact TE.ret1 rfl rfl (fun w hs => ⟨ret_i (by unfold codeV; (repeat' split) <;> first | rfl | (exfalso; (try unfold vld at *); omega)), (hs.drop (by assumption))⟩)
  · refine TC.skip ?_
    refine TE.then ?_
    refine TC.seq ?_
    refine TC.seq ?_
    refine TC.regionL ?_
    refine TL.gets (Wants.none rfl) rfl (Gets.loadN rfl agg40 size40 rfl (vs := [Value.int .i64 2, Value.int .i64 t, Value.int .i64 f, Value.int .i64 l, Value.slice A m c]) (by simp []) (Row.all (i := 0) (ent := ⟨g1, 40, [Value.int .i64 2, Value.int .i64 t, Value.int .i64 f, Value.int .i64 l, Value.slice A m c], 5⟩) rfl rfl rfl)) ?_
    refine TL.call0 (Wants.none rfl) rfl enters28 rfl rfl (v := .agg ([Value.int .i64 t, Value.int .i64 (m : Int)]).toArray) (fun w hs => rtarget2 2 t f l A m c (by omega) w) ?_
    by_cases ct : vld t (m : Int)
    · refine TL.call0 (Wants.none rfl) rfl enters60 rfl rfl (v := .bool true) (fun w hs => (rvalid_c t (m : Int) (by omega) (by omega) w).mono fun e w' h => by rw [decide_eq_true (p := vld t (m : Int)) ct] at h; exact h) ?_
      refine TL.gets (Wants.none rfl) rfl (Gets.not rfl rfl) ?_
      refine TL.nil ?_
      refine TE.then ?_
      refine TC.sub (Sub.cons (i := 1) rfl (Sub.cons (i := 2) rfl (Sub.cons (i := 17) rfl (Sub.nil)))) ?_
      refine TC.no rfl ?_
      refine TC.skip ?_
      refine TE.then ?_
      refine TC.seq ?_
      refine TC.seq ?_
      refine TC.regionL ?_
      refine TL.gets (Wants.none rfl) rfl (Gets.fieldAddr rfl Try.underlying40 rfl size3 rfl (off' := 0) (by first | rfl | omega)) ?_
      refine TL.gets (Wants.none rfl) rfl (Gets.load1 rfl agg3 rfl (At.ent (i := 0) (ent := ⟨g1, 40, [Value.int .i64 2, Value.int .i64 t, Value.int .i64 f, Value.int .i64 l, Value.slice A m c], 5⟩) (off := 0) rfl rfl (by exact rfl))) ?_
      refine TL.gets (Wants.none rfl) rfl (Gets.isFalse (Gets.eql rfl rfl rfl) (by decide)) ?_
      refine TL.gets (Wants.none rfl) rfl (Gets.move rfl rfl) ?_
      refine TL.pass rfl rfl rfl rfl rfl ?_
      refine TL.pass rfl rfl rfl rfl rfl ?_
      refine TL.pass rfl rfl rfl rfl rfl ?_
      refine TL.pass rfl rfl rfl rfl rfl ?_
      refine TL.pass rfl rfl rfl rfl rfl ?_
      refine TL.passU rfl rfl rfl rfl ?_
      refine TL.passU rfl rfl rfl rfl ?_
      refine TL.passU rfl rfl rfl rfl ?_
      refine TL.passU rfl rfl rfl rfl ?_
      refine TL.pass rfl rfl rfl rfl rfl ?_
      refine TL.gets (Wants.none rfl) rfl (Gets.pickF rfl rfl rfl) ?_
      refine TL.nil ?_
      refine TE.then ?_
      refine TC.sub (Sub.cons (i := 1) rfl (Sub.cons (i := 2) rfl (Sub.cons (i := 32) rfl (Sub.nil)))) ?_
      refine TC.no rfl ?_
      refine TC.skip ?_
      refine TE.then ?_
      refine TC.seq ?_
      refine TC.seq ?_
      refine TC.regionL ?_
      refine TL.gets (Wants.none rfl) rfl (Gets.fieldAddr rfl Try.underlying40 rfl size3 rfl (off' := 0) (by first | rfl | omega)) ?_
      refine TL.gets (Wants.none rfl) rfl (Gets.load1 rfl agg3 rfl (At.ent (i := 0) (ent := ⟨g1, 40, [Value.int .i64 2, Value.int .i64 t, Value.int .i64 f, Value.int .i64 l, Value.slice A m c], 5⟩) (off := 0) rfl rfl (by exact rfl))) ?_
      refine TL.gets (Wants.none rfl) rfl (Gets.isTrue (Gets.eql rfl rfl rfl) rfl) ?_
      refine TL.gets (Wants.none rfl) rfl (Gets.move rfl rfl) ?_
      refine TL.gets (Wants.yes rfl rfl rfl) rfl (Gets.fieldAddr rfl Try.underlying40 rfl size3 rfl (off' := 2) (by first | rfl | omega)) ?_
      refine TL.gets (Wants.yes rfl rfl rfl) rfl (Gets.load1 rfl agg3 rfl (At.ent (i := 0) (ent := ⟨g1, 40, [Value.int .i64 2, Value.int .i64 t, Value.int .i64 f, Value.int .i64 l, Value.slice A m c], 5⟩) (off := 2) rfl rfl (by exact rfl))) ?_
      by_cases cf : f ≠ 0
      · refine TL.gets (Wants.yes rfl rfl rfl) rfl (Gets.isTrue (Gets.neq rfl rfl rfl) cf) ?_
        refine TL.gets (Wants.yes rfl rfl rfl) rfl (Gets.move rfl rfl) ?_
        refine TL.pass rfl rfl rfl rfl rfl ?_
        refine TL.pass rfl rfl rfl rfl rfl ?_
        refine TL.pass rfl rfl rfl rfl rfl ?_
        refine TL.gets (Wants.yes rfl rfl rfl) rfl (Gets.pickT rfl rfl rfl) ?_
        refine TL.gets (Wants.none rfl) rfl (Gets.pickT rfl rfl rfl) ?_
        refine TL.nil ?_
        refine TE.then ?_
        refine TC.sub (Sub.cons (i := 2) rfl (Sub.cons (i := 45) rfl (Sub.nil))) ?_
        refine TC.yes rfl ?_
        refine TC.seq ?_
        refine TC.regionL ?_
        refine TL.gets (Wants.none rfl) rfl (Gets.assign rfl rfl) ?_
        refine TL.nil ?_
        refine TE.then ?_
        refine TC.ret ?_
        refine TE.thenR ?_
        exact TE.ret1 rfl rfl (fun w hs => ⟨ret_i (by unfold codeV; (repeat' split) <;> first | rfl | (exfalso; (try unfold vld at *); omega)), (hs.drop (by assumption))⟩)
      · refine TL.gets (Wants.yes rfl rfl rfl) rfl (Gets.isFalse (Gets.neq rfl rfl rfl) cf) ?_
        refine TL.gets (Wants.yes rfl rfl rfl) rfl (Gets.move rfl rfl) ?_
        refine TL.gets (Wants.yes rfl rfl rfl) rfl (Gets.fieldAddr rfl Try.underlying40 rfl size3 rfl (off' := 3) (by first | rfl | omega)) ?_
        refine TL.gets (Wants.yes rfl rfl rfl) rfl (Gets.load1 rfl agg3 rfl (At.ent (i := 0) (ent := ⟨g1, 40, [Value.int .i64 2, Value.int .i64 t, Value.int .i64 f, Value.int .i64 l, Value.slice A m c], 5⟩) (off := 3) rfl rfl (by exact rfl))) ?_
        by_cases cl : l ≠ 0
        · refine TL.gets (Wants.yes rfl rfl rfl) rfl (Gets.isTrue (Gets.neq rfl rfl rfl) cl) ?_
          refine TL.gets (Wants.yes rfl rfl rfl) rfl (Gets.pickF rfl rfl rfl) ?_
          refine TL.gets (Wants.none rfl) rfl (Gets.pickT rfl rfl rfl) ?_
          refine TL.nil ?_
          refine TE.then ?_
          refine TC.sub (Sub.cons (i := 2) rfl (Sub.cons (i := 45) rfl (Sub.nil))) ?_
          refine TC.yes rfl ?_
          refine TC.seq ?_
          refine TC.regionL ?_
          refine TL.gets (Wants.none rfl) rfl (Gets.assign rfl rfl) ?_
          refine TL.nil ?_
          refine TE.then ?_
          refine TC.ret ?_
          refine TE.thenR ?_
          exact TE.ret1 rfl rfl (fun w hs => ⟨ret_i (by unfold codeV; (repeat' split) <;> first | rfl | (exfalso; (try unfold vld at *); omega)), (hs.drop (by assumption))⟩)
        · refine TL.gets (Wants.yes rfl rfl rfl) rfl (Gets.isFalse (Gets.neq rfl rfl rfl) cl) ?_
          refine TL.gets (Wants.yes rfl rfl rfl) rfl (Gets.pickF rfl rfl rfl) ?_
          refine TL.gets (Wants.none rfl) rfl (Gets.pickT rfl rfl rfl) ?_
          refine TL.nil ?_
          refine TE.then ?_
          refine TC.sub (Sub.cons (i := 2) rfl (Sub.cons (i := 45) rfl (Sub.nil))) ?_
          refine TC.no rfl ?_
          refine TC.skip ?_
          refine TE.then ?_
          refine TC.seq ?_
          refine TC.regionL ?_
          refine TL.gets (Wants.none rfl) rfl (Gets.assign rfl rfl) ?_
          refine TL.nil ?_
          refine TE.then ?_
          refine TC.ret ?_
          exact TE.ret1 rfl rfl (fun w hs => ⟨ret_i (by unfold codeV; (repeat' split) <;> first | rfl | (exfalso; (try unfold vld at *); omega)), (hs.drop (by assumption))⟩)
    · refine TL.call0 (Wants.none rfl) rfl enters60 rfl rfl (v := .bool false) (fun w hs => (rvalid_c t (m : Int) (by omega) (by omega) w).mono fun e w' h => by rw [decide_eq_false (p := vld t (m : Int)) ct] at h; exact h) ?_
      refine TL.gets (Wants.none rfl) rfl (Gets.not rfl rfl) ?_
      refine TL.nil ?_
      refine TE.then ?_
      refine TC.sub (Sub.cons (i := 1) rfl (Sub.cons (i := 2) rfl (Sub.cons (i := 17) rfl (Sub.nil)))) ?_
      refine TC.yes rfl ?_
      refine TC.seq ?_
      refine TC.regionL ?_
      refine TL.gets (Wants.none rfl) rfl (Gets.assign rfl rfl) ?_
      refine TL.nil ?_
      refine TE.then ?_
      refine TC.ret ?_
      refine TE.thenR ?_
      exact TE.ret1 rfl rfl (fun w hs => ⟨ret_i (by unfold codeV; (repeat' split) <;> first | rfl | (exfalso; (try unfold vld at *); omega)), (hs.drop (by assumption))⟩)

set_option maxRecDepth 100000 in
set_option maxHeartbeats 400000 in
theorem rcheck0 (k t f l : Int) (A : Option Addr) (m c : Nat) (h1 : ¬ k = 1) (h2 : ¬ k = 2) (w : World) : Calls Try.prog 43 #[.agg ([Value.int .i64 k, Value.int .i64 t, Value.int .i64 f, Value.int .i64 l, Value.slice A m c]).toArray] w fun e w' => e = .returned (.int .i64 (codeV k t f l m)) ∧ St w [] w' := by
  refine calls_from (args := [.agg ([Value.int .i64 k, Value.int .i64 t, Value.int .i64 f, Value.int .i64 l, Value.slice A m c]).toArray]) Try.func43 rfl Try.ntmps43 (by simp) ?_
  refine TC.sub (Sub.cons (i := 0) rfl (Sub.nil)) ?_
  refine TC.seq ?_
  refine TC.regionL ?_
  refine TL.box (Wants.none rfl) rfl rfl rfl (cs := [Value.int .i64 k, Value.int .i64 t, Value.int .i64 f, Value.int .i64 l, Value.slice A m c]) (by simp [Value.cells]) (tot := 5) (by simp []) (fun g1 hg1 => ?_)
  refine TL.gets (Wants.none rfl) rfl (Gets.assign rfl rfl) ?_
  refine TL.nil ?_
  refine TE.then ?_
  refine TC.seq ?_
  refine TC.seq ?_
  refine TC.regionL ?_
  refine TL.gets (Wants.none rfl) rfl (Gets.fieldAddr rfl Try.underlying40 rfl size3 rfl (off' := 0) (by first | rfl | omega)) ?_
  refine TL.gets (Wants.none rfl) rfl (Gets.load1 rfl agg3 rfl (At.ent (i := 0) (ent := ⟨g1, 40, [Value.int .i64 k, Value.int .i64 t, Value.int .i64 f, Value.int .i64 l, Value.slice A m c], 5⟩) (off := 0) rfl rfl (by exact rfl))) ?_
  refine TL.gets (Wants.none rfl) rfl (Gets.isTrue (Gets.neq rfl rfl rfl) h1) ?_
  refine TL.gets (Wants.none rfl) rfl (Gets.move rfl rfl) ?_
  refine TL.gets (Wants.yes rfl rfl rfl) rfl (Gets.fieldAddr rfl Try.underlying40 rfl size3 rfl (off' := 0) (by first | rfl | omega)) ?_
  refine TL.gets (Wants.yes rfl rfl rfl) rfl (Gets.load1 rfl agg3 rfl (At.ent (i := 0) (ent := ⟨g1, 40, [Value.int .i64 k, Value.int .i64 t, Value.int .i64 f, Value.int .i64 l, Value.slice A m c], 5⟩) (off := 0) rfl rfl (by exact rfl))) ?_
  refine TL.gets (Wants.yes rfl rfl rfl) rfl (Gets.isTrue (Gets.neq rfl rfl rfl) h2) ?_
  refine TL.gets (Wants.none rfl) rfl (Gets.pickT rfl rfl rfl) ?_
  refine TL.nil ?_
  refine TE.then ?_
  refine TC.sub (Sub.cons (i := 1) rfl (Sub.cons (i := 2) rfl (Sub.cons (i := 10) rfl (Sub.nil)))) ?_
  refine TC.yes rfl ?_
  refine TC.seq ?_
  refine TC.regionL ?_
  refine TL.gets (Wants.none rfl) rfl (Gets.assign rfl rfl) ?_
  refine TL.nil ?_
  refine TE.then ?_
  refine TC.ret ?_
  refine TE.thenR ?_
  exact TE.ret1 rfl rfl (fun w hs => ⟨ret_i (by unfold codeV; (repeat' split) <;> first | rfl | (exfalso; (try unfold vld at *); omega)), (hs.drop (by assumption))⟩)


theorem check_c (k t f l : Int) (A : Option Addr) (m c : Nat) (hmr : m ≤ 9223372036854775807) (bt : -9223372036854775808 ≤ t ∧ t ≤ 9223372036854775807) (bf : -9223372036854775808 ≤ f ∧ f ≤ 9223372036854775807) (bl : -9223372036854775808 ≤ l ∧ l ≤ 9223372036854775807) (w : World) : Calls Try.prog 45 #[.agg ([Value.int .i64 k, Value.int .i64 t, Value.int .i64 f, Value.int .i64 l, Value.slice A m c]).toArray] w fun e w' => e = .returned (.int .i64 (codeV k t f l m)) ∧ St w [] w' := by
  by_cases h1 : k = 1
  · subst h1; exact check1 t f l A m c bt bf bl w
  by_cases h2 : k = 2
  · subst h2; exact check2 t f l A m c hmr bt bf bl w
  · exact check0 k t f l A m c h1 h2 w


theorem rcheck_c (k t f l : Int) (A : Option Addr) (m c : Nat) (hmr : m ≤ 9223372036854775807) (bt : -9223372036854775808 ≤ t ∧ t ≤ 9223372036854775807) (bf : -9223372036854775808 ≤ f ∧ f ≤ 9223372036854775807) (bl : -9223372036854775808 ≤ l ∧ l ≤ 9223372036854775807) (w : World) : Calls Try.prog 43 #[.agg ([Value.int .i64 k, Value.int .i64 t, Value.int .i64 f, Value.int .i64 l, Value.slice A m c]).toArray] w fun e w' => e = .returned (.int .i64 (codeV k t f l m)) ∧ St w [] w' := by
  by_cases h1 : k = 1
  · subst h1; exact rcheck1 t f l A m c bt bf bl w
  by_cases h2 : k = 2
  · subst h2; exact rcheck2 t f l A m c hmr bt bf bl w
  · exact rcheck0 k t f l A m c h1 h2 w


theorem codeV1 {t f l : Int} {m : Nat} : codeV 1 t f l m = 0 ↔ ¬ l = 0 ∧ m = 0 ∧ vld t l ∧ vld f l := by
  unfold codeV; (repeat' split) <;> simp_all
theorem codeV2 {t f l : Int} {m : Nat} : codeV 2 t f l m = 0 ↔ ¬ m = 0 ∧ f = 0 ∧ l = 0 ∧ vld t m := by
  unfold codeV; (repeat' split) <;> simp_all
theorem codeV0 {k t f l : Int} {m : Nat} (h : codeV k t f l m = 0) : k = 1 ∨ k = 2 := by
  unfold codeV at h
  by_cases h1 : k = 1
  · exact .inl h1
  by_cases h2 : k = 2
  · exact .inr h2
  rw [if_neg h1, if_neg h2] at h; cases h

set_option maxRecDepth 100000 in
set_option maxHeartbeats 400000 in
theorem roverlap_no (o l p n : Int) (ho : -9223372036854775808 ≤ o + l ∧ o + l ≤ 9223372036854775807) (hp : -9223372036854775808 ≤ p + n ∧ p + n ≤ 9223372036854775807) (hc : min (o + l) (p + n) ≤ max o p) (w : World) : Calls Try.prog 27 #[.agg ([Value.int .i64 o, Value.int .i64 l]).toArray, .agg ([Value.int .i64 p, Value.int .i64 n]).toArray] w fun e w' => e = .returned (.agg ([Value.int .i64 0, Value.int .i64 0]).toArray) ∧ St w [] w' := by
  refine calls_from (args := [.agg ([Value.int .i64 o, Value.int .i64 l]).toArray, .agg ([Value.int .i64 p, Value.int .i64 n]).toArray]) Try.func27 rfl Try.ntmps27 (by simp) ?_
  refine TC.sub (Sub.cons (i := 0) rfl (Sub.cons (i := 1) rfl (Sub.nil))) ?_
  refine TC.seq ?_
  refine TC.regionL ?_
  refine TL.box (Wants.none rfl) rfl rfl rfl (cs := [Value.int .i64 o, Value.int .i64 l]) (by simp [Value.cells]) (tot := 2) (by simp []) (fun g1 hg1 => ?_)
  refine TL.box (Wants.none rfl) rfl rfl rfl (cs := [Value.int .i64 p, Value.int .i64 n]) (by simp [Value.cells]) (tot := 2) (by simp []) (fun g2 hg2 => ?_)
  refine TL.alloc (Wants.none rfl) rfl rfl zero49 (cs := [Value.int .i64 0, Value.int .i64 0]) rfl (tot := 2) (by simp) (fun g3 hg3 => ?_)
  refine TL.nil ?_
  refine TE.then ?_
  refine TC.seq ?_
  refine TC.regionL ?_
  refine TL.gets (Wants.none rfl) rfl (Gets.fieldAddr rfl Try.underlying49 rfl size3 rfl (off' := 0) (by first | rfl | omega)) ?_
  refine TL.gets (Wants.none rfl) rfl (Gets.load1 rfl agg3 rfl (At.ent (i := 2) (ent := ⟨g1, 49, [Value.int .i64 o, Value.int .i64 l], 2⟩) (off := 0) rfl rfl (by exact rfl))) ?_
  refine TL.gets (Wants.none rfl) rfl (Gets.fieldAddr rfl Try.underlying49 rfl size3 rfl (off' := 0) (by first | rfl | omega)) ?_
  refine TL.gets (Wants.none rfl) rfl (Gets.load1 rfl agg3 rfl (At.ent (i := 1) (ent := ⟨g2, 49, [Value.int .i64 p, Value.int .i64 n], 2⟩) (off := 0) rfl rfl (by exact rfl))) ?_
  refine TL.gets (Wants.none rfl) rfl (Gets.congr (Gets.max2 rfl rfl rfl) (by rw [ifmax])) ?_
  refine TL.gets (Wants.none rfl) rfl (Gets.assign rfl rfl) ?_
  refine TL.nil ?_
  refine TE.then ?_
  refine TC.sub (Sub.cons (i := 2) rfl (Sub.cons (i := 3) rfl (Sub.cons (i := 4) rfl (Sub.cons (i := 5) rfl (Sub.nil))))) ?_
  refine TC.seq ?_
  refine TC.regionL ?_
  refine TL.gets (Wants.none rfl) rfl (Gets.fieldAddr rfl Try.underlying49 rfl size3 rfl (off' := 0) (by first | rfl | omega)) ?_
  refine TL.gets (Wants.none rfl) rfl (Gets.load1 rfl agg3 rfl (At.ent (i := 2) (ent := ⟨g1, 49, [Value.int .i64 o, Value.int .i64 l], 2⟩) (off := 0) rfl rfl (by exact rfl))) ?_
  refine TL.gets (Wants.none rfl) rfl (Gets.fieldAddr rfl Try.underlying49 rfl size3 rfl (off' := 1) (by first | rfl | omega)) ?_
  refine TL.gets (Wants.none rfl) rfl (Gets.load1 rfl agg3 rfl (At.ent (i := 2) (ent := ⟨g1, 49, [Value.int .i64 o, Value.int .i64 l], 2⟩) (off := 1) rfl rfl (by exact rfl))) ?_
  refine TL.gets (Wants.none rfl) rfl (Gets.add rfl rfl rfl (r := (o + l)) (w64 (by omega) (by omega))) ?_
  refine TL.gets (Wants.none rfl) rfl (Gets.fieldAddr rfl Try.underlying49 rfl size3 rfl (off' := 0) (by first | rfl | omega)) ?_
  refine TL.gets (Wants.none rfl) rfl (Gets.load1 rfl agg3 rfl (At.ent (i := 1) (ent := ⟨g2, 49, [Value.int .i64 p, Value.int .i64 n], 2⟩) (off := 0) rfl rfl (by exact rfl))) ?_
  refine TL.gets (Wants.none rfl) rfl (Gets.fieldAddr rfl Try.underlying49 rfl size3 rfl (off' := 1) (by first | rfl | omega)) ?_
  refine TL.gets (Wants.none rfl) rfl (Gets.load1 rfl agg3 rfl (At.ent (i := 1) (ent := ⟨g2, 49, [Value.int .i64 p, Value.int .i64 n], 2⟩) (off := 1) rfl rfl (by exact rfl))) ?_
  refine TL.gets (Wants.none rfl) rfl (Gets.add rfl rfl rfl (r := (p + n)) (w64 (by omega) (by omega))) ?_
  refine TL.gets (Wants.none rfl) rfl (Gets.congr (Gets.min2 rfl rfl rfl) (by rw [ifmin])) ?_
  refine TL.gets (Wants.none rfl) rfl (Gets.assign rfl rfl) ?_
  refine TL.nil ?_
  refine TE.then ?_
  refine TC.sub (Sub.cons (i := 4) rfl (Sub.cons (i := 5) rfl (Sub.cons (i := 6) rfl (Sub.nil)))) ?_
  refine TC.seq ?_
  refine TC.seq ?_
  refine TC.regionL ?_
  refine TL.gets (Wants.none rfl) rfl (Gets.move rfl rfl) ?_
  refine TL.gets (Wants.none rfl) rfl (Gets.move rfl rfl) ?_
  refine TL.gets (Wants.none rfl) rfl (Gets.isTrue (Gets.geq rfl rfl rfl) hc) ?_
  refine TL.nil ?_
  refine TE.then ?_
  refine TC.yes rfl ?_
  refine TC.seq ?_
  refine TC.regionL ?_
  refine TL.gets (Wants.none rfl) rfl (Gets.build rfl (vs := []) rfl (fun w => by first | rfl | kernel_rfl) (v := .agg ([Value.int .i64 0, Value.int .i64 0]).toArray)) ?_
  refine TL.storeW (Wants.none rfl) rfl rfl size49 rfl (vs := [Value.int .i64 0, Value.int .i64 0]) rfl (by simp []) (by simp [Value.oneCell']) (i := 0) (ent := ⟨g3, 49, [Value.int .i64 0, Value.int .i64 0], 2⟩) rfl rfl (by simp []) (H' := [⟨g3, 49, [Value.int .i64 0, Value.int .i64 0], 2⟩, ⟨g2, 49, [Value.int .i64 p, Value.int .i64 n], 2⟩, ⟨g1, 49, [Value.int .i64 o, Value.int .i64 l], 2⟩]) rfl ?_
  refine TL.nil ?_
  refine TE.then ?_
  refine TC.ret ?_
  refine TE.thenR ?_
  exact TE.retC rfl agg49 size49 rfl (vs := [Value.int .i64 0, Value.int .i64 0]) rfl (Row.all (i := 0) (ent := ⟨g3, 49, [Value.int .i64 0, Value.int .i64 0], 2⟩) rfl rfl rfl) (fun w hs => ⟨rfl, (((hs.drop (by assumption)).drop (by assumption)).drop (by assumption))⟩)

set_option maxRecDepth 100000 in
set_option maxHeartbeats 400000 in
theorem roverlap_yes (o l p n : Int) (ho : -9223372036854775808 ≤ o + l ∧ o + l ≤ 9223372036854775807) (hp : -9223372036854775808 ≤ p + n ∧ p + n ≤ 9223372036854775807) (hc : ¬ min (o + l) (p + n) ≤ max o p) (bo : 0 ≤ o) (bp : 0 ≤ p) (w : World) : Calls Try.prog 27 #[.agg ([Value.int .i64 o, Value.int .i64 l]).toArray, .agg ([Value.int .i64 p, Value.int .i64 n]).toArray] w fun e w' => e = .returned (.agg ([Value.int .i64 (max o p), Value.int .i64 ((min (o + l) (p + n)) - (max o p))]).toArray) ∧ St w [] w' := by
  refine calls_from (args := [.agg ([Value.int .i64 o, Value.int .i64 l]).toArray, .agg ([Value.int .i64 p, Value.int .i64 n]).toArray]) Try.func27 rfl Try.ntmps27 (by simp) ?_
  refine TC.sub (Sub.cons (i := 0) rfl (Sub.cons (i := 1) rfl (Sub.nil))) ?_
  refine TC.seq ?_
  refine TC.regionL ?_
  refine TL.box (Wants.none rfl) rfl rfl rfl (cs := [Value.int .i64 o, Value.int .i64 l]) (by simp [Value.cells]) (tot := 2) (by simp []) (fun g1 hg1 => ?_)
  refine TL.box (Wants.none rfl) rfl rfl rfl (cs := [Value.int .i64 p, Value.int .i64 n]) (by simp [Value.cells]) (tot := 2) (by simp []) (fun g2 hg2 => ?_)
  refine TL.alloc (Wants.none rfl) rfl rfl zero49 (cs := [Value.int .i64 0, Value.int .i64 0]) rfl (tot := 2) (by simp) (fun g3 hg3 => ?_)
  refine TL.nil ?_
  refine TE.then ?_
  refine TC.seq ?_
  refine TC.regionL ?_
  refine TL.gets (Wants.none rfl) rfl (Gets.fieldAddr rfl Try.underlying49 rfl size3 rfl (off' := 0) (by first | rfl | omega)) ?_
  refine TL.gets (Wants.none rfl) rfl (Gets.load1 rfl agg3 rfl (At.ent (i := 2) (ent := ⟨g1, 49, [Value.int .i64 o, Value.int .i64 l], 2⟩) (off := 0) rfl rfl (by exact rfl))) ?_
  refine TL.gets (Wants.none rfl) rfl (Gets.fieldAddr rfl Try.underlying49 rfl size3 rfl (off' := 0) (by first | rfl | omega)) ?_
  refine TL.gets (Wants.none rfl) rfl (Gets.load1 rfl agg3 rfl (At.ent (i := 1) (ent := ⟨g2, 49, [Value.int .i64 p, Value.int .i64 n], 2⟩) (off := 0) rfl rfl (by exact rfl))) ?_
  refine TL.gets (Wants.none rfl) rfl (Gets.congr (Gets.max2 rfl rfl rfl) (by rw [ifmax])) ?_
  refine TL.gets (Wants.none rfl) rfl (Gets.assign rfl rfl) ?_
  refine TL.nil ?_
  refine TE.then ?_
  refine TC.sub (Sub.cons (i := 2) rfl (Sub.cons (i := 3) rfl (Sub.cons (i := 4) rfl (Sub.cons (i := 5) rfl (Sub.nil))))) ?_
  refine TC.seq ?_
  refine TC.regionL ?_
  refine TL.gets (Wants.none rfl) rfl (Gets.fieldAddr rfl Try.underlying49 rfl size3 rfl (off' := 0) (by first | rfl | omega)) ?_
  refine TL.gets (Wants.none rfl) rfl (Gets.load1 rfl agg3 rfl (At.ent (i := 2) (ent := ⟨g1, 49, [Value.int .i64 o, Value.int .i64 l], 2⟩) (off := 0) rfl rfl (by exact rfl))) ?_
  refine TL.gets (Wants.none rfl) rfl (Gets.fieldAddr rfl Try.underlying49 rfl size3 rfl (off' := 1) (by first | rfl | omega)) ?_
  refine TL.gets (Wants.none rfl) rfl (Gets.load1 rfl agg3 rfl (At.ent (i := 2) (ent := ⟨g1, 49, [Value.int .i64 o, Value.int .i64 l], 2⟩) (off := 1) rfl rfl (by exact rfl))) ?_
  refine TL.gets (Wants.none rfl) rfl (Gets.add rfl rfl rfl (r := (o + l)) (w64 (by omega) (by omega))) ?_
  refine TL.gets (Wants.none rfl) rfl (Gets.fieldAddr rfl Try.underlying49 rfl size3 rfl (off' := 0) (by first | rfl | omega)) ?_
  refine TL.gets (Wants.none rfl) rfl (Gets.load1 rfl agg3 rfl (At.ent (i := 1) (ent := ⟨g2, 49, [Value.int .i64 p, Value.int .i64 n], 2⟩) (off := 0) rfl rfl (by exact rfl))) ?_
  refine TL.gets (Wants.none rfl) rfl (Gets.fieldAddr rfl Try.underlying49 rfl size3 rfl (off' := 1) (by first | rfl | omega)) ?_
  refine TL.gets (Wants.none rfl) rfl (Gets.load1 rfl agg3 rfl (At.ent (i := 1) (ent := ⟨g2, 49, [Value.int .i64 p, Value.int .i64 n], 2⟩) (off := 1) rfl rfl (by exact rfl))) ?_
  refine TL.gets (Wants.none rfl) rfl (Gets.add rfl rfl rfl (r := (p + n)) (w64 (by omega) (by omega))) ?_
  refine TL.gets (Wants.none rfl) rfl (Gets.congr (Gets.min2 rfl rfl rfl) (by rw [ifmin])) ?_
  refine TL.gets (Wants.none rfl) rfl (Gets.assign rfl rfl) ?_
  refine TL.nil ?_
  refine TE.then ?_
  refine TC.sub (Sub.cons (i := 4) rfl (Sub.cons (i := 5) rfl (Sub.cons (i := 6) rfl (Sub.nil)))) ?_
  refine TC.seq ?_
  refine TC.seq ?_
  refine TC.regionL ?_
  refine TL.gets (Wants.none rfl) rfl (Gets.move rfl rfl) ?_
  refine TL.gets (Wants.none rfl) rfl (Gets.move rfl rfl) ?_
  refine TL.gets (Wants.none rfl) rfl (Gets.isFalse (Gets.geq rfl rfl rfl) hc) ?_
  refine TL.nil ?_
  refine TE.then ?_
  refine TC.no rfl ?_
  refine TC.skip ?_
  refine TE.then ?_
  refine TC.seq ?_
  refine TC.regionL ?_
  refine TL.gets (Wants.none rfl) rfl (Gets.move rfl rfl) ?_
  refine TL.gets (Wants.none rfl) rfl (Gets.move rfl rfl) ?_
  refine TL.gets (Wants.none rfl) rfl (Gets.move rfl rfl) ?_
  refine TL.gets (Wants.none rfl) rfl (Gets.sub rfl rfl rfl (r := ((min (o + l) (p + n)) - (max o p))) (w64 (by omega) (by omega))) ?_
  refine TL.gets (Wants.none rfl) rfl (Gets.build rfl (vs := [(0, Value.int .i64 (max o p)), (1, Value.int .i64 ((min (o + l) (p + n)) - (max o p)))]) rfl (fun w => by first | rfl | kernel_rfl) (v := .agg ([Value.int .i64 (max o p), Value.int .i64 ((min (o + l) (p + n)) - (max o p))]).toArray)) ?_
  refine TL.storeW (Wants.none rfl) rfl rfl size49 rfl (vs := [Value.int .i64 (max o p), Value.int .i64 ((min (o + l) (p + n)) - (max o p))]) rfl (by simp []) (by simp [Value.oneCell']) (i := 0) (ent := ⟨g3, 49, [Value.int .i64 0, Value.int .i64 0], 2⟩) rfl rfl (by simp []) (H' := [⟨g3, 49, [Value.int .i64 (max o p), Value.int .i64 ((min (o + l) (p + n)) - (max o p))], 2⟩, ⟨g2, 49, [Value.int .i64 p, Value.int .i64 n], 2⟩, ⟨g1, 49, [Value.int .i64 o, Value.int .i64 l], 2⟩]) rfl ?_
  refine TL.nil ?_
  refine TE.then ?_
  refine TC.ret ?_
  exact TE.retC rfl agg49 size49 rfl (vs := [Value.int .i64 (max o p), Value.int .i64 ((min (o + l) (p + n)) - (max o p))]) rfl (Row.all (i := 0) (ent := ⟨g3, 49, [Value.int .i64 (max o p), Value.int .i64 ((min (o + l) (p + n)) - (max o p))], 2⟩) rfl rfl rfl) (fun w hs => ⟨rfl, (((hs.drop (by assumption)).drop (by assumption)).drop (by assumption))⟩)
end Go.Proofs.Ytkgamkjdkapchaa
