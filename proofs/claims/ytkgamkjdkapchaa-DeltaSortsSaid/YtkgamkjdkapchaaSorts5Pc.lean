/-
  The reference of layer 5: Few, single, Find.
-/
import Derived.Test.YtkgamkjdkapchaaSorts5Pb
import Derived.Test.YtkgamkjdkapchaaSorts5Pa
/-
  Contracts of the reference: Len, Target, Source, Check, Overlaps.
-/
namespace Go.Proofs.Ytkgamkjdkapchaa
set_option linter.unusedVariables false
set_option linter.unusedSimpArgs false
open Go Go.RowKit
theorem enters20 : Enters Try.prog 20 := ⟨_, Try.func20, by kernel_rfl, by kernel_rfl⟩
theorem enters28 : Enters Try.prog 28 := ⟨_, Try.func28, by kernel_rfl, by kernel_rfl⟩
theorem enters60 : Enters Try.prog 60 := ⟨_, Try.func60, by kernel_rfl, by kernel_rfl⟩
theorem enters61 : Enters Try.prog 61 := ⟨_, Try.func61, by kernel_rfl, by kernel_rfl⟩
set_option maxRecDepth 100000 in
set_option maxHeartbeats 400000 in
theorem rlen1 (t f l : Int) (A : Option Addr) (m c : Nat) (w : World) : Calls Try.prog 20 #[.agg ([Value.int .i64 1, Value.int .i64 t, Value.int .i64 f, Value.int .i64 l, Value.slice A m c]).toArray] w fun e w' => e = .returned (.int .i64 l) ∧ St w [] w' := by
  refine calls_from (args := [.agg ([Value.int .i64 1, Value.int .i64 t, Value.int .i64 f, Value.int .i64 l, Value.slice A m c]).toArray]) Try.func20 rfl Try.ntmps20 (by simp) ?_
  refine TC.sub (Sub.cons (i := 0) rfl (Sub.nil)) ?_
  refine TC.seq ?_
  refine TC.regionL ?_
  refine TL.box (Wants.none rfl) rfl rfl rfl (cs := [Value.int .i64 1, Value.int .i64 t, Value.int .i64 f, Value.int .i64 l, Value.slice A m c]) (by simp [Value.cells]) (tot := 5) (by simp []) (fun g1 hg1 => ?_)
  refine TL.gets (Wants.none rfl) rfl (Gets.assign rfl rfl) ?_
  refine TL.nil ?_
  refine TE.then ?_
  refine TC.seq ?_
  refine TC.seq ?_
  refine TC.regionL ?_
  refine TL.gets (Wants.none rfl) rfl (Gets.fieldAddr rfl Try.underlying40 rfl size3 rfl (off' := 0) (by first | rfl | omega)) ?_
  refine TL.gets (Wants.none rfl) rfl (Gets.load1 rfl agg3 rfl (At.ent (i := 0) (ent := ⟨g1, 40, [Value.int .i64 1, Value.int .i64 t, Value.int .i64 f, Value.int .i64 l, Value.slice A m c], 5⟩) (off := 0) rfl rfl (by exact rfl))) ?_
  refine TL.gets (Wants.none rfl) rfl (Gets.isTrue (Gets.eql rfl rfl rfl) rfl) ?_
  refine TL.nil ?_
  refine TE.then ?_
  refine TC.yes rfl ?_
  refine TC.seq ?_
  refine TC.regionL ?_
  refine TL.gets (Wants.none rfl) rfl (Gets.fieldAddr rfl Try.underlying40 rfl size3 rfl (off' := 3) (by first | rfl | omega)) ?_
  refine TL.gets (Wants.none rfl) rfl (Gets.load1 rfl agg3 rfl (At.ent (i := 0) (ent := ⟨g1, 40, [Value.int .i64 1, Value.int .i64 t, Value.int .i64 f, Value.int .i64 l, Value.slice A m c], 5⟩) (off := 3) rfl rfl (by exact rfl))) ?_
  refine TL.gets (Wants.none rfl) rfl (Gets.assign rfl rfl) ?_
  refine TL.nil ?_
  refine TE.then ?_
  refine TC.ret ?_
  refine TE.thenR ?_
  exact TE.ret1 rfl rfl (fun w hs => ⟨ret_i (rfl), (hs.drop (by assumption))⟩)

set_option maxRecDepth 100000 in
set_option maxHeartbeats 400000 in
theorem rlen2 (k t f l : Int) (A : Option Addr) (m c : Nat) (h1 : ¬ k = 1) (w : World) : Calls Try.prog 20 #[.agg ([Value.int .i64 k, Value.int .i64 t, Value.int .i64 f, Value.int .i64 l, Value.slice A m c]).toArray] w fun e w' => e = .returned (.int .i64 (m : Int)) ∧ St w [] w' := by
  refine calls_from (args := [.agg ([Value.int .i64 k, Value.int .i64 t, Value.int .i64 f, Value.int .i64 l, Value.slice A m c]).toArray]) Try.func20 rfl Try.ntmps20 (by simp) ?_
  refine TC.sub (Sub.cons (i := 0) rfl (Sub.nil)) ?_
  refine TC.seq ?_
  refine TC.regionL ?_
  refine TL.box (Wants.none rfl) rfl rfl rfl (cs := [Value.int .i64 k, Value.int .i64 t, Value.int .i64 f, Value.int .i64 l, Value.slice A m c]) (by simp [Value.cells]) (tot := 5) (by simp []) (fun g1 hg1 => ?_)
  refine TL.gets (Wants.none rfl) rfl (Gets.assign rfl rfl) ?_
  refine TL.nil ?_
  refine TE.then ?_
  refine TC.seq ?_
  refine TC.seq ?_
  refine TC.regionL ?_
  refine TL.gets (Wants.none rfl) rfl (Gets.fieldAddr rfl Try.underlying40 rfl size3 rfl (off' := 0) (by first | rfl | omega)) ?_
  refine TL.gets (Wants.none rfl) rfl (Gets.load1 rfl agg3 rfl (At.ent (i := 0) (ent := ⟨g1, 40, [Value.int .i64 k, Value.int .i64 t, Value.int .i64 f, Value.int .i64 l, Value.slice A m c], 5⟩) (off := 0) rfl rfl (by exact rfl))) ?_
  refine TL.gets (Wants.none rfl) rfl (Gets.isFalse (Gets.eql rfl rfl rfl) h1) ?_
  refine TL.nil ?_
  refine TE.then ?_
  refine TC.no rfl ?_
  refine TC.skip ?_
  refine TE.then ?_
  refine TC.seq ?_
  refine TC.regionL ?_
  refine TL.gets (Wants.none rfl) rfl (Gets.fieldAddr rfl Try.underlying40 rfl size38 rfl (off' := 4) (by first | rfl | omega)) ?_
  refine TL.gets (Wants.none rfl) rfl (Gets.load1 rfl agg38 rfl (At.ent (i := 0) (ent := ⟨g1, 40, [Value.int .i64 k, Value.int .i64 t, Value.int .i64 f, Value.int .i64 l, Value.slice A m c], 5⟩) (off := 4) rfl rfl (by exact rfl))) ?_
  refine TL.gets (Wants.none rfl) rfl (Gets.lenSlice rfl Try.underlying38 rfl) ?_
  refine TL.gets (Wants.none rfl) rfl (Gets.assign rfl rfl) ?_
  refine TL.nil ?_
  refine TE.then ?_
  refine TC.ret ?_
  exact TE.ret1 rfl rfl (fun w hs => ⟨ret_i (rfl), (hs.drop (by assumption))⟩)

set_option maxRecDepth 100000 in
set_option maxHeartbeats 400000 in
theorem rtarget1 (t f l : Int) (A : Option Addr) (m c : Nat) (w : World) : Calls Try.prog 28 #[.agg ([Value.int .i64 1, Value.int .i64 t, Value.int .i64 f, Value.int .i64 l, Value.slice A m c]).toArray] w fun e w' => e = .returned (.agg ([Value.int .i64 t, Value.int .i64 l]).toArray) ∧ St w [] w' := by
  refine calls_from (args := [.agg ([Value.int .i64 1, Value.int .i64 t, Value.int .i64 f, Value.int .i64 l, Value.slice A m c]).toArray]) Try.func28 rfl Try.ntmps28 (by simp) ?_
  refine TC.sub (Sub.cons (i := 0) rfl (Sub.nil)) ?_
  refine TC.seq ?_
  refine TC.regionL ?_
  refine TL.box (Wants.none rfl) rfl rfl rfl (cs := [Value.int .i64 1, Value.int .i64 t, Value.int .i64 f, Value.int .i64 l, Value.slice A m c]) (by simp [Value.cells]) (tot := 5) (by simp []) (fun g1 hg1 => ?_)
  refine TL.alloc (Wants.none rfl) rfl rfl zero49 (cs := [Value.int .i64 0, Value.int .i64 0]) rfl (tot := 2) (by simp) (fun g2 hg2 => ?_)
  refine TL.nil ?_
  refine TE.then ?_
  refine TC.seq ?_
  refine TC.mixS [⟨g1, 40, [Value.int .i64 1, Value.int .i64 t, Value.int .i64 f, Value.int .i64 l, Value.slice A m c], 5⟩] [⟨g2, 49, [Value.int .i64 0, Value.int .i64 0], 2⟩] (by kernel_rfl) [0, 1, 1, 1, 0, 4] [0, 1, 2, 3, 4, 5] [fun _ _ => True, fun _ _ => True, fun _ _ => True, fun _ _ => True, fun _ _ => True, fun _ _ => True] (by kernel_rfl) (by kernel_rfl) (perm_pick (p := [1, 0]) (by kernel_rfl) rfl) (Fresh.cons (by assumption) Fresh.nil) ?_
  refine TR.free (Wants.none rfl) rfl (fun _ => Gets.fieldAddr rfl Try.underlying40 rfl size3 rfl (off' := 1) (by first | rfl | omega)) ?_
  refine TR.gets (Wants.none rfl) rfl (fun Z hZ => Gets.load1 rfl agg3 rfl (At.ent (i := 0) (ent := ⟨g1, 40, [Value.int .i64 1, Value.int .i64 t, Value.int .i64 f, Value.int .i64 l, Value.slice A m c], 5⟩) (off := 1) rfl rfl (by exact rfl))) ?_
  refine TR.gets (Wants.none rfl) rfl (fun Z hZ => Gets.loadN rfl agg40 size40 rfl (vs := [Value.int .i64 1, Value.int .i64 t, Value.int .i64 f, Value.int .i64 l, Value.slice A m c]) (by simp []) (Row.all (i := 0) (ent := ⟨g1, 40, [Value.int .i64 1, Value.int .i64 t, Value.int .i64 f, Value.int .i64 l, Value.slice A m c], 5⟩) rfl rfl rfl)) ?_
  refine TR.call0 (Wants.none rfl) rfl enters20 rfl rfl (v := .int .i64 l) (fun Z w hZ hs => rlen1 t f l A m c w) ?_
  refine TR.free (Wants.none rfl) rfl (fun _ => Gets.build rfl (vs := [(0, Value.int .i64 t), (1, Value.int .i64 l)]) rfl (fun w => by first | rfl | kernel_rfl) (v := .agg ([Value.int .i64 t, Value.int .i64 l]).toArray)) ?_
  refine TR.storeW (Wants.none rfl) rfl rfl size49 rfl (vs := [Value.int .i64 t, Value.int .i64 l]) rfl rfl (by simp [Value.oneCell']) (i := 0) (ent := ⟨g2, 49, [Value.int .i64 0, Value.int .i64 0], 2⟩) rfl rfl rfl (D' := [⟨g2, 49, [Value.int .i64 t, Value.int .i64 l], 2⟩]) rfl (Fresh.cons (by assumption) Fresh.nil) ?_
  refine TR.nil ?_
  refine TE.then ?_
  refine TC.ret ?_
  exact TE.retC rfl agg49 size49 rfl (vs := [Value.int .i64 t, Value.int .i64 l]) rfl (Row.all (i := 1) (ent := ⟨g2, 49, [Value.int .i64 t, Value.int .i64 l], 2⟩) rfl rfl rfl) (fun w hs => ⟨rfl, ((hs.drop (by assumption)).drop (by assumption))⟩)

set_option maxRecDepth 100000 in
set_option maxHeartbeats 400000 in
theorem rtarget2 (k t f l : Int) (A : Option Addr) (m c : Nat) (h1 : ¬ k = 1) (w : World) : Calls Try.prog 28 #[.agg ([Value.int .i64 k, Value.int .i64 t, Value.int .i64 f, Value.int .i64 l, Value.slice A m c]).toArray] w fun e w' => e = .returned (.agg ([Value.int .i64 t, Value.int .i64 (m : Int)]).toArray) ∧ St w [] w' := by
  refine calls_from (args := [.agg ([Value.int .i64 k, Value.int .i64 t, Value.int .i64 f, Value.int .i64 l, Value.slice A m c]).toArray]) Try.func28 rfl Try.ntmps28 (by simp) ?_
  refine TC.sub (Sub.cons (i := 0) rfl (Sub.nil)) ?_
  refine TC.seq ?_
  refine TC.regionL ?_
  refine TL.box (Wants.none rfl) rfl rfl rfl (cs := [Value.int .i64 k, Value.int .i64 t, Value.int .i64 f, Value.int .i64 l, Value.slice A m c]) (by simp [Value.cells]) (tot := 5) (by simp []) (fun g1 hg1 => ?_)
  refine TL.alloc (Wants.none rfl) rfl rfl zero49 (cs := [Value.int .i64 0, Value.int .i64 0]) rfl (tot := 2) (by simp) (fun g2 hg2 => ?_)
  refine TL.nil ?_
  refine TE.then ?_
  refine TC.seq ?_
  refine TC.mixS [⟨g1, 40, [Value.int .i64 k, Value.int .i64 t, Value.int .i64 f, Value.int .i64 l, Value.slice A m c], 5⟩] [⟨g2, 49, [Value.int .i64 0, Value.int .i64 0], 2⟩] (by kernel_rfl) [0, 1, 1, 1, 0, 4] [0, 1, 2, 3, 4, 5] [fun _ _ => True, fun _ _ => True, fun _ _ => True, fun _ _ => True, fun _ _ => True, fun _ _ => True] (by kernel_rfl) (by kernel_rfl) (perm_pick (p := [1, 0]) (by kernel_rfl) rfl) (Fresh.cons (by assumption) Fresh.nil) ?_
  refine TR.free (Wants.none rfl) rfl (fun _ => Gets.fieldAddr rfl Try.underlying40 rfl size3 rfl (off' := 1) (by first | rfl | omega)) ?_
  refine TR.gets (Wants.none rfl) rfl (fun Z hZ => Gets.load1 rfl agg3 rfl (At.ent (i := 0) (ent := ⟨g1, 40, [Value.int .i64 k, Value.int .i64 t, Value.int .i64 f, Value.int .i64 l, Value.slice A m c], 5⟩) (off := 1) rfl rfl (by exact rfl))) ?_
  refine TR.gets (Wants.none rfl) rfl (fun Z hZ => Gets.loadN rfl agg40 size40 rfl (vs := [Value.int .i64 k, Value.int .i64 t, Value.int .i64 f, Value.int .i64 l, Value.slice A m c]) (by simp []) (Row.all (i := 0) (ent := ⟨g1, 40, [Value.int .i64 k, Value.int .i64 t, Value.int .i64 f, Value.int .i64 l, Value.slice A m c], 5⟩) rfl rfl rfl)) ?_
  refine TR.call0 (Wants.none rfl) rfl enters20 rfl rfl (v := .int .i64 (m : Int)) (fun Z w hZ hs => rlen2 k t f l A m c (by omega) w) ?_
  refine TR.free (Wants.none rfl) rfl (fun _ => Gets.build rfl (vs := [(0, Value.int .i64 t), (1, Value.int .i64 (m : Int))]) rfl (fun w => by first | rfl | kernel_rfl) (v := .agg ([Value.int .i64 t, Value.int .i64 (m : Int)]).toArray)) ?_
  refine TR.storeW (Wants.none rfl) rfl rfl size49 rfl (vs := [Value.int .i64 t, Value.int .i64 (m : Int)]) rfl rfl (by simp [Value.oneCell']) (i := 0) (ent := ⟨g2, 49, [Value.int .i64 0, Value.int .i64 0], 2⟩) rfl rfl rfl (D' := [⟨g2, 49, [Value.int .i64 t, Value.int .i64 (m : Int)], 2⟩]) rfl (Fresh.cons (by assumption) Fresh.nil) ?_
  refine TR.nil ?_
  refine TE.then ?_
  refine TC.ret ?_
  exact TE.retC rfl agg49 size49 rfl (vs := [Value.int .i64 t, Value.int .i64 (m : Int)]) rfl (Row.all (i := 1) (ent := ⟨g2, 49, [Value.int .i64 t, Value.int .i64 (m : Int)], 2⟩) rfl rfl rfl) (fun w hs => ⟨rfl, ((hs.drop (by assumption)).drop (by assumption))⟩)

set_option maxRecDepth 100000 in
set_option maxHeartbeats 400000 in
theorem rsource_c (k t f l : Int) (A : Option Addr) (m c : Nat) (w : World) : Calls Try.prog 61 #[.agg ([Value.int .i64 k, Value.int .i64 t, Value.int .i64 f, Value.int .i64 l, Value.slice A m c]).toArray] w fun e w' => e = .returned (.agg ([Value.int .i64 f, Value.int .i64 l]).toArray) ∧ St w [] w' := by
  refine calls_from (args := [.agg ([Value.int .i64 k, Value.int .i64 t, Value.int .i64 f, Value.int .i64 l, Value.slice A m c]).toArray]) Try.func61 rfl Try.ntmps61 (by simp) ?_
  refine TC.sub (Sub.cons (i := 0) rfl (Sub.nil)) ?_
  refine TC.seq ?_
  refine TC.regionL ?_
  refine TL.box (Wants.none rfl) rfl rfl rfl (cs := [Value.int .i64 k, Value.int .i64 t, Value.int .i64 f, Value.int .i64 l, Value.slice A m c]) (by simp [Value.cells]) (tot := 5) (by simp []) (fun g1 hg1 => ?_)
  refine TL.alloc (Wants.none rfl) rfl rfl zero49 (cs := [Value.int .i64 0, Value.int .i64 0]) rfl (tot := 2) (by simp) (fun g2 hg2 => ?_)
  refine TL.nil ?_
  refine TE.then ?_
  refine TC.seq ?_
  refine TC.regionL ?_
  refine TL.gets (Wants.none rfl) rfl (Gets.fieldAddr rfl Try.underlying40 rfl size3 rfl (off' := 2) (by first | rfl | omega)) ?_
  refine TL.gets (Wants.none rfl) rfl (Gets.load1 rfl agg3 rfl (At.ent (i := 1) (ent := ⟨g1, 40, [Value.int .i64 k, Value.int .i64 t, Value.int .i64 f, Value.int .i64 l, Value.slice A m c], 5⟩) (off := 2) rfl rfl (by exact rfl))) ?_
  refine TL.gets (Wants.none rfl) rfl (Gets.fieldAddr rfl Try.underlying40 rfl size3 rfl (off' := 3) (by first | rfl | omega)) ?_
  refine TL.gets (Wants.none rfl) rfl (Gets.load1 rfl agg3 rfl (At.ent (i := 1) (ent := ⟨g1, 40, [Value.int .i64 k, Value.int .i64 t, Value.int .i64 f, Value.int .i64 l, Value.slice A m c], 5⟩) (off := 3) rfl rfl (by exact rfl))) ?_
  refine TL.gets (Wants.none rfl) rfl (Gets.build rfl (vs := [(0, Value.int .i64 f), (1, Value.int .i64 l)]) rfl (fun w => by first | rfl | kernel_rfl) (v := .agg ([Value.int .i64 f, Value.int .i64 l]).toArray)) ?_
  refine TL.storeW (Wants.none rfl) rfl rfl size49 rfl (vs := [Value.int .i64 f, Value.int .i64 l]) rfl (by simp []) (by simp [Value.oneCell']) (i := 0) (ent := ⟨g2, 49, [Value.int .i64 0, Value.int .i64 0], 2⟩) rfl rfl (by simp []) (H' := [⟨g2, 49, [Value.int .i64 f, Value.int .i64 l], 2⟩, ⟨g1, 40, [Value.int .i64 k, Value.int .i64 t, Value.int .i64 f, Value.int .i64 l, Value.slice A m c], 5⟩]) rfl ?_
  refine TL.nil ?_
  refine TE.then ?_
  refine TC.ret ?_
  exact TE.retC rfl agg49 size49 rfl (vs := [Value.int .i64 f, Value.int .i64 l]) rfl (Row.all (i := 0) (ent := ⟨g2, 49, [Value.int .i64 f, Value.int .i64 l], 2⟩) rfl rfl rfl) (fun w hs => ⟨rfl, ((hs.drop (by assumption)).drop (by assumption))⟩)

set_option maxRecDepth 100000 in
set_option maxHeartbeats 400000 in
theorem rcheck1 (t f l : Int) (A : Option Addr) (m c : Nat) (bt : -9223372036854775808 ≤ t ∧ t ≤ 9223372036854775807) (bf : -9223372036854775808 ≤ f ∧ f ≤ 9223372036854775807) (bl : -9223372036854775808 ≤ l ∧ l ≤ 9223372036854775807) (w : World) : Calls Try.prog 43 #[.agg ([Value.int .i64 1, Value.int .i64 t, Value.int .i64 f, Value.int .i64 l, Value.slice A m c]).toArray] w fun e w' => e = .returned (.int .i64 (codeV 1 t f l m)) ∧ St w [] w' := by
  refine calls_from (args := [.agg ([Value.int .i64 1, Value.int .i64 t, Value.int .i64 f, Value.int .i64 l, Value.slice A m c]).toArray]) Try.func43 rfl Try.ntmps43 (by simp) ?_
  refine TC.sub (Sub.cons (i := 0) rfl (Sub.nil)) ?_
  refine TC.seq ?_
  refine TC.regionL ?_
  refine TL.box (Wants.none rfl) rfl rfl rfl (cs := [Value.int .i64 1, Value.int .i64 t, Value.int .i64 f, Value.int .i64 l, Value.slice A m c]) (by simp [Value.cells]) (tot := 5) (by simp []) (fun g1 hg1 => ?_)
  refine TL.gets (Wants.none rfl) rfl (Gets.assign rfl rfl) ?_
  refine TL.nil ?_
  refine TE.then ?_
  refine TC.seq ?_
  refine TC.seq ?_
  refine TC.regionL ?_
  refine TL.gets (Wants.none rfl) rfl (Gets.fieldAddr rfl Try.underlying40 rfl size3 rfl (off' := 0) (by first | rfl | omega)) ?_
  refine TL.gets (Wants.none rfl) rfl (Gets.load1 rfl agg3 rfl (At.ent (i := 0) (ent := ⟨g1, 40, [Value.int .i64 1, Value.int .i64 t, Value.int .i64 f, Value.int .i64 l, Value.slice A m c], 5⟩) (off := 0) rfl rfl (by exact rfl))) ?_
  refine TL.gets (Wants.none rfl) rfl (Gets.isFalse (Gets.neq rfl rfl rfl) (by decide)) ?_
  refine TL.gets (Wants.none rfl) rfl (Gets.move rfl rfl) ?_
  refine TL.pass rfl rfl rfl rfl rfl ?_
  refine TL.pass rfl rfl rfl rfl rfl ?_
  refine TL.pass rfl rfl rfl rfl rfl ?_
  refine TL.gets (Wants.none rfl) rfl (Gets.pickF rfl rfl rfl) ?_
  refine TL.nil ?_
  refine TE.then ?_
  refine TC.sub (Sub.cons (i := 1) rfl (Sub.cons (i := 2) rfl (Sub.cons (i := 10) rfl (Sub.nil)))) ?_
  refine TC.no rfl ?_
  refine TC.skip ?_
  refine TE.then ?_
  refine TC.seq ?_
  refine TC.seq ?_
  refine TC.regionL ?_
  refine TL.gets (Wants.none rfl) rfl (Gets.loadN rfl agg40 size40 rfl (vs := [Value.int .i64 1, Value.int .i64 t, Value.int .i64 f, Value.int .i64 l, Value.slice A m c]) (by simp []) (Row.all (i := 0) (ent := ⟨g1, 40, [Value.int .i64 1, Value.int .i64 t, Value.int .i64 f, Value.int .i64 l, Value.slice A m c], 5⟩) rfl rfl rfl)) ?_
  refine TL.call0 (Wants.none rfl) rfl enters20 rfl rfl (v := .int .i64 l) (fun w hs => rlen1 t f l A m c w) ?_
  refine TL.gets (Wants.none rfl) rfl (Gets.eql rfl rfl rfl) ?_
  refine TL.nil ?_
  refine TE.then ?_
  refine TC.split rfl (fun c0 => ?_) (fun c0 => ?_)
  · refine TC.seq ?_
    refine TC.regionL ?_
    refine TL.gets (Wants.none rfl) rfl (Gets.assign rfl rfl) ?_
    refine TL.nil ?_
    refine TE.then ?_
    refine TC.ret ?_
    refine TE.thenR ?_
    exact TE.ret1 rfl rfl (fun w hs => ⟨ret_i (by unfold codeV; (repeat' split) <;> first | rfl | (exfalso; (try unfold vld at *); omega)), (hs.drop (by assumption))⟩)
  · refine TC.skip ?_
    refine TE.then ?_
    refine TC.seq ?_
    refine TC.seq ?_
    refine TC.regionL ?_
    refine TL.gets (Wants.none rfl) rfl (Gets.loadN rfl agg40 size40 rfl (vs := [Value.int .i64 1, Value.int .i64 t, Value.int .i64 f, Value.int .i64 l, Value.slice A m c]) (by simp []) (Row.all (i := 0) (ent := ⟨g1, 40, [Value.int .i64 1, Value.int .i64 t, Value.int .i64 f, Value.int .i64 l, Value.slice A m c], 5⟩) rfl rfl rfl)) ?_
    refine TL.call0 (Wants.none rfl) rfl enters28 rfl rfl (v := .agg ([Value.int .i64 t, Value.int .i64 l]).toArray) (fun w hs => rtarget1 t f l A m c w) ?_
    by_cases ct : vld t l
    · refine TL.call0 (Wants.none rfl) rfl enters60 rfl rfl (v := .bool true) (fun w hs => (rvalid_c t l (by omega) (by omega) w).mono fun e w' h => by rw [decide_eq_true (p := vld t l) ct] at h; exact h) ?_
      refine TL.gets (Wants.none rfl) rfl (Gets.not rfl rfl) ?_
      refine TL.nil ?_
      refine TE.then ?_
      refine TC.sub (Sub.cons (i := 1) rfl (Sub.cons (i := 2) rfl (Sub.cons (i := 17) rfl (Sub.nil)))) ?_
      refine TC.no rfl ?_
      refine TC.skip ?_
      refine TE.then ?_
      refine TC.seq ?_
      refine TC.seq ?_
      refine TC.regionL ?_
      refine TL.gets (Wants.none rfl) rfl (Gets.fieldAddr rfl Try.underlying40 rfl size3 rfl (off' := 0) (by first | rfl | omega)) ?_
      refine TL.gets (Wants.none rfl) rfl (Gets.load1 rfl agg3 rfl (At.ent (i := 0) (ent := ⟨g1, 40, [Value.int .i64 1, Value.int .i64 t, Value.int .i64 f, Value.int .i64 l, Value.slice A m c], 5⟩) (off := 0) rfl rfl (by exact rfl))) ?_
      refine TL.gets (Wants.none rfl) rfl (Gets.isTrue (Gets.eql rfl rfl rfl) rfl) ?_
      refine TL.gets (Wants.none rfl) rfl (Gets.move rfl rfl) ?_
      refine TL.gets (Wants.yes rfl rfl rfl) rfl (Gets.fieldAddr rfl Try.underlying40 rfl size38 rfl (off' := 4) (by first | rfl | omega)) ?_
      refine TL.gets (Wants.yes rfl rfl rfl) rfl (Gets.load1 rfl agg38 rfl (At.ent (i := 0) (ent := ⟨g1, 40, [Value.int .i64 1, Value.int .i64 t, Value.int .i64 f, Value.int .i64 l, Value.slice A m c], 5⟩) (off := 4) rfl rfl (by exact rfl))) ?_
      refine TL.gets (Wants.yes rfl rfl rfl) rfl (Gets.lenSlice rfl Try.underlying38 rfl) ?_
      by_cases cm : 0 < (m : Int)
      · refine TL.gets (Wants.yes rfl rfl rfl) rfl (Gets.isTrue (Gets.gtr rfl rfl rfl) cm) ?_
        refine TL.gets (Wants.yes rfl rfl rfl) rfl (Gets.move rfl rfl) ?_
        refine TL.pass rfl rfl rfl rfl rfl ?_
        refine TL.pass rfl rfl rfl rfl rfl ?_
        refine TL.pass rfl rfl rfl rfl rfl ?_
        refine TL.pass rfl rfl rfl rfl rfl ?_
        refine TL.gets (Wants.yes rfl rfl rfl) rfl (Gets.pickT rfl rfl rfl) ?_
        refine TL.gets (Wants.none rfl) rfl (Gets.pickT rfl rfl rfl) ?_
        refine TL.nil ?_
        refine TE.then ?_
        refine TC.sub (Sub.cons (i := 1) rfl (Sub.cons (i := 2) rfl (Sub.cons (i := 32) rfl (Sub.nil)))) ?_
        refine TC.yes rfl ?_
        refine TC.seq ?_
        refine TC.regionL ?_
        refine TL.gets (Wants.none rfl) rfl (Gets.assign rfl rfl) ?_
        refine TL.nil ?_
        refine TE.then ?_
        refine TC.ret ?_
        refine TE.thenR ?_
        exact TE.ret1 rfl rfl (fun w hs => ⟨ret_i (by unfold codeV; (repeat' split) <;> first | rfl | (exfalso; (try unfold vld at *); omega)), (hs.drop (by assumption))⟩)
      · refine TL.gets (Wants.yes rfl rfl rfl) rfl (Gets.isFalse (Gets.gtr rfl rfl rfl) cm) ?_
        refine TL.gets (Wants.yes rfl rfl rfl) rfl (Gets.move rfl rfl) ?_
        refine TL.gets (Wants.yes rfl rfl rfl) rfl (Gets.loadN rfl agg40 size40 rfl (vs := [Value.int .i64 1, Value.int .i64 t, Value.int .i64 f, Value.int .i64 l, Value.slice A m c]) (by simp []) (Row.all (i := 0) (ent := ⟨g1, 40, [Value.int .i64 1, Value.int .i64 t, Value.int .i64 f, Value.int .i64 l, Value.slice A m c], 5⟩) rfl rfl rfl)) ?_
        refine TL.call0 (Wants.yes rfl rfl rfl) rfl enters61 rfl rfl (v := .agg ([Value.int .i64 f, Value.int .i64 l]).toArray) (fun w hs => rsource_c 1 t f l A m c w) ?_
        by_cases cf : vld f l
        · refine TL.call0 (Wants.yes rfl rfl rfl) rfl enters60 rfl rfl (v := .bool true) (fun w hs => (rvalid_c f l (by omega) (by omega) w).mono fun e w' h => by rw [decide_eq_true (p := vld f l) cf] at h; exact h) ?_
          refine TL.gets (Wants.yes rfl rfl rfl) rfl (Gets.not rfl rfl) ?_
          refine TL.gets (Wants.yes rfl rfl rfl) rfl (Gets.pickF rfl rfl rfl) ?_
          refine TL.gets (Wants.none rfl) rfl (Gets.pickT rfl rfl rfl) ?_
          refine TL.nil ?_
          refine TE.then ?_
          refine TC.sub (Sub.cons (i := 1) rfl (Sub.cons (i := 2) rfl (Sub.cons (i := 32) rfl (Sub.nil)))) ?_
          refine TC.no rfl ?_
          refine TC.skip ?_
          refine TE.then ?_
          refine TC.seq ?_
          refine TC.seq ?_
          refine TC.regionL ?_
          refine TL.gets (Wants.none rfl) rfl (Gets.fieldAddr rfl Try.underlying40 rfl size3 rfl (off' := 0) (by first | rfl | omega)) ?_
          refine TL.gets (Wants.none rfl) rfl (Gets.load1 rfl agg3 rfl (At.ent (i := 0) (ent := ⟨g1, 40, [Value.int .i64 1, Value.int .i64 t, Value.int .i64 f, Value.int .i64 l, Value.slice A m c], 5⟩) (off := 0) rfl rfl (by exact rfl))) ?_
          refine TL.gets (Wants.none rfl) rfl (Gets.isFalse (Gets.eql rfl rfl rfl) (by decide)) ?_
          refine TL.gets (Wants.none rfl) rfl (Gets.move rfl rfl) ?_
          refine TL.pass rfl rfl rfl rfl rfl ?_
          refine TL.pass rfl rfl rfl rfl rfl ?_
          refine TL.pass rfl rfl rfl rfl rfl ?_
          refine TL.pass rfl rfl rfl rfl rfl ?_
          refine TL.passU rfl rfl rfl rfl ?_
          refine TL.passU rfl rfl rfl rfl ?_
          refine TL.passU rfl rfl rfl rfl ?_
          refine TL.pass rfl rfl rfl rfl rfl ?_
          refine TL.gets (Wants.none rfl) rfl (Gets.pickF rfl rfl rfl) ?_
          refine TL.nil ?_
          refine TE.then ?_
          refine TC.sub (Sub.cons (i := 2) rfl (Sub.cons (i := 45) rfl (Sub.nil))) ?_
          refine TC.no rfl ?_
          refine TC.skip ?_
          refine TE.then ?_
          refine TC.seq ?_
          refine TC.regionL ?_
          refine TL.gets (Wants.none rfl) rfl (Gets.assign rfl rfl) ?_
          refine TL.nil ?_
          refine TE.then ?_
          refine TC.ret ?_
          exact TE.ret1 rfl rfl (fun w hs => ⟨ret_i (by unfold codeV; (repeat' split) <;> first | rfl | (exfalso; (try unfold vld at *); omega)), (hs.drop (by assumption))⟩)
        · refine TL.call0 (Wants.yes rfl rfl rfl) rfl enters60 rfl rfl (v := .bool false) (fun w hs => (rvalid_c f l (by omega) (by omega) w).mono fun e w' h => by rw [decide_eq_false (p := vld f l) cf] at h; exact h) ?_
          refine TL.gets (Wants.yes rfl rfl rfl) rfl (Gets.not rfl rfl) ?_
          refine TL.gets (Wants.yes rfl rfl rfl) rfl (Gets.pickF rfl rfl rfl) ?_
          refine TL.gets (Wants.none rfl) rfl (Gets.pickT rfl rfl rfl) ?_
          refine TL.nil ?_
          refine TE.then ?_
          refine TC.sub (Sub.cons (i := 1) rfl (Sub.cons (i := 2) rfl (Sub.cons (i := 32) rfl (Sub.nil)))) ?_
          refine TC.yes rfl ?_
          refine TC.seq ?_
          refine TC.regionL ?_
          refine TL.gets (Wants.none rfl) rfl (Gets.assign rfl rfl) ?_
          refine TL.nil ?_
          refine TE.then ?_
          refine TC.ret ?_
          refine TE.thenR ?_
          exact TE.ret1 rfl rfl (fun w hs => ⟨ret_i (by unfold codeV; (repeat' split) <;> first | rfl | (exfalso; (try unfold vld at *); omega)), (hs.drop (by assumption))⟩)
    · refine TL.call0 (Wants.none rfl) rfl enters60 rfl rfl (v := .bool false) (fun w hs => (rvalid_c t l (by omega) (by omega) w).mono fun e w' h => by rw [decide_eq_false (p := vld t l) ct] at h; exact h) ?_
      refine TL.gets (Wants.none rfl) rfl (Gets.not rfl rfl) ?_
      refine TL.nil ?_
      refine TE.then ?_
      refine TC.sub (Sub.cons (i := 1) rfl (Sub.cons (i := 2) rfl (Sub.cons (i := 17) rfl (Sub.nil)))) ?_
      refine TC.yes rfl ?_
      refine TC.seq ?_
      refine TC.regionL ?_
      refine TL.gets (Wants.none rfl) rfl (Gets.assign rfl rfl) ?_
      refine TL.nil ?_
      refine TE.then ?_
      refine TC.ret ?_
      refine TE.thenR ?_
      exact TE.ret1 rfl rfl (fun w hs => ⟨ret_i (by unfold codeV; (repeat' split) <;> first | rfl | (exfalso; (try unfold vld at *); omega)), (hs.drop (by assumption))⟩)

set_option maxRecDepth 100000 in
set_option maxHeartbeats 400000 in
theorem rcheck2 (t f l : Int) (A : Option Addr) (m c : Nat) (hmr : m ≤ 9223372036854775807) (bt : -9223372036854775808 ≤ t ∧ t ≤ 9223372036854775807) (bf : -9223372036854775808 ≤ f ∧ f ≤ 9223372036854775807) (bl : -9223372036854775808 ≤ l ∧ l ≤ 9223372036854775807) (w : World) : Calls Try.prog 43 #[.agg ([Value.int .i64 2, Value.int .i64 t, Value.int .i64 f, Value.int .i64 l, Value.slice A m c]).toArray] w fun e w' => e = .returned (.int .i64 (codeV 2 t f l m)) ∧ St w [] w' := by
  refine calls_from (args := [.agg ([Value.int .i64 2, Value.int .i64 t, Value.int .i64 f, Value.int .i64 l, Value.slice A m c]).toArray]) Try.func43 rfl Try.ntmps43 (by simp) ?_
  refine TC.sub (Sub.cons (i := 0) rfl (Sub.nil)) ?_
  refine TC.seq ?_
  refine TC.regionL ?_
  refine TL.box (Wants.none rfl) rfl rfl rfl (cs := [Value.int .i64 2, Value.int .i64 t, Value.int .i64 f, Value.int .i64 l, Value.slice A m c]) (by simp [Value.cells]) (tot := 5) (by simp []) (fun g1 hg1 => ?_)
  refine TL.gets (Wants.none rfl) rfl (Gets.assign rfl rfl) ?_
  refine TL.nil ?_
  refine TE.then ?_
  refine TC.seq ?_
  refine TC.seq ?_
  refine TC.regionL ?_
  refine TL.gets (Wants.none rfl) rfl (Gets.fieldAddr rfl Try.underlying40 rfl size3 rfl (off' := 0) (by first | rfl | omega)) ?_
  refine TL.gets (Wants.none rfl) rfl (Gets.load1 rfl agg3 rfl (At.ent (i := 0) (ent := ⟨g1, 40, [Value.int .i64 2, Value.int .i64 t, Value.int .i64 f, Value.int .i64 l, Value.slice A m c], 5⟩) (off := 0) rfl rfl (by exact rfl))) ?_
  refine TL.gets (Wants.none rfl) rfl (Gets.isTrue (Gets.neq rfl rfl rfl) (by decide)) ?_
  refine TL.gets (Wants.none rfl) rfl (Gets.move rfl rfl) ?_
  refine TL.gets (Wants.yes rfl rfl rfl) rfl (Gets.fieldAddr rfl Try.underlying40 rfl size3 rfl (off' := 0) (by first | rfl | omega)) ?_
  refine TL.gets (Wants.yes rfl rfl rfl) rfl (Gets.load1 rfl agg3 rfl (At.ent (i := 0) (ent := ⟨g1, 40, [Value.int .i64 2, Value.int .i64 t, Value.int .i64 f, Value.int .i64 l, Value.slice A m c], 5⟩) (off := 0) rfl rfl (by exact rfl))) ?_
  refine TL.gets (Wants.yes rfl rfl rfl) rfl (Gets.isFalse (Gets.neq rfl rfl rfl) (by decide)) ?_
  refine TL.gets (Wants.none rfl) rfl (Gets.pickT rfl rfl rfl) ?_
  refine TL.nil ?_
  refine TE.then ?_
  refine TC.sub (Sub.cons (i := 1) rfl (Sub.cons (i := 2) rfl (Sub.cons (i := 10) rfl (Sub.nil)))) ?_
  refine TC.no rfl ?_
  refine TC.skip ?_
  refine TE.then ?_
  refine TC.seq ?_
  refine TC.seq ?_
  refine TC.regionL ?_
  refine TL.gets (Wants.none rfl) rfl (Gets.loadN rfl agg40 size40 rfl (vs := [Value.int .i64 2, Value.int .i64 t, Value.int .i64 f, Value.int .i64 l, Value.slice A m c]) (by simp []) (Row.all (i := 0) (ent := ⟨g1, 40, [Value.int .i64 2, Value.int .i64 t, Value.int .i64 f, Value.int .i64 l, Value.slice A m c], 5⟩) rfl rfl rfl)) ?_
  refine TL.call0 (Wants.none rfl) rfl enters20 rfl rfl (v := .int .i64 (m : Int)) (fun w hs => rlen2 2 t f l A m c (by omega) w) ?_
  refine TL.gets (Wants.none rfl) rfl (Gets.eql rfl rfl rfl) ?_
  refine TL.nil ?_
  refine TE.then ?_
  refine TC.split rfl (fun c0 => ?_) (fun c0 => ?_)
  · refine TC.seq ?_
    refine TC.regionL ?_
    refine TL.gets (Wants.none rfl) rfl (Gets.assign rfl rfl) ?_
    refine TL.nil ?_
    refine TE.then ?_
    refine TC.ret ?_
    refine TE.thenR ?_
    exact TE.ret1 rfl rfl (fun w hs => ⟨ret_i (by unfold codeV; (repeat' split) <;> first | rfl | (exfalso; (try unfold vld at *); omega)), (hs.drop (by assumption))⟩)
  · refine TC.skip ?_
    refine TE.then ?_
    refine TC.seq ?_
    refine TC.seq ?_
    refine TC.regionL ?_
    refine TL.gets (Wants.none rfl) rfl (Gets.loadN rfl agg40 size40 rfl (vs := [Value.int .i64 2, Value.int .i64 t, Value.int .i64 f, Value.int .i64 l, Value.slice A m c]) (by simp []) (Row.all (i := 0) (ent := ⟨g1, 40, [Value.int .i64 2, Value.int .i64 t, Value.int .i64 f, Value.int .i64 l, Value.slice A m c], 5⟩) rfl rfl rfl)) ?_
    refine TL.call0 (Wants.none rfl) rfl enters28 rfl rfl (v := .agg ([Value.int .i64 t, Value.int .i64 (m : Int)]).toArray) (fun w hs => rtarget2 2 t f l A m c (by omega) w) ?_
    by_cases ct : vld t (m : Int)
    · refine TL.call0 (Wants.none rfl) rfl enters60 rfl rfl (v := .bool true) (fun w hs => (rvalid_c t (m : Int) (by omega) (by omega) w).mono fun e w' h => by rw [decide_eq_true (p := vld t (m : Int)) ct] at h; exact h) ?_
      refine TL.gets (Wants.none rfl) rfl (Gets.not rfl rfl) ?_
      refine TL.nil ?_
      refine TE.then ?_
      refine TC.sub (Sub.cons (i := 1) rfl (Sub.cons (i := 2) rfl (Sub.cons (i := 17) rfl (Sub.nil)))) ?_
      refine TC.no rfl ?_
      refine TC.skip ?_
      refine TE.then ?_
      refine TC.seq ?_
      refine TC.seq ?_
      refine TC.regionL ?_
      refine TL.gets (Wants.none rfl) rfl (Gets.fieldAddr rfl Try.underlying40 rfl size3 rfl (off' := 0) (by first | rfl | omega)) ?_
      refine TL.gets (Wants.none rfl) rfl (Gets.load1 rfl agg3 rfl (At.ent (i := 0) (ent := ⟨g1, 40, [Value.int .i64 2, Value.int .i64 t, Value.int .i64 f, Value.int .i64 l, Value.slice A m c], 5⟩) (off := 0) rfl rfl (by exact rfl))) ?_
      refine TL.gets (Wants.none rfl) rfl (Gets.isFalse (Gets.eql rfl rfl rfl) (by decide)) ?_
      refine TL.gets (Wants.none rfl) rfl (Gets.move rfl rfl) ?_
      refine TL.pass rfl rfl rfl rfl rfl ?_
      refine TL.pass rfl rfl rfl rfl rfl ?_
      refine TL.pass rfl rfl rfl rfl rfl ?_
      refine TL.pass rfl rfl rfl rfl rfl ?_
      refine TL.pass rfl rfl rfl rfl rfl ?_
      refine TL.passU rfl rfl rfl rfl ?_
      refine TL.passU rfl rfl rfl rfl ?_
      refine TL.passU rfl rfl rfl rfl ?_
      refine TL.passU rfl rfl rfl rfl ?_
      refine TL.pass rfl rfl rfl rfl rfl ?_
      refine TL.gets (Wants.none rfl) rfl (Gets.pickF rfl rfl rfl) ?_
      refine TL.nil ?_
      refine TE.then ?_
      refine TC.sub (Sub.cons (i := 1) rfl (Sub.cons (i := 2) rfl (Sub.cons (i := 32) rfl (Sub.nil)))) ?_
      refine TC.no rfl ?_
      refine TC.skip ?_
      refine TE.then ?_
      refine TC.seq ?_
      refine TC.seq ?_
      refine TC.regionL ?_
      refine TL.gets (Wants.none rfl) rfl (Gets.fieldAddr rfl Try.underlying40 rfl size3 rfl (off' := 0) (by first | rfl | omega)) ?_
      refine TL.gets (Wants.none rfl) rfl (Gets.load1 rfl agg3 rfl (At.ent (i := 0) (ent := ⟨g1, 40, [Value.int .i64 2, Value.int .i64 t, Value.int .i64 f, Value.int .i64 l, Value.slice A m c], 5⟩) (off := 0) rfl rfl (by exact rfl))) ?_
      refine TL.gets (Wants.none rfl) rfl (Gets.isTrue (Gets.eql rfl rfl rfl) rfl) ?_
      refine TL.gets (Wants.none rfl) rfl (Gets.move rfl rfl) ?_
      refine TL.gets (Wants.yes rfl rfl rfl) rfl (Gets.fieldAddr rfl Try.underlying40 rfl size3 rfl (off' := 2) (by first | rfl | omega)) ?_
      refine TL.gets (Wants.yes rfl rfl rfl) rfl (Gets.load1 rfl agg3 rfl (At.ent (i := 0) (ent := ⟨g1, 40, [Value.int .i64 2, Value.int .i64 t, Value.int .i64 f, Value.int .i64 l, Value.slice A m c], 5⟩) (off := 2) rfl rfl (by exact rfl))) ?_
      by_cases cf : f ≠ 0
      · refine TL.gets (Wants.yes rfl rfl rfl) rfl (Gets.isTrue (Gets.neq rfl rfl rfl) cf) ?_
        refine TL.gets (Wants.yes rfl rfl rfl) rfl (Gets.move rfl rfl) ?_
        refine TL.pass rfl rfl rfl rfl rfl ?_
        refine TL.pass rfl rfl rfl rfl rfl ?_
        refine TL.pass rfl rfl rfl rfl rfl ?_
        refine TL.gets (Wants.yes rfl rfl rfl) rfl (Gets.pickT rfl rfl rfl) ?_
        refine TL.gets (Wants.none rfl) rfl (Gets.pickT rfl rfl rfl) ?_
        refine TL.nil ?_
        refine TE.then ?_
        refine TC.sub (Sub.cons (i := 2) rfl (Sub.cons (i := 45) rfl (Sub.nil))) ?_
        refine TC.yes rfl ?_
        refine TC.seq ?_
        refine TC.regionL ?_
        refine TL.gets (Wants.none rfl) rfl (Gets.assign rfl rfl) ?_
        refine TL.nil ?_
        refine TE.then ?_
        refine TC.ret ?_
        refine TE.thenR ?_
        exact TE.ret1 rfl rfl (fun w hs => ⟨ret_i (by unfold codeV; (repeat' split) <;> first | rfl | (exfalso; (try unfold vld at *); omega)), (hs.drop (by assumption))⟩)
      · refine TL.gets (Wants.yes rfl rfl rfl) rfl (Gets.isFalse (Gets.neq rfl rfl rfl) cf) ?_
        refine TL.gets (Wants.yes rfl rfl rfl) rfl (Gets.move rfl rfl) ?_
        refine TL.gets (Wants.yes rfl rfl rfl) rfl (Gets.fieldAddr rfl Try.underlying40 rfl size3 rfl (off' := 3) (by first | rfl | omega)) ?_
        refine TL.gets (Wants.yes rfl rfl rfl) rfl (Gets.load1 rfl agg3 rfl (At.ent (i := 0) (ent := ⟨g1, 40, [Value.int .i64 2, Value.int .i64 t, Value.int .i64 f, Value.int .i64 l, Value.slice A m c], 5⟩) (off := 3) rfl rfl (by exact rfl))) ?_
        by_cases cl : l ≠ 0
        · refine TL.gets (Wants.yes rfl rfl rfl) rfl (Gets.isTrue (Gets.neq rfl rfl rfl) cl) ?_
          refine TL.gets (Wants.yes rfl rfl rfl) rfl (Gets.pickF rfl rfl rfl) ?_
          refine TL.gets (Wants.none rfl) rfl (Gets.pickT rfl rfl rfl) ?_
          refine TL.nil ?_
          refine TE.then ?_
          refine TC.sub (Sub.cons (i := 2) rfl (Sub.cons (i := 45) rfl (Sub.nil))) ?_
          refine TC.yes rfl ?_
          refine TC.seq ?_
          refine TC.regionL ?_
          refine TL.gets (Wants.none rfl) rfl (Gets.assign rfl rfl) ?_
          refine TL.nil ?_
          refine TE.then ?_
          refine TC.ret ?_
          refine TE.thenR ?_
          exact TE.ret1 rfl rfl (fun w hs => ⟨ret_i (by unfold codeV; (repeat' split) <;> first | rfl | (exfalso; (try unfold vld at *); omega)), (hs.drop (by assumption))⟩)
        · refine TL.gets (Wants.yes rfl rfl rfl) rfl (Gets.isFalse (Gets.neq rfl rfl rfl) cl) ?_
          refine TL.gets (Wants.yes rfl rfl rfl) rfl (Gets.pickF rfl rfl rfl) ?_
          refine TL.gets (Wants.none rfl) rfl (Gets.pickT rfl rfl rfl) ?_
          refine TL.nil ?_
          refine TE.then ?_
          refine TC.sub (Sub.cons (i := 2) rfl (Sub.cons (i := 45) rfl (Sub.nil))) ?_
          refine TC.no rfl ?_
          refine TC.skip ?_
          refine TE.then ?_
          refine TC.seq ?_
          refine TC.regionL ?_
          refine TL.gets (Wants.none rfl) rfl (Gets.assign rfl rfl) ?_
          refine TL.nil ?_
          refine TE.then ?_
          refine TC.ret ?_
          exact TE.ret1 rfl rfl (fun w hs => ⟨ret_i (by unfold codeV; (repeat' split) <;> first | rfl | (exfalso; (try unfold vld at *); omega)), (hs.drop (by assumption))⟩)
    · refine TL.call0 (Wants.none rfl) rfl enters60 rfl rfl (v := .bool false) (fun w hs => (rvalid_c t (m : Int) (by omega) (by omega) w).mono fun e w' h => by rw [decide_eq_false (p := vld t (m : Int)) ct] at h; exact h) ?_
      refine TL.gets (Wants.none rfl) rfl (Gets.not rfl rfl) ?_
      refine TL.nil ?_
      refine TE.then ?_
      refine TC.sub (Sub.cons (i := 1) rfl (Sub.cons (i := 2) rfl (Sub.cons (i := 17) rfl (Sub.nil)))) ?_
      refine TC.yes rfl ?_
      refine TC.seq ?_
      refine TC.regionL ?_
      refine TL.gets (Wants.none rfl) rfl (Gets.assign rfl rfl) ?_
      refine TL.nil ?_
      refine TE.then ?_
      refine TC.ret ?_
      refine TE.thenR ?_
      exact TE.ret1 rfl rfl (fun w hs => ⟨ret_i (by unfold codeV; (repeat' split) <;> first | rfl | (exfalso; (try unfold vld at *); omega)), (hs.drop (by assumption))⟩)

set_option maxRecDepth 100000 in
set_option maxHeartbeats 400000 in
theorem rcheck0 (k t f l : Int) (A : Option Addr) (m c : Nat) (h1 : ¬ k = 1) (h2 : ¬ k = 2) (w : World) : Calls Try.prog 43 #[.agg ([Value.int .i64 k, Value.int .i64 t, Value.int .i64 f, Value.int .i64 l, Value.slice A m c]).toArray] w fun e w' => e = .returned (.int .i64 (codeV k t f l m)) ∧ St w [] w' := by
  refine calls_from (args := [.agg ([Value.int .i64 k, Value.int .i64 t, Value.int .i64 f, Value.int .i64 l, Value.slice A m c]).toArray]) Try.func43 rfl Try.ntmps43 (by simp) ?_
  refine TC.sub (Sub.cons (i := 0) rfl (Sub.nil)) ?_
  refine TC.seq ?_
  refine TC.regionL ?_
  refine TL.box (Wants.none rfl) rfl rfl rfl (cs := [Value.int .i64 k, Value.int .i64 t, Value.int .i64 f, Value.int .i64 l, Value.slice A m c]) (by simp [Value.cells]) (tot := 5) (by simp []) (fun g1 hg1 => ?_)
  refine TL.gets (Wants.none rfl) rfl (Gets.assign rfl rfl) ?_
  refine TL.nil ?_
  refine TE.then ?_
  refine TC.seq ?_
  refine TC.seq ?_
  refine TC.regionL ?_
  refine TL.gets (Wants.none rfl) rfl (Gets.fieldAddr rfl Try.underlying40 rfl size3 rfl (off' := 0) (by first | rfl | omega)) ?_
  refine TL.gets (Wants.none rfl) rfl (Gets.load1 rfl agg3 rfl (At.ent (i := 0) (ent := ⟨g1, 40, [Value.int .i64 k, Value.int .i64 t, Value.int .i64 f, Value.int .i64 l, Value.slice A m c], 5⟩) (off := 0) rfl rfl (by exact rfl))) ?_
  refine TL.gets (Wants.none rfl) rfl (Gets.isTrue (Gets.neq rfl rfl rfl) h1) ?_
  refine TL.gets (Wants.none rfl) rfl (Gets.move rfl rfl) ?_
  refine TL.gets (Wants.yes rfl rfl rfl) rfl (Gets.fieldAddr rfl Try.underlying40 rfl size3 rfl (off' := 0) (by first | rfl | omega)) ?_
  refine TL.gets (Wants.yes rfl rfl rfl) rfl (Gets.load1 rfl agg3 rfl (At.ent (i := 0) (ent := ⟨g1, 40, [Value.int .i64 k, Value.int .i64 t, Value.int .i64 f, Value.int .i64 l, Value.slice A m c], 5⟩) (off := 0) rfl rfl (by exact rfl))) ?_
  refine TL.gets (Wants.yes rfl rfl rfl) rfl (Gets.isTrue (Gets.neq rfl rfl rfl) h2) ?_
  refine TL.gets (Wants.none rfl) rfl (Gets.pickT rfl rfl rfl) ?_
  refine TL.nil ?_
  refine TE.then ?_
  refine TC.sub (Sub.cons (i := 1) rfl (Sub.cons (i := 2) rfl (Sub.cons (i := 10) rfl (Sub.nil)))) ?_
  refine TC.yes rfl ?_
  refine TC.seq ?_
  refine TC.regionL ?_
  refine TL.gets (Wants.none rfl) rfl (Gets.assign rfl rfl) ?_
  refine TL.nil ?_
  refine TE.then ?_
  refine TC.ret ?_
  refine TE.thenR ?_
  exact TE.ret1 rfl rfl (fun w hs => ⟨ret_i (by unfold codeV; (repeat' split) <;> first | rfl | (exfalso; (try unfold vld at *); omega)), (hs.drop (by assumption))⟩)


theorem check_c (k t f l : Int) (A : Option Addr) (m c : Nat) (hmr : m ≤ 9223372036854775807) (bt : -9223372036854775808 ≤ t ∧ t ≤ 9223372036854775807) (bf : -9223372036854775808 ≤ f ∧ f ≤ 9223372036854775807) (bl : -9223372036854775808 ≤ l ∧ l ≤ 9223372036854775807) (w : World) : Calls Try.prog 45 #[.agg ([Value.int .i64 k, Value.int .i64 t, Value.int .i64 f, Value.int .i64 l, Value.slice A m c]).toArray] w fun e w' => e = .returned (.int .i64 (codeV k t f l m)) ∧ St w [] w' := by
  by_cases h1 : k = 1
  · subst h1; exact check1 t f l A m c bt bf bl w
  by_cases h2 : k = 2
  · subst h2; exact check2 t f l A m c hmr bt bf bl w
  · exact check0 k t f l A m c h1 h2 w


theorem rcheck_c (k t f l : Int) (A : Option Addr) (m c : Nat) (hmr : m ≤ 9223372036854775807) (bt : -9223372036854775808 ≤ t ∧ t ≤ 9223372036854775807) (bf : -9223372036854775808 ≤ f ∧ f ≤ 9223372036854775807) (bl : -9223372036854775808 ≤ l ∧ l ≤ 9223372036854775807) (w : World) : Calls Try.prog 43 #[.agg ([Value.int .i64 k, Value.int .i64 t, Value.int .i64 f, Value.int .i64 l, Value.slice A m c]).toArray] w fun e w' => e = .returned (.int .i64 (codeV k t f l m)) ∧ St w [] w' := by
  by_cases h1 : k = 1
  · subst h1; exact rcheck1 t f l A m c bt bf bl w
  by_cases h2 : k = 2
  · subst h2; exact rcheck2 t f l A m c hmr bt bf bl w
  · exact rcheck0 k t f l A m c h1 h2 w


theorem codeV1 {t f l : Int} {m : Nat} : codeV 1 t f l m = 0 ↔ ¬ l = 0 ∧ m = 0 ∧ vld t l ∧ vld f l := by
  unfold codeV; (repeat' split) <;> simp_all
theorem codeV2 {t f l : Int} {m : Nat} : codeV 2 t f l m = 0 ↔ ¬ m = 0 ∧ f = 0 ∧ l = 0 ∧ vld t m := by
  unfold codeV; (repeat' split) <;> simp_all
theorem codeV0 {k t f l : Int} {m : Nat} (h : codeV k t f l m = 0) : k = 1 ∨ k = 2 := by
  unfold codeV at h
  by_cases h1 : k = 1
  · exact .inl h1
  by_cases h2 : k = 2
  · exact .inr h2
  rw [if_neg h1, if_neg h2] at h; cases h

set_option maxRecDepth 100000 in
set_option maxHeartbeats 400000 in
theorem roverlap_no (o l p n : Int) (ho : -9223372036854775808 ≤ o + l ∧ o + l ≤ 9223372036854775807) (hp : -9223372036854775808 ≤ p + n ∧ p + n ≤ 9223372036854775807) (hc : min (o + l) (p + n) ≤ max o p) (w : World) : Calls Try.prog 27 #[.agg ([Value.int .i64 o, Value.int .i64 l]).toArray, .agg ([Value.int .i64 p, Value.int .i64 n]).toArray] w fun e w' => e = .returned (.agg ([Value.int .i64 0, Value.int .i64 0]).toArray) ∧ St w [] w' := by
  refine calls_from (args := [.agg ([Value.int .i64 o, Value.int .i64 l]).toArray, .agg ([Value.int .i64 p, Value.int .i64 n]).toArray]) Try.func27 rfl Try.ntmps27 (by simp) ?_
  refine TC.sub (Sub.cons (i := 0) rfl (Sub.cons (i := 1) rfl (Sub.nil))) ?_
  refine TC.seq ?_
  refine TC.regionL ?_
  refine TL.box (Wants.none rfl) rfl rfl rfl (cs := [Value.int .i64 o, Value.int .i64 l]) (by simp [Value.cells]) (tot := 2) (by simp []) (fun g1 hg1 => ?_)
  refine TL.box (Wants.none rfl) rfl rfl rfl (cs := [Value.int .i64 p, Value.int .i64 n]) (by simp [Value.cells]) (tot := 2) (by simp []) (fun g2 hg2 => ?_)
  refine TL.alloc (Wants.none rfl) rfl rfl zero49 (cs := [Value.int .i64 0, Value.int .i64 0]) rfl (tot := 2) (by simp) (fun g3 hg3 => ?_)
  refine TL.nil ?_
  refine TE.then ?_
  refine TC.seq ?_
  refine TC.regionL ?_
  refine TL.gets (Wants.none rfl) rfl (Gets.fieldAddr rfl Try.underlying49 rfl size3 rfl (off' := 0) (by first | rfl | omega)) ?_
  refine TL.gets (Wants.none rfl) rfl (Gets.load1 rfl agg3 rfl (At.ent (i := 2) (ent := ⟨g1, 49, [Value.int .i64 o, Value.int .i64 l], 2⟩) (off := 0) rfl rfl (by exact rfl))) ?_
  refine TL.gets (Wants.none rfl) rfl (Gets.fieldAddr rfl Try.underlying49 rfl size3 rfl (off' := 0) (by first | rfl | omega)) ?_
  refine TL.gets (Wants.none rfl) rfl (Gets.load1 rfl agg3 rfl (At.ent (i := 1) (ent := ⟨g2, 49, [Value.int .i64 p, Value.int .i64 n], 2⟩) (off := 0) rfl rfl (by exact rfl))) ?_
  refine TL.gets (Wants.none rfl) rfl (Gets.congr (Gets.max2 rfl rfl rfl) (by rw [ifmax])) ?_
  refine TL.gets (Wants.none rfl) rfl (Gets.assign rfl rfl) ?_
  refine TL.nil ?_
  refine TE.then ?_
  refine TC.sub (Sub.cons (i := 2) rfl (Sub.cons (i := 3) rfl (Sub.cons (i := 4) rfl (Sub.cons (i := 5) rfl (Sub.nil))))) ?_
  refine TC.seq ?_
  refine TC.regionL ?_
  refine TL.gets (Wants.none rfl) rfl (Gets.fieldAddr rfl Try.underlying49 rfl size3 rfl (off' := 0) (by first | rfl | omega)) ?_
  refine TL.gets (Wants.none rfl) rfl (Gets.load1 rfl agg3 rfl (At.ent (i := 2) (ent := ⟨g1, 49, [Value.int .i64 o, Value.int .i64 l], 2⟩) (off := 0) rfl rfl (by exact rfl))) ?_
  refine TL.gets (Wants.none rfl) rfl (Gets.fieldAddr rfl Try.underlying49 rfl size3 rfl (off' := 1) (by first | rfl | omega)) ?_
  refine TL.gets (Wants.none rfl) rfl (Gets.load1 rfl agg3 rfl (At.ent (i := 2) (ent := ⟨g1, 49, [Value.int .i64 o, Value.int .i64 l], 2⟩) (off := 1) rfl rfl (by exact rfl))) ?_
  refine TL.gets (Wants.none rfl) rfl (Gets.add rfl rfl rfl (r := (o + l)) (w64 (by omega) (by omega))) ?_
  refine TL.gets (Wants.none rfl) rfl (Gets.fieldAddr rfl Try.underlying49 rfl size3 rfl (off' := 0) (by first | rfl | omega)) ?_
  refine TL.gets (Wants.none rfl) rfl (Gets.load1 rfl agg3 rfl (At.ent (i := 1) (ent := ⟨g2, 49, [Value.int .i64 p, Value.int .i64 n], 2⟩) (off := 0) rfl rfl (by exact rfl))) ?_
  refine TL.gets (Wants.none rfl) rfl (Gets.fieldAddr rfl Try.underlying49 rfl size3 rfl (off' := 1) (by first | rfl | omega)) ?_
  refine TL.gets (Wants.none rfl) rfl (Gets.load1 rfl agg3 rfl (At.ent (i := 1) (ent := ⟨g2, 49, [Value.int .i64 p, Value.int .i64 n], 2⟩) (off := 1) rfl rfl (by exact rfl))) ?_
  refine TL.gets (Wants.none rfl) rfl (Gets.add rfl rfl rfl (r := (p + n)) (w64 (by omega) (by omega))) ?_
  refine TL.gets (Wants.none rfl) rfl (Gets.congr (Gets.min2 rfl rfl rfl) (by rw [ifmin])) ?_
  refine TL.gets (Wants.none rfl) rfl (Gets.assign rfl rfl) ?_
  refine TL.nil ?_
  refine TE.then ?_
  refine TC.sub (Sub.cons (i := 4) rfl (Sub.cons (i := 5) rfl (Sub.cons (i := 6) rfl (Sub.nil)))) ?_
  refine TC.seq ?_
  refine TC.seq ?_
  refine TC.regionL ?_
  refine TL.gets (Wants.none rfl) rfl (Gets.move rfl rfl) ?_
  refine TL.gets (Wants.none rfl) rfl (Gets.move rfl rfl) ?_
  refine TL.gets (Wants.none rfl) rfl (Gets.isTrue (Gets.geq rfl rfl rfl) hc) ?_
  refine TL.nil ?_
  refine TE.then ?_
  refine TC.yes rfl ?_
  refine TC.seq ?_
  refine TC.regionL ?_
  refine TL.gets (Wants.none rfl) rfl (Gets.build rfl (vs := []) rfl (fun w => by first | rfl | kernel_rfl) (v := .agg ([Value.int .i64 0, Value.int .i64 0]).toArray)) ?_
  refine TL.storeW (Wants.none rfl) rfl rfl size49 rfl (vs := [Value.int .i64 0, Value.int .i64 0]) rfl (by simp []) (by simp [Value.oneCell']) (i := 0) (ent := ⟨g3, 49, [Value.int .i64 0, Value.int .i64 0], 2⟩) rfl rfl (by simp []) (H' := [⟨g3, 49, [Value.int .i64 0, Value.int .i64 0], 2⟩, ⟨g2, 49, [Value.int .i64 p, Value.int .i64 n], 2⟩, ⟨g1, 49, [Value.int .i64 o, Value.int .i64 l], 2⟩]) rfl ?_
  refine TL.nil ?_
  refine TE.then ?_
  refine TC.ret ?_
  refine TE.thenR ?_
  exact TE.retC rfl agg49 size49 rfl (vs := [Value.int .i64 0, Value.int .i64 0]) rfl (Row.all (i := 0) (ent := ⟨g3, 49, [Value.int .i64 0, Value.int .i64 0], 2⟩) rfl rfl rfl) (fun w hs => ⟨rfl, (((hs.drop (by assumption)).drop (by assumption)).drop (by assumption))⟩)

set_option maxRecDepth 100000 in
set_option maxHeartbeats 400000 in
theorem roverlap_yes (o l p n : Int) (ho : -9223372036854775808 ≤ o + l ∧ o + l ≤ 9223372036854775807) (hp : -9223372036854775808 ≤ p + n ∧ p + n ≤ 9223372036854775807) (hc : ¬ min (o + l) (p + n) ≤ max o p) (bo : 0 ≤ o) (bp : 0 ≤ p) (w : World) : Calls Try.prog 27 #[.agg ([Value.int .i64 o, Value.int .i64 l]).toArray, .agg ([Value.int .i64 p, Value.int .i64 n]).toArray] w fun e w' => e = .returned (.agg ([Value.int .i64 (max o p), Value.int .i64 ((min (o + l) (p + n)) - (max o p))]).toArray) ∧ St w [] w' := by
  refine calls_from (args := [.agg ([Value.int .i64 o, Value.int .i64 l]).toArray, .agg ([Value.int .i64 p, Value.int .i64 n]).toArray]) Try.func27 rfl Try.ntmps27 (by simp) ?_
  refine TC.sub (Sub.cons (i := 0) rfl (Sub.cons (i := 1) rfl (Sub.nil))) ?_
  refine TC.seq ?_
  refine TC.regionL ?_
  refine TL.box (Wants.none rfl) rfl rfl rfl (cs := [Value.int .i64 o, Value.int .i64 l]) (by simp [Value.cells]) (tot := 2) (by simp []) (fun g1 hg1 => ?_)
  refine TL.box (Wants.none rfl) rfl rfl rfl (cs := [Value.int .i64 p, Value.int .i64 n]) (by simp [Value.cells]) (tot := 2) (by simp []) (fun g2 hg2 => ?_)
  refine TL.alloc (Wants.none rfl) rfl rfl zero49 (cs := [Value.int .i64 0, Value.int .i64 0]) rfl (tot := 2) (by simp) (fun g3 hg3 => ?_)
  refine TL.nil ?_
  refine TE.then ?_
  refine TC.seq ?_
  refine TC.regionL ?_
  refine TL.gets (Wants.none rfl) rfl (Gets.fieldAddr rfl Try.underlying49 rfl size3 rfl (off' := 0) (by first | rfl | omega)) ?_
  refine TL.gets (Wants.none rfl) rfl (Gets.load1 rfl agg3 rfl (At.ent (i := 2) (ent := ⟨g1, 49, [Value.int .i64 o, Value.int .i64 l], 2⟩) (off := 0) rfl rfl (by exact rfl))) ?_
  refine TL.gets (Wants.none rfl) rfl (Gets.fieldAddr rfl Try.underlying49 rfl size3 rfl (off' := 0) (by first | rfl | omega)) ?_
  refine TL.gets (Wants.none rfl) rfl (Gets.load1 rfl agg3 rfl (At.ent (i := 1) (ent := ⟨g2, 49, [Value.int .i64 p, Value.int .i64 n], 2⟩) (off := 0) rfl rfl (by exact rfl))) ?_
  refine TL.gets (Wants.none rfl) rfl (Gets.congr (Gets.max2 rfl rfl rfl) (by rw [ifmax])) ?_
  refine TL.gets (Wants.none rfl) rfl (Gets.assign rfl rfl) ?_
  refine TL.nil ?_
  refine TE.then ?_
  refine TC.sub (Sub.cons (i := 2) rfl (Sub.cons (i := 3) rfl (Sub.cons (i := 4) rfl (Sub.cons (i := 5) rfl (Sub.nil))))) ?_
  refine TC.seq ?_
  refine TC.regionL ?_
  refine TL.gets (Wants.none rfl) rfl (Gets.fieldAddr rfl Try.underlying49 rfl size3 rfl (off' := 0) (by first | rfl | omega)) ?_
  refine TL.gets (Wants.none rfl) rfl (Gets.load1 rfl agg3 rfl (At.ent (i := 2) (ent := ⟨g1, 49, [Value.int .i64 o, Value.int .i64 l], 2⟩) (off := 0) rfl rfl (by exact rfl))) ?_
  refine TL.gets (Wants.none rfl) rfl (Gets.fieldAddr rfl Try.underlying49 rfl size3 rfl (off' := 1) (by first | rfl | omega)) ?_
  refine TL.gets (Wants.none rfl) rfl (Gets.load1 rfl agg3 rfl (At.ent (i := 2) (ent := ⟨g1, 49, [Value.int .i64 o, Value.int .i64 l], 2⟩) (off := 1) rfl rfl (by exact rfl))) ?_
  refine TL.gets (Wants.none rfl) rfl (Gets.add rfl rfl rfl (r := (o + l)) (w64 (by omega) (by omega))) ?_
  refine TL.gets (Wants.none rfl) rfl (Gets.fieldAddr rfl Try.underlying49 rfl size3 rfl (off' := 0) (by first | rfl | omega)) ?_
  refine TL.gets (Wants.none rfl) rfl (Gets.load1 rfl agg3 rfl (At.ent (i := 1) (ent := ⟨g2, 49, [Value.int .i64 p, Value.int .i64 n], 2⟩) (off := 0) rfl rfl (by exact rfl))) ?_
  refine TL.gets (Wants.none rfl) rfl (Gets.fieldAddr rfl Try.underlying49 rfl size3 rfl (off' := 1) (by first | rfl | omega)) ?_
  refine TL.gets (Wants.none rfl) rfl (Gets.load1 rfl agg3 rfl (At.ent (i := 1) (ent := ⟨g2, 49, [Value.int .i64 p, Value.int .i64 n], 2⟩) (off := 1) rfl rfl (by exact rfl))) ?_
  refine TL.gets (Wants.none rfl) rfl (Gets.add rfl rfl rfl (r := (p + n)) (w64 (by omega) (by omega))) ?_
  refine TL.gets (Wants.none rfl) rfl (Gets.congr (Gets.min2 rfl rfl rfl) (by rw [ifmin])) ?_
  refine TL.gets (Wants.none rfl) rfl (Gets.assign rfl rfl) ?_
  refine TL.nil ?_
  refine TE.then ?_
  refine TC.sub (Sub.cons (i := 4) rfl (Sub.cons (i := 5) rfl (Sub.cons (i := 6) rfl (Sub.nil)))) ?_
  refine TC.seq ?_
  refine TC.seq ?_
  refine TC.regionL ?_
  refine TL.gets (Wants.none rfl) rfl (Gets.move rfl rfl) ?_
  refine TL.gets (Wants.none rfl) rfl (Gets.move rfl rfl) ?_
  refine TL.gets (Wants.none rfl) rfl (Gets.isFalse (Gets.geq rfl rfl rfl) hc) ?_
  refine TL.nil ?_
  refine TE.then ?_
  refine TC.no rfl ?_
  refine TC.skip ?_
  refine TE.then ?_
  refine TC.seq ?_
  refine TC.regionL ?_
  refine TL.gets (Wants.none rfl) rfl (Gets.move rfl rfl) ?_
  refine TL.gets (Wants.none rfl) rfl (Gets.move rfl rfl) ?_
  refine TL.gets (Wants.none rfl) rfl (Gets.move rfl rfl) ?_
  refine TL.gets (Wants.none rfl) rfl (Gets.sub rfl rfl rfl (r := ((min (o + l) (p + n)) - (max o p))) (w64 (by omega) (by omega))) ?_
  refine TL.gets (Wants.none rfl) rfl (Gets.build rfl (vs := [(0, Value.int .i64 (max o p)), (1, Value.int .i64 ((min (o + l) (p + n)) - (max o p)))]) rfl (fun w => by first | rfl | kernel_rfl) (v := .agg ([Value.int .i64 (max o p), Value.int .i64 ((min (o + l) (p + n)) - (max o p))]).toArray)) ?_
  refine TL.storeW (Wants.none rfl) rfl rfl size49 rfl (vs := [Value.int .i64 (max o p), Value.int .i64 ((min (o + l) (p + n)) - (max o p))]) rfl (by simp []) (by simp [Value.oneCell']) (i := 0) (ent := ⟨g3, 49, [Value.int .i64 0, Value.int .i64 0], 2⟩) rfl rfl (by simp []) (H' := [⟨g3, 49, [Value.int .i64 (max o p), Value.int .i64 ((min (o + l) (p + n)) - (max o p))], 2⟩, ⟨g2, 49, [Value.int .i64 p, Value.int .i64 n], 2⟩, ⟨g1, 49, [Value.int .i64 o, Value.int .i64 l], 2⟩]) rfl ?_
  refine TL.nil ?_
  refine TE.then ?_
  refine TC.ret ?_
  exact TE.retC rfl agg49 size49 rfl (vs := [Value.int .i64 (max o p), Value.int .i64 ((min (o + l) (p + n)) - (max o p))]) rfl (Row.all (i := 0) (ent := ⟨g3, 49, [Value.int .i64 (max o p), Value.int .i64 ((min (o + l) (p + n)) - (max o p))], 2⟩) rfl rfl rfl) (fun w hs => ⟨rfl, (((hs.drop (by assumption)).drop (by assumption)).drop (by assumption))⟩)
end Go.Proofs.Ytkgamkjdkapchaa
/-
  Slices of commands in memory; the first of some indices; the model of a delta's check.
-/
namespace Go.Proofs.Ytkgamkjdkapchaa
set_option linter.unusedVariables false
set_option linter.unusedSimpArgs false
set_option linter.unusedVariables false
open Go Go.RowKit
structure CV where
  k : Int
  t : Int
  f : Int
  l : Int
  A : Option Addr
  m : Nat
  c : Nat
  B : List Int
def cellsC (x : CV) : List Value := [Value.int .i64 x.k, Value.int .i64 x.t, Value.int .i64 x.f, Value.int .i64 x.l, Value.slice x.A x.m x.c]
def RowsC (w : World) (b off : Nat) (Cs : List CV) : Prop := ∀ (i : Nat) (x : CV), Cs[i]? = some x → ∀ j u, (cellsC x)[j]? = some u → w.cell? ⟨b, off + 5 * i + j, none⟩ = some u
def SrcC (w : World) (A : Option Addr) (m : Nat) (Cs : List CV) : Prop := Cs.length = m ∧ (m = 0 ∨ ∃ b off, A = some ⟨b, off, none⟩ ∧ b < w.heap.size ∧ RowsC w b off Cs)
def NumC (x : CV) : Prop := (-9223372036854775808 ≤ x.t ∧ x.t ≤ 9223372036854775807) ∧ (-9223372036854775808 ≤ x.f ∧ x.f ≤ 9223372036854775807) ∧ (-9223372036854775808 ≤ x.l ∧ x.l ≤ 9223372036854775807) ∧ x.m ≤ x.c ∧ x.m ≤ 140737488355327 ∧ x.c ≤ 9223372036854775807
def NumsC (Cs : List CV) : Prop := ∀ (i : Nat) (x : CV), Cs[i]? = some x → NumC x
theorem SrcC.at_ {w0 w : World} {H : List Ent} {A : Option Addr} {m : Nat} {Cs : List CV} (h : SrcC w0 A m Cs) (hs : St w0 H w) (hH : ∀ b, b < w0.heap.size → ∀ e ∈ H, e.g ≠ b) : SrcC w A m Cs := by
  refine ⟨h.1, ?_⟩
  rcases h.2 with h | ⟨b, off, hA, hb, hr⟩
  · exact .inl h
  · refine .inr ⟨b, off, hA, Nat.lt_of_lt_of_le hb hs.size, fun i x hx j u hu => ?_⟩
    rw [hs.old_cell (ad := ⟨b, _, none⟩) hb (hH b hb)]
    exact hr i x hx j u hu
theorem SrcC.some_ {w : World} {A : Option Addr} {m i : Nat} {Cs : List CV} (h : SrcC w A m Cs) (hi : i < m) : ∃ b off, A = some ⟨b, off, none⟩ ∧ b < w.heap.size ∧ RowsC w b off Cs := h.2.resolve_left (by omega)
theorem SrcC.get {w : World} {A : Option Addr} {m i : Nat} {Cs : List CV} (h : SrcC w A m Cs) (hi : i < m) : ∃ x, Cs[i]? = some x := ⟨_, List.getElem?_eq_getElem (by rw [h.1]; exact hi)⟩
/-- The target. -/
def tg (x : CV) : Int × Int := (x.t, lenV x.k x.l x.m)
/-- The first index that has a property. -/
def firstP (p : Nat → Prop) (m : Nat) (r : Option Nat) : Prop := (r = none ∧ ∀ i, i < m → ¬ p i) ∨ ∃ i, r = some i ∧ i < m ∧ p i ∧ ∀ j, j < i → ¬ p j
theorem firstP_unique {p : Nat → Prop} {m : Nat} {r s : Option Nat} (hr : firstP p m r) (hs : firstP p m s) : r = s := by
  rcases hr with ⟨rfl, h1⟩ | ⟨i, rfl, h1, h2, h3⟩ <;> rcases hs with ⟨rfl, k1⟩ | ⟨j, rfl, k1, k2, k3⟩
  · rfl
  · exact absurd k2 (h1 j k1)
  · exact absurd h2 (k1 i h1)
  · have a : ¬ i < j := fun c => k3 i c h2
    have b : ¬ j < i := fun c => h3 j c k2
    have : i = j := by omega
    rw [this]
theorem firstP_some {p : Nat → Prop} {m i : Nat} (h1 : i < m) (h2 : p i) (h3 : ∀ j, j < i → ¬ p j) : firstP p m (some i) := .inr ⟨i, rfl, h1, h2, h3⟩
theorem firstP_none {p : Nat → Prop} {m : Nat} (h : ∀ i, i < m → ¬ p i) : firstP p m none := .inl ⟨rfl, h⟩
def fewP (Cs : List CV) : Prop := (∀ (i : Nat) (x : CV), Cs[i]? = some x → x.m ≤ 300) ∧ Cs.length ≤ 40
def singleV (o n : Int) (x : CV) : Int :=
  if codeV x.k x.t x.f x.l x.m = 0 then (if x.k = 1 ∧ o < x.f + x.l then 5 else if n < x.t + lenV x.k x.l x.m then 6 else 0) else codeV x.k x.t x.f x.l x.m
/-- The command whose target has an offset, by its index. -/
def findV (Cs : List CV) (off : Int) (r : Int) : Prop := (r = -1 ∧ ∀ (i : Nat) (x : CV), Cs[i]? = some x → ¬ hasB (tg x) off) ∨ ∃ (i : Nat) (x : CV), r = i ∧ Cs[i]? = some x ∧ hasB (tg x) off ∧ ∀ (j : Nat) (y : CV), j < i → Cs[j]? = some y → ¬ hasB (tg y) off
theorem all_succ {α : Type} {Cs : List α} {p : α → Prop} {i : Nat} {x : α} (h : ∀ (j : Nat) (y : α), j < i → Cs[j]? = some y → p y) (hx : Cs[i]? = some x) (hp : p x) : ∀ (j : Nat) (y : α), j < i + 1 → Cs[j]? = some y → p y := fun j y hj hy => by
  by_cases hji : j = i
  · subst hji; rw [hx] at hy; cases hy; exact hp
  · exact h j y (by omega) hy
theorem all_of {α : Type} {Cs : List α} {p : α → Prop} {m : Nat} (hm : Cs.length ≤ m) (h : ∀ (j : Nat) (y : α), j < m → Cs[j]? = some y → p y) : ∀ (i : Nat) (x : α), Cs[i]? = some x → p x := fun i x hx => h i x (by have := (List.getElem?_eq_some_iff.1 hx).1; omega) hx
theorem sub_of {α : Type} {Cs : List α} {p : α → Prop} {m : Nat} (h : ∀ (i : Nat) (x : α), Cs[i]? = some x → p x) : ∀ (j : Nat) (y : α), j < m → Cs[j]? = some y → p y := fun j y _ hy => h j y hy
theorem lenV_bd {k l : Int} {m : Nat} (hl : -9223372036854775808 ≤ l ∧ l ≤ 9223372036854775807) (hm : m ≤ 140737488355327) : -9223372036854775808 ≤ lenV k l m ∧ lenV k l m ≤ 9223372036854775807 := by
  unfold lenV; split <;> omega
theorem codeV_facts {k t f l : Int} {m : Nat} (h : codeV k t f l m = 0) : vld t (lenV k l m) ∧ 1 ≤ lenV k l m ∧ (k = 1 → vld f l) := by
  rcases codeV0 h with rfl | rfl
  · obtain ⟨h1, h2, h3, h4⟩ := codeV1.1 h
    unfold lenV; rw [if_pos rfl]
    exact ⟨h3, by unfold vld at h3; omega, fun _ => h4⟩
  · obtain ⟨h1, h2, h3, h4⟩ := codeV2.1 h
    unfold lenV; rw [if_neg (by decide)]
    exact ⟨h4, by omega, fun h => by cases h⟩
theorem findV_unique {Cs : List CV} {off r s : Int} (hr : findV Cs off r) (hs : findV Cs off s) : r = s := by
  rcases hr with ⟨rfl, h1⟩ | ⟨i, x, rfl, h1, h2, h3⟩ <;> rcases hs with ⟨rfl, k1⟩ | ⟨j, y, rfl, k1, k2, k3⟩
  · rfl
  · exact absurd k2 (h1 j y k1)
  · exact absurd h2 (k1 i x h1)
  · have a : ¬ i < j := fun c => k3 i x c h1 h2
    have b : ¬ j < i := fun c => h3 j y c k1 k2
    have : i = j := by omega
    rw [this]
open Classical in
noncomputable def findI (Cs : List CV) (off : Int) : Int := if h : ∃ r, findV Cs off r then Classical.choose h else -1
theorem findI_is {Cs : List CV} {off r : Int} (h : findV Cs off r) : findI Cs off = r := by
  unfold findI
  rw [dif_pos ⟨r, h⟩]
  exact findV_unique (Classical.choose_spec (⟨r, h⟩ : ∃ r, findV Cs off r)) h
theorem find_total (Cs : List CV) (off : Int) : ∃ r, findV Cs off r := by
  by_cases h : ∃ (i : Nat) (x : CV), Cs[i]? = some x ∧ hasB (tg x) off
  · have hex : ∃ i, ∃ x, Cs[i]? = some x ∧ hasB (tg x) off := h
    obtain ⟨i, hi, hmin⟩ : ∃ i, (∃ x, Cs[i]? = some x ∧ hasB (tg x) off) ∧ ∀ j, (∃ x, Cs[j]? = some x ∧ hasB (tg x) off) → i ≤ j := by
      obtain ⟨i0, hi0⟩ := hex
      exact least_of i0 hi0
    obtain ⟨x, hx, hb⟩ := hi
    exact ⟨i, .inr ⟨i, x, rfl, hx, hb, fun j y hj hy hby => by have := hmin j ⟨y, hy, hby⟩; omega⟩⟩
  · exact ⟨-1, .inl ⟨rfl, fun i x hx hb => h ⟨i, x, hx, hb⟩⟩⟩
theorem findI_spec (Cs : List CV) (off : Int) : findV Cs off (findI Cs off) := by
  obtain ⟨r, h⟩ := find_total Cs off
  rw [findI_is h]; exact h
theorem findI_free {Cs : List CV} {off : Int} : findI Cs off < 0 ↔ freeT (Cs.map tg) off := by
  constructor
  · intro h p hp hb
    obtain ⟨x, hx, rfl⟩ := List.mem_map.1 hp
    obtain ⟨i, hi⟩ := List.mem_iff_getElem?.1 hx
    rcases findI_spec Cs off with ⟨_, h2⟩ | ⟨j, y, h2, _⟩
    · exact h2 i x hi hb
    · omega
  · intro h
    rcases findI_spec Cs off with ⟨h2, _⟩ | ⟨j, y, h2, h3, h4, _⟩
    · omega
    · exact absurd h4 (h _ (List.mem_map.2 ⟨y, List.mem_of_getElem? h3, rfl⟩))
open Classical in
noncomputable def gapI (n : Int) (Cs : List CV) : Int := if h : ∃ g, leastT n (Cs.map tg) g then Classical.choose h else -1
theorem gapI_is {n g : Int} {Cs : List CV} (h : leastT n (Cs.map tg) g) : gapI n Cs = g := by
  unfold gapI
  rw [dif_pos ⟨g, h⟩]
  exact leastT_unique (Classical.choose_spec (⟨g, h⟩ : ∃ g, leastT n (Cs.map tg) g)) h
theorem gapI_no {n : Int} {Cs : List CV} (h : coverT 0 n (Cs.map tg)) : gapI n Cs = -1 := by
  unfold gapI
  rw [dif_neg]
  rintro ⟨g, h1, h2, h3, _⟩
  obtain ⟨p, hp, hb⟩ := h g h1 h2
  exact h3 p hp hb
/-- The candidates among the first ones. -/
def candI (Cs : List CV) (i : Nat) (c : Int) : Prop := (1 ≤ i ∧ c = 0) ∨ ∃ (j : Nat) (x : CV), j + 1 < i ∧ Cs[j]? = some x ∧ c = (tg x).1 + (tg x).2
def gapQ (n : Int) (Cs : List CV) (i : Nat) (q : Int) : Prop := (q = -1 ∧ ∀ c, candI Cs i c → c < n → ¬ freeT (Cs.map tg) c) ∨ (0 ≤ q ∧ q < n ∧ freeT (Cs.map tg) q ∧ ∀ c, candI Cs i c → c < n → freeT (Cs.map tg) c → q ≤ c)
theorem gapQ_zero (n : Int) (Cs : List CV) : gapQ n Cs 0 (-1) := .inl ⟨rfl, fun c hc => by
  rcases hc with ⟨h, _⟩ | ⟨j, x, h, _⟩ <;> omega⟩
/-- One candidate more. -/
theorem gapQ_step {n q d r : Int} {Cs : List CV} {i : Nat} (h : gapQ n Cs i q) (hd : 0 ≤ d) (hc : ∀ c, candI Cs (i + 1) c → candI Cs i c ∨ c = d)
    (hr : (d < n ∧ freeT (Cs.map tg) d ∧ (q < 0 ∨ d < q) ∧ r = d) ∨ (¬ (d < n ∧ freeT (Cs.map tg) d ∧ (q < 0 ∨ d < q)) ∧ r = q)) : gapQ n Cs (i + 1) r := by
  rcases hr with ⟨h1, h2, h3, rfl⟩ | ⟨h1, rfl⟩
  · refine .inr ⟨hd, h1, h2, fun c hcc hcn hcf => ?_⟩
    rcases hc c hcc with hcc | rfl
    · rcases h with ⟨_, h⟩ | ⟨_, _, _, h⟩
      · exact absurd hcf (h c hcc hcn)
      · have := h c hcc hcn hcf; omega
    · exact Int.le_refl _
  · rcases h with ⟨hq, h⟩ | ⟨hq0, hqn, hqf, h⟩
    · refine .inl ⟨hq, fun c hcc hcn hcf => ?_⟩
      rcases hc c hcc with hcc | rfl
      · exact h c hcc hcn hcf
      · exact h1 ⟨hcn, hcf, .inl (by omega)⟩
    · refine .inr ⟨hq0, hqn, hqf, fun c hcc hcn hcf => ?_⟩
      rcases hc c hcc with hcc | rfl
      · exact h c hcc hcn hcf
      · have : ¬ c < r := fun hlt => h1 ⟨hcn, hcf, .inr hlt⟩
        omega
theorem candI_zero {Cs : List CV} : ∀ c, candI Cs (0 + 1) c → candI Cs 0 c ∨ c = 0 := fun c hc => by
  rcases hc with ⟨_, h⟩ | ⟨j, x, h, _⟩
  · exact .inr h
  · omega
theorem candI_succ {Cs : List CV} {i : Nat} {x : CV} (hx : Cs[i]? = some x) : ∀ c, candI Cs (i + 1 + 1) c → candI Cs (i + 1) c ∨ c = (tg x).1 + (tg x).2 := fun c hc => by
  rcases hc with ⟨_, h⟩ | ⟨j, y, h, hy, h2⟩
  · exact .inl (.inl ⟨by omega, h⟩)
  · by_cases hj : j = i
    · subst hj; rw [hx] at hy; cases hy; exact .inr h2
    · exact .inl (.inr ⟨j, y, by omega, hy, h2⟩)
theorem gap_end {n q : Int} {Cs : List CV} {m : Nat} (hm : Cs.length = m) (h : gapQ n Cs (m + 1) q) : gapI n Cs = q := by
  have hcand : ∀ c, candT (Cs.map tg) c → candI Cs (m + 1) c := fun c hc => by
    rcases hc with rfl | ⟨p, hp, rfl⟩
    · exact .inl ⟨by omega, rfl⟩
    · obtain ⟨x, hx, rfl⟩ := List.mem_map.1 hp
      obtain ⟨j, hj⟩ := List.mem_iff_getElem?.1 hx
      exact .inr ⟨j, x, by have := (List.getElem?_eq_some_iff.1 hj).1; omega, hj, rfl⟩
  rcases h with ⟨rfl, h⟩ | ⟨h0, hn, hf, h⟩
  · exact gapI_no (cover_of_cand fun c hc _ hcn => h c (hcand c hc) hcn)
  · exact gapI_is (leastT_of_cand h0 hn hf fun c hc _ hcn hcf => h c (hcand c hc) hcn hcf)
noncomputable instance (Cs : List CV) : Decidable (fewP Cs) := Classical.propDecidable _
/-! ### The fault of a delta -/
noncomputable def firstF (p : Nat → Prop) : Option Nat := @ite _ (∃ i, p i) (Classical.propDecidable _) (some (leastOf p)) none
theorem firstF_some {p : Nat → Prop} {i : Nat} (h : p i) (hm : ∀ j, j < i → ¬ p j) : firstF p = some i := by
  unfold firstF
  rw [if_pos ⟨i, h⟩]
  have h2 := leastOf_spec (p := p) h
  have h3 := h2.2 i h
  have h4 : ¬ leastOf p < i := fun hlt => hm _ hlt h2.1
  congr 1; omega
theorem firstF_none {p : Nat → Prop} (h : ∀ i, ¬ p i) : firstF p = none := by
  unfold firstF
  rw [if_neg (fun ⟨i, hi⟩ => h i hi)]
theorem firstF_spec {p : Nat → Prop} {i : Nat} (h : firstF p = some i) : p i ∧ ∀ j, j < i → ¬ p j := by
  unfold firstF at h
  by_cases he : ∃ i, p i
  · rw [if_pos he] at h
    cases h
    obtain ⟨j, hj⟩ := he
    have h2 := leastOf_spec (p := p) hj
    exact ⟨h2.1, fun k hk hpk => by have := h2.2 k hpk; omega⟩
  · rw [if_neg he] at h; cases h
theorem firstF_nope {p : Nat → Prop} (h : firstF p = none) : ∀ i, ¬ p i := fun i hi => by
  unfold firstF at h
  rw [if_pos ⟨i, hi⟩] at h; cases h
def okLen (o n : Int) : Prop := 0 ≤ o ∧ 0 ≤ n ∧ o ≤ 4611686018427387903 ∧ n ≤ 4611686018427387903
instance (o n : Int) : Decidable (okLen o n) := by unfold okLen; infer_instance
def bad1 (o n : Int) (Cs : List CV) (i : Nat) : Prop := ∃ x, Cs[i]? = some x ∧ singleV o n x ≠ 0
def bad2 (Cs : List CV) (i : Nat) : Prop := ∃ (x : CV) (j : Nat) (y : CV), Cs[i]? = some x ∧ j < i ∧ Cs[j]? = some y ∧ meets (tg x).1 (tg x).2 (tg y).1 (tg y).2
/-- The code and the place of the fault. -/
noncomputable def faultI (o n : Int) (Cs : List CV) : Int × Int :=
  if okLen o n then
    match firstF (bad1 o n Cs) with
    | some i => ((Cs[i]?).elim 0 (singleV o n), i)
    | none => match firstF (bad2 Cs) with
      | some i => (4, i)
      | none => if 0 ≤ gapI n Cs then (3, gapI n Cs) else (0, 0)
  else (2, -1)
theorem faultI_len {o n : Int} {Cs : List CV} (h : ¬ okLen o n) : faultI o n Cs = (2, -1) := by unfold faultI; rw [if_neg h]
theorem faultI_single {o n : Int} {Cs : List CV} {i : Nat} {x : CV} (h : okLen o n) (hx : Cs[i]? = some x) (hs : singleV o n x ≠ 0) (hb : ∀ (j : Nat) (y : CV), j < i → Cs[j]? = some y → singleV o n y = 0) : faultI o n Cs = (singleV o n x, (i : Int)) := by
  unfold faultI
  rw [if_pos h, firstF_some (p := bad1 o n Cs) ⟨x, hx, hs⟩ (fun j hj ⟨y, hy, hn⟩ => hn (hb j y hj hy))]
  simp [hx]
theorem no_bad1 {o n : Int} {Cs : List CV} (h : ∀ (i : Nat) (x : CV), Cs[i]? = some x → singleV o n x = 0) : firstF (bad1 o n Cs) = none := firstF_none fun i ⟨x, hx, hn⟩ => hn (h i x hx)
theorem faultI_over {o n : Int} {Cs : List CV} {i j : Nat} {x y : CV} (h : okLen o n) (h1 : ∀ (i : Nat) (x : CV), Cs[i]? = some x → singleV o n x = 0) (hx : Cs[i]? = some x) (hj : j < i) (hy : Cs[j]? = some y) (hm : meets (tg x).1 (tg x).2 (tg y).1 (tg y).2)
    (hb : ∀ i', i' < i → ¬ bad2 Cs i') : faultI o n Cs = (4, (i : Int)) := by
  unfold faultI
  rw [if_pos h, no_bad1 h1]
  simp only
  rw [firstF_some (p := bad2 Cs) ⟨x, j, y, hx, hj, hy, hm⟩ hb]
theorem faultI_gap {o n : Int} {Cs : List CV} (h : okLen o n) (h1 : ∀ (i : Nat) (x : CV), Cs[i]? = some x → singleV o n x = 0) (h2 : ∀ i, ¬ bad2 Cs i) : faultI o n Cs = if 0 ≤ gapI n Cs then (3, gapI n Cs) else (0, 0) := by
  unfold faultI
  rw [if_pos h, no_bad1 h1]
  simp only
  rw [firstF_none h2]
theorem bad2_succ {Cs : List CV} {i : Nat} {x : CV} (h : ∀ i', i' < i → ¬ bad2 Cs i') (hx : Cs[i]? = some x) (hn : ∀ (j : Nat) (y : CV), j < i → Cs[j]? = some y → ¬ meets (tg x).1 (tg x).2 (tg y).1 (tg y).2) : ∀ i', i' < i + 1 → ¬ bad2 Cs i' := fun i' hi' => by
  by_cases e : i' = i
  · subst e
    rintro ⟨x', j, y, hx', hj, hy, hm⟩
    rw [hx] at hx'; cases hx'
    exact hn j y hj hy hm
  · exact h i' (by omega)
theorem bad2_all {Cs : List CV} {m : Nat} (hm : Cs.length ≤ m) (h : ∀ i', i' < m → ¬ bad2 Cs i') : ∀ i, ¬ bad2 Cs i := fun i hb => by
  obtain ⟨x, j, y, hx, h2⟩ := hb
  exact h i (by have := (List.getElem?_eq_some_iff.1 hx).1; omega) ⟨x, j, y, hx, h2⟩
theorem single_vld {o n : Int} {x : CV} (h : singleV o n x = 0) : vld x.t (lenV x.k x.l x.m) ∧ 1 ≤ lenV x.k x.l x.m ∧ x.t + lenV x.k x.l x.m ≤ n ∧ codeV x.k x.t x.f x.l x.m = 0 ∧ (x.k = 1 → vld x.f x.l ∧ x.f + x.l ≤ o) := by
  unfold singleV at h
  by_cases hc : codeV x.k x.t x.f x.l x.m = 0
  · rw [if_pos hc] at h
    obtain ⟨h1, h2, h3⟩ := codeV_facts hc
    split at h
    · cases h
    · split at h
      · cases h
      · exact ⟨h1, h2, by omega, hc, fun hk => ⟨h3 hk, by omega⟩⟩
  · rw [if_neg hc] at h; exact absurd h hc
/-- A delta without a fault: its targets do not overlap and cover the new file. -/
theorem faultI_valid {o n : Int} {Cs : List CV} (h : (faultI o n Cs).1 = 0) : okLen o n ∧ (∀ (i : Nat) (x : CV), Cs[i]? = some x → singleV o n x = 0) ∧ (∀ i, ¬ bad2 Cs i) ∧ gapI n Cs < 0 := by
  unfold faultI at h
  by_cases hl : okLen o n
  · rw [if_pos hl] at h
    cases h1 : firstF (bad1 o n Cs) with
    | some i =>
      rw [h1] at h
      obtain ⟨x, hx, hn⟩ := (firstF_spec h1).1
      simp [hx] at h
      exact absurd h hn
    | none =>
      rw [h1] at h
      cases h2 : firstF (bad2 Cs) with
      | some i => rw [h2] at h; cases h
      | none =>
        rw [h2] at h
        refine ⟨hl, fun i x hx => Classical.byContradiction fun hn => firstF_nope h1 i ⟨x, hx, hn⟩, firstF_nope h2, ?_⟩
        simp only at h
        split at h
        · cases h
        · omega
  · rw [if_neg hl] at h; cases h
theorem meets_apart {p q : Int × Int} (hp : 1 ≤ p.2) (hq : 1 ≤ q.2) : ¬ meets p.1 p.2 q.1 q.2 ↔ apartT p q := by
  unfold meets apartT; omega
theorem tidy_of {o n : Int} {Cs : List CV} (h1 : ∀ (i : Nat) (x : CV), Cs[i]? = some x → singleV o n x = 0) (h2 : ∀ i, ¬ bad2 Cs i) : tidyT 0 n (Cs.map tg) := by
  refine ⟨fun p hp => ?_, ?_⟩
  · obtain ⟨x, hx, rfl⟩ := List.mem_map.1 hp
    obtain ⟨i, hi⟩ := List.mem_iff_getElem?.1 hx
    obtain ⟨a, b, c, _⟩ := single_vld (h1 i x hi)
    unfold vld at a
    unfold okT tg; dsimp only; omega
  · rw [List.pairwise_iff_getElem]
    intro i j hi hj hij
    simp only [List.length_map] at hi hj
    simp only [List.getElem_map]
    have hxi : Cs[i]? = some Cs[i] := List.getElem?_eq_getElem hi
    have hxj : Cs[j]? = some Cs[j] := List.getElem?_eq_getElem hj
    have ai := (single_vld (h1 i _ hxi)).2.1
    have aj := (single_vld (h1 j _ hxj)).2.1
    have := (meets_apart (p := tg Cs[j]) (q := tg Cs[i]) aj ai).1 (fun hm => h2 j ⟨_, i, _, hxj, hij, hxi, hm⟩)
    exact this.symm
theorem gap_cover {n : Int} {Cs : List CV} (h : gapI n Cs < 0) : coverT 0 n (Cs.map tg) := fun x hx hxn => by
  apply Classical.byContradiction
  intro hno
  have hf : freeT (Cs.map tg) x := fun p hp hb => hno ⟨p, hp, hb⟩
  have hex : ∃ g, leastT n (Cs.map tg) g := by
    obtain ⟨k, hk, hmin⟩ := least_of (p := fun k => (k : Int) < n ∧ freeT (Cs.map tg) (k : Int)) x.toNat ⟨by omega, by rw [Int.toNat_of_nonneg hx]; exact hf⟩
    refine ⟨k, by omega, hk.1, hk.2, fun y hy hyk hfy => ?_⟩
    have := hmin y.toNat ⟨by omega, by rw [Int.toNat_of_nonneg hy]; exact hfy⟩
    omega
  obtain ⟨g, hg⟩ := hex
  rw [gapI_is hg] at h
  have := hg.1
  omega
def ovO (o l p n : Int) : Int := if min (o + l) (p + n) ≤ max o p then 0 else max o p
def ovL (o l p n : Int) : Int := if min (o + l) (p + n) ≤ max o p then 0 else min (o + l) (p + n) - max o p
theorem ovL_meets (o l p n : Int) : 0 < ovL o l p n ↔ meets o l p n := by
  unfold ovL meets; split <;> omega
end Go.Proofs.Ytkgamkjdkapchaa
/-
  Sums over commands: copied and literal bytes.
-/
namespace Go.Proofs.Ytkgamkjdkapchaa
set_option linter.unusedVariables false
set_option linter.unusedSimpArgs false
set_option linter.unusedVariables false
open Go Go.RowKit
def totI (f : CV → Int) (Cs : List CV) (i : Nat) : Int := ((Cs.take i).map f).sum
def cpV (x : CV) : Int := if x.k = 1 then x.l else 0
def ltV (x : CV) : Int := if x.k = 1 then 0 else (x.m : Int)
def lnV (x : CV) : Int := lenV x.k x.l x.m
theorem cpV1 {x : CV} (h : x.k = 1) : cpV x = x.l := if_pos h
theorem cpV2 {x : CV} (h : ¬ x.k = 1) : cpV x = 0 := if_neg h
theorem ltV1 {x : CV} (h : x.k = 1) : ltV x = 0 := if_pos h
theorem ltV2 {x : CV} (h : ¬ x.k = 1) : ltV x = (x.m : Int) := if_neg h
theorem totI_zero (f : CV → Int) (Cs : List CV) : totI f Cs 0 = 0 := by unfold totI; simp
theorem totI_succ {f : CV → Int} {Cs : List CV} {i : Nat} {x : CV} (hx : Cs[i]? = some x) : totI f Cs (i + 1) = totI f Cs i + f x := by
  unfold totI; rw [List.take_add_one, hx]; simp [List.sum_append]
theorem totI_all {f : CV → Int} {Cs : List CV} {m : Nat} (hm : Cs.length = m) : totI f Cs m = (Cs.map f).sum := by
  unfold totI; rw [List.take_of_length_le (by omega)]
theorem sum_nonneg' {l : List Int} (h : ∀ x ∈ l, 0 ≤ x) : 0 ≤ l.sum := by
  induction l with
  | nil => simp
  | cons a l ih => rw [List.sum_cons]; have := h a (by simp); have := ih (fun x hx => h x (by simp [hx])); omega
theorem totI_bd {f : CV → Int} {Cs : List CV} (hf : ∀ x ∈ Cs, 0 ≤ f x) (i : Nat) : 0 ≤ totI f Cs i ∧ totI f Cs i ≤ (Cs.map f).sum := by
  have h1 : 0 ≤ totI f Cs i := sum_nonneg' (fun y hy => by
    obtain ⟨x, hx, rfl⟩ := List.mem_map.1 hy
    exact hf x (List.mem_of_mem_take hx))
  have h2 : 0 ≤ ((Cs.drop i).map f).sum := sum_nonneg' (fun y hy => by
    obtain ⟨x, hx, rfl⟩ := List.mem_map.1 hy
    exact hf x (List.mem_of_mem_drop hx))
  have h3 : (Cs.map f).sum = totI f Cs i + ((Cs.drop i).map f).sum := by
    unfold totI
    rw [← List.sum_append, ← List.map_append, List.take_append_drop]
  omega
theorem cp_lt (Cs : List CV) : (Cs.map cpV).sum + (Cs.map ltV).sum = sumT (Cs.map tg) := by
  induction Cs with
  | nil => simp [sumT]
  | cons x l ih =>
    rw [List.map_cons, List.map_cons, List.map_cons, sumT_cons, List.sum_cons, List.sum_cons, ← ih]
    have : cpV x + ltV x = (tg x).2 := by unfold cpV ltV tg lenV; dsimp only; split <;> omega
    omega
theorem ln_sum (Cs : List CV) : (Cs.map lnV).sum = sumT (Cs.map tg) := by unfold sumT lnV tg; simp [List.map_map, Function.comp_def]
/-- What holds of a delta without a fault. -/
structure ValidC (o n : Int) (Cs : List CV) : Prop where
  len : okLen o n
  single : ∀ (i : Nat) (x : CV), Cs[i]? = some x → singleV o n x = 0
  tidy : tidyT 0 n (Cs.map tg)
  cover : coverT 0 n (Cs.map tg)
  sum : sumT (Cs.map tg) = n
  pos : ∀ x ∈ Cs, 0 ≤ cpV x ∧ 0 ≤ ltV x ∧ 1 ≤ lnV x
theorem validC {o n : Int} {Cs : List CV} (h : (faultI o n Cs).1 = 0) : ValidC o n Cs := by
  obtain ⟨h1, h2, h3, h4⟩ := faultI_valid h
  have ht := tidy_of h2 h3
  have hc := gap_cover h4
  have h1' := h1
  unfold okLen at h1'
  have hs := sum_of_cover (a := 0) (by omega) ht hc
  refine ⟨h1, h2, ht, hc, by omega, fun x hx => ?_⟩
  obtain ⟨i, hi⟩ := List.mem_iff_getElem?.1 hx
  have := single_vld (h2 i x hi)
  have h5 := this.2.1
  unfold cpV ltV lnV
  unfold lenV at h5 ⊢
  split at h5 <;> rename_i hk <;> simp only [hk, if_true, if_false] <;> omega
theorem ValidC.tot {o n : Int} {Cs : List CV} (h : ValidC o n Cs) (i : Nat) : 0 ≤ totI cpV Cs i ∧ totI cpV Cs i ≤ n ∧ 0 ≤ totI ltV Cs i ∧ totI ltV Cs i ≤ n ∧ 0 ≤ totI lnV Cs i ∧ totI lnV Cs i ≤ n ∧ n ≤ 4611686018427387903 := by
  have h1 := totI_bd (f := cpV) (fun x hx => (h.pos x hx).1) i
  have h2 := totI_bd (f := ltV) (fun x hx => (h.pos x hx).2.1) i
  have h3 := totI_bd (f := lnV) (fun x hx => by have := (h.pos x hx).2.2; omega) i
  have h4 := cp_lt Cs
  have h5 := h.sum
  have h6 := ln_sum Cs
  have h7 := sum_nonneg' (l := Cs.map cpV) (fun y hy => by obtain ⟨x, hx, rfl⟩ := List.mem_map.1 hy; exact (h.pos x hx).1)
  have h8 := sum_nonneg' (l := Cs.map ltV) (fun y hy => by obtain ⟨x, hx, rfl⟩ := List.mem_map.1 hy; exact (h.pos x hx).2.1)
  have h9 := h.len
  unfold okLen at h9
  omega
theorem ValidC.vld {o n : Int} {Cs : List CV} (h : ValidC o n Cs) : ∀ (i : Nat) (x : CV), Cs[i]? = some x → vld x.t (lenV x.k x.l x.m) := fun i x hx => (single_vld (h.single i x hx)).1
theorem ValidC.adds {o n : Int} {Cs : List CV} (h : ValidC o n Cs) : (Cs.map cpV).sum + (Cs.map ltV).sum = n := by rw [cp_lt, h.sum]
end Go.Proofs.Ytkgamkjdkapchaa
/-
  Contracts of Same.
-/
namespace Go.Proofs.Ytkgamkjdkapchaa
set_option linter.unusedVariables false
set_option linter.unusedSimpArgs false
open Go Go.RowKit
theorem enters59 : Enters Try.prog 59 := ⟨_, Try.func59, by kernel_rfl, by kernel_rfl⟩

def sameP (k t f l k2 t2 f2 l2 : Int) (B B2 : List Int) : Prop := k = k2 ∧ t = t2 ∧ f = f2 ∧ l = l2 ∧ B = B2
instance (k t f l k2 t2 f2 l2 : Int) (B B2 : List Int) : Decidable (sameP k t f l k2 t2 f2 l2 B B2) := by unfold sameP; infer_instance
theorem bytes_no : Bytes [] := fun x hx => by cases hx
theorem src_no {w : World} {A : Option Addr} : Src w A 0 .u8 [] := ⟨rfl, .inl rfl⟩

set_option maxRecDepth 100000 in
set_option maxHeartbeats 400000 in
theorem rsame_c (k t f l k2 t2 f2 l2 : Int) (A A2 : Option Addr) (m c m2 c2 : Nat) (B B2 : List Int) (hB : Bytes B) (hB2 : Bytes B2) (w : World) (hsA : Src w A m .u8 B) (hsB : Src w A2 m2 .u8 B2) : Calls Try.prog 39 #[.agg ([Value.int .i64 k, Value.int .i64 t, Value.int .i64 f, Value.int .i64 l, Value.slice A m c]).toArray, .agg ([Value.int .i64 k2, Value.int .i64 t2, Value.int .i64 f2, Value.int .i64 l2, Value.slice A2 m2 c2]).toArray] w fun e w' => e = .returned (.bool (decide (sameP k t f l k2 t2 f2 l2 B B2))) ∧ St w [] w' := by
  refine calls_from (args := [.agg ([Value.int .i64 k, Value.int .i64 t, Value.int .i64 f, Value.int .i64 l, Value.slice A m c]).toArray, .agg ([Value.int .i64 k2, Value.int .i64 t2, Value.int .i64 f2, Value.int .i64 l2, Value.slice A2 m2 c2]).toArray]) Try.func39 rfl Try.ntmps39 (by simp) ?_
  refine TC.sub (Sub.cons (i := 0) rfl (Sub.cons (i := 1) rfl (Sub.nil))) ?_
  refine TC.seq ?_
  refine TC.regionL ?_
  refine TL.box (Wants.none rfl) rfl rfl rfl (cs := [Value.int .i64 k, Value.int .i64 t, Value.int .i64 f, Value.int .i64 l, Value.slice A m c]) (by simp [Value.cells]) (tot := 5) (by simp []) (fun g1 hg1 => ?_)
  refine TL.box (Wants.none rfl) rfl rfl rfl (cs := [Value.int .i64 k2, Value.int .i64 t2, Value.int .i64 f2, Value.int .i64 l2, Value.slice A2 m2 c2]) (by simp [Value.cells]) (tot := 5) (by simp []) (fun g2 hg2 => ?_)
  refine TL.gets (Wants.none rfl) rfl (Gets.assign rfl rfl) ?_
  refine TL.nil ?_
  refine TE.then ?_
  refine TC.seq ?_
  refine TC.regionL ?_
  refine TL.gets (Wants.none rfl) rfl (Gets.fieldAddr rfl Try.underlying40 rfl size3 rfl (off' := 0) (by first | rfl | omega)) ?_
  refine TL.gets (Wants.none rfl) rfl (Gets.load1 rfl agg3 rfl (At.ent (i := 1) (ent := ⟨g1, 40, [Value.int .i64 k, Value.int .i64 t, Value.int .i64 f, Value.int .i64 l, Value.slice A m c], 5⟩) (off := 0) rfl rfl (by exact rfl))) ?_
  refine TL.gets (Wants.none rfl) rfl (Gets.fieldAddr rfl Try.underlying40 rfl size3 rfl (off' := 0) (by first | rfl | omega)) ?_
  refine TL.gets (Wants.none rfl) rfl (Gets.load1 rfl agg3 rfl (At.ent (i := 0) (ent := ⟨g2, 40, [Value.int .i64 k2, Value.int .i64 t2, Value.int .i64 f2, Value.int .i64 l2, Value.slice A2 m2 c2], 5⟩) (off := 0) rfl rfl (by exact rfl))) ?_
  by_cases q1 : k = k2
  · refine TL.gets (Wants.none rfl) rfl (Gets.isTrue (Gets.eql rfl rfl rfl) q1) ?_
    refine TL.gets (Wants.none rfl) rfl (Gets.move rfl rfl) ?_
    refine TL.gets (Wants.yes rfl rfl rfl) rfl (Gets.fieldAddr rfl Try.underlying40 rfl size3 rfl (off' := 1) (by first | rfl | omega)) ?_
    refine TL.gets (Wants.yes rfl rfl rfl) rfl (Gets.load1 rfl agg3 rfl (At.ent (i := 1) (ent := ⟨g1, 40, [Value.int .i64 k, Value.int .i64 t, Value.int .i64 f, Value.int .i64 l, Value.slice A m c], 5⟩) (off := 1) rfl rfl (by exact rfl))) ?_
    refine TL.gets (Wants.yes rfl rfl rfl) rfl (Gets.fieldAddr rfl Try.underlying40 rfl size3 rfl (off' := 1) (by first | rfl | omega)) ?_
    refine TL.gets (Wants.yes rfl rfl rfl) rfl (Gets.load1 rfl agg3 rfl (At.ent (i := 0) (ent := ⟨g2, 40, [Value.int .i64 k2, Value.int .i64 t2, Value.int .i64 f2, Value.int .i64 l2, Value.slice A2 m2 c2], 5⟩) (off := 1) rfl rfl (by exact rfl))) ?_
    by_cases q2 : t = t2
    · refine TL.gets (Wants.yes rfl rfl rfl) rfl (Gets.isTrue (Gets.eql rfl rfl rfl) q2) ?_
      refine TL.gets (Wants.none rfl) rfl (Gets.pickT rfl rfl rfl) ?_
      refine TL.gets (Wants.none rfl) rfl (Gets.move rfl rfl) ?_
      refine TL.gets (Wants.yes rfl rfl rfl) rfl (Gets.fieldAddr rfl Try.underlying40 rfl size3 rfl (off' := 2) (by first | rfl | omega)) ?_
      refine TL.gets (Wants.yes rfl rfl rfl) rfl (Gets.load1 rfl agg3 rfl (At.ent (i := 1) (ent := ⟨g1, 40, [Value.int .i64 k, Value.int .i64 t, Value.int .i64 f, Value.int .i64 l, Value.slice A m c], 5⟩) (off := 2) rfl rfl (by exact rfl))) ?_
      refine TL.gets (Wants.yes rfl rfl rfl) rfl (Gets.fieldAddr rfl Try.underlying40 rfl size3 rfl (off' := 2) (by first | rfl | omega)) ?_
      refine TL.gets (Wants.yes rfl rfl rfl) rfl (Gets.load1 rfl agg3 rfl (At.ent (i := 0) (ent := ⟨g2, 40, [Value.int .i64 k2, Value.int .i64 t2, Value.int .i64 f2, Value.int .i64 l2, Value.slice A2 m2 c2], 5⟩) (off := 2) rfl rfl (by exact rfl))) ?_
      by_cases q3 : f = f2
      · refine TL.gets (Wants.yes rfl rfl rfl) rfl (Gets.isTrue (Gets.eql rfl rfl rfl) q3) ?_
        refine TL.gets (Wants.none rfl) rfl (Gets.pickT rfl rfl rfl) ?_
        refine TL.gets (Wants.none rfl) rfl (Gets.move rfl rfl) ?_
        refine TL.gets (Wants.yes rfl rfl rfl) rfl (Gets.fieldAddr rfl Try.underlying40 rfl size3 rfl (off' := 3) (by first | rfl | omega)) ?_
        refine TL.gets (Wants.yes rfl rfl rfl) rfl (Gets.load1 rfl agg3 rfl (At.ent (i := 1) (ent := ⟨g1, 40, [Value.int .i64 k, Value.int .i64 t, Value.int .i64 f, Value.int .i64 l, Value.slice A m c], 5⟩) (off := 3) rfl rfl (by exact rfl))) ?_
        refine TL.gets (Wants.yes rfl rfl rfl) rfl (Gets.fieldAddr rfl Try.underlying40 rfl size3 rfl (off' := 3) (by first | rfl | omega)) ?_
        refine TL.gets (Wants.yes rfl rfl rfl) rfl (Gets.load1 rfl agg3 rfl (At.ent (i := 0) (ent := ⟨g2, 40, [Value.int .i64 k2, Value.int .i64 t2, Value.int .i64 f2, Value.int .i64 l2, Value.slice A2 m2 c2], 5⟩) (off := 3) rfl rfl (by exact rfl))) ?_
        by_cases q4 : l = l2
        · refine TL.gets (Wants.yes rfl rfl rfl) rfl (Gets.isTrue (Gets.eql rfl rfl rfl) q4) ?_
          refine TL.gets (Wants.none rfl) rfl (Gets.pickT rfl rfl rfl) ?_
          refine TL.gets (Wants.none rfl) rfl (Gets.move rfl rfl) ?_
          refine TL.gets (Wants.yes rfl rfl rfl) rfl (Gets.fieldAddr rfl Try.underlying40 rfl size38 rfl (off' := 4) (by first | rfl | omega)) ?_
          refine TL.gets (Wants.yes rfl rfl rfl) rfl (Gets.load1 rfl agg38 rfl (At.ent (i := 1) (ent := ⟨g1, 40, [Value.int .i64 k, Value.int .i64 t, Value.int .i64 f, Value.int .i64 l, Value.slice A m c], 5⟩) (off := 4) rfl rfl (by exact rfl))) ?_
          refine TL.gets (Wants.yes rfl rfl rfl) rfl (Gets.b2s rfl Try.underlying38 Try.underlying9 Try.underlying5 rfl (fun w hs => (hsA.at_ hs (fun b hb => (ne_cons (by show g2 ≠ b; omega) (ne_cons (by show g1 ≠ b; omega) ne_nil)))))) ?_
          refine TL.gets (Wants.yes rfl rfl rfl) rfl (Gets.fieldAddr rfl Try.underlying40 rfl size38 rfl (off' := 4) (by first | rfl | omega)) ?_
          refine TL.gets (Wants.yes rfl rfl rfl) rfl (Gets.load1 rfl agg38 rfl (At.ent (i := 0) (ent := ⟨g2, 40, [Value.int .i64 k2, Value.int .i64 t2, Value.int .i64 f2, Value.int .i64 l2, Value.slice A2 m2 c2], 5⟩) (off := 4) rfl rfl (by exact rfl))) ?_
          refine TL.gets (Wants.yes rfl rfl rfl) rfl (Gets.b2s rfl Try.underlying38 Try.underlying9 Try.underlying5 rfl (fun w hs => (hsB.at_ hs (fun b hb => (ne_cons (by show g2 ≠ b; omega) (ne_cons (by show g1 ≠ b; omega) ne_nil)))))) ?_
          refine TL.gets (Wants.yes rfl rfl rfl) rfl (Gets.bytesEq rfl rfl rfl hB hB2) ?_
          refine TL.gets (Wants.none rfl) rfl (Gets.pickT rfl rfl rfl) ?_
          refine TL.gets (Wants.none rfl) rfl (Gets.assign rfl rfl) ?_
          refine TL.nil ?_
          refine TE.then ?_
          refine TC.ret ?_
          exact TE.ret1 rfl rfl (fun w hs => ⟨dec_iff (by unfold sameP; simp [*]), ((hs.drop (by assumption)).drop (by assumption))⟩)
        · refine TL.gets (Wants.yes rfl rfl rfl) rfl (Gets.isFalse (Gets.eql rfl rfl rfl) q4) ?_
          refine TL.gets (Wants.none rfl) rfl (Gets.pickT rfl rfl rfl) ?_
          refine TL.gets (Wants.none rfl) rfl (Gets.move rfl rfl) ?_
          refine TL.pass rfl rfl rfl rfl rfl ?_
          refine TL.pass rfl rfl rfl rfl rfl ?_
          refine TL.pass rfl rfl rfl rfl rfl ?_
          refine TL.pass rfl rfl rfl rfl rfl ?_
          refine TL.pass rfl rfl rfl rfl rfl ?_
          refine TL.pass rfl rfl rfl rfl rfl ?_
          refine TL.pass rfl rfl rfl rfl rfl ?_
          refine TL.gets (Wants.none rfl) rfl (Gets.pickF rfl rfl rfl) ?_
          refine TL.gets (Wants.none rfl) rfl (Gets.assign rfl rfl) ?_
          refine TL.nil ?_
          refine TE.then ?_
          refine TC.ret ?_
          exact TE.ret1 rfl rfl (fun w hs => ⟨dec_f (by unfold sameP; simp [*]), ((hs.drop (by assumption)).drop (by assumption))⟩)
      · refine TL.gets (Wants.yes rfl rfl rfl) rfl (Gets.isFalse (Gets.eql rfl rfl rfl) q3) ?_
        refine TL.gets (Wants.none rfl) rfl (Gets.pickT rfl rfl rfl) ?_
        refine TL.gets (Wants.none rfl) rfl (Gets.move rfl rfl) ?_
        refine TL.pass rfl rfl rfl rfl rfl ?_
        refine TL.pass rfl rfl rfl rfl rfl ?_
        refine TL.pass rfl rfl rfl rfl rfl ?_
        refine TL.pass rfl rfl rfl rfl rfl ?_
        refine TL.pass rfl rfl rfl rfl rfl ?_
        refine TL.gets (Wants.none rfl) rfl (Gets.pickF rfl rfl rfl) ?_
        refine TL.gets (Wants.none rfl) rfl (Gets.move rfl rfl) ?_
        refine TL.pass rfl rfl rfl rfl rfl ?_
        refine TL.pass rfl rfl rfl rfl rfl ?_
        refine TL.pass rfl rfl rfl rfl rfl ?_
        refine TL.pass rfl rfl rfl rfl rfl ?_
        refine TL.pass rfl rfl rfl rfl rfl ?_
        refine TL.pass rfl rfl rfl rfl rfl ?_
        refine TL.pass rfl rfl rfl rfl rfl ?_
        refine TL.gets (Wants.none rfl) rfl (Gets.pickF rfl rfl rfl) ?_
        refine TL.gets (Wants.none rfl) rfl (Gets.assign rfl rfl) ?_
        refine TL.nil ?_
        refine TE.then ?_
        refine TC.ret ?_
        exact TE.ret1 rfl rfl (fun w hs => ⟨dec_f (by unfold sameP; simp [*]), ((hs.drop (by assumption)).drop (by assumption))⟩)
    · refine TL.gets (Wants.yes rfl rfl rfl) rfl (Gets.isFalse (Gets.eql rfl rfl rfl) q2) ?_
      refine TL.gets (Wants.none rfl) rfl (Gets.pickT rfl rfl rfl) ?_
      refine TL.gets (Wants.none rfl) rfl (Gets.move rfl rfl) ?_
      refine TL.pass rfl rfl rfl rfl rfl ?_
      refine TL.pass rfl rfl rfl rfl rfl ?_
      refine TL.pass rfl rfl rfl rfl rfl ?_
      refine TL.pass rfl rfl rfl rfl rfl ?_
      refine TL.pass rfl rfl rfl rfl rfl ?_
      refine TL.gets (Wants.none rfl) rfl (Gets.pickF rfl rfl rfl) ?_
      refine TL.gets (Wants.none rfl) rfl (Gets.move rfl rfl) ?_
      refine TL.pass rfl rfl rfl rfl rfl ?_
      refine TL.pass rfl rfl rfl rfl rfl ?_
      refine TL.pass rfl rfl rfl rfl rfl ?_
      refine TL.pass rfl rfl rfl rfl rfl ?_
      refine TL.pass rfl rfl rfl rfl rfl ?_
      refine TL.gets (Wants.none rfl) rfl (Gets.pickF rfl rfl rfl) ?_
      refine TL.gets (Wants.none rfl) rfl (Gets.move rfl rfl) ?_
      refine TL.pass rfl rfl rfl rfl rfl ?_
      refine TL.pass rfl rfl rfl rfl rfl ?_
      refine TL.pass rfl rfl rfl rfl rfl ?_
      refine TL.pass rfl rfl rfl rfl rfl ?_
      refine TL.pass rfl rfl rfl rfl rfl ?_
      refine TL.pass rfl rfl rfl rfl rfl ?_
      refine TL.pass rfl rfl rfl rfl rfl ?_
      refine TL.gets (Wants.none rfl) rfl (Gets.pickF rfl rfl rfl) ?_
      refine TL.gets (Wants.none rfl) rfl (Gets.assign rfl rfl) ?_
      refine TL.nil ?_
      refine TE.then ?_
      refine TC.ret ?_
      exact TE.ret1 rfl rfl (fun w hs => ⟨dec_f (by unfold sameP; simp [*]), ((hs.drop (by assumption)).drop (by assumption))⟩)
  · refine TL.gets (Wants.none rfl) rfl (Gets.isFalse (Gets.eql rfl rfl rfl) q1) ?_
    refine TL.gets (Wants.none rfl) rfl (Gets.move rfl rfl) ?_
    refine TL.pass rfl rfl rfl rfl rfl ?_
    refine TL.pass rfl rfl rfl rfl rfl ?_
    refine TL.pass rfl rfl rfl rfl rfl ?_
    refine TL.pass rfl rfl rfl rfl rfl ?_
    refine TL.pass rfl rfl rfl rfl rfl ?_
    refine TL.gets (Wants.none rfl) rfl (Gets.pickF rfl rfl rfl) ?_
    refine TL.gets (Wants.none rfl) rfl (Gets.move rfl rfl) ?_
    refine TL.pass rfl rfl rfl rfl rfl ?_
    refine TL.pass rfl rfl rfl rfl rfl ?_
    refine TL.pass rfl rfl rfl rfl rfl ?_
    refine TL.pass rfl rfl rfl rfl rfl ?_
    refine TL.pass rfl rfl rfl rfl rfl ?_
    refine TL.gets (Wants.none rfl) rfl (Gets.pickF rfl rfl rfl) ?_
    refine TL.gets (Wants.none rfl) rfl (Gets.move rfl rfl) ?_
    refine TL.pass rfl rfl rfl rfl rfl ?_
    refine TL.pass rfl rfl rfl rfl rfl ?_
    refine TL.pass rfl rfl rfl rfl rfl ?_
    refine TL.pass rfl rfl rfl rfl rfl ?_
    refine TL.pass rfl rfl rfl rfl rfl ?_
    refine TL.gets (Wants.none rfl) rfl (Gets.pickF rfl rfl rfl) ?_
    refine TL.gets (Wants.none rfl) rfl (Gets.move rfl rfl) ?_
    refine TL.pass rfl rfl rfl rfl rfl ?_
    refine TL.pass rfl rfl rfl rfl rfl ?_
    refine TL.pass rfl rfl rfl rfl rfl ?_
    refine TL.pass rfl rfl rfl rfl rfl ?_
    refine TL.pass rfl rfl rfl rfl rfl ?_
    refine TL.pass rfl rfl rfl rfl rfl ?_
    refine TL.pass rfl rfl rfl rfl rfl ?_
    refine TL.gets (Wants.none rfl) rfl (Gets.pickF rfl rfl rfl) ?_
    refine TL.gets (Wants.none rfl) rfl (Gets.assign rfl rfl) ?_
    refine TL.nil ?_
    refine TE.then ?_
    refine TC.ret ?_
    exact TE.ret1 rfl rfl (fun w hs => ⟨dec_f (by unfold sameP; simp [*]), ((hs.drop (by assumption)).drop (by assumption))⟩)

set_option maxRecDepth 100000 in
set_option maxHeartbeats 400000 in
theorem bequal_c (PA PB : List Int) (hBA : Bytes PA) (hBB : Bytes PB) (A A2 : Option Addr) (m c m2 c2 : Nat) (w : World) (hsA : Src w A m .u8 PA) (hsB : Src w A2 m2 .u8 PB) : Calls Try.prog 59 #[.slice A m c, .slice A2 m2 c2] w fun e w' => e = .returned (.bool (decide (PA = PB))) ∧ St w [] w' := by
  refine calls_from (args := [.slice A m c, .slice A2 m2 c2]) Try.func59 rfl Try.ntmps59 (by simp) ?_
  refine TC.sub (Sub.cons (i := 0) rfl (Sub.cons (i := 1) rfl (Sub.nil))) ?_
  refine TC.seq ?_
  refine TC.regionL ?_
  refine TL.gets (Wants.none rfl) rfl (Gets.assign rfl rfl) ?_
  refine TL.nil ?_
  refine TE.then ?_
  refine TC.seq ?_
  refine TC.regionL ?_
  refine TL.gets (Wants.none rfl) rfl (Gets.move rfl rfl) ?_
  refine TL.gets (Wants.none rfl) rfl (Gets.b2s rfl Try.underlying38 Try.underlying9 Try.underlying5 rfl (fun w hs => (hsA.at_ hs (fun b hb => ne_nil)))) ?_
  refine TL.gets (Wants.none rfl) rfl (Gets.move rfl rfl) ?_
  refine TL.gets (Wants.none rfl) rfl (Gets.b2s rfl Try.underlying38 Try.underlying9 Try.underlying5 rfl (fun w hs => (hsB.at_ hs (fun b hb => ne_nil)))) ?_
  refine TL.gets (Wants.none rfl) rfl (Gets.bytesEq rfl rfl rfl hBA hBB) ?_
  refine TL.gets (Wants.none rfl) rfl (Gets.assign rfl rfl) ?_
  refine TL.nil ?_
  refine TE.then ?_
  refine TC.ret ?_
  exact TE.ret1 rfl rfl (fun w hs => ⟨rfl, hs⟩)

set_option maxRecDepth 100000 in
set_option maxHeartbeats 400000 in
theorem same_c (k t f l k2 t2 f2 l2 : Int) (A A2 : Option Addr) (m c m2 c2 : Nat) (B B2 : List Int) (hB : Bytes B) (hB2 : Bytes B2) (w : World) (hsA : Src w A m .u8 B) (hsB : Src w A2 m2 .u8 B2) : Calls Try.prog 38 #[.agg ([Value.int .i64 k, Value.int .i64 t, Value.int .i64 f, Value.int .i64 l, Value.slice A m c]).toArray, .agg ([Value.int .i64 k2, Value.int .i64 t2, Value.int .i64 f2, Value.int .i64 l2, Value.slice A2 m2 c2]).toArray] w fun e w' => e = .returned (.bool (decide (sameP k t f l k2 t2 f2 l2 B B2))) ∧ St w [] w' := by
  refine calls_from (args := [.agg ([Value.int .i64 k, Value.int .i64 t, Value.int .i64 f, Value.int .i64 l, Value.slice A m c]).toArray, .agg ([Value.int .i64 k2, Value.int .i64 t2, Value.int .i64 f2, Value.int .i64 l2, Value.slice A2 m2 c2]).toArray]) Try.func38 rfl Try.ntmps38 (by simp) ?_
  refine TC.sub (Sub.cons (i := 0) rfl (Sub.cons (i := 1) rfl (Sub.nil))) ?_
  refine TC.seq ?_
  refine TC.regionL ?_
  refine TL.box (Wants.none rfl) rfl rfl rfl (cs := [Value.int .i64 k, Value.int .i64 t, Value.int .i64 f, Value.int .i64 l, Value.slice A m c]) (by simp [Value.cells]) (tot := 5) (by simp []) (fun g1 hg1 => ?_)
  refine TL.box (Wants.none rfl) rfl rfl rfl (cs := [Value.int .i64 k2, Value.int .i64 t2, Value.int .i64 f2, Value.int .i64 l2, Value.slice A2 m2 c2]) (by simp [Value.cells]) (tot := 5) (by simp []) (fun g2 hg2 => ?_)
  refine TL.gets (Wants.none rfl) rfl (Gets.assign rfl rfl) ?_
  refine TL.nil ?_
  refine TE.then ?_
  refine TC.seq ?_
  refine TC.regionL ?_
  refine TL.gets (Wants.none rfl) rfl (Gets.fieldAddr rfl Try.underlying40 rfl size3 rfl (off' := 0) (by first | rfl | omega)) ?_
  refine TL.gets (Wants.none rfl) rfl (Gets.load1 rfl agg3 rfl (At.ent (i := 1) (ent := ⟨g1, 40, [Value.int .i64 k, Value.int .i64 t, Value.int .i64 f, Value.int .i64 l, Value.slice A m c], 5⟩) (off := 0) rfl rfl (by exact rfl))) ?_
  refine TL.gets (Wants.none rfl) rfl (Gets.fieldAddr rfl Try.underlying40 rfl size3 rfl (off' := 0) (by first | rfl | omega)) ?_
  refine TL.gets (Wants.none rfl) rfl (Gets.load1 rfl agg3 rfl (At.ent (i := 0) (ent := ⟨g2, 40, [Value.int .i64 k2, Value.int .i64 t2, Value.int .i64 f2, Value.int .i64 l2, Value.slice A2 m2 c2], 5⟩) (off := 0) rfl rfl (by exact rfl))) ?_
  by_cases q1 : k = k2
  · refine TL.gets (Wants.none rfl) rfl (Gets.isTrue (Gets.eql rfl rfl rfl) q1) ?_
    refine TL.gets (Wants.none rfl) rfl (Gets.move rfl rfl) ?_
    refine TL.gets (Wants.yes rfl rfl rfl) rfl (Gets.fieldAddr rfl Try.underlying40 rfl size3 rfl (off' := 1) (by first | rfl | omega)) ?_
    refine TL.gets (Wants.yes rfl rfl rfl) rfl (Gets.load1 rfl agg3 rfl (At.ent (i := 1) (ent := ⟨g1, 40, [Value.int .i64 k, Value.int .i64 t, Value.int .i64 f, Value.int .i64 l, Value.slice A m c], 5⟩) (off := 1) rfl rfl (by exact rfl))) ?_
    refine TL.gets (Wants.yes rfl rfl rfl) rfl (Gets.fieldAddr rfl Try.underlying40 rfl size3 rfl (off' := 1) (by first | rfl | omega)) ?_
    refine TL.gets (Wants.yes rfl rfl rfl) rfl (Gets.load1 rfl agg3 rfl (At.ent (i := 0) (ent := ⟨g2, 40, [Value.int .i64 k2, Value.int .i64 t2, Value.int .i64 f2, Value.int .i64 l2, Value.slice A2 m2 c2], 5⟩) (off := 1) rfl rfl (by exact rfl))) ?_
    by_cases q2 : t = t2
    · refine TL.gets (Wants.yes rfl rfl rfl) rfl (Gets.isTrue (Gets.eql rfl rfl rfl) q2) ?_
      refine TL.gets (Wants.none rfl) rfl (Gets.pickT rfl rfl rfl) ?_
      refine TL.gets (Wants.none rfl) rfl (Gets.move rfl rfl) ?_
      refine TL.gets (Wants.yes rfl rfl rfl) rfl (Gets.fieldAddr rfl Try.underlying40 rfl size3 rfl (off' := 2) (by first | rfl | omega)) ?_
      refine TL.gets (Wants.yes rfl rfl rfl) rfl (Gets.load1 rfl agg3 rfl (At.ent (i := 1) (ent := ⟨g1, 40, [Value.int .i64 k, Value.int .i64 t, Value.int .i64 f, Value.int .i64 l, Value.slice A m c], 5⟩) (off := 2) rfl rfl (by exact rfl))) ?_
      refine TL.gets (Wants.yes rfl rfl rfl) rfl (Gets.fieldAddr rfl Try.underlying40 rfl size3 rfl (off' := 2) (by first | rfl | omega)) ?_
      refine TL.gets (Wants.yes rfl rfl rfl) rfl (Gets.load1 rfl agg3 rfl (At.ent (i := 0) (ent := ⟨g2, 40, [Value.int .i64 k2, Value.int .i64 t2, Value.int .i64 f2, Value.int .i64 l2, Value.slice A2 m2 c2], 5⟩) (off := 2) rfl rfl (by exact rfl))) ?_
      by_cases q3 : f = f2
      · refine TL.gets (Wants.yes rfl rfl rfl) rfl (Gets.isTrue (Gets.eql rfl rfl rfl) q3) ?_
        refine TL.gets (Wants.none rfl) rfl (Gets.pickT rfl rfl rfl) ?_
        refine TL.gets (Wants.none rfl) rfl (Gets.move rfl rfl) ?_
        refine TL.gets (Wants.yes rfl rfl rfl) rfl (Gets.fieldAddr rfl Try.underlying40 rfl size3 rfl (off' := 3) (by first | rfl | omega)) ?_
        refine TL.gets (Wants.yes rfl rfl rfl) rfl (Gets.load1 rfl agg3 rfl (At.ent (i := 1) (ent := ⟨g1, 40, [Value.int .i64 k, Value.int .i64 t, Value.int .i64 f, Value.int .i64 l, Value.slice A m c], 5⟩) (off := 3) rfl rfl (by exact rfl))) ?_
        refine TL.gets (Wants.yes rfl rfl rfl) rfl (Gets.fieldAddr rfl Try.underlying40 rfl size3 rfl (off' := 3) (by first | rfl | omega)) ?_
        refine TL.gets (Wants.yes rfl rfl rfl) rfl (Gets.load1 rfl agg3 rfl (At.ent (i := 0) (ent := ⟨g2, 40, [Value.int .i64 k2, Value.int .i64 t2, Value.int .i64 f2, Value.int .i64 l2, Value.slice A2 m2 c2], 5⟩) (off := 3) rfl rfl (by exact rfl))) ?_
        by_cases q4 : l = l2
        · refine TL.gets (Wants.yes rfl rfl rfl) rfl (Gets.isTrue (Gets.eql rfl rfl rfl) q4) ?_
          refine TL.gets (Wants.none rfl) rfl (Gets.pickT rfl rfl rfl) ?_
          refine TL.gets (Wants.none rfl) rfl (Gets.move rfl rfl) ?_
          refine TL.gets (Wants.yes rfl rfl rfl) rfl (Gets.fieldAddr rfl Try.underlying40 rfl size38 rfl (off' := 4) (by first | rfl | omega)) ?_
          refine TL.gets (Wants.yes rfl rfl rfl) rfl (Gets.load1 rfl agg38 rfl (At.ent (i := 1) (ent := ⟨g1, 40, [Value.int .i64 k, Value.int .i64 t, Value.int .i64 f, Value.int .i64 l, Value.slice A m c], 5⟩) (off := 4) rfl rfl (by exact rfl))) ?_
          refine TL.gets (Wants.yes rfl rfl rfl) rfl (Gets.fieldAddr rfl Try.underlying40 rfl size38 rfl (off' := 4) (by first | rfl | omega)) ?_
          refine TL.gets (Wants.yes rfl rfl rfl) rfl (Gets.load1 rfl agg38 rfl (At.ent (i := 0) (ent := ⟨g2, 40, [Value.int .i64 k2, Value.int .i64 t2, Value.int .i64 f2, Value.int .i64 l2, Value.slice A2 m2 c2], 5⟩) (off := 4) rfl rfl (by exact rfl))) ?_
          refine TL.call0 (Wants.yes rfl rfl rfl) rfl enters59 rfl rfl (v := .bool (decide (B = B2))) (fun w hs => bequal_c B B2 hB hB2 A A2 m c m2 c2 w (hsA.at_ hs (fun b hb => (ne_cons (by show g2 ≠ b; omega) (ne_cons (by show g1 ≠ b; omega) ne_nil)))) (hsB.at_ hs (fun b hb => (ne_cons (by show g2 ≠ b; omega) (ne_cons (by show g1 ≠ b; omega) ne_nil))))) ?_
          refine TL.gets (Wants.none rfl) rfl (Gets.pickT rfl rfl rfl) ?_
          refine TL.gets (Wants.none rfl) rfl (Gets.assign rfl rfl) ?_
          refine TL.nil ?_
          refine TE.then ?_
          refine TC.ret ?_
          exact TE.ret1 rfl rfl (fun w hs => ⟨dec_iff (by unfold sameP; simp [*]), ((hs.drop (by assumption)).drop (by assumption))⟩)
        · refine TL.gets (Wants.yes rfl rfl rfl) rfl (Gets.isFalse (Gets.eql rfl rfl rfl) q4) ?_
          refine TL.gets (Wants.none rfl) rfl (Gets.pickT rfl rfl rfl) ?_
          refine TL.gets (Wants.none rfl) rfl (Gets.move rfl rfl) ?_
          refine TL.pass rfl rfl rfl rfl rfl ?_
          refine TL.pass rfl rfl rfl rfl rfl ?_
          refine TL.pass rfl rfl rfl rfl rfl ?_
          refine TL.pass rfl rfl rfl rfl rfl ?_
          refine TL.pass rfl rfl rfl rfl rfl ?_
          refine TL.gets (Wants.none rfl) rfl (Gets.pickF rfl rfl rfl) ?_
          refine TL.gets (Wants.none rfl) rfl (Gets.assign rfl rfl) ?_
          refine TL.nil ?_
          refine TE.then ?_
          refine TC.ret ?_
          exact TE.ret1 rfl rfl (fun w hs => ⟨dec_f (by unfold sameP; simp [*]), ((hs.drop (by assumption)).drop (by assumption))⟩)
      · refine TL.gets (Wants.yes rfl rfl rfl) rfl (Gets.isFalse (Gets.eql rfl rfl rfl) q3) ?_
        refine TL.gets (Wants.none rfl) rfl (Gets.pickT rfl rfl rfl) ?_
        refine TL.gets (Wants.none rfl) rfl (Gets.move rfl rfl) ?_
        refine TL.pass rfl rfl rfl rfl rfl ?_
        refine TL.pass rfl rfl rfl rfl rfl ?_
        refine TL.pass rfl rfl rfl rfl rfl ?_
        refine TL.pass rfl rfl rfl rfl rfl ?_
        refine TL.pass rfl rfl rfl rfl rfl ?_
        refine TL.gets (Wants.none rfl) rfl (Gets.pickF rfl rfl rfl) ?_
        refine TL.gets (Wants.none rfl) rfl (Gets.move rfl rfl) ?_
        refine TL.pass rfl rfl rfl rfl rfl ?_
        refine TL.pass rfl rfl rfl rfl rfl ?_
        refine TL.pass rfl rfl rfl rfl rfl ?_
        refine TL.pass rfl rfl rfl rfl rfl ?_
        refine TL.pass rfl rfl rfl rfl rfl ?_
        refine TL.gets (Wants.none rfl) rfl (Gets.pickF rfl rfl rfl) ?_
        refine TL.gets (Wants.none rfl) rfl (Gets.assign rfl rfl) ?_
        refine TL.nil ?_
        refine TE.then ?_
        refine TC.ret ?_
        exact TE.ret1 rfl rfl (fun w hs => ⟨dec_f (by unfold sameP; simp [*]), ((hs.drop (by assumption)).drop (by assumption))⟩)
    · refine TL.gets (Wants.yes rfl rfl rfl) rfl (Gets.isFalse (Gets.eql rfl rfl rfl) q2) ?_
      refine TL.gets (Wants.none rfl) rfl (Gets.pickT rfl rfl rfl) ?_
      refine TL.gets (Wants.none rfl) rfl (Gets.move rfl rfl) ?_
      refine TL.pass rfl rfl rfl rfl rfl ?_
      refine TL.pass rfl rfl rfl rfl rfl ?_
      refine TL.pass rfl rfl rfl rfl rfl ?_
      refine TL.pass rfl rfl rfl rfl rfl ?_
      refine TL.pass rfl rfl rfl rfl rfl ?_
      refine TL.gets (Wants.none rfl) rfl (Gets.pickF rfl rfl rfl) ?_
      refine TL.gets (Wants.none rfl) rfl (Gets.move rfl rfl) ?_
      refine TL.pass rfl rfl rfl rfl rfl ?_
      refine TL.pass rfl rfl rfl rfl rfl ?_
      refine TL.pass rfl rfl rfl rfl rfl ?_
      refine TL.pass rfl rfl rfl rfl rfl ?_
      refine TL.pass rfl rfl rfl rfl rfl ?_
      refine TL.gets (Wants.none rfl) rfl (Gets.pickF rfl rfl rfl) ?_
      refine TL.gets (Wants.none rfl) rfl (Gets.move rfl rfl) ?_
      refine TL.pass rfl rfl rfl rfl rfl ?_
      refine TL.pass rfl rfl rfl rfl rfl ?_
      refine TL.pass rfl rfl rfl rfl rfl ?_
      refine TL.pass rfl rfl rfl rfl rfl ?_
      refine TL.pass rfl rfl rfl rfl rfl ?_
      refine TL.gets (Wants.none rfl) rfl (Gets.pickF rfl rfl rfl) ?_
      refine TL.gets (Wants.none rfl) rfl (Gets.assign rfl rfl) ?_
      refine TL.nil ?_
      refine TE.then ?_
      refine TC.ret ?_
      exact TE.ret1 rfl rfl (fun w hs => ⟨dec_f (by unfold sameP; simp [*]), ((hs.drop (by assumption)).drop (by assumption))⟩)
  · refine TL.gets (Wants.none rfl) rfl (Gets.isFalse (Gets.eql rfl rfl rfl) q1) ?_
    refine TL.gets (Wants.none rfl) rfl (Gets.move rfl rfl) ?_
    refine TL.pass rfl rfl rfl rfl rfl ?_
    refine TL.pass rfl rfl rfl rfl rfl ?_
    refine TL.pass rfl rfl rfl rfl rfl ?_
    refine TL.pass rfl rfl rfl rfl rfl ?_
    refine TL.pass rfl rfl rfl rfl rfl ?_
    refine TL.gets (Wants.none rfl) rfl (Gets.pickF rfl rfl rfl) ?_
    refine TL.gets (Wants.none rfl) rfl (Gets.move rfl rfl) ?_
    refine TL.pass rfl rfl rfl rfl rfl ?_
    refine TL.pass rfl rfl rfl rfl rfl ?_
    refine TL.pass rfl rfl rfl rfl rfl ?_
    refine TL.pass rfl rfl rfl rfl rfl ?_
    refine TL.pass rfl rfl rfl rfl rfl ?_
    refine TL.gets (Wants.none rfl) rfl (Gets.pickF rfl rfl rfl) ?_
    refine TL.gets (Wants.none rfl) rfl (Gets.move rfl rfl) ?_
    refine TL.pass rfl rfl rfl rfl rfl ?_
    refine TL.pass rfl rfl rfl rfl rfl ?_
    refine TL.pass rfl rfl rfl rfl rfl ?_
    refine TL.pass rfl rfl rfl rfl rfl ?_
    refine TL.pass rfl rfl rfl rfl rfl ?_
    refine TL.gets (Wants.none rfl) rfl (Gets.pickF rfl rfl rfl) ?_
    refine TL.gets (Wants.none rfl) rfl (Gets.move rfl rfl) ?_
    refine TL.pass rfl rfl rfl rfl rfl ?_
    refine TL.pass rfl rfl rfl rfl rfl ?_
    refine TL.pass rfl rfl rfl rfl rfl ?_
    refine TL.pass rfl rfl rfl rfl rfl ?_
    refine TL.pass rfl rfl rfl rfl rfl ?_
    refine TL.gets (Wants.none rfl) rfl (Gets.pickF rfl rfl rfl) ?_
    refine TL.gets (Wants.none rfl) rfl (Gets.assign rfl rfl) ?_
    refine TL.nil ?_
    refine TE.then ?_
    refine TC.ret ?_
    exact TE.ret1 rfl rfl (fun w hs => ⟨dec_f (by unfold sameP; simp [*]), ((hs.drop (by assumption)).drop (by assumption))⟩)
end Go.Proofs.Ytkgamkjdkapchaa
/-
  What commands are, without where their data lie; when lists of commands are the same.
-/
namespace Go.Proofs.Ytkgamkjdkapchaa
set_option linter.unusedVariables false
set_option linter.unusedSimpArgs false
set_option linter.unusedVariables false
open Go Go.RowKit
/-- The bytes of the commands lie in memory. -/
def DatC (w : World) (Cs : List CV) : Prop := ∀ (i : Nat) (x : CV), Cs[i]? = some x → Src w x.A x.m .u8 x.B ∧ Bytes x.B
theorem DatC.at_ {w0 w : World} {H : List Ent} {Cs : List CV} (h : DatC w0 Cs) (hs : St w0 H w) (hH : ∀ b, b < w0.heap.size → ∀ e ∈ H, e.g ≠ b) : DatC w Cs := fun i x hx => ⟨(h i x hx).1.at_ hs hH, (h i x hx).2⟩
def valC (x : CV) : Int × Int × Int × Int × List Int := (x.k, x.t, x.f, x.l, x.B)
def sameC (Cs Es : List CV) : Prop := Cs.map valC = Es.map valC
instance (Cs Es : List CV) : Decidable (sameC Cs Es) := by unfold sameC; infer_instance
abbrev sameV (x y : CV) : Prop := sameP x.k x.t x.f x.l y.k y.t y.f y.l x.B y.B
theorem sameV_iff {x y : CV} : sameV x y ↔ valC x = valC y := by unfold sameV sameP valC; simp only [Prod.mk.injEq]
theorem sameC_len {Cs Es : List CV} (h : sameC Cs Es) : Cs.length = Es.length := by have := congrArg List.length h; simpa using this
theorem sameC_at {Cs Es : List CV} (h : sameC Cs Es) {i : Nat} {x y : CV} (hx : Cs[i]? = some x) (hy : Es[i]? = some y) : sameV x y := by
  have h1 := congrArg (·[i]?) h
  simp only [List.getElem?_map, hx, hy, Option.map_some, Option.some.injEq] at h1
  exact sameV_iff.2 h1
theorem sameC_of {Cs Es : List CV} (hl : Cs.length = Es.length) (h : ∀ (i : Nat) (x y : CV), Cs[i]? = some x → Es[i]? = some y → sameV x y) : sameC Cs Es := by
  apply List.ext_getElem?
  intro i
  rw [List.getElem?_map, List.getElem?_map]
  cases hx : Cs[i]? with
  | none =>
    rw [List.getElem?_eq_none_iff] at hx
    rw [List.getElem?_eq_none (by omega)]
  | some x =>
    have hi := (List.getElem?_eq_some_iff.1 hx).1
    have hy : Es[i]? = some Es[i] := List.getElem?_eq_getElem (by omega)
    rw [hy]
    simp only [Option.map_some, Option.some.injEq]
    exact sameV_iff.1 (h i x _ hx hy)
theorem sameC_succ {Cs Es : List CV} {i : Nat} {x y : CV} (h : ∀ (j : Nat) (x y : CV), j < i → Cs[j]? = some x → Es[j]? = some y → sameV x y) (hx : Cs[i]? = some x) (hy : Es[i]? = some y) (hs : sameV x y) : ∀ (j : Nat) (x y : CV), j < i + 1 → Cs[j]? = some x → Es[j]? = some y → sameV x y := fun j x' y' hj hx' hy' => by
  by_cases e : j = i
  · subst e; rw [hx] at hx'; rw [hy] at hy'; cases hx'; cases hy'; exact hs
  · exact h j x' y' (by omega) hx' hy'
theorem sameC_refl (Cs : List CV) : sameC Cs Cs := rfl
theorem sameC_tg {Cs Es : List CV} {i : Nat} (h : sameC Cs Es) : True := trivial
def sameD (o n : Int) (H1 H2 : List Int) (Cs : List CV) (o2 n2 : Int) (G1 G2 : List Int) (Es : List CV) : Prop := o = o2 ∧ n = n2 ∧ H1 = G1 ∧ H2 = G2 ∧ sameC Cs Es
instance (o n : Int) (H1 H2 : List Int) (Cs : List CV) (o2 n2 : Int) (G1 G2 : List Int) (Es : List CV) : Decidable (sameD o n H1 H2 Cs o2 n2 G1 G2 Es) := by unfold sameD; infer_instance
end Go.Proofs.Ytkgamkjdkapchaa
/-
  A slice of the call's own whose elements have several cells each: 'append' onto it, in the text's order and in a region that draws its order.
-/
namespace Go.Proofs.Ytkgamkjdkapchaa
set_option linter.unusedVariables false
set_option linter.unusedSimpArgs false
set_option linter.unusedVariables false
open Go Go.RowKit
section
variable {P : Program} {ops : Array Oper} {Q : Exit → Act → World → Prop} {n : Sz} {w0 : World} {L L' : List (Nat × Value)} {H HB X X0 : List Ent}
variable {o : Oper} {rest : List Oper} {v u : Value} {x y z : Operand} {k m j : Nat} {t t' e : TypeId} {ks : List Nat} {kd : IntKind} {r : Value → List Ent → Prop} {rs : List (Value → List Ent → Prop)}
def OwnS (N : Nat) (t : TypeId) (s : Nat) (v : Value) (n : Nat) (cs : List Value) (He : List Ent) : Prop :=
  cs.length = n * s ∧ ((v = .slice none 0 0 ∧ n = 0 ∧ He = []) ∨ ∃ g cap, v = .slice (some ⟨g, 0, none⟩) n cap ∧ He = [⟨g, t, cs, cap * s⟩] ∧ N ≤ g ∧ n ≤ cap ∧ cap ≤ maxLen)
theorem OwnS.nil (N : Nat) (t : TypeId) (s : Nat) : OwnS N t s (.slice none 0 0) 0 [] [] := ⟨by simp, .inl ⟨rfl, rfl, rfl⟩⟩
theorem OwnS.empty {N g : Nat} {t : TypeId} {s tot : Nat} (h : N ≤ g) (ht : tot = 0 * s) : OwnS N t s (.slice (some ⟨g, 0, none⟩) 0 0) 0 [] [⟨g, t, [], tot⟩] := ⟨by simp, .inr ⟨g, 0, rfl, by rw [ht], h, Nat.le_refl _, by unfold maxLen; omega⟩⟩
theorem OwnS.mono {N N' s nn : Nat} {cs : List Value} {He : List Ent} (h : OwnS N' t s v nn cs He) (hN : N ≤ N') : OwnS N t s v nn cs He := by
  refine ⟨h.1, ?_⟩
  rcases h.2 with h | ⟨g, cap, h1, h2, h3, h4⟩
  · exact .inl h
  · exact .inr ⟨g, cap, h1, h2, Nat.le_trans hN h3, h4⟩
theorem OwnS.new {N s nn : Nat} {cs : List Value} {He : List Ent} (h : OwnS N t s v nn cs He) : ∀ e ∈ He, N ≤ e.g := by
  rcases h.2 with ⟨_, _, rfl⟩ | ⟨g, cap, _, rfl, hN, _⟩
  · intro e he; cases he
  · intro e he; rw [List.mem_singleton.1 he]; exact hN
theorem OwnS.form {N s nn : Nat} {cs : List Value} {He : List Ent} (h : OwnS N t s v nn cs He) : ∃ A c, v = .slice A nn c ∧ nn ≤ c ∧ c ≤ 9223372036854775807 := by
  rcases h.2 with ⟨rfl, rfl, rfl⟩ | ⟨g, cap, rfl, rfl, hN, hc, hm⟩
  · exact ⟨none, 0, rfl, Nat.le_refl _, by omega⟩
  · exact ⟨_, cap, rfl, hc, by unfold maxLen at hm; omega⟩
theorem OwnS.at0 {N s nn m c : Nat} {A : Option Addr} {cs : List Value} {He : List Ent} (h : OwnS N t s (.slice A m c) nn cs He) (hm : 0 < nn) : ∃ g, A = some ⟨g, 0, none⟩ ∧ m = nn ∧ He = [⟨g, t, cs, c * s⟩] ∧ N ≤ g ∧ nn ≤ c := by
  rcases h.2 with ⟨_, h2, _⟩ | ⟨g, cap, h1, h2, h3, h4, _⟩
  · omega
  · cases h1; exact ⟨g, rfl, rfl, h2, h3, h4⟩
theorem OwnS.row {w : World} {N s nn : Nat} {cs : List Value} {He : List Ent} (h : OwnS N t s v nn cs He) (hs : ∀ e ∈ He, e.lies w) : w.ownsRow N t s v nn cs := by
  refine ⟨h.1, ?_⟩
  rcases h.2 with ⟨rfl, rfl, rfl⟩ | ⟨g, cap, rfl, rfl, hN, hc, hm⟩
  · exact .inl ⟨rfl, rfl⟩
  · obtain ⟨cur, h1, h2, h3⟩ := hs _ (List.mem_singleton.2 rfl)
    refine .inr ⟨g, cap, cur, rfl, hN, h1, hc, hm, h2, ?_⟩
    rw [← h.1]
    apply List.ext_getElem?
    intro i
    simp only [List.getElem?_take]
    by_cases hi : i < cs.length
    · rw [if_pos hi]
      have := h3 i _ (List.getElem?_eq_getElem hi)
      rw [List.getElem?_eq_getElem hi, Array.getElem?_toList]; exact this
    · rw [if_neg hi, List.getElem?_eq_none (by omega)]
theorem ownS_of_row {w : World} {N s nn : Nat} {cs : List Value} (h : w.ownsRow N t s v nn cs) : ∃ He, OwnS N t s v nn cs He ∧ (He = [] ∨ ∃ e, He = [e] ∧ e.lies w ∧ N ≤ e.g ∧ v.ownBlock = some e.g) := by
  rcases h.2 with ⟨rfl, rfl⟩ | ⟨g, cap, cur, rfl, hN, h1, hc, hm, hsz, ht⟩
  · exact ⟨[], ⟨h.1, .inl ⟨rfl, rfl, rfl⟩⟩, .inl rfl⟩
  · refine ⟨[⟨g, t, cs, cap * s⟩], ⟨h.1, .inr ⟨g, cap, rfl, rfl, hN, hc, hm⟩⟩, .inr ⟨_, rfl, ⟨cur, h1, hsz, ?_⟩, hN, rfl⟩⟩
    intro i u hu
    have hi : i < cs.length := (List.getElem?_eq_some_iff.1 hu).1
    have h2 : (cur.toList.take (nn * s))[i]? = some u := by rw [ht]; exact hu
    rw [← h.1] at h2
    simpa [List.getElem?_take, hi] using h2
/-- Cells that lie somewhere, or none. -/
def SrcV (w : World) (As : Option Addr) (m : Nat) (news : List Value) : Prop := (As = none ∧ m = 0) ∨ ∃ a, As = some a ∧ ∀ j u, news[j]? = some u → w.cell? (a.add j) = some u
theorem run_append_none {w : World} {s nn bytes sc : Nat} {N : Nat} {cs : List Value} {He : List Ent} {zv : Value} {ty : TypeId} (h1 : P.underlying t = some (.slice e)) (hz : (P.info? e).map (fun i => (i.zero, i.size, i.bytes)) = some (some zv, s, bytes)) (h : OwnS N e s v nn cs He) :
    (Builtin.append_ #[t, t] ty #[v, .slice none 0 sc]).run P w = .ok v w := by
  obtain ⟨i, hi1, hi2⟩ := Option.map_eq_some_iff.1 hz
  rcases h.2 with ⟨rfl, rfl, rfl⟩ | ⟨g, cap, rfl, rfl, hN, hc, hm⟩
  · simp [Builtin.append_, Sem.run_bind, run_under h1, sizeOf, typeInfo, hi1, Builtin.firstCells, Builtin.lenOf]
  · simp [Builtin.append_, Sem.run_bind, run_under h1, sizeOf, typeInfo, hi1, Builtin.firstCells, Builtin.lenOf, storeCells, hc]
theorem run_appendS {w : World} {As : Option Addr} {s nn m sc bytes N : Nat} {cs news : List Value} {He : List Ent} {zv : Value} {ty : TypeId} (h1 : P.underlying t = some (.slice e)) (hz : (P.info? e).map (fun i => (i.zero, i.size, i.bytes)) = some (some zv, s, bytes)) (hzc : zv.cells.size = s) (hs0 : 0 < s)
    (hown : OwnS N e s v nn cs He) (hs : St w0 (H ++ He) w) (hN : N ≤ w0.heap.size) (hN2 : w0.heap.size ≤ N) (hl : news.length = m * s) (hsrc : SrcV w As m news) (h1c : ∀ u ∈ news, u.oneCell' = true) (h63 : nn + m ≤ maxLen) (hbytes : (nn + m) * bytes ≤ 140737488355328) (hsc : As = none → sc = sc) :
    ∃ v' w' He', (Builtin.append_ #[t, t] ty #[v, .slice As m sc]).run P w = .ok v' w' ∧ OwnS N e s v' (nn + m) (cs ++ news) He' ∧ St w0 (H ++ He') w' := by
  obtain rfl : N = w0.heap.size := by omega
  rcases hsrc with ⟨rfl, rfl⟩ | ⟨a, rfl, hcells⟩
  · have hn : news = [] := List.length_eq_zero_iff.1 (by rw [hl]; simp)
    subst hn
    exact ⟨v, w, He, run_append_none h1 hz hown, by rw [List.append_nil, Nat.add_zero]; exact hown, hs⟩
  · obtain ⟨i, hi1, hi2⟩ := Option.map_eq_some_iff.1 hz
    simp only [Prod.mk.injEq] at hi2
    obtain ⟨hz1, hz2, hz3⟩ := hi2
    have hrow := hown.row (w := w) hs.right
    obtain ⟨v', w', hrun, hrow', hgrown, hblk0, h6⟩ := run_append_own_at (P := P) w w0.heap.size t ty e i zv s bytes h1 hi1 hz1 hz2 hz3 hzc hs0 v nn cs hrow a m sc news hl hcells h1c h63 hbytes hs.size
    obtain ⟨He', hown', hHe⟩ := ownS_of_row hrow'
    refine ⟨v', w', He', hrun, hown', St.regrow hs hgrown ?_ ?_ ?_ ?_⟩
    · rcases hown.2 with ⟨rfl, _, rfl⟩ | ⟨g, cap, rfl, rfl, _⟩
      · simp
      · simp [Value.ownBlock]
    · rcases hown.2 with ⟨rfl, _, rfl⟩ | ⟨g, cap, rfl, rfl, hN, _⟩
      · simp [Value.ownBlock]
      · simp only [Value.ownBlock]; rintro b hb; cases hb; exact hN
    · rcases hown.2 with ⟨rfl, _, rfl⟩ | ⟨g, cap, rfl, rfl, hN, _⟩
      · simp [Value.ownBlock]
      · intro c hc heq
        simp only [Value.ownBlock, Option.some.injEq] at heq
        exact (List.pairwise_append.1 hs.apart).2.2 c hc _ (List.mem_singleton.2 rfl) heq
    · rcases hHe with h | ⟨d, h, hd, hdN, hdv⟩
      · exact .inl h
      · refine .inr ⟨d, h, hd, hdN, ?_⟩
        rcases h6 with hb | hb
        · left; rw [← hdv, hb]
        · right; have := Option.some.inj (hb.symm.trans hdv); omega
/-- 'append' onto a slice of the call's own. -/
theorem TL.appendS {As : Option Addr} {s nn sc bytes : Nat} {cs news : List Value} {He : List Ent} {zv : Value} (hg : Wants n ops L o) (hi' : inside n o.dst = true) (ho : o.op = .call { callee := .builtin .append, args := #[x, y], argTypes := #[t, t] })
    (h1 : P.underlying t = some (.slice e)) (hz : (P.info? e).map (fun i => (i.zero, i.size, i.bytes)) = some (some zv, s, bytes)) (hzc : zv.cells.size = s) (hs0 : 0 < s)
    (hx : ev L x = some v) (hy : ev L y = some (.slice As m sc)) (hown : OwnS w0.heap.size e s v nn cs He) (hl : news.length = m * s) (hsrc : ∀ w, St w0 (H ++ He) w → SrcV w As m news) (h1c : ∀ u ∈ news, u.oneCell' = true)
    (h63 : nn + m ≤ maxLen) (hbytes : (nn + m) * bytes ≤ 140737488355328)
    (hr : ∀ v' He', OwnS w0.heap.size e s v' (nn + m) (cs ++ news) He' → TL P ops Q n w0 rest (put L o.dst v') (H ++ He')) : TL P ops Q n w0 (o :: rest) L (H ++ He) :=
  fun a w hf hs => wpL_wants hg.nd (hg a hf) fun K hK => by
    obtain ⟨v', w', He', hrun, hown', hst⟩ := run_appendS (P := P) (t := t) (ty := o.type) (sc := sc) h1 hz hzc hs0 hown hs (Nat.le_refl _) (Nat.le_refl _) hl (hsrc w hs) h1c h63 hbytes (fun _ => rfl)
    have hrun' : (execOp a.eval o).run P w = .ok (.value v') w' := by
      simp only [execOp, ho, resolve, invoke, builtin, Sem.run_bind, Sem.run_pure, Result.andThen_ok, List.map_toArray, List.map_cons, List.map_nil, hf.eval hx, hf.eval hy, hrun]
    unfold Oper.wp; rw [hrun']
    exact hK _ _ (hr v' He' hown' _ _ (hf.put o.dst _ hi') hst)
theorem TT.appendS {As : Option Addr} {s nn sc bytes : Nat} {cs news : List Value} {He : List Ent} {zv : Value} (hg : Wants n ops L o) (hi' : inside n o.dst = true) (ho : o.op = .call { callee := .builtin .append, args := #[x, y], argTypes := #[t, t] })
    (h1 : P.underlying t = some (.slice e)) (hz : (P.info? e).map (fun i => (i.zero, i.size, i.bytes)) = some (some zv, s, bytes)) (hzc : zv.cells.size = s) (hs0 : 0 < s)
    (hx : ev L x = some v) (hy : ev L y = some (.slice As m sc)) (hown : OwnS w0.heap.size e s v nn cs He) (hXp : X.Perm (X0 ++ He)) (hl : news.length = m * s)
    (hsrc : ∀ Z w, Fresh w0 Z → St w0 (HB ++ ((X0 ++ He) ++ Z)) w → SrcV w As m news) (h1c : ∀ u ∈ news, u.oneCell' = true)
    (h63 : nn + m ≤ maxLen) (hbytes : (nn + m) * bytes ≤ 140737488355328)
    (hr : ∀ v' He', OwnS w0.heap.size e s v' (nn + m) (cs ++ news) He' → TT P ops Q n w0 HB ks rs rest (put L o.dst v') (X0 ++ He')) :
    TT P ops Q n w0 HB (7 :: ks) ((fun v' d => OwnS w0.heap.size e s v' (nn + m) (cs ++ news) d) :: rs) (o :: rest) L X :=
  fun a hf => .inr (.inr ⟨rfl, X0, He, hXp, fun Z w hZ hs => by
    have hperm : ∀ F : List Ent, (HB ++ ((X0 ++ F) ++ Z)).Perm ((HB ++ (X0 ++ Z)) ++ F) := fun F => by
      rw [List.append_assoc, List.append_assoc]
      refine List.Perm.append_left HB ?_
      rw [List.append_assoc]
      exact List.Perm.append_left X0 List.perm_append_comm
    obtain ⟨v', w', He', hrun, hown', hst⟩ := run_appendS (P := P) (t := t) (ty := o.type) (sc := sc) h1 hz hzc hs0 hown (hs.perm (hperm He)) (Nat.le_refl _) (Nat.le_refl _) hl (hsrc Z w hZ hs) h1c h63 hbytes (fun _ => rfl)
    have hrun' : (execOp a.eval o).run P w = .ok (.value v') w' := by
      simp only [execOp, ho, resolve, invoke, builtin, Sem.run_bind, Sem.run_pure, Result.andThen_ok, List.map_toArray, List.map_cons, List.map_nil, hf.eval hx, hf.eval hy, hrun]
    exact ⟨.inl ⟨v', He', w', hrun', hown', hown'.new, hst.perm (hperm He').symm⟩, hg a hf⟩, fun v' d _ hR => hr v' d hR _ (hf.put o.dst _ hi')⟩)
end
/-! ### Commands in a slice of the call's own -/
def flatC (Cs : List CV) : List Value := Cs.flatMap cellsC
theorem cellsC_len (x : CV) : (cellsC x).length = 5 := rfl
theorem flatC_len (Cs : List CV) : (flatC Cs).length = Cs.length * 5 := by
  induction Cs with
  | nil => rfl
  | cons x l ih => unfold flatC at *; rw [List.flatMap_cons, List.length_append, ih, cellsC_len, List.length_cons]; omega
theorem flatC_app (Cs Es : List CV) : flatC (Cs ++ Es) = flatC Cs ++ flatC Es := by unfold flatC; rw [List.flatMap_append]
theorem flatC_one (x : CV) : flatC [x] = cellsC x := by unfold flatC; simp
theorem flatC_get : ∀ {Cs : List CV} {i : Nat} {x : CV} {j : Nat} {u : Value}, Cs[i]? = some x → (cellsC x)[j]? = some u → (flatC Cs)[5 * i + j]? = some u
  | [], i, x, j, u, h, _ => by simp at h
  | y :: l, 0, x, j, u, h, hu => by
    simp at h; subst h
    have hj : j < 5 := by have := (List.getElem?_eq_some_iff.1 hu).1; rw [cellsC_len] at this; exact this
    show (flatC ([y] ++ l))[5 * 0 + j]? = some u
    rw [flatC_app, flatC_one, List.getElem?_append_left (by rw [cellsC_len]; omega), Nat.mul_zero, Nat.zero_add]; exact hu
  | y :: l, i + 1, x, j, u, h, hu => by
    simp at h
    show (flatC ([y] ++ l))[5 * (i + 1) + j]? = some u
    rw [flatC_app, flatC_one, List.getElem?_append_right (by rw [cellsC_len]; omega), cellsC_len]
    have := flatC_get (Cs := l) h hu
    rw [← this]; congr 1; omega
theorem flatC_one' (Cs : List CV) : ∀ u ∈ flatC Cs, u.oneCell' = true := fun u hu => by
  unfold flatC at hu
  obtain ⟨x, _, hx⟩ := List.mem_flatMap.1 hu
  simp only [cellsC, List.mem_cons, List.not_mem_nil, or_false] at hx
  rcases hx with rfl | rfl | rfl | rfl | rfl <;> rfl
/-- Commands of a part of a slice. -/
theorem SrcC.cut {w : World} {b off m i l : Nat} {Cs : List CV} (h : RowsC w b off Cs) (hm : Cs.length = m) (hl : i + l ≤ m) : RowsC w b (off + 5 * i) ((Cs.drop i).take l) := fun q x hx j u hu => by
  rw [List.getElem?_take] at hx
  split at hx
  · rw [List.getElem?_drop] at hx
    have := h (i + q) x hx j u hu
    rw [show off + 5 * i + 5 * q + j = off + 5 * (i + q) + j by omega]; exact this
  · cases hx
theorem RowsC.srcV {w : World} {b off m : Nat} {Cs : List CV} (h : RowsC w b off Cs) : SrcV w (some ⟨b, off, none⟩) m (flatC Cs) := by
  refine .inr ⟨_, rfl, fun j u hu => ?_⟩
  rw [addr_add]
  have hj := (List.getElem?_eq_some_iff.1 hu).1
  rw [flatC_len] at hj
  have hi : j / 5 < Cs.length := by omega
  have hx : Cs[j / 5]? = some Cs[j / 5] := List.getElem?_eq_getElem hi
  have hr : j % 5 < 5 := Nat.mod_lt _ (by omega)
  have hu2 : (cellsC Cs[j / 5])[j % 5]? = some ((cellsC Cs[j / 5])[j % 5]'(by rw [cellsC_len]; exact hr)) := List.getElem?_eq_getElem _
  have h2 := flatC_get hx hu2
  rw [show 5 * (j / 5) + j % 5 = j by omega, hu] at h2
  cases h2
  have := h _ _ hx _ _ hu2
  rw [show off + j = off + 5 * (j / 5) + j % 5 by omega]
  exact this
theorem SrcC.srcV {w : World} {A : Option Addr} {m : Nat} {Cs : List CV} (h : SrcC w A m Cs) (hA : A = none ∨ ∃ a, A = some a) (h0 : m = 0 → ∀ a, A = some a → True) : SrcV w A m (flatC Cs) := by
  rcases h.2 with rfl | ⟨b, off, rfl, hb, hr⟩
  · have : Cs = [] := List.length_eq_zero_iff.1 h.1
    subst this
    rcases hA with rfl | ⟨a, rfl⟩
    · exact .inl ⟨rfl, rfl⟩
    · exact .inr ⟨a, rfl, fun j u hu => by simp [flatC] at hu⟩
  · exact hr.srcV
theorem OwnS.srcC {N m c : Nat} {A : Option Addr} {t : TypeId} {Cs : List CV} {He : List Ent} {w : World} (h : OwnS N t 5 (.slice A m c) m (flatC Cs) He) (hs : ∀ e ∈ He, e.lies w) : SrcC w A m Cs := by
  have hl : Cs.length = m := by have := h.1; rw [flatC_len] at this; omega
  refine ⟨hl, ?_⟩
  rcases h.2 with ⟨h1, h2, rfl⟩ | ⟨g, cap, h1, rfl, hN, hc, hm⟩
  · exact .inl h2
  · cases h1
    have hlie := hs _ (List.mem_singleton.2 rfl)
    refine .inr ⟨g, 0, rfl, hlie.lt, fun i x hx j u hu => ?_⟩
    rw [show 0 + 5 * i + j = 5 * i + j by omega]
    exact hlie.cell (flatC_get hx hu)
end Go.Proofs.Ytkgamkjdkapchaa
/-
  Insertion: where a command is put into a sorted list of commands.
-/
namespace Go.Proofs.Ytkgamkjdkapchaa
set_option linter.unusedVariables false
set_option linter.unusedSimpArgs false
set_option linter.unusedVariables false
open Go Go.RowKit
theorem st_keep {w0 w : World} {A B C : List Ent} (h : St w0 (([] ++ A) ++ (B ++ C)) w) (hA : Fresh w0 A) (hB : Fresh w0 B) : St w0 ([] ++ C) w := by
  have hp : (([] ++ A) ++ (B ++ C)).Perm (C ++ (A ++ B)) := by
    rw [List.nil_append, ← List.append_assoc]; exact List.perm_append_comm
  exact St.left (H := C) (h.perm hp) (hA.app hB)
structure WS where
  i : Nat
  v : Value
  Es : List CV
  He : List Ent
def leC (x y : CV) : Prop := x.t ≤ y.t
def insC (Es : List CV) (q : Nat) (x : CV) : List CV := Es.take q ++ x :: Es.drop q
theorem insC_len (Es : List CV) (q : Nat) (x : CV) : (insC Es q x).length = Es.length + 1 := by
  unfold insC; simp only [List.length_append, List.length_take, List.length_cons, List.length_drop]; omega
theorem insC_perm (Es : List CV) (q : Nat) (x : CV) : (insC Es q x).Perm (x :: Es) := by
  have h := List.perm_middle (a := x) (l₁ := Es.take q) (l₂ := Es.drop q)
  rw [List.take_append_drop] at h
  exact h
theorem insC_sorted {Es : List CV} {q : Nat} {x : CV} (hs : Es.Pairwise leC) (h1 : ∀ (j : Nat) (y : CV), j < q → Es[j]? = some y → y.t ≤ x.t) (h2 : ∀ (j : Nat) (y : CV), q ≤ j → Es[j]? = some y → x.t < y.t) : (insC Es q x).Pairwise leC := by
  have hs' := hs
  rw [← List.take_append_drop q Es, List.pairwise_append] at hs'
  obtain ⟨a1, a2, a3⟩ := hs'
  have ht : ∀ y ∈ Es.take q, y.t ≤ x.t := fun y hy => by
    obtain ⟨j, hj⟩ := List.mem_iff_getElem?.1 hy
    rw [List.getElem?_take] at hj
    split at hj
    · exact h1 j y (by assumption) hj
    · cases hj
  have hd : ∀ y ∈ Es.drop q, x.t < y.t := fun y hy => by
    obtain ⟨j, hj⟩ := List.mem_iff_getElem?.1 hy
    rw [List.getElem?_drop] at hj
    exact h2 (q + j) y (by omega) hj
  unfold insC
  rw [List.pairwise_append]
  refine ⟨a1, .cons (fun y hy => by have := hd y hy; unfold leC; omega) a2, fun y hy z hz => ?_⟩
  rcases List.mem_cons.1 hz with rfl | hz
  · exact ht y hy
  · exact a3 y hy z hz
theorem head_le {Es : List CV} {q : Nat} {x y : CV} (hs : Es.Pairwise leC) (hy : Es[q]? = some y) (hle : y.t ≤ x.t) : ∀ (j : Nat) (z : CV), j < q + 1 → Es[j]? = some z → z.t ≤ x.t := fun j z hj hz => by
  by_cases e : j = q
  · subst e; rw [hz] at hy; cases hy; exact hle
  · obtain ⟨hq, rfl⟩ := List.getElem?_eq_some_iff.1 hy
    obtain ⟨hjl, rfl⟩ := List.getElem?_eq_some_iff.1 hz
    have := (List.pairwise_iff_getElem.1 hs) j q hjl hq (by omega)
    unfold leC at this; omega
theorem ins_perm {Es Cs : List CV} {i q : Nat} {x : CV} (hp : Es.Perm (Cs.take i)) (hx : Cs[i]? = some x) : (insC Es q x).Perm (Cs.take (i + 1)) := by
  rw [List.take_add_one, hx]
  refine (insC_perm Es q x).trans ?_
  refine (List.Perm.cons x hp).trans ?_
  exact (List.perm_append_comm (l₁ := [x]) (l₂ := Cs.take i))
theorem ins_own {N i q : Nat} {t : TypeId} {v : Value} {Es : List CV} {x : CV} {He : List Ent} (h : OwnS N t 5 v (0 + q + 1 + (i - q)) ((([] ++ flatC (Es.take q)) ++ cellsC x) ++ flatC (Es.drop q)) He) (hq : q ≤ i) : OwnS N t 5 v (i + 1) (flatC (insC Es q x)) He := by
  have e1 : 0 + q + 1 + (i - q) = i + 1 := by omega
  have e2 : (([] ++ flatC (Es.take q)) ++ cellsC x) ++ flatC (Es.drop q) = flatC (insC Es q x) := by
    unfold insC
    rw [flatC_app, List.nil_append, List.append_assoc]
    congr 1
  rw [e1, e2] at h; exact h
theorem OwnS.srcHead {N i c q : Nat} {A : Option Addr} {t : TypeId} {Es : List CV} {He : List Ent} {w : World} (h : OwnS N t 5 (.slice A i c) i (flatC Es) He) (hs : ∀ e ∈ He, e.lies w) (hq : q ≤ i) : SrcV w A q (flatC (Es.take q)) := by
  have hl : Es.length = i := by have := h.1; rw [flatC_len] at this; omega
  rcases h.2 with ⟨h1, h2, rfl⟩ | ⟨g, cap, h1, rfl, hN, hc, hm⟩
  · cases h1; exact .inl ⟨rfl, by omega⟩
  · cases h1
    obtain ⟨_, h3⟩ := h.srcC hs
    rcases h3 with h3 | ⟨b, off, h4, _, hr⟩
    · obtain rfl : q = 0 := by omega
      exact .inr ⟨_, rfl, fun j u hu => by simp [flatC] at hu⟩
    · cases h4
      have := SrcC.cut (i := 0) (l := q) hr hl (by omega)
      rw [List.drop_zero] at this
      exact this.srcV
theorem OwnS.srcCut {N i c q : Nat} {A : Option Addr} {t : TypeId} {Es : List CV} {He : List Ent} {w : World} (h : OwnS N t 5 (.slice A i c) i (flatC Es) He) (hs : ∀ e ∈ He, e.lies w) (hq : q ≤ i) : SrcV w (cutA A c q 5) (i - q) (flatC (Es.drop q)) := by
  have hl : Es.length = i := by have := h.1; rw [flatC_len] at this; omega
  rcases h.2 with ⟨h1, h2, rfl⟩ | ⟨g, cap, h1, rfl, hN, hc, hm⟩
  · cases h1
    refine .inl ⟨?_, by omega⟩
    unfold cutA; split <;> rfl
  · cases h1
    obtain ⟨_, h3⟩ := h.srcC hs
    by_cases hcq : c = q
    · have hnil : Es.drop q = [] := List.drop_of_length_le (by omega)
      rw [hnil]
      unfold cutA; rw [if_pos hcq]
      exact .inr ⟨_, rfl, fun j u hu => by simp [flatC] at hu⟩
    · rw [cut_is (o' := 0 + 5 * q) (by omega) (by omega)]
      rcases h3 with h3 | ⟨b, off, h4, _, hr⟩
      · have hnil : Es.drop q = [] := List.drop_of_length_le (by omega)
        rw [hnil]
        exact .inr ⟨_, rfl, fun j u hu => by simp [flatC] at hu⟩
      · cases h4
        have := SrcC.cut (i := q) (l := i - q) hr hl (by omega)
        rw [List.take_of_length_le (by rw [List.length_drop]; omega)] at this
        exact this.srcV
theorem SrcC.srcHead {w : World} {A : Option Addr} {m q : Nat} {Cs : List CV} (h : SrcC w A m Cs) (hq : q ≤ m) : SrcV w A q (flatC (Cs.take q)) := by
  rcases h.2 with rfl | ⟨b, off, rfl, hb, hr⟩
  · obtain rfl : q = 0 := by omega
    cases A with
    | none => exact .inl ⟨rfl, rfl⟩
    | some a => exact .inr ⟨a, rfl, fun j u hu => by simp [flatC] at hu⟩
  · have := SrcC.cut (i := 0) (l := q) hr h.1 (by omega)
    rw [List.drop_zero] at this
    exact this.srcV
theorem SrcC.srcCut {w : World} {A : Option Addr} {m c q : Nat} {Cs : List CV} (h : SrcC w A m Cs) (hmc : m ≤ c) (hq : q ≤ m) : SrcV w (cutA A c q 5) (m - q) (flatC (Cs.drop q)) := by
  by_cases hd : q = m
  · have hnil : Cs.drop q = [] := List.drop_of_length_le (by have := h.1; omega)
    rw [hnil]
    cases hA : cutA A c q 5 with
    | none => exact .inl ⟨rfl, by omega⟩
    | some a => exact .inr ⟨a, rfl, fun j u hu => by simp [flatC] at hu⟩
  · rcases h.2 with rfl | ⟨b, off, rfl, hb, hr⟩
    · omega
    · rw [cut_is (o' := off + 5 * q) (by omega) (by omega)]
      have := SrcC.cut (i := q) (l := m - q) hr h.1 (by omega)
      rw [List.take_of_length_le (by rw [List.length_drop]; have := h.1; omega)] at this
      exact this.srcV
theorem SrcC.srcAll {w : World} {A : Option Addr} {m : Nat} {Cs : List CV} (h : SrcC w A m Cs) : SrcV w A m (flatC Cs) := by
  have := h.srcHead (Nat.le_refl _)
  rwa [List.take_of_length_le (by have := h.1; omega)] at this
theorem st_keep2 {w0 w : World} {A B C D : List Ent} (h : St w0 ((A ++ B) ++ (C ++ D)) w) (hC : Fresh w0 C) : St w0 (A ++ (B ++ D)) w := by
  have hp : ((A ++ B) ++ (C ++ D)).Perm ((A ++ (B ++ D)) ++ C) := by
    simp only [List.append_assoc]
    exact List.Perm.append_left A (List.Perm.append_left B List.perm_append_comm)
  exact St.left (h.perm hp) hC
/-- Cells of a block. -/
theorem lies_srcV {w : World} {g t tot m : Nat} {cs : List Value} (h : Ent.lies ⟨g, t, cs, tot⟩ w) : SrcV w (some ⟨g, 0, none⟩) m cs := .inr ⟨_, rfl, fun j u hu => by
  rw [addr_add, Nat.zero_add]; exact h.cell hu⟩
/-- Sorted once: a delta without a fault has one sorted order. -/
theorem sorted_once {o n : Int} {Cs Es Fs : List CV} (hv : ValidC o n Cs) (h1 : Es.Perm Cs) (h2 : Fs.Perm Cs) (s1 : Es.Pairwise leC) (s2 : Fs.Pairwise leC) : Es = Fs := by
  have key : ∀ {l : List CV}, l.Perm Cs → l.Pairwise leC → l.Pairwise (fun p q => (tg p).1 < (tg q).1) := fun {l} hp hs => by
    have ht : tidyT 0 n (l.map tg) := hv.tidy.perm (hp.symm.map tg)
    have h := strict_of_apart ht (by rw [List.pairwise_map]; exact hs)
    rw [List.pairwise_map] at h; exact h
  exact sorted_unique (fun x => (tg x).1) (key h1 s1) (key h2 s2) (h1.trans h2.symm)
theorem ValidC.perm {o n : Int} {Cs Es : List CV} (h : ValidC o n Cs) (hp : Es.Perm Cs) : tidyT 0 n (Es.map tg) ∧ coverT 0 n (Es.map tg) ∧ sumT (Es.map tg) = n := ⟨h.tidy.perm (hp.symm.map tg), h.cover.perm (hp.symm.map tg), by rw [sumT_perm (hp.map tg)]; exact h.sum⟩
theorem ValidC.chain {o n : Int} {Cs Es : List CV} (h : ValidC o n Cs) (hp : Es.Perm Cs) (hs : Es.Pairwise leC) : chainT 0 (Es.map tg) ∧ sumT (Es.map tg) = n := by
  obtain ⟨h1, h2, h3⟩ := h.perm hp
  have h4 := h.len
  unfold okLen at h4
  exact ⟨(chain_of_sorted (N := n) (a := 0) (by omega) h1 h2 (by rw [List.pairwise_map]; exact hs)).1, h3⟩
end Go.Proofs.Ytkgamkjdkapchaa
/-
  Commands that a callee has made; what the check of a delta depends on; a delta without a command, and with one twice; the chapter's example.
-/
namespace Go.Proofs.Ytkgamkjdkapchaa
set_option linter.unusedVariables false
set_option linter.unusedSimpArgs false
set_option linter.unusedVariables false
open Go Go.RowKit
/-- Commands in memory of the callee's own. -/
def OwnD (N : Nat) (A : Option Addr) (m : Nat) (Es : List CV) (He : List Ent) : Prop := (∀ e ∈ He, N ≤ e.g) ∧ NumsC Es ∧ (m = 0 ∨ ∃ b off, A = some ⟨b, off, none⟩) ∧ ∀ w : World, (∀ e ∈ He, e.lies w) → SrcC w A m Es ∧ DatC w Es
theorem OwnD.mono {N N' m : Nat} {A : Option Addr} {Es : List CV} {He : List Ent} (h : OwnD N' A m Es He) (hN : N ≤ N') : OwnD N A m Es He := ⟨fun e he => Nat.le_trans hN (h.1 e he), h.2⟩
theorem OwnD.num {N m : Nat} {A : Option Addr} {Es : List CV} {He : List Ent} (h : OwnD N A m Es He) : NumsC Es := h.2.1
theorem OwnD.src {N m : Nat} {A : Option Addr} {Es : List CV} {He : List Ent} (h : OwnD N A m Es He) {w : World} (hs : ∀ e ∈ He, e.lies w) : SrcC w A m Es := (h.2.2.2 w hs).1
theorem OwnD.dat {N m : Nat} {A : Option Addr} {Es : List CV} {He : List Ent} (h : OwnD N A m Es He) {w : World} (hs : ∀ e ∈ He, e.lies w) : DatC w Es := (h.2.2.2 w hs).2
theorem OwnD.addr {N m : Nat} {A : Option Addr} {Es : List CV} {He : List Ent} (h : OwnD N A m Es He) (hm : 0 < m) : ∃ b off, A = some ⟨b, off, none⟩ := h.2.2.1.resolve_left (by omega)
theorem OwnD.rows {N m b off : Nat} {Es : List CV} {He : List Ent} (h : OwnD N (some ⟨b, off, none⟩) m Es He) (hm : 0 < m) {w : World} (hs : ∀ e ∈ He, e.lies w) : RowsC w b off Es := by
  rcases (h.src hs).2 with h1 | ⟨b', off', h1, _, h2⟩
  · omega
  · cases h1; exact h2
/-- The same commands, wherever their data lie. -/
def keyE (x : CV) : (Int × Int × Int × Int × List Int) × Nat := (valC x, x.m)
def sameE (Fs Gs : List CV) : Prop := Fs.map keyE = Gs.map keyE
theorem sameE.c {Fs Gs : List CV} (h : sameE Fs Gs) : sameC Fs Gs := by
  have := congrArg (List.map Prod.fst) h
  rw [List.map_map, List.map_map] at this; exact this
theorem sameE.len {Fs Gs : List CV} (h : sameE Fs Gs) : Fs.length = Gs.length := sameC_len h.c
theorem sameE.tr {Fs Gs Es : List CV} (h : sameE Fs Gs) (h2 : sameE Gs Es) : sameE Fs Es := Eq.trans h h2
/-- Few commands with few bytes, one more than the laws ask for. -/
def fewQ (Cs : List CV) : Prop := (∀ (i : Nat) (x : CV), Cs[i]? = some x → x.m ≤ 300) ∧ Cs.length ≤ 50
theorem fewP.q {Cs : List CV} (h : fewP Cs) : fewQ Cs := ⟨h.1, by have := h.2; omega⟩
theorem fewQ.sub {Cs Es : List CV} (h : fewP Cs) (hs : ∀ x ∈ Es, x ∈ Cs) (hl : Es.length ≤ 50) : fewQ Es := ⟨fun i x hx => by
  obtain ⟨j, hj⟩ := List.mem_iff_getElem?.1 (hs x (List.mem_of_getElem? hx))
  exact h.1 j x hj, hl⟩
theorem fewQ.sub2 {Cs Es : List CV} (h : fewQ Cs) (hp : Es.Perm Cs) : fewQ Es := ⟨fun i x hx => by
  obtain ⟨j, hj⟩ := List.mem_iff_getElem?.1 (hp.mem_iff.1 (List.mem_of_getElem? hx))
  exact h.1 j x hj, by rw [hp.length_eq]; exact h.2⟩
theorem NumsC.sub {Cs Es : List CV} (h : NumsC Cs) (hs : ∀ x ∈ Es, x ∈ Cs) : NumsC Es := fun i x hx => by
  obtain ⟨j, hj⟩ := List.mem_iff_getElem?.1 (hs x (List.mem_of_getElem? hx))
  exact h j x hj
theorem DatC.sub {w : World} {Cs Es : List CV} (h : DatC w Cs) (hs : ∀ x ∈ Es, x ∈ Cs) : DatC w Es := fun i x hx => by
  obtain ⟨j, hj⟩ := List.mem_iff_getElem?.1 (hs x (List.mem_of_getElem? hx))
  exact h j x hj
theorem sameE.m {Fs Gs : List CV} (h : sameE Fs Gs) {i : Nat} {x y : CV} (hx : Fs[i]? = some x) (hy : Gs[i]? = some y) : x.m = y.m := by
  have h1 := congrArg (·[i]?) h
  simp only [List.getElem?_map, hx, hy, Option.map_some, Option.some.injEq] at h1
  exact congrArg Prod.snd h1
theorem fewQ.same {Cs Es : List CV} (h : fewQ Cs) (hs : sameE Es Cs) : fewQ Es := by
  have hl := hs.len
  refine ⟨fun i x hx => ?_, by rw [hl]; exact h.2⟩
  have hi := (List.getElem?_eq_some_iff.1 hx).1
  have hy : Cs[i]? = some Cs[i] := List.getElem?_eq_getElem (by omega)
  have h5 := h.1 i _ hy
  have := hs.m hx hy
  omega
/-! ### What the check depends on -/
def normC (x : CV) : CV := { x with A := none, c := 0, B := [] }
theorem firstF_congr {p q : Nat → Prop} (h : ∀ i, p i ↔ q i) : firstF p = firstF q := by
  have : p = q := funext fun i => propext (h i)
  rw [this]
theorem faultI_norm (o n : Int) (Cs : List CV) : faultI o n (Cs.map normC) = faultI o n Cs := by
  have h1 : firstF (bad1 o n (Cs.map normC)) = firstF (bad1 o n Cs) := firstF_congr fun i => by
    unfold bad1
    rw [List.getElem?_map]
    constructor
    · rintro ⟨x, hx, hn⟩
      obtain ⟨y, hy, rfl⟩ := Option.map_eq_some_iff.1 hx
      exact ⟨y, hy, hn⟩
    · rintro ⟨x, hx, hn⟩
      exact ⟨normC x, by rw [hx]; rfl, hn⟩
  have h2 : firstF (bad2 (Cs.map normC)) = firstF (bad2 Cs) := firstF_congr fun i => by
    unfold bad2
    constructor
    · rintro ⟨x, j, y, hx, hj, hy, hm⟩
      rw [List.getElem?_map] at hx hy
      obtain ⟨x', hx', rfl⟩ := Option.map_eq_some_iff.1 hx
      obtain ⟨y', hy', rfl⟩ := Option.map_eq_some_iff.1 hy
      exact ⟨x', j, y', hx', hj, hy', hm⟩
    · rintro ⟨x, j, y, hx, hj, hy, hm⟩
      exact ⟨normC x, j, normC y, by rw [List.getElem?_map, hx]; rfl, hj, by rw [List.getElem?_map, hy]; rfl, hm⟩
  have h3 : (Cs.map normC).map tg = Cs.map tg := by rw [List.map_map]; rfl
  have h4 : gapI n (Cs.map normC) = gapI n Cs := by unfold gapI; rw [h3]
  have h5 : ∀ i : Nat, ((Cs.map normC)[i]?).elim 0 (singleV o n) = (Cs[i]?).elim 0 (singleV o n) := fun i => by
    rw [List.getElem?_map]
    cases Cs[i]? <;> rfl
  unfold faultI
  rw [h1, h2, h4]
  simp only [h5]
theorem findI_norm (Cs : List CV) (p : Int) : findI (Cs.map normC) p = findI Cs p := findI_is (by
  rcases findI_spec Cs p with ⟨h1, h2⟩ | ⟨i, x, h1, h2, h3, h4⟩
  · refine .inl ⟨h1, fun i x hx => ?_⟩
    rw [List.getElem?_map] at hx
    obtain ⟨y, hy, rfl⟩ := Option.map_eq_some_iff.1 hx
    exact h2 i y hy
  · refine .inr ⟨i, normC x, h1, by rw [List.getElem?_map, h2]; rfl, h3, fun j y hj hy => ?_⟩
    rw [List.getElem?_map] at hy
    obtain ⟨z, hz, rfl⟩ := Option.map_eq_some_iff.1 hy
    exact h4 j z hj hz)
theorem sameE.n {Cs Es : List CV} (h : sameE Es Cs) : Es.map normC = Cs.map normC := by
  have := congrArg (List.map fun (q : (Int × Int × Int × Int × List Int) × Nat) => (⟨q.1.1, q.1.2.1, q.1.2.2.1, q.1.2.2.2.1, none, q.2, 0, []⟩ : CV)) h
  rw [List.map_map, List.map_map] at this; exact this
theorem faultI_same {o n : Int} {Cs Es : List CV} (h : sameE Es Cs) : faultI o n Es = faultI o n Cs := by
  rw [← faultI_norm o n Es, h.n, faultI_norm]
theorem sameE.tg {Cs Es : List CV} (h : sameE Es Cs) : Es.map tg = Cs.map tg := by
  have := congrArg (List.map Proofs.Ytkgamkjdkapchaa.tg) h.n
  rw [List.map_map, List.map_map] at this; exact this
/-! ### A delta without one command, and with one twice -/
theorem single_of {o n : Int} {Cs : List CV} (h : ∀ (i : Nat) (x : CV), Cs[i]? = some x → singleV o n x = 0) {Es : List CV} (hs : ∀ x ∈ Es, x ∈ Cs) : ∀ (i : Nat) (x : CV), Es[i]? = some x → singleV o n x = 0 := fun i x hx => by
  obtain ⟨j, hj⟩ := List.mem_iff_getElem?.1 (hs x (List.mem_of_getElem? hx))
  exact h j x hj
theorem bad2_none {N : Int} {Es : List CV} (ht : tidyT 0 N (Es.map tg)) : ∀ i, ¬ bad2 Es i := by
  rintro i ⟨x, j, y, hx, hj, hy, hm⟩
  have h2 := List.pairwise_iff_getElem.1 ht.2
  obtain ⟨hil, rfl⟩ := List.getElem?_eq_some_iff.1 hx
  obtain ⟨hjl, rfl⟩ := List.getElem?_eq_some_iff.1 hy
  have h3 := h2 j i (by simpa using hjl) (by simpa using hil) hj
  simp only [List.getElem_map] at h3
  have hpi := ht.1 (tg Es[i]) (List.mem_map.2 ⟨_, List.getElem_mem hil, rfl⟩)
  have hpj := ht.1 (tg Es[j]) (List.mem_map.2 ⟨_, List.getElem_mem hjl, rfl⟩)
  unfold okT at hpi hpj
  exact (meets_apart hpi.2.1 hpj.2.1).2 h3.symm hm
theorem valid_of {o n : Int} {Es : List CV} (h1 : okLen o n) (h2 : ∀ (i : Nat) (x : CV), Es[i]? = some x → singleV o n x = 0) (h3 : tidyT 0 n (Es.map tg)) (h4 : coverT 0 n (Es.map tg)) : faultI o n Es = (0, 0) := by
  rw [faultI_gap h1 h2 (bad2_none h3), gapI_no h4]; rfl
theorem ValidC.permV {o n : Int} {Cs Es : List CV} (h : ValidC o n Cs) (hp : Es.Perm Cs) : faultI o n Es = (0, 0) := by
  obtain ⟨h1, h2, _⟩ := h.perm hp
  exact valid_of h.len (single_of h.single fun x hx => hp.mem_iff.1 hx) h1 h2
theorem breaks_less {o n : Int} {Cs : List CV} {k : Nat} {x : CV} (h : ValidC o n Cs) (hx : Cs[k]? = some x) : faultI o n (Cs.take k ++ Cs.drop (k + 1)) = (3, x.t) := by
  obtain ⟨hk, rfl⟩ := List.getElem?_eq_some_iff.1 hx
  have hsplit : Cs = Cs.take k ++ Cs[k] :: Cs.drop (k + 1) := by rw [← List.drop_eq_getElem_cons hk, List.take_append_drop]
  have hmap : Cs.map tg = (Cs.take k).map tg ++ tg Cs[k] :: (Cs.drop (k + 1)).map tg := by
    rw [← List.map_cons, ← List.map_append, ← hsplit]
  have ht := h.tidy
  have hc := h.cover
  rw [hmap] at ht hc
  have hl := least_without ht hc
  have hsub : ∀ y ∈ Cs.take k ++ Cs.drop (k + 1), y ∈ Cs := fun y hy => (List.mem_append.1 hy).elim List.mem_of_mem_take List.mem_of_mem_drop
  have ht2 : tidyT 0 n ((Cs.take k ++ Cs.drop (k + 1)).map tg) := by
    rw [List.map_append]
    refine ⟨fun p hp => ht.1 p ((List.mem_append.1 hp).elim (fun h => List.mem_append.2 (.inl h)) fun h => List.mem_append.2 (.inr (List.mem_cons_of_mem _ h))), ?_⟩
    have := ht.2
    rw [List.pairwise_append] at this ⊢
    exact ⟨this.1, (List.pairwise_cons.1 this.2.1).2, fun a ha b hb => this.2.2 a ha b (List.mem_cons_of_mem _ hb)⟩
  rw [faultI_gap h.len (single_of h.single hsub) (bad2_none ht2)]
  have hg : gapI n (Cs.take k ++ Cs.drop (k + 1)) = (tg Cs[k]).1 := gapI_is (by rw [List.map_append]; exact hl)
  rw [hg]
  exact if_pos hl.1
theorem breaks_more {o n : Int} {Cs : List CV} {k : Nat} {x : CV} (h : ValidC o n Cs) (hx : Cs[k]? = some x) : faultI o n (Cs ++ [x]) = (4, (Cs.length : Int)) := by
  have hk := (List.getElem?_eq_some_iff.1 hx).1
  have hsub : ∀ y ∈ Cs ++ [x], y ∈ Cs := fun y hy => (List.mem_append.1 hy).elim id fun h => by rw [List.mem_singleton.1 h]; exact List.mem_of_getElem? hx
  have hl := (single_vld (h.single k x hx)).2.1
  refine faultI_over (x := x) (j := k) (y := x) h.len (single_of h.single hsub) (by rw [List.getElem?_append_right (Nat.le_refl _)]; simp) hk (by rw [List.getElem?_append_left hk]; exact hx) (by unfold meets tg; dsimp only; omega) (fun i' hi' hb => ?_)
  obtain ⟨a, j, b, ha, hj, hb, hm⟩ := hb
  rw [List.getElem?_append_left hi'] at ha
  rw [List.getElem?_append_left (by omega)] at hb
  exact bad2_none h.tidy i' ⟨a, j, b, ha, hj, hb, hm⟩
/-! ### The sorted delta -/
theorem chain_at : ∀ {l : List (Int × Int)} {a : Int} {i : Nat} {p : Int × Int}, chainT a l → l[i]? = some p → p.1 = a + ((l.take i).map (·.2)).sum
  | q :: l, a, 0, p, h, hp => by
    simp at hp; subst hp
    simp [h.1]
  | q :: l, a, i + 1, p, h, hp => by
    have := chain_at h.2 (by simpa using hp)
    rw [this]; simp; omega
theorem chain_tot {Es : List CV} {i : Nat} {x : CV} (h : chainT 0 (Es.map tg)) (hx : Es[i]? = some x) : x.t = totI lnV Es i := by
  have h1 := chain_at (i := i) (p := tg x) h (by rw [List.getElem?_map, hx]; rfl)
  have h2 : (((Es.map tg).take i).map (·.2)) = (Es.take i).map lnV := by
    rw [← List.map_take, List.map_map]; rfl
  rw [h2] at h1
  unfold totI
  have h3 : (tg x).1 = x.t := rfl
  rw [h3] at h1; omega
/-! ### The chapter's example -/
def exA : CV := ⟨1, 2, 0, 4, none, 0, 0, []⟩
def exB (A : Option Addr) : CV := ⟨2, 0, 0, 0, A, 2, 2, [97, 98]⟩
theorem ex_single (A : Option Addr) : ∀ (i : Nat) (x : CV), [exA, exB A][i]? = some x → singleV 4 6 x = 0 := fun i x hx => by
  match i, hx with
  | 0, hx => simp at hx; subst hx; decide
  | 1, hx => simp at hx; subst hx; show singleV 4 6 (exB none) = 0; decide
  | i + 2, hx => simp at hx
theorem ex_tidy (A : Option Addr) : tidyT 0 6 ([exA, exB A].map tg) ∧ coverT 0 6 ([exA, exB A].map tg) := by
  have e : [exA, exB A].map tg = [(2, 4), (0, 2)] := rfl
  rw [e]
  refine ⟨⟨fun p hp => ?_, ?_⟩, fun x h1 h2 => ?_⟩
  · simp only [List.mem_cons, List.not_mem_nil, or_false] at hp
    rcases hp with rfl | rfl <;> (unfold okT; omega)
  · refine .cons (fun p hp => ?_) (.cons (fun p hp => by cases hp) .nil)
    rw [List.mem_singleton.1 hp]; unfold apartT; omega
  · by_cases h : x < 2
    · exact ⟨(0, 2), by simp, by unfold hasB; dsimp only; omega⟩
    · exact ⟨(2, 4), by simp, by unfold hasB; dsimp only; omega⟩
theorem ex_ok (A : Option Addr) : faultI 4 6 [exA, exB A] = (0, 0) := valid_of (by unfold okLen; omega) (ex_single A) (ex_tidy A).1 (ex_tidy A).2
theorem ex_validC (A : Option Addr) : ValidC 4 6 [exA, exB A] := validC (by rw [ex_ok])
theorem ex_gap : faultI 4 6 [exA] = (3, 0) := breaks_less (ex_validC none) (k := 1) (x := exB none) rfl
theorem lies_srcC {w : World} {g t tot m : Nat} {cs : List Value} {Cs : List CV} (h : Ent.lies ⟨g, t, cs, tot⟩ w) (hc : cs = flatC Cs) (hm : Cs.length = m) : SrcC w (some ⟨g, 0, none⟩) m Cs := ⟨hm, .inr ⟨g, 0, rfl, h.lt, fun i x hx j u hu => by
  subst hc
  rw [Nat.zero_add]
  exact h.cell (flatC_get hx hu)⟩⟩
theorem ex_num (g : Nat) : NumsC [exA, exB (some ⟨g, 0, none⟩)] := fun i x hx => by
  match i, hx with
  | 0, hx => simp at hx; subst hx; unfold NumC exA; dsimp only; omega
  | 1, hx => simp at hx; subst hx; unfold NumC exB; dsimp only; omega
  | i + 2, hx => simp at hx
theorem ex_few (g : Nat) : fewQ [exA, exB (some ⟨g, 0, none⟩)] := ⟨fun i x hx => by
  match i, hx with
  | 0, hx => simp at hx; subst hx; unfold exA; dsimp only; omega
  | 1, hx => simp at hx; subst hx; unfold exB; dsimp only; omega
  | i + 2, hx => simp at hx, by simp⟩
theorem ex_dat {w : World} {g : Nat} (h : Src w (some ⟨g, 0, none⟩) 2 .u8 [97, 98]) : DatC w [exA, exB (some ⟨g, 0, none⟩)] := fun i x hx => by
  match i, hx with
  | 0, hx => simp at hx; subst hx; exact ⟨src_no, bytes_no⟩
  | 1, hx =>
    simp at hx; subst hx
    exact ⟨h, fun x hx => by
      unfold exB at hx; dsimp only at hx
      simp only [List.mem_cons, List.not_mem_nil, or_false] at hx
      omega⟩
  | i + 2, hx => simp at hx
theorem ex1_num : NumsC [exA] := (ex_num 0).sub fun x hx => by rw [List.mem_singleton.1 hx]; exact List.mem_cons_self
theorem ex1_few : fewQ [exA] := ⟨fun i x hx => (ex_few 0).1 0 x (by
  match i, hx with
  | 0, hx => exact hx
  | i + 1, hx => simp at hx), by simp⟩
theorem ex1_dat {w : World} : DatC w [exA] := fun i x hx => by
  match i, hx with
  | 0, hx => simp at hx; subst hx; exact ⟨src_no, bytes_no⟩
  | i + 1, hx => simp at hx
theorem ex_find (A : Option Addr) : findI [exA, exB A] 1 = 1 := findI_is (.inr ⟨1, exB A, rfl, rfl, by unfold hasB tg exB lenV; dsimp only; omega, fun j y hj hy => by
  obtain rfl : j = 0 := by omega
  simp at hy; subst hy
  unfold hasB tg exA lenV; dsimp only; omega⟩)
end Go.Proofs.Ytkgamkjdkapchaa
/-
  Targets in ascending order, with the index of their command: the first overlap, the first gap.
-/
namespace Go.Proofs.Ytkgamkjdkapchaa
set_option linter.unusedVariables false
set_option linter.unusedSimpArgs false
set_option linter.unusedVariables false
open Go Go.RowKit
structure TV where
  o : Int
  l : Int
  x : Nat
instance : Inhabited TV := ⟨⟨0, 0, 0⟩⟩
def cellsT (t : TV) : List Value := [Value.int .i64 t.o, Value.int .i64 t.l, Value.int .i64 t.x]
def flatT (Ts : List TV) : List Value := Ts.flatMap cellsT
theorem flatT_len (Ts : List TV) : (flatT Ts).length = Ts.length * 3 := by
  induction Ts with
  | nil => rfl
  | cons x l ih => unfold flatT at ih ⊢; rw [List.flatMap_cons, List.length_append, ih]; show 3 + _ = _; simp only [List.length_cons]; omega
theorem cellsT_len (x : TV) : (cellsT x).length = 3 := rfl
def leT (x y : TV) : Prop := x.o ≤ y.o
theorem flatT_app (Ts Es : List TV) : flatT (Ts ++ Es) = flatT Ts ++ flatT Es := by unfold flatT; rw [List.flatMap_append]
theorem flatT_one (x : TV) : flatT [x] = cellsT x := by unfold flatT; simp
theorem flatT_get : ∀ {Ts : List TV} {i : Nat} {x : TV} {j : Nat} {u : Value}, Ts[i]? = some x → (cellsT x)[j]? = some u → (flatT Ts)[3 * i + j]? = some u
  | [], i, x, j, u, h, _ => by simp at h
  | y :: l, 0, x, j, u, h, hu => by
    simp at h; subst h
    have hj : j < 3 := (List.getElem?_eq_some_iff.1 hu).1
    show (cellsT y ++ flatT l)[3 * 0 + j]? = some u
    rw [List.getElem?_append_left (by show _ < 3; omega)]
    simpa using hu
  | y :: l, i + 1, x, j, u, h, hu => by
    show (cellsT y ++ flatT l)[3 * (i + 1) + j]? = some u
    rw [List.getElem?_append_right (by show 3 ≤ _; omega)]
    show (flatT l)[3 * (i + 1) + j - 3]? = some u
    rw [show 3 * (i + 1) + j - 3 = 3 * i + j by omega]
    exact flatT_get (by simpa using h) hu
theorem flatT_one' (Ts : List TV) : ∀ u ∈ flatT Ts, u.oneCell' = true := fun u hu => by
  unfold flatT at hu
  obtain ⟨x, hx, hu⟩ := List.mem_flatMap.1 hu
  unfold cellsT at hu
  simp only [List.mem_cons, List.not_mem_nil, or_false] at hu
  rcases hu with rfl | rfl | rfl <;> rfl
/-- The targets of commands, in their order. -/
def tvA : Nat → List CV → List TV
  | _, [] => []
  | i, c :: Cs => ⟨c.t, lenV c.k c.l c.m, i⟩ :: tvA (i + 1) Cs
abbrev tvOf (Cs : List CV) : List TV := tvA 0 Cs
theorem tvA_len : ∀ (i : Nat) (Cs : List CV), (tvA i Cs).length = Cs.length
  | _, [] => rfl
  | i, c :: Cs => by simp [tvA, tvA_len (i + 1) Cs]
theorem tvA_get : ∀ {i : Nat} {Cs : List CV} {j : Nat} {c : CV}, Cs[j]? = some c → (tvA i Cs)[j]? = some ⟨c.t, lenV c.k c.l c.m, i + j⟩
  | i, c' :: Cs, 0, c, h => by simp at h; subst h; rfl
  | i, c' :: Cs, j + 1, c, h => by
    have := tvA_get (i := i + 1) (Cs := Cs) (j := j) (c := c) (by simpa using h)
    rw [show i + (j + 1) = i + 1 + j by omega]
    simpa [tvA] using this
theorem tvA_of : ∀ {i : Nat} {Cs : List CV} {t : TV}, t ∈ tvA i Cs → ∃ (j : Nat) (c : CV), Cs[j]? = some c ∧ t = ⟨c.t, lenV c.k c.l c.m, i + j⟩
  | i, c :: Cs, t, h => by
    rcases List.mem_cons.1 h with rfl | h
    · exact ⟨0, c, rfl, rfl⟩
    · obtain ⟨j, c', h1, h2⟩ := tvA_of h
      exact ⟨j + 1, c', by simpa using h1, by rw [h2]; congr 1; omega⟩
theorem tvA_app : ∀ (i : Nat) (Cs Es : List CV), tvA i (Cs ++ Es) = tvA i Cs ++ tvA (i + Cs.length) Es
  | i, [], Es => by simp [tvA]
  | i, c :: Cs, Es => by simp [tvA, tvA_app (i + 1) Cs Es, Nat.add_comm, Nat.add_left_comm]
/-- The targets that are there after i rounds. -/
def stT (Cs : List CV) (m i : Nat) : List TV := tvA 0 (Cs.take i) ++ List.replicate (m - i) ⟨0, 0, 0⟩
theorem stT_zero (Cs : List CV) (m : Nat) : stT Cs m 0 = List.replicate m ⟨0, 0, 0⟩ := by simp [stT, tvA]
theorem stT_rep (Cs : List CV) (m : Nat) : (List.replicate m [Value.int .i64 0, Value.int .i64 0, Value.int .i64 0]).flatten = flatT (stT Cs m 0) := by
  rw [stT_zero]
  induction m with
  | zero => rfl
  | succ m ih => rw [List.replicate_succ, List.replicate_succ, List.flatten_cons, ih]; unfold flatT; rw [List.flatMap_cons]; rfl
theorem stT_all {Cs : List CV} {m : Nat} (hl : Cs.length = m) : stT Cs m m = tvOf Cs := by unfold stT; rw [List.take_of_length_le (by omega)]; simp
theorem stT_len {Cs : List CV} {m i : Nat} (hl : Cs.length = m) (hi : i ≤ m) : (stT Cs m i).length = m := by
  unfold stT; rw [List.length_append, tvA_len, List.length_replicate, List.length_take]; omega
theorem stT_step {Cs : List CV} {m i : Nat} {c : CV} (hl : Cs.length = m) (hc : Cs[i]? = some c) :
    (flatT (stT Cs m i)).take (3 * i) ++ cellsT ⟨c.t, lenV c.k c.l c.m, i⟩ ++ (flatT (stT Cs m i)).drop (3 * i + 3) = flatT (stT Cs m (i + 1)) := by
  have hi := (List.getElem?_eq_some_iff.1 hc).1
  have e1 : stT Cs m i = tvA 0 (Cs.take i) ++ (⟨0, 0, 0⟩ :: List.replicate (m - (i + 1)) ⟨0, 0, 0⟩) := by
    unfold stT; rw [show m - i = (m - (i + 1)) + 1 by omega, List.replicate_succ]
  have e2 : stT Cs m (i + 1) = tvA 0 (Cs.take i) ++ (⟨c.t, lenV c.k c.l c.m, i⟩ :: List.replicate (m - (i + 1)) ⟨0, 0, 0⟩) := by
    unfold stT
    rw [List.take_add_one, hc, Option.toList_some, tvA_app, List.append_assoc]
    congr 1
    simp only [tvA, List.length_take, Nat.zero_add, List.cons_append, List.nil_append]
    rw [show min i Cs.length = i by omega]
  have h3 : (flatT (tvA 0 (Cs.take i))).length = 3 * i := by rw [flatT_len, tvA_len, List.length_take]; omega
  rw [e1, e2, flatT_app, flatT_app]
  have h4 : ∀ (z : TV) (R : List TV), flatT (z :: R) = cellsT z ++ flatT R := fun z R => by unfold flatT; rw [List.flatMap_cons]
  rw [h4, h4]
  rw [List.take_left' h3, List.append_assoc]
  congr 1
  congr 1
  rw [← List.drop_drop, List.drop_left' h3]
  rfl
def pr (t : TV) : Int × Int := (t.o, t.l)
theorem tvA_pr : ∀ (i : Nat) (Cs : List CV), (tvA i Cs).map pr = Cs.map tg
  | _, [] => rfl
  | i, c :: Cs => by simp [tvA, tvA_pr (i + 1) Cs, pr, tg]
/-- The targets of the commands up to an index. -/
def upT (i : Int) (t : TV) : Bool := decide ((t.x : Int) ≤ i)
def upF (Ts : List TV) (i : Int) : List (Int × Int) := (Ts.filter (upT i)).map pr
theorem filter_tvA : ∀ (i : Nat) (Cs : List CV) (q : Nat), (tvA i Cs).filter (upT ((i + q : Nat) : Int)) = tvA i (Cs.take (q + 1))
  | _, [], _ => by simp [tvA]
  | i, c :: Cs, 0 => by
    have h : ∀ (k : Nat) (Cs : List CV), i < k → (tvA k Cs).filter (upT ((i : Nat) : Int)) = [] := fun k Cs => by
      induction Cs generalizing k with
      | nil => intro _; rfl
      | cons c Cs ih => intro hk; simp only [tvA, List.filter_cons]; rw [if_neg (by unfold upT; simp; omega)]; exact ih (k + 1) (by omega)
    simp only [tvA, List.filter_cons, Nat.add_zero, List.take_succ_cons, List.take_zero]
    rw [if_pos (by unfold upT; simp), h (i + 1) Cs (by omega)]
  | i, c :: Cs, q + 1 => by
    have := filter_tvA (i + 1) Cs q
    simp only [tvA, List.filter_cons, List.take_succ_cons]
    rw [if_pos (by unfold upT; simp; omega), ← this, show i + 1 + q = i + (q + 1) by omega]
/-- Where the target before ends. -/
def endF (F : List (Int × Int)) : Nat → Int
  | 0 => 0
  | i + 1 => match F[i]? with
    | some p => p.1 + p.2
    | none => 0
theorem endF_succ {F : List (Int × Int)} {i : Nat} {p : Int × Int} (h : F[i]? = some p) : endF F (i + 1) = p.1 + p.2 := by simp [endF, h]
def ovF (F : List (Int × Int)) : Prop := ∃ i p, F[i]? = some p ∧ p.1 < endF F i
open Classical in
noncomputable instance (F : List (Int × Int)) : Decidable (ovF F) := Classical.propDecidable _
def gapR (F : List (Int × Int)) (g : Int) : Prop := ∃ k, k ≤ F.length ∧ g = endF F k ∧ (∀ j p, j < k → F[j]? = some p → p.1 ≤ endF F j) ∧ (k = F.length ∨ ∃ p, F[k]? = some p ∧ endF F k < p.1)
def srtF (F : List (Int × Int)) : Prop := F.Pairwise (fun p q => p.1 ≤ q.1)
def posF (F : List (Int × Int)) : Prop := ∀ p ∈ F, 0 ≤ p.1 ∧ 1 ≤ p.2
theorem no_ov {F : List (Int × Int)} (hp : posF F) (h : ¬ ovF F) : ∀ (j : Nat) (q : Int × Int), F[j]? = some q → ∀ (i : Nat) (p : Int × Int), i < j → F[i]? = some p → p.1 + p.2 ≤ q.1
  | j + 1, q, hq, i, p, hij, hpi => by
    have h1 : endF F (j + 1) ≤ q.1 := Classical.byContradiction fun hc => h ⟨j + 1, q, hq, by omega⟩
    have hj : j < F.length := by have := (List.getElem?_eq_some_iff.1 hq).1; omega
    have hr : F[j]? = some F[j] := List.getElem?_eq_getElem hj
    rw [endF_succ hr] at h1
    by_cases e : i = j
    · subst e; rw [hr] at hpi; cases hpi; exact h1
    · have h2 := no_ov hp h j _ hr i p (by omega) hpi
      have h3 := hp _ (List.getElem_mem hj)
      omega
theorem ov_iff {F : List (Int × Int)} (hp : posF F) (hs : srtF F) : ovF F ↔ ¬ F.Pairwise apartT := by
  constructor
  · rintro ⟨i, q, hq, hlt⟩ ha
    have hqp := hp q (List.mem_of_getElem? hq)
    match i with
    | 0 => simp [endF] at hlt; omega
    | i + 1 =>
      obtain ⟨hi1, rfl⟩ := List.getElem?_eq_some_iff.1 hq
      have hr : F[i]? = some F[i] := List.getElem?_eq_getElem (by omega)
      rw [endF_succ hr] at hlt
      have h1 := List.pairwise_iff_getElem.1 ha i (i + 1) (by omega) hi1 (by omega)
      have h2 := List.pairwise_iff_getElem.1 hs i (i + 1) (by omega) hi1 (by omega)
      have h3 := hp F[i] (List.getElem_mem _)
      unfold apartT at h1
      omega
  · intro ha
    apply Classical.byContradiction
    intro hn
    refine ha (List.pairwise_iff_getElem.2 fun i j hi hj hij => .inl ?_)
    exact no_ov hp hn j _ (List.getElem?_eq_getElem hj) i _ hij (List.getElem?_eq_getElem hi)
/-- The first offset without a target. -/
theorem gap_facts {F : List (Int × Int)} {g : Int} (hp : posF F) (hs : srtF F) (hg : gapR F g) : 0 ≤ g ∧ freeT F g ∨ ovF F := by
  by_cases hov : ovF F
  · exact .inr hov
  · left
    obtain ⟨k, hk, rfl, h1, h2⟩ := hg
    have h0 : 0 ≤ endF F k := by
      match k with
      | 0 => exact Int.le_refl _
      | k + 1 =>
        have hr : F[k]? = some F[k] := List.getElem?_eq_getElem (by omega)
        rw [endF_succ hr]
        have := hp F[k] (List.getElem_mem _)
        omega
    refine ⟨h0, fun p hpm hb => ?_⟩
    obtain ⟨j, hj⟩ := List.mem_iff_getElem?.1 hpm
    unfold hasB at hb
    by_cases hjk : j < k
    · match k, hk with
      | k + 1, hk =>
        have hr : F[k]? = some F[k] := List.getElem?_eq_getElem (by omega)
        rw [endF_succ hr] at hb
        by_cases e : j = k
        · subst e; rw [hr] at hj; cases hj; omega
        · have := no_ov hp hov k _ hr j p (by omega) hj
          have := hp F[k] (List.getElem_mem _)
          omega
    · rcases h2 with h2 | ⟨q, hq, hlt⟩
      · have := (List.getElem?_eq_some_iff.1 hj).1; omega
      · by_cases e : j = k
        · subst e; rw [hq] at hj; cases hj; omega
        · obtain ⟨hj1, rfl⟩ := List.getElem?_eq_some_iff.1 hj
          obtain ⟨hk1, rfl⟩ := List.getElem?_eq_some_iff.1 hq
          have := List.pairwise_iff_getElem.1 hs k j hk1 hj1 (by omega)
          omega
theorem gap_below {F : List (Int × Int)} : ∀ (k : Nat), k ≤ F.length → (∀ j p, j < k → F[j]? = some p → p.1 ≤ endF F j) → ∀ x, 0 ≤ x → x < endF F k → ∃ p ∈ F, hasB p x
  | 0, _, _, x, h0, h1 => by simp [endF] at h1; omega
  | k + 1, hk, h, x, h0, h1 => by
    have hr : F[k]? = some F[k] := List.getElem?_eq_getElem (by omega)
    rw [endF_succ hr] at h1
    by_cases hx : F[k].1 ≤ x
    · exact ⟨F[k], List.getElem_mem _, hx, h1⟩
    · have h2 := h k _ (by omega) hr
      exact gap_below k (by omega) (fun j p hj hp => h j p (by omega) hp) x h0 (by omega)
theorem gap_least {F : List (Int × Int)} {g N : Int} (hp : posF F) (hs : srtF F) (hn : ¬ ovF F) (hg : gapR F g) (hN : g < N) : leastT N F g := by
  obtain ⟨h0, hf⟩ := (gap_facts hp hs hg).resolve_right hn
  obtain ⟨k, hk, rfl, h1, h2⟩ := hg
  exact ⟨h0, hN, hf, fun x hx hxg hfx => by
    obtain ⟨p, hpm, hb⟩ := gap_below k hk h1 x hx hxg
    exact hfx p hpm hb⟩
theorem gap_covers {F : List (Int × Int)} {g N : Int} (hg : gapR F g) (hN : N ≤ g) : coverT 0 N F := fun x h0 hx => by
  obtain ⟨k, hk, rfl, h1, h2⟩ := hg
  exact gap_below k hk h1 x h0 (by omega)
theorem endF_bd {F : List (Int × Int)} {n : Int} (hp : posF F) (hn : ∀ p ∈ F, p.1 + p.2 ≤ n) (h0 : 0 ≤ n) : ∀ k, 0 ≤ endF F k ∧ endF F k ≤ n
  | 0 => ⟨Int.le_refl _, h0⟩
  | k + 1 => by
    cases h : F[k]? with
    | none =>
      have e : endF F (k + 1) = 0 := by simp [endF, h]
      rw [e]; exact ⟨Int.le_refl _, h0⟩
    | some p =>
      have h1 := hp p (List.mem_of_getElem? h)
      have h2 := hn p (List.mem_of_getElem? h)
      rw [endF_succ h]
      omega
/-- Targets of commands that are valid by themselves, sorted. -/
structure AscT (o n : Int) (Cs : List CV) (Ts : List TV) : Prop where
  perm : Ts.Perm (tvOf Cs)
  srt : Ts.Pairwise leT
  ok : okLen o n
  single : ∀ (i : Nat) (x : CV), Cs[i]? = some x → singleV o n x = 0
section
variable {o n : Int} {Cs : List CV} {Ts : List TV}
theorem AscT.len (h : AscT o n Cs Ts) : Ts.length = Cs.length := by rw [h.perm.length_eq, tvA_len]
theorem AscT.num (h : AscT o n Cs Ts) {t : TV} (ht : t ∈ Ts) : 0 ≤ t.o ∧ 1 ≤ t.l ∧ t.o + t.l ≤ n ∧ n ≤ 4611686018427387903 ∧ t.x < Cs.length := by
  obtain ⟨j, c, hj, rfl⟩ := tvA_of (h.perm.mem_iff.1 ht)
  obtain ⟨h1, h2, h3, _⟩ := single_vld (h.single j c hj)
  have h4 := h.ok
  have h5 := (List.getElem?_eq_some_iff.1 hj).1
  unfold vld at h1
  unfold okLen at h4
  dsimp only
  omega
theorem AscT.nums (h : AscT o n Cs Ts) (hm : Cs.length ≤ 1000000000) : ∀ t ∈ Ts, (-9223372036854775808 ≤ t.o ∧ t.o ≤ 9223372036854775807) ∧ (-9223372036854775808 ≤ t.l ∧ t.l ≤ 9223372036854775807) ∧ t.x ≤ 9223372036854775807 := fun t ht => by
  have := h.num ht; omega
theorem AscT.n0 (h : AscT o n Cs Ts) : 0 ≤ n ∧ n ≤ 4611686018427387903 := by have := h.ok; unfold okLen at this; omega
theorem AscT.pos (h : AscT o n Cs Ts) (i : Int) : posF (upF Ts i) := fun p hp => by
  obtain ⟨t, ht, rfl⟩ := List.mem_map.1 hp
  have := h.num (List.mem_filter.1 ht).1
  unfold pr; dsimp only; omega
theorem AscT.ends (h : AscT o n Cs Ts) (i : Int) : ∀ p ∈ upF Ts i, p.1 + p.2 ≤ n := fun p hp => by
  obtain ⟨t, ht, rfl⟩ := List.mem_map.1 hp
  have := h.num (List.mem_filter.1 ht).1
  unfold pr; dsimp only; omega
theorem AscT.srtd (h : AscT o n Cs Ts) (i : Int) : srtF (upF Ts i) := by
  unfold srtF upF
  rw [List.pairwise_map]
  exact h.srt.sublist List.filter_sublist
theorem AscT.upPerm (h : AscT o n Cs Ts) (i : Nat) : (upF Ts (i : Int)).Perm ((Cs.take (i + 1)).map tg) := by
  unfold upF
  have h1 := (h.perm.filter (upT (i : Int))).map pr
  have h2 := filter_tvA 0 Cs i
  rw [Nat.zero_add] at h2
  rw [h2, tvA_pr] at h1
  exact h1
theorem bad2_iff (h1 : ∀ (i : Nat) (x : CV), Cs[i]? = some x → singleV o n x = 0) (i : Nat) : (∃ i', i' ≤ i ∧ bad2 Cs i') ↔ ¬ ((Cs.take (i + 1)).map tg).Pairwise apartT := by
  have pos : ∀ {j : Nat} {x : CV}, Cs[j]? = some x → 1 ≤ (tg x).2 := fun hx => (single_vld (h1 _ _ hx)).2.1
  constructor
  · rintro ⟨i', hi, x, j, y, hx, hj, hy, hm⟩ hp
    have hx' : ((Cs.take (i + 1)).map tg)[i']? = some (tg x) := by rw [List.getElem?_map, List.getElem?_take, if_pos (by omega), hx]; rfl
    have hy' : ((Cs.take (i + 1)).map tg)[j]? = some (tg y) := by rw [List.getElem?_map, List.getElem?_take, if_pos (by omega), hy]; rfl
    obtain ⟨a1, a2⟩ := List.getElem?_eq_some_iff.1 hx'
    obtain ⟨b1, b2⟩ := List.getElem?_eq_some_iff.1 hy'
    have := List.pairwise_iff_getElem.1 hp j i' b1 a1 hj
    rw [a2, b2] at this
    exact (meets_apart (pos hx) (pos hy)).2 this.symm hm
  · intro hn
    apply Classical.byContradiction
    intro hno
    refine hn (List.pairwise_iff_getElem.2 fun j i' hj hi' hlt => ?_)
    simp only [List.length_map, List.length_take] at hj hi'
    simp only [List.getElem_map, List.getElem_take]
    have hx : Cs[i']? = some Cs[i'] := List.getElem?_eq_getElem (by omega)
    have hy : Cs[j]? = some Cs[j] := List.getElem?_eq_getElem (by omega)
    exact ((meets_apart (pos hx) (pos hy)).1 fun hm => hno ⟨i', by omega, _, j, _, hx, hlt, hy, hm⟩).symm
theorem AscT.ov (h : AscT o n Cs Ts) (i : Nat) : ovF (upF Ts (i : Int)) ↔ ∃ i', i' ≤ i ∧ bad2 Cs i' := by
  rw [ov_iff (h.pos _) (h.srtd _), bad2_iff h.single]
  have hp := h.upPerm i
  constructor
  · exact fun h1 h2 => h1 (h2.perm hp.symm apartT.symm)
  · exact fun h1 h2 => h1 (h2.perm hp apartT.symm)
theorem AscT.mono (h : AscT o n Cs Ts) {a b : Nat} (hab : a ≤ b) (ha : ovF (upF Ts (a : Int))) : ovF (upF Ts (b : Int)) := by
  rw [h.ov] at ha ⊢
  obtain ⟨i', h1, h2⟩ := ha
  exact ⟨i', by omega, h2⟩
/-- The first overlap, by bisection. -/
theorem AscT.over (h : AscT o n Cs Ts) {k : Nat} (hk : ovF (upF Ts (k : Int))) (hb : ∀ j : Nat, j < k → ¬ ovF (upF Ts (j : Int))) : faultI o n Cs = (4, (k : Int)) := by
  obtain ⟨i', hi, hbad⟩ := (h.ov k).1 hk
  have e : i' = k := by
    apply Classical.byContradiction
    intro hne
    exact hb i' (by omega) ((h.ov i').2 ⟨i', Nat.le_refl _, hbad⟩)
  subst e
  obtain ⟨x, j, y, hx, hj, hy, hm⟩ := hbad
  exact faultI_over h.ok h.single hx hj hy hm fun q hq hbq => hb q hq ((h.ov q).2 ⟨q, Nat.le_refl _, hbq⟩)
theorem AscT.noBad (h : AscT o n Cs Ts) {m : Nat} (hm : Cs.length = m) (hb : ∀ j : Nat, j < m → ¬ ovF (upF Ts (j : Int))) : ∀ i, ¬ bad2 Cs i :=
  bad2_all (m := m) (by omega) fun i' hi' hbad => hb i' hi' ((h.ov i').2 ⟨i', Nat.le_refl _, hbad⟩)
theorem AscT.all (h : AscT o n Cs Ts) {m : Nat} (hm : Cs.length = m) : (upF Ts (m : Int)).Perm (Cs.map tg) := by
  have := h.upPerm m
  rwa [List.take_of_length_le (by omega)] at this
theorem AscT.noOv (h : AscT o n Cs Ts) {m : Nat} (hm : Cs.length = m) (hb : ∀ j : Nat, j < m → ¬ ovF (upF Ts (j : Int))) : ¬ ovF (upF Ts (m : Int)) := fun hov => by
  obtain ⟨i', _, hbad⟩ := (h.ov m).1 hov
  exact h.noBad hm hb i' hbad
theorem AscT.gap (h : AscT o n Cs Ts) {m : Nat} {g : Int} (hm : Cs.length = m) (hb : ∀ j : Nat, j < m → ¬ ovF (upF Ts (j : Int))) (hg : gapR (upF Ts (m : Int)) g) (hN : g < n) : faultI o n Cs = (3, g) := by
  have hl := gap_least (h.pos _) (h.srtd _) (h.noOv hm hb) hg hN
  have hp := h.all hm
  have hl2 : leastT n (Cs.map tg) g := ⟨hl.1, hl.2.1, hl.2.2.1.perm hp, fun x hx hxg hf => hl.2.2.2 x hx hxg (hf.perm hp.symm)⟩
  rw [faultI_gap h.ok h.single (h.noBad hm hb), gapI_is hl2, if_pos hl.1]
theorem AscT.none (h : AscT o n Cs Ts) {m : Nat} {g : Int} (hm : Cs.length = m) (hb : ∀ j : Nat, j < m → ¬ ovF (upF Ts (j : Int))) (hg : gapR (upF Ts (m : Int)) g) (hN : ¬ g < n) : faultI o n Cs = (0, 0) := by
  have hc := (gap_covers (N := n) hg (by omega)).perm (h.all hm)
  rw [faultI_gap h.ok h.single (h.noBad hm hb), gapI_no hc, if_neg (by omega)]
end
/-! ### How many have been handed on -/
def cntT (Ts : List TV) (i : Int) (k : Nat) : Nat := ((Ts.take k).filter (upT i)).length
theorem cntT_zero (Ts : List TV) (i : Int) : cntT Ts i 0 = 0 := by simp [cntT]
theorem cntT_yes {Ts : List TV} {i : Int} {k : Nat} {t : TV} (ht : Ts[k]? = some t) (h : (t.x : Int) ≤ i) : cntT Ts i (k + 1) = cntT Ts i k + 1 ∧ (upF Ts i)[cntT Ts i k]? = some (pr t) := by
  have hb : upT i t = true := by unfold upT; simpa using h
  have hk := (List.getElem?_eq_some_iff.1 ht).1
  constructor
  · unfold cntT
    rw [List.take_add_one, ht, Option.toList_some, List.filter_append]
    simp [hb]
  · unfold upF cntT
    have e : Ts.filter (upT i) = (Ts.take k).filter (upT i) ++ (t :: (Ts.drop (k + 1)).filter (upT i)) := by
      conv => lhs; rw [← List.take_append_drop k Ts]
      rw [List.filter_append, List.drop_eq_getElem_cons hk, List.filter_cons]
      have : Ts[k] = t := (List.getElem?_eq_some_iff.1 ht).2
      rw [this, if_pos hb]
    rw [List.getElem?_map, e, List.getElem?_append_right (Nat.le_refl _), Nat.sub_self]
    rfl
theorem cntT_no {Ts : List TV} {i : Int} {k : Nat} {t : TV} (ht : Ts[k]? = some t) (h : ¬ (t.x : Int) ≤ i) : cntT Ts i (k + 1) = cntT Ts i k := by
  have hb : upT i t = false := by unfold upT; simpa using h
  unfold cntT
  rw [List.take_add_one, ht, Option.toList_some, List.filter_append]
  simp [hb]
theorem cntT_all {Ts : List TV} {i : Int} {m : Nat} (hm : Ts.length = m) : cntT Ts i m = (upF Ts i).length := by
  unfold cntT upF
  rw [List.take_of_length_le (by omega), List.length_map]
theorem cntT_lt {Ts : List TV} {i : Int} {k : Nat} {t : TV} (ht : Ts[k]? = some t) (h : (t.x : Int) ≤ i) : cntT Ts i k < (upF Ts i).length := (List.getElem?_eq_some_iff.1 (cntT_yes ht h).2).1
/-- A slice of targets lies in memory. -/
def RowsT (w : World) (b off : Nat) (Ts : List TV) : Prop := ∀ (i : Nat) (x : TV), Ts[i]? = some x → ∀ j u, (cellsT x)[j]? = some u → w.cell? ⟨b, off + 3 * i + j, none⟩ = some u
theorem lies_rowsT {w : World} {g t tot : Nat} {Ts : List TV} (h : Ent.lies ⟨g, t, flatT Ts, tot⟩ w) : RowsT w g 0 Ts := fun i x hx j u hu => by
  have := h.cell (o := 3 * i + j) (flatT_get hx hu)
  rw [show 0 + 3 * i + j = 3 * i + j by omega]
  exact this
theorem RowsT.of_block {w w' : World} {b off : Nat} {Ts : List TV} (h : RowsT w b off Ts) (hb : w'.heap[b]? = w.heap[b]?) : RowsT w' b off Ts := fun i x hx j u hu => (World.cell?_of_block (w := w) hb).trans (h i x hx j u hu)
end Go.Proofs.Ytkgamkjdkapchaa
/-
  The iterator over targets: what it has captured, what a round of it leaves.
-/
namespace Go.Proofs.Ytkgamkjdkapchaa
set_option linter.unusedVariables false
set_option linter.unusedSimpArgs false
set_option linter.unusedVariables false
open Go Go.RowKit
theorem TE.retC1 {P : Program} {n : Sz} {w0 : World} {L : List (Nat × Value)} {H : List Ent} {fn : Func} {R : Ending → World → Prop} {i g off : Nat} {t : TypeId} {v : Value} {ex : Exit} (hres : fn.results = #[.cell i t]) (hag : (isAgg t).run P = fun w => .ok false w)
    (hx : look L i = some (.pointer (some ⟨g, off, none⟩))) (hc : At w0 H ⟨g, off, none⟩ v) (h : ∀ w, St w0 H w → R (.returned v) w) (hex : ex = .ret ∨ ex = .normal) (hds : n.ds = [] := by rfl) : TE (bodyPost P fn R) ex n w0 L H := fun a w hf hs => by
  have h1 : (a.tmps.getD i undef) = .pointer (some ⟨g, off, none⟩) := by simp [Array.getD_eq_getD_getElem?, hf.2.2 i _ hx]
  have key : a.defers = [] ∧ ∃ v, (results fn a.tmps).run P w = .ok v w ∧ R (.returned v) w := by
    refine ⟨hf.1.trans hds, v, ?_, h w hs⟩
    simp only [results, hres]
    simp [Sem.run_bind, loadVar, hag]
    simp only [Array.getD_eq_getD_getElem?] at h1
    simp [h1, asAddr, load, Sem.run, hc w hs]
  rcases hex with rfl | rfl
  · exact key
  · exact key
/-- What the iterator over targets has captured. -/
structure CapT (w : World) (b1 b2 g m : Nat) (Ts : List TV) (q : Int) : Prop where
  s : w.cell? ⟨b1, 0, none⟩ = some (.slice (some ⟨g, 0, none⟩) m m)
  x : w.cell? ⟨b2, 0, none⟩ = some (.int .i64 q)
  r : RowsT w g 0 Ts
  l : Ts.length = m
  h1 : b1 < w.heap.size
  h2 : b2 < w.heap.size
  h3 : g < w.heap.size
def capK (b1 b2 g : Nat) (k : Nat) : Prop := k = b1 ∨ k = b2 ∨ k = g
section
variable {P : Program} {w0 v w w' W : World} {b1 b2 g m : Nat} {Ts : List TV} {q : Int} {H : List Ent}
theorem CapT.lt (h : CapT w b1 b2 g m Ts q) {k : Nat} (hk : capK b1 b2 g k) : k < w.heap.size := by
  rcases hk with rfl | rfl | rfl
  · exact h.h1
  · exact h.h2
  · exact h.h3
theorem CapT.row (h : CapT w b1 b2 g m Ts q) {k : Nat} {x : TV} (hx : Ts[k]? = some x) {j : Nat} {u : Value} (hu : (cellsT x)[j]? = some u) : w.cell? ⟨g, 3 * k + j, none⟩ = some u := by
  have := h.r k x hx j u hu
  rw [Nat.zero_add] at this; exact this
theorem CapT.keep (h : CapT w b1 b2 g m Ts q) (hk : ∀ k, capK b1 b2 g k → w'.heap[k]? = w.heap[k]?) (hsz : w.heap.size ≤ w'.heap.size) : CapT w' b1 b2 g m Ts q :=
  ⟨(World.cell?_of_block (w := w) (hk b1 (.inl rfl))).trans h.s, (World.cell?_of_block (w := w) (hk b2 (.inr (.inl rfl)))).trans h.x, h.r.of_block (hk g (.inr (.inr rfl))), h.l, Nat.lt_of_lt_of_le h.h1 hsz, Nat.lt_of_lt_of_le h.h2 hsz, Nat.lt_of_lt_of_le h.h3 hsz⟩
theorem CapT.at_ (h : CapT w0 b1 b2 g m Ts q) (hs : St w0 H w) (hne : ∀ b, b < w0.heap.size → ∀ e ∈ H, e.g ≠ b) : CapT w b1 b2 g m Ts q :=
  h.keep (fun k hk => hs.old k (h.lt hk) (hne k (h.lt hk))) hs.size
theorem St.beside0 {lo : Nat} (h : St v H w) (hn : ∀ e ∈ H, v.heap.size ≤ e.g) : Beside lo (lo + 0) v w :=
  ⟨h.os, h.tape, h.output, h.size, fun k hk _ => h.old k hk (fun e he => by have := hn e he; omega)⟩
def eP (F : List (Int × Int)) (i : Nat) : Int × Int := F.getD i (0, 0)
theorem eP_of {F : List (Int × Int)} {i : Nat} {p : Int × Int} (h : F[i]? = some p) : eP F i = p := by unfold eP; rw [List.getD_eq_getElem?_getD, h]; rfl
theorem eP_at {F : List (Int × Int)} {i : Nat} (h : i < F.length) : F[i]? = some (eP F i) := by
  have h1 : F[i]? = some F[i] := List.getElem?_eq_getElem h
  rw [eP_of h1]; exact h1
def encP (F : List (Int × Int)) (i : Nat) : Value := .agg #[.int .i64 (eP F i).1, .int .i64 (eP F i).2]
theorem up_yield {l : Nat} {J Jx : Nat → World → Prop} {F : List (Int × Int)} {N cn : Nat} {p : Int × Int}
    (hJ : ∀ s A B, J s A → Beside W.heap.size (W.heap.size + 0) A B → J s B)
    (hY : ∀ i W1, i < N → J i W1 → W.heap.size + 0 ≤ W1.heap.size → YieldAt Fence.wide (2 - 1) P l #[encP F i] W1 fun e W' =>
      (e = .returned (.bool true) ∧ J (i + 1) W' ∧ Keeps (fun k => (W.heap.size ≤ k ∧ k < W.heap.size + 0) ∨ capK b1 b2 g k) W1 W') ∨ (e = .returned (.bool false) ∧ Jx (i + 1) W' ∧ W1.heap.size ≤ W'.heap.size))
    (hN : cn < N) (hp : F[cn]? = some p) (hj : J cn v) (hc : CapT v b1 b2 g m Ts q) (hsz : W.heap.size ≤ v.heap.size) (hs : St v H w) (hn : ∀ e ∈ H, v.heap.size ≤ e.g) :
    YieldAt Fence.wide 1 P l #[.agg #[.int .i64 p.1, .int .i64 p.2]] w fun e w' => (e = .returned (.bool true) ∧ (J (cn + 1) w' ∧ CapT w' b1 b2 g m Ts q ∧ W.heap.size ≤ w'.heap.size)) ∨ (e = .returned (.bool false) ∧ Jx (cn + 1) w') := by
  have hb := St.beside0 (lo := W.heap.size) hs hn
  have hsw := hs.size
  obtain ⟨fn, tmps, assign, body, h1, h2⟩ := hY cn w hN (hJ _ _ _ hj hb) (by omega)
  have he : encP F cn = .agg #[.int .i64 p.1, .int .i64 p.2] := by unfold encP; rw [eP_of hp]
  rw [he] at h1
  have hcw : CapT w b1 b2 g m Ts q := hc.keep (fun k hk => hs.old k (hc.lt hk) (fun e he => by have := hn e he; have := hc.lt hk; omega)) hsw
  refine ⟨fn, tmps, assign, body, h1, h2.mono ?_⟩
  rintro e w' (⟨he, hj', hk⟩ | ⟨he, hx, _⟩)
  · exact .inl ⟨he, hj', hcw.keep (fun k hk' => hk.block k (.inr hk') (hcw.lt hk')) hk.size, by have := hk.size; omega⟩
  · exact .inr ⟨he, hx⟩
theorem lies_call {e : Ent} (h : e.lies w) (hW : St w [] W) : e.lies W := h.of_block (hW.old _ h.lt (by simp))
theorem capT_of {t1 t2 : TypeId} (h1 : Ent.lies ⟨b1, t1, [.slice (some ⟨g, 0, none⟩) m m], 1⟩ w) (h2 : Ent.lies ⟨b2, t2, [.int .i64 q], 1⟩ w) (hr : RowsT w g 0 Ts) (hl : Ts.length = m) (hg : g < w.heap.size) : CapT w b1 b2 g m Ts q :=
  ⟨h1.cell rfl, h2.cell rfl, hr, hl, h1.lt, h2.lt, hg⟩
theorem nov_succ {F : List (Int × Int)} {i : Nat} {p : Int × Int} (h : ∀ j r, j < i → F[j]? = some r → endF F j ≤ r.1) (hp : F[i]? = some p) (hn : ¬ p.1 < endF F i) : ∀ j r, j < i + 1 → F[j]? = some r → endF F j ≤ r.1 := fun j r hj hr => by
  by_cases e : j = i
  · subst e; rw [hp] at hr; cases hr; omega
  · exact h j r (by omega) hr
theorem ngap_succ {F : List (Int × Int)} {i : Nat} {p : Int × Int} (h : ∀ j r, j < i → F[j]? = some r → r.1 ≤ endF F j) (hp : F[i]? = some p) (hn : ¬ endF F i < p.1) : ∀ j r, j < i + 1 → F[j]? = some r → r.1 ≤ endF F j := fun j r hj hr => by
  by_cases e : j = i
  · subst e; rw [hp] at hr; cases hr; omega
  · exact h j r (by omega) hr
theorem nov_end {F : List (Int × Int)} (h : ∀ j r, j < F.length → F[j]? = some r → endF F j ≤ r.1) : ¬ ovF F := by
  rintro ⟨i, p, hp, hlt⟩
  have := h i p (List.getElem?_eq_some_iff.1 hp).1 hp
  omega
/-- The first place below m at which p holds, or m. -/
noncomputable def lowI (p : Nat → Prop) (m : Nat) : Nat := match firstF (fun i => i < m ∧ p i) with
  | some i => i
  | none => m
theorem lowI_spec (p : Nat → Prop) (m : Nat) : (lowI p m < m ∧ p (lowI p m) ∨ lowI p m = m) ∧ ∀ j, j < lowI p m → j < m → ¬ p j := by
  unfold lowI
  cases h : firstF (fun i => i < m ∧ p i) with
  | some i =>
    have ⟨h1, h2⟩ := firstF_spec h
    exact ⟨.inl h1, fun j hj hjm hp => h2 j hj ⟨hjm, hp⟩⟩
  | none => exact ⟨.inr rfl, fun j hj hjm hp => firstF_nope h j ⟨hjm, hp⟩⟩
theorem lowI_is {p : Nat → Prop} {m k : Nat} (hk : k ≤ m) (h1 : ∀ j, j < k → ¬ p j) (h2 : k = m ∨ p k) : lowI p m = k := by
  obtain ⟨a, b⟩ := lowI_spec p m
  have c1 : ¬ k < lowI p m := fun hlt => by
    rcases h2 with h2 | h2
    · rcases a with a | a <;> omega
    · rcases a with a | a
      · exact b k hlt (by omega) h2
      · exact b k hlt (by omega) h2
  have c2 : ¬ lowI p m < k := fun hlt => by
    rcases a with a | a
    · exact h1 _ hlt a.2
    · omega
  omega
end
end Go.Proofs.Ytkgamkjdkapchaa
namespace Go.Proofs.Ytkgamkjdkapchaa
set_option linter.unusedVariables false
set_option linter.unusedSimpArgs false
open Go Go.RowKit
theorem agg23 : (isAgg 23).run Try.prog = fun w => .ok false w := isAgg_no Try.underlying23 rfl
theorem enters43 : Enters Try.prog 43 := ⟨_, Try.func43, by kernel_rfl, by kernel_rfl⟩
theorem enters62 : Enters Try.prog 62 := ⟨_, Try.func62, by kernel_rfl, by kernel_rfl⟩
theorem enters68 : Enters Try.prog 68 := ⟨_, Try.func68, by kernel_rfl, by kernel_rfl⟩
theorem size23 : (Try.prog.info? 23).map (·.size) = some 1 := by kernel_rfl

theorem rlen_c (k t f l : Int) (A : Option Addr) (m c : Nat) (w : World) : Calls Try.prog 20 #[.agg ([Value.int .i64 k, Value.int .i64 t, Value.int .i64 f, Value.int .i64 l, Value.slice A m c]).toArray] w fun e w' => e = .returned (.int .i64 (lenV k l m)) ∧ St w [] w' := by
  unfold lenV
  by_cases h1 : k = 1
  · subst h1; rw [if_pos rfl]; exact rlen1 t f l A m c w
  · rw [if_neg h1]; exact rlen2 k t f l A m c h1 w
theorem rtarget_c (k t f l : Int) (A : Option Addr) (m c : Nat) (w : World) : Calls Try.prog 28 #[.agg ([Value.int .i64 k, Value.int .i64 t, Value.int .i64 f, Value.int .i64 l, Value.slice A m c]).toArray] w fun e w' => e = .returned (.agg ([Value.int .i64 t, Value.int .i64 (lenV k l m)]).toArray) ∧ St w [] w' := by
  unfold lenV
  by_cases h1 : k = 1
  · subst h1; rw [if_pos rfl]; exact rtarget1 t f l A m c w
  · rw [if_neg h1]; exact rtarget2 k t f l A m c h1 w

set_option maxRecDepth 100000 in
set_option maxHeartbeats 400000 in
theorem few_c (o n : Int) (H1 H2 : List Int) (hH1 : H1.length = 32) (hH2 : H2.length = 32) (A : Option Addr) (m c : Nat) (Cs : List CV) (hml : m ≤ 9223372036854775807) (hN : NumsC Cs) (w : World) (hC : SrcC w A m Cs)  : Calls Try.prog 8 #[.agg ([Value.int .i64 o, Value.int .i64 n] ++ (H1.map (Value.int .u8) ++ (H2.map (Value.int .u8) ++ ([Value.slice A m c])))).toArray] w fun e w' => e = .returned (.bool (decide (fewP Cs))) ∧ St w [] w' := by
  refine calls_from (args := [.agg ([Value.int .i64 o, Value.int .i64 n] ++ (H1.map (Value.int .u8) ++ (H2.map (Value.int .u8) ++ ([Value.slice A m c])))).toArray]) Try.func8 rfl Try.ntmps8 (by simp) ?_
  refine TC.sub (Sub.cons (i := 0) rfl (Sub.nil)) ?_
  refine TC.seq ?_
  refine TC.regionL ?_
  refine TL.box (Wants.none rfl) rfl rfl rfl (cs := [Value.int .i64 o, Value.int .i64 n] ++ (H1.map (Value.int .u8) ++ (H2.map (Value.int .u8) ++ ([Value.slice A m c])))) (by simp [Value.cells]) (tot := 67) (by simp [hH1, hH2]) (fun g1 hg1 => ?_)
  refine TL.gets (Wants.none rfl) rfl (Gets.assign rfl rfl) ?_
  refine TL.nil ?_
  refine TE.then ?_
  refine TC.seq ?_
  refine TC.seq ?_
  refine TC.regionL ?_
  refine TL.gets (Wants.none rfl) rfl (Gets.assign rfl rfl) ?_
  refine TL.nil ?_
  refine TE.then ?_
  refine TC.block ?_
  refine TC.loop (ι := Nat) (fun i => [(1, .pointer (some ⟨g1, 0, none⟩)), (3, .int .i64 (i : Int))]) (fun i => [⟨g1, 25, [Value.int .i64 o, Value.int .i64 n] ++ (H1.map (Value.int .u8) ++ (H2.map (Value.int .u8) ++ ([Value.slice A m c]))), 67⟩]) (fun i => m - i) (fun i => i ≤ m ∧ ∀ (j : Nat) (y : CV), j < i → Cs[j]? = some y → y.m ≤ 300) 0 ⟨Nat.zero_le _, fun j y h => absurd h (Nat.not_lt_zero j)⟩ (Sub.cons (i := 1) rfl (Sub.int (i := 3) rfl (by first | omega | rfl) (Sub.nil))) (fun w h => h) (fun i hC0 => ?_)
  obtain ⟨hC0, hC1⟩ := hC0
  refine TC.seq ?_
  refine TC.seq ?_
  refine TC.regionL ?_
  refine TL.gets (Wants.none rfl) rfl (Gets.move rfl rfl) ?_
  refine TL.gets (Wants.none rfl) rfl (Gets.fieldAddr rfl Try.underlying25 rfl size23 rfl (off' := 66) (by first | rfl | omega)) ?_
  refine TL.gets (Wants.none rfl) rfl (Gets.load1 rfl agg23 rfl (At.ent (i := 0) (ent := ⟨g1, 25, [Value.int .i64 o, Value.int .i64 n] ++ (H1.map (Value.int .u8) ++ (H2.map (Value.int .u8) ++ ([Value.slice A m c]))), 67⟩) (off := 66) rfl rfl (by exact app_right (a := 2) (i := 64) (rfl) (app_right (a := 32) (i := 32) (ints_len hH1) (app_right (a := 32) (i := 0) (ints_len hH2) (rfl)))))) ?_
  refine TL.gets (Wants.none rfl) rfl (Gets.lenSlice rfl Try.underlying23 rfl) ?_
  refine TL.gets (Wants.none rfl) rfl (Gets.lss rfl rfl rfl) ?_
  refine TL.nil ?_
  refine TE.then ?_
  refine TC.split rfl (fun hq0 => ?_) (fun hq0 => ?_)
  · obtain ⟨b, off, hAe, hb, hrw⟩ := hC.some_ (i := i) (by omega)
    subst hAe
    obtain ⟨x, hx⟩ := hC.get (i := i) (by omega)
    have hnx := hN i x hx
    unfold NumC at hnx
    have hlbx := lenV_bd (k := x.k) (l := x.l) (m := x.m) (by omega) (by omega)
    refine TC.skip ?_
    refine TE.then ?_
    refine TC.seq ?_
    refine TC.block ?_
    refine TC.seq ?_
    refine TC.regionL ?_
    refine TL.gets (Wants.none rfl) rfl (Gets.fieldAddr rfl Try.underlying25 rfl size23 rfl (off' := 66) (by first | rfl | omega)) ?_
    refine TL.gets (Wants.none rfl) rfl (Gets.load1 rfl agg23 rfl (At.ent (i := 0) (ent := ⟨g1, 25, [Value.int .i64 o, Value.int .i64 n] ++ (H1.map (Value.int .u8) ++ (H2.map (Value.int .u8) ++ ([Value.slice (some ⟨b, off, none⟩) m c]))), 67⟩) (off := 66) rfl rfl (by exact app_right (a := 2) (i := 64) (rfl) (app_right (a := 32) (i := 32) (ints_len hH1) (app_right (a := 32) (i := 0) (ints_len hH2) (rfl)))))) ?_
    refine TL.gets (Wants.none rfl) rfl (Gets.move rfl rfl) ?_
    refine TL.gets (Wants.none rfl) rfl (Gets.idxSlice rfl Try.underlying23 size40 rfl rfl (i := i) (by omega) (by omega) (off' := (off + 5 * i)) (by omega)) ?_
    refine TL.gets (Wants.none rfl) rfl (Gets.fieldAddr rfl Try.underlying40 rfl size38 rfl (off' := (off + 5 * i + 4)) (by first | rfl | omega)) ?_
    refine TL.gets (Wants.none rfl) rfl (Gets.load1 rfl agg38 rfl (At.old (hrw i x hx 4 _ rfl) hb (ne_cons (by show g1 ≠ b; omega) ne_nil))) ?_
    refine TL.gets (Wants.none rfl) rfl (Gets.lenSlice rfl Try.underlying38 rfl) ?_
    refine TL.gets (Wants.none rfl) rfl (Gets.gtr rfl rfl rfl) ?_
    refine TL.nil ?_
    refine TE.then ?_
    refine TC.sub (Sub.cons (i := 1) rfl (Sub.cons (i := 3) rfl (Sub.cons (i := 18) rfl (Sub.nil)))) ?_
    refine TC.split rfl (fun hq1 => ?_) (fun hq1 => ?_)
    · refine TC.seq ?_
      refine TC.regionL ?_
      refine TL.gets (Wants.none rfl) rfl (Gets.assign rfl rfl) ?_
      refine TL.nil ?_
      refine TE.then ?_
      refine TC.ret ?_
      refine TE.blockR ?_
      refine TE.thenR ?_
      refine TE.thenR ?_
      refine TE.blockR ?_
      refine TE.thenR ?_
      exact TE.ret1 rfl rfl (fun w hs => ⟨dec_f (fun h => by have := h.1 i x hx; omega), (hs.drop (by assumption))⟩)
    · refine TC.skip ?_
      refine TE.blockN ?_
      refine TE.then ?_
      refine TC.regionL ?_
      refine TL.gets (Wants.none rfl) rfl (Gets.move rfl rfl) ?_
      refine TL.gets (Wants.none rfl) rfl (Gets.add rfl rfl rfl (r := ((i : Int) + 1)) (w64 (by omega) (by omega))) ?_
      refine TL.gets (Wants.none rfl) rfl (Gets.assign rfl rfl) ?_
      refine TL.nil ?_
      exact TE.back (i + 1) (by omega) ⟨by omega, all_succ hC1 hx (by omega)⟩ (Sub.cons (i := 1) rfl (Sub.int (i := 3) rfl (by first | omega | rfl) (Sub.nil))) (fun w h => h)
  · refine TC.exit ?_
    refine TE.thenX ?_
    refine TE.thenX ?_
    refine TE.blockX ?_
    refine TE.then ?_
    refine TC.seq ?_
    refine TC.regionL ?_
    refine TL.gets (Wants.none rfl) rfl (Gets.fieldAddr rfl Try.underlying25 rfl size23 rfl (off' := 66) (by first | rfl | omega)) ?_
    refine TL.gets (Wants.none rfl) rfl (Gets.load1 rfl agg23 rfl (At.ent (i := 0) (ent := ⟨g1, 25, [Value.int .i64 o, Value.int .i64 n] ++ (H1.map (Value.int .u8) ++ (H2.map (Value.int .u8) ++ ([Value.slice A m c]))), 67⟩) (off := 66) rfl rfl (by exact app_right (a := 2) (i := 64) (rfl) (app_right (a := 32) (i := 32) (ints_len hH1) (app_right (a := 32) (i := 0) (ints_len hH2) (rfl)))))) ?_
    refine TL.gets (Wants.none rfl) rfl (Gets.lenSlice rfl Try.underlying23 rfl) ?_
    refine TL.gets (Wants.none rfl) rfl (Gets.leq rfl rfl rfl) ?_
    refine TL.gets (Wants.none rfl) rfl (Gets.assign rfl rfl) ?_
    refine TL.nil ?_
    refine TE.then ?_
    refine TC.ret ?_
    exact TE.ret1 rfl rfl (fun w hs => ⟨dec_iff ⟨fun h => ⟨all_of (m := m) (by have := hC.1; omega) (fun j y hj => hC1 j y (by omega)), by have := hC.1; omega⟩, fun h => by have := h.2; have := hC.1; omega⟩, (hs.drop (by assumption))⟩)

set_option maxRecDepth 100000 in
set_option maxHeartbeats 400000 in
theorem single_c (o n : Int) (H1 H2 : List Int) (hH1 : H1.length = 32) (hH2 : H2.length = 32) (A : Option Addr) (m c : Nat) (Cs : List CV) (x : CV) (hn : NumC x) (w : World) : Calls Try.prog 26 #[.agg ([Value.int .i64 o, Value.int .i64 n] ++ (H1.map (Value.int .u8) ++ (H2.map (Value.int .u8) ++ ([Value.slice A m c])))).toArray, .agg ([Value.int .i64 x.k, Value.int .i64 x.t, Value.int .i64 x.f, Value.int .i64 x.l, Value.slice x.A x.m x.c]).toArray] w fun e w' => e = .returned (.int .i64 (singleV o n x)) ∧ St w [] w' := by
  refine calls_from (args := [.agg ([Value.int .i64 o, Value.int .i64 n] ++ (H1.map (Value.int .u8) ++ (H2.map (Value.int .u8) ++ ([Value.slice A m c])))).toArray, .agg ([Value.int .i64 x.k, Value.int .i64 x.t, Value.int .i64 x.f, Value.int .i64 x.l, Value.slice x.A x.m x.c]).toArray]) Try.func26 rfl Try.ntmps26 (by simp) ?_
  refine TC.sub (Sub.cons (i := 0) rfl (Sub.cons (i := 1) rfl (Sub.nil))) ?_
  refine TC.seq ?_
  refine TC.regionL ?_
  refine TL.box (Wants.none rfl) rfl rfl rfl (cs := [Value.int .i64 o, Value.int .i64 n] ++ (H1.map (Value.int .u8) ++ (H2.map (Value.int .u8) ++ ([Value.slice A m c])))) (by simp [Value.cells]) (tot := 67) (by simp [hH1, hH2]) (fun g1 hg1 => ?_)
  refine TL.box (Wants.none rfl) rfl rfl rfl (cs := [Value.int .i64 x.k, Value.int .i64 x.t, Value.int .i64 x.f, Value.int .i64 x.l, Value.slice x.A x.m x.c]) (by simp [Value.cells]) (tot := 5) (by simp []) (fun g2 hg2 => ?_)
  refine TL.gets (Wants.none rfl) rfl (Gets.assign rfl rfl) ?_
  refine TL.nil ?_
  refine TE.then ?_
  refine TC.seq ?_
  have hnx := hn
  unfold NumC at hnx
  have hlb := lenV_bd (k := x.k) (l := x.l) (m := x.m) (by omega) (by omega)
  refine TC.regionL ?_
  refine TL.gets (Wants.none rfl) rfl (Gets.loadN rfl agg40 size40 rfl (vs := [Value.int .i64 x.k, Value.int .i64 x.t, Value.int .i64 x.f, Value.int .i64 x.l, Value.slice x.A x.m x.c]) (by simp []) (Row.all (i := 0) (ent := ⟨g2, 40, [Value.int .i64 x.k, Value.int .i64 x.t, Value.int .i64 x.f, Value.int .i64 x.l, Value.slice x.A x.m x.c], 5⟩) rfl rfl rfl)) ?_
  refine TL.call0 (Wants.none rfl) rfl enters43 rfl rfl (v := .int .i64 (codeV x.k x.t x.f x.l x.m)) (fun w hs => rcheck_c x.k x.t x.f x.l x.A x.m x.c (by omega) (by omega) (by omega) (by omega) w) ?_
  refine TL.gets (Wants.none rfl) rfl (Gets.assign rfl rfl) ?_
  refine TL.nil ?_
  refine TE.then ?_
  refine TC.seq ?_
  refine TC.seq ?_
  refine TC.regionL ?_
  refine TL.gets (Wants.none rfl) rfl (Gets.move rfl rfl) ?_
  refine TL.gets (Wants.none rfl) rfl (Gets.neq rfl rfl rfl) ?_
  refine TL.nil ?_
  refine TE.then ?_
  refine TC.sub (Sub.cons (i := 2) rfl (Sub.cons (i := 3) rfl (Sub.cons (i := 4) rfl (Sub.cons (i := 5) rfl (Sub.cons (i := 9) rfl (Sub.nil)))))) ?_
  refine TC.split rfl (fun hq0 => ?_) (fun hq0 => ?_)
  · refine TC.seq ?_
    refine TC.regionL ?_
    refine TL.gets (Wants.none rfl) rfl (Gets.move rfl rfl) ?_
    refine TL.gets (Wants.none rfl) rfl (Gets.assign rfl rfl) ?_
    refine TL.nil ?_
    refine TE.then ?_
    refine TC.ret ?_
    refine TE.thenR ?_
    exact TE.ret1 rfl rfl (fun w hs => ⟨ret_i (by unfold singleV; (repeat' split) <;> first | rfl | (exfalso; omega)), ((hs.drop (by assumption)).drop (by assumption))⟩)
  · have hcv := codeV_facts (by omega : codeV x.k x.t x.f x.l x.m = 0)
    unfold vld at hcv
    refine TC.skip ?_
    refine TE.then ?_
    refine TC.seq ?_
    refine TC.seq ?_
    refine TC.regionL ?_
    refine TL.gets (Wants.none rfl) rfl (Gets.fieldAddr rfl Try.underlying40 rfl size3 rfl (off' := 0) (by first | rfl | omega)) ?_
    refine TL.gets (Wants.none rfl) rfl (Gets.load1 rfl agg3 rfl (At.ent (i := 0) (ent := ⟨g2, 40, [Value.int .i64 x.k, Value.int .i64 x.t, Value.int .i64 x.f, Value.int .i64 x.l, Value.slice x.A x.m x.c], 5⟩) (off := 0) rfl rfl (by exact rfl))) ?_
    by_cases c1 : x.k = 1
    · refine TL.gets (Wants.none rfl) rfl (Gets.isTrue (Gets.eql rfl rfl rfl) c1) ?_
      refine TL.gets (Wants.none rfl) rfl (Gets.move rfl rfl) ?_
      refine TL.gets (Wants.yes rfl rfl rfl) rfl (Gets.fieldAddr rfl Try.underlying40 rfl size3 rfl (off' := 2) (by first | rfl | omega)) ?_
      refine TL.gets (Wants.yes rfl rfl rfl) rfl (Gets.load1 rfl agg3 rfl (At.ent (i := 0) (ent := ⟨g2, 40, [Value.int .i64 x.k, Value.int .i64 x.t, Value.int .i64 x.f, Value.int .i64 x.l, Value.slice x.A x.m x.c], 5⟩) (off := 2) rfl rfl (by exact rfl))) ?_
      refine TL.gets (Wants.yes rfl rfl rfl) rfl (Gets.fieldAddr rfl Try.underlying40 rfl size3 rfl (off' := 3) (by first | rfl | omega)) ?_
      refine TL.gets (Wants.yes rfl rfl rfl) rfl (Gets.load1 rfl agg3 rfl (At.ent (i := 0) (ent := ⟨g2, 40, [Value.int .i64 x.k, Value.int .i64 x.t, Value.int .i64 x.f, Value.int .i64 x.l, Value.slice x.A x.m x.c], 5⟩) (off := 3) rfl rfl (by exact rfl))) ?_
      refine TL.gets (Wants.yes rfl rfl rfl) rfl (Gets.add rfl rfl rfl (r := (x.f + x.l)) (w64 (by omega) (by omega))) ?_
      refine TL.gets (Wants.yes rfl rfl rfl) rfl (Gets.fieldAddr rfl Try.underlying25 rfl size3 rfl (off' := 0) (by first | rfl | omega)) ?_
      refine TL.gets (Wants.yes rfl rfl rfl) rfl (Gets.load1 rfl agg3 rfl (At.ent (i := 1) (ent := ⟨g1, 25, [Value.int .i64 o, Value.int .i64 n] ++ (H1.map (Value.int .u8) ++ (H2.map (Value.int .u8) ++ ([Value.slice A m c]))), 67⟩) (off := 0) rfl rfl (by exact app_left (i := 0) (B := H1.map (Value.int .u8) ++ (H2.map (Value.int .u8) ++ ([Value.slice A m c]))) (rfl)))) ?_
      by_cases c2 : o < (x.f + x.l)
      · refine TL.gets (Wants.yes rfl rfl rfl) rfl (Gets.isTrue (Gets.gtr rfl rfl rfl) c2) ?_
        refine TL.gets (Wants.none rfl) rfl (Gets.pickT rfl rfl rfl) ?_
        refine TL.nil ?_
        refine TE.then ?_
        refine TC.sub (Sub.cons (i := 2) rfl (Sub.cons (i := 3) rfl (Sub.cons (i := 4) rfl (Sub.cons (i := 23) rfl (Sub.nil))))) ?_
        refine TC.yes rfl ?_
        refine TC.seq ?_
        refine TC.regionL ?_
        refine TL.gets (Wants.none rfl) rfl (Gets.assign rfl rfl) ?_
        refine TL.nil ?_
        refine TE.then ?_
        refine TC.ret ?_
        refine TE.thenR ?_
        exact TE.ret1 rfl rfl (fun w hs => ⟨ret_i (by unfold singleV; (repeat' split) <;> first | rfl | (exfalso; omega)), ((hs.drop (by assumption)).drop (by assumption))⟩)
      · refine TL.gets (Wants.yes rfl rfl rfl) rfl (Gets.isFalse (Gets.gtr rfl rfl rfl) c2) ?_
        refine TL.gets (Wants.none rfl) rfl (Gets.pickT rfl rfl rfl) ?_
        refine TL.nil ?_
        refine TE.then ?_
        refine TC.sub (Sub.cons (i := 2) rfl (Sub.cons (i := 3) rfl (Sub.cons (i := 4) rfl (Sub.cons (i := 23) rfl (Sub.nil))))) ?_
        refine TC.no rfl ?_
        refine TC.skip ?_
        refine TE.then ?_
        refine TC.seq ?_
        refine TC.seq ?_
        refine TC.mix (by kernel_rfl) [0, 1, 1, 1, 0, 0, 1, 0] rfl (by kernel_rfl) ?_
        refine TM.free (Wants.none rfl) rfl (fun _ => Gets.fieldAddr rfl Try.underlying40 rfl size3 rfl (off' := 1) (by first | rfl | omega)) ?_
        refine TM.gets (Wants.none rfl) rfl (Gets.load1 rfl agg3 rfl (At.ent (i := 0) (ent := ⟨g2, 40, [Value.int .i64 x.k, Value.int .i64 x.t, Value.int .i64 x.f, Value.int .i64 x.l, Value.slice x.A x.m x.c], 5⟩) (off := 1) rfl rfl (by exact rfl))) ?_
        refine TM.gets (Wants.none rfl) rfl (Gets.loadN rfl agg40 size40 rfl (vs := [Value.int .i64 x.k, Value.int .i64 x.t, Value.int .i64 x.f, Value.int .i64 x.l, Value.slice x.A x.m x.c]) (by simp []) (Row.all (i := 0) (ent := ⟨g2, 40, [Value.int .i64 x.k, Value.int .i64 x.t, Value.int .i64 x.f, Value.int .i64 x.l, Value.slice x.A x.m x.c], 5⟩) rfl rfl rfl)) ?_
        refine TM.call0 (Wants.none rfl) rfl enters20 rfl rfl (v := .int .i64 (lenV x.k x.l x.m)) (fun w hs => rlen_c x.k x.t x.f x.l x.A x.m x.c w) ?_
        refine TM.free (Wants.none rfl) rfl (fun _ => Gets.add rfl rfl rfl (r := (x.t + (lenV x.k x.l x.m))) (w64 (by omega) (by omega))) ?_
        refine TM.free (Wants.none rfl) rfl (fun _ => Gets.fieldAddr rfl Try.underlying25 rfl size3 rfl (off' := 1) (by first | rfl | omega)) ?_
        refine TM.gets (Wants.none rfl) rfl (Gets.load1 rfl agg3 rfl (At.ent (i := 1) (ent := ⟨g1, 25, [Value.int .i64 o, Value.int .i64 n] ++ (H1.map (Value.int .u8) ++ (H2.map (Value.int .u8) ++ ([Value.slice A m c]))), 67⟩) (off := 1) rfl rfl (by exact app_left (i := 1) (B := H1.map (Value.int .u8) ++ (H2.map (Value.int .u8) ++ ([Value.slice A m c]))) (rfl)))) ?_
        refine TM.free (Wants.none rfl) rfl (fun _ => Gets.gtr rfl rfl rfl) ?_
        refine TM.nil ?_
        refine TE.then ?_
        refine TC.sub (Sub.cons (i := 4) rfl (Sub.cons (i := 31) rfl (Sub.nil))) ?_
        refine TC.split rfl (fun h3 => ?_) (fun h3 => ?_)
        · refine TC.seq ?_
          refine TC.regionL ?_
          refine TL.gets (Wants.none rfl) rfl (Gets.assign rfl rfl) ?_
          refine TL.nil ?_
          refine TE.then ?_
          refine TC.ret ?_
          refine TE.thenR ?_
          exact TE.ret1 rfl rfl (fun w hs => ⟨ret_i (by unfold singleV; (repeat' split) <;> first | rfl | (exfalso; omega)), ((hs.drop (by assumption)).drop (by assumption))⟩)
        · refine TC.skip ?_
          refine TE.then ?_
          refine TC.seq ?_
          refine TC.regionL ?_
          refine TL.gets (Wants.none rfl) rfl (Gets.assign rfl rfl) ?_
          refine TL.nil ?_
          refine TE.then ?_
          refine TC.ret ?_
          exact TE.ret1 rfl rfl (fun w hs => ⟨ret_i (by unfold singleV; (repeat' split) <;> first | rfl | (exfalso; omega)), ((hs.drop (by assumption)).drop (by assumption))⟩)
    · refine TL.gets (Wants.none rfl) rfl (Gets.isFalse (Gets.eql rfl rfl rfl) c1) ?_
      refine TL.gets (Wants.none rfl) rfl (Gets.move rfl rfl) ?_
      refine TL.pass rfl rfl rfl rfl rfl ?_
      refine TL.pass rfl rfl rfl rfl rfl ?_
      refine TL.pass rfl rfl rfl rfl rfl ?_
      refine TL.pass rfl rfl rfl rfl rfl ?_
      refine TL.pass rfl rfl rfl rfl rfl ?_
      refine TL.pass rfl rfl rfl rfl rfl ?_
      refine TL.pass rfl rfl rfl rfl rfl ?_
      refine TL.pass rfl rfl rfl rfl rfl ?_
      refine TL.gets (Wants.none rfl) rfl (Gets.pickF rfl rfl rfl) ?_
      refine TL.nil ?_
      refine TE.then ?_
      refine TC.sub (Sub.cons (i := 2) rfl (Sub.cons (i := 3) rfl (Sub.cons (i := 4) rfl (Sub.cons (i := 23) rfl (Sub.nil))))) ?_
      refine TC.no rfl ?_
      refine TC.skip ?_
      refine TE.then ?_
      refine TC.seq ?_
      refine TC.seq ?_
      refine TC.mix (by kernel_rfl) [0, 1, 1, 1, 0, 0, 1, 0] rfl (by kernel_rfl) ?_
      refine TM.free (Wants.none rfl) rfl (fun _ => Gets.fieldAddr rfl Try.underlying40 rfl size3 rfl (off' := 1) (by first | rfl | omega)) ?_
      refine TM.gets (Wants.none rfl) rfl (Gets.load1 rfl agg3 rfl (At.ent (i := 0) (ent := ⟨g2, 40, [Value.int .i64 x.k, Value.int .i64 x.t, Value.int .i64 x.f, Value.int .i64 x.l, Value.slice x.A x.m x.c], 5⟩) (off := 1) rfl rfl (by exact rfl))) ?_
      refine TM.gets (Wants.none rfl) rfl (Gets.loadN rfl agg40 size40 rfl (vs := [Value.int .i64 x.k, Value.int .i64 x.t, Value.int .i64 x.f, Value.int .i64 x.l, Value.slice x.A x.m x.c]) (by simp []) (Row.all (i := 0) (ent := ⟨g2, 40, [Value.int .i64 x.k, Value.int .i64 x.t, Value.int .i64 x.f, Value.int .i64 x.l, Value.slice x.A x.m x.c], 5⟩) rfl rfl rfl)) ?_
      refine TM.call0 (Wants.none rfl) rfl enters20 rfl rfl (v := .int .i64 (lenV x.k x.l x.m)) (fun w hs => rlen_c x.k x.t x.f x.l x.A x.m x.c w) ?_
      refine TM.free (Wants.none rfl) rfl (fun _ => Gets.add rfl rfl rfl (r := (x.t + (lenV x.k x.l x.m))) (w64 (by omega) (by omega))) ?_
      refine TM.free (Wants.none rfl) rfl (fun _ => Gets.fieldAddr rfl Try.underlying25 rfl size3 rfl (off' := 1) (by first | rfl | omega)) ?_
      refine TM.gets (Wants.none rfl) rfl (Gets.load1 rfl agg3 rfl (At.ent (i := 1) (ent := ⟨g1, 25, [Value.int .i64 o, Value.int .i64 n] ++ (H1.map (Value.int .u8) ++ (H2.map (Value.int .u8) ++ ([Value.slice A m c]))), 67⟩) (off := 1) rfl rfl (by exact app_left (i := 1) (B := H1.map (Value.int .u8) ++ (H2.map (Value.int .u8) ++ ([Value.slice A m c]))) (rfl)))) ?_
      refine TM.free (Wants.none rfl) rfl (fun _ => Gets.gtr rfl rfl rfl) ?_
      refine TM.nil ?_
      refine TE.then ?_
      refine TC.sub (Sub.cons (i := 4) rfl (Sub.cons (i := 31) rfl (Sub.nil))) ?_
      refine TC.split rfl (fun h5 => ?_) (fun h5 => ?_)
      · refine TC.seq ?_
        refine TC.regionL ?_
        refine TL.gets (Wants.none rfl) rfl (Gets.assign rfl rfl) ?_
        refine TL.nil ?_
        refine TE.then ?_
        refine TC.ret ?_
        refine TE.thenR ?_
        exact TE.ret1 rfl rfl (fun w hs => ⟨ret_i (by unfold singleV; (repeat' split) <;> first | rfl | (exfalso; omega)), ((hs.drop (by assumption)).drop (by assumption))⟩)
      · refine TC.skip ?_
        refine TE.then ?_
        refine TC.seq ?_
        refine TC.regionL ?_
        refine TL.gets (Wants.none rfl) rfl (Gets.assign rfl rfl) ?_
        refine TL.nil ?_
        refine TE.then ?_
        refine TC.ret ?_
        exact TE.ret1 rfl rfl (fun w hs => ⟨ret_i (by unfold singleV; (repeat' split) <;> first | rfl | (exfalso; omega)), ((hs.drop (by assumption)).drop (by assumption))⟩)

set_option maxRecDepth 100000 in
set_option maxHeartbeats 400000 in
theorem rHas_c (o l p : Int) (h : -9223372036854775808 ≤ o + l ∧ o + l ≤ 9223372036854775807) (w : World) : Calls Try.prog 68 #[.agg ([Value.int .i64 o, Value.int .i64 l]).toArray, .int .i64 p] w fun e w' => e = .returned (.bool (decide (hasB (o, l) p))) ∧ St w [] w' := by
  refine calls_from (args := [.agg ([Value.int .i64 o, Value.int .i64 l]).toArray, .int .i64 p]) Try.func68 rfl Try.ntmps68 (by simp) ?_
  refine TC.sub (Sub.cons (i := 0) rfl (Sub.cons (i := 1) rfl (Sub.nil))) ?_
  refine TC.seq ?_
  refine TC.regionL ?_
  refine TL.box (Wants.none rfl) rfl rfl rfl (cs := [Value.int .i64 o, Value.int .i64 l]) (by simp [Value.cells]) (tot := 2) (by simp []) (fun g1 hg1 => ?_)
  refine TL.gets (Wants.none rfl) rfl (Gets.assign rfl rfl) ?_
  refine TL.nil ?_
  refine TE.then ?_
  refine TC.seq ?_
  refine TC.regionL ?_
  refine TL.gets (Wants.none rfl) rfl (Gets.move rfl rfl) ?_
  refine TL.gets (Wants.none rfl) rfl (Gets.fieldAddr rfl Try.underlying49 rfl size3 rfl (off' := 0) (by first | rfl | omega)) ?_
  refine TL.gets (Wants.none rfl) rfl (Gets.load1 rfl agg3 rfl (At.ent (i := 0) (ent := ⟨g1, 49, [Value.int .i64 o, Value.int .i64 l], 2⟩) (off := 0) rfl rfl (by exact rfl))) ?_
  by_cases c1 : o ≤ p
  · refine TL.gets (Wants.none rfl) rfl (Gets.isTrue (Gets.geq rfl rfl rfl) c1) ?_
    refine TL.gets (Wants.none rfl) rfl (Gets.move rfl rfl) ?_
    refine TL.gets (Wants.yes rfl rfl rfl) rfl (Gets.move rfl rfl) ?_
    refine TL.gets (Wants.yes rfl rfl rfl) rfl (Gets.fieldAddr rfl Try.underlying49 rfl size3 rfl (off' := 0) (by first | rfl | omega)) ?_
    refine TL.gets (Wants.yes rfl rfl rfl) rfl (Gets.load1 rfl agg3 rfl (At.ent (i := 0) (ent := ⟨g1, 49, [Value.int .i64 o, Value.int .i64 l], 2⟩) (off := 0) rfl rfl (by exact rfl))) ?_
    refine TL.gets (Wants.yes rfl rfl rfl) rfl (Gets.fieldAddr rfl Try.underlying49 rfl size3 rfl (off' := 1) (by first | rfl | omega)) ?_
    refine TL.gets (Wants.yes rfl rfl rfl) rfl (Gets.load1 rfl agg3 rfl (At.ent (i := 0) (ent := ⟨g1, 49, [Value.int .i64 o, Value.int .i64 l], 2⟩) (off := 1) rfl rfl (by exact rfl))) ?_
    refine TL.gets (Wants.yes rfl rfl rfl) rfl (Gets.add rfl rfl rfl (r := (o + l)) (w64 (by omega) (by omega))) ?_
    refine TL.gets (Wants.yes rfl rfl rfl) rfl (Gets.lss rfl rfl rfl) ?_
    refine TL.gets (Wants.none rfl) rfl (Gets.pickT rfl rfl rfl) ?_
    refine TL.gets (Wants.none rfl) rfl (Gets.assign rfl rfl) ?_
    refine TL.nil ?_
    refine TE.then ?_
    refine TC.ret ?_
    exact TE.ret1 rfl rfl (fun w hs => ⟨dec_iff (by unfold hasB; dsimp only; omega), (hs.drop (by assumption))⟩)
  · refine TL.gets (Wants.none rfl) rfl (Gets.isFalse (Gets.geq rfl rfl rfl) c1) ?_
    refine TL.gets (Wants.none rfl) rfl (Gets.move rfl rfl) ?_
    refine TL.pass rfl rfl rfl rfl rfl ?_
    refine TL.pass rfl rfl rfl rfl rfl ?_
    refine TL.pass rfl rfl rfl rfl rfl ?_
    refine TL.pass rfl rfl rfl rfl rfl ?_
    refine TL.pass rfl rfl rfl rfl rfl ?_
    refine TL.pass rfl rfl rfl rfl rfl ?_
    refine TL.pass rfl rfl rfl rfl rfl ?_
    refine TL.gets (Wants.none rfl) rfl (Gets.pickF rfl rfl rfl) ?_
    refine TL.gets (Wants.none rfl) rfl (Gets.assign rfl rfl) ?_
    refine TL.nil ?_
    refine TE.then ?_
    refine TC.ret ?_
    exact TE.ret1 rfl rfl (fun w hs => ⟨dec_f (by unfold hasB; dsimp only; omega), (hs.drop (by assumption))⟩)

set_option maxRecDepth 100000 in
set_option maxHeartbeats 400000 in
theorem rhas_c (x : CV) (p : Int) (h : -9223372036854775808 ≤ x.t + lenV x.k x.l x.m ∧ x.t + lenV x.k x.l x.m ≤ 9223372036854775807) (w : World) : Calls Try.prog 62 #[.agg ([Value.int .i64 x.k, Value.int .i64 x.t, Value.int .i64 x.f, Value.int .i64 x.l, Value.slice x.A x.m x.c]).toArray, .int .i64 p] w fun e w' => e = .returned (.bool (decide (hasB (tg x) p))) ∧ St w [] w' := by
  refine calls_from (args := [.agg ([Value.int .i64 x.k, Value.int .i64 x.t, Value.int .i64 x.f, Value.int .i64 x.l, Value.slice x.A x.m x.c]).toArray, .int .i64 p]) Try.func62 rfl Try.ntmps62 (by simp) ?_
  refine TC.sub (Sub.cons (i := 0) rfl (Sub.cons (i := 1) rfl (Sub.nil))) ?_
  refine TC.seq ?_
  refine TC.regionL ?_
  refine TL.box (Wants.none rfl) rfl rfl rfl (cs := [Value.int .i64 x.k, Value.int .i64 x.t, Value.int .i64 x.f, Value.int .i64 x.l, Value.slice x.A x.m x.c]) (by simp [Value.cells]) (tot := 5) (by simp []) (fun g1 hg1 => ?_)
  refine TL.gets (Wants.none rfl) rfl (Gets.assign rfl rfl) ?_
  refine TL.nil ?_
  refine TE.then ?_
  refine TC.seq ?_
  refine TC.regionL ?_
  refine TL.gets (Wants.none rfl) rfl (Gets.loadN rfl agg40 size40 rfl (vs := [Value.int .i64 x.k, Value.int .i64 x.t, Value.int .i64 x.f, Value.int .i64 x.l, Value.slice x.A x.m x.c]) (by simp []) (Row.all (i := 0) (ent := ⟨g1, 40, [Value.int .i64 x.k, Value.int .i64 x.t, Value.int .i64 x.f, Value.int .i64 x.l, Value.slice x.A x.m x.c], 5⟩) rfl rfl rfl)) ?_
  refine TL.call0 (Wants.none rfl) rfl enters28 rfl rfl (v := .agg ([Value.int .i64 x.t, Value.int .i64 (lenV x.k x.l x.m)]).toArray) (fun w hs => rtarget_c x.k x.t x.f x.l x.A x.m x.c w) ?_
  refine TL.gets (Wants.none rfl) rfl (Gets.move rfl rfl) ?_
  refine TL.call0 (Wants.none rfl) rfl enters68 rfl rfl (v := .bool (decide (hasB (x.t, lenV x.k x.l x.m) p))) (fun w hs => rHas_c x.t (lenV x.k x.l x.m) p (by omega) w) ?_
  refine TL.gets (Wants.none rfl) rfl (Gets.assign rfl rfl) ?_
  refine TL.nil ?_
  refine TE.then ?_
  refine TC.ret ?_
  exact TE.ret1 rfl rfl (fun w hs => ⟨dec_iff (Iff.rfl), (hs.drop (by assumption))⟩)

set_option maxRecDepth 100000 in
set_option maxHeartbeats 400000 in
theorem rfind_c (o n : Int) (H1 H2 : List Int) (hH1 : H1.length = 32) (hH2 : H2.length = 32) (A : Option Addr) (m c : Nat) (Cs : List CV) (p : Int) (hV : ∀ (i : Nat) (x : CV), Cs[i]? = some x → vld x.t (lenV x.k x.l x.m)) (hmm : m ≤ 1000000000) (hN : NumsC Cs) (w : World) (hC : SrcC w A m Cs)  : Calls Try.prog 44 #[.agg ([Value.int .i64 o, Value.int .i64 n] ++ (H1.map (Value.int .u8) ++ (H2.map (Value.int .u8) ++ ([Value.slice A m c])))).toArray, .int .i64 p] w fun e w' => e = .returned (.int .i64 (findI Cs p)) ∧ St w [] w' := by
  refine calls_from (args := [.agg ([Value.int .i64 o, Value.int .i64 n] ++ (H1.map (Value.int .u8) ++ (H2.map (Value.int .u8) ++ ([Value.slice A m c])))).toArray, .int .i64 p]) Try.func44 rfl Try.ntmps44 (by simp) ?_
  refine TC.sub (Sub.cons (i := 0) rfl (Sub.cons (i := 1) rfl (Sub.nil))) ?_
  refine TC.seq ?_
  refine TC.regionL ?_
  refine TL.box (Wants.none rfl) rfl rfl rfl (cs := [Value.int .i64 o, Value.int .i64 n] ++ (H1.map (Value.int .u8) ++ (H2.map (Value.int .u8) ++ ([Value.slice A m c])))) (by simp [Value.cells]) (tot := 67) (by simp [hH1, hH2]) (fun g1 hg1 => ?_)
  refine TL.gets (Wants.none rfl) rfl (Gets.assign rfl rfl) ?_
  refine TL.nil ?_
  refine TE.then ?_
  refine TC.seq ?_
  refine TC.seq ?_
  refine TC.regionL ?_
  refine TL.gets (Wants.none rfl) rfl (Gets.assign rfl rfl) ?_
  refine TL.nil ?_
  refine TE.then ?_
  refine TC.block ?_
  refine TC.loop (ι := Nat) (fun i => [(1, .int .i64 p), (2, .pointer (some ⟨g1, 0, none⟩)), (5, .int .i64 (i : Int))]) (fun i => [⟨g1, 25, [Value.int .i64 o, Value.int .i64 n] ++ (H1.map (Value.int .u8) ++ (H2.map (Value.int .u8) ++ ([Value.slice A m c]))), 67⟩]) (fun i => m - i) (fun i => i ≤ m ∧ ∀ (j : Nat) (y : CV), j < i → Cs[j]? = some y → ¬ hasB (tg y) p) 0 ⟨Nat.zero_le _, fun j y h => absurd h (Nat.not_lt_zero j)⟩ (Sub.int (i := 1) rfl (by first | rfl | omega) (Sub.cons (i := 2) rfl (Sub.int (i := 5) rfl (by first | omega | rfl) (Sub.nil)))) (fun w h => h) (fun i hC0 => ?_)
  obtain ⟨hC0, hC1⟩ := hC0
  refine TC.seq ?_
  refine TC.seq ?_
  refine TC.regionL ?_
  refine TL.gets (Wants.none rfl) rfl (Gets.move rfl rfl) ?_
  refine TL.gets (Wants.none rfl) rfl (Gets.fieldAddr rfl Try.underlying25 rfl size23 rfl (off' := 66) (by first | rfl | omega)) ?_
  refine TL.gets (Wants.none rfl) rfl (Gets.load1 rfl agg23 rfl (At.ent (i := 0) (ent := ⟨g1, 25, [Value.int .i64 o, Value.int .i64 n] ++ (H1.map (Value.int .u8) ++ (H2.map (Value.int .u8) ++ ([Value.slice A m c]))), 67⟩) (off := 66) rfl rfl (by exact app_right (a := 2) (i := 64) (rfl) (app_right (a := 32) (i := 32) (ints_len hH1) (app_right (a := 32) (i := 0) (ints_len hH2) (rfl)))))) ?_
  refine TL.gets (Wants.none rfl) rfl (Gets.lenSlice rfl Try.underlying23 rfl) ?_
  refine TL.gets (Wants.none rfl) rfl (Gets.lss rfl rfl rfl) ?_
  refine TL.nil ?_
  refine TE.then ?_
  refine TC.split rfl (fun hq0 => ?_) (fun hq0 => ?_)
  · obtain ⟨b, off, hAe, hb, hrw⟩ := hC.some_ (i := i) (by omega)
    subst hAe
    obtain ⟨x, hx⟩ := hC.get (i := i) (by omega)
    have hnx := hN i x hx
    unfold NumC at hnx
    have hlbx := lenV_bd (k := x.k) (l := x.l) (m := x.m) (by omega) (by omega)
    have hvx := hV i x hx
    unfold vld at hvx
    refine TC.skip ?_
    refine TE.then ?_
    refine TC.seq ?_
    refine TC.block ?_
    refine TC.seq ?_
    refine TC.regionL ?_
    refine TL.gets (Wants.none rfl) rfl (Gets.fieldAddr rfl Try.underlying25 rfl size23 rfl (off' := 66) (by first | rfl | omega)) ?_
    refine TL.gets (Wants.none rfl) rfl (Gets.load1 rfl agg23 rfl (At.ent (i := 0) (ent := ⟨g1, 25, [Value.int .i64 o, Value.int .i64 n] ++ (H1.map (Value.int .u8) ++ (H2.map (Value.int .u8) ++ ([Value.slice (some ⟨b, off, none⟩) m c]))), 67⟩) (off := 66) rfl rfl (by exact app_right (a := 2) (i := 64) (rfl) (app_right (a := 32) (i := 32) (ints_len hH1) (app_right (a := 32) (i := 0) (ints_len hH2) (rfl)))))) ?_
    refine TL.gets (Wants.none rfl) rfl (Gets.move rfl rfl) ?_
    refine TL.gets (Wants.none rfl) rfl (Gets.idxSlice rfl Try.underlying23 size40 rfl rfl (i := i) (by omega) (by omega) (off' := (off + 5 * i)) (by omega)) ?_
    refine TL.gets (Wants.none rfl) rfl (Gets.loadN rfl agg40 size40 rfl rfl (Row.old (fun jj u h => hrw i x hx jj u h) hb (ne_cons (by show g1 ≠ b; omega) ne_nil))) ?_
    refine TL.gets (Wants.none rfl) rfl (Gets.move rfl rfl) ?_
    refine TL.call0 (Wants.none rfl) rfl enters62 rfl rfl (v := .bool (decide (hasB (tg x) p))) (fun w hs => rhas_c x p (by omega) w) ?_
    refine TL.nil ?_
    refine TE.then ?_
    refine TC.sub (Sub.cons (i := 1) rfl (Sub.cons (i := 2) rfl (Sub.cons (i := 5) rfl (Sub.cons (i := 19) rfl (Sub.nil))))) ?_
    refine TC.split rfl (fun hq1 => ?_) (fun hq1 => ?_)
    · refine TC.seq ?_
      refine TC.regionL ?_
      refine TL.gets (Wants.none rfl) rfl (Gets.move rfl rfl) ?_
      refine TL.gets (Wants.none rfl) rfl (Gets.assign rfl rfl) ?_
      refine TL.nil ?_
      refine TE.then ?_
      refine TC.ret ?_
      refine TE.blockR ?_
      refine TE.thenR ?_
      refine TE.thenR ?_
      refine TE.blockR ?_
      refine TE.thenR ?_
      exact TE.ret1 rfl rfl (fun w hs => ⟨ret_i ((findI_is (.inr ⟨i, x, rfl, hx, hq1, hC1⟩)).symm), (hs.drop (by assumption))⟩)
    · refine TC.skip ?_
      refine TE.blockN ?_
      refine TE.then ?_
      refine TC.regionL ?_
      refine TL.gets (Wants.none rfl) rfl (Gets.move rfl rfl) ?_
      refine TL.gets (Wants.none rfl) rfl (Gets.add rfl rfl rfl (r := ((i : Int) + 1)) (w64 (by omega) (by omega))) ?_
      refine TL.gets (Wants.none rfl) rfl (Gets.assign rfl rfl) ?_
      refine TL.nil ?_
      exact TE.back (i + 1) (by omega) ⟨by omega, all_succ hC1 hx hq1⟩ (Sub.int (i := 1) rfl (by first | rfl | omega) (Sub.cons (i := 2) rfl (Sub.int (i := 5) rfl (by first | omega | rfl) (Sub.nil)))) (fun w h => h)
  · refine TC.exit ?_
    refine TE.thenX ?_
    refine TE.thenX ?_
    refine TE.blockX ?_
    refine TE.then ?_
    refine TC.seq ?_
    refine TC.regionL ?_
    refine TL.gets (Wants.none rfl) rfl (Gets.assign rfl rfl) ?_
    refine TL.nil ?_
    refine TE.then ?_
    refine TC.ret ?_
    exact TE.ret1 rfl rfl (fun w hs => ⟨ret_i ((findI_is (.inl ⟨rfl, all_of (m := m) (by have := hC.1; omega) (fun j y hj => hC1 j y (by omega))⟩)).symm), (hs.drop (by assumption))⟩)
end Go.Proofs.Ytkgamkjdkapchaa
