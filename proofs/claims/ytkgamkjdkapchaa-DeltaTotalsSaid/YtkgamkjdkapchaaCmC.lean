/-
  Contracts of package command: Target, Source, Overlaps, contains.
-/
import Derived.Test.YtkgamkjdkapchaaCmB
namespace Go.Proofs.Ytkgamkjdkapchaa
set_option linter.unusedVariables false
set_option linter.unusedSimpArgs false
open Go Go.RowKit
theorem enters42 : Enters Try.prog 42 := ⟨_, Try.func42, by kernel_rfl, by kernel_rfl⟩

theorem ifmax (p q : Int) : (if p < q then q else p) = max p q := by omega
theorem ifmin (p q : Int) : (if q < p then q else p) = min p q := by omega
def inside_ (o l p n : Int) : Prop := o ≤ p ∧ p + n ≤ o + l
instance (o l p n : Int) : Decidable (inside_ o l p n) := by unfold inside_; infer_instance
def meets (o l p n : Int) : Prop := max o p < min (o + l) (p + n)
instance (o l p n : Int) : Decidable (meets o l p n) := by unfold meets; infer_instance

set_option maxRecDepth 100000 in
set_option maxHeartbeats 400000 in
theorem target1 (t f l : Int) (A : Option Addr) (m c : Nat) (w : World) : Calls Try.prog 34 #[.agg ([Value.int .i64 1, Value.int .i64 t, Value.int .i64 f, Value.int .i64 l, Value.slice A m c]).toArray] w fun e w' => e = .returned (.agg ([Value.int .i64 t, Value.int .i64 l]).toArray) ∧ St w [] w' := by
  refine calls_from (args := [.agg ([Value.int .i64 1, Value.int .i64 t, Value.int .i64 f, Value.int .i64 l, Value.slice A m c]).toArray]) Try.func34 rfl Try.ntmps34 (by simp) ?_
  refine TC.sub (Sub.cons (i := 0) rfl (Sub.nil)) ?_
  refine TC.seq ?_
  refine TC.regionL ?_
  refine TL.box (Wants.none rfl) rfl rfl rfl (cs := [Value.int .i64 1, Value.int .i64 t, Value.int .i64 f, Value.int .i64 l, Value.slice A m c]) (by simp [Value.cells]) (tot := 5) (by simp []) (fun g1 hg1 => ?_)
  refine TL.alloc (Wants.none rfl) rfl rfl zero49 (cs := [Value.int .i64 0, Value.int .i64 0]) rfl (tot := 2) (by simp) (fun g2 hg2 => ?_)
  refine TL.nil ?_
  refine TE.then ?_
  refine TC.seq ?_
  refine TC.regionL ?_
  refine TL.gets (Wants.none rfl) rfl (Gets.loadN rfl agg40 size40 rfl (vs := [Value.int .i64 1, Value.int .i64 t, Value.int .i64 f, Value.int .i64 l, Value.slice A m c]) (by simp []) (Row.all (i := 1) (ent := ⟨g1, 40, [Value.int .i64 1, Value.int .i64 t, Value.int .i64 f, Value.int .i64 l, Value.slice A m c], 5⟩) rfl rfl rfl)) ?_
  refine TL.call0 (Wants.none rfl) rfl enters53 rfl rfl (v := .agg ([Value.int .i64 t, Value.int .i64 l, Value.int .i64 1, Value.int .i64 f, Value.int .i64 l, Value.bool (decide ((0 : Int) < (m : Int)))]).toArray) (fun w hs => describe1 t f l A m c w) ?_
  refine TL.gets (Wants.none rfl) rfl (Gets.fieldN rfl Try.underlying80 rfl rfl agg77 size77 (vs := [Value.int .i64 t, Value.int .i64 l]) rfl) ?_
  refine TL.call0 (Wants.none rfl) rfl enters54 rfl rfl (v := .agg ([Value.int .i64 t, Value.int .i64 l]).toArray) (fun w hs => bytes_c t l w) ?_
  refine TL.storeW (Wants.none rfl) rfl rfl size49 rfl (vs := [Value.int .i64 t, Value.int .i64 l]) rfl (by simp []) (by simp [Value.oneCell']) (i := 0) (ent := ⟨g2, 49, [Value.int .i64 0, Value.int .i64 0], 2⟩) rfl rfl (by simp []) (H' := [⟨g2, 49, [Value.int .i64 t, Value.int .i64 l], 2⟩, ⟨g1, 40, [Value.int .i64 1, Value.int .i64 t, Value.int .i64 f, Value.int .i64 l, Value.slice A m c], 5⟩]) rfl ?_
  refine TL.nil ?_
  refine TE.then ?_
  refine TC.ret ?_
  exact TE.retC rfl agg49 size49 rfl (vs := [Value.int .i64 t, Value.int .i64 l]) rfl (Row.all (i := 0) (ent := ⟨g2, 49, [Value.int .i64 t, Value.int .i64 l], 2⟩) rfl rfl rfl) (fun w hs => ⟨rfl, ((hs.drop (by assumption)).drop (by assumption))⟩)

set_option maxRecDepth 100000 in
set_option maxHeartbeats 400000 in
theorem source1 (t f l : Int) (A : Option Addr) (m c : Nat) (w : World) : Calls Try.prog 46 #[.agg ([Value.int .i64 1, Value.int .i64 t, Value.int .i64 f, Value.int .i64 l, Value.slice A m c]).toArray] w fun e w' => e = .returned (.tuple #[.agg ([Value.int .i64 f, Value.int .i64 l]).toArray, .bool true]) ∧ St w [] w' := by
  refine calls_from (args := [.agg ([Value.int .i64 1, Value.int .i64 t, Value.int .i64 f, Value.int .i64 l, Value.slice A m c]).toArray]) Try.func46 rfl Try.ntmps46 (by simp) ?_
  refine TC.sub (Sub.cons (i := 0) rfl (Sub.nil)) ?_
  refine TC.seq ?_
  refine TC.regionL ?_
  refine TL.box (Wants.none rfl) rfl rfl rfl (cs := [Value.int .i64 1, Value.int .i64 t, Value.int .i64 f, Value.int .i64 l, Value.slice A m c]) (by simp [Value.cells]) (tot := 5) (by simp []) (fun g1 hg1 => ?_)
  refine TL.alloc (Wants.none rfl) rfl rfl zero49 (cs := [Value.int .i64 0, Value.int .i64 0]) rfl (tot := 2) (by simp) (fun g2 hg2 => ?_)
  refine TL.gets (Wants.none rfl) rfl (Gets.assign rfl rfl) ?_
  refine TL.nil ?_
  refine TE.then ?_
  refine TC.seq ?_
  refine TC.regionL ?_
  refine TL.gets (Wants.none rfl) rfl (Gets.loadN rfl agg40 size40 rfl (vs := [Value.int .i64 1, Value.int .i64 t, Value.int .i64 f, Value.int .i64 l, Value.slice A m c]) (by simp []) (Row.all (i := 1) (ent := ⟨g1, 40, [Value.int .i64 1, Value.int .i64 t, Value.int .i64 f, Value.int .i64 l, Value.slice A m c], 5⟩) rfl rfl rfl)) ?_
  refine TL.call0 (Wants.none rfl) rfl enters53 rfl rfl (v := .agg ([Value.int .i64 t, Value.int .i64 l, Value.int .i64 1, Value.int .i64 f, Value.int .i64 l, Value.bool (decide ((0 : Int) < (m : Int)))]).toArray) (fun w hs => describe1 t f l A m c w) ?_
  refine TL.alloc (Wants.none rfl) rfl rfl zero80 (cs := [Value.int .i64 0, Value.int .i64 0, Value.int .i64 0, Value.int .i64 0, Value.int .i64 0, Value.bool false]) rfl (tot := 6) (by simp) (fun g3 hg3 => ?_)
  refine TL.storeW (Wants.none rfl) rfl rfl size80 rfl (vs := [Value.int .i64 t, Value.int .i64 l, Value.int .i64 1, Value.int .i64 f, Value.int .i64 l, Value.bool (decide ((0 : Int) < (m : Int)))]) rfl (by simp []) (by simp [Value.oneCell']) (i := 0) (ent := ⟨g3, 80, [Value.int .i64 0, Value.int .i64 0, Value.int .i64 0, Value.int .i64 0, Value.int .i64 0, Value.bool false], 6⟩) rfl rfl (by simp []) (H' := [⟨g3, 80, [Value.int .i64 t, Value.int .i64 l, Value.int .i64 1, Value.int .i64 f, Value.int .i64 l, Value.bool (decide ((0 : Int) < (m : Int)))], 6⟩, ⟨g2, 49, [Value.int .i64 0, Value.int .i64 0], 2⟩, ⟨g1, 40, [Value.int .i64 1, Value.int .i64 t, Value.int .i64 f, Value.int .i64 l, Value.slice A m c], 5⟩]) rfl ?_
  refine TL.nil ?_
  refine TE.then ?_
  refine TC.seq ?_
  refine TC.mixS [⟨g3, 80, [Value.int .i64 t, Value.int .i64 l, Value.int .i64 1, Value.int .i64 f, Value.int .i64 l, Value.bool (decide ((0 : Int) < (m : Int)))], 6⟩, ⟨g1, 40, [Value.int .i64 1, Value.int .i64 t, Value.int .i64 f, Value.int .i64 l, Value.slice A m c], 5⟩] [⟨g2, 49, [Value.int .i64 0, Value.int .i64 0], 2⟩] (by kernel_rfl) [0, 1, 0, 1, 0, 4, 0] [0, 1, 2, 3, 4, 5, 6] [fun _ _ => True, fun _ _ => True, fun _ _ => True, fun _ _ => True, fun _ _ => True, fun _ _ => True, fun _ _ => True] (by kernel_rfl) (by kernel_rfl) (perm_pick (p := [0, 2, 1]) (by kernel_rfl) rfl) (Fresh.cons (by assumption) Fresh.nil) ?_
  refine TR.free (Wants.none rfl) rfl (fun _ => Gets.fieldAddr rfl Try.underlying80 rfl size49 rfl (off' := 3) (by first | rfl | omega)) ?_
  refine TR.gets (Wants.none rfl) rfl (fun Z hZ => Gets.loadN rfl agg49 size49 rfl (vs := [Value.int .i64 f, Value.int .i64 l]) rfl (Row.part (i := 0) (ent := ⟨g3, 80, [Value.int .i64 t, Value.int .i64 l, Value.int .i64 1, Value.int .i64 f, Value.int .i64 l, Value.bool (decide ((0 : Int) < (m : Int)))], 6⟩) rfl rfl rfl)) ?_
  refine TR.free (Wants.none rfl) rfl (fun _ => Gets.fieldAddr rfl Try.underlying80 rfl size78 rfl (off' := 2) (by first | rfl | omega)) ?_
  refine TR.gets (Wants.none rfl) rfl (fun Z hZ => Gets.load1 rfl agg78 rfl (At.ent (i := 0) (ent := ⟨g3, 80, [Value.int .i64 t, Value.int .i64 l, Value.int .i64 1, Value.int .i64 f, Value.int .i64 l, Value.bool (decide ((0 : Int) < (m : Int)))], 6⟩) (off := 2) rfl rfl (by exact rfl))) ?_
  refine TR.free (Wants.none rfl) rfl (fun _ => Gets.isTrue (Gets.eql rfl rfl rfl) rfl) ?_
  refine TR.storeW (Wants.none rfl) rfl rfl size49 rfl (vs := [Value.int .i64 f, Value.int .i64 l]) rfl rfl (by simp [Value.oneCell']) (i := 0) (ent := ⟨g2, 49, [Value.int .i64 0, Value.int .i64 0], 2⟩) rfl rfl rfl (D' := [⟨g2, 49, [Value.int .i64 f, Value.int .i64 l], 2⟩]) rfl (Fresh.cons (by assumption) Fresh.nil) ?_
  refine TR.free (Wants.none rfl) rfl (fun _ => Gets.assign rfl rfl) ?_
  refine TR.nil ?_
  refine TE.then ?_
  refine TC.ret ?_
  exact TE.ret2C rfl agg49 size49 rfl rfl (vs := [Value.int .i64 f, Value.int .i64 l]) rfl (Row.all (i := 2) (ent := ⟨g2, 49, [Value.int .i64 f, Value.int .i64 l], 2⟩) rfl rfl rfl) (fun w hs => ⟨rfl, (((hs.drop (by assumption)).drop (by assumption)).drop (by assumption))⟩)

set_option maxRecDepth 100000 in
set_option maxHeartbeats 400000 in
theorem target2 (t f l : Int) (A : Option Addr) (m c : Nat) (w : World) : Calls Try.prog 34 #[.agg ([Value.int .i64 2, Value.int .i64 t, Value.int .i64 f, Value.int .i64 l, Value.slice A m c]).toArray] w fun e w' => e = .returned (.agg ([Value.int .i64 t, Value.int .i64 (m : Int)]).toArray) ∧ St w [] w' := by
  refine calls_from (args := [.agg ([Value.int .i64 2, Value.int .i64 t, Value.int .i64 f, Value.int .i64 l, Value.slice A m c]).toArray]) Try.func34 rfl Try.ntmps34 (by simp) ?_
  refine TC.sub (Sub.cons (i := 0) rfl (Sub.nil)) ?_
  refine TC.seq ?_
  refine TC.regionL ?_
  refine TL.box (Wants.none rfl) rfl rfl rfl (cs := [Value.int .i64 2, Value.int .i64 t, Value.int .i64 f, Value.int .i64 l, Value.slice A m c]) (by simp [Value.cells]) (tot := 5) (by simp []) (fun g1 hg1 => ?_)
  refine TL.alloc (Wants.none rfl) rfl rfl zero49 (cs := [Value.int .i64 0, Value.int .i64 0]) rfl (tot := 2) (by simp) (fun g2 hg2 => ?_)
  refine TL.nil ?_
  refine TE.then ?_
  refine TC.seq ?_
  refine TC.regionL ?_
  refine TL.gets (Wants.none rfl) rfl (Gets.loadN rfl agg40 size40 rfl (vs := [Value.int .i64 2, Value.int .i64 t, Value.int .i64 f, Value.int .i64 l, Value.slice A m c]) (by simp []) (Row.all (i := 1) (ent := ⟨g1, 40, [Value.int .i64 2, Value.int .i64 t, Value.int .i64 f, Value.int .i64 l, Value.slice A m c], 5⟩) rfl rfl rfl)) ?_
  refine TL.call0 (Wants.none rfl) rfl enters53 rfl rfl (v := .agg ([Value.int .i64 t, Value.int .i64 (m : Int), Value.int .i64 2, Value.int .i64 0, Value.int .i64 0, Value.bool (decide (¬ (f = 0 ∧ l = 0)))]).toArray) (fun w hs => describe2 t f l A m c w) ?_
  refine TL.gets (Wants.none rfl) rfl (Gets.fieldN rfl Try.underlying80 rfl rfl agg77 size77 (vs := [Value.int .i64 t, Value.int .i64 (m : Int)]) rfl) ?_
  refine TL.call0 (Wants.none rfl) rfl enters54 rfl rfl (v := .agg ([Value.int .i64 t, Value.int .i64 (m : Int)]).toArray) (fun w hs => bytes_c t (m : Int) w) ?_
  refine TL.storeW (Wants.none rfl) rfl rfl size49 rfl (vs := [Value.int .i64 t, Value.int .i64 (m : Int)]) rfl (by simp []) (by simp [Value.oneCell']) (i := 0) (ent := ⟨g2, 49, [Value.int .i64 0, Value.int .i64 0], 2⟩) rfl rfl (by simp []) (H' := [⟨g2, 49, [Value.int .i64 t, Value.int .i64 (m : Int)], 2⟩, ⟨g1, 40, [Value.int .i64 2, Value.int .i64 t, Value.int .i64 f, Value.int .i64 l, Value.slice A m c], 5⟩]) rfl ?_
  refine TL.nil ?_
  refine TE.then ?_
  refine TC.ret ?_
  exact TE.retC rfl agg49 size49 rfl (vs := [Value.int .i64 t, Value.int .i64 (m : Int)]) rfl (Row.all (i := 0) (ent := ⟨g2, 49, [Value.int .i64 t, Value.int .i64 (m : Int)], 2⟩) rfl rfl rfl) (fun w hs => ⟨rfl, ((hs.drop (by assumption)).drop (by assumption))⟩)

set_option maxRecDepth 100000 in
set_option maxHeartbeats 400000 in
theorem source2 (t f l : Int) (A : Option Addr) (m c : Nat) (w : World) : Calls Try.prog 46 #[.agg ([Value.int .i64 2, Value.int .i64 t, Value.int .i64 f, Value.int .i64 l, Value.slice A m c]).toArray] w fun e w' => e = .returned (.tuple #[.agg ([Value.int .i64 0, Value.int .i64 0]).toArray, .bool false]) ∧ St w [] w' := by
  refine calls_from (args := [.agg ([Value.int .i64 2, Value.int .i64 t, Value.int .i64 f, Value.int .i64 l, Value.slice A m c]).toArray]) Try.func46 rfl Try.ntmps46 (by simp) ?_
  refine TC.sub (Sub.cons (i := 0) rfl (Sub.nil)) ?_
  refine TC.seq ?_
  refine TC.regionL ?_
  refine TL.box (Wants.none rfl) rfl rfl rfl (cs := [Value.int .i64 2, Value.int .i64 t, Value.int .i64 f, Value.int .i64 l, Value.slice A m c]) (by simp [Value.cells]) (tot := 5) (by simp []) (fun g1 hg1 => ?_)
  refine TL.alloc (Wants.none rfl) rfl rfl zero49 (cs := [Value.int .i64 0, Value.int .i64 0]) rfl (tot := 2) (by simp) (fun g2 hg2 => ?_)
  refine TL.gets (Wants.none rfl) rfl (Gets.assign rfl rfl) ?_
  refine TL.nil ?_
  refine TE.then ?_
  refine TC.seq ?_
  refine TC.regionL ?_
  refine TL.gets (Wants.none rfl) rfl (Gets.loadN rfl agg40 size40 rfl (vs := [Value.int .i64 2, Value.int .i64 t, Value.int .i64 f, Value.int .i64 l, Value.slice A m c]) (by simp []) (Row.all (i := 1) (ent := ⟨g1, 40, [Value.int .i64 2, Value.int .i64 t, Value.int .i64 f, Value.int .i64 l, Value.slice A m c], 5⟩) rfl rfl rfl)) ?_
  refine TL.call0 (Wants.none rfl) rfl enters53 rfl rfl (v := .agg ([Value.int .i64 t, Value.int .i64 (m : Int), Value.int .i64 2, Value.int .i64 0, Value.int .i64 0, Value.bool (decide (¬ (f = 0 ∧ l = 0)))]).toArray) (fun w hs => describe2 t f l A m c w) ?_
  refine TL.alloc (Wants.none rfl) rfl rfl zero80 (cs := [Value.int .i64 0, Value.int .i64 0, Value.int .i64 0, Value.int .i64 0, Value.int .i64 0, Value.bool false]) rfl (tot := 6) (by simp) (fun g3 hg3 => ?_)
  refine TL.storeW (Wants.none rfl) rfl rfl size80 rfl (vs := [Value.int .i64 t, Value.int .i64 (m : Int), Value.int .i64 2, Value.int .i64 0, Value.int .i64 0, Value.bool (decide (¬ (f = 0 ∧ l = 0)))]) rfl (by simp []) (by simp [Value.oneCell']) (i := 0) (ent := ⟨g3, 80, [Value.int .i64 0, Value.int .i64 0, Value.int .i64 0, Value.int .i64 0, Value.int .i64 0, Value.bool false], 6⟩) rfl rfl (by simp []) (H' := [⟨g3, 80, [Value.int .i64 t, Value.int .i64 (m : Int), Value.int .i64 2, Value.int .i64 0, Value.int .i64 0, Value.bool (decide (¬ (f = 0 ∧ l = 0)))], 6⟩, ⟨g2, 49, [Value.int .i64 0, Value.int .i64 0], 2⟩, ⟨g1, 40, [Value.int .i64 2, Value.int .i64 t, Value.int .i64 f, Value.int .i64 l, Value.slice A m c], 5⟩]) rfl ?_
  refine TL.nil ?_
  refine TE.then ?_
  refine TC.seq ?_
  refine TC.mixS [⟨g3, 80, [Value.int .i64 t, Value.int .i64 (m : Int), Value.int .i64 2, Value.int .i64 0, Value.int .i64 0, Value.bool (decide (¬ (f = 0 ∧ l = 0)))], 6⟩, ⟨g1, 40, [Value.int .i64 2, Value.int .i64 t, Value.int .i64 f, Value.int .i64 l, Value.slice A m c], 5⟩] [⟨g2, 49, [Value.int .i64 0, Value.int .i64 0], 2⟩] (by kernel_rfl) [0, 1, 0, 1, 0, 4, 0] [0, 1, 2, 3, 4, 5, 6] [fun _ _ => True, fun _ _ => True, fun _ _ => True, fun _ _ => True, fun _ _ => True, fun _ _ => True, fun _ _ => True] (by kernel_rfl) (by kernel_rfl) (perm_pick (p := [0, 2, 1]) (by kernel_rfl) rfl) (Fresh.cons (by assumption) Fresh.nil) ?_
  refine TR.free (Wants.none rfl) rfl (fun _ => Gets.fieldAddr rfl Try.underlying80 rfl size49 rfl (off' := 3) (by first | rfl | omega)) ?_
  refine TR.gets (Wants.none rfl) rfl (fun Z hZ => Gets.loadN rfl agg49 size49 rfl (vs := [Value.int .i64 0, Value.int .i64 0]) rfl (Row.part (i := 0) (ent := ⟨g3, 80, [Value.int .i64 t, Value.int .i64 (m : Int), Value.int .i64 2, Value.int .i64 0, Value.int .i64 0, Value.bool (decide (¬ (f = 0 ∧ l = 0)))], 6⟩) rfl rfl rfl)) ?_
  refine TR.free (Wants.none rfl) rfl (fun _ => Gets.fieldAddr rfl Try.underlying80 rfl size78 rfl (off' := 2) (by first | rfl | omega)) ?_
  refine TR.gets (Wants.none rfl) rfl (fun Z hZ => Gets.load1 rfl agg78 rfl (At.ent (i := 0) (ent := ⟨g3, 80, [Value.int .i64 t, Value.int .i64 (m : Int), Value.int .i64 2, Value.int .i64 0, Value.int .i64 0, Value.bool (decide (¬ (f = 0 ∧ l = 0)))], 6⟩) (off := 2) rfl rfl (by exact rfl))) ?_
  refine TR.free (Wants.none rfl) rfl (fun _ => Gets.isFalse (Gets.eql rfl rfl rfl) (by decide)) ?_
  refine TR.storeW (Wants.none rfl) rfl rfl size49 rfl (vs := [Value.int .i64 0, Value.int .i64 0]) rfl rfl (by simp [Value.oneCell']) (i := 0) (ent := ⟨g2, 49, [Value.int .i64 0, Value.int .i64 0], 2⟩) rfl rfl rfl (D' := [⟨g2, 49, [Value.int .i64 0, Value.int .i64 0], 2⟩]) rfl (Fresh.cons (by assumption) Fresh.nil) ?_
  refine TR.free (Wants.none rfl) rfl (fun _ => Gets.assign rfl rfl) ?_
  refine TR.nil ?_
  refine TE.then ?_
  refine TC.ret ?_
  exact TE.ret2C rfl agg49 size49 rfl rfl (vs := [Value.int .i64 0, Value.int .i64 0]) rfl (Row.all (i := 2) (ent := ⟨g2, 49, [Value.int .i64 0, Value.int .i64 0], 2⟩) rfl rfl rfl) (fun w hs => ⟨rfl, (((hs.drop (by assumption)).drop (by assumption)).drop (by assumption))⟩)

set_option maxRecDepth 100000 in
set_option maxHeartbeats 400000 in
theorem contains1 {w : World} (o l p n : Int) (ho : -9223372036854775808 ≤ o + l ∧ o + l ≤ 9223372036854775807) (hp : -9223372036854775808 ≤ p + n ∧ p + n ≤ 9223372036854775807) (b : Nat) (hb : b < w.heap.size) (hrow : ∀ (j : Nat) (u : Value), [Value.int .i64 p, Value.int .i64 n][j]? = some u → w.cell? ⟨b, 0 + j, none⟩ = some u) : Calls Try.prog 47 #[.agg ([Value.int .i64 o, Value.int .i64 l]).toArray, .slice (some ⟨b, 0, none⟩) 1 1] w fun e w' => e = .returned (.bool (decide (inside_ o l p n))) ∧ St w [] w' := by
  refine calls_from (args := [.agg ([Value.int .i64 o, Value.int .i64 l]).toArray, .slice (some ⟨b, 0, none⟩) 1 1]) Try.func47 rfl Try.ntmps47 (by simp) ?_
  refine TC.sub (Sub.cons (i := 0) rfl (Sub.cons (i := 1) rfl (Sub.nil))) ?_
  refine TC.seq ?_
  refine TC.regionL ?_
  refine TL.box (Wants.none rfl) rfl rfl rfl (cs := [Value.int .i64 o, Value.int .i64 l]) (by simp [Value.cells]) (tot := 2) (by simp []) (fun g1 hg1 => ?_)
  refine TL.gets (Wants.none rfl) rfl (Gets.assign rfl rfl) ?_
  refine TL.nil ?_
  refine TE.then ?_
  refine TC.seq ?_
  refine TC.seq ?_
  refine TC.regionL ?_
  refine TL.gets (Wants.none rfl) rfl (Gets.move rfl rfl) ?_
  refine TL.gets (Wants.none rfl) rfl (Gets.lenSlice rfl Try.underlying89 rfl) ?_
  refine TL.gets (Wants.none rfl) rfl (Gets.move rfl rfl) ?_
  refine TL.nil ?_
  refine TE.then ?_
  refine TC.block ?_
  refine TC.loop (ι := Nat) (fun i => [(2, .pointer (some ⟨g1, 0, none⟩)), (7, .slice (some ⟨b, 0, none⟩) 1 1), (8, .int .i64 1), (9, .int .i64 (i : Int))]) (fun i => [⟨g1, 49, [Value.int .i64 o, Value.int .i64 l], 2⟩]) (fun i => 1 - i) (fun i => i ≤ 1 ∧ (i = 1 → inside_ o l p n)) 0 ⟨by omega, by intro h; cases h⟩ (Sub.cons (i := 2) rfl (Sub.slice (i := 7) rfl rfl (by first | omega | (dsimp only; omega) | rfl) (by first | omega | (dsimp only; omega) | rfl) (Sub.int (i := 8) rfl (by first | omega | rfl) (Sub.int (i := 9) rfl (by first | omega | rfl) (Sub.nil))))) (fun w h => h) (fun i hC0 => ?_)
  obtain ⟨hC0, hC1⟩ := hC0
  refine TC.seq ?_
  refine TC.regionL ?_
  refine TL.gets (Wants.none rfl) rfl (Gets.lss rfl rfl rfl) ?_
  refine TL.nil ?_
  refine TE.then ?_
  refine TC.seq ?_
  refine TC.split rfl (fun hq0 => ?_) (fun hq0 => ?_)
  · obtain rfl : i = 0 := by omega
    refine TC.skip ?_
    refine TE.then ?_
    refine TC.seq ?_
    refine TC.block ?_
    refine TC.seq ?_
    refine TC.regionL ?_
    refine TL.gets (Wants.none rfl) rfl (Gets.idxSlice rfl Try.underlying89 size49 rfl rfl (i := 0) (by rfl) (by omega) (off' := 0) (by omega)) ?_
    refine TL.gets (Wants.none rfl) rfl (Gets.loadN rfl agg49 size49 rfl rfl (Row.old hrow hb (ne_cons (by show g1 ≠ b; omega) ne_nil))) ?_
    refine TL.alloc (Wants.none rfl) rfl rfl zero49 (cs := [Value.int .i64 0, Value.int .i64 0]) rfl (tot := 2) (by simp) (fun g2 hg2 => ?_)
    refine TL.storeW (Wants.none rfl) rfl rfl size49 rfl (vs := [Value.int .i64 p, Value.int .i64 n]) rfl (by simp []) (by simp [Value.oneCell']) (i := 0) (ent := ⟨g2, 49, [Value.int .i64 0, Value.int .i64 0], 2⟩) rfl rfl (by simp []) (H' := [⟨g2, 49, [Value.int .i64 p, Value.int .i64 n], 2⟩, ⟨g1, 49, [Value.int .i64 o, Value.int .i64 l], 2⟩]) rfl ?_
    refine TL.nil ?_
    refine TE.then ?_
    refine TC.seq ?_
    refine TC.mix (by kernel_rfl) [0, 1, 0, 1, 0, 0, 1, 1, 1, 1, 0, 0] rfl (by kernel_rfl) ?_
    refine TM.free (Wants.none rfl) rfl (fun _ => Gets.fieldAddr rfl Try.underlying49 rfl size3 rfl (off' := 0) (by first | rfl | omega)) ?_
    refine TM.gets (Wants.none rfl) rfl (Gets.load1 rfl agg3 rfl (At.ent (i := 0) (ent := ⟨g2, 49, [Value.int .i64 p, Value.int .i64 n], 2⟩) (off := 0) rfl rfl (by exact rfl))) ?_
    refine TM.free (Wants.none rfl) rfl (fun _ => Gets.fieldAddr rfl Try.underlying49 rfl size3 rfl (off' := 0) (by first | rfl | omega)) ?_
    refine TM.gets (Wants.none rfl) rfl (Gets.load1 rfl agg3 rfl (At.ent (i := 1) (ent := ⟨g1, 49, [Value.int .i64 o, Value.int .i64 l], 2⟩) (off := 0) rfl rfl (by exact rfl))) ?_
    by_cases c1 : p < o
    · refine TM.free (Wants.none rfl) rfl (fun _ => Gets.isTrue (Gets.lss rfl rfl rfl) c1) ?_
      refine TM.free (Wants.none rfl) rfl (fun _ => Gets.move rfl rfl) ?_
      refine TM.pass1 rfl rfl rfl rfl rfl ?_
      refine TM.pass1 rfl rfl rfl rfl rfl ?_
      refine TM.pass1 rfl rfl rfl rfl rfl ?_
      refine TM.pass1 rfl rfl rfl rfl rfl ?_
      refine TM.pass rfl rfl rfl rfl rfl ?_
      refine TM.free (Wants.none rfl) rfl (fun _ => Gets.pickT rfl rfl rfl) ?_
      refine TM.nil ?_
      refine TE.then ?_
      refine TC.sub (Sub.cons (i := 2) rfl (Sub.cons (i := 7) rfl (Sub.cons (i := 8) rfl (Sub.cons (i := 9) rfl (Sub.cons (i := 24) rfl (Sub.nil)))))) ?_
      refine TC.yes rfl ?_
      refine TC.seq ?_
      refine TC.regionL ?_
      refine TL.gets (Wants.none rfl) rfl (Gets.assign rfl rfl) ?_
      refine TL.nil ?_
      refine TE.then ?_
      refine TC.ret ?_
      refine TE.blockR ?_
      refine TE.thenR ?_
      refine TE.thenR ?_
      refine TE.blockR ?_
      refine TE.thenR ?_
      exact TE.ret1 rfl rfl (fun w hs => ⟨dec_f (by unfold inside_ at *; omega), ((hs.drop (by assumption)).drop (by assumption))⟩)
    · refine TM.free (Wants.none rfl) rfl (fun _ => Gets.isFalse (Gets.lss rfl rfl rfl) c1) ?_
      refine TM.free (Wants.none rfl) rfl (fun _ => Gets.move rfl rfl) ?_
      refine TM.gets (Wants.yes rfl rfl rfl) rfl (Gets.loadN rfl agg49 size49 rfl (vs := [Value.int .i64 p, Value.int .i64 n]) (by simp []) (Row.all (i := 0) (ent := ⟨g2, 49, [Value.int .i64 p, Value.int .i64 n], 2⟩) rfl rfl rfl)) ?_
      refine TM.call0 (Wants.yes rfl rfl rfl) rfl enters42 rfl rfl (v := .int .i64 (p + n)) (fun w hs => end_c p n (by omega) w) ?_
      refine TM.gets (Wants.yes rfl rfl rfl) rfl (Gets.loadN rfl agg49 size49 rfl (vs := [Value.int .i64 o, Value.int .i64 l]) (by simp []) (Row.all (i := 1) (ent := ⟨g1, 49, [Value.int .i64 o, Value.int .i64 l], 2⟩) rfl rfl rfl)) ?_
      refine TM.call0 (Wants.yes rfl rfl rfl) rfl enters42 rfl rfl (v := .int .i64 (o + l)) (fun w hs => end_c o l (by omega) w) ?_
      by_cases c2 : (o + l) < (p + n)
      · refine TM.free (Wants.yes rfl rfl rfl) rfl (fun _ => Gets.isTrue (Gets.gtr rfl rfl rfl) c2) ?_
        refine TM.free (Wants.none rfl) rfl (fun _ => Gets.pickF rfl rfl rfl) ?_
        refine TM.nil ?_
        refine TE.then ?_
        refine TC.sub (Sub.cons (i := 2) rfl (Sub.cons (i := 7) rfl (Sub.cons (i := 8) rfl (Sub.cons (i := 9) rfl (Sub.cons (i := 24) rfl (Sub.nil)))))) ?_
        refine TC.yes rfl ?_
        refine TC.seq ?_
        refine TC.regionL ?_
        refine TL.gets (Wants.none rfl) rfl (Gets.assign rfl rfl) ?_
        refine TL.nil ?_
        refine TE.then ?_
        refine TC.ret ?_
        refine TE.blockR ?_
        refine TE.thenR ?_
        refine TE.thenR ?_
        refine TE.blockR ?_
        refine TE.thenR ?_
        exact TE.ret1 rfl rfl (fun w hs => ⟨dec_f (by unfold inside_ at *; omega), ((hs.drop (by assumption)).drop (by assumption))⟩)
      · refine TM.free (Wants.yes rfl rfl rfl) rfl (fun _ => Gets.isFalse (Gets.gtr rfl rfl rfl) c2) ?_
        refine TM.free (Wants.none rfl) rfl (fun _ => Gets.pickF rfl rfl rfl) ?_
        refine TM.nil ?_
        refine TE.then ?_
        refine TC.sub (Sub.cons (i := 2) rfl (Sub.cons (i := 7) rfl (Sub.cons (i := 8) rfl (Sub.cons (i := 9) rfl (Sub.cons (i := 24) rfl (Sub.nil)))))) ?_
        refine TC.no rfl ?_
        refine TC.skip ?_
        refine TE.blockN ?_
        refine TE.then ?_
        refine TC.regionL ?_
        refine TL.gets (Wants.none rfl) rfl (Gets.add rfl rfl rfl (r := 1) (w64 (by omega) (by omega))) ?_
        refine TL.gets (Wants.none rfl) rfl (Gets.move rfl rfl) ?_
        refine TL.nil ?_
        exact TE.back 1 (by omega) ⟨Nat.le_refl _, fun _ => by unfold inside_; omega⟩ (Sub.cons (i := 2) rfl (Sub.slice (i := 7) rfl rfl (by first | omega | (dsimp only; omega) | rfl) (by first | omega | (dsimp only; omega) | rfl) (Sub.int (i := 8) rfl (by first | omega | rfl) (Sub.int (i := 9) rfl (by first | omega | rfl) (Sub.nil))))) (fun w h => h.drop (by assumption))
  · have hin := hC1 (by omega)
    refine TC.exit ?_
    refine TE.thenX ?_
    refine TE.thenX ?_
    refine TE.blockX ?_
    refine TE.then ?_
    refine TC.seq ?_
    refine TC.regionL ?_
    refine TL.gets (Wants.none rfl) rfl (Gets.assign rfl rfl) ?_
    refine TL.nil ?_
    refine TE.then ?_
    refine TC.ret ?_
    exact TE.ret1 rfl rfl (fun w hs => ⟨dec_t (by unfold inside_ at *; omega), (hs.drop (by assumption))⟩)


theorem lies_row0 {w : World} {g t tot : Nat} {vs : List Value} (h : Ent.lies ⟨g, t, vs, tot⟩ w) (j : Nat) (u : Value) (hu : vs[j]? = some u) : w.cell? ⟨g, 0 + j, none⟩ = some u := by
  have h2 : (vs ++ [])[j]? = some u := by simpa using hu
  rw [Nat.zero_add]
  exact h.cell hu
end Go.Proofs.Ytkgamkjdkapchaa
