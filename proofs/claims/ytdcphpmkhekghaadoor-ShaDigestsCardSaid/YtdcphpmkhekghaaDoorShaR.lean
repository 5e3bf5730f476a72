/-
  The reference: roots by bisection.
-/
import Derived.Test.YtdcphpmkhekghaaDoorShaQ
namespace Go.Proofs.YtdcphpmkhekghaaDoor
set_option linter.unusedVariables false
set_option linter.unusedSimpArgs false
open Go Go.RowKit
theorem enters41 : Enters Tryd.prog 41 := ⟨_, Tryd.func41, by kernel_rfl, by kernel_rfl⟩
theorem enters43 : Enters Tryd.prog 43 := ⟨_, Tryd.func43, by kernel_rfl, by kernel_rfl⟩
theorem enters44 : Enters Tryd.prog 44 := ⟨_, Tryd.func44, by kernel_rfl, by kernel_rfl⟩
theorem enters45 : Enters Tryd.prog 45 := ⟨_, Tryd.func45, by kernel_rfl, by kernel_rfl⟩
theorem enters46 : Enters Tryd.prog 46 := ⟨_, Tryd.func46, by kernel_rfl, by kernel_rfl⟩

theorem four_len (a b c d : Int) : ([a, b, c, d] : List Int).length = 4 := rfl
def wtimes (V : List Int) (q : Int) : List Int := (wplus (wscale V (andI .u64 q 65535) 4).1 (wshift (wscale V (shrI .u64 q 16) 4).1 4).1 4).1
theorem wtimes_len (V : List Int) (q : Int) : (wtimes V q).length = 4 := wplus_len _ _ 4
/-- The last word in which two numbers differ. -/
def lessF (A B : List Int) : Nat → Bool
  | 0 => true
  | k + 1 => if A.getD k 0 ≠ B.getD k 0 then decide (A.getD k 0 < B.getD k 0) else lessF A B k
def sqA (m : Int) : List Int := wtimes [andI .u64 m 4294967295, shrI .u64 m 32, 0, 0] m
theorem sqA_len (m : Int) : (sqA m).length = 4 := wtimes_len _ _

set_option maxRecDepth 100000 in
set_option maxHeartbeats 400000 in
theorem wtimes_c (V : List Int) (q : Int) (w : World) (hV : V.length = 4) : Calls Tryd.prog 43 #[.agg (V.map (Value.int .u64)).toArray, .int .u64 q] w fun e w' => e = .returned (.agg ((wtimes V q).map (Value.int .u64)).toArray) ∧ St w [] w' := by
  refine calls_from (args := [.agg (V.map (Value.int .u64)).toArray, .int .u64 q]) Tryd.func43 rfl Tryd.ntmps43 (by simp) ?_
  refine TC.sub (Sub.cons (i := 0) rfl (Sub.cons (i := 1) rfl (Sub.nil))) ?_
  refine TC.seq ?_
  refine TC.regionL ?_
  refine TL.box (Wants.none rfl) rfl rfl rfl (cs := V.map (Value.int .u64)) (by simp [Value.cells]) (tot := 4) (by simp [hV]) (fun g1 hg1 => ?_)
  refine TL.alloc (Wants.none rfl) rfl rfl zero72 (cs := [Value.int .u64 0, Value.int .u64 0, Value.int .u64 0, Value.int .u64 0]) rfl (tot := 4) (by simp) (fun g2 hg2 => ?_)
  refine TL.nil ?_
  refine TE.then ?_
  refine TC.seq ?_
  refine TC.regionL ?_
  refine TL.gets (Wants.none rfl) rfl (Gets.move rfl rfl) ?_
  refine TL.gets (Wants.none rfl) rfl (Gets.and rfl rfl rfl (r := (andI .u64 q 65535)) rfl) ?_
  refine TL.gets (Wants.none rfl) rfl (Gets.assign rfl rfl) ?_
  refine TL.nil ?_
  refine TE.then ?_
  refine TC.seq ?_
  refine TC.regionL ?_
  refine TL.gets (Wants.none rfl) rfl (Gets.move rfl rfl) ?_
  refine TL.gets (Wants.none rfl) rfl (Gets.shr rfl rfl rfl (by omega) (r := (shrI .u64 q 16)) rfl) ?_
  refine TL.gets (Wants.none rfl) rfl (Gets.assign rfl rfl) ?_
  refine TL.nil ?_
  refine TE.then ?_
  refine TC.sub (Sub.cons (i := 2) rfl (Sub.cons (i := 4) rfl (Sub.cons (i := 5) rfl (Sub.cons (i := 6) rfl (Sub.nil))))) ?_
  refine TC.seq ?_
  refine TC.draw (by kernel_rfl) ?_
  refine TF.seqL 8 (by kernel_rfl) ?_
  refine TS.gets (Wants.none rfl) rfl (Gets.loadN rfl agg72 size72 rfl (vs := V.map (Value.int .u64)) (by simp [hV]) (Row.all (i := 1) (ent := ⟨g1, 72, V.map (Value.int .u64), 4⟩) rfl rfl rfl)) ?_
  refine TS.gets (Wants.none rfl) rfl (Gets.move rfl rfl) ?_
  refine TS.call0 (Wants.none rfl) rfl enters45 rfl rfl (v := .agg ((wscale V (andI .u64 q 65535) 4).1.map (Value.int .u64)).toArray) (fun w hs => wscale_c V (andI .u64 q 65535) w hV) ?_
  refine TS.gets (Wants.none rfl) rfl (Gets.loadN rfl agg72 size72 rfl (vs := V.map (Value.int .u64)) (by simp [hV]) (Row.all (i := 1) (ent := ⟨g1, 72, V.map (Value.int .u64), 4⟩) rfl rfl rfl)) ?_
  refine TS.gets (Wants.none rfl) rfl (Gets.move rfl rfl) ?_
  refine TS.call0 (Wants.none rfl) rfl enters45 rfl rfl (v := .agg ((wscale V (shrI .u64 q 16) 4).1.map (Value.int .u64)).toArray) (fun w hs => wscale_c V (shrI .u64 q 16) w hV) ?_
  refine TS.call0 (Wants.none rfl) rfl enters46 rfl rfl (v := .agg ((wshift ((wscale V (shrI .u64 q 16) 4).1) 4).1.map (Value.int .u64)).toArray) (fun w hs => wshift_c ((wscale V (shrI .u64 q 16) 4).1) w (wscale_len V (shrI .u64 q 16) 4)) ?_
  refine TS.call0 (Wants.none rfl) rfl enters44 rfl rfl (v := .agg ((wplus ((wscale V (andI .u64 q 65535) 4).1) ((wshift ((wscale V (shrI .u64 q 16) 4).1) 4).1) 4).1.map (Value.int .u64)).toArray) (fun w hs => wplus_c ((wscale V (andI .u64 q 65535) 4).1) ((wshift ((wscale V (shrI .u64 q 16) 4).1) 4).1) w (wscale_len V (andI .u64 q 65535) 4) (wshift_len ((wscale V (shrI .u64 q 16) 4).1) 4)) ?_
  refine TS.done ?_
  refine TF.tailL (by kernel_rfl) ?_
  refine TL.storeW (Wants.none rfl) rfl rfl size72 rfl (vs := ((wplus ((wscale V (andI .u64 q 65535) 4).1) ((wshift ((wscale V (shrI .u64 q 16) 4).1) 4).1) 4).1).map (Value.int .u64)) rfl (by simp [(wplus_len ((wscale V (andI .u64 q 65535) 4).1) ((wshift ((wscale V (shrI .u64 q 16) 4).1) 4).1) 4)]) ints_one (i := 0) (ent := ⟨g2, 72, [Value.int .u64 0, Value.int .u64 0, Value.int .u64 0, Value.int .u64 0], 4⟩) rfl rfl (by simp []) (H' := [⟨g2, 72, ((wplus ((wscale V (andI .u64 q 65535) 4).1) ((wshift ((wscale V (shrI .u64 q 16) 4).1) 4).1) 4).1).map (Value.int .u64), 4⟩, ⟨g1, 72, V.map (Value.int .u64), 4⟩]) rfl ?_
  refine TL.nil ?_
  refine TE.then ?_
  refine TC.ret ?_
  exact TE.retC rfl agg72 size72 rfl (vs := ((wplus ((wscale V (andI .u64 q 65535) 4).1) ((wshift ((wscale V (shrI .u64 q 16) 4).1) 4).1) 4).1).map (Value.int .u64)) (by simp [(wplus_len ((wscale V (andI .u64 q 65535) 4).1) ((wshift ((wscale V (shrI .u64 q 16) 4).1) 4).1) 4)]) (Row.all (i := 0) (ent := ⟨g2, 72, ((wplus ((wscale V (andI .u64 q 65535) 4).1) ((wshift ((wscale V (shrI .u64 q 16) 4).1) 4).1) 4).1).map (Value.int .u64), 4⟩) rfl rfl rfl) (fun w hs => ⟨rfl, ((hs.drop (by assumption)).drop (by assumption))⟩)

attribute [irreducible] wtimes

set_option maxRecDepth 100000 in
set_option maxHeartbeats 400000 in
theorem least2_c (m n : Int) (w : World) : Calls Tryd.prog 41 #[.int .u64 m, .int .u64 n, .bool false] w fun e w' => e = .returned (.bool (lessF (sqA m) ([0, 0, n, 0] : List Int) 4)) ∧ St w [] w' := by
  refine calls_from (args := [.int .u64 m, .int .u64 n, .bool false]) Tryd.func41 rfl Tryd.ntmps41 (by simp) ?_
  refine TC.sub (Sub.cons (i := 0) rfl (Sub.cons (i := 1) rfl (Sub.cons (i := 2) rfl (Sub.nil)))) ?_
  refine TC.seq ?_
  refine TC.regionL ?_
  refine TL.gets (Wants.none rfl) rfl (Gets.assign rfl rfl) ?_
  refine TL.nil ?_
  refine TE.then ?_
  refine TC.seq ?_
  refine TC.regionL ?_
  refine TL.gets (Wants.none rfl) rfl (Gets.move rfl rfl) ?_
  refine TL.gets (Wants.none rfl) rfl (Gets.and rfl rfl rfl (r := (andI .u64 m 4294967295)) rfl) ?_
  refine TL.gets (Wants.none rfl) rfl (Gets.move rfl rfl) ?_
  refine TL.gets (Wants.none rfl) rfl (Gets.shr rfl rfl rfl (by omega) (r := (shrI .u64 m 32)) rfl) ?_
  refine TL.gets (Wants.none rfl) rfl (Gets.build rfl (vs := [(0, Value.int .u64 (andI .u64 m 4294967295)), (1, Value.int .u64 (shrI .u64 m 32)), (2, Value.int .u64 0), (3, Value.int .u64 0)]) rfl (fun w => by first | rfl | kernel_rfl) (v := .agg (([andI .u64 m 4294967295, shrI .u64 m 32, 0, 0] : List Int).map (Value.int .u64)).toArray)) ?_
  refine TL.gets (Wants.none rfl) rfl (Gets.move rfl rfl) ?_
  refine TL.call0 (Wants.none rfl) rfl enters43 rfl rfl (v := .agg ((sqA m).map (Value.int .u64)).toArray) (fun w hs => wtimes_c ([andI .u64 m 4294967295, shrI .u64 m 32, 0, 0] : List Int) m w (four_len _ _ _ _)) ?_
  refine TL.alloc (Wants.none rfl) rfl rfl zero72 (cs := [Value.int .u64 0, Value.int .u64 0, Value.int .u64 0, Value.int .u64 0]) rfl (tot := 4) (by simp) (fun g1 hg1 => ?_)
  refine TL.storeW (Wants.none rfl) rfl rfl size72 rfl (vs := (sqA m).map (Value.int .u64)) rfl (by simp [(sqA_len m)]) ints_one (i := 0) (ent := ⟨g1, 72, [Value.int .u64 0, Value.int .u64 0, Value.int .u64 0, Value.int .u64 0], 4⟩) rfl rfl (by simp []) (H' := [⟨g1, 72, (sqA m).map (Value.int .u64), 4⟩]) rfl ?_
  refine TL.nil ?_
  refine TE.then ?_
  refine TC.sub (Sub.cons (i := 0) rfl (Sub.cons (i := 1) rfl (Sub.cons (i := 2) rfl (Sub.cons (i := 6) rfl (Sub.cons (i := 7) rfl (Sub.nil)))))) ?_
  refine TC.seq ?_
  refine TC.regionL ?_
  refine TL.gets (Wants.none rfl) rfl (Gets.move rfl rfl) ?_
  refine TL.gets (Wants.none rfl) rfl (Gets.build rfl (vs := [(0, Value.int .u64 0), (1, Value.int .u64 0), (2, Value.int .u64 n), (3, Value.int .u64 0)]) rfl (fun w => by first | rfl | kernel_rfl) (v := .agg (([0, 0, n, 0] : List Int).map (Value.int .u64)).toArray)) ?_
  refine TL.alloc (Wants.none rfl) rfl rfl zero72 (cs := [Value.int .u64 0, Value.int .u64 0, Value.int .u64 0, Value.int .u64 0]) rfl (tot := 4) (by simp) (fun g2 hg2 => ?_)
  refine TL.storeW (Wants.none rfl) rfl rfl size72 rfl (vs := ([0, 0, n, 0] : List Int).map (Value.int .u64)) rfl (by simp [(four_len _ _ _ _)]) ints_one (i := 0) (ent := ⟨g2, 72, [Value.int .u64 0, Value.int .u64 0, Value.int .u64 0, Value.int .u64 0], 4⟩) rfl rfl (by simp []) (H' := [⟨g2, 72, ([0, 0, n, 0] : List Int).map (Value.int .u64), 4⟩, ⟨g1, 72, (sqA m).map (Value.int .u64), 4⟩]) rfl ?_
  refine TL.nil ?_
  refine TE.then ?_
  refine TC.seq ?_
  refine TC.seq ?_
  refine TC.regionL ?_
  refine TL.gets (Wants.none rfl) rfl (Gets.move rfl rfl) ?_
  refine TL.nil ?_
  refine TE.then ?_
  refine TC.sub (Sub.cons (i := 0) rfl (Sub.cons (i := 1) rfl (Sub.cons (i := 6) rfl (Sub.cons (i := 7) rfl (Sub.cons (i := 8) rfl (Sub.cons (i := 19) rfl (Sub.nil))))))) ?_
  refine TC.no rfl ?_
  refine TC.skip ?_
  refine TE.then ?_
  refine TC.seq ?_
  refine TC.seq ?_
  refine TC.regionL ?_
  refine TL.gets (Wants.none rfl) rfl (Gets.assign rfl rfl) ?_
  refine TL.nil ?_
  refine TE.then ?_
  refine TC.block ?_
  refine TC.loop (ι := Nat) (fun k => [(7, .pointer (some ⟨g1, 0, none⟩)), (8, .pointer (some ⟨g2, 0, none⟩)), (9, .int .i64 ((k : Int) - 1))]) (fun k => [⟨g2, 72, ([0, 0, n, 0] : List Int).map (Value.int .u64), 4⟩, ⟨g1, 72, (sqA m).map (Value.int .u64), 4⟩]) (fun k => k) (fun k => k ≤ 4 ∧ lessF (sqA m) ([0, 0, n, 0] : List Int) 4 = lessF (sqA m) ([0, 0, n, 0] : List Int) k) 4 ⟨Nat.le_refl _, rfl⟩ (Sub.cons (i := 7) rfl (Sub.cons (i := 8) rfl (Sub.int (i := 9) rfl (by first | omega | rfl) (Sub.nil)))) (fun w h => h) (fun k hC0 => ?_)
  refine TC.seq ?_
  refine TC.seq ?_
  refine TC.regionL ?_
  refine TL.gets (Wants.none rfl) rfl (Gets.move rfl rfl) ?_
  refine TL.gets (Wants.none rfl) rfl (Gets.geq rfl rfl rfl) ?_
  refine TL.nil ?_
  refine TE.then ?_
  refine TC.split rfl (fun hq0 => ?_) (fun hq0 => ?_)
  · obtain ⟨j, rfl⟩ : ∃ j, k = j + 1 := ⟨k - 1, by omega⟩
    refine TC.skip ?_
    refine TE.then ?_
    refine TC.seq ?_
    refine TC.block ?_
    refine TC.seq ?_
    refine TC.mix (by kernel_rfl) [0, 0, 1, 0, 0, 1, 0] rfl (by kernel_rfl) ?_
    refine TM.free (Wants.none rfl) rfl (fun _ => Gets.move rfl rfl) ?_
    refine TM.free (Wants.none rfl) rfl (fun _ => Gets.idxArray rfl Tryd.underlying72 size62 rfl rfl (i := j) (by omega) (by omega) (off' := j) (by omega)) ?_
    refine TM.gets (Wants.none rfl) rfl (Gets.load1 rfl agg62 rfl (At.ent (i := 1) (ent := ⟨g1, 72, (sqA m).map (Value.int .u64), 4⟩) (off := j) rfl rfl (by have := ints_get (kd := .u64) (W := (sqA m)) (i := j) (by rw [(sqA_len m)]; omega); (first | exact this | (refine Eq.trans ?_ this; congr 1; omega))))) ?_
    refine TM.free (Wants.none rfl) rfl (fun _ => Gets.move rfl rfl) ?_
    refine TM.free (Wants.none rfl) rfl (fun _ => Gets.idxArray rfl Tryd.underlying72 size62 rfl rfl (i := j) (by omega) (by omega) (off' := j) (by omega)) ?_
    refine TM.gets (Wants.none rfl) rfl (Gets.load1 rfl agg62 rfl (At.ent (i := 0) (ent := ⟨g2, 72, ([0, 0, n, 0] : List Int).map (Value.int .u64), 4⟩) (off := j) rfl rfl (by have := ints_get (kd := .u64) (W := ([0, 0, n, 0] : List Int)) (i := j) (by rw [(four_len _ _ _ _)]; omega); (first | exact this | (refine Eq.trans ?_ this; congr 1; omega))))) ?_
    refine TM.free (Wants.none rfl) rfl (fun _ => Gets.neq rfl rfl rfl) ?_
    refine TM.nil ?_
    refine TE.then ?_
    refine TC.sub (Sub.cons (i := 7) rfl (Sub.cons (i := 8) rfl (Sub.cons (i := 9) rfl (Sub.cons (i := 35) rfl (Sub.nil))))) ?_
    refine TC.split rfl (fun hq1 => ?_) (fun hq1 => ?_)
    · refine TC.seq ?_
      refine TC.mix (by kernel_rfl) [0, 0, 1, 0, 0, 1, 0, 0] rfl (by kernel_rfl) ?_
      refine TM.free (Wants.none rfl) rfl (fun _ => Gets.move rfl rfl) ?_
      refine TM.free (Wants.none rfl) rfl (fun _ => Gets.idxArray rfl Tryd.underlying72 size62 rfl rfl (i := j) (by omega) (by omega) (off' := j) (by omega)) ?_
      refine TM.gets (Wants.none rfl) rfl (Gets.load1 rfl agg62 rfl (At.ent (i := 1) (ent := ⟨g1, 72, (sqA m).map (Value.int .u64), 4⟩) (off := j) rfl rfl (by have := ints_get (kd := .u64) (W := (sqA m)) (i := j) (by rw [(sqA_len m)]; omega); (first | exact this | (refine Eq.trans ?_ this; congr 1; omega))))) ?_
      refine TM.free (Wants.none rfl) rfl (fun _ => Gets.move rfl rfl) ?_
      refine TM.free (Wants.none rfl) rfl (fun _ => Gets.idxArray rfl Tryd.underlying72 size62 rfl rfl (i := j) (by omega) (by omega) (off' := j) (by omega)) ?_
      refine TM.gets (Wants.none rfl) rfl (Gets.load1 rfl agg62 rfl (At.ent (i := 0) (ent := ⟨g2, 72, ([0, 0, n, 0] : List Int).map (Value.int .u64), 4⟩) (off := j) rfl rfl (by have := ints_get (kd := .u64) (W := ([0, 0, n, 0] : List Int)) (i := j) (by rw [(four_len _ _ _ _)]; omega); (first | exact this | (refine Eq.trans ?_ this; congr 1; omega))))) ?_
      refine TM.free (Wants.none rfl) rfl (fun _ => Gets.lss rfl rfl rfl) ?_
      refine TM.free (Wants.none rfl) rfl (fun _ => Gets.assign rfl rfl) ?_
      refine TM.nil ?_
      refine TE.then ?_
      refine TC.ret ?_
      refine TE.blockR ?_
      refine TE.thenR ?_
      refine TE.thenR ?_
      refine TE.blockR ?_
      refine TE.thenR ?_
      exact TE.ret1 rfl rfl (fun w hs => ⟨by rw [hC0.2, lessF, if_pos hq1], ((hs.drop (by assumption)).drop (by assumption))⟩)
    · refine TC.skip ?_
      refine TE.blockN ?_
      refine TE.then ?_
      refine TC.regionL ?_
      refine TL.gets (Wants.none rfl) rfl (Gets.move rfl rfl) ?_
      refine TL.gets (Wants.none rfl) rfl (Gets.sub rfl rfl rfl (r := ((j : Int) - 1)) (w64 (by omega) (by omega))) ?_
      refine TL.gets (Wants.none rfl) rfl (Gets.assign rfl rfl) ?_
      refine TL.nil ?_
      exact TE.back j (by omega) ⟨by omega, by rw [hC0.2, lessF, if_neg hq1]⟩ (Sub.cons (i := 7) rfl (Sub.cons (i := 8) rfl (Sub.int (i := 9) rfl (by first | omega | rfl) (Sub.nil)))) (fun w h => h)
  · obtain rfl : k = 0 := by omega
    refine TC.exit ?_
    refine TE.thenX ?_
    refine TE.thenX ?_
    refine TE.blockX ?_
    refine TE.then ?_
    refine TC.seq ?_
    refine TC.regionL ?_
    refine TL.gets (Wants.none rfl) rfl (Gets.assign rfl rfl) ?_
    refine TL.nil ?_
    refine TE.then ?_
    refine TC.ret ?_
    exact TE.ret1 rfl rfl (fun w hs => ⟨by rw [hC0.2]; rfl, ((hs.drop (by assumption)).drop (by assumption))⟩)

set_option maxRecDepth 100000 in
set_option maxHeartbeats 400000 in
theorem least3_c (m n : Int) (w : World) : Calls Tryd.prog 41 #[.int .u64 m, .int .u64 n, .bool true] w fun e w' => e = .returned (.bool (lessF (wtimes (sqA m) m) ([0, 0, 0, n] : List Int) 4)) ∧ St w [] w' := by
  refine calls_from (args := [.int .u64 m, .int .u64 n, .bool true]) Tryd.func41 rfl Tryd.ntmps41 (by simp) ?_
  refine TC.sub (Sub.cons (i := 0) rfl (Sub.cons (i := 1) rfl (Sub.cons (i := 2) rfl (Sub.nil)))) ?_
  refine TC.seq ?_
  refine TC.regionL ?_
  refine TL.gets (Wants.none rfl) rfl (Gets.assign rfl rfl) ?_
  refine TL.nil ?_
  refine TE.then ?_
  refine TC.seq ?_
  refine TC.regionL ?_
  refine TL.gets (Wants.none rfl) rfl (Gets.move rfl rfl) ?_
  refine TL.gets (Wants.none rfl) rfl (Gets.and rfl rfl rfl (r := (andI .u64 m 4294967295)) rfl) ?_
  refine TL.gets (Wants.none rfl) rfl (Gets.move rfl rfl) ?_
  refine TL.gets (Wants.none rfl) rfl (Gets.shr rfl rfl rfl (by omega) (r := (shrI .u64 m 32)) rfl) ?_
  refine TL.gets (Wants.none rfl) rfl (Gets.build rfl (vs := [(0, Value.int .u64 (andI .u64 m 4294967295)), (1, Value.int .u64 (shrI .u64 m 32)), (2, Value.int .u64 0), (3, Value.int .u64 0)]) rfl (fun w => by first | rfl | kernel_rfl) (v := .agg (([andI .u64 m 4294967295, shrI .u64 m 32, 0, 0] : List Int).map (Value.int .u64)).toArray)) ?_
  refine TL.gets (Wants.none rfl) rfl (Gets.move rfl rfl) ?_
  refine TL.call0 (Wants.none rfl) rfl enters43 rfl rfl (v := .agg ((sqA m).map (Value.int .u64)).toArray) (fun w hs => wtimes_c ([andI .u64 m 4294967295, shrI .u64 m 32, 0, 0] : List Int) m w (four_len _ _ _ _)) ?_
  refine TL.alloc (Wants.none rfl) rfl rfl zero72 (cs := [Value.int .u64 0, Value.int .u64 0, Value.int .u64 0, Value.int .u64 0]) rfl (tot := 4) (by simp) (fun g1 hg1 => ?_)
  refine TL.storeW (Wants.none rfl) rfl rfl size72 rfl (vs := (sqA m).map (Value.int .u64)) rfl (by simp [(sqA_len m)]) ints_one (i := 0) (ent := ⟨g1, 72, [Value.int .u64 0, Value.int .u64 0, Value.int .u64 0, Value.int .u64 0], 4⟩) rfl rfl (by simp []) (H' := [⟨g1, 72, (sqA m).map (Value.int .u64), 4⟩]) rfl ?_
  refine TL.nil ?_
  refine TE.then ?_
  refine TC.sub (Sub.cons (i := 0) rfl (Sub.cons (i := 1) rfl (Sub.cons (i := 2) rfl (Sub.cons (i := 6) rfl (Sub.cons (i := 7) rfl (Sub.nil)))))) ?_
  refine TC.seq ?_
  refine TC.regionL ?_
  refine TL.gets (Wants.none rfl) rfl (Gets.move rfl rfl) ?_
  refine TL.gets (Wants.none rfl) rfl (Gets.build rfl (vs := [(0, Value.int .u64 0), (1, Value.int .u64 0), (2, Value.int .u64 n), (3, Value.int .u64 0)]) rfl (fun w => by first | rfl | kernel_rfl) (v := .agg (([0, 0, n, 0] : List Int).map (Value.int .u64)).toArray)) ?_
  refine TL.alloc (Wants.none rfl) rfl rfl zero72 (cs := [Value.int .u64 0, Value.int .u64 0, Value.int .u64 0, Value.int .u64 0]) rfl (tot := 4) (by simp) (fun g2 hg2 => ?_)
  refine TL.storeW (Wants.none rfl) rfl rfl size72 rfl (vs := ([0, 0, n, 0] : List Int).map (Value.int .u64)) rfl (by simp [(four_len _ _ _ _)]) ints_one (i := 0) (ent := ⟨g2, 72, [Value.int .u64 0, Value.int .u64 0, Value.int .u64 0, Value.int .u64 0], 4⟩) rfl rfl (by simp []) (H' := [⟨g2, 72, ([0, 0, n, 0] : List Int).map (Value.int .u64), 4⟩, ⟨g1, 72, (sqA m).map (Value.int .u64), 4⟩]) rfl ?_
  refine TL.nil ?_
  refine TE.then ?_
  refine TC.seq ?_
  refine TC.seq ?_
  refine TC.regionL ?_
  refine TL.gets (Wants.none rfl) rfl (Gets.move rfl rfl) ?_
  refine TL.nil ?_
  refine TE.then ?_
  refine TC.sub (Sub.cons (i := 0) rfl (Sub.cons (i := 1) rfl (Sub.cons (i := 6) rfl (Sub.cons (i := 7) rfl (Sub.cons (i := 8) rfl (Sub.cons (i := 19) rfl (Sub.nil))))))) ?_
  refine TC.yes rfl ?_
  refine TC.seq ?_
  refine TC.regionL ?_
  refine TL.gets (Wants.none rfl) rfl (Gets.loadN rfl agg72 size72 rfl (vs := (sqA m).map (Value.int .u64)) (by simp [(sqA_len m)]) (Row.all (i := 1) (ent := ⟨g1, 72, (sqA m).map (Value.int .u64), 4⟩) rfl rfl rfl)) ?_
  refine TL.gets (Wants.none rfl) rfl (Gets.move rfl rfl) ?_
  refine TL.call0 (Wants.none rfl) rfl enters43 rfl rfl (v := .agg ((wtimes (sqA m) m).map (Value.int .u64)).toArray) (fun w hs => wtimes_c (sqA m) m w (sqA_len m)) ?_
  refine TL.storeW (Wants.none rfl) rfl rfl size72 rfl (vs := (wtimes (sqA m) m).map (Value.int .u64)) rfl (by simp [(wtimes_len (sqA m) m)]) ints_one (i := 1) (ent := ⟨g1, 72, (sqA m).map (Value.int .u64), 4⟩) rfl rfl (by simp [(sqA_len m)]) (H' := [⟨g2, 72, ([0, 0, n, 0] : List Int).map (Value.int .u64), 4⟩, ⟨g1, 72, (wtimes (sqA m) m).map (Value.int .u64), 4⟩]) rfl ?_
  refine TL.nil ?_
  refine TE.then ?_
  refine TC.sub (Sub.cons (i := 1) rfl (Sub.cons (i := 6) rfl (Sub.cons (i := 7) rfl (Sub.cons (i := 8) rfl (Sub.nil))))) ?_
  refine TC.regionL ?_
  refine TL.gets (Wants.none rfl) rfl (Gets.move rfl rfl) ?_
  refine TL.gets (Wants.none rfl) rfl (Gets.build rfl (vs := [(0, Value.int .u64 0), (1, Value.int .u64 0), (2, Value.int .u64 0), (3, Value.int .u64 n)]) rfl (fun w => by first | rfl | kernel_rfl) (v := .agg (([0, 0, 0, n] : List Int).map (Value.int .u64)).toArray)) ?_
  refine TL.storeW (Wants.none rfl) rfl rfl size72 rfl (vs := ([0, 0, 0, n] : List Int).map (Value.int .u64)) rfl (by simp [(four_len _ _ _ _)]) ints_one (i := 0) (ent := ⟨g2, 72, ([0, 0, n, 0] : List Int).map (Value.int .u64), 4⟩) rfl rfl (by simp [(four_len _ _ _ _)]) (H' := [⟨g2, 72, ([0, 0, 0, n] : List Int).map (Value.int .u64), 4⟩, ⟨g1, 72, (wtimes (sqA m) m).map (Value.int .u64), 4⟩]) rfl ?_
  refine TL.nil ?_
  refine TE.then ?_
  refine TC.seq ?_
  refine TC.seq ?_
  refine TC.regionL ?_
  refine TL.gets (Wants.none rfl) rfl (Gets.assign rfl rfl) ?_
  refine TL.nil ?_
  refine TE.then ?_
  refine TC.block ?_
  refine TC.loop (ι := Nat) (fun k => [(7, .pointer (some ⟨g1, 0, none⟩)), (8, .pointer (some ⟨g2, 0, none⟩)), (9, .int .i64 ((k : Int) - 1))]) (fun k => [⟨g2, 72, ([0, 0, 0, n] : List Int).map (Value.int .u64), 4⟩, ⟨g1, 72, (wtimes (sqA m) m).map (Value.int .u64), 4⟩]) (fun k => k) (fun k => k ≤ 4 ∧ lessF (wtimes (sqA m) m) ([0, 0, 0, n] : List Int) 4 = lessF (wtimes (sqA m) m) ([0, 0, 0, n] : List Int) k) 4 ⟨Nat.le_refl _, rfl⟩ (Sub.cons (i := 7) rfl (Sub.cons (i := 8) rfl (Sub.int (i := 9) rfl (by first | omega | rfl) (Sub.nil)))) (fun w h => h) (fun k hC0 => ?_)
  refine TC.seq ?_
  refine TC.seq ?_
  refine TC.regionL ?_
  refine TL.gets (Wants.none rfl) rfl (Gets.move rfl rfl) ?_
  refine TL.gets (Wants.none rfl) rfl (Gets.geq rfl rfl rfl) ?_
  refine TL.nil ?_
  refine TE.then ?_
  refine TC.split rfl (fun hq0 => ?_) (fun hq0 => ?_)
  · obtain ⟨j, rfl⟩ : ∃ j, k = j + 1 := ⟨k - 1, by omega⟩
    refine TC.skip ?_
    refine TE.then ?_
    refine TC.seq ?_
    refine TC.block ?_
    refine TC.seq ?_
    refine TC.mix (by kernel_rfl) [0, 0, 1, 0, 0, 1, 0] rfl (by kernel_rfl) ?_
    refine TM.free (Wants.none rfl) rfl (fun _ => Gets.move rfl rfl) ?_
    refine TM.free (Wants.none rfl) rfl (fun _ => Gets.idxArray rfl Tryd.underlying72 size62 rfl rfl (i := j) (by omega) (by omega) (off' := j) (by omega)) ?_
    refine TM.gets (Wants.none rfl) rfl (Gets.load1 rfl agg62 rfl (At.ent (i := 1) (ent := ⟨g1, 72, (wtimes (sqA m) m).map (Value.int .u64), 4⟩) (off := j) rfl rfl (by have := ints_get (kd := .u64) (W := (wtimes (sqA m) m)) (i := j) (by rw [(wtimes_len (sqA m) m)]; omega); (first | exact this | (refine Eq.trans ?_ this; congr 1; omega))))) ?_
    refine TM.free (Wants.none rfl) rfl (fun _ => Gets.move rfl rfl) ?_
    refine TM.free (Wants.none rfl) rfl (fun _ => Gets.idxArray rfl Tryd.underlying72 size62 rfl rfl (i := j) (by omega) (by omega) (off' := j) (by omega)) ?_
    refine TM.gets (Wants.none rfl) rfl (Gets.load1 rfl agg62 rfl (At.ent (i := 0) (ent := ⟨g2, 72, ([0, 0, 0, n] : List Int).map (Value.int .u64), 4⟩) (off := j) rfl rfl (by have := ints_get (kd := .u64) (W := ([0, 0, 0, n] : List Int)) (i := j) (by rw [(four_len _ _ _ _)]; omega); (first | exact this | (refine Eq.trans ?_ this; congr 1; omega))))) ?_
    refine TM.free (Wants.none rfl) rfl (fun _ => Gets.neq rfl rfl rfl) ?_
    refine TM.nil ?_
    refine TE.then ?_
    refine TC.sub (Sub.cons (i := 7) rfl (Sub.cons (i := 8) rfl (Sub.cons (i := 9) rfl (Sub.cons (i := 35) rfl (Sub.nil))))) ?_
    refine TC.split rfl (fun hq1 => ?_) (fun hq1 => ?_)
    · refine TC.seq ?_
      refine TC.mix (by kernel_rfl) [0, 0, 1, 0, 0, 1, 0, 0] rfl (by kernel_rfl) ?_
      refine TM.free (Wants.none rfl) rfl (fun _ => Gets.move rfl rfl) ?_
      refine TM.free (Wants.none rfl) rfl (fun _ => Gets.idxArray rfl Tryd.underlying72 size62 rfl rfl (i := j) (by omega) (by omega) (off' := j) (by omega)) ?_
      refine TM.gets (Wants.none rfl) rfl (Gets.load1 rfl agg62 rfl (At.ent (i := 1) (ent := ⟨g1, 72, (wtimes (sqA m) m).map (Value.int .u64), 4⟩) (off := j) rfl rfl (by have := ints_get (kd := .u64) (W := (wtimes (sqA m) m)) (i := j) (by rw [(wtimes_len (sqA m) m)]; omega); (first | exact this | (refine Eq.trans ?_ this; congr 1; omega))))) ?_
      refine TM.free (Wants.none rfl) rfl (fun _ => Gets.move rfl rfl) ?_
      refine TM.free (Wants.none rfl) rfl (fun _ => Gets.idxArray rfl Tryd.underlying72 size62 rfl rfl (i := j) (by omega) (by omega) (off' := j) (by omega)) ?_
      refine TM.gets (Wants.none rfl) rfl (Gets.load1 rfl agg62 rfl (At.ent (i := 0) (ent := ⟨g2, 72, ([0, 0, 0, n] : List Int).map (Value.int .u64), 4⟩) (off := j) rfl rfl (by have := ints_get (kd := .u64) (W := ([0, 0, 0, n] : List Int)) (i := j) (by rw [(four_len _ _ _ _)]; omega); (first | exact this | (refine Eq.trans ?_ this; congr 1; omega))))) ?_
      refine TM.free (Wants.none rfl) rfl (fun _ => Gets.lss rfl rfl rfl) ?_
      refine TM.free (Wants.none rfl) rfl (fun _ => Gets.assign rfl rfl) ?_
      refine TM.nil ?_
      refine TE.then ?_
      refine TC.ret ?_
      refine TE.blockR ?_
      refine TE.thenR ?_
      refine TE.thenR ?_
      refine TE.blockR ?_
      refine TE.thenR ?_
      exact TE.ret1 rfl rfl (fun w hs => ⟨by rw [hC0.2, lessF, if_pos hq1], ((hs.drop (by assumption)).drop (by assumption))⟩)
    · refine TC.skip ?_
      refine TE.blockN ?_
      refine TE.then ?_
      refine TC.regionL ?_
      refine TL.gets (Wants.none rfl) rfl (Gets.move rfl rfl) ?_
      refine TL.gets (Wants.none rfl) rfl (Gets.sub rfl rfl rfl (r := ((j : Int) - 1)) (w64 (by omega) (by omega))) ?_
      refine TL.gets (Wants.none rfl) rfl (Gets.assign rfl rfl) ?_
      refine TL.nil ?_
      exact TE.back j (by omega) ⟨by omega, by rw [hC0.2, lessF, if_neg hq1]⟩ (Sub.cons (i := 7) rfl (Sub.cons (i := 8) rfl (Sub.int (i := 9) rfl (by first | omega | rfl) (Sub.nil)))) (fun w h => h)
  · obtain rfl : k = 0 := by omega
    refine TC.exit ?_
    refine TE.thenX ?_
    refine TE.thenX ?_
    refine TE.blockX ?_
    refine TE.then ?_
    refine TC.seq ?_
    refine TC.regionL ?_
    refine TL.gets (Wants.none rfl) rfl (Gets.assign rfl rfl) ?_
    refine TL.nil ?_
    refine TE.then ?_
    refine TC.ret ?_
    exact TE.ret1 rfl rfl (fun w hs => ⟨by rw [hC0.2]; rfl, ((hs.drop (by assumption)).drop (by assumption))⟩)


def lessM (m n : Int) : Bool → Bool
  | true => lessF (wtimes (sqA m) m) [0, 0, 0, n] 4
  | false => lessF (sqA m) [0, 0, n, 0] 4
def bis (n : Int) (c : Bool) : Nat → Int × Int
  | 0 => (0, if c then 34359738368 else 68719476736)
  | k + 1 => if 1 < (bis n c k).2 - (bis n c k).1 then (if lessM (((bis n c k).1 + (bis n c k).2) / 2) n c then (((bis n c k).1 + (bis n c k).2) / 2, (bis n c k).2) else ((bis n c k).1, ((bis n c k).1 + (bis n c k).2) / 2)) else bis n c k
theorem bis_stay {n : Int} {c : Bool} {k : Nat} (h : ¬ 1 < (bis n c k).2 - (bis n c k).1) : ∀ d, bis n c (k + d) = bis n c k
  | 0 => rfl
  | d + 1 => by
    have ih := bis_stay h d
    show (if 1 < (bis n c (k + d)).2 - (bis n c (k + d)).1 then _ else bis n c (k + d)) = _
    rw [ih, if_neg h]
theorem bis_end {n : Int} {c : Bool} {k : Nat} (h : ¬ 1 < (bis n c k).2 - (bis n c k).1) (h40 : ¬ 1 < (bis n c 40).2 - (bis n c 40).1) : bis n c k = bis n c 40 := by
  by_cases hk : k ≤ 40
  · obtain ⟨d, hd⟩ := Nat.exists_eq_add_of_le hk
    rw [hd]; exact (bis_stay h d).symm
  · obtain ⟨d, hd⟩ := Nat.exists_eq_add_of_le (show 40 ≤ k by omega)
    rw [hd]; exact bis_stay h40 d
attribute [irreducible] sqA lessF lessM


theorem leastM2_c (m n : Int) (w : World) : Calls Tryd.prog 41 #[.int .u64 m, .int .u64 n, .bool false] w fun e w' => e = .returned (.bool (lessM m n false)) ∧ St w [] w' := by
  have h := least2_c m n w
  rw [show lessM m n false = lessF (sqA m) [0, 0, n, 0] 4 by unfold lessM; rfl]
  exact h
theorem leastM3_c (m n : Int) (w : World) : Calls Tryd.prog 41 #[.int .u64 m, .int .u64 n, .bool true] w fun e w' => e = .returned (.bool (lessM m n true)) ∧ St w [] w' := by
  have h := least3_c m n w
  rw [show lessM m n true = lessF (wtimes (sqA m) m) [0, 0, 0, n] 4 by unfold lessM; rfl]
  exact h

set_option maxRecDepth 100000 in
set_option maxHeartbeats 400000 in
theorem root2_c (n : Int) (w : World) (hfix : ¬ 1 < (bis n false 40).2 - (bis n false 40).1) : Calls Tryd.prog 37 #[.int .u64 n, .bool false] w fun e w' => e = .returned (.int .u32 (IntKind.u32.wrap (bis n false 40).1)) ∧ St w [] w' := by
  refine calls_from (args := [.int .u64 n, .bool false]) Tryd.func37 rfl Tryd.ntmps37 (by simp) ?_
  refine TC.sub (Sub.cons (i := 0) rfl (Sub.cons (i := 1) rfl (Sub.nil))) ?_
  refine TC.seq ?_
  refine TC.regionL ?_
  refine TL.gets (Wants.none rfl) rfl (Gets.assign rfl rfl) ?_
  refine TL.nil ?_
  refine TE.then ?_
  refine TC.seq ?_
  refine TC.regionL ?_
  refine TL.gets (Wants.none rfl) rfl (Gets.assign rfl rfl) ?_
  refine TL.nil ?_
  refine TE.then ?_
  refine TC.seq ?_
  refine TC.regionL ?_
  refine TL.gets (Wants.none rfl) rfl (Gets.assign rfl rfl) ?_
  refine TL.nil ?_
  refine TE.then ?_
  refine TC.seq ?_
  refine TC.seq ?_
  refine TC.regionL ?_
  refine TL.gets (Wants.none rfl) rfl (Gets.move rfl rfl) ?_
  refine TL.nil ?_
  refine TE.then ?_
  refine TC.no rfl ?_
  refine TC.skip ?_
  refine TE.then ?_
  refine TC.seq ?_
  refine TC.block ?_
  refine TC.loop (ι := Nat) (fun k => [(0, .int .u64 n), (1, .bool false), (5, .int .u64 ((bis n false k).1)), (6, .int .u64 ((bis n false k).2))]) (fun k => []) (fun k => ((bis n false k).2 - (bis n false k).1).toNat) (fun k => 0 ≤ (bis n false k).1 ∧ (bis n false k).1 < (bis n false k).2 ∧ (bis n false k).2 ≤ 68719476736) 0 ⟨by show (0 : Int) ≤ 0; omega, by show (0 : Int) < 68719476736; omega, by show (68719476736 : Int) ≤ 68719476736; omega⟩ (Sub.int (i := 0) rfl (by first | rfl | omega) (Sub.cons (i := 1) rfl (Sub.int (i := 5) rfl (by first | rfl | omega) (Sub.int (i := 6) rfl (by first | rfl | omega) (Sub.nil))))) (fun w h => h) (fun k hC0 => ?_)
  refine TC.seq ?_
  refine TC.seq ?_
  refine TC.regionL ?_
  refine TL.gets (Wants.none rfl) rfl (Gets.move rfl rfl) ?_
  refine TL.gets (Wants.none rfl) rfl (Gets.move rfl rfl) ?_
  refine TL.gets (Wants.none rfl) rfl (Gets.sub rfl rfl rfl (r := (((bis n false k).2) - ((bis n false k).1))) (wu64 (by omega) (by omega))) ?_
  refine TL.gets (Wants.none rfl) rfl (Gets.gtr rfl rfl rfl) ?_
  refine TL.nil ?_
  refine TE.then ?_
  refine TC.split rfl (fun hq0 => ?_) (fun hq0 => ?_)
  · refine TC.skip ?_
    refine TE.then ?_
    refine TC.block ?_
    refine TC.seq ?_
    refine TC.regionL ?_
    refine TL.gets (Wants.none rfl) rfl (Gets.move rfl rfl) ?_
    refine TL.gets (Wants.none rfl) rfl (Gets.move rfl rfl) ?_
    refine TL.gets (Wants.none rfl) rfl (Gets.add rfl rfl rfl (r := (((bis n false k).1) + ((bis n false k).2))) (wu64 (by omega) (by omega))) ?_
    refine TL.gets (Wants.none rfl) rfl (Gets.quo rfl rfl rfl (by omega) (r := ((((bis n false k).1) + ((bis n false k).2)) / 2)) (tdiv_pos (by omega) (wu64 (by omega) (by omega)))) ?_
    refine TL.gets (Wants.none rfl) rfl (Gets.assign rfl rfl) ?_
    refine TL.nil ?_
    refine TE.then ?_
    refine TC.sub (Sub.cons (i := 0) rfl (Sub.cons (i := 1) rfl (Sub.cons (i := 5) rfl (Sub.cons (i := 6) rfl (Sub.cons (i := 7) rfl (Sub.nil)))))) ?_
    refine TC.seq ?_
    refine TC.regionL ?_
    refine TL.gets (Wants.none rfl) rfl (Gets.move rfl rfl) ?_
    refine TL.gets (Wants.none rfl) rfl (Gets.move rfl rfl) ?_
    refine TL.gets (Wants.none rfl) rfl (Gets.move rfl rfl) ?_
    refine TL.call0 (Wants.none rfl) rfl enters41 rfl rfl (v := .bool (lessM ((((bis n false k).1) + ((bis n false k).2)) / 2) n false)) (fun w hs => leastM2_c ((((bis n false k).1) + ((bis n false k).2)) / 2) n w) ?_
    refine TL.nil ?_
    refine TE.then ?_
    refine TC.sub (Sub.cons (i := 0) rfl (Sub.cons (i := 1) rfl (Sub.cons (i := 5) rfl (Sub.cons (i := 6) rfl (Sub.cons (i := 7) rfl (Sub.cons (i := 20) rfl (Sub.nil))))))) ?_
    refine TC.splitB rfl (fun hq1 => ?_) (fun hq1 => ?_)
    · refine TC.regionL ?_
      refine TL.gets (Wants.none rfl) rfl (Gets.move rfl rfl) ?_
      refine TL.gets (Wants.none rfl) rfl (Gets.assign rfl rfl) ?_
      refine TL.nil ?_
      refine TE.blockN ?_
      have e1 : bis n false (k + 1) = (if 1 < (bis n false k).2 - (bis n false k).1 then (if lessM (((bis n false k).1 + (bis n false k).2) / 2) n false then ((((bis n false k).1 + (bis n false k).2) / 2), (bis n false k).2) else ((bis n false k).1, (((bis n false k).1 + (bis n false k).2) / 2))) else bis n false k) := rfl
      rw [if_pos hq0, hq1] at e1
      simp only [if_true, Bool.false_eq_true, if_false] at e1
      have e2 := congrArg Prod.fst e1
      have e3 := congrArg Prod.snd e1
      dsimp only at e2 e3
      exact TE.back (k + 1) (by omega) ⟨by omega, by omega, by omega⟩ (Sub.int (i := 0) rfl (by first | rfl | omega) (Sub.cons (i := 1) rfl (Sub.int (i := 5) rfl (by first | rfl | omega) (Sub.int (i := 6) rfl (by first | rfl | omega) (Sub.nil))))) (fun w h => h)
    · refine TC.regionL ?_
      refine TL.gets (Wants.none rfl) rfl (Gets.move rfl rfl) ?_
      refine TL.gets (Wants.none rfl) rfl (Gets.assign rfl rfl) ?_
      refine TL.nil ?_
      refine TE.blockN ?_
      have e1 : bis n false (k + 1) = (if 1 < (bis n false k).2 - (bis n false k).1 then (if lessM (((bis n false k).1 + (bis n false k).2) / 2) n false then ((((bis n false k).1 + (bis n false k).2) / 2), (bis n false k).2) else ((bis n false k).1, (((bis n false k).1 + (bis n false k).2) / 2))) else bis n false k) := rfl
      rw [if_pos hq0, hq1] at e1
      simp only [if_true, Bool.false_eq_true, if_false] at e1
      have e2 := congrArg Prod.fst e1
      have e3 := congrArg Prod.snd e1
      dsimp only at e2 e3
      exact TE.back (k + 1) (by omega) ⟨by omega, by omega, by omega⟩ (Sub.int (i := 0) rfl (by first | rfl | omega) (Sub.cons (i := 1) rfl (Sub.int (i := 5) rfl (by first | rfl | omega) (Sub.int (i := 6) rfl (by first | rfl | omega) (Sub.nil))))) (fun w h => h)
  · have hend := bis_end hq0 hfix
    refine TC.exit ?_
    refine TE.thenX ?_
    refine TE.thenX ?_
    refine TE.blockX ?_
    refine TE.then ?_
    refine TC.seq ?_
    refine TC.regionL ?_
    refine TL.gets (Wants.none rfl) rfl (Gets.move rfl rfl) ?_
    refine TL.gets (Wants.none rfl) rfl (Gets.conv rfl Tryd.underlying62 Tryd.underlying48 rfl (r := (IntKind.u32.wrap ((bis n false k).1))) rfl) ?_
    refine TL.gets (Wants.none rfl) rfl (Gets.assign rfl rfl) ?_
    refine TL.nil ?_
    refine TE.then ?_
    refine TC.ret ?_
    exact TE.ret1 rfl rfl (fun w hs => ⟨by rw [hend], hs⟩)

set_option maxRecDepth 100000 in
set_option maxHeartbeats 400000 in
theorem root3_c (n : Int) (w : World) (hfix : ¬ 1 < (bis n true 40).2 - (bis n true 40).1) : Calls Tryd.prog 37 #[.int .u64 n, .bool true] w fun e w' => e = .returned (.int .u32 (IntKind.u32.wrap (bis n true 40).1)) ∧ St w [] w' := by
  refine calls_from (args := [.int .u64 n, .bool true]) Tryd.func37 rfl Tryd.ntmps37 (by simp) ?_
  refine TC.sub (Sub.cons (i := 0) rfl (Sub.cons (i := 1) rfl (Sub.nil))) ?_
  refine TC.seq ?_
  refine TC.regionL ?_
  refine TL.gets (Wants.none rfl) rfl (Gets.assign rfl rfl) ?_
  refine TL.nil ?_
  refine TE.then ?_
  refine TC.seq ?_
  refine TC.regionL ?_
  refine TL.gets (Wants.none rfl) rfl (Gets.assign rfl rfl) ?_
  refine TL.nil ?_
  refine TE.then ?_
  refine TC.seq ?_
  refine TC.regionL ?_
  refine TL.gets (Wants.none rfl) rfl (Gets.assign rfl rfl) ?_
  refine TL.nil ?_
  refine TE.then ?_
  refine TC.seq ?_
  refine TC.seq ?_
  refine TC.regionL ?_
  refine TL.gets (Wants.none rfl) rfl (Gets.move rfl rfl) ?_
  refine TL.nil ?_
  refine TE.then ?_
  refine TC.yes rfl ?_
  refine TC.regionL ?_
  refine TL.gets (Wants.none rfl) rfl (Gets.assign rfl rfl) ?_
  refine TL.nil ?_
  refine TE.then ?_
  refine TC.seq ?_
  refine TC.block ?_
  refine TC.loop (ι := Nat) (fun k => [(0, .int .u64 n), (1, .bool true), (5, .int .u64 ((bis n true k).1)), (6, .int .u64 ((bis n true k).2))]) (fun k => []) (fun k => ((bis n true k).2 - (bis n true k).1).toNat) (fun k => 0 ≤ (bis n true k).1 ∧ (bis n true k).1 < (bis n true k).2 ∧ (bis n true k).2 ≤ 68719476736) 0 ⟨by show (0 : Int) ≤ 0; omega, by show (0 : Int) < 34359738368; omega, by show (34359738368 : Int) ≤ 68719476736; omega⟩ (Sub.int (i := 0) rfl (by first | rfl | omega) (Sub.cons (i := 1) rfl (Sub.int (i := 5) rfl (by first | rfl | omega) (Sub.int (i := 6) rfl (by first | rfl | omega) (Sub.nil))))) (fun w h => h) (fun k hC0 => ?_)
  refine TC.seq ?_
  refine TC.seq ?_
  refine TC.regionL ?_
  refine TL.gets (Wants.none rfl) rfl (Gets.move rfl rfl) ?_
  refine TL.gets (Wants.none rfl) rfl (Gets.move rfl rfl) ?_
  refine TL.gets (Wants.none rfl) rfl (Gets.sub rfl rfl rfl (r := (((bis n true k).2) - ((bis n true k).1))) (wu64 (by omega) (by omega))) ?_
  refine TL.gets (Wants.none rfl) rfl (Gets.gtr rfl rfl rfl) ?_
  refine TL.nil ?_
  refine TE.then ?_
  refine TC.split rfl (fun hq0 => ?_) (fun hq0 => ?_)
  · refine TC.skip ?_
    refine TE.then ?_
    refine TC.block ?_
    refine TC.seq ?_
    refine TC.regionL ?_
    refine TL.gets (Wants.none rfl) rfl (Gets.move rfl rfl) ?_
    refine TL.gets (Wants.none rfl) rfl (Gets.move rfl rfl) ?_
    refine TL.gets (Wants.none rfl) rfl (Gets.add rfl rfl rfl (r := (((bis n true k).1) + ((bis n true k).2))) (wu64 (by omega) (by omega))) ?_
    refine TL.gets (Wants.none rfl) rfl (Gets.quo rfl rfl rfl (by omega) (r := ((((bis n true k).1) + ((bis n true k).2)) / 2)) (tdiv_pos (by omega) (wu64 (by omega) (by omega)))) ?_
    refine TL.gets (Wants.none rfl) rfl (Gets.assign rfl rfl) ?_
    refine TL.nil ?_
    refine TE.then ?_
    refine TC.sub (Sub.cons (i := 0) rfl (Sub.cons (i := 1) rfl (Sub.cons (i := 5) rfl (Sub.cons (i := 6) rfl (Sub.cons (i := 7) rfl (Sub.nil)))))) ?_
    refine TC.seq ?_
    refine TC.regionL ?_
    refine TL.gets (Wants.none rfl) rfl (Gets.move rfl rfl) ?_
    refine TL.gets (Wants.none rfl) rfl (Gets.move rfl rfl) ?_
    refine TL.gets (Wants.none rfl) rfl (Gets.move rfl rfl) ?_
    refine TL.call0 (Wants.none rfl) rfl enters41 rfl rfl (v := .bool (lessM ((((bis n true k).1) + ((bis n true k).2)) / 2) n true)) (fun w hs => leastM3_c ((((bis n true k).1) + ((bis n true k).2)) / 2) n w) ?_
    refine TL.nil ?_
    refine TE.then ?_
    refine TC.sub (Sub.cons (i := 0) rfl (Sub.cons (i := 1) rfl (Sub.cons (i := 5) rfl (Sub.cons (i := 6) rfl (Sub.cons (i := 7) rfl (Sub.cons (i := 20) rfl (Sub.nil))))))) ?_
    refine TC.splitB rfl (fun hq1 => ?_) (fun hq1 => ?_)
    · refine TC.regionL ?_
      refine TL.gets (Wants.none rfl) rfl (Gets.move rfl rfl) ?_
      refine TL.gets (Wants.none rfl) rfl (Gets.assign rfl rfl) ?_
      refine TL.nil ?_
      refine TE.blockN ?_
      have e1 : bis n true (k + 1) = (if 1 < (bis n true k).2 - (bis n true k).1 then (if lessM (((bis n true k).1 + (bis n true k).2) / 2) n true then ((((bis n true k).1 + (bis n true k).2) / 2), (bis n true k).2) else ((bis n true k).1, (((bis n true k).1 + (bis n true k).2) / 2))) else bis n true k) := rfl
      rw [if_pos hq0, hq1] at e1
      simp only [if_true, Bool.false_eq_true, if_false] at e1
      have e2 := congrArg Prod.fst e1
      have e3 := congrArg Prod.snd e1
      dsimp only at e2 e3
      exact TE.back (k + 1) (by omega) ⟨by omega, by omega, by omega⟩ (Sub.int (i := 0) rfl (by first | rfl | omega) (Sub.cons (i := 1) rfl (Sub.int (i := 5) rfl (by first | rfl | omega) (Sub.int (i := 6) rfl (by first | rfl | omega) (Sub.nil))))) (fun w h => h)
    · refine TC.regionL ?_
      refine TL.gets (Wants.none rfl) rfl (Gets.move rfl rfl) ?_
      refine TL.gets (Wants.none rfl) rfl (Gets.assign rfl rfl) ?_
      refine TL.nil ?_
      refine TE.blockN ?_
      have e1 : bis n true (k + 1) = (if 1 < (bis n true k).2 - (bis n true k).1 then (if lessM (((bis n true k).1 + (bis n true k).2) / 2) n true then ((((bis n true k).1 + (bis n true k).2) / 2), (bis n true k).2) else ((bis n true k).1, (((bis n true k).1 + (bis n true k).2) / 2))) else bis n true k) := rfl
      rw [if_pos hq0, hq1] at e1
      simp only [if_true, Bool.false_eq_true, if_false] at e1
      have e2 := congrArg Prod.fst e1
      have e3 := congrArg Prod.snd e1
      dsimp only at e2 e3
      exact TE.back (k + 1) (by omega) ⟨by omega, by omega, by omega⟩ (Sub.int (i := 0) rfl (by first | rfl | omega) (Sub.cons (i := 1) rfl (Sub.int (i := 5) rfl (by first | rfl | omega) (Sub.int (i := 6) rfl (by first | rfl | omega) (Sub.nil))))) (fun w h => h)
  · have hend := bis_end hq0 hfix
    refine TC.exit ?_
    refine TE.thenX ?_
    refine TE.thenX ?_
    refine TE.blockX ?_
    refine TE.then ?_
    refine TC.seq ?_
    refine TC.regionL ?_
    refine TL.gets (Wants.none rfl) rfl (Gets.move rfl rfl) ?_
    refine TL.gets (Wants.none rfl) rfl (Gets.conv rfl Tryd.underlying62 Tryd.underlying48 rfl (r := (IntKind.u32.wrap ((bis n true k).1))) rfl) ?_
    refine TL.gets (Wants.none rfl) rfl (Gets.assign rfl rfl) ?_
    refine TL.nil ?_
    refine TE.then ?_
    refine TC.ret ?_
    exact TE.ret1 rfl rfl (fun w hs => ⟨by rw [hend], hs⟩)
end Go.Proofs.YtdcphpmkhekghaaDoor
