/-
  CommandSame: the walk.
-/
import Derived.Test.YtehnkhgcbcfoeaaCmK
namespace Go.Proofs.Ytehnkhgcbcfoeaa
set_option linter.unusedVariables false
set_option linter.unusedSimpArgs false
open Go Go.RowKit
theorem agg5 : (isAgg 5).run Try.prog = fun w => .ok false w := isAgg_no Try.underlying5 rfl
theorem enters24 : Enters Try.prog 24 := ⟨_, Try.func24, by kernel_rfl, by kernel_rfl⟩

def bump (W : List Int) : Nat → List Int
  | 0 => W
  | k + 1 => (bump W k).set k (addW .u8 ((bump W k).getD k 0) 1)
theorem bump_len (W : List Int) {n : Nat} (h : W.length = n) : ∀ k, (bump W k).length = n
  | 0 => h
  | k + 1 => by simp [bump, bump_len W h k]

set_option maxRecDepth 100000 in
set_option maxHeartbeats 1000000 in
theorem same_big1 (k t f l k2 t2 f2 l2 : Int) (A A2 : Option Addr) (m c m2 c2 : Nat) (hb : 1000 < m) (w : World) : Calls Try.prog 8 #[.agg ([Value.int .i64 k, Value.int .i64 t, Value.int .i64 f, Value.int .i64 l, Value.slice A m c]).toArray, .agg ([Value.int .i64 k2, Value.int .i64 t2, Value.int .i64 f2, Value.int .i64 l2, Value.slice A2 m2 c2]).toArray] w fun e w' => e = .returned (.bool true) ∧ St w [] w' := by
  refine calls_from (args := [.agg ([Value.int .i64 k, Value.int .i64 t, Value.int .i64 f, Value.int .i64 l, Value.slice A m c]).toArray, .agg ([Value.int .i64 k2, Value.int .i64 t2, Value.int .i64 f2, Value.int .i64 l2, Value.slice A2 m2 c2]).toArray]) Try.func8 rfl Try.ntmps8 (by simp) ?_
  refine TC.sub (Sub.cons (i := 0) rfl (Sub.cons (i := 1) rfl (Sub.nil))) ?_
  refine TC.seq ?_
  refine TC.regionL ?_
  refine TL.box (Wants.none rfl) rfl rfl rfl (cs := [Value.int .i64 k, Value.int .i64 t, Value.int .i64 f, Value.int .i64 l, Value.slice A m c]) (by simp [Value.cells]) (tot := 5) (by simp []) (fun g1 hg1 => ?_)
  refine TL.box (Wants.none rfl) rfl rfl rfl (cs := [Value.int .i64 k2, Value.int .i64 t2, Value.int .i64 f2, Value.int .i64 l2, Value.slice A2 m2 c2]) (by simp [Value.cells]) (tot := 5) (by simp []) (fun g2 hg2 => ?_)
  refine TL.gets (Wants.none rfl) rfl (Gets.assign rfl rfl) ?_
  refine TL.nil ?_
  refine TE.then ?_
  refine TC.seq ?_
  refine TC.seq ?_
  refine TC.regionL ?_
  refine TL.gets (Wants.none rfl) rfl (Gets.fieldAddr rfl Try.underlying27 rfl size25 rfl (off' := 4) (by first | rfl | omega)) ?_
  refine TL.gets (Wants.none rfl) rfl (Gets.load1 rfl agg25 rfl (At.ent (i := 1) (ent := ⟨g1, 27, [Value.int .i64 k, Value.int .i64 t, Value.int .i64 f, Value.int .i64 l, Value.slice A m c], 5⟩) (off := 4) rfl rfl (by exact rfl))) ?_
  refine TL.gets (Wants.none rfl) rfl (Gets.lenSlice rfl Try.underlying25 rfl) ?_
  refine TL.gets (Wants.none rfl) rfl (Gets.isTrue (Gets.gtr rfl rfl rfl) (by omega)) ?_
  refine TL.gets (Wants.none rfl) rfl (Gets.move rfl rfl) ?_
  refine TL.pass rfl rfl rfl rfl rfl ?_
  refine TL.pass rfl rfl rfl rfl rfl ?_
  refine TL.pass rfl rfl rfl rfl rfl ?_
  refine TL.pass rfl rfl rfl rfl rfl ?_
  refine TL.gets (Wants.none rfl) rfl (Gets.pickT rfl rfl rfl) ?_
  refine TL.nil ?_
  refine TE.then ?_
  refine TC.sub (Sub.cons (i := 2) rfl (Sub.cons (i := 3) rfl (Sub.cons (i := 4) rfl (Sub.cons (i := 17) rfl (Sub.nil))))) ?_
  refine TC.yes rfl ?_
  refine TC.seq ?_
  refine TC.regionL ?_
  refine TL.call0 (Wants.none rfl) rfl enters9 rfl rfl (v := .bool true) (fun w hs => alive_c w) ?_
  refine TL.gets (Wants.none rfl) rfl (Gets.assign rfl rfl) ?_
  refine TL.nil ?_
  refine TE.then ?_
  refine TC.ret ?_
  refine TE.thenR ?_
  exact TE.ret1 rfl rfl (fun w hs => ⟨rfl, ((hs.drop (by assumption)).drop (by assumption))⟩)

set_option maxRecDepth 100000 in
set_option maxHeartbeats 1000000 in
theorem same_big2 (k t f l k2 t2 f2 l2 : Int) (A A2 : Option Addr) (m c m2 c2 : Nat) (hb0 : m ≤ 1000) (hb : 1000 < m2) (w : World) : Calls Try.prog 8 #[.agg ([Value.int .i64 k, Value.int .i64 t, Value.int .i64 f, Value.int .i64 l, Value.slice A m c]).toArray, .agg ([Value.int .i64 k2, Value.int .i64 t2, Value.int .i64 f2, Value.int .i64 l2, Value.slice A2 m2 c2]).toArray] w fun e w' => e = .returned (.bool true) ∧ St w [] w' := by
  refine calls_from (args := [.agg ([Value.int .i64 k, Value.int .i64 t, Value.int .i64 f, Value.int .i64 l, Value.slice A m c]).toArray, .agg ([Value.int .i64 k2, Value.int .i64 t2, Value.int .i64 f2, Value.int .i64 l2, Value.slice A2 m2 c2]).toArray]) Try.func8 rfl Try.ntmps8 (by simp) ?_
  refine TC.sub (Sub.cons (i := 0) rfl (Sub.cons (i := 1) rfl (Sub.nil))) ?_
  refine TC.seq ?_
  refine TC.regionL ?_
  refine TL.box (Wants.none rfl) rfl rfl rfl (cs := [Value.int .i64 k, Value.int .i64 t, Value.int .i64 f, Value.int .i64 l, Value.slice A m c]) (by simp [Value.cells]) (tot := 5) (by simp []) (fun g1 hg1 => ?_)
  refine TL.box (Wants.none rfl) rfl rfl rfl (cs := [Value.int .i64 k2, Value.int .i64 t2, Value.int .i64 f2, Value.int .i64 l2, Value.slice A2 m2 c2]) (by simp [Value.cells]) (tot := 5) (by simp []) (fun g2 hg2 => ?_)
  refine TL.gets (Wants.none rfl) rfl (Gets.assign rfl rfl) ?_
  refine TL.nil ?_
  refine TE.then ?_
  refine TC.seq ?_
  refine TC.seq ?_
  refine TC.regionL ?_
  refine TL.gets (Wants.none rfl) rfl (Gets.fieldAddr rfl Try.underlying27 rfl size25 rfl (off' := 4) (by first | rfl | omega)) ?_
  refine TL.gets (Wants.none rfl) rfl (Gets.load1 rfl agg25 rfl (At.ent (i := 1) (ent := ⟨g1, 27, [Value.int .i64 k, Value.int .i64 t, Value.int .i64 f, Value.int .i64 l, Value.slice A m c], 5⟩) (off := 4) rfl rfl (by exact rfl))) ?_
  refine TL.gets (Wants.none rfl) rfl (Gets.lenSlice rfl Try.underlying25 rfl) ?_
  refine TL.gets (Wants.none rfl) rfl (Gets.isFalse (Gets.gtr rfl rfl rfl) (by omega)) ?_
  refine TL.gets (Wants.none rfl) rfl (Gets.move rfl rfl) ?_
  refine TL.gets (Wants.yes rfl rfl rfl) rfl (Gets.fieldAddr rfl Try.underlying27 rfl size25 rfl (off' := 4) (by first | rfl | omega)) ?_
  refine TL.gets (Wants.yes rfl rfl rfl) rfl (Gets.load1 rfl agg25 rfl (At.ent (i := 0) (ent := ⟨g2, 27, [Value.int .i64 k2, Value.int .i64 t2, Value.int .i64 f2, Value.int .i64 l2, Value.slice A2 m2 c2], 5⟩) (off := 4) rfl rfl (by exact rfl))) ?_
  refine TL.gets (Wants.yes rfl rfl rfl) rfl (Gets.lenSlice rfl Try.underlying25 rfl) ?_
  refine TL.gets (Wants.yes rfl rfl rfl) rfl (Gets.isTrue (Gets.gtr rfl rfl rfl) (by omega)) ?_
  refine TL.gets (Wants.none rfl) rfl (Gets.pickF rfl rfl rfl) ?_
  refine TL.nil ?_
  refine TE.then ?_
  refine TC.sub (Sub.cons (i := 2) rfl (Sub.cons (i := 3) rfl (Sub.cons (i := 4) rfl (Sub.cons (i := 17) rfl (Sub.nil))))) ?_
  refine TC.yes rfl ?_
  refine TC.seq ?_
  refine TC.regionL ?_
  refine TL.call0 (Wants.none rfl) rfl enters9 rfl rfl (v := .bool true) (fun w hs => alive_c w) ?_
  refine TL.gets (Wants.none rfl) rfl (Gets.assign rfl rfl) ?_
  refine TL.nil ?_
  refine TE.then ?_
  refine TC.ret ?_
  refine TE.thenR ?_
  exact TE.ret1 rfl rfl (fun w hs => ⟨rfl, ((hs.drop (by assumption)).drop (by assumption))⟩)

set_option maxRecDepth 100000 in
set_option maxHeartbeats 1000000 in
theorem same_nil (k t f l k2 t2 f2 l2 : Int) (A2 : Option Addr) (c m2 c2 : Nat) (B2 : List Int) (hb : m2 ≤ 1000) (hB2 : Bytes B2) (w : World) (hsB : Src w A2 m2 .u8 B2) : Calls Try.prog 8 #[.agg ([Value.int .i64 k, Value.int .i64 t, Value.int .i64 f, Value.int .i64 l, Value.slice none 0 c]).toArray, .agg ([Value.int .i64 k2, Value.int .i64 t2, Value.int .i64 f2, Value.int .i64 l2, Value.slice A2 m2 c2]).toArray] w fun e w' => e = .returned (.bool true) ∧ St w [] w' := by
  refine calls_from (args := [.agg ([Value.int .i64 k, Value.int .i64 t, Value.int .i64 f, Value.int .i64 l, Value.slice none 0 c]).toArray, .agg ([Value.int .i64 k2, Value.int .i64 t2, Value.int .i64 f2, Value.int .i64 l2, Value.slice A2 m2 c2]).toArray]) Try.func8 rfl Try.ntmps8 (by simp) ?_
  refine TC.sub (Sub.cons (i := 0) rfl (Sub.cons (i := 1) rfl (Sub.nil))) ?_
  refine TC.seq ?_
  refine TC.regionL ?_
  refine TL.box (Wants.none rfl) rfl rfl rfl (cs := [Value.int .i64 k, Value.int .i64 t, Value.int .i64 f, Value.int .i64 l, Value.slice none 0 c]) (by simp [Value.cells]) (tot := 5) (by simp []) (fun g1 hg1 => ?_)
  refine TL.box (Wants.none rfl) rfl rfl rfl (cs := [Value.int .i64 k2, Value.int .i64 t2, Value.int .i64 f2, Value.int .i64 l2, Value.slice A2 m2 c2]) (by simp [Value.cells]) (tot := 5) (by simp []) (fun g2 hg2 => ?_)
  refine TL.gets (Wants.none rfl) rfl (Gets.assign rfl rfl) ?_
  refine TL.nil ?_
  refine TE.then ?_
  refine TC.seq ?_
  refine TC.seq ?_
  refine TC.regionL ?_
  refine TL.gets (Wants.none rfl) rfl (Gets.fieldAddr rfl Try.underlying27 rfl size25 rfl (off' := 4) (by first | rfl | omega)) ?_
  refine TL.gets (Wants.none rfl) rfl (Gets.load1 rfl agg25 rfl (At.ent (i := 1) (ent := ⟨g1, 27, [Value.int .i64 k, Value.int .i64 t, Value.int .i64 f, Value.int .i64 l, Value.slice none 0 c], 5⟩) (off := 4) rfl rfl (by exact rfl))) ?_
  refine TL.gets (Wants.none rfl) rfl (Gets.lenSlice rfl Try.underlying25 rfl) ?_
  refine TL.gets (Wants.none rfl) rfl (Gets.isFalse (Gets.gtr rfl rfl rfl) (by omega)) ?_
  refine TL.gets (Wants.none rfl) rfl (Gets.move rfl rfl) ?_
  refine TL.gets (Wants.yes rfl rfl rfl) rfl (Gets.fieldAddr rfl Try.underlying27 rfl size25 rfl (off' := 4) (by first | rfl | omega)) ?_
  refine TL.gets (Wants.yes rfl rfl rfl) rfl (Gets.load1 rfl agg25 rfl (At.ent (i := 0) (ent := ⟨g2, 27, [Value.int .i64 k2, Value.int .i64 t2, Value.int .i64 f2, Value.int .i64 l2, Value.slice A2 m2 c2], 5⟩) (off := 4) rfl rfl (by exact rfl))) ?_
  refine TL.gets (Wants.yes rfl rfl rfl) rfl (Gets.lenSlice rfl Try.underlying25 rfl) ?_
  refine TL.gets (Wants.yes rfl rfl rfl) rfl (Gets.isFalse (Gets.gtr rfl rfl rfl) (by omega)) ?_
  refine TL.gets (Wants.none rfl) rfl (Gets.pickF rfl rfl rfl) ?_
  refine TL.nil ?_
  refine TE.then ?_
  refine TC.sub (Sub.cons (i := 2) rfl (Sub.cons (i := 3) rfl (Sub.cons (i := 4) rfl (Sub.cons (i := 17) rfl (Sub.nil))))) ?_
  refine TC.no rfl ?_
  refine TC.skip ?_
  refine TE.then ?_
  refine TC.seq ?_
  refine TC.regionL ?_
  refine TL.gets (Wants.none rfl) rfl (Gets.loadN rfl agg27 size27 rfl (vs := [Value.int .i64 k, Value.int .i64 t, Value.int .i64 f, Value.int .i64 l, Value.slice none 0 c]) (by simp []) (Row.all (i := 1) (ent := ⟨g1, 27, [Value.int .i64 k, Value.int .i64 t, Value.int .i64 f, Value.int .i64 l, Value.slice none 0 c], 5⟩) rfl rfl rfl)) ?_
  refine TL.call0 (Wants.none rfl) rfl enters24 rfl rfl (v := .agg ([Value.int .i64 k, Value.int .i64 t, Value.int .i64 f, Value.int .i64 l, Value.slice none 0 0]).toArray) (fun w hs => clone_nil k t f l 0 c w) ?_
  refine TL.alloc (Wants.none rfl) rfl rfl zero27 (cs := [Value.int .i64 0, Value.int .i64 0, Value.int .i64 0, Value.int .i64 0, Value.slice none 0 0]) rfl (tot := 5) (by simp) (fun g3 hg3 => ?_)
  refine TL.storeW (Wants.none rfl) rfl rfl size27 rfl (vs := [Value.int .i64 k, Value.int .i64 t, Value.int .i64 f, Value.int .i64 l, Value.slice none 0 0]) rfl (by simp []) (by simp [Value.oneCell']) (i := 0) (ent := ⟨g3, 27, [Value.int .i64 0, Value.int .i64 0, Value.int .i64 0, Value.int .i64 0, Value.slice none 0 0], 5⟩) rfl rfl (by simp []) (H' := [⟨g3, 27, [Value.int .i64 k, Value.int .i64 t, Value.int .i64 f, Value.int .i64 l, Value.slice none 0 0], 5⟩, ⟨g2, 27, [Value.int .i64 k2, Value.int .i64 t2, Value.int .i64 f2, Value.int .i64 l2, Value.slice A2 m2 c2], 5⟩, ⟨g1, 27, [Value.int .i64 k, Value.int .i64 t, Value.int .i64 f, Value.int .i64 l, Value.slice none 0 c], 5⟩]) rfl ?_
  refine TL.nil ?_
  refine TE.then ?_
  refine TC.seq ?_
  refine TC.seq ?_
  refine TC.mix (by kernel_rfl) [1, 1, 1, 1, 1, 1, 0, 0, 1, 1, 1, 0, 0] rfl (by kernel_rfl) ?_
  refine TM.gets (Wants.none rfl) rfl (Gets.loadN rfl agg27 size27 rfl (vs := [Value.int .i64 k, Value.int .i64 t, Value.int .i64 f, Value.int .i64 l, Value.slice none 0 c]) (by simp []) (Row.all (i := 2) (ent := ⟨g1, 27, [Value.int .i64 k, Value.int .i64 t, Value.int .i64 f, Value.int .i64 l, Value.slice none 0 c], 5⟩) rfl rfl rfl)) ?_
  refine TM.gets (Wants.none rfl) rfl (Gets.loadN rfl agg27 size27 rfl (vs := [Value.int .i64 k2, Value.int .i64 t2, Value.int .i64 f2, Value.int .i64 l2, Value.slice A2 m2 c2]) (by simp []) (Row.all (i := 1) (ent := ⟨g2, 27, [Value.int .i64 k2, Value.int .i64 t2, Value.int .i64 f2, Value.int .i64 l2, Value.slice A2 m2 c2], 5⟩) rfl rfl rfl)) ?_
  refine TM.call0 (Wants.none rfl) rfl enters25 rfl rfl (v := .bool (decide (sameP k t f l k2 t2 f2 l2 ([] : List Int) B2))) (fun w hs => same_c k t f l k2 t2 f2 l2 none A2 0 c m2 c2 ([] : List Int) B2 bytes_no hB2 w src_no (hsB.at_ hs (fun b hb => (ne_cons (by show g3 ≠ b; omega) (ne_cons (by show g2 ≠ b; omega) (ne_cons (by show g1 ≠ b; omega) ne_nil)))))) ?_
  refine TM.gets (Wants.none rfl) rfl (Gets.loadN rfl agg27 size27 rfl (vs := [Value.int .i64 k, Value.int .i64 t, Value.int .i64 f, Value.int .i64 l, Value.slice none 0 c]) (by simp []) (Row.all (i := 2) (ent := ⟨g1, 27, [Value.int .i64 k, Value.int .i64 t, Value.int .i64 f, Value.int .i64 l, Value.slice none 0 c], 5⟩) rfl rfl rfl)) ?_
  refine TM.gets (Wants.none rfl) rfl (Gets.loadN rfl agg27 size27 rfl (vs := [Value.int .i64 k2, Value.int .i64 t2, Value.int .i64 f2, Value.int .i64 l2, Value.slice A2 m2 c2]) (by simp []) (Row.all (i := 1) (ent := ⟨g2, 27, [Value.int .i64 k2, Value.int .i64 t2, Value.int .i64 f2, Value.int .i64 l2, Value.slice A2 m2 c2], 5⟩) rfl rfl rfl)) ?_
  refine TM.call0 (Wants.none rfl) rfl enters12 rfl rfl (v := .bool (decide (sameP k t f l k2 t2 f2 l2 ([] : List Int) B2))) (fun w hs => rsame_c k t f l k2 t2 f2 l2 none A2 0 c m2 c2 ([] : List Int) B2 bytes_no hB2 w src_no (hsB.at_ hs (fun b hb => (ne_cons (by show g3 ≠ b; omega) (ne_cons (by show g2 ≠ b; omega) (ne_cons (by show g1 ≠ b; omega) ne_nil)))))) ?_
  refine TM.free (Wants.none rfl) rfl (fun _ => Gets.isFalse (Gets.boolNeP rfl Try.underlying4 rfl rfl) (fun h => h Iff.rfl)) ?_
  refine TM.free (Wants.none rfl) rfl (fun _ => Gets.move rfl rfl) ?_
  refine TM.gets (Wants.yes rfl rfl rfl) rfl (Gets.loadN rfl agg27 size27 rfl (vs := [Value.int .i64 k, Value.int .i64 t, Value.int .i64 f, Value.int .i64 l, Value.slice none 0 0]) (by simp []) (Row.all (i := 0) (ent := ⟨g3, 27, [Value.int .i64 k, Value.int .i64 t, Value.int .i64 f, Value.int .i64 l, Value.slice none 0 0], 5⟩) rfl rfl rfl)) ?_
  refine TM.gets (Wants.yes rfl rfl rfl) rfl (Gets.loadN rfl agg27 size27 rfl (vs := [Value.int .i64 k, Value.int .i64 t, Value.int .i64 f, Value.int .i64 l, Value.slice none 0 c]) (by simp []) (Row.all (i := 2) (ent := ⟨g1, 27, [Value.int .i64 k, Value.int .i64 t, Value.int .i64 f, Value.int .i64 l, Value.slice none 0 c], 5⟩) rfl rfl rfl)) ?_
  refine TM.call0 (Wants.yes rfl rfl rfl) rfl enters12 rfl rfl (v := .bool true) (fun w hs => (rsame_c k t f l k t f l none none 0 0 0 c ([] : List Int) ([] : List Int) bytes_no bytes_no w src_no src_no).mono fun e w' h => by rw [decide_eq_true (p := sameP k t f l k t f l ([] : List Int) ([] : List Int)) ⟨rfl, rfl, rfl, rfl, rfl⟩] at h; exact h) ?_
  refine TM.free (Wants.yes rfl rfl rfl) rfl (fun _ => Gets.not rfl rfl) ?_
  refine TM.free (Wants.none rfl) rfl (fun _ => Gets.pickF rfl rfl rfl) ?_
  refine TM.nil ?_
  refine TE.then ?_
  refine TC.sub (Sub.cons (i := 2) rfl (Sub.cons (i := 4) rfl (Sub.cons (i := 5) rfl (Sub.cons (i := 33) rfl (Sub.nil))))) ?_
  refine TC.no rfl ?_
  refine TC.skip ?_
  refine TE.then ?_
  refine TC.seq ?_
  refine TC.regionL ?_
  refine TL.gets (Wants.none rfl) rfl (Gets.loadN rfl agg27 size27 rfl (vs := [Value.int .i64 k, Value.int .i64 t, Value.int .i64 f, Value.int .i64 l, Value.slice none 0 0]) (by simp []) (Row.all (i := 0) (ent := ⟨g3, 27, [Value.int .i64 k, Value.int .i64 t, Value.int .i64 f, Value.int .i64 l, Value.slice none 0 0], 5⟩) rfl rfl rfl)) ?_
  refine TL.call0 (Wants.none rfl) rfl enters24 rfl rfl (v := .agg ([Value.int .i64 k, Value.int .i64 t, Value.int .i64 f, Value.int .i64 l, Value.slice none 0 0]).toArray) (fun w hs => clone_nil k t f l 0 0 w) ?_
  refine TL.alloc (Wants.none rfl) rfl rfl zero27 (cs := [Value.int .i64 0, Value.int .i64 0, Value.int .i64 0, Value.int .i64 0, Value.slice none 0 0]) rfl (tot := 5) (by simp) (fun g4 hg4 => ?_)
  refine TL.storeW (Wants.none rfl) rfl rfl size27 rfl (vs := [Value.int .i64 k, Value.int .i64 t, Value.int .i64 f, Value.int .i64 l, Value.slice none 0 0]) rfl (by simp []) (by simp [Value.oneCell']) (i := 0) (ent := ⟨g4, 27, [Value.int .i64 0, Value.int .i64 0, Value.int .i64 0, Value.int .i64 0, Value.slice none 0 0], 5⟩) rfl rfl (by simp []) (H' := [⟨g4, 27, [Value.int .i64 k, Value.int .i64 t, Value.int .i64 f, Value.int .i64 l, Value.slice none 0 0], 5⟩, ⟨g3, 27, [Value.int .i64 k, Value.int .i64 t, Value.int .i64 f, Value.int .i64 l, Value.slice none 0 0], 5⟩, ⟨g2, 27, [Value.int .i64 k2, Value.int .i64 t2, Value.int .i64 f2, Value.int .i64 l2, Value.slice A2 m2 c2], 5⟩, ⟨g1, 27, [Value.int .i64 k, Value.int .i64 t, Value.int .i64 f, Value.int .i64 l, Value.slice none 0 c], 5⟩]) rfl ?_
  refine TL.nil ?_
  refine TE.then ?_
  refine TC.seq ?_
  refine TC.seq ?_
  refine TC.regionL ?_
  refine TL.gets (Wants.none rfl) rfl (Gets.fieldAddr rfl Try.underlying27 rfl size25 rfl (off' := 4) (by first | rfl | omega)) ?_
  refine TL.gets (Wants.none rfl) rfl (Gets.load1 rfl agg25 rfl (At.ent (i := 0) (ent := ⟨g4, 27, [Value.int .i64 k, Value.int .i64 t, Value.int .i64 f, Value.int .i64 l, Value.slice none 0 0], 5⟩) (off := 4) rfl rfl (by exact rfl))) ?_
  refine TL.gets (Wants.none rfl) rfl (Gets.lenSlice rfl Try.underlying25 rfl) ?_
  refine TL.gets (Wants.none rfl) rfl (Gets.move rfl rfl) ?_
  refine TL.nil ?_
  refine TE.then ?_
  refine TC.sub (Sub.cons (i := 2) rfl (Sub.cons (i := 4) rfl (Sub.cons (i := 5) rfl (Sub.cons (i := 6) rfl (Sub.cons (i := 38) rfl (Sub.cons (i := 39) rfl (Sub.nil))))))) ?_
  refine TC.block ?_
  refine TC.loop (ι := Nat) (fun i => [(2, .pointer (some ⟨g1, 0, none⟩)), (5, .pointer (some ⟨g3, 0, none⟩)), (38, .int .i64 0), (39, .int .i64 (i : Int))]) (fun i => [⟨g4, 27, [Value.int .i64 k, Value.int .i64 t, Value.int .i64 f, Value.int .i64 l, Value.slice none 0 0], 5⟩, ⟨g3, 27, [Value.int .i64 k, Value.int .i64 t, Value.int .i64 f, Value.int .i64 l, Value.slice none 0 0], 5⟩, ⟨g2, 27, [Value.int .i64 k2, Value.int .i64 t2, Value.int .i64 f2, Value.int .i64 l2, Value.slice A2 m2 c2], 5⟩, ⟨g1, 27, [Value.int .i64 k, Value.int .i64 t, Value.int .i64 f, Value.int .i64 l, Value.slice none 0 c], 5⟩]) (fun i => 0) (fun i => i = 0) 0 rfl (Sub.cons (i := 2) rfl (Sub.cons (i := 5) rfl (Sub.int (i := 38) rfl (by first | omega | rfl) (Sub.int (i := 39) rfl (by first | omega | rfl) (Sub.nil))))) (fun w h => h) (fun i hC0 => ?_)
  refine TC.seq ?_
  refine TC.regionL ?_
  refine TL.gets (Wants.none rfl) rfl (Gets.lss rfl rfl rfl) ?_
  refine TL.nil ?_
  refine TE.then ?_
  refine TC.seq ?_
  refine TC.split rfl (fun hq2 => ?_) (fun hq2 => ?_)
  · exfalso; omega
  · refine TC.exit ?_
    refine TE.thenX ?_
    refine TE.thenX ?_
    refine TE.blockX ?_
    refine TE.then ?_
    refine TC.seq ?_
    refine TC.regionL ?_
    refine TL.call0 (Wants.none rfl) rfl enters9 rfl rfl (v := .bool true) (fun w hs => alive_c w) ?_
    refine TL.gets (Wants.none rfl) rfl (Gets.move rfl rfl) ?_
    refine TL.gets (Wants.yes rfl rfl rfl) rfl (Gets.loadN rfl agg27 size27 rfl (vs := [Value.int .i64 k, Value.int .i64 t, Value.int .i64 f, Value.int .i64 l, Value.slice none 0 0]) (by simp []) (Row.all (i := 1) (ent := ⟨g3, 27, [Value.int .i64 k, Value.int .i64 t, Value.int .i64 f, Value.int .i64 l, Value.slice none 0 0], 5⟩) rfl rfl rfl)) ?_
    refine TL.gets (Wants.yes rfl rfl rfl) rfl (Gets.loadN rfl agg27 size27 rfl (vs := [Value.int .i64 k, Value.int .i64 t, Value.int .i64 f, Value.int .i64 l, Value.slice none 0 c]) (by simp []) (Row.all (i := 3) (ent := ⟨g1, 27, [Value.int .i64 k, Value.int .i64 t, Value.int .i64 f, Value.int .i64 l, Value.slice none 0 c], 5⟩) rfl rfl rfl)) ?_
    refine TL.call0 (Wants.yes rfl rfl rfl) rfl enters12 rfl rfl (v := .bool true) (fun w hs => (rsame_c k t f l k t f l none none 0 0 0 c ([] : List Int) ([] : List Int) bytes_no bytes_no w src_no src_no).mono fun e w' h => by rw [decide_eq_true (p := sameP k t f l k t f l ([] : List Int) ([] : List Int)) ⟨rfl, rfl, rfl, rfl, rfl⟩] at h; exact h) ?_
    refine TL.gets (Wants.none rfl) rfl (Gets.pickT rfl rfl rfl) ?_
    refine TL.gets (Wants.none rfl) rfl (Gets.assign rfl rfl) ?_
    refine TL.nil ?_
    refine TE.then ?_
    refine TC.ret ?_
    exact TE.ret1 rfl rfl (fun w hs => ⟨rfl, ((((hs.drop (by assumption)).drop (by assumption)).drop (by assumption)).drop (by assumption))⟩)

set_option maxRecDepth 100000 in
set_option maxHeartbeats 1000000 in
theorem same_some (k t f l k2 t2 f2 l2 : Int) (ad : Addr) (A2 : Option Addr) (m c m2 c2 : Nat) (B B2 : List Int) (hb1 : m ≤ 1000) (hb : m2 ≤ 1000) (hmc : m ≤ c) (hB : Bytes B) (hB2 : Bytes B2) (w : World) (hsA : Src w (some ad) m .u8 B) (hsB : Src w A2 m2 .u8 B2) : Calls Try.prog 8 #[.agg ([Value.int .i64 k, Value.int .i64 t, Value.int .i64 f, Value.int .i64 l, Value.slice (some ad) m c]).toArray, .agg ([Value.int .i64 k2, Value.int .i64 t2, Value.int .i64 f2, Value.int .i64 l2, Value.slice A2 m2 c2]).toArray] w fun e w' => e = .returned (.bool true) ∧ St w [] w' := by
  refine calls_from (args := [.agg ([Value.int .i64 k, Value.int .i64 t, Value.int .i64 f, Value.int .i64 l, Value.slice (some ad) m c]).toArray, .agg ([Value.int .i64 k2, Value.int .i64 t2, Value.int .i64 f2, Value.int .i64 l2, Value.slice A2 m2 c2]).toArray]) Try.func8 rfl Try.ntmps8 (by simp) ?_
  refine TC.sub (Sub.cons (i := 0) rfl (Sub.cons (i := 1) rfl (Sub.nil))) ?_
  refine TC.seq ?_
  refine TC.regionL ?_
  refine TL.box (Wants.none rfl) rfl rfl rfl (cs := [Value.int .i64 k, Value.int .i64 t, Value.int .i64 f, Value.int .i64 l, Value.slice (some ad) m c]) (by simp [Value.cells]) (tot := 5) (by simp []) (fun g1 hg1 => ?_)
  refine TL.box (Wants.none rfl) rfl rfl rfl (cs := [Value.int .i64 k2, Value.int .i64 t2, Value.int .i64 f2, Value.int .i64 l2, Value.slice A2 m2 c2]) (by simp [Value.cells]) (tot := 5) (by simp []) (fun g2 hg2 => ?_)
  refine TL.gets (Wants.none rfl) rfl (Gets.assign rfl rfl) ?_
  refine TL.nil ?_
  refine TE.then ?_
  refine TC.seq ?_
  refine TC.seq ?_
  refine TC.regionL ?_
  refine TL.gets (Wants.none rfl) rfl (Gets.fieldAddr rfl Try.underlying27 rfl size25 rfl (off' := 4) (by first | rfl | omega)) ?_
  refine TL.gets (Wants.none rfl) rfl (Gets.load1 rfl agg25 rfl (At.ent (i := 1) (ent := ⟨g1, 27, [Value.int .i64 k, Value.int .i64 t, Value.int .i64 f, Value.int .i64 l, Value.slice (some ad) m c], 5⟩) (off := 4) rfl rfl (by exact rfl))) ?_
  refine TL.gets (Wants.none rfl) rfl (Gets.lenSlice rfl Try.underlying25 rfl) ?_
  refine TL.gets (Wants.none rfl) rfl (Gets.isFalse (Gets.gtr rfl rfl rfl) (by omega)) ?_
  refine TL.gets (Wants.none rfl) rfl (Gets.move rfl rfl) ?_
  refine TL.gets (Wants.yes rfl rfl rfl) rfl (Gets.fieldAddr rfl Try.underlying27 rfl size25 rfl (off' := 4) (by first | rfl | omega)) ?_
  refine TL.gets (Wants.yes rfl rfl rfl) rfl (Gets.load1 rfl agg25 rfl (At.ent (i := 0) (ent := ⟨g2, 27, [Value.int .i64 k2, Value.int .i64 t2, Value.int .i64 f2, Value.int .i64 l2, Value.slice A2 m2 c2], 5⟩) (off := 4) rfl rfl (by exact rfl))) ?_
  refine TL.gets (Wants.yes rfl rfl rfl) rfl (Gets.lenSlice rfl Try.underlying25 rfl) ?_
  refine TL.gets (Wants.yes rfl rfl rfl) rfl (Gets.isFalse (Gets.gtr rfl rfl rfl) (by omega)) ?_
  refine TL.gets (Wants.none rfl) rfl (Gets.pickF rfl rfl rfl) ?_
  refine TL.nil ?_
  refine TE.then ?_
  refine TC.sub (Sub.cons (i := 2) rfl (Sub.cons (i := 3) rfl (Sub.cons (i := 4) rfl (Sub.cons (i := 17) rfl (Sub.nil))))) ?_
  refine TC.no rfl ?_
  refine TC.skip ?_
  refine TE.then ?_
  refine TC.seq ?_
  refine TC.regionL ?_
  refine TL.gets (Wants.none rfl) rfl (Gets.loadN rfl agg27 size27 rfl (vs := [Value.int .i64 k, Value.int .i64 t, Value.int .i64 f, Value.int .i64 l, Value.slice (some ad) m c]) (by simp []) (Row.all (i := 1) (ent := ⟨g1, 27, [Value.int .i64 k, Value.int .i64 t, Value.int .i64 f, Value.int .i64 l, Value.slice (some ad) m c], 5⟩) rfl rfl rfl)) ?_
  refine TL.call (ι := Nat × Nat) (V := fun yk => .agg ([Value.int .i64 k, Value.int .i64 t, Value.int .i64 f, Value.int .i64 l, Value.slice (some ⟨yk.1, 0, none⟩) m yk.2]).toArray) (R := fun yk => (m ≤ yk.2 ∧ yk.2 ≤ maxLen) ∧ w.heap.size ≤ (⟨yk.1, 5, B.map (Value.int .u8), yk.2⟩ : Ent).g) (H' := fun yk => [⟨yk.1, 5, B.map (Value.int .u8), yk.2⟩, ⟨g2, 27, [Value.int .i64 k2, Value.int .i64 t2, Value.int .i64 f2, Value.int .i64 l2, Value.slice A2 m2 c2], 5⟩, ⟨g1, 27, [Value.int .i64 k, Value.int .i64 t, Value.int .i64 f, Value.int .i64 l, Value.slice (some ad) m c], 5⟩]) (Wants.none rfl) rfl enters24 rfl rfl (fun w hs => (show Calls Try.prog 24 #[.agg ([Value.int .i64 k, Value.int .i64 t, Value.int .i64 f, Value.int .i64 l, Value.slice (some ad) m c]).toArray] w (fun e w' => ∃ yk : Nat × Nat, e = .returned (.agg ([Value.int .i64 k, Value.int .i64 t, Value.int .i64 f, Value.int .i64 l, Value.slice (some ⟨yk.1, 0, none⟩) m yk.2]).toArray) ∧ (m ≤ yk.2 ∧ yk.2 ≤ maxLen) ∧ w.heap.size ≤ (⟨yk.1, 5, B.map (Value.int .u8), yk.2⟩ : Ent).g ∧ St w [⟨yk.1, 5, B.map (Value.int .u8), yk.2⟩] w') from (clone_some k t f l ad m c B w (hsA.at_ hs (fun b hb => (ne_cons (by show g2 ≠ b; omega) (ne_cons (by show g1 ≠ b; omega) ne_nil)))) (by omega) (by omega)).mono fun e w' ⟨gv, cv, he, hgv, hcv, hmv, hw⟩ => ⟨(gv, cv), he, ⟨hcv, hmv⟩, hgv, hw⟩).mono fun e w' ⟨x, he, hR, hE, hw⟩ => ⟨x, he, ⟨hR, Nat.le_trans hs.size hE⟩, hs.made hw hE⟩) (fun yk ⟨hRk, hEk⟩ => ?_)
  obtain ⟨gk, ck⟩ := yk
  dsimp only at hRk hEk ⊢
  obtain ⟨hck, hmk⟩ := hRk
  unfold maxLen at hmk
  refine TL.alloc (Wants.none rfl) rfl rfl zero27 (cs := [Value.int .i64 0, Value.int .i64 0, Value.int .i64 0, Value.int .i64 0, Value.slice none 0 0]) rfl (tot := 5) (by simp) (fun g3 hg3 => ?_)
  refine TL.storeW (Wants.none rfl) rfl rfl size27 rfl (vs := [Value.int .i64 k, Value.int .i64 t, Value.int .i64 f, Value.int .i64 l, Value.slice (some ⟨gk, 0, none⟩) m ck]) rfl (by simp []) (by simp [Value.oneCell']) (i := 0) (ent := ⟨g3, 27, [Value.int .i64 0, Value.int .i64 0, Value.int .i64 0, Value.int .i64 0, Value.slice none 0 0], 5⟩) rfl rfl (by simp []) (H' := [⟨g3, 27, [Value.int .i64 k, Value.int .i64 t, Value.int .i64 f, Value.int .i64 l, Value.slice (some ⟨gk, 0, none⟩) m ck], 5⟩, ⟨gk, 5, B.map (Value.int .u8), ck⟩, ⟨g2, 27, [Value.int .i64 k2, Value.int .i64 t2, Value.int .i64 f2, Value.int .i64 l2, Value.slice A2 m2 c2], 5⟩, ⟨g1, 27, [Value.int .i64 k, Value.int .i64 t, Value.int .i64 f, Value.int .i64 l, Value.slice (some ad) m c], 5⟩]) rfl ?_
  refine TL.nil ?_
  refine TE.then ?_
  refine TC.seq ?_
  refine TC.seq ?_
  refine TC.mix (by kernel_rfl) [1, 1, 1, 1, 1, 1, 0, 0, 1, 1, 1, 0, 0] rfl (by kernel_rfl) ?_
  refine TM.gets (Wants.none rfl) rfl (Gets.loadN rfl agg27 size27 rfl (vs := [Value.int .i64 k, Value.int .i64 t, Value.int .i64 f, Value.int .i64 l, Value.slice (some ad) m c]) (by simp []) (Row.all (i := 3) (ent := ⟨g1, 27, [Value.int .i64 k, Value.int .i64 t, Value.int .i64 f, Value.int .i64 l, Value.slice (some ad) m c], 5⟩) rfl rfl rfl)) ?_
  refine TM.gets (Wants.none rfl) rfl (Gets.loadN rfl agg27 size27 rfl (vs := [Value.int .i64 k2, Value.int .i64 t2, Value.int .i64 f2, Value.int .i64 l2, Value.slice A2 m2 c2]) (by simp []) (Row.all (i := 2) (ent := ⟨g2, 27, [Value.int .i64 k2, Value.int .i64 t2, Value.int .i64 f2, Value.int .i64 l2, Value.slice A2 m2 c2], 5⟩) rfl rfl rfl)) ?_
  refine TM.call0 (Wants.none rfl) rfl enters25 rfl rfl (v := .bool (decide (sameP k t f l k2 t2 f2 l2 B B2))) (fun w hs => same_c k t f l k2 t2 f2 l2 (some ad) A2 m c m2 c2 B B2 hB hB2 w (hsA.at_ hs (fun b hb => (ne_cons (by show g3 ≠ b; omega) (ne_cons (by show gk ≠ b; omega) (ne_cons (by show g2 ≠ b; omega) (ne_cons (by show g1 ≠ b; omega) ne_nil)))))) (hsB.at_ hs (fun b hb => (ne_cons (by show g3 ≠ b; omega) (ne_cons (by show gk ≠ b; omega) (ne_cons (by show g2 ≠ b; omega) (ne_cons (by show g1 ≠ b; omega) ne_nil))))))) ?_
  refine TM.gets (Wants.none rfl) rfl (Gets.loadN rfl agg27 size27 rfl (vs := [Value.int .i64 k, Value.int .i64 t, Value.int .i64 f, Value.int .i64 l, Value.slice (some ad) m c]) (by simp []) (Row.all (i := 3) (ent := ⟨g1, 27, [Value.int .i64 k, Value.int .i64 t, Value.int .i64 f, Value.int .i64 l, Value.slice (some ad) m c], 5⟩) rfl rfl rfl)) ?_
  refine TM.gets (Wants.none rfl) rfl (Gets.loadN rfl agg27 size27 rfl (vs := [Value.int .i64 k2, Value.int .i64 t2, Value.int .i64 f2, Value.int .i64 l2, Value.slice A2 m2 c2]) (by simp []) (Row.all (i := 2) (ent := ⟨g2, 27, [Value.int .i64 k2, Value.int .i64 t2, Value.int .i64 f2, Value.int .i64 l2, Value.slice A2 m2 c2], 5⟩) rfl rfl rfl)) ?_
  refine TM.call0 (Wants.none rfl) rfl enters12 rfl rfl (v := .bool (decide (sameP k t f l k2 t2 f2 l2 B B2))) (fun w hs => rsame_c k t f l k2 t2 f2 l2 (some ad) A2 m c m2 c2 B B2 hB hB2 w (hsA.at_ hs (fun b hb => (ne_cons (by show g3 ≠ b; omega) (ne_cons (by show gk ≠ b; omega) (ne_cons (by show g2 ≠ b; omega) (ne_cons (by show g1 ≠ b; omega) ne_nil)))))) (hsB.at_ hs (fun b hb => (ne_cons (by show g3 ≠ b; omega) (ne_cons (by show gk ≠ b; omega) (ne_cons (by show g2 ≠ b; omega) (ne_cons (by show g1 ≠ b; omega) ne_nil))))))) ?_
  refine TM.free (Wants.none rfl) rfl (fun _ => Gets.isFalse (Gets.boolNeP rfl Try.underlying4 rfl rfl) (fun h => h Iff.rfl)) ?_
  refine TM.free (Wants.none rfl) rfl (fun _ => Gets.move rfl rfl) ?_
  refine TM.gets (Wants.yes rfl rfl rfl) rfl (Gets.loadN rfl agg27 size27 rfl (vs := [Value.int .i64 k, Value.int .i64 t, Value.int .i64 f, Value.int .i64 l, Value.slice (some ⟨gk, 0, none⟩) m ck]) (by simp []) (Row.all (i := 0) (ent := ⟨g3, 27, [Value.int .i64 k, Value.int .i64 t, Value.int .i64 f, Value.int .i64 l, Value.slice (some ⟨gk, 0, none⟩) m ck], 5⟩) rfl rfl rfl)) ?_
  refine TM.gets (Wants.yes rfl rfl rfl) rfl (Gets.loadN rfl agg27 size27 rfl (vs := [Value.int .i64 k, Value.int .i64 t, Value.int .i64 f, Value.int .i64 l, Value.slice (some ad) m c]) (by simp []) (Row.all (i := 3) (ent := ⟨g1, 27, [Value.int .i64 k, Value.int .i64 t, Value.int .i64 f, Value.int .i64 l, Value.slice (some ad) m c], 5⟩) rfl rfl rfl)) ?_
  refine TM.call0 (Wants.yes rfl rfl rfl) rfl enters12 rfl rfl (v := .bool true) (fun w hs => (rsame_c k t f l k t f l (some ⟨gk, 0, none⟩) (some ad) m ck m c B B hB hB w (src_ent (hs.has (⟨gk, 5, B.map (Value.int .u8), ck⟩) (by simp)) hsA.1) (hsA.at_ hs (fun b hb => (ne_cons (by show g3 ≠ b; omega) (ne_cons (by show gk ≠ b; omega) (ne_cons (by show g2 ≠ b; omega) (ne_cons (by show g1 ≠ b; omega) ne_nil))))))).mono fun e w' h => by rw [decide_eq_true (p := sameP k t f l k t f l B B) ⟨rfl, rfl, rfl, rfl, rfl⟩] at h; exact h) ?_
  refine TM.free (Wants.yes rfl rfl rfl) rfl (fun _ => Gets.not rfl rfl) ?_
  refine TM.free (Wants.none rfl) rfl (fun _ => Gets.pickF rfl rfl rfl) ?_
  refine TM.nil ?_
  refine TE.then ?_
  refine TC.sub (Sub.cons (i := 2) rfl (Sub.cons (i := 4) rfl (Sub.cons (i := 5) rfl (Sub.cons (i := 33) rfl (Sub.nil))))) ?_
  refine TC.no rfl ?_
  refine TC.skip ?_
  refine TE.then ?_
  refine TC.seq ?_
  refine TC.regionL ?_
  refine TL.gets (Wants.none rfl) rfl (Gets.loadN rfl agg27 size27 rfl (vs := [Value.int .i64 k, Value.int .i64 t, Value.int .i64 f, Value.int .i64 l, Value.slice (some ⟨gk, 0, none⟩) m ck]) (by simp []) (Row.all (i := 0) (ent := ⟨g3, 27, [Value.int .i64 k, Value.int .i64 t, Value.int .i64 f, Value.int .i64 l, Value.slice (some ⟨gk, 0, none⟩) m ck], 5⟩) rfl rfl rfl)) ?_
  refine TL.call (ι := Nat × Nat) (V := fun yy => .agg ([Value.int .i64 k, Value.int .i64 t, Value.int .i64 f, Value.int .i64 l, Value.slice (some ⟨yy.1, 0, none⟩) m yy.2]).toArray) (R := fun yy => (m ≤ yy.2 ∧ yy.2 ≤ maxLen) ∧ w.heap.size ≤ (⟨yy.1, 5, B.map (Value.int .u8), yy.2⟩ : Ent).g) (H' := fun yy => [⟨yy.1, 5, B.map (Value.int .u8), yy.2⟩, ⟨g3, 27, [Value.int .i64 k, Value.int .i64 t, Value.int .i64 f, Value.int .i64 l, Value.slice (some ⟨gk, 0, none⟩) m ck], 5⟩, ⟨gk, 5, B.map (Value.int .u8), ck⟩, ⟨g2, 27, [Value.int .i64 k2, Value.int .i64 t2, Value.int .i64 f2, Value.int .i64 l2, Value.slice A2 m2 c2], 5⟩, ⟨g1, 27, [Value.int .i64 k, Value.int .i64 t, Value.int .i64 f, Value.int .i64 l, Value.slice (some ad) m c], 5⟩]) (Wants.none rfl) rfl enters24 rfl rfl (fun w hs => (show Calls Try.prog 24 #[.agg ([Value.int .i64 k, Value.int .i64 t, Value.int .i64 f, Value.int .i64 l, Value.slice (some ⟨gk, 0, none⟩) m ck]).toArray] w (fun e w' => ∃ yy : Nat × Nat, e = .returned (.agg ([Value.int .i64 k, Value.int .i64 t, Value.int .i64 f, Value.int .i64 l, Value.slice (some ⟨yy.1, 0, none⟩) m yy.2]).toArray) ∧ (m ≤ yy.2 ∧ yy.2 ≤ maxLen) ∧ w.heap.size ≤ (⟨yy.1, 5, B.map (Value.int .u8), yy.2⟩ : Ent).g ∧ St w [⟨yy.1, 5, B.map (Value.int .u8), yy.2⟩] w') from (clone_some k t f l ⟨gk, 0, none⟩ m ck B w (src_ent (hs.has (⟨gk, 5, B.map (Value.int .u8), ck⟩) (by simp)) hsA.1) (by omega) (by omega)).mono fun e w' ⟨gv, cv, he, hgv, hcv, hmv, hw⟩ => ⟨(gv, cv), he, ⟨hcv, hmv⟩, hgv, hw⟩).mono fun e w' ⟨x, he, hR, hE, hw⟩ => ⟨x, he, ⟨hR, Nat.le_trans hs.size hE⟩, hs.made hw hE⟩) (fun yy ⟨hRy, hEy⟩ => ?_)
  obtain ⟨gy, cy⟩ := yy
  dsimp only at hRy hEy ⊢
  obtain ⟨hcy, hmy⟩ := hRy
  unfold maxLen at hmy
  refine TL.alloc (Wants.none rfl) rfl rfl zero27 (cs := [Value.int .i64 0, Value.int .i64 0, Value.int .i64 0, Value.int .i64 0, Value.slice none 0 0]) rfl (tot := 5) (by simp) (fun g4 hg4 => ?_)
  refine TL.storeW (Wants.none rfl) rfl rfl size27 rfl (vs := [Value.int .i64 k, Value.int .i64 t, Value.int .i64 f, Value.int .i64 l, Value.slice (some ⟨gy, 0, none⟩) m cy]) rfl (by simp []) (by simp [Value.oneCell']) (i := 0) (ent := ⟨g4, 27, [Value.int .i64 0, Value.int .i64 0, Value.int .i64 0, Value.int .i64 0, Value.slice none 0 0], 5⟩) rfl rfl (by simp []) (H' := [⟨g4, 27, [Value.int .i64 k, Value.int .i64 t, Value.int .i64 f, Value.int .i64 l, Value.slice (some ⟨gy, 0, none⟩) m cy], 5⟩, ⟨gy, 5, B.map (Value.int .u8), cy⟩, ⟨g3, 27, [Value.int .i64 k, Value.int .i64 t, Value.int .i64 f, Value.int .i64 l, Value.slice (some ⟨gk, 0, none⟩) m ck], 5⟩, ⟨gk, 5, B.map (Value.int .u8), ck⟩, ⟨g2, 27, [Value.int .i64 k2, Value.int .i64 t2, Value.int .i64 f2, Value.int .i64 l2, Value.slice A2 m2 c2], 5⟩, ⟨g1, 27, [Value.int .i64 k, Value.int .i64 t, Value.int .i64 f, Value.int .i64 l, Value.slice (some ad) m c], 5⟩]) rfl ?_
  refine TL.nil ?_
  refine TE.then ?_
  refine TC.seq ?_
  refine TC.seq ?_
  refine TC.regionL ?_
  refine TL.gets (Wants.none rfl) rfl (Gets.fieldAddr rfl Try.underlying27 rfl size25 rfl (off' := 4) (by first | rfl | omega)) ?_
  refine TL.gets (Wants.none rfl) rfl (Gets.load1 rfl agg25 rfl (At.ent (i := 0) (ent := ⟨g4, 27, [Value.int .i64 k, Value.int .i64 t, Value.int .i64 f, Value.int .i64 l, Value.slice (some ⟨gy, 0, none⟩) m cy], 5⟩) (off := 4) rfl rfl (by exact rfl))) ?_
  refine TL.gets (Wants.none rfl) rfl (Gets.lenSlice rfl Try.underlying25 rfl) ?_
  refine TL.gets (Wants.none rfl) rfl (Gets.move rfl rfl) ?_
  refine TL.nil ?_
  refine TE.then ?_
  refine TC.sub (Sub.cons (i := 2) rfl (Sub.cons (i := 4) rfl (Sub.cons (i := 5) rfl (Sub.cons (i := 6) rfl (Sub.cons (i := 38) rfl (Sub.cons (i := 39) rfl (Sub.nil))))))) ?_
  refine TC.block ?_
  refine TC.loop (ι := Nat) (fun i => [(2, .pointer (some ⟨g1, 0, none⟩)), (5, .pointer (some ⟨g3, 0, none⟩)), (6, .pointer (some ⟨g4, 0, none⟩)), (38, .int .i64 (m : Int)), (39, .int .i64 (i : Int))]) (fun i => [⟨g4, 27, [Value.int .i64 k, Value.int .i64 t, Value.int .i64 f, Value.int .i64 l, Value.slice (some ⟨gy, 0, none⟩) m cy], 5⟩, ⟨gy, 5, (bump B i).map (Value.int .u8), cy⟩, ⟨g3, 27, [Value.int .i64 k, Value.int .i64 t, Value.int .i64 f, Value.int .i64 l, Value.slice (some ⟨gk, 0, none⟩) m ck], 5⟩, ⟨gk, 5, B.map (Value.int .u8), ck⟩, ⟨g2, 27, [Value.int .i64 k2, Value.int .i64 t2, Value.int .i64 f2, Value.int .i64 l2, Value.slice A2 m2 c2], 5⟩, ⟨g1, 27, [Value.int .i64 k, Value.int .i64 t, Value.int .i64 f, Value.int .i64 l, Value.slice (some ad) m c], 5⟩]) (fun i => m - i) (fun i => i ≤ m) 0 (Nat.zero_le _) (Sub.cons (i := 2) rfl (Sub.cons (i := 5) rfl (Sub.cons (i := 6) rfl (Sub.int (i := 38) rfl (by first | omega | rfl) (Sub.int (i := 39) rfl (by first | omega | rfl) (Sub.nil)))))) (fun w h => h) (fun i hC0 => ?_)
  refine TC.seq ?_
  refine TC.regionL ?_
  refine TL.gets (Wants.none rfl) rfl (Gets.lss rfl rfl rfl) ?_
  refine TL.nil ?_
  refine TE.then ?_
  refine TC.seq ?_
  refine TC.split rfl (fun hq2 => ?_) (fun hq2 => ?_)
  · refine TC.skip ?_
    refine TE.then ?_
    refine TC.seq ?_
    refine TC.block ?_
    refine TC.seq ?_
    refine TC.regionL ?_
    refine TL.gets (Wants.none rfl) rfl (Gets.move rfl rfl) ?_
    refine TL.gets (Wants.none rfl) rfl (Gets.assign rfl rfl) ?_
    refine TL.nil ?_
    refine TE.then ?_
    refine TC.regionL ?_
    refine TL.gets (Wants.none rfl) rfl (Gets.fieldAddr rfl Try.underlying27 rfl size25 rfl (off' := 4) (by first | rfl | omega)) ?_
    refine TL.gets (Wants.none rfl) rfl (Gets.load1 rfl agg25 rfl (At.ent (i := 0) (ent := ⟨g4, 27, [Value.int .i64 k, Value.int .i64 t, Value.int .i64 f, Value.int .i64 l, Value.slice (some ⟨gy, 0, none⟩) m cy], 5⟩) (off := 4) rfl rfl (by exact rfl))) ?_
    refine TL.gets (Wants.none rfl) rfl (Gets.move rfl rfl) ?_
    refine TL.gets (Wants.none rfl) rfl (Gets.idxSlice rfl Try.underlying25 size5 rfl rfl (i := i) (by omega) (by omega) (off' := i) (by omega)) ?_
    refine TL.gets (Wants.none rfl) rfl (Gets.load1 rfl agg5 rfl (At.ent (i := 1) (ent := ⟨gy, 5, (bump B i).map (Value.int .u8), cy⟩) (off := i) rfl rfl (by have := ints_get (kd := .u8) (W := (bump B i)) (i := i) (by rw [(bump_len B hsA.1 i)]; omega); (first | exact this | (refine Eq.trans ?_ this; congr 1; omega))))) ?_
    refine TL.gets (Wants.none rfl) rfl (Gets.addU rfl rfl rfl) ?_
    refine TL.gets (Wants.none rfl) rfl (Gets.idxSlice rfl Try.underlying25 size5 rfl rfl (i := i) (by omega) (by omega) (off' := i) (by omega)) ?_
    refine TL.store1 (Wants.none rfl) rfl rfl size5 rfl rfl rfl (i := 1) rfl rfl (by simp [(bump_len B hsA.1 i)] <;> omega) (cs' := ((bump B i).set i (addW .u8 ((bump B i).getD i 0) 1)).map (Value.int .u8)) (ints_set) (H' := [⟨g4, 27, [Value.int .i64 k, Value.int .i64 t, Value.int .i64 f, Value.int .i64 l, Value.slice (some ⟨gy, 0, none⟩) m cy], 5⟩, ⟨gy, 5, ((bump B i).set i (addW .u8 ((bump B i).getD i 0) 1)).map (Value.int .u8), cy⟩, ⟨g3, 27, [Value.int .i64 k, Value.int .i64 t, Value.int .i64 f, Value.int .i64 l, Value.slice (some ⟨gk, 0, none⟩) m ck], 5⟩, ⟨gk, 5, B.map (Value.int .u8), ck⟩, ⟨g2, 27, [Value.int .i64 k2, Value.int .i64 t2, Value.int .i64 f2, Value.int .i64 l2, Value.slice A2 m2 c2], 5⟩, ⟨g1, 27, [Value.int .i64 k, Value.int .i64 t, Value.int .i64 f, Value.int .i64 l, Value.slice (some ad) m c], 5⟩]) rfl ?_
    refine TL.nil ?_
    refine TE.blockN ?_
    refine TE.then ?_
    refine TC.sub (Sub.cons (i := 2) rfl (Sub.cons (i := 5) rfl (Sub.cons (i := 6) rfl (Sub.cons (i := 38) rfl (Sub.cons (i := 39) rfl (Sub.nil)))))) ?_
    refine TC.regionL ?_
    refine TL.gets (Wants.none rfl) rfl (Gets.add rfl rfl rfl (r := ((i : Int) + 1)) (w64 (by omega) (by omega))) ?_
    refine TL.gets (Wants.none rfl) rfl (Gets.move rfl rfl) ?_
    refine TL.nil ?_
    exact TE.back (i + 1) (by omega) (by omega) (Sub.cons (i := 2) rfl (Sub.cons (i := 5) rfl (Sub.cons (i := 6) rfl (Sub.int (i := 38) rfl (by first | omega | rfl) (Sub.int (i := 39) rfl (by first | omega | rfl) (Sub.nil)))))) (fun w h => h)
  · refine TC.exit ?_
    refine TE.thenX ?_
    refine TE.thenX ?_
    refine TE.blockX ?_
    refine TE.then ?_
    refine TC.seq ?_
    refine TC.regionL ?_
    refine TL.call0 (Wants.none rfl) rfl enters9 rfl rfl (v := .bool true) (fun w hs => alive_c w) ?_
    refine TL.gets (Wants.none rfl) rfl (Gets.move rfl rfl) ?_
    refine TL.gets (Wants.yes rfl rfl rfl) rfl (Gets.loadN rfl agg27 size27 rfl (vs := [Value.int .i64 k, Value.int .i64 t, Value.int .i64 f, Value.int .i64 l, Value.slice (some ⟨gk, 0, none⟩) m ck]) (by simp []) (Row.all (i := 2) (ent := ⟨g3, 27, [Value.int .i64 k, Value.int .i64 t, Value.int .i64 f, Value.int .i64 l, Value.slice (some ⟨gk, 0, none⟩) m ck], 5⟩) rfl rfl rfl)) ?_
    refine TL.gets (Wants.yes rfl rfl rfl) rfl (Gets.loadN rfl agg27 size27 rfl (vs := [Value.int .i64 k, Value.int .i64 t, Value.int .i64 f, Value.int .i64 l, Value.slice (some ad) m c]) (by simp []) (Row.all (i := 5) (ent := ⟨g1, 27, [Value.int .i64 k, Value.int .i64 t, Value.int .i64 f, Value.int .i64 l, Value.slice (some ad) m c], 5⟩) rfl rfl rfl)) ?_
    refine TL.call0 (Wants.yes rfl rfl rfl) rfl enters12 rfl rfl (v := .bool true) (fun w hs => (rsame_c k t f l k t f l (some ⟨gk, 0, none⟩) (some ad) m ck m c B B hB hB w (src_ent (hs.has (⟨gk, 5, B.map (Value.int .u8), ck⟩) (by simp)) hsA.1) (hsA.at_ hs (fun b hb => (ne_cons (by show g4 ≠ b; omega) (ne_cons (by show gy ≠ b; omega) (ne_cons (by show g3 ≠ b; omega) (ne_cons (by show gk ≠ b; omega) (ne_cons (by show g2 ≠ b; omega) (ne_cons (by show g1 ≠ b; omega) ne_nil))))))))).mono fun e w' h => by rw [decide_eq_true (p := sameP k t f l k t f l B B) ⟨rfl, rfl, rfl, rfl, rfl⟩] at h; exact h) ?_
    refine TL.gets (Wants.none rfl) rfl (Gets.pickT rfl rfl rfl) ?_
    refine TL.gets (Wants.none rfl) rfl (Gets.assign rfl rfl) ?_
    refine TL.nil ?_
    refine TE.then ?_
    refine TC.ret ?_
    exact TE.ret1 rfl rfl (fun w hs => ⟨rfl, ((((((hs.drop (by assumption)).drop (by assumption)).drop (by assumption)).drop (by assumption)).drop (by assumption)).drop (by assumption))⟩)


theorem commandSame_walk (k t f l : Int) (A : Option Addr) (m c : Nat) (B : List Int) (k2 t2 f2 l2 : Int) (A2 : Option Addr) (m2 c2 : Nat) (B2 : List Int) (w : World) (bk : -9223372036854775808 ≤ k ∧ k ≤ 9223372036854775807) (bt : -9223372036854775808 ≤ t ∧ t ≤ 9223372036854775807) (bf : -9223372036854775808 ≤ f ∧ f ≤ 9223372036854775807) (bl : -9223372036854775808 ≤ l ∧ l ≤ 9223372036854775807) (hmc : m ≤ c) (hcm : c ≤ 140737488355327) (hB : Bytes B) (hsA : Src w A m .u8 B)
    (bk2 : -9223372036854775808 ≤ k2 ∧ k2 ≤ 9223372036854775807) (bt2 : -9223372036854775808 ≤ t2 ∧ t2 ≤ 9223372036854775807) (bf2 : -9223372036854775808 ≤ f2 ∧ f2 ≤ 9223372036854775807) (bl2 : -9223372036854775808 ≤ l2 ∧ l2 ≤ 9223372036854775807) (hmc2 : m2 ≤ c2) (hcm2 : c2 ≤ 140737488355327) (hB2 : Bytes B2) (hsB : Src w A2 m2 .u8 B2) :
    Calls Try.prog 8 #[.agg ([Value.int .i64 k, Value.int .i64 t, Value.int .i64 f, Value.int .i64 l, Value.slice A m c]).toArray, .agg ([Value.int .i64 k2, Value.int .i64 t2, Value.int .i64 f2, Value.int .i64 l2, Value.slice A2 m2 c2]).toArray] w fun e w' => e = .returned (.bool true) ∧ St w [] w' := by
  by_cases h1 : 1000 < m
  · exact same_big1 k t f l k2 t2 f2 l2 A A2 m c m2 c2 h1 w
  by_cases h2 : 1000 < m2
  · exact same_big2 k t f l k2 t2 f2 l2 A A2 m c m2 c2 (by omega) h2 w
  cases A with
  | none =>
    have hm : m = 0 := by
      rcases hsA.2 with h | ⟨b, off, h, _⟩
      · exact h
      · cases h
    subst hm
    exact same_nil k t f l k2 t2 f2 l2 A2 c m2 c2 B2 (by omega) hB2 w hsB
  | some ad => exact same_some k t f l k2 t2 f2 l2 ad A2 m c m2 c2 B B2 (by omega) (by omega) hmc hB hB2 w hsA hsB
end Go.Proofs.Ytehnkhgcbcfoeaa
