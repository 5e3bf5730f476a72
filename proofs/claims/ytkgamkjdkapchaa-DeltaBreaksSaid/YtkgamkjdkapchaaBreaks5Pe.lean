/-
  A slice of slices of bytes that came in, with the bounds of its numbers.
-/
import Derived.Test.YtkgamkjdkapchaaBreaks5Pd
import Derived.Test.YtkgamkjdkapchaaBreaks5Pc
import Derived.Test.YtkgamkjdkapchaaBreaks5Pa
import Derived.Test.YtkgamkjdkapchaaRows
import Derived.ProofKit
import Derived.LaidMore
import Derived.OpenShut
import Derived.ShutString
import Derived.ChangeOld
import Derived.Stop.Joined
import Derived.Carry
import Derived.Lib.SmallJoins
import Derived.Deep.Matrix
/-
  The code of layer 5: checkCommand, Check, Valid.
-/
namespace Go.Proofs.Ytkgamkjdkapchaa
set_option linter.unusedVariables false
set_option linter.unusedSimpArgs false
open Go Go.RowKit
theorem enters11 : Enters Try.prog 11 := ⟨_, Try.func11, by kernel_rfl, by kernel_rfl⟩
theorem enters31 : Enters Try.prog 31 := ⟨_, Try.func31, by kernel_rfl, by kernel_rfl⟩
theorem enters32 : Enters Try.prog 32 := ⟨_, Try.func32, by kernel_rfl, by kernel_rfl⟩
theorem enters33 : Enters Try.prog 33 := ⟨_, Try.func33, by kernel_rfl, by kernel_rfl⟩
theorem enters45 : Enters Try.prog 45 := ⟨_, Try.func45, by kernel_rfl, by kernel_rfl⟩
theorem enters46 : Enters Try.prog 46 := ⟨_, Try.func46, by kernel_rfl, by kernel_rfl⟩
theorem enters47 : Enters Try.prog 47 := ⟨_, Try.func47, by kernel_rfl, by kernel_rfl⟩
theorem geq32 : Try.prog.eqGuardType Try.prog.depth 32 = false := by kernel_rfl
theorem sih32 : Try.prog.stoodInHeld 32 = false := by kernel_rfl
set_option maxRecDepth 100000 in
set_option maxHeartbeats 400000 in
theorem file_c (n : Int) (w : World) : Calls Try.prog 31 #[.int .i64 n] w fun e w' => e = .returned (.agg ([Value.int .i64 0, Value.int .i64 n]).toArray) ∧ St w [] w' := by
  refine calls_from (args := [.int .i64 n]) Try.func31 rfl Try.ntmps31 (by simp) ?_
  refine TC.sub (Sub.cons (i := 0) rfl (Sub.nil)) ?_
  refine TC.seq ?_
  refine TC.regionL ?_
  refine TL.alloc (Wants.none rfl) rfl rfl zero49 (cs := [Value.int .i64 0, Value.int .i64 0]) rfl (tot := 2) (by simp) (fun g1 hg1 => ?_)
  refine TL.nil ?_
  refine TE.then ?_
  refine TC.seq ?_
  refine TC.regionL ?_
  refine TL.gets (Wants.none rfl) rfl (Gets.move rfl rfl) ?_
  refine TL.gets (Wants.none rfl) rfl (Gets.build rfl (vs := [(1, Value.int .i64 n)]) rfl (fun w => by first | rfl | kernel_rfl) (v := .agg ([Value.int .i64 0, Value.int .i64 n]).toArray)) ?_
  refine TL.storeW (Wants.none rfl) rfl rfl size49 rfl (vs := [Value.int .i64 0, Value.int .i64 n]) rfl (by simp []) (by simp [Value.oneCell']) (i := 0) (ent := ⟨g1, 49, [Value.int .i64 0, Value.int .i64 0], 2⟩) rfl rfl (by simp []) (H' := [⟨g1, 49, [Value.int .i64 0, Value.int .i64 n], 2⟩]) rfl ?_
  refine TL.nil ?_
  refine TE.then ?_
  refine TC.ret ?_
  exact TE.retC rfl agg49 size49 rfl (vs := [Value.int .i64 0, Value.int .i64 n]) rfl (Row.all (i := 0) (ent := ⟨g1, 49, [Value.int .i64 0, Value.int .i64 n], 2⟩) rfl rfl rfl) (fun w hs => ⟨rfl, (hs.drop (by assumption))⟩)


theorem code_kind {k t f l : Int} {m : Nat} (h : codeV k t f l m = 0) : k = 1 ∨ k = 2 := by
  by_cases h1 : k = 1
  · exact .inl h1
  · by_cases h2 : k = 2
    · exact .inr h2
    · unfold codeV at h; rw [if_neg h1, if_neg h2] at h; cases h
theorem src1_c (k t f l : Int) (A : Option Addr) (m c : Nat) (hk : k = 1) (w : World) : Calls Try.prog 46 #[.agg ([Value.int .i64 k, Value.int .i64 t, Value.int .i64 f, Value.int .i64 l, Value.slice A m c]).toArray] w fun e w' => e = .returned (.tuple #[.agg ([Value.int .i64 f, Value.int .i64 l]).toArray, .bool true]) ∧ St w [] w' := by
  subst hk; exact source1 t f l A m c w
theorem src2_c (k t f l : Int) (A : Option Addr) (m c : Nat) (hk : k = 2) (w : World) : Calls Try.prog 46 #[.agg ([Value.int .i64 k, Value.int .i64 t, Value.int .i64 f, Value.int .i64 l, Value.slice A m c]).toArray] w fun e w' => e = .returned (.tuple #[.agg ([Value.int .i64 0, Value.int .i64 0]).toArray, .bool false]) ∧ St w [] w' := by
  subst hk; exact source2 t f l A m c w
theorem fault_zero {o n : Int} {Cs : List CV} (h : (faultI o n Cs).1 = 0) : (faultI o n Cs).2 = 0 := by
  obtain ⟨h1, h2, h3, h4⟩ := faultI_valid h
  rw [faultI_gap h1 h2 h3, if_neg (by omega)]

set_option maxRecDepth 100000 in
set_option maxHeartbeats 400000 in
theorem sg_bad (o n : Int) (H1 H2 : List Int) (hH1 : H1.length = 32) (hH2 : H2.length = 32) (A : Option Addr) (m c : Nat) (Cs : List CV) (x : CV) (hok : okLen o n) (hn : NumC x) (hv : ¬ codeV x.k x.t x.f x.l x.m = 0) (w : World) : Calls Try.prog 32 #[.agg ([Value.int .i64 o, Value.int .i64 n] ++ (H1.map (Value.int .u8) ++ (H2.map (Value.int .u8) ++ ([Value.slice A m c])))).toArray, .agg ([Value.int .i64 x.k, Value.int .i64 x.t, Value.int .i64 x.f, Value.int .i64 x.l, Value.slice x.A x.m x.c]).toArray] w fun e w' => e = .returned (.int .i64 (singleV o n x)) ∧ St w [] w' := by
  have hnx := hn
  unfold NumC at hnx
  have hlb := lenV_bd (k := x.k) (l := x.l) (m := x.m) (by omega) (by omega)
  have hok2 := hok
  unfold okLen at hok2
  refine calls_from (args := [.agg ([Value.int .i64 o, Value.int .i64 n] ++ (H1.map (Value.int .u8) ++ (H2.map (Value.int .u8) ++ ([Value.slice A m c])))).toArray, .agg ([Value.int .i64 x.k, Value.int .i64 x.t, Value.int .i64 x.f, Value.int .i64 x.l, Value.slice x.A x.m x.c]).toArray]) Try.func32 rfl Try.ntmps32 (by simp) ?_
  refine TC.sub (Sub.cons (i := 0) rfl (Sub.cons (i := 1) rfl (Sub.nil))) ?_
  refine TC.seq ?_
  refine TC.regionL ?_
  refine TL.box (Wants.none rfl) rfl rfl rfl (cs := [Value.int .i64 o, Value.int .i64 n] ++ (H1.map (Value.int .u8) ++ (H2.map (Value.int .u8) ++ ([Value.slice A m c])))) (by simp [Value.cells]) (tot := 67) (by simp [hH1, hH2]) (fun g1 hg1 => ?_)
  refine TL.box (Wants.none rfl) rfl rfl rfl (cs := [Value.int .i64 x.k, Value.int .i64 x.t, Value.int .i64 x.f, Value.int .i64 x.l, Value.slice x.A x.m x.c]) (by simp [Value.cells]) (tot := 5) (by simp []) (fun g2 hg2 => ?_)
  refine TL.gets (Wants.none rfl) rfl (Gets.assign rfl rfl) ?_
  refine TL.nil ?_
  refine TE.then ?_
  refine TC.seq ?_
  refine TC.seq ?_
  refine TC.regionL ?_
  refine TL.gets (Wants.none rfl) rfl (Gets.loadN rfl agg40 size40 rfl (vs := [Value.int .i64 x.k, Value.int .i64 x.t, Value.int .i64 x.f, Value.int .i64 x.l, Value.slice x.A x.m x.c]) (by simp []) (Row.all (i := 0) (ent := ⟨g2, 40, [Value.int .i64 x.k, Value.int .i64 x.t, Value.int .i64 x.f, Value.int .i64 x.l, Value.slice x.A x.m x.c], 5⟩) rfl rfl rfl)) ?_
  refine TL.call0 (Wants.none rfl) rfl enters45 rfl rfl (v := .int .i64 (codeV x.k x.t x.f x.l x.m)) (fun w hs => check_c x.k x.t x.f x.l x.A x.m x.c (by omega) (by omega) (by omega) (by omega) w) ?_
  refine TL.gets (Wants.none rfl) rfl (Gets.assign rfl rfl) ?_
  refine TL.nil ?_
  refine TE.then ?_
  refine TC.seq ?_
  refine TC.regionL ?_
  refine TL.gets (Wants.none rfl) rfl (Gets.move rfl rfl) ?_
  refine TL.gets (Wants.none rfl) rfl (Gets.isTrue (Gets.neq rfl rfl rfl) hv) ?_
  refine TL.nil ?_
  refine TE.then ?_
  refine TC.sub (Sub.cons (i := 2) rfl (Sub.cons (i := 3) rfl (Sub.cons (i := 4) rfl (Sub.cons (i := 5) rfl (Sub.cons (i := 11) rfl (Sub.nil)))))) ?_
  refine TC.yes rfl ?_
  refine TC.seq ?_
  refine TC.regionL ?_
  refine TL.gets (Wants.none rfl) rfl (Gets.move rfl rfl) ?_
  refine TL.gets (Wants.none rfl) rfl (Gets.assign rfl rfl) ?_
  refine TL.nil ?_
  refine TE.then ?_
  refine TC.ret ?_
  refine TE.thenR ?_
  exact TE.ret1 rfl rfl (fun w hs => ⟨ret_i (by unfold singleV; (try unfold inside_ at *); (repeat' split) <;> first | rfl | (exfalso; omega)), ((hs.drop (by assumption)).drop (by assumption))⟩)

set_option maxRecDepth 100000 in
set_option maxHeartbeats 400000 in
theorem sg_one (o n : Int) (H1 H2 : List Int) (hH1 : H1.length = 32) (hH2 : H2.length = 32) (A : Option Addr) (m c : Nat) (Cs : List CV) (x : CV) (hok : okLen o n) (hn : NumC x) (hv : codeV x.k x.t x.f x.l x.m = 0) (hk : x.k = 1) (w : World) : Calls Try.prog 32 #[.agg ([Value.int .i64 o, Value.int .i64 n] ++ (H1.map (Value.int .u8) ++ (H2.map (Value.int .u8) ++ ([Value.slice A m c])))).toArray, .agg ([Value.int .i64 x.k, Value.int .i64 x.t, Value.int .i64 x.f, Value.int .i64 x.l, Value.slice x.A x.m x.c]).toArray] w fun e w' => e = .returned (.int .i64 (singleV o n x)) ∧ St w [] w' := by
  have hnx := hn
  unfold NumC at hnx
  have hlb := lenV_bd (k := x.k) (l := x.l) (m := x.m) (by omega) (by omega)
  have hok2 := hok
  unfold okLen at hok2
  have hcv := codeV_facts hv
  unfold vld at hcv
  have hcf := hcv.2.2 hk
  refine calls_from (args := [.agg ([Value.int .i64 o, Value.int .i64 n] ++ (H1.map (Value.int .u8) ++ (H2.map (Value.int .u8) ++ ([Value.slice A m c])))).toArray, .agg ([Value.int .i64 x.k, Value.int .i64 x.t, Value.int .i64 x.f, Value.int .i64 x.l, Value.slice x.A x.m x.c]).toArray]) Try.func32 rfl Try.ntmps32 (by simp) ?_
  refine TC.sub (Sub.cons (i := 0) rfl (Sub.cons (i := 1) rfl (Sub.nil))) ?_
  refine TC.seq ?_
  refine TC.regionL ?_
  refine TL.box (Wants.none rfl) rfl rfl rfl (cs := [Value.int .i64 o, Value.int .i64 n] ++ (H1.map (Value.int .u8) ++ (H2.map (Value.int .u8) ++ ([Value.slice A m c])))) (by simp [Value.cells]) (tot := 67) (by simp [hH1, hH2]) (fun g1 hg1 => ?_)
  refine TL.box (Wants.none rfl) rfl rfl rfl (cs := [Value.int .i64 x.k, Value.int .i64 x.t, Value.int .i64 x.f, Value.int .i64 x.l, Value.slice x.A x.m x.c]) (by simp [Value.cells]) (tot := 5) (by simp []) (fun g2 hg2 => ?_)
  refine TL.gets (Wants.none rfl) rfl (Gets.assign rfl rfl) ?_
  refine TL.nil ?_
  refine TE.then ?_
  refine TC.seq ?_
  refine TC.seq ?_
  refine TC.regionL ?_
  refine TL.gets (Wants.none rfl) rfl (Gets.loadN rfl agg40 size40 rfl (vs := [Value.int .i64 x.k, Value.int .i64 x.t, Value.int .i64 x.f, Value.int .i64 x.l, Value.slice x.A x.m x.c]) (by simp []) (Row.all (i := 0) (ent := ⟨g2, 40, [Value.int .i64 x.k, Value.int .i64 x.t, Value.int .i64 x.f, Value.int .i64 x.l, Value.slice x.A x.m x.c], 5⟩) rfl rfl rfl)) ?_
  refine TL.call0 (Wants.none rfl) rfl enters45 rfl rfl (v := .int .i64 (codeV x.k x.t x.f x.l x.m)) (fun w hs => check_c x.k x.t x.f x.l x.A x.m x.c (by omega) (by omega) (by omega) (by omega) w) ?_
  refine TL.gets (Wants.none rfl) rfl (Gets.assign rfl rfl) ?_
  refine TL.nil ?_
  refine TE.then ?_
  refine TC.seq ?_
  refine TC.regionL ?_
  refine TL.gets (Wants.none rfl) rfl (Gets.move rfl rfl) ?_
  refine TL.gets (Wants.none rfl) rfl (Gets.isFalse (Gets.neq rfl rfl rfl) (fun h => h hv)) ?_
  refine TL.nil ?_
  refine TE.then ?_
  refine TC.sub (Sub.cons (i := 2) rfl (Sub.cons (i := 3) rfl (Sub.cons (i := 4) rfl (Sub.cons (i := 5) rfl (Sub.cons (i := 11) rfl (Sub.nil)))))) ?_
  refine TC.no rfl ?_
  refine TC.skip ?_
  refine TE.then ?_
  refine TC.seq ?_
  refine TC.seq ?_
  refine TC.regionL ?_
  refine TL.gets (Wants.none rfl) rfl (Gets.loadN rfl agg40 size40 rfl (vs := [Value.int .i64 x.k, Value.int .i64 x.t, Value.int .i64 x.f, Value.int .i64 x.l, Value.slice x.A x.m x.c]) (by simp []) (Row.all (i := 0) (ent := ⟨g2, 40, [Value.int .i64 x.k, Value.int .i64 x.t, Value.int .i64 x.f, Value.int .i64 x.l, Value.slice x.A x.m x.c], 5⟩) rfl rfl rfl)) ?_
  refine TL.call0 (Wants.none rfl) rfl enters46 rfl rfl (v := .tuple #[.agg ([Value.int .i64 x.f, Value.int .i64 x.l]).toArray, .bool true]) (fun w hs => src1_c x.k x.t x.f x.l x.A x.m x.c hk w) ?_
  refine TL.gets (Wants.none rfl) rfl (Gets.move rfl rfl) ?_
  refine TL.gets (Wants.none rfl) rfl (Gets.extract rfl rfl rfl) ?_
  refine TL.gets (Wants.none rfl) rfl (Gets.extract rfl rfl rfl) ?_
  refine TL.alloc (Wants.none rfl) rfl rfl zero49 (cs := [Value.int .i64 0, Value.int .i64 0]) rfl (tot := 2) (by simp) (fun g3 hg3 => ?_)
  refine TL.storeW (Wants.none rfl) rfl rfl size49 rfl (vs := [Value.int .i64 x.f, Value.int .i64 x.l]) rfl (by simp []) (by simp [Value.oneCell']) (i := 0) (ent := ⟨g3, 49, [Value.int .i64 0, Value.int .i64 0], 2⟩) rfl rfl (by simp []) (H' := [⟨g3, 49, [Value.int .i64 x.f, Value.int .i64 x.l], 2⟩, ⟨g2, 40, [Value.int .i64 x.k, Value.int .i64 x.t, Value.int .i64 x.f, Value.int .i64 x.l, Value.slice x.A x.m x.c], 5⟩, ⟨g1, 25, [Value.int .i64 o, Value.int .i64 n] ++ (H1.map (Value.int .u8) ++ (H2.map (Value.int .u8) ++ ([Value.slice A m c]))), 67⟩]) rfl ?_
  refine TL.gets (Wants.none rfl) rfl (Gets.assign rfl rfl) ?_
  refine TL.nil ?_
  refine TE.then ?_
  refine TC.sub (Sub.cons (i := 2) rfl (Sub.cons (i := 3) rfl (Sub.cons (i := 4) rfl (Sub.cons (i := 6) rfl (Sub.cons (i := 7) rfl (Sub.nil)))))) ?_
  refine TC.seq ?_
  refine TC.mixS [⟨g3, 49, [Value.int .i64 x.f, Value.int .i64 x.l], 2⟩, ⟨g2, 40, [Value.int .i64 x.k, Value.int .i64 x.t, Value.int .i64 x.f, Value.int .i64 x.l, Value.slice x.A x.m x.c], 5⟩, ⟨g1, 25, [Value.int .i64 o, Value.int .i64 n] ++ (H1.map (Value.int .u8) ++ (H2.map (Value.int .u8) ++ ([Value.slice A m c]))), 67⟩] [] (by kernel_rfl) [0, 0, 0, 1, 1, 1, 3, 1, 0, 0] [0, 1, 2, 3, 4, 5, 6, 7, 8, 9] [fun _ _ => True, fun _ _ => True, fun _ _ => True, fun _ _ => True, fun _ _ => True, fun _ _ => True, fun v d => ∃ g, v = .slice (some ⟨g, 0, none⟩) 1 1 ∧ d = [⟨g, 49, [.int .i64 x.f, .int .i64 x.l], 2⟩], fun _ _ => True, fun _ _ => True, fun _ _ => True] (by kernel_rfl) (by kernel_rfl) (perm_pick (p := [0, 1, 2]) (by kernel_rfl) rfl) Fresh.nil ?_
  refine TR.free (Wants.none rfl) rfl (fun _ => Gets.move rfl rfl) ?_
  refine TR.free (Wants.none rfl) rfl (fun _ => Gets.move rfl rfl) ?_
  refine TR.free (Wants.yes rfl rfl rfl) rfl (fun _ => Gets.fieldAddr rfl Try.underlying25 rfl size3 rfl (off' := 0) (by first | rfl | omega)) ?_
  refine TR.gets (Wants.yes rfl rfl rfl) rfl (fun Z hZ => Gets.load1 rfl agg3 rfl (At.ent (i := 2) (ent := ⟨g1, 25, [Value.int .i64 o, Value.int .i64 n] ++ (H1.map (Value.int .u8) ++ (H2.map (Value.int .u8) ++ ([Value.slice A m c]))), 67⟩) (off := 0) rfl rfl (by exact app_left (i := 0) (B := H1.map (Value.int .u8) ++ (H2.map (Value.int .u8) ++ ([Value.slice A m c]))) (rfl)))) ?_
  refine TR.call0 (Wants.yes rfl rfl rfl) rfl enters31 rfl rfl (v := .agg ([Value.int .i64 0, Value.int .i64 o]).toArray) (fun Z w hZ hs => file_c o w) ?_
  refine TR.gets (Wants.yes rfl rfl rfl) rfl (fun Z hZ => Gets.loadN rfl agg49 size49 rfl (vs := [Value.int .i64 x.f, Value.int .i64 x.l]) (by simp []) (Row.all (i := 0) (ent := ⟨g3, 49, [Value.int .i64 x.f, Value.int .i64 x.l], 2⟩) rfl rfl rfl)) ?_
  refine TR.buildSlice (Wants.yes rfl rfl rfl) rfl rfl Try.underlying89 size49 zero49 rfl (by decide) (by decide) (cells := #[.int .i64 x.f, .int .i64 x.l]) (tot := 2) (by kernel_rfl) (cs := [.int .i64 x.f, .int .i64 x.l]) rfl rfl (fun g4 hg4 => ?_)
  refine TR.call0 (Wants.yes rfl rfl rfl) rfl enters47 rfl rfl (v := .bool (decide (inside_ 0 o x.f x.l))) (fun Z w hZ hs => contains1 0 o x.f x.l (by omega) (by omega) g4 (hs.has (⟨g4, 49, [Value.int .i64 x.f, Value.int .i64 x.l], 2⟩) (by simp)).lt (lies_row0 (hs.has (⟨g4, 49, [Value.int .i64 x.f, Value.int .i64 x.l], 2⟩) (by simp)))) ?_
  refine TR.free (Wants.yes rfl rfl rfl) rfl (fun _ => Gets.notP rfl rfl) ?_
  refine TR.free (Wants.none rfl) rfl (fun _ => Gets.pickT rfl rfl rfl) ?_
  refine TR.nil ?_
  refine TE.then ?_
  refine TC.sub (Sub.cons (i := 2) rfl (Sub.cons (i := 3) rfl (Sub.cons (i := 4) rfl (Sub.cons (i := 27) rfl (Sub.nil))))) ?_
  refine TC.split rfl (fun hq1 => ?_) (fun hq1 => ?_)
  · refine TC.seq ?_
    refine TC.regionL ?_
    refine TL.gets (Wants.none rfl) rfl (Gets.assign rfl rfl) ?_
    refine TL.nil ?_
    refine TE.then ?_
    refine TC.ret ?_
    refine TE.thenR ?_
    exact TE.ret1 rfl rfl (fun w hs => ⟨ret_i (by unfold singleV; (try unfold inside_ at *); (repeat' split) <;> first | rfl | (exfalso; omega)), ((((hs.drop (by assumption)).drop (by assumption)).drop (by assumption)).drop (by assumption))⟩)
  · refine TC.skip ?_
    refine TE.then ?_
    refine TC.seq ?_
    refine TC.seq ?_
    refine TC.mixS [⟨g3, 49, [Value.int .i64 x.f, Value.int .i64 x.l], 2⟩, ⟨g2, 40, [Value.int .i64 x.k, Value.int .i64 x.t, Value.int .i64 x.f, Value.int .i64 x.l, Value.slice x.A x.m x.c], 5⟩, ⟨g1, 25, [Value.int .i64 o, Value.int .i64 n] ++ (H1.map (Value.int .u8) ++ (H2.map (Value.int .u8) ++ ([Value.slice A m c]))), 67⟩, ⟨g4, 49, [Value.int .i64 x.f, Value.int .i64 x.l], 2⟩] [] (by kernel_rfl) [0, 1, 1, 1, 1, 3, 1, 0] [0, 1, 2, 3, 4, 5, 6, 7] [fun _ _ => True, fun _ _ => True, fun _ _ => True, fun _ _ => True, fun _ _ => True, fun v d => ∃ g, v = .slice (some ⟨g, 0, none⟩) 1 1 ∧ d = [⟨g, 49, [.int .i64 x.t, .int .i64 (lenV x.k x.l x.m)], 2⟩], fun _ _ => True, fun _ _ => True] (by kernel_rfl) (by kernel_rfl) (perm_pick (p := [0, 1, 2, 3]) (by kernel_rfl) rfl) Fresh.nil ?_
    refine TR.free (Wants.none rfl) rfl (fun _ => Gets.fieldAddr rfl Try.underlying25 rfl size3 rfl (off' := 1) (by first | rfl | omega)) ?_
    refine TR.gets (Wants.none rfl) rfl (fun Z hZ => Gets.load1 rfl agg3 rfl (At.ent (i := 2) (ent := ⟨g1, 25, [Value.int .i64 o, Value.int .i64 n] ++ (H1.map (Value.int .u8) ++ (H2.map (Value.int .u8) ++ ([Value.slice A m c]))), 67⟩) (off := 1) rfl rfl (by exact app_left (i := 1) (B := H1.map (Value.int .u8) ++ (H2.map (Value.int .u8) ++ ([Value.slice A m c]))) (rfl)))) ?_
    refine TR.call0 (Wants.none rfl) rfl enters31 rfl rfl (v := .agg ([Value.int .i64 0, Value.int .i64 n]).toArray) (fun Z w hZ hs => file_c n w) ?_
    refine TR.gets (Wants.none rfl) rfl (fun Z hZ => Gets.loadN rfl agg40 size40 rfl (vs := [Value.int .i64 x.k, Value.int .i64 x.t, Value.int .i64 x.f, Value.int .i64 x.l, Value.slice x.A x.m x.c]) (by simp []) (Row.all (i := 1) (ent := ⟨g2, 40, [Value.int .i64 x.k, Value.int .i64 x.t, Value.int .i64 x.f, Value.int .i64 x.l, Value.slice x.A x.m x.c], 5⟩) rfl rfl rfl)) ?_
    refine TR.call0 (Wants.none rfl) rfl enters34 rfl rfl (v := .agg ([Value.int .i64 x.t, Value.int .i64 (lenV x.k x.l x.m)]).toArray) (fun Z w hZ hs => tgt_c x.k x.t x.f x.l x.A x.m x.c (.inl hk) w) ?_
    refine TR.buildSlice (Wants.none rfl) rfl rfl Try.underlying89 size49 zero49 rfl (by decide) (by decide) (cells := #[.int .i64 x.t, .int .i64 (lenV x.k x.l x.m)]) (tot := 2) (by kernel_rfl) (cs := [.int .i64 x.t, .int .i64 (lenV x.k x.l x.m)]) rfl rfl (fun g5 hg5 => ?_)
    refine TR.call0 (Wants.none rfl) rfl enters47 rfl rfl (v := .bool (decide (inside_ 0 n x.t (lenV x.k x.l x.m)))) (fun Z w hZ hs => contains1 0 n x.t (lenV x.k x.l x.m) (by omega) (by omega) g5 (hs.has (⟨g5, 49, [Value.int .i64 x.t, Value.int .i64 (lenV x.k x.l x.m)], 2⟩) (by simp)).lt (lies_row0 (hs.has (⟨g5, 49, [Value.int .i64 x.t, Value.int .i64 (lenV x.k x.l x.m)], 2⟩) (by simp)))) ?_
    refine TR.free (Wants.none rfl) rfl (fun _ => Gets.notP rfl rfl) ?_
    refine TR.nil ?_
    refine TE.then ?_
    refine TC.sub (Sub.cons (i := 4) rfl (Sub.cons (i := 35) rfl (Sub.nil))) ?_
    refine TC.split rfl (fun hq2 => ?_) (fun hq2 => ?_)
    · refine TC.seq ?_
      refine TC.regionL ?_
      refine TL.gets (Wants.none rfl) rfl (Gets.assign rfl rfl) ?_
      refine TL.nil ?_
      refine TE.then ?_
      refine TC.ret ?_
      refine TE.thenR ?_
      exact TE.ret1 rfl rfl (fun w hs => ⟨ret_i (by unfold singleV; (try unfold inside_ at *); (repeat' split) <;> first | rfl | (exfalso; omega)), (((((hs.drop (by assumption)).drop (by assumption)).drop (by assumption)).drop (by assumption)).drop (by assumption))⟩)
    · refine TC.skip ?_
      refine TE.then ?_
      refine TC.seq ?_
      refine TC.regionL ?_
      refine TL.gets (Wants.none rfl) rfl (Gets.assign rfl rfl) ?_
      refine TL.nil ?_
      refine TE.then ?_
      refine TC.ret ?_
      exact TE.ret1 rfl rfl (fun w hs => ⟨ret_i (by unfold singleV; (try unfold inside_ at *); (repeat' split) <;> first | rfl | (exfalso; omega)), (((((hs.drop (by assumption)).drop (by assumption)).drop (by assumption)).drop (by assumption)).drop (by assumption))⟩)

set_option maxRecDepth 100000 in
set_option maxHeartbeats 400000 in
theorem sg_two (o n : Int) (H1 H2 : List Int) (hH1 : H1.length = 32) (hH2 : H2.length = 32) (A : Option Addr) (m c : Nat) (Cs : List CV) (x : CV) (hok : okLen o n) (hn : NumC x) (hv : codeV x.k x.t x.f x.l x.m = 0) (hk : x.k = 2) (w : World) : Calls Try.prog 32 #[.agg ([Value.int .i64 o, Value.int .i64 n] ++ (H1.map (Value.int .u8) ++ (H2.map (Value.int .u8) ++ ([Value.slice A m c])))).toArray, .agg ([Value.int .i64 x.k, Value.int .i64 x.t, Value.int .i64 x.f, Value.int .i64 x.l, Value.slice x.A x.m x.c]).toArray] w fun e w' => e = .returned (.int .i64 (singleV o n x)) ∧ St w [] w' := by
  have hnx := hn
  unfold NumC at hnx
  have hlb := lenV_bd (k := x.k) (l := x.l) (m := x.m) (by omega) (by omega)
  have hok2 := hok
  unfold okLen at hok2
  have hcv := codeV_facts hv
  unfold vld at hcv
  refine calls_from (args := [.agg ([Value.int .i64 o, Value.int .i64 n] ++ (H1.map (Value.int .u8) ++ (H2.map (Value.int .u8) ++ ([Value.slice A m c])))).toArray, .agg ([Value.int .i64 x.k, Value.int .i64 x.t, Value.int .i64 x.f, Value.int .i64 x.l, Value.slice x.A x.m x.c]).toArray]) Try.func32 rfl Try.ntmps32 (by simp) ?_
  refine TC.sub (Sub.cons (i := 0) rfl (Sub.cons (i := 1) rfl (Sub.nil))) ?_
  refine TC.seq ?_
  refine TC.regionL ?_
  refine TL.box (Wants.none rfl) rfl rfl rfl (cs := [Value.int .i64 o, Value.int .i64 n] ++ (H1.map (Value.int .u8) ++ (H2.map (Value.int .u8) ++ ([Value.slice A m c])))) (by simp [Value.cells]) (tot := 67) (by simp [hH1, hH2]) (fun g1 hg1 => ?_)
  refine TL.box (Wants.none rfl) rfl rfl rfl (cs := [Value.int .i64 x.k, Value.int .i64 x.t, Value.int .i64 x.f, Value.int .i64 x.l, Value.slice x.A x.m x.c]) (by simp [Value.cells]) (tot := 5) (by simp []) (fun g2 hg2 => ?_)
  refine TL.gets (Wants.none rfl) rfl (Gets.assign rfl rfl) ?_
  refine TL.nil ?_
  refine TE.then ?_
  refine TC.seq ?_
  refine TC.seq ?_
  refine TC.regionL ?_
  refine TL.gets (Wants.none rfl) rfl (Gets.loadN rfl agg40 size40 rfl (vs := [Value.int .i64 x.k, Value.int .i64 x.t, Value.int .i64 x.f, Value.int .i64 x.l, Value.slice x.A x.m x.c]) (by simp []) (Row.all (i := 0) (ent := ⟨g2, 40, [Value.int .i64 x.k, Value.int .i64 x.t, Value.int .i64 x.f, Value.int .i64 x.l, Value.slice x.A x.m x.c], 5⟩) rfl rfl rfl)) ?_
  refine TL.call0 (Wants.none rfl) rfl enters45 rfl rfl (v := .int .i64 (codeV x.k x.t x.f x.l x.m)) (fun w hs => check_c x.k x.t x.f x.l x.A x.m x.c (by omega) (by omega) (by omega) (by omega) w) ?_
  refine TL.gets (Wants.none rfl) rfl (Gets.assign rfl rfl) ?_
  refine TL.nil ?_
  refine TE.then ?_
  refine TC.seq ?_
  refine TC.regionL ?_
  refine TL.gets (Wants.none rfl) rfl (Gets.move rfl rfl) ?_
  refine TL.gets (Wants.none rfl) rfl (Gets.isFalse (Gets.neq rfl rfl rfl) (fun h => h hv)) ?_
  refine TL.nil ?_
  refine TE.then ?_
  refine TC.sub (Sub.cons (i := 2) rfl (Sub.cons (i := 3) rfl (Sub.cons (i := 4) rfl (Sub.cons (i := 5) rfl (Sub.cons (i := 11) rfl (Sub.nil)))))) ?_
  refine TC.no rfl ?_
  refine TC.skip ?_
  refine TE.then ?_
  refine TC.seq ?_
  refine TC.seq ?_
  refine TC.regionL ?_
  refine TL.gets (Wants.none rfl) rfl (Gets.loadN rfl agg40 size40 rfl (vs := [Value.int .i64 x.k, Value.int .i64 x.t, Value.int .i64 x.f, Value.int .i64 x.l, Value.slice x.A x.m x.c]) (by simp []) (Row.all (i := 0) (ent := ⟨g2, 40, [Value.int .i64 x.k, Value.int .i64 x.t, Value.int .i64 x.f, Value.int .i64 x.l, Value.slice x.A x.m x.c], 5⟩) rfl rfl rfl)) ?_
  refine TL.call0 (Wants.none rfl) rfl enters46 rfl rfl (v := .tuple #[.agg ([Value.int .i64 0, Value.int .i64 0]).toArray, .bool false]) (fun w hs => src2_c x.k x.t x.f x.l x.A x.m x.c hk w) ?_
  refine TL.gets (Wants.none rfl) rfl (Gets.move rfl rfl) ?_
  refine TL.gets (Wants.none rfl) rfl (Gets.extract rfl rfl rfl) ?_
  refine TL.gets (Wants.none rfl) rfl (Gets.extract rfl rfl rfl) ?_
  refine TL.alloc (Wants.none rfl) rfl rfl zero49 (cs := [Value.int .i64 0, Value.int .i64 0]) rfl (tot := 2) (by simp) (fun g3 hg3 => ?_)
  refine TL.storeW (Wants.none rfl) rfl rfl size49 rfl (vs := [Value.int .i64 0, Value.int .i64 0]) rfl (by simp []) (by simp [Value.oneCell']) (i := 0) (ent := ⟨g3, 49, [Value.int .i64 0, Value.int .i64 0], 2⟩) rfl rfl (by simp []) (H' := [⟨g3, 49, [Value.int .i64 0, Value.int .i64 0], 2⟩, ⟨g2, 40, [Value.int .i64 x.k, Value.int .i64 x.t, Value.int .i64 x.f, Value.int .i64 x.l, Value.slice x.A x.m x.c], 5⟩, ⟨g1, 25, [Value.int .i64 o, Value.int .i64 n] ++ (H1.map (Value.int .u8) ++ (H2.map (Value.int .u8) ++ ([Value.slice A m c]))), 67⟩]) rfl ?_
  refine TL.gets (Wants.none rfl) rfl (Gets.assign rfl rfl) ?_
  refine TL.nil ?_
  refine TE.then ?_
  refine TC.sub (Sub.cons (i := 2) rfl (Sub.cons (i := 3) rfl (Sub.cons (i := 4) rfl (Sub.cons (i := 6) rfl (Sub.cons (i := 7) rfl (Sub.nil)))))) ?_
  refine TC.seq ?_
  refine TC.mixS [⟨g3, 49, [Value.int .i64 0, Value.int .i64 0], 2⟩, ⟨g2, 40, [Value.int .i64 x.k, Value.int .i64 x.t, Value.int .i64 x.f, Value.int .i64 x.l, Value.slice x.A x.m x.c], 5⟩, ⟨g1, 25, [Value.int .i64 o, Value.int .i64 n] ++ (H1.map (Value.int .u8) ++ (H2.map (Value.int .u8) ++ ([Value.slice A m c]))), 67⟩] [] (by kernel_rfl) [0, 0, 0, 0, 0, 0, 0, 0, 0, 0] [0, 1, 2, 3, 4, 5, 6, 7, 8, 9] [fun _ _ => True, fun _ _ => True, fun _ _ => True, fun _ _ => True, fun _ _ => True, fun _ _ => True, fun _ _ => True, fun _ _ => True, fun _ _ => True, fun _ _ => True] (by kernel_rfl) (by kernel_rfl) (perm_pick (p := [0, 1, 2]) (by kernel_rfl) rfl) Fresh.nil ?_
  refine TR.free (Wants.none rfl) rfl (fun _ => Gets.move rfl rfl) ?_
  refine TR.free (Wants.none rfl) rfl (fun _ => Gets.move rfl rfl) ?_
  refine TR.pass rfl rfl rfl rfl rfl ?_
  refine TR.pass rfl rfl rfl rfl rfl ?_
  refine TR.pass rfl rfl rfl rfl rfl ?_
  refine TR.pass rfl rfl rfl rfl rfl ?_
  refine TR.pass rfl rfl rfl rfl rfl ?_
  refine TR.pass rfl rfl rfl rfl rfl ?_
  refine TR.pass rfl rfl rfl rfl rfl ?_
  refine TR.free (Wants.none rfl) rfl (fun _ => Gets.pickF rfl rfl rfl) ?_
  refine TR.nil ?_
  refine TE.then ?_
  refine TC.sub (Sub.cons (i := 2) rfl (Sub.cons (i := 3) rfl (Sub.cons (i := 4) rfl (Sub.cons (i := 27) rfl (Sub.nil))))) ?_
  refine TC.no rfl ?_
  refine TC.skip ?_
  refine TE.then ?_
  refine TC.seq ?_
  refine TC.seq ?_
  refine TC.mixS [⟨g3, 49, [Value.int .i64 0, Value.int .i64 0], 2⟩, ⟨g2, 40, [Value.int .i64 x.k, Value.int .i64 x.t, Value.int .i64 x.f, Value.int .i64 x.l, Value.slice x.A x.m x.c], 5⟩, ⟨g1, 25, [Value.int .i64 o, Value.int .i64 n] ++ (H1.map (Value.int .u8) ++ (H2.map (Value.int .u8) ++ ([Value.slice A m c]))), 67⟩] [] (by kernel_rfl) [0, 1, 1, 1, 1, 3, 1, 0] [0, 1, 2, 3, 4, 5, 6, 7] [fun _ _ => True, fun _ _ => True, fun _ _ => True, fun _ _ => True, fun _ _ => True, fun v d => ∃ g, v = .slice (some ⟨g, 0, none⟩) 1 1 ∧ d = [⟨g, 49, [.int .i64 x.t, .int .i64 (lenV x.k x.l x.m)], 2⟩], fun _ _ => True, fun _ _ => True] (by kernel_rfl) (by kernel_rfl) (perm_pick (p := [0, 1, 2]) (by kernel_rfl) rfl) Fresh.nil ?_
  refine TR.free (Wants.none rfl) rfl (fun _ => Gets.fieldAddr rfl Try.underlying25 rfl size3 rfl (off' := 1) (by first | rfl | omega)) ?_
  refine TR.gets (Wants.none rfl) rfl (fun Z hZ => Gets.load1 rfl agg3 rfl (At.ent (i := 2) (ent := ⟨g1, 25, [Value.int .i64 o, Value.int .i64 n] ++ (H1.map (Value.int .u8) ++ (H2.map (Value.int .u8) ++ ([Value.slice A m c]))), 67⟩) (off := 1) rfl rfl (by exact app_left (i := 1) (B := H1.map (Value.int .u8) ++ (H2.map (Value.int .u8) ++ ([Value.slice A m c]))) (rfl)))) ?_
  refine TR.call0 (Wants.none rfl) rfl enters31 rfl rfl (v := .agg ([Value.int .i64 0, Value.int .i64 n]).toArray) (fun Z w hZ hs => file_c n w) ?_
  refine TR.gets (Wants.none rfl) rfl (fun Z hZ => Gets.loadN rfl agg40 size40 rfl (vs := [Value.int .i64 x.k, Value.int .i64 x.t, Value.int .i64 x.f, Value.int .i64 x.l, Value.slice x.A x.m x.c]) (by simp []) (Row.all (i := 1) (ent := ⟨g2, 40, [Value.int .i64 x.k, Value.int .i64 x.t, Value.int .i64 x.f, Value.int .i64 x.l, Value.slice x.A x.m x.c], 5⟩) rfl rfl rfl)) ?_
  refine TR.call0 (Wants.none rfl) rfl enters34 rfl rfl (v := .agg ([Value.int .i64 x.t, Value.int .i64 (lenV x.k x.l x.m)]).toArray) (fun Z w hZ hs => tgt_c x.k x.t x.f x.l x.A x.m x.c (.inr hk) w) ?_
  refine TR.buildSlice (Wants.none rfl) rfl rfl Try.underlying89 size49 zero49 rfl (by decide) (by decide) (cells := #[.int .i64 x.t, .int .i64 (lenV x.k x.l x.m)]) (tot := 2) (by kernel_rfl) (cs := [.int .i64 x.t, .int .i64 (lenV x.k x.l x.m)]) rfl rfl (fun g4 hg4 => ?_)
  refine TR.call0 (Wants.none rfl) rfl enters47 rfl rfl (v := .bool (decide (inside_ 0 n x.t (lenV x.k x.l x.m)))) (fun Z w hZ hs => contains1 0 n x.t (lenV x.k x.l x.m) (by omega) (by omega) g4 (hs.has (⟨g4, 49, [Value.int .i64 x.t, Value.int .i64 (lenV x.k x.l x.m)], 2⟩) (by simp)).lt (lies_row0 (hs.has (⟨g4, 49, [Value.int .i64 x.t, Value.int .i64 (lenV x.k x.l x.m)], 2⟩) (by simp)))) ?_
  refine TR.free (Wants.none rfl) rfl (fun _ => Gets.notP rfl rfl) ?_
  refine TR.nil ?_
  refine TE.then ?_
  refine TC.sub (Sub.cons (i := 4) rfl (Sub.cons (i := 35) rfl (Sub.nil))) ?_
  refine TC.split rfl (fun hq2 => ?_) (fun hq2 => ?_)
  · refine TC.seq ?_
    refine TC.regionL ?_
    refine TL.gets (Wants.none rfl) rfl (Gets.assign rfl rfl) ?_
    refine TL.nil ?_
    refine TE.then ?_
    refine TC.ret ?_
    refine TE.thenR ?_
    exact TE.ret1 rfl rfl (fun w hs => ⟨ret_i (by unfold singleV; (try unfold inside_ at *); (repeat' split) <;> first | rfl | (exfalso; omega)), ((((hs.drop (by assumption)).drop (by assumption)).drop (by assumption)).drop (by assumption))⟩)
  · refine TC.skip ?_
    refine TE.then ?_
    refine TC.seq ?_
    refine TC.regionL ?_
    refine TL.gets (Wants.none rfl) rfl (Gets.assign rfl rfl) ?_
    refine TL.nil ?_
    refine TE.then ?_
    refine TC.ret ?_
    exact TE.ret1 rfl rfl (fun w hs => ⟨ret_i (by unfold singleV; (try unfold inside_ at *); (repeat' split) <;> first | rfl | (exfalso; omega)), ((((hs.drop (by assumption)).drop (by assumption)).drop (by assumption)).drop (by assumption))⟩)


theorem sg_c (o n : Int) (H1 H2 : List Int) (hH1 : H1.length = 32) (hH2 : H2.length = 32) (A : Option Addr) (m c : Nat) (Cs : List CV) (x : CV) (hok : okLen o n) (hn : NumC x) (w : World) : Calls Try.prog 32 #[.agg ([Value.int .i64 o, Value.int .i64 n] ++ (H1.map (Value.int .u8) ++ (H2.map (Value.int .u8) ++ ([Value.slice A m c])))).toArray, .agg ([Value.int .i64 x.k, Value.int .i64 x.t, Value.int .i64 x.f, Value.int .i64 x.l, Value.slice x.A x.m x.c]).toArray] w fun e w' => e = .returned (.int .i64 (singleV o n x)) ∧ St w [] w' := by
  by_cases hv : codeV x.k x.t x.f x.l x.m = 0
  · rcases code_kind hv with hk | hk
    · exact sg_one o n H1 H2 hH1 hH2 A m c Cs x hok hn hv hk w
    · exact sg_two o n H1 H2 hH1 hH2 A m c Cs x hok hn hv hk w
  · exact sg_bad o n H1 H2 hH1 hH2 A m c Cs x hok hn hv w

set_option maxRecDepth 100000 in
set_option maxHeartbeats 1000000 in
theorem dcheck_c (o n : Int) (H1 H2 : List Int) (hH1 : H1.length = 32) (hH2 : H2.length = 32) (A : Option Addr) (m c : Nat) (Cs : List CV) (hmm : m ≤ 1000000000) (hN : NumsC Cs) (w : World) (hC : SrcC w A m Cs) (hD : DatC w Cs) (hf : fewQ Cs) (bo : -9223372036854775808 ≤ o ∧ o ≤ 9223372036854775807) (bn : -9223372036854775808 ≤ n ∧ n ≤ 9223372036854775807)  : Calls Try.prog 11 #[.agg ([Value.int .i64 o, Value.int .i64 n] ++ (H1.map (Value.int .u8) ++ (H2.map (Value.int .u8) ++ ([Value.slice A m c])))).toArray] w fun e w' => e = .returned (.agg ([Value.int .i64 ((faultI o n Cs).1), Value.int .i64 ((faultI o n Cs).2)]).toArray) ∧ St w [] w' := by
  refine calls_from (args := [.agg ([Value.int .i64 o, Value.int .i64 n] ++ (H1.map (Value.int .u8) ++ (H2.map (Value.int .u8) ++ ([Value.slice A m c])))).toArray]) Try.func11 rfl Try.ntmps11 (by simp) ?_
  refine TC.sub (Sub.cons (i := 0) rfl (Sub.nil)) ?_
  refine TC.seq ?_
  refine TC.regionL ?_
  refine TL.box (Wants.none rfl) rfl rfl rfl (cs := [Value.int .i64 o, Value.int .i64 n] ++ (H1.map (Value.int .u8) ++ (H2.map (Value.int .u8) ++ ([Value.slice A m c])))) (by simp [Value.cells]) (tot := 67) (by simp [hH1, hH2]) (fun g1 hg1 => ?_)
  refine TL.alloc (Wants.none rfl) rfl rfl zero32 (cs := [Value.int .i64 0, Value.int .i64 0]) rfl (tot := 2) (by simp) (fun g2 hg2 => ?_)
  refine TL.nil ?_
  refine TE.then ?_
  refine TC.seq ?_
  refine TC.seq ?_
  refine TC.regionL ?_
  refine TL.gets (Wants.none rfl) rfl (Gets.fieldAddr rfl Try.underlying25 rfl size3 rfl (off' := 0) (by first | rfl | omega)) ?_
  refine TL.gets (Wants.none rfl) rfl (Gets.load1 rfl agg3 rfl (At.ent (i := 1) (ent := ⟨g1, 25, [Value.int .i64 o, Value.int .i64 n] ++ (H1.map (Value.int .u8) ++ (H2.map (Value.int .u8) ++ ([Value.slice A m c]))), 67⟩) (off := 0) rfl rfl (by exact app_left (i := 0) (B := H1.map (Value.int .u8) ++ (H2.map (Value.int .u8) ++ ([Value.slice A m c]))) (rfl)))) ?_
  refine TL.call0 (Wants.none rfl) rfl enters31 rfl rfl (v := .agg ([Value.int .i64 0, Value.int .i64 o]).toArray) (fun w hs => file_c o w) ?_
  refine TL.call0 (Wants.none rfl) rfl enters30 rfl rfl (v := .bool (decide (vld 0 o))) (fun w hs => valid_c 0 o (by omega) (by omega) w) ?_
  refine TL.gets (Wants.none rfl) rfl (Gets.notP rfl rfl) ?_
  by_cases c1 : ¬ (vld 0 o)
  · have hno : ¬ okLen o n := by unfold okLen; unfold vld at c1; omega
    refine TL.gets (Wants.none rfl) rfl (Gets.isTrue (Gets.move rfl rfl) c1) ?_
    refine TL.pass rfl rfl rfl rfl rfl ?_
    refine TL.pass rfl rfl rfl rfl rfl ?_
    refine TL.pass rfl rfl rfl rfl rfl ?_
    refine TL.pass rfl rfl rfl rfl rfl ?_
    refine TL.pass rfl rfl rfl rfl rfl ?_
    refine TL.gets (Wants.none rfl) rfl (Gets.pickT rfl rfl rfl) ?_
    refine TL.nil ?_
    refine TE.then ?_
    refine TC.sub (Sub.cons (i := 1) rfl (Sub.cons (i := 2) rfl (Sub.cons (i := 17) rfl (Sub.nil)))) ?_
    refine TC.yes rfl ?_
    refine TC.seq ?_
    refine TC.regionL ?_
    refine TL.gets (Wants.none rfl) rfl (Gets.build rfl (vs := [(0, Value.int .i64 2), (1, Value.int .i64 (-1))]) rfl (fun w => by first | rfl | kernel_rfl) (v := .agg ([Value.int .i64 2, Value.int .i64 (-1)]).toArray)) ?_
    refine TL.storeW (Wants.none rfl) rfl rfl size32 rfl (vs := [Value.int .i64 2, Value.int .i64 (-1)]) rfl (by simp []) (by simp [Value.oneCell']) (i := 0) (ent := ⟨g2, 32, [Value.int .i64 0, Value.int .i64 0], 2⟩) rfl rfl (by simp []) (H' := [⟨g2, 32, [Value.int .i64 2, Value.int .i64 (-1)], 2⟩, ⟨g1, 25, [Value.int .i64 o, Value.int .i64 n] ++ (H1.map (Value.int .u8) ++ (H2.map (Value.int .u8) ++ ([Value.slice A m c]))), 67⟩]) rfl ?_
    refine TL.nil ?_
    refine TE.then ?_
    refine TC.ret ?_
    refine TE.thenR ?_
    exact TE.retC rfl agg32 size32 rfl (vs := [Value.int .i64 2, Value.int .i64 (-1)]) rfl (Row.all (i := 0) (ent := ⟨g2, 32, [Value.int .i64 2, Value.int .i64 (-1)], 2⟩) rfl rfl rfl) (fun w hs => ⟨by rw [faultI_len hno], ((hs.drop (by assumption)).drop (by assumption))⟩)
  · refine TL.gets (Wants.none rfl) rfl (Gets.isFalse (Gets.move rfl rfl) c1) ?_
    refine TL.gets (Wants.yes rfl rfl rfl) rfl (Gets.fieldAddr rfl Try.underlying25 rfl size3 rfl (off' := 1) (by first | rfl | omega)) ?_
    refine TL.gets (Wants.yes rfl rfl rfl) rfl (Gets.load1 rfl agg3 rfl (At.ent (i := 1) (ent := ⟨g1, 25, [Value.int .i64 o, Value.int .i64 n] ++ (H1.map (Value.int .u8) ++ (H2.map (Value.int .u8) ++ ([Value.slice A m c]))), 67⟩) (off := 1) rfl rfl (by exact app_left (i := 1) (B := H1.map (Value.int .u8) ++ (H2.map (Value.int .u8) ++ ([Value.slice A m c]))) (rfl)))) ?_
    refine TL.call0 (Wants.yes rfl rfl rfl) rfl enters31 rfl rfl (v := .agg ([Value.int .i64 0, Value.int .i64 n]).toArray) (fun w hs => file_c n w) ?_
    refine TL.call0 (Wants.yes rfl rfl rfl) rfl enters30 rfl rfl (v := .bool (decide (vld 0 n))) (fun w hs => valid_c 0 n (by omega) (by omega) w) ?_
    refine TL.gets (Wants.yes rfl rfl rfl) rfl (Gets.notP rfl rfl) ?_
    refine TL.gets (Wants.none rfl) rfl (Gets.pickF rfl rfl rfl) ?_
    refine TL.nil ?_
    refine TE.then ?_
    refine TC.sub (Sub.cons (i := 1) rfl (Sub.cons (i := 2) rfl (Sub.cons (i := 17) rfl (Sub.nil)))) ?_
    refine TC.split rfl (fun hq0 => ?_) (fun hq0 => ?_)
    · have hno : ¬ okLen o n := by unfold okLen; unfold vld at hq0; omega
      refine TC.seq ?_
      refine TC.regionL ?_
      refine TL.gets (Wants.none rfl) rfl (Gets.build rfl (vs := [(0, Value.int .i64 2), (1, Value.int .i64 (-1))]) rfl (fun w => by first | rfl | kernel_rfl) (v := .agg ([Value.int .i64 2, Value.int .i64 (-1)]).toArray)) ?_
      refine TL.storeW (Wants.none rfl) rfl rfl size32 rfl (vs := [Value.int .i64 2, Value.int .i64 (-1)]) rfl (by simp []) (by simp [Value.oneCell']) (i := 0) (ent := ⟨g2, 32, [Value.int .i64 0, Value.int .i64 0], 2⟩) rfl rfl (by simp []) (H' := [⟨g2, 32, [Value.int .i64 2, Value.int .i64 (-1)], 2⟩, ⟨g1, 25, [Value.int .i64 o, Value.int .i64 n] ++ (H1.map (Value.int .u8) ++ (H2.map (Value.int .u8) ++ ([Value.slice A m c]))), 67⟩]) rfl ?_
      refine TL.nil ?_
      refine TE.then ?_
      refine TC.ret ?_
      refine TE.thenR ?_
      exact TE.retC rfl agg32 size32 rfl (vs := [Value.int .i64 2, Value.int .i64 (-1)]) rfl (Row.all (i := 0) (ent := ⟨g2, 32, [Value.int .i64 2, Value.int .i64 (-1)], 2⟩) rfl rfl rfl) (fun w hs => ⟨by rw [faultI_len hno], ((hs.drop (by assumption)).drop (by assumption))⟩)
    · have hok : okLen o n := by unfold okLen; unfold vld at c1 hq0; omega
      refine TC.skip ?_
      refine TE.then ?_
      refine TC.seq ?_
      refine TC.seq ?_
      refine TC.regionL ?_
      refine TL.gets (Wants.none rfl) rfl (Gets.fieldAddr rfl Try.underlying25 rfl size23 rfl (off' := 66) (by first | rfl | omega)) ?_
      refine TL.gets (Wants.none rfl) rfl (Gets.load1 rfl agg23 rfl (At.ent (i := 1) (ent := ⟨g1, 25, [Value.int .i64 o, Value.int .i64 n] ++ (H1.map (Value.int .u8) ++ (H2.map (Value.int .u8) ++ ([Value.slice A m c]))), 67⟩) (off := 66) rfl rfl (by exact app_right (a := 2) (i := 64) (rfl) (app_right (a := 32) (i := 32) (ints_len hH1) (app_right (a := 32) (i := 0) (ints_len hH2) (rfl)))))) ?_
      refine TL.gets (Wants.none rfl) rfl (Gets.lenSlice rfl Try.underlying23 rfl) ?_
      refine TL.gets (Wants.none rfl) rfl (Gets.move rfl rfl) ?_
      refine TL.nil ?_
      refine TE.then ?_
      refine TC.block ?_
      refine TC.loop (ι := Nat) (fun i => [(1, .pointer (some ⟨g1, 0, none⟩)), (2, .pointer (some ⟨g2, 0, none⟩)), (20, .slice A m c), (21, .int .i64 (m : Int)), (22, .int .i64 (i : Int))]) (fun i => [⟨g2, 32, [Value.int .i64 0, Value.int .i64 0], 2⟩, ⟨g1, 25, [Value.int .i64 o, Value.int .i64 n] ++ (H1.map (Value.int .u8) ++ (H2.map (Value.int .u8) ++ ([Value.slice A m c]))), 67⟩]) (fun i => m - i) (fun i => i ≤ m ∧ ∀ (j : Nat) (y : CV), j < i → Cs[j]? = some y → singleV o n y = 0) 0 ⟨Nat.zero_le _, fun j y h => absurd h (Nat.not_lt_zero j)⟩ (Sub.cons (i := 1) rfl (Sub.cons (i := 2) rfl (Sub.slice (i := 20) rfl rfl (by first | omega | (dsimp only; omega) | rfl) (by first | omega | (dsimp only; omega) | rfl) (Sub.int (i := 21) rfl (by first | omega | rfl) (Sub.int (i := 22) rfl (by first | omega | rfl) (Sub.nil)))))) (fun w h => h) (fun i hC0 => ?_)
      obtain ⟨hC0, hC1⟩ := hC0
      refine TC.seq ?_
      refine TC.regionL ?_
      refine TL.gets (Wants.none rfl) rfl (Gets.lss rfl rfl rfl) ?_
      refine TL.nil ?_
      refine TE.then ?_
      refine TC.seq ?_
      refine TC.split rfl (fun hq1 => ?_) (fun hq1 => ?_)
      · obtain ⟨b, off, hAe, hb, hrw⟩ := hC.some_ (i := i) (by omega)
        subst hAe
        obtain ⟨x, hx⟩ := hC.get (i := i) (by omega)
        have hnx := hN i x hx
        unfold NumC at hnx
        have hlbx := lenV_bd (k := x.k) (l := x.l) (m := x.m) (by omega) (by omega)
        refine TC.skip ?_
        refine TE.then ?_
        refine TC.seq ?_
        refine TC.block ?_
        refine TC.seq ?_
        refine TC.regionL ?_
        refine TL.gets (Wants.none rfl) rfl (Gets.move rfl rfl) ?_
        refine TL.gets (Wants.none rfl) rfl (Gets.idxSlice rfl Try.underlying23 size40 rfl rfl (i := i) (by omega) (by omega) (off' := (off + 5 * i)) (by omega)) ?_
        refine TL.gets (Wants.none rfl) rfl (Gets.loadN rfl agg40 size40 rfl rfl (Row.old (fun jj u h => hrw i x hx jj u h) hb (ne_cons (by show g2 ≠ b; omega) (ne_cons (by show g1 ≠ b; omega) ne_nil)))) ?_
        refine TL.alloc (Wants.none rfl) rfl rfl zero40 (cs := [Value.int .i64 0, Value.int .i64 0, Value.int .i64 0, Value.int .i64 0, Value.slice none 0 0]) rfl (tot := 5) (by simp) (fun g3 hg3 => ?_)
        refine TL.gets (Wants.none rfl) rfl (Gets.assign rfl rfl) ?_
        refine TL.storeW (Wants.none rfl) rfl rfl size40 rfl (vs := [Value.int .i64 x.k, Value.int .i64 x.t, Value.int .i64 x.f, Value.int .i64 x.l, Value.slice x.A x.m x.c]) rfl (by simp []) (by simp [Value.oneCell']) (i := 0) (ent := ⟨g3, 40, [Value.int .i64 0, Value.int .i64 0, Value.int .i64 0, Value.int .i64 0, Value.slice none 0 0], 5⟩) rfl rfl (by simp []) (H' := [⟨g3, 40, [Value.int .i64 x.k, Value.int .i64 x.t, Value.int .i64 x.f, Value.int .i64 x.l, Value.slice x.A x.m x.c], 5⟩, ⟨g2, 32, [Value.int .i64 0, Value.int .i64 0], 2⟩, ⟨g1, 25, [Value.int .i64 o, Value.int .i64 n] ++ (H1.map (Value.int .u8) ++ (H2.map (Value.int .u8) ++ ([Value.slice (some ⟨b, off, none⟩) m c]))), 67⟩]) rfl ?_
        refine TL.nil ?_
        refine TE.then ?_
        refine TC.sub (Sub.cons (i := 1) rfl (Sub.cons (i := 2) rfl (Sub.cons (i := 3) rfl (Sub.cons (i := 4) rfl (Sub.cons (i := 20) rfl (Sub.cons (i := 21) rfl (Sub.cons (i := 22) rfl (Sub.nil)))))))) ?_
        refine TC.seq ?_
        refine TC.regionL ?_
        refine TL.gets (Wants.none rfl) rfl (Gets.loadN rfl agg25 size25 rfl (vs := [Value.int .i64 o, Value.int .i64 n] ++ (H1.map (Value.int .u8) ++ (H2.map (Value.int .u8) ++ ([Value.slice (some ⟨b, off, none⟩) m c])))) (by simp [hH1, hH2]) (Row.all (i := 2) (ent := ⟨g1, 25, [Value.int .i64 o, Value.int .i64 n] ++ (H1.map (Value.int .u8) ++ (H2.map (Value.int .u8) ++ ([Value.slice (some ⟨b, off, none⟩) m c]))), 67⟩) rfl rfl rfl)) ?_
        refine TL.gets (Wants.none rfl) rfl (Gets.loadN rfl agg40 size40 rfl (vs := [Value.int .i64 x.k, Value.int .i64 x.t, Value.int .i64 x.f, Value.int .i64 x.l, Value.slice x.A x.m x.c]) (by simp []) (Row.all (i := 0) (ent := ⟨g3, 40, [Value.int .i64 x.k, Value.int .i64 x.t, Value.int .i64 x.f, Value.int .i64 x.l, Value.slice x.A x.m x.c], 5⟩) rfl rfl rfl)) ?_
        refine TL.call0 (Wants.none rfl) rfl enters32 rfl rfl (v := .int .i64 (singleV o n x)) (fun w hs => sg_c o n H1 H2 hH1 hH2 (some ⟨b, off, none⟩) m c Cs x hok (hN _ x hx) w) ?_
        refine TL.gets (Wants.none rfl) rfl (Gets.assign rfl rfl) ?_
        refine TL.nil ?_
        refine TE.then ?_
        refine TC.sub (Sub.cons (i := 1) rfl (Sub.cons (i := 2) rfl (Sub.cons (i := 3) rfl (Sub.cons (i := 5) rfl (Sub.cons (i := 20) rfl (Sub.cons (i := 21) rfl (Sub.cons (i := 22) rfl (Sub.nil)))))))) ?_
        refine TC.seq ?_
        refine TC.regionL ?_
        refine TL.gets (Wants.none rfl) rfl (Gets.move rfl rfl) ?_
        refine TL.gets (Wants.none rfl) rfl (Gets.neq rfl rfl rfl) ?_
        refine TL.nil ?_
        refine TE.then ?_
        refine TC.sub (Sub.cons (i := 1) rfl (Sub.cons (i := 2) rfl (Sub.cons (i := 3) rfl (Sub.cons (i := 5) rfl (Sub.cons (i := 20) rfl (Sub.cons (i := 21) rfl (Sub.cons (i := 22) rfl (Sub.cons (i := 31) rfl (Sub.nil))))))))) ?_
        refine TC.split rfl (fun hq2 => ?_) (fun hq2 => ?_)
        · refine TC.seq ?_
          refine TC.regionL ?_
          refine TL.gets (Wants.none rfl) rfl (Gets.move rfl rfl) ?_
          refine TL.gets (Wants.none rfl) rfl (Gets.move rfl rfl) ?_
          refine TL.gets (Wants.none rfl) rfl (Gets.build rfl (vs := [(0, Value.int .i64 (singleV o n x)), (1, Value.int .i64 (i : Int))]) rfl (fun w => by first | rfl | kernel_rfl) (v := .agg ([Value.int .i64 (singleV o n x), Value.int .i64 (i : Int)]).toArray)) ?_
          refine TL.storeW (Wants.none rfl) rfl rfl size32 rfl (vs := [Value.int .i64 (singleV o n x), Value.int .i64 (i : Int)]) rfl (by simp []) (by simp [Value.oneCell']) (i := 1) (ent := ⟨g2, 32, [Value.int .i64 0, Value.int .i64 0], 2⟩) rfl rfl (by simp []) (H' := [⟨g3, 40, [Value.int .i64 x.k, Value.int .i64 x.t, Value.int .i64 x.f, Value.int .i64 x.l, Value.slice x.A x.m x.c], 5⟩, ⟨g2, 32, [Value.int .i64 (singleV o n x), Value.int .i64 (i : Int)], 2⟩, ⟨g1, 25, [Value.int .i64 o, Value.int .i64 n] ++ (H1.map (Value.int .u8) ++ (H2.map (Value.int .u8) ++ ([Value.slice (some ⟨b, off, none⟩) m c]))), 67⟩]) rfl ?_
          refine TL.nil ?_
          refine TE.then ?_
          refine TC.ret ?_
          refine TE.blockR ?_
          refine TE.thenR ?_
          refine TE.thenR ?_
          refine TE.blockR ?_
          refine TE.thenR ?_
          exact TE.retC rfl agg32 size32 rfl (vs := [Value.int .i64 (singleV o n x), Value.int .i64 (i : Int)]) rfl (Row.all (i := 1) (ent := ⟨g2, 32, [Value.int .i64 (singleV o n x), Value.int .i64 (i : Int)], 2⟩) rfl rfl rfl) (fun w hs => ⟨by rw [faultI_single hok hx hq2 hC1], (((hs.drop (by assumption)).drop (by assumption)).drop (by assumption))⟩)
        · refine TC.skip ?_
          refine TE.blockN ?_
          refine TE.then ?_
          refine TC.regionL ?_
          refine TL.gets (Wants.none rfl) rfl (Gets.add rfl rfl rfl (r := ((i : Int) + 1)) (w64 (by omega) (by omega))) ?_
          refine TL.gets (Wants.none rfl) rfl (Gets.move rfl rfl) ?_
          refine TL.nil ?_
          exact TE.back (i + 1) (by omega) ⟨by omega, all_succ hC1 hx (by omega)⟩ (Sub.cons (i := 1) rfl (Sub.cons (i := 2) rfl (Sub.slice (i := 20) rfl (by first | rfl | (congr 2; omega)) (by first | omega | (dsimp only; omega) | rfl) (by first | omega | (dsimp only; omega) | rfl) (Sub.int (i := 21) rfl (by first | omega | rfl) (Sub.int (i := 22) rfl (by first | omega | rfl) (Sub.nil)))))) (fun w h => (h.erase (i := 0) rfl (by assumption)))
      · have hall := all_of (m := m) (by have := hC.1; omega) (fun j y hj => hC1 j y (by omega))
        refine TC.exit ?_
        refine TE.thenX ?_
        refine TE.thenX ?_
        refine TE.blockX ?_
        refine TE.then ?_
        refine TC.seq ?_
        refine TC.regionL ?_
        refine TL.gets (Wants.none rfl) rfl (Gets.loadN rfl agg25 size25 rfl (vs := [Value.int .i64 o, Value.int .i64 n] ++ (H1.map (Value.int .u8) ++ (H2.map (Value.int .u8) ++ ([Value.slice A m c])))) (by simp [hH1, hH2]) (Row.all (i := 1) (ent := ⟨g1, 25, [Value.int .i64 o, Value.int .i64 n] ++ (H1.map (Value.int .u8) ++ (H2.map (Value.int .u8) ++ ([Value.slice A m c]))), 67⟩) rfl rfl rfl)) ?_
        refine TL.call0 (Wants.none rfl) rfl enters33 rfl rfl (v := .agg ([Value.int .i64 ((faultI o n Cs).1), Value.int .i64 ((faultI o n Cs).2)]).toArray) (fun w hs => ct_c o n H1 H2 hH1 hH2 A m c Cs (fun i x hx => code_kind (single_vld (hall i x hx)).2.2.2.1) hok hall hmm hN w (hC.at_ hs (fun b hb => (ne_cons (by show g2 ≠ b; omega) (ne_cons (by show g1 ≠ b; omega) ne_nil))))) ?_
        refine TL.storeW (Wants.none rfl) rfl rfl size32 rfl (vs := [Value.int .i64 ((faultI o n Cs).1), Value.int .i64 ((faultI o n Cs).2)]) rfl (by simp []) (by simp [Value.oneCell']) (i := 0) (ent := ⟨g2, 32, [Value.int .i64 0, Value.int .i64 0], 2⟩) rfl rfl (by simp []) (H' := [⟨g2, 32, [Value.int .i64 ((faultI o n Cs).1), Value.int .i64 ((faultI o n Cs).2)], 2⟩, ⟨g1, 25, [Value.int .i64 o, Value.int .i64 n] ++ (H1.map (Value.int .u8) ++ (H2.map (Value.int .u8) ++ ([Value.slice A m c]))), 67⟩]) rfl ?_
        refine TL.nil ?_
        refine TE.then ?_
        refine TC.ret ?_
        exact TE.retC rfl agg32 size32 rfl (vs := [Value.int .i64 ((faultI o n Cs).1), Value.int .i64 ((faultI o n Cs).2)]) rfl (Row.all (i := 0) (ent := ⟨g2, 32, [Value.int .i64 ((faultI o n Cs).1), Value.int .i64 ((faultI o n Cs).2)], 2⟩) rfl rfl rfl) (fun w hs => ⟨rfl, ((hs.drop (by assumption)).drop (by assumption))⟩)

set_option maxRecDepth 100000 in
set_option maxHeartbeats 400000 in
theorem dvalid_c (o n : Int) (H1 H2 : List Int) (hH1 : H1.length = 32) (hH2 : H2.length = 32) (A : Option Addr) (m c : Nat) (Cs : List CV) (hmm : m ≤ 1000000000) (hN : NumsC Cs) (w : World) (hC : SrcC w A m Cs) (hD : DatC w Cs) (hf : fewQ Cs) (bo : -9223372036854775808 ≤ o ∧ o ≤ 9223372036854775807) (bn : -9223372036854775808 ≤ n ∧ n ≤ 9223372036854775807)  : Calls Try.prog 12 #[.agg ([Value.int .i64 o, Value.int .i64 n] ++ (H1.map (Value.int .u8) ++ (H2.map (Value.int .u8) ++ ([Value.slice A m c])))).toArray] w fun e w' => e = .returned (.bool (decide ((faultI o n Cs).1 = 0))) ∧ St w [] w' := by
  refine calls_from (args := [.agg ([Value.int .i64 o, Value.int .i64 n] ++ (H1.map (Value.int .u8) ++ (H2.map (Value.int .u8) ++ ([Value.slice A m c])))).toArray]) Try.func12 rfl Try.ntmps12 (by simp) ?_
  refine TC.sub (Sub.cons (i := 0) rfl (Sub.nil)) ?_
  refine TC.seq ?_
  refine TC.regionL ?_
  refine TL.box (Wants.none rfl) rfl rfl rfl (cs := [Value.int .i64 o, Value.int .i64 n] ++ (H1.map (Value.int .u8) ++ (H2.map (Value.int .u8) ++ ([Value.slice A m c])))) (by simp [Value.cells]) (tot := 67) (by simp [hH1, hH2]) (fun g1 hg1 => ?_)
  refine TL.gets (Wants.none rfl) rfl (Gets.assign rfl rfl) ?_
  refine TL.nil ?_
  refine TE.then ?_
  refine TC.seq ?_
  refine TC.regionL ?_
  refine TL.gets (Wants.none rfl) rfl (Gets.loadN rfl agg25 size25 rfl (vs := [Value.int .i64 o, Value.int .i64 n] ++ (H1.map (Value.int .u8) ++ (H2.map (Value.int .u8) ++ ([Value.slice A m c])))) (by simp [hH1, hH2]) (Row.all (i := 0) (ent := ⟨g1, 25, [Value.int .i64 o, Value.int .i64 n] ++ (H1.map (Value.int .u8) ++ (H2.map (Value.int .u8) ++ ([Value.slice A m c]))), 67⟩) rfl rfl rfl)) ?_
  refine TL.call0 (Wants.none rfl) rfl enters11 rfl rfl (v := .agg ([Value.int .i64 ((faultI o n Cs).1), Value.int .i64 ((faultI o n Cs).2)]).toArray) (fun w hs => dcheck_c o n H1 H2 hH1 hH2 A m c Cs hmm hN w (hC.at_ hs (fun b hb => (ne_cons (by show g1 ≠ b; omega) ne_nil))) (hD.at_ hs (fun b hb => (ne_cons (by show g1 ≠ b; omega) ne_nil))) hf bo bn) ?_
  refine TL.gets (Wants.none rfl) rfl (Gets.build rfl (vs := []) rfl (fun w => by first | rfl | kernel_rfl) (v := .agg ([Value.int .i64 0, Value.int .i64 0]).toArray)) ?_
  refine TL.gets (Wants.none rfl) rfl (Gets.pairEq rfl Try.underlying32 (by decide) (by decide) rfl rfl Try.underlying30 Try.underlying3 sih32 geq32 rfl rfl) ?_
  refine TL.gets (Wants.none rfl) rfl (Gets.assign rfl rfl) ?_
  refine TL.nil ?_
  refine TE.then ?_
  refine TC.ret ?_
  exact TE.ret1 rfl rfl (fun w hs => ⟨dec_iff (⟨fun h => h.1, fun h => ⟨h, fault_zero h⟩⟩), (hs.drop (by assumption))⟩)
end Go.Proofs.Ytkgamkjdkapchaa
/-
  The code of layer 5: Totals, Find, Same.
-/
namespace Go.Proofs.Ytkgamkjdkapchaa
set_option linter.unusedVariables false
set_option linter.unusedSimpArgs false
open Go Go.RowKit
theorem enters37 : Enters Try.prog 37 := ⟨_, Try.func37, by kernel_rfl, by kernel_rfl⟩
theorem enters38 : Enters Try.prog 38 := ⟨_, Try.func38, by kernel_rfl, by kernel_rfl⟩
theorem enters40 : Enters Try.prog 40 := ⟨_, Try.func40, by kernel_rfl, by kernel_rfl⟩
theorem enters41 : Enters Try.prog 41 := ⟨_, Try.func41, by kernel_rfl, by kernel_rfl⟩
set_option maxRecDepth 100000 in
set_option maxHeartbeats 400000 in
theorem dtotals_c (o n : Int) (H1 H2 : List Int) (hH1 : H1.length = 32) (hH2 : H2.length = 32) (A : Option Addr) (m c : Nat) (Cs : List CV) (hmm : m ≤ 1000000000) (hN : NumsC Cs) (w : World) (hC : SrcC w A m Cs) (hD : DatC w Cs) (hf : fewQ Cs) (hVC : ValidC o n Cs)  : Calls Try.prog 14 #[.agg ([Value.int .i64 o, Value.int .i64 n] ++ (H1.map (Value.int .u8) ++ (H2.map (Value.int .u8) ++ ([Value.slice A m c])))).toArray] w fun e w' => e = .returned (.tuple #[.int .i64 ((Cs.map cpV).sum), .int .i64 ((Cs.map ltV).sum)]) ∧ St w [] w' := by
  refine calls_from (args := [.agg ([Value.int .i64 o, Value.int .i64 n] ++ (H1.map (Value.int .u8) ++ (H2.map (Value.int .u8) ++ ([Value.slice A m c])))).toArray]) Try.func14 rfl Try.ntmps14 (by simp) ?_
  refine TC.sub (Sub.cons (i := 0) rfl (Sub.nil)) ?_
  refine TC.seq ?_
  refine TC.regionL ?_
  refine TL.box (Wants.none rfl) rfl rfl rfl (cs := [Value.int .i64 o, Value.int .i64 n] ++ (H1.map (Value.int .u8) ++ (H2.map (Value.int .u8) ++ ([Value.slice A m c])))) (by simp [Value.cells]) (tot := 67) (by simp [hH1, hH2]) (fun g1 hg1 => ?_)
  refine TL.gets (Wants.none rfl) rfl (Gets.assign rfl rfl) ?_
  refine TL.gets (Wants.none rfl) rfl (Gets.assign rfl rfl) ?_
  refine TL.nil ?_
  refine TE.then ?_
  refine TC.seq ?_
  refine TC.regionL ?_
  refine TL.gets (Wants.none rfl) rfl (Gets.assign rfl rfl) ?_
  refine TL.gets (Wants.none rfl) rfl (Gets.assign rfl rfl) ?_
  refine TL.nil ?_
  refine TE.then ?_
  refine TC.seq ?_
  refine TC.seq ?_
  refine TC.regionL ?_
  refine TL.gets (Wants.none rfl) rfl (Gets.fieldAddr rfl Try.underlying25 rfl size23 rfl (off' := 66) (by first | rfl | omega)) ?_
  refine TL.gets (Wants.none rfl) rfl (Gets.load1 rfl agg23 rfl (At.ent (i := 0) (ent := ⟨g1, 25, [Value.int .i64 o, Value.int .i64 n] ++ (H1.map (Value.int .u8) ++ (H2.map (Value.int .u8) ++ ([Value.slice A m c]))), 67⟩) (off := 66) rfl rfl (by exact app_right (a := 2) (i := 64) (rfl) (app_right (a := 32) (i := 32) (ints_len hH1) (app_right (a := 32) (i := 0) (ints_len hH2) (rfl)))))) ?_
  refine TL.gets (Wants.none rfl) rfl (Gets.lenSlice rfl Try.underlying23 rfl) ?_
  refine TL.gets (Wants.none rfl) rfl (Gets.move rfl rfl) ?_
  refine TL.nil ?_
  refine TE.then ?_
  refine TC.sub (Sub.cons (i := 2) rfl (Sub.cons (i := 3) rfl (Sub.cons (i := 4) rfl (Sub.cons (i := 5) rfl (Sub.cons (i := 10) rfl (Sub.cons (i := 11) rfl (Sub.cons (i := 12) rfl (Sub.nil)))))))) ?_
  refine TC.block ?_
  refine TC.loop (ι := Nat) (fun i => [(4, .int .i64 (totI cpV Cs i)), (5, .int .i64 (totI ltV Cs i)), (10, .slice A m c), (11, .int .i64 (m : Int)), (12, .int .i64 (i : Int))]) (fun i => [⟨g1, 25, [Value.int .i64 o, Value.int .i64 n] ++ (H1.map (Value.int .u8) ++ (H2.map (Value.int .u8) ++ ([Value.slice A m c]))), 67⟩]) (fun i => m - i) (fun i => i ≤ m) 0 (Nat.zero_le _) (Sub.int (i := 4) rfl ((totI_zero _ _).symm) (Sub.int (i := 5) rfl ((totI_zero _ _).symm) (Sub.slice (i := 10) rfl rfl (by first | omega | (dsimp only; omega) | rfl) (by first | omega | (dsimp only; omega) | rfl) (Sub.int (i := 11) rfl (by first | omega | rfl) (Sub.int (i := 12) rfl (by first | omega | rfl) (Sub.nil)))))) (fun w h => h) (fun i hC0 => ?_)
  refine TC.seq ?_
  refine TC.regionL ?_
  refine TL.gets (Wants.none rfl) rfl (Gets.lss rfl rfl rfl) ?_
  refine TL.nil ?_
  refine TE.then ?_
  refine TC.seq ?_
  refine TC.split rfl (fun hq0 => ?_) (fun hq0 => ?_)
  · obtain ⟨b, off, hAe, hb, hrw⟩ := hC.some_ (i := i) (by omega)
    subst hAe
    obtain ⟨x, hx⟩ := hC.get (i := i) (by omega)
    have hnx := hN i x hx
    unfold NumC at hnx
    have hlbx := lenV_bd (k := x.k) (l := x.l) (m := x.m) (by omega) (by omega)
    have ht4 := totI_succ (f := cpV) hx
    have ht5 := totI_succ (f := ltV) hx
    have hbd0 := hVC.tot i
    have hbd1 := hVC.tot (i + 1)
    have hvx := hVC.vld i x hx
    unfold vld at hvx
    refine TC.skip ?_
    refine TE.then ?_
    refine TC.seq ?_
    refine TC.block ?_
    refine TC.seq ?_
    refine TC.regionL ?_
    refine TL.gets (Wants.none rfl) rfl (Gets.idxSlice rfl Try.underlying23 size40 rfl rfl (i := i) (by omega) (by omega) (off' := (off + 5 * i)) (by omega)) ?_
    refine TL.gets (Wants.none rfl) rfl (Gets.loadN rfl agg40 size40 rfl rfl (Row.old (fun jj u h => hrw i x hx jj u h) hb (ne_cons (by show g1 ≠ b; omega) ne_nil))) ?_
    refine TL.alloc (Wants.none rfl) rfl rfl zero40 (cs := [Value.int .i64 0, Value.int .i64 0, Value.int .i64 0, Value.int .i64 0, Value.slice none 0 0]) rfl (tot := 5) (by simp) (fun g2 hg2 => ?_)
    refine TL.storeW (Wants.none rfl) rfl rfl size40 rfl (vs := [Value.int .i64 x.k, Value.int .i64 x.t, Value.int .i64 x.f, Value.int .i64 x.l, Value.slice x.A x.m x.c]) rfl (by simp []) (by simp [Value.oneCell']) (i := 0) (ent := ⟨g2, 40, [Value.int .i64 0, Value.int .i64 0, Value.int .i64 0, Value.int .i64 0, Value.slice none 0 0], 5⟩) rfl rfl (by simp []) (H' := [⟨g2, 40, [Value.int .i64 x.k, Value.int .i64 x.t, Value.int .i64 x.f, Value.int .i64 x.l, Value.slice x.A x.m x.c], 5⟩, ⟨g1, 25, [Value.int .i64 o, Value.int .i64 n] ++ (H1.map (Value.int .u8) ++ (H2.map (Value.int .u8) ++ ([Value.slice (some ⟨b, off, none⟩) m c]))), 67⟩]) rfl ?_
    refine TL.nil ?_
    refine TE.then ?_
    refine TC.sub (Sub.cons (i := 4) rfl (Sub.cons (i := 5) rfl (Sub.cons (i := 7) rfl (Sub.cons (i := 10) rfl (Sub.cons (i := 11) rfl (Sub.cons (i := 12) rfl (Sub.nil))))))) ?_
    refine TC.seq ?_
    refine TC.regionL ?_
    refine TL.gets (Wants.none rfl) rfl (Gets.loadN rfl agg40 size40 rfl (vs := [Value.int .i64 x.k, Value.int .i64 x.t, Value.int .i64 x.f, Value.int .i64 x.l, Value.slice x.A x.m x.c]) (by simp []) (Row.all (i := 0) (ent := ⟨g2, 40, [Value.int .i64 x.k, Value.int .i64 x.t, Value.int .i64 x.f, Value.int .i64 x.l, Value.slice x.A x.m x.c], 5⟩) rfl rfl rfl)) ?_
    refine TL.call0 (Wants.none rfl) rfl enters34 rfl rfl (v := .agg ([Value.int .i64 x.t, Value.int .i64 (lenV x.k x.l x.m)]).toArray) (fun w hs => tgt_c x.k x.t x.f x.l x.A x.m x.c (code_kind (single_vld (hVC.single i x hx)).2.2.2.1) w) ?_
    refine TL.gets (Wants.none rfl) rfl (Gets.field1 rfl Try.underlying49 rfl rfl agg3 rfl) ?_
    refine TL.gets (Wants.none rfl) rfl (Gets.assign rfl rfl) ?_
    refine TL.nil ?_
    refine TE.then ?_
    refine TC.sub (Sub.cons (i := 4) rfl (Sub.cons (i := 5) rfl (Sub.cons (i := 7) rfl (Sub.cons (i := 8) rfl (Sub.cons (i := 10) rfl (Sub.cons (i := 11) rfl (Sub.cons (i := 12) rfl (Sub.nil)))))))) ?_
    refine TC.seq ?_
    refine TC.regionL ?_
    refine TL.gets (Wants.none rfl) rfl (Gets.fieldAddr rfl Try.underlying40 rfl size3 rfl (off' := 0) (by first | rfl | omega)) ?_
    refine TL.gets (Wants.none rfl) rfl (Gets.load1 rfl agg3 rfl (At.ent (i := 0) (ent := ⟨g2, 40, [Value.int .i64 x.k, Value.int .i64 x.t, Value.int .i64 x.f, Value.int .i64 x.l, Value.slice x.A x.m x.c], 5⟩) (off := 0) rfl rfl (by exact rfl))) ?_
    refine TL.gets (Wants.none rfl) rfl (Gets.eql rfl rfl rfl) ?_
    refine TL.nil ?_
    refine TE.then ?_
    refine TC.sub (Sub.cons (i := 4) rfl (Sub.cons (i := 5) rfl (Sub.cons (i := 8) rfl (Sub.cons (i := 10) rfl (Sub.cons (i := 11) rfl (Sub.cons (i := 12) rfl (Sub.cons (i := 21) rfl (Sub.nil)))))))) ?_
    refine TC.split rfl (fun hq1 => ?_) (fun hq1 => ?_)
    · rw [cpV1 hq1] at ht4
      rw [ltV1 hq1] at ht5
      have hle : lenV x.k x.l x.m = x.l := by unfold lenV; rw [if_pos hq1]
      refine TC.regionL ?_
      refine TL.gets (Wants.none rfl) rfl (Gets.move rfl rfl) ?_
      refine TL.gets (Wants.none rfl) rfl (Gets.move rfl rfl) ?_
      refine TL.gets (Wants.none rfl) rfl (Gets.add rfl rfl rfl (r := ((totI cpV Cs i) + (lenV x.k x.l x.m))) (w64 (by omega) (by omega))) ?_
      refine TL.gets (Wants.none rfl) rfl (Gets.assign rfl rfl) ?_
      refine TL.nil ?_
      refine TE.blockN ?_
      refine TE.then ?_
      refine TC.sub (Sub.cons (i := 4) rfl (Sub.cons (i := 5) rfl (Sub.cons (i := 10) rfl (Sub.cons (i := 11) rfl (Sub.cons (i := 12) rfl (Sub.nil)))))) ?_
      refine TC.regionL ?_
      refine TL.gets (Wants.none rfl) rfl (Gets.add rfl rfl rfl (r := ((i : Int) + 1)) (w64 (by omega) (by omega))) ?_
      refine TL.gets (Wants.none rfl) rfl (Gets.move rfl rfl) ?_
      refine TL.nil ?_
      exact TE.back (i + 1) (by omega) (by omega) (Sub.int (i := 4) rfl (by omega) (Sub.int (i := 5) rfl (by omega) (Sub.slice (i := 10) rfl (by first | rfl | (congr 2; omega)) (by first | omega | (dsimp only; omega) | rfl) (by first | omega | (dsimp only; omega) | rfl) (Sub.int (i := 11) rfl (by first | omega | rfl) (Sub.int (i := 12) rfl (by first | omega | rfl) (Sub.nil)))))) (fun w h => (h.erase (i := 0) rfl (by assumption)))
    · rw [cpV2 hq1] at ht4
      rw [ltV2 hq1] at ht5
      have hle : lenV x.k x.l x.m = (x.m : Int) := by unfold lenV; rw [if_neg hq1]
      refine TC.regionL ?_
      refine TL.gets (Wants.none rfl) rfl (Gets.move rfl rfl) ?_
      refine TL.gets (Wants.none rfl) rfl (Gets.move rfl rfl) ?_
      refine TL.gets (Wants.none rfl) rfl (Gets.add rfl rfl rfl (r := ((totI ltV Cs i) + (lenV x.k x.l x.m))) (w64 (by omega) (by omega))) ?_
      refine TL.gets (Wants.none rfl) rfl (Gets.assign rfl rfl) ?_
      refine TL.nil ?_
      refine TE.blockN ?_
      refine TE.then ?_
      refine TC.sub (Sub.cons (i := 4) rfl (Sub.cons (i := 5) rfl (Sub.cons (i := 10) rfl (Sub.cons (i := 11) rfl (Sub.cons (i := 12) rfl (Sub.nil)))))) ?_
      refine TC.regionL ?_
      refine TL.gets (Wants.none rfl) rfl (Gets.add rfl rfl rfl (r := ((i : Int) + 1)) (w64 (by omega) (by omega))) ?_
      refine TL.gets (Wants.none rfl) rfl (Gets.move rfl rfl) ?_
      refine TL.nil ?_
      exact TE.back (i + 1) (by omega) (by omega) (Sub.int (i := 4) rfl (by omega) (Sub.int (i := 5) rfl (by omega) (Sub.slice (i := 10) rfl (by first | rfl | (congr 2; omega)) (by first | omega | (dsimp only; omega) | rfl) (by first | omega | (dsimp only; omega) | rfl) (Sub.int (i := 11) rfl (by first | omega | rfl) (Sub.int (i := 12) rfl (by first | omega | rfl) (Sub.nil)))))) (fun w h => (h.erase (i := 0) rfl (by assumption)))
  · refine TC.exit ?_
    refine TE.thenX ?_
    refine TE.thenX ?_
    refine TE.blockX ?_
    refine TE.then ?_
    refine TC.seq ?_
    refine TC.regionL ?_
    refine TL.gets (Wants.none rfl) rfl (Gets.move rfl rfl) ?_
    refine TL.gets (Wants.none rfl) rfl (Gets.move rfl rfl) ?_
    refine TL.gets (Wants.none rfl) rfl (Gets.assign rfl rfl) ?_
    refine TL.gets (Wants.none rfl) rfl (Gets.assign rfl rfl) ?_
    refine TL.nil ?_
    refine TE.then ?_
    refine TC.ret ?_
    exact TE.ret2 rfl rfl rfl (fun w hs => ⟨(by obtain rfl : i = m := (by omega); rw [totI_all hC.1, totI_all hC.1]), (hs.drop (by assumption))⟩)

set_option maxRecDepth 100000 in
set_option maxHeartbeats 400000 in
theorem find1_c (x : CV) (p : Int) (bp : Nat) (hk : x.k = 1 ∨ x.k = 2) (hv : vld x.t (lenV x.k x.l x.m)) (w : World) (hbp : w.cell? ⟨bp, 0, none⟩ = some (.int .i64 p)) (hbl : bp < w.heap.size) : Calls Try.prog 41 #[.agg ([Value.int .i64 x.k, Value.int .i64 x.t, Value.int .i64 x.f, Value.int .i64 x.l, Value.slice x.A x.m x.c]).toArray, .pointer (some ⟨bp, 0, none⟩)] w fun e w' => e = .returned (.bool (decide (hasB (tg x) p))) ∧ St w [] w' := by
  have hv2 := hv
  unfold vld at hv2
  refine calls_from (args := [.agg ([Value.int .i64 x.k, Value.int .i64 x.t, Value.int .i64 x.f, Value.int .i64 x.l, Value.slice x.A x.m x.c]).toArray, .pointer (some ⟨bp, 0, none⟩)]) Try.func41 rfl Try.ntmps41 (by simp) ?_
  refine TC.sub (Sub.cons (i := 0) rfl (Sub.cons (i := 1) rfl (Sub.nil))) ?_
  refine TC.seq ?_
  refine TC.regionL ?_
  refine TL.box (Wants.none rfl) rfl rfl rfl (cs := [Value.int .i64 x.k, Value.int .i64 x.t, Value.int .i64 x.f, Value.int .i64 x.l, Value.slice x.A x.m x.c]) (by simp [Value.cells]) (tot := 5) (by simp []) (fun g1 hg1 => ?_)
  refine TL.gets (Wants.none rfl) rfl (Gets.assign rfl rfl) ?_
  refine TL.nil ?_
  refine TE.then ?_
  refine TC.seq ?_
  refine TC.regionL ?_
  refine TL.gets (Wants.none rfl) rfl (Gets.loadN rfl agg40 size40 rfl (vs := [Value.int .i64 x.k, Value.int .i64 x.t, Value.int .i64 x.f, Value.int .i64 x.l, Value.slice x.A x.m x.c]) (by simp []) (Row.all (i := 0) (ent := ⟨g1, 40, [Value.int .i64 x.k, Value.int .i64 x.t, Value.int .i64 x.f, Value.int .i64 x.l, Value.slice x.A x.m x.c], 5⟩) rfl rfl rfl)) ?_
  refine TL.call0 (Wants.none rfl) rfl enters34 rfl rfl (v := .agg ([Value.int .i64 x.t, Value.int .i64 (lenV x.k x.l x.m)]).toArray) (fun w hs => tgt_c x.k x.t x.f x.l x.A x.m x.c hk w) ?_
  refine TL.alloc (Wants.none rfl) rfl rfl zero49 (cs := [Value.int .i64 0, Value.int .i64 0]) rfl (tot := 2) (by simp) (fun g2 hg2 => ?_)
  refine TL.storeW (Wants.none rfl) rfl rfl size49 rfl (vs := [Value.int .i64 x.t, Value.int .i64 (lenV x.k x.l x.m)]) rfl (by simp []) (by simp [Value.oneCell']) (i := 0) (ent := ⟨g2, 49, [Value.int .i64 0, Value.int .i64 0], 2⟩) rfl rfl (by simp []) (H' := [⟨g2, 49, [Value.int .i64 x.t, Value.int .i64 (lenV x.k x.l x.m)], 2⟩, ⟨g1, 40, [Value.int .i64 x.k, Value.int .i64 x.t, Value.int .i64 x.f, Value.int .i64 x.l, Value.slice x.A x.m x.c], 5⟩]) rfl ?_
  refine TL.nil ?_
  refine TE.then ?_
  refine TC.seq ?_
  refine TC.mix (by kernel_rfl) [1, 0, 1, 0, 0, 1, 1, 1, 0, 0, 0] rfl (by kernel_rfl) ?_
  refine TM.gets (Wants.none rfl) rfl (Gets.load1 rfl agg3 rfl (At.old hbp hbl (ne_cons (by show g2 ≠ bp; omega) (ne_cons (by show g1 ≠ bp; omega) ne_nil)))) ?_
  refine TM.free (Wants.none rfl) rfl (fun _ => Gets.fieldAddr rfl Try.underlying49 rfl size3 rfl (off' := 0) (by first | rfl | omega)) ?_
  refine TM.gets (Wants.none rfl) rfl (Gets.load1 rfl agg3 rfl (At.ent (i := 0) (ent := ⟨g2, 49, [Value.int .i64 x.t, Value.int .i64 (lenV x.k x.l x.m)], 2⟩) (off := 0) rfl rfl (by exact rfl))) ?_
  refine TM.free (Wants.none rfl) rfl (fun _ => Gets.geq rfl rfl rfl) ?_
  by_cases c1 : x.t ≤ p
  · refine TM.free (Wants.none rfl) rfl (fun _ => Gets.isTrue (Gets.move rfl rfl) c1) ?_
    refine TM.gets (Wants.yes rfl rfl rfl) rfl (Gets.load1 rfl agg3 rfl (At.old hbp hbl (ne_cons (by show g2 ≠ bp; omega) (ne_cons (by show g1 ≠ bp; omega) ne_nil)))) ?_
    refine TM.gets (Wants.yes rfl rfl rfl) rfl (Gets.loadN rfl agg49 size49 rfl (vs := [Value.int .i64 x.t, Value.int .i64 (lenV x.k x.l x.m)]) (by simp []) (Row.all (i := 0) (ent := ⟨g2, 49, [Value.int .i64 x.t, Value.int .i64 (lenV x.k x.l x.m)], 2⟩) rfl rfl rfl)) ?_
    refine TM.call0 (Wants.yes rfl rfl rfl) rfl enters42 rfl rfl (v := .int .i64 (x.t + (lenV x.k x.l x.m))) (fun w hs => end_c x.t (lenV x.k x.l x.m) (by omega) w) ?_
    refine TM.free (Wants.yes rfl rfl rfl) rfl (fun _ => Gets.lss rfl rfl rfl) ?_
    refine TM.free (Wants.none rfl) rfl (fun _ => Gets.pickT rfl rfl rfl) ?_
    refine TM.free (Wants.none rfl) rfl (fun _ => Gets.assign rfl rfl) ?_
    refine TM.nil ?_
    refine TE.then ?_
    refine TC.ret ?_
    exact TE.ret1 rfl rfl (fun w hs => ⟨dec_iff (by unfold hasB tg; dsimp only; omega), ((hs.drop (by assumption)).drop (by assumption))⟩)
  · refine TM.free (Wants.none rfl) rfl (fun _ => Gets.isFalse (Gets.move rfl rfl) c1) ?_
    refine TM.pass1 rfl rfl rfl rfl rfl ?_
    refine TM.pass1 rfl rfl rfl rfl rfl ?_
    refine TM.pass1 rfl rfl rfl rfl rfl ?_
    refine TM.pass rfl rfl rfl rfl rfl ?_
    refine TM.free (Wants.none rfl) rfl (fun _ => Gets.pickF rfl rfl rfl) ?_
    refine TM.free (Wants.none rfl) rfl (fun _ => Gets.assign rfl rfl) ?_
    refine TM.nil ?_
    refine TE.then ?_
    refine TC.ret ?_
    exact TE.ret1 rfl rfl (fun w hs => ⟨dec_f (by unfold hasB tg; dsimp only; omega), ((hs.drop (by assumption)).drop (by assumption))⟩)

set_option maxRecDepth 100000 in
set_option maxHeartbeats 400000 in
theorem index_c (o n : Int) (A : Option Addr) (m c : Nat) (Cs : List CV) (p : Int) (bp : Nat) (hVC : ValidC o n Cs) (hmm : m ≤ 1000000000) (hN : NumsC Cs) (w : World) (hC : SrcC w A m Cs) (hbp : w.cell? ⟨bp, 0, none⟩ = some (.int .i64 p)) (hbl : bp < w.heap.size) : Calls Try.prog 40 #[.slice A m c, .func (.func 41) #[] #[.pointer (some ⟨bp, 0, none⟩)]] w fun e w' => e = .returned (.int .i64 (findI Cs p)) ∧ St w [] w' := by
  refine calls_from (args := [.slice A m c, .func (.func 41) #[] #[.pointer (some ⟨bp, 0, none⟩)]]) Try.func40 rfl Try.ntmps40 (by simp) ?_
  refine TC.sub (Sub.cons (i := 0) rfl (Sub.cons (i := 1) rfl (Sub.nil))) ?_
  refine TC.seq ?_
  refine TC.regionL ?_
  refine TL.gets (Wants.none rfl) rfl (Gets.assign rfl rfl) ?_
  refine TL.nil ?_
  refine TE.then ?_
  refine TC.seq ?_
  refine TC.seq ?_
  refine TC.regionL ?_
  refine TL.gets (Wants.none rfl) rfl (Gets.move rfl rfl) ?_
  refine TL.gets (Wants.none rfl) rfl (Gets.lenSlice rfl Try.underlying23 rfl) ?_
  refine TL.gets (Wants.none rfl) rfl (Gets.move rfl rfl) ?_
  refine TL.nil ?_
  refine TE.then ?_
  refine TC.block ?_
  refine TC.loop (ι := Nat) (fun i => [(0, .slice A m c), (1, .func (.func 41) #[] #[.pointer (some ⟨bp, 0, none⟩)]), (7, .int .i64 (m : Int)), (8, .int .i64 (i : Int))]) (fun i => []) (fun i => m - i) (fun i => i ≤ m ∧ ∀ (j : Nat) (y : CV), j < i → Cs[j]? = some y → ¬ hasB (tg y) p) 0 ⟨Nat.zero_le _, fun j y h => absurd h (Nat.not_lt_zero j)⟩ (Sub.slice (i := 0) rfl rfl (by first | omega | (dsimp only; omega) | rfl) (by first | omega | (dsimp only; omega) | rfl) (Sub.cons (i := 1) rfl (Sub.int (i := 7) rfl (by first | omega | rfl) (Sub.int (i := 8) rfl (by first | omega | rfl) (Sub.nil))))) (fun w h => h) (fun i hC0 => ?_)
  obtain ⟨hC0, hC1⟩ := hC0
  refine TC.seq ?_
  refine TC.regionL ?_
  refine TL.gets (Wants.none rfl) rfl (Gets.lss rfl rfl rfl) ?_
  refine TL.nil ?_
  refine TE.then ?_
  refine TC.seq ?_
  refine TC.split rfl (fun hq0 => ?_) (fun hq0 => ?_)
  · obtain ⟨b, off, hAe, hb, hrw⟩ := hC.some_ (i := i) (by omega)
    subst hAe
    obtain ⟨x, hx⟩ := hC.get (i := i) (by omega)
    have hnx := hN i x hx
    unfold NumC at hnx
    have hlbx := lenV_bd (k := x.k) (l := x.l) (m := x.m) (by omega) (by omega)
    refine TC.skip ?_
    refine TE.then ?_
    refine TC.seq ?_
    refine TC.block ?_
    refine TC.seq ?_
    refine TC.regionL ?_
    refine TL.gets (Wants.none rfl) rfl (Gets.move rfl rfl) ?_
    refine TL.gets (Wants.none rfl) rfl (Gets.assign rfl rfl) ?_
    refine TL.nil ?_
    refine TE.then ?_
    refine TC.seq ?_
    refine TC.regionL ?_
    refine TL.gets (Wants.none rfl) rfl (Gets.move rfl rfl) ?_
    refine TL.gets (Wants.none rfl) rfl (Gets.move rfl rfl) ?_
    refine TL.gets (Wants.none rfl) rfl (Gets.move rfl rfl) ?_
    refine TL.gets (Wants.none rfl) rfl (Gets.idxSlice rfl Try.underlying23 size40 rfl rfl (i := i) (by omega) (by omega) (off' := (off + 5 * i)) (by omega)) ?_
    refine TL.gets (Wants.none rfl) rfl (Gets.loadN rfl agg40 size40 rfl rfl (Row.old (fun jj u h => hrw i x hx jj u h) hb ne_nil)) ?_
    refine TL.call0F (Wants.none rfl) rfl enters41 rfl rfl rfl (u := .bool (decide (hasB (tg x) p))) (fun w hs => find1_c x p bp (code_kind (single_vld (hVC.single i x hx)).2.2.2.1) (hVC.vld i x hx) w ((hs.old_cell (ad := ⟨bp, 0, none⟩) hbl ne_nil).trans hbp) (Nat.lt_of_lt_of_le hbl hs.size)) ?_
    refine TL.nil ?_
    refine TE.then ?_
    refine TC.sub (Sub.cons (i := 0) rfl (Sub.cons (i := 1) rfl (Sub.cons (i := 5) rfl (Sub.cons (i := 7) rfl (Sub.cons (i := 8) rfl (Sub.cons (i := 16) rfl (Sub.nil))))))) ?_
    refine TC.split rfl (fun hq1 => ?_) (fun hq1 => ?_)
    · refine TC.seq ?_
      refine TC.regionL ?_
      refine TL.gets (Wants.none rfl) rfl (Gets.move rfl rfl) ?_
      refine TL.gets (Wants.none rfl) rfl (Gets.assign rfl rfl) ?_
      refine TL.nil ?_
      refine TE.then ?_
      refine TC.ret ?_
      refine TE.blockR ?_
      refine TE.thenR ?_
      refine TE.thenR ?_
      refine TE.blockR ?_
      refine TE.thenR ?_
      exact TE.ret1 rfl rfl (fun w hs => ⟨ret_i ((findI_is (.inr ⟨i, x, rfl, hx, hq1, hC1⟩)).symm), hs⟩)
    · refine TC.skip ?_
      refine TE.blockN ?_
      refine TE.then ?_
      refine TC.regionL ?_
      refine TL.gets (Wants.none rfl) rfl (Gets.add rfl rfl rfl (r := ((i : Int) + 1)) (w64 (by omega) (by omega))) ?_
      refine TL.gets (Wants.none rfl) rfl (Gets.move rfl rfl) ?_
      refine TL.nil ?_
      exact TE.back (i + 1) (by omega) ⟨by omega, all_succ hC1 hx hq1⟩ (Sub.slice (i := 0) rfl (by first | rfl | (congr 2; omega)) (by first | omega | (dsimp only; omega) | rfl) (by first | omega | (dsimp only; omega) | rfl) (Sub.cons (i := 1) rfl (Sub.int (i := 7) rfl (by first | omega | rfl) (Sub.int (i := 8) rfl (by first | omega | rfl) (Sub.nil))))) (fun w h => h)
  · refine TC.exit ?_
    refine TE.thenX ?_
    refine TE.thenX ?_
    refine TE.blockX ?_
    refine TE.then ?_
    refine TC.seq ?_
    refine TC.regionL ?_
    refine TL.gets (Wants.none rfl) rfl (Gets.assign rfl rfl) ?_
    refine TL.nil ?_
    refine TE.then ?_
    refine TC.ret ?_
    exact TE.ret1 rfl rfl (fun w hs => ⟨ret_i ((findI_is (.inl ⟨rfl, all_of (m := m) (by have := hC.1; omega) (fun j y hj => hC1 j y (by omega))⟩)).symm), hs⟩)

set_option maxRecDepth 100000 in
set_option maxHeartbeats 400000 in
theorem dfind_c (o n : Int) (H1 H2 : List Int) (hH1 : H1.length = 32) (hH2 : H2.length = 32) (A : Option Addr) (m c : Nat) (Cs : List CV) (hmm : m ≤ 1000000000) (hN : NumsC Cs) (w : World) (hC : SrcC w A m Cs) (hD : DatC w Cs) (hf : fewQ Cs) (hVC : ValidC o n Cs) (p : Int)  : Calls Try.prog 24 #[.agg ([Value.int .i64 o, Value.int .i64 n] ++ (H1.map (Value.int .u8) ++ (H2.map (Value.int .u8) ++ ([Value.slice A m c])))).toArray, .int .i64 p] w fun e w' => e = .returned (.int .i64 (findI Cs p)) ∧ St w [] w' := by
  refine calls_from (args := [.agg ([Value.int .i64 o, Value.int .i64 n] ++ (H1.map (Value.int .u8) ++ (H2.map (Value.int .u8) ++ ([Value.slice A m c])))).toArray, .int .i64 p]) Try.func24 rfl Try.ntmps24 (by simp) ?_
  refine TC.sub (Sub.cons (i := 0) rfl (Sub.cons (i := 1) rfl (Sub.nil))) ?_
  refine TC.seq ?_
  refine TC.regionL ?_
  refine TL.box (Wants.none rfl) rfl rfl rfl (cs := [Value.int .i64 o, Value.int .i64 n] ++ (H1.map (Value.int .u8) ++ (H2.map (Value.int .u8) ++ ([Value.slice A m c])))) (by simp [Value.cells]) (tot := 67) (by simp [hH1, hH2]) (fun g1 hg1 => ?_)
  refine TL.box (Wants.none rfl) rfl rfl rfl (cs := [Value.int .i64 p]) rfl (tot := 1) (by simp []) (fun g2 hg2 => ?_)
  refine TL.gets (Wants.none rfl) rfl (Gets.assign rfl rfl) ?_
  refine TL.nil ?_
  refine TE.then ?_
  refine TC.seq ?_
  refine TC.regionL ?_
  refine TL.gets (Wants.none rfl) rfl (Gets.fieldAddr rfl Try.underlying25 rfl size23 rfl (off' := 66) (by first | rfl | omega)) ?_
  refine TL.gets (Wants.none rfl) rfl (Gets.load1 rfl agg23 rfl (At.ent (i := 1) (ent := ⟨g1, 25, [Value.int .i64 o, Value.int .i64 n] ++ (H1.map (Value.int .u8) ++ (H2.map (Value.int .u8) ++ ([Value.slice A m c]))), 67⟩) (off := 66) rfl rfl (by exact app_right (a := 2) (i := 64) (rfl) (app_right (a := 32) (i := 32) (ints_len hH1) (app_right (a := 32) (i := 0) (ints_len hH2) (rfl)))))) ?_
  refine TL.gets (Wants.none rfl) rfl (Gets.makeFunc rfl rfl rfl) ?_
  refine TL.call0 (Wants.none rfl) rfl enters40 rfl rfl (v := .int .i64 (findI Cs p)) (fun w hs => index_c o n A m c Cs p g2 hVC hmm hN w (hC.at_ hs (fun b hb => (ne_cons (by show g2 ≠ b; omega) (ne_cons (by show g1 ≠ b; omega) ne_nil)))) ((hs.has (⟨g2, 3, [Value.int .i64 p], 1⟩) (by simp)).cell rfl) (hs.has (⟨g2, 3, [Value.int .i64 p], 1⟩) (by simp)).lt) ?_
  refine TL.gets (Wants.none rfl) rfl (Gets.assign rfl rfl) ?_
  refine TL.nil ?_
  refine TE.then ?_
  refine TC.ret ?_
  exact TE.ret1 rfl rfl (fun w hs => ⟨ret_i (rfl), ((hs.drop (by assumption)).drop (by assumption))⟩)

set_option maxRecDepth 100000 in
set_option maxHeartbeats 400000 in
theorem equal_c (A A2 : Option Addr) (m c m2 c2 : Nat) (Cs Es : List CV) (hmm : m ≤ 1000000000) (hmm2 : m2 ≤ 1000000000) (hN : NumsC Cs) (w : World) (hC : SrcC w A m Cs) (hC2 : SrcC w A2 m2 Es) (hD : DatC w Cs) (hE : DatC w Es) : Calls Try.prog 37 #[.slice A m c, .slice A2 m2 c2, .func (.func 38) #[] #[]] w fun e w' => e = .returned (.bool (decide (sameC Cs Es))) ∧ St w [] w' := by
  refine calls_from (args := [.slice A m c, .slice A2 m2 c2, .func (.func 38) #[] #[]]) Try.func37 rfl Try.ntmps37 (by simp) ?_
  refine TC.sub (Sub.cons (i := 0) rfl (Sub.cons (i := 1) rfl (Sub.cons (i := 2) rfl (Sub.nil)))) ?_
  refine TC.seq ?_
  refine TC.regionL ?_
  refine TL.gets (Wants.none rfl) rfl (Gets.assign rfl rfl) ?_
  refine TL.nil ?_
  refine TE.then ?_
  refine TC.seq ?_
  refine TC.seq ?_
  refine TC.regionL ?_
  refine TL.gets (Wants.none rfl) rfl (Gets.move rfl rfl) ?_
  refine TL.gets (Wants.none rfl) rfl (Gets.lenSlice rfl Try.underlying23 rfl) ?_
  refine TL.gets (Wants.none rfl) rfl (Gets.move rfl rfl) ?_
  refine TL.gets (Wants.none rfl) rfl (Gets.lenSlice rfl Try.underlying23 rfl) ?_
  refine TL.gets (Wants.none rfl) rfl (Gets.neq rfl rfl rfl) ?_
  refine TL.nil ?_
  refine TE.then ?_
  refine TC.sub (Sub.cons (i := 0) rfl (Sub.cons (i := 1) rfl (Sub.cons (i := 2) rfl (Sub.cons (i := 6) rfl (Sub.cons (i := 14) rfl (Sub.nil)))))) ?_
  refine TC.split rfl (fun hq0 => ?_) (fun hq0 => ?_)
  · refine TC.seq ?_
    refine TC.regionL ?_
    refine TL.gets (Wants.none rfl) rfl (Gets.assign rfl rfl) ?_
    refine TL.nil ?_
    refine TE.then ?_
    refine TC.ret ?_
    refine TE.thenR ?_
    exact TE.ret1 rfl rfl (fun w hs => ⟨dec_f (fun h => by first | exact hq2 (sameC_at h hx hy) | (have h1 := sameC_len h; have h2 := hC.1; have h3 := hC2.1; omega)), hs⟩)
  · refine TC.skip ?_
    refine TE.then ?_
    refine TC.seq ?_
    refine TC.seq ?_
    refine TC.regionL ?_
    refine TL.gets (Wants.none rfl) rfl (Gets.move rfl rfl) ?_
    refine TL.gets (Wants.none rfl) rfl (Gets.lenSlice rfl Try.underlying23 rfl) ?_
    refine TL.gets (Wants.none rfl) rfl (Gets.move rfl rfl) ?_
    refine TL.nil ?_
    refine TE.then ?_
    refine TC.block ?_
    refine TC.loop (ι := Nat) (fun i => [(1, .slice A2 m2 c2), (2, .func (.func 38) #[] #[]), (15, .slice A m c), (16, .int .i64 (m : Int)), (17, .int .i64 (i : Int))]) (fun i => []) (fun i => m - i) (fun i => i ≤ m ∧ ∀ (j : Nat) (x y : CV), j < i → Cs[j]? = some x → Es[j]? = some y → sameV x y) 0 ⟨Nat.zero_le _, fun j x y h => absurd h (Nat.not_lt_zero j)⟩ (Sub.slice (i := 1) rfl rfl (by first | omega | (dsimp only; omega) | rfl) (by first | omega | (dsimp only; omega) | rfl) (Sub.cons (i := 2) rfl (Sub.slice (i := 15) rfl rfl (by first | omega | (dsimp only; omega) | rfl) (by first | omega | (dsimp only; omega) | rfl) (Sub.int (i := 16) rfl (by first | omega | rfl) (Sub.int (i := 17) rfl (by first | omega | rfl) (Sub.nil)))))) (fun w h => h) (fun i hC0 => ?_)
    obtain ⟨hC0, hj⟩ := hC0
    refine TC.seq ?_
    refine TC.regionL ?_
    refine TL.gets (Wants.none rfl) rfl (Gets.lss rfl rfl rfl) ?_
    refine TL.nil ?_
    refine TE.then ?_
    refine TC.seq ?_
    refine TC.split rfl (fun hq1 => ?_) (fun hq1 => ?_)
    · obtain ⟨b, off, hAe, hb, hrw⟩ := hC.some_ (i := i) (by omega)
      subst hAe
      obtain ⟨x, hx⟩ := hC.get (i := i) (by omega)
      have hnx := hN i x hx
      unfold NumC at hnx
      have hlbx := lenV_bd (k := x.k) (l := x.l) (m := x.m) (by omega) (by omega)
      obtain ⟨b2, off2, hAe2, hb2, hrw2⟩ := hC2.some_ (i := i) (by omega)
      subst hAe2
      obtain ⟨y, hy⟩ := hC2.get (i := i) (by omega)
      refine TC.skip ?_
      refine TE.then ?_
      refine TC.seq ?_
      refine TC.block ?_
      refine TC.seq ?_
      refine TC.regionL ?_
      refine TL.gets (Wants.none rfl) rfl (Gets.move rfl rfl) ?_
      refine TL.gets (Wants.none rfl) rfl (Gets.idxSlice rfl Try.underlying23 size40 rfl rfl (i := i) (by omega) (by omega) (off' := (off + 5 * i)) (by omega)) ?_
      refine TL.gets (Wants.none rfl) rfl (Gets.loadN rfl agg40 size40 rfl rfl (Row.old (fun jj u h => hrw i x hx jj u h) hb ne_nil)) ?_
      refine TL.alloc (Wants.none rfl) rfl rfl zero40 (cs := [Value.int .i64 0, Value.int .i64 0, Value.int .i64 0, Value.int .i64 0, Value.slice none 0 0]) rfl (tot := 5) (by simp) (fun g1 hg1 => ?_)
      refine TL.gets (Wants.none rfl) rfl (Gets.assign rfl rfl) ?_
      refine TL.storeW (Wants.none rfl) rfl rfl size40 rfl (vs := [Value.int .i64 x.k, Value.int .i64 x.t, Value.int .i64 x.f, Value.int .i64 x.l, Value.slice x.A x.m x.c]) rfl (by simp []) (by simp [Value.oneCell']) (i := 0) (ent := ⟨g1, 40, [Value.int .i64 0, Value.int .i64 0, Value.int .i64 0, Value.int .i64 0, Value.slice none 0 0], 5⟩) rfl rfl (by simp []) (H' := [⟨g1, 40, [Value.int .i64 x.k, Value.int .i64 x.t, Value.int .i64 x.f, Value.int .i64 x.l, Value.slice x.A x.m x.c], 5⟩]) rfl ?_
      refine TL.nil ?_
      refine TE.then ?_
      refine TC.sub (Sub.cons (i := 1) rfl (Sub.cons (i := 2) rfl (Sub.cons (i := 7) rfl (Sub.cons (i := 8) rfl (Sub.cons (i := 15) rfl (Sub.cons (i := 16) rfl (Sub.cons (i := 17) rfl (Sub.nil)))))))) ?_
      refine TC.seq ?_
      refine TC.regionL ?_
      refine TL.gets (Wants.none rfl) rfl (Gets.move rfl rfl) ?_
      refine TL.gets (Wants.none rfl) rfl (Gets.move rfl rfl) ?_
      refine TL.gets (Wants.none rfl) rfl (Gets.idxSlice rfl Try.underlying23 size40 rfl rfl (i := i) (by omega) (by omega) (off' := (off2 + 5 * i)) (by omega)) ?_
      refine TL.gets (Wants.none rfl) rfl (Gets.loadN rfl agg40 size40 rfl rfl (Row.old (fun jj u h => hrw2 i y hy jj u h) hb2 (ne_cons (by show g1 ≠ b2; omega) ne_nil))) ?_
      refine TL.alloc (Wants.none rfl) rfl rfl zero40 (cs := [Value.int .i64 0, Value.int .i64 0, Value.int .i64 0, Value.int .i64 0, Value.slice none 0 0]) rfl (tot := 5) (by simp) (fun g2 hg2 => ?_)
      refine TL.storeW (Wants.none rfl) rfl rfl size40 rfl (vs := [Value.int .i64 y.k, Value.int .i64 y.t, Value.int .i64 y.f, Value.int .i64 y.l, Value.slice y.A y.m y.c]) rfl (by simp []) (by simp [Value.oneCell']) (i := 0) (ent := ⟨g2, 40, [Value.int .i64 0, Value.int .i64 0, Value.int .i64 0, Value.int .i64 0, Value.slice none 0 0], 5⟩) rfl rfl (by simp []) (H' := [⟨g2, 40, [Value.int .i64 y.k, Value.int .i64 y.t, Value.int .i64 y.f, Value.int .i64 y.l, Value.slice y.A y.m y.c], 5⟩, ⟨g1, 40, [Value.int .i64 x.k, Value.int .i64 x.t, Value.int .i64 x.f, Value.int .i64 x.l, Value.slice x.A x.m x.c], 5⟩]) rfl ?_
      refine TL.nil ?_
      refine TE.then ?_
      refine TC.sub (Sub.cons (i := 1) rfl (Sub.cons (i := 2) rfl (Sub.cons (i := 8) rfl (Sub.cons (i := 9) rfl (Sub.cons (i := 15) rfl (Sub.cons (i := 16) rfl (Sub.cons (i := 17) rfl (Sub.nil)))))))) ?_
      refine TC.seq ?_
      refine TC.regionL ?_
      refine TL.gets (Wants.none rfl) rfl (Gets.move rfl rfl) ?_
      refine TL.gets (Wants.none rfl) rfl (Gets.loadN rfl agg40 size40 rfl (vs := [Value.int .i64 x.k, Value.int .i64 x.t, Value.int .i64 x.f, Value.int .i64 x.l, Value.slice x.A x.m x.c]) (by simp []) (Row.all (i := 1) (ent := ⟨g1, 40, [Value.int .i64 x.k, Value.int .i64 x.t, Value.int .i64 x.f, Value.int .i64 x.l, Value.slice x.A x.m x.c], 5⟩) rfl rfl rfl)) ?_
      refine TL.gets (Wants.none rfl) rfl (Gets.loadN rfl agg40 size40 rfl (vs := [Value.int .i64 y.k, Value.int .i64 y.t, Value.int .i64 y.f, Value.int .i64 y.l, Value.slice y.A y.m y.c]) (by simp []) (Row.all (i := 0) (ent := ⟨g2, 40, [Value.int .i64 y.k, Value.int .i64 y.t, Value.int .i64 y.f, Value.int .i64 y.l, Value.slice y.A y.m y.c], 5⟩) rfl rfl rfl)) ?_
      refine TL.call0F (Wants.none rfl) rfl enters38 rfl rfl rfl (u := .bool (decide (sameP x.k x.t x.f x.l y.k y.t y.f y.l x.B y.B))) (fun w hs => same_c x.k x.t x.f x.l y.k y.t y.f y.l x.A y.A x.m x.c y.m y.c x.B y.B (hD i x hx).2 (hE i y hy).2 w ((hD i x hx).1.at_ hs (fun b hb => (ne_cons (by show g2 ≠ b; omega) (ne_cons (by show g1 ≠ b; omega) ne_nil)))) ((hE i y hy).1.at_ hs (fun b hb => (ne_cons (by show g2 ≠ b; omega) (ne_cons (by show g1 ≠ b; omega) ne_nil))))) ?_
      refine TL.gets (Wants.none rfl) rfl (Gets.notP rfl rfl) ?_
      refine TL.nil ?_
      refine TE.then ?_
      refine TC.sub (Sub.cons (i := 1) rfl (Sub.cons (i := 2) rfl (Sub.cons (i := 15) rfl (Sub.cons (i := 16) rfl (Sub.cons (i := 17) rfl (Sub.cons (i := 30) rfl (Sub.nil))))))) ?_
      refine TC.split rfl (fun hq2 => ?_) (fun hq2 => ?_)
      · refine TC.seq ?_
        refine TC.regionL ?_
        refine TL.gets (Wants.none rfl) rfl (Gets.assign rfl rfl) ?_
        refine TL.nil ?_
        refine TE.then ?_
        refine TC.ret ?_
        refine TE.blockR ?_
        refine TE.thenR ?_
        refine TE.thenR ?_
        refine TE.blockR ?_
        refine TE.thenR ?_
        exact TE.ret1 rfl rfl (fun w hs => ⟨dec_f (fun h => by first | exact hq2 (sameC_at h hx hy) | (have h1 := sameC_len h; have h2 := hC.1; have h3 := hC2.1; omega)), ((hs.drop (by assumption)).drop (by assumption))⟩)
      · refine TC.skip ?_
        refine TE.blockN ?_
        refine TE.then ?_
        refine TC.regionL ?_
        refine TL.gets (Wants.none rfl) rfl (Gets.add rfl rfl rfl (r := ((i : Int) + 1)) (w64 (by omega) (by omega))) ?_
        refine TL.gets (Wants.none rfl) rfl (Gets.move rfl rfl) ?_
        refine TL.nil ?_
        exact TE.back (i + 1) (by omega) ⟨by omega, sameC_succ hj hx hy (Decidable.not_not.1 hq2)⟩ (Sub.slice (i := 1) rfl (by first | rfl | (congr 2; omega)) (by first | omega | (dsimp only; omega) | rfl) (by first | omega | (dsimp only; omega) | rfl) (Sub.cons (i := 2) rfl (Sub.slice (i := 15) rfl (by first | rfl | (congr 2; omega)) (by first | omega | (dsimp only; omega) | rfl) (by first | omega | (dsimp only; omega) | rfl) (Sub.int (i := 16) rfl (by first | omega | rfl) (Sub.int (i := 17) rfl (by first | omega | rfl) (Sub.nil)))))) (fun w h => ((h.erase (i := 1) rfl (by assumption)).erase (i := 0) rfl (by assumption)))
    · refine TC.exit ?_
      refine TE.thenX ?_
      refine TE.thenX ?_
      refine TE.blockX ?_
      refine TE.then ?_
      refine TC.seq ?_
      refine TC.regionL ?_
      refine TL.gets (Wants.none rfl) rfl (Gets.assign rfl rfl) ?_
      refine TL.nil ?_
      refine TE.then ?_
      refine TC.ret ?_
      exact TE.ret1 rfl rfl (fun w hs => ⟨dec_t (sameC_of (by have := hC.1; have := hC2.1; omega) fun i' x y hx hy => hj i' x y (by have := (List.getElem?_eq_some_iff.1 hx).1; have := hC.1; omega) hx hy), hs⟩)

set_option maxRecDepth 100000 in
set_option maxHeartbeats 400000 in
theorem dsame_c (o n : Int) (H1 H2 : List Int) (hH1 : H1.length = 32) (hH2 : H2.length = 32) (A : Option Addr) (m c : Nat) (Cs : List CV) (o2 n2 : Int) (G1 G2 : List Int) (hG1 : G1.length = 32) (hG2 : G2.length = 32) (A2 : Option Addr) (m2 c2 : Nat) (Es : List CV) (hmm : m ≤ 1000000000) (hmm2 : m2 ≤ 1000000000) (hN : NumsC Cs) (w : World) (hC : SrcC w A m Cs) (hC2 : SrcC w A2 m2 Es) (hD : DatC w Cs) (hE : DatC w Es) (hf : fewQ Cs) (hf2 : fewQ Es) : Calls Try.prog 22 #[.agg ([Value.int .i64 o, Value.int .i64 n] ++ (H1.map (Value.int .u8) ++ (H2.map (Value.int .u8) ++ ([Value.slice A m c])))).toArray, .agg ([Value.int .i64 o2, Value.int .i64 n2] ++ (G1.map (Value.int .u8) ++ (G2.map (Value.int .u8) ++ ([Value.slice A2 m2 c2])))).toArray] w fun e w' => e = .returned (.bool (decide (sameD o n H1 H2 Cs o2 n2 G1 G2 Es))) ∧ St w [] w' := by
  refine calls_from (args := [.agg ([Value.int .i64 o, Value.int .i64 n] ++ (H1.map (Value.int .u8) ++ (H2.map (Value.int .u8) ++ ([Value.slice A m c])))).toArray, .agg ([Value.int .i64 o2, Value.int .i64 n2] ++ (G1.map (Value.int .u8) ++ (G2.map (Value.int .u8) ++ ([Value.slice A2 m2 c2])))).toArray]) Try.func22 rfl Try.ntmps22 (by simp) ?_
  refine TC.sub (Sub.cons (i := 0) rfl (Sub.cons (i := 1) rfl (Sub.nil))) ?_
  refine TC.seq ?_
  refine TC.regionL ?_
  refine TL.box (Wants.none rfl) rfl rfl rfl (cs := [Value.int .i64 o, Value.int .i64 n] ++ (H1.map (Value.int .u8) ++ (H2.map (Value.int .u8) ++ ([Value.slice A m c])))) (by simp [Value.cells]) (tot := 67) (by simp [hH1, hH2]) (fun g1 hg1 => ?_)
  refine TL.box (Wants.none rfl) rfl rfl rfl (cs := [Value.int .i64 o2, Value.int .i64 n2] ++ (G1.map (Value.int .u8) ++ (G2.map (Value.int .u8) ++ ([Value.slice A2 m2 c2])))) (by simp [Value.cells]) (tot := 67) (by simp [hG1, hG2]) (fun g2 hg2 => ?_)
  refine TL.gets (Wants.none rfl) rfl (Gets.assign rfl rfl) ?_
  refine TL.nil ?_
  refine TE.then ?_
  refine TC.seq ?_
  refine TC.regionL ?_
  refine TL.gets (Wants.none rfl) rfl (Gets.fieldAddr rfl Try.underlying25 rfl size3 rfl (off' := 0) (by first | rfl | omega)) ?_
  refine TL.gets (Wants.none rfl) rfl (Gets.load1 rfl agg3 rfl (At.ent (i := 1) (ent := ⟨g1, 25, [Value.int .i64 o, Value.int .i64 n] ++ (H1.map (Value.int .u8) ++ (H2.map (Value.int .u8) ++ ([Value.slice A m c]))), 67⟩) (off := 0) rfl rfl (by exact app_left (i := 0) (B := H1.map (Value.int .u8) ++ (H2.map (Value.int .u8) ++ ([Value.slice A m c]))) (rfl)))) ?_
  refine TL.gets (Wants.none rfl) rfl (Gets.fieldAddr rfl Try.underlying25 rfl size3 rfl (off' := 0) (by first | rfl | omega)) ?_
  refine TL.gets (Wants.none rfl) rfl (Gets.load1 rfl agg3 rfl (At.ent (i := 0) (ent := ⟨g2, 25, [Value.int .i64 o2, Value.int .i64 n2] ++ (G1.map (Value.int .u8) ++ (G2.map (Value.int .u8) ++ ([Value.slice A2 m2 c2]))), 67⟩) (off := 0) rfl rfl (by exact app_left (i := 0) (B := G1.map (Value.int .u8) ++ (G2.map (Value.int .u8) ++ ([Value.slice A2 m2 c2]))) (rfl)))) ?_
  refine TL.gets (Wants.none rfl) rfl (Gets.eql rfl rfl rfl) ?_
  by_cases q1 : o = o2
  · refine TL.gets (Wants.none rfl) rfl (Gets.isTrue (Gets.move rfl rfl) q1) ?_
    refine TL.gets (Wants.yes rfl rfl rfl) rfl (Gets.fieldAddr rfl Try.underlying25 rfl size3 rfl (off' := 1) (by first | rfl | omega)) ?_
    refine TL.gets (Wants.yes rfl rfl rfl) rfl (Gets.load1 rfl agg3 rfl (At.ent (i := 1) (ent := ⟨g1, 25, [Value.int .i64 o, Value.int .i64 n] ++ (H1.map (Value.int .u8) ++ (H2.map (Value.int .u8) ++ ([Value.slice A m c]))), 67⟩) (off := 1) rfl rfl (by exact app_left (i := 1) (B := H1.map (Value.int .u8) ++ (H2.map (Value.int .u8) ++ ([Value.slice A m c]))) (rfl)))) ?_
    refine TL.gets (Wants.yes rfl rfl rfl) rfl (Gets.fieldAddr rfl Try.underlying25 rfl size3 rfl (off' := 1) (by first | rfl | omega)) ?_
    refine TL.gets (Wants.yes rfl rfl rfl) rfl (Gets.load1 rfl agg3 rfl (At.ent (i := 0) (ent := ⟨g2, 25, [Value.int .i64 o2, Value.int .i64 n2] ++ (G1.map (Value.int .u8) ++ (G2.map (Value.int .u8) ++ ([Value.slice A2 m2 c2]))), 67⟩) (off := 1) rfl rfl (by exact app_left (i := 1) (B := G1.map (Value.int .u8) ++ (G2.map (Value.int .u8) ++ ([Value.slice A2 m2 c2]))) (rfl)))) ?_
    refine TL.gets (Wants.yes rfl rfl rfl) rfl (Gets.eql rfl rfl rfl) ?_
    refine TL.gets (Wants.none rfl) rfl (Gets.pickT rfl rfl rfl) ?_
    by_cases q2 : n = n2
    · refine TL.gets (Wants.none rfl) rfl (Gets.isTrue (Gets.move rfl rfl) q2) ?_
      refine TL.gets (Wants.yes rfl rfl rfl) rfl (Gets.fieldAddr rfl Try.underlying25 rfl size22 rfl (off' := 2) (by first | rfl | omega)) ?_
      refine TL.gets (Wants.yes rfl rfl rfl) rfl (Gets.loadN rfl agg22 size22 rfl (vs := H1.map (Value.int .u8)) (by simp [hH1]) (Row.part (i := 1) (ent := ⟨g1, 25, [Value.int .i64 o, Value.int .i64 n] ++ (H1.map (Value.int .u8) ++ (H2.map (Value.int .u8) ++ ([Value.slice A m c]))), 67⟩) rfl rfl (by exact seg_mid (by simp [])))) ?_
      refine TL.gets (Wants.yes rfl rfl rfl) rfl (Gets.fieldAddr rfl Try.underlying25 rfl size22 rfl (off' := 2) (by first | rfl | omega)) ?_
      refine TL.gets (Wants.yes rfl rfl rfl) rfl (Gets.loadN rfl agg22 size22 rfl (vs := G1.map (Value.int .u8)) (by simp [hG1]) (Row.part (i := 0) (ent := ⟨g2, 25, [Value.int .i64 o2, Value.int .i64 n2] ++ (G1.map (Value.int .u8) ++ (G2.map (Value.int .u8) ++ ([Value.slice A2 m2 c2]))), 67⟩) rfl rfl (by exact seg_mid (by simp [])))) ?_
      refine TL.gets (Wants.yes rfl rfl rfl) rfl (Gets.arrEq rfl Try.underlying22 Try.underlying5 size5 geq22 rfl rfl hH1 hG1) ?_
      refine TL.gets (Wants.none rfl) rfl (Gets.pickT rfl rfl rfl) ?_
      by_cases q3 : H1 = G1
      · refine TL.gets (Wants.none rfl) rfl (Gets.isTrue (Gets.move rfl rfl) q3) ?_
        refine TL.gets (Wants.yes rfl rfl rfl) rfl (Gets.fieldAddr rfl Try.underlying25 rfl size22 rfl (off' := 34) (by first | rfl | omega)) ?_
        refine TL.gets (Wants.yes rfl rfl rfl) rfl (Gets.loadN rfl agg22 size22 rfl (vs := H2.map (Value.int .u8)) (by simp [hH2]) (Row.part (i := 1) (ent := ⟨g1, 25, [Value.int .i64 o, Value.int .i64 n] ++ (H1.map (Value.int .u8) ++ (H2.map (Value.int .u8) ++ ([Value.slice A m c]))), 67⟩) rfl rfl (by rw [← List.append_assoc]; exact seg_mid (by simp [hH1])))) ?_
        refine TL.gets (Wants.yes rfl rfl rfl) rfl (Gets.fieldAddr rfl Try.underlying25 rfl size22 rfl (off' := 34) (by first | rfl | omega)) ?_
        refine TL.gets (Wants.yes rfl rfl rfl) rfl (Gets.loadN rfl agg22 size22 rfl (vs := G2.map (Value.int .u8)) (by simp [hG2]) (Row.part (i := 0) (ent := ⟨g2, 25, [Value.int .i64 o2, Value.int .i64 n2] ++ (G1.map (Value.int .u8) ++ (G2.map (Value.int .u8) ++ ([Value.slice A2 m2 c2]))), 67⟩) rfl rfl (by rw [← List.append_assoc]; exact seg_mid (by simp [hG1])))) ?_
        refine TL.gets (Wants.yes rfl rfl rfl) rfl (Gets.arrEq rfl Try.underlying22 Try.underlying5 size5 geq22 rfl rfl hH2 hG2) ?_
        refine TL.gets (Wants.none rfl) rfl (Gets.pickT rfl rfl rfl) ?_
        by_cases q4 : H2 = G2
        · refine TL.gets (Wants.none rfl) rfl (Gets.isTrue (Gets.move rfl rfl) q4) ?_
          refine TL.gets (Wants.yes rfl rfl rfl) rfl (Gets.fieldAddr rfl Try.underlying25 rfl size23 rfl (off' := 66) (by first | rfl | omega)) ?_
          refine TL.gets (Wants.yes rfl rfl rfl) rfl (Gets.load1 rfl agg23 rfl (At.ent (i := 1) (ent := ⟨g1, 25, [Value.int .i64 o, Value.int .i64 n] ++ (H1.map (Value.int .u8) ++ (H2.map (Value.int .u8) ++ ([Value.slice A m c]))), 67⟩) (off := 66) rfl rfl (by exact app_right (a := 2) (i := 64) (rfl) (app_right (a := 32) (i := 32) (ints_len hH1) (app_right (a := 32) (i := 0) (ints_len hH2) (rfl)))))) ?_
          refine TL.gets (Wants.yes rfl rfl rfl) rfl (Gets.fieldAddr rfl Try.underlying25 rfl size23 rfl (off' := 66) (by first | rfl | omega)) ?_
          refine TL.gets (Wants.yes rfl rfl rfl) rfl (Gets.load1 rfl agg23 rfl (At.ent (i := 0) (ent := ⟨g2, 25, [Value.int .i64 o2, Value.int .i64 n2] ++ (G1.map (Value.int .u8) ++ (G2.map (Value.int .u8) ++ ([Value.slice A2 m2 c2]))), 67⟩) (off := 66) rfl rfl (by exact app_right (a := 2) (i := 64) (rfl) (app_right (a := 32) (i := 32) (ints_len hG1) (app_right (a := 32) (i := 0) (ints_len hG2) (rfl)))))) ?_
          refine TL.call0 (Wants.yes rfl rfl rfl) rfl enters37 rfl rfl (v := .bool (decide (sameC Cs Es))) (fun w hs => equal_c A A2 m c m2 c2 Cs Es hmm hmm2 hN w (hC.at_ hs (fun b hb => (ne_cons (by show g2 ≠ b; omega) (ne_cons (by show g1 ≠ b; omega) ne_nil)))) (hC2.at_ hs (fun b hb => (ne_cons (by show g2 ≠ b; omega) (ne_cons (by show g1 ≠ b; omega) ne_nil)))) (hD.at_ hs (fun b hb => (ne_cons (by show g2 ≠ b; omega) (ne_cons (by show g1 ≠ b; omega) ne_nil)))) (hE.at_ hs (fun b hb => (ne_cons (by show g2 ≠ b; omega) (ne_cons (by show g1 ≠ b; omega) ne_nil))))) ?_
          refine TL.gets (Wants.none rfl) rfl (Gets.pickT rfl rfl rfl) ?_
          refine TL.gets (Wants.none rfl) rfl (Gets.assign rfl rfl) ?_
          refine TL.nil ?_
          refine TE.then ?_
          refine TC.ret ?_
          exact TE.ret1 rfl rfl (fun w hs => ⟨dec_iff (by unfold sameD; simp [*]), ((hs.drop (by assumption)).drop (by assumption))⟩)
        · refine TL.gets (Wants.none rfl) rfl (Gets.isFalse (Gets.move rfl rfl) q4) ?_
          refine TL.pass rfl rfl rfl rfl rfl ?_
          refine TL.pass rfl rfl rfl rfl rfl ?_
          refine TL.pass rfl rfl rfl rfl rfl ?_
          refine TL.pass rfl rfl rfl rfl rfl ?_
          refine TL.pass rfl rfl rfl rfl rfl ?_
          refine TL.gets (Wants.none rfl) rfl (Gets.pickF rfl rfl rfl) ?_
          refine TL.gets (Wants.none rfl) rfl (Gets.assign rfl rfl) ?_
          refine TL.nil ?_
          refine TE.then ?_
          refine TC.ret ?_
          exact TE.ret1 rfl rfl (fun w hs => ⟨dec_f (by unfold sameD; simp [*]), ((hs.drop (by assumption)).drop (by assumption))⟩)
      · refine TL.gets (Wants.none rfl) rfl (Gets.isFalse (Gets.move rfl rfl) q3) ?_
        refine TL.pass rfl rfl rfl rfl rfl ?_
        refine TL.pass rfl rfl rfl rfl rfl ?_
        refine TL.pass rfl rfl rfl rfl rfl ?_
        refine TL.pass rfl rfl rfl rfl rfl ?_
        refine TL.pass rfl rfl rfl rfl rfl ?_
        refine TL.gets (Wants.none rfl) rfl (Gets.pickF rfl rfl rfl) ?_
        refine TL.gets (Wants.none rfl) rfl (Gets.move rfl rfl) ?_
        refine TL.pass rfl rfl rfl rfl rfl ?_
        refine TL.pass rfl rfl rfl rfl rfl ?_
        refine TL.pass rfl rfl rfl rfl rfl ?_
        refine TL.pass rfl rfl rfl rfl rfl ?_
        refine TL.pass rfl rfl rfl rfl rfl ?_
        refine TL.gets (Wants.none rfl) rfl (Gets.pickF rfl rfl rfl) ?_
        refine TL.gets (Wants.none rfl) rfl (Gets.assign rfl rfl) ?_
        refine TL.nil ?_
        refine TE.then ?_
        refine TC.ret ?_
        exact TE.ret1 rfl rfl (fun w hs => ⟨dec_f (by unfold sameD; simp [*]), ((hs.drop (by assumption)).drop (by assumption))⟩)
    · refine TL.gets (Wants.none rfl) rfl (Gets.isFalse (Gets.move rfl rfl) q2) ?_
      refine TL.pass rfl rfl rfl rfl rfl ?_
      refine TL.pass rfl rfl rfl rfl rfl ?_
      refine TL.pass rfl rfl rfl rfl rfl ?_
      refine TL.pass rfl rfl rfl rfl rfl ?_
      refine TL.pass rfl rfl rfl rfl rfl ?_
      refine TL.gets (Wants.none rfl) rfl (Gets.pickF rfl rfl rfl) ?_
      refine TL.gets (Wants.none rfl) rfl (Gets.move rfl rfl) ?_
      refine TL.pass rfl rfl rfl rfl rfl ?_
      refine TL.pass rfl rfl rfl rfl rfl ?_
      refine TL.pass rfl rfl rfl rfl rfl ?_
      refine TL.pass rfl rfl rfl rfl rfl ?_
      refine TL.pass rfl rfl rfl rfl rfl ?_
      refine TL.gets (Wants.none rfl) rfl (Gets.pickF rfl rfl rfl) ?_
      refine TL.gets (Wants.none rfl) rfl (Gets.move rfl rfl) ?_
      refine TL.pass rfl rfl rfl rfl rfl ?_
      refine TL.pass rfl rfl rfl rfl rfl ?_
      refine TL.pass rfl rfl rfl rfl rfl ?_
      refine TL.pass rfl rfl rfl rfl rfl ?_
      refine TL.pass rfl rfl rfl rfl rfl ?_
      refine TL.gets (Wants.none rfl) rfl (Gets.pickF rfl rfl rfl) ?_
      refine TL.gets (Wants.none rfl) rfl (Gets.assign rfl rfl) ?_
      refine TL.nil ?_
      refine TE.then ?_
      refine TC.ret ?_
      exact TE.ret1 rfl rfl (fun w hs => ⟨dec_f (by unfold sameD; simp [*]), ((hs.drop (by assumption)).drop (by assumption))⟩)
  · refine TL.gets (Wants.none rfl) rfl (Gets.isFalse (Gets.move rfl rfl) q1) ?_
    refine TL.pass rfl rfl rfl rfl rfl ?_
    refine TL.pass rfl rfl rfl rfl rfl ?_
    refine TL.pass rfl rfl rfl rfl rfl ?_
    refine TL.pass rfl rfl rfl rfl rfl ?_
    refine TL.pass rfl rfl rfl rfl rfl ?_
    refine TL.gets (Wants.none rfl) rfl (Gets.pickF rfl rfl rfl) ?_
    refine TL.gets (Wants.none rfl) rfl (Gets.move rfl rfl) ?_
    refine TL.pass rfl rfl rfl rfl rfl ?_
    refine TL.pass rfl rfl rfl rfl rfl ?_
    refine TL.pass rfl rfl rfl rfl rfl ?_
    refine TL.pass rfl rfl rfl rfl rfl ?_
    refine TL.pass rfl rfl rfl rfl rfl ?_
    refine TL.gets (Wants.none rfl) rfl (Gets.pickF rfl rfl rfl) ?_
    refine TL.gets (Wants.none rfl) rfl (Gets.move rfl rfl) ?_
    refine TL.pass rfl rfl rfl rfl rfl ?_
    refine TL.pass rfl rfl rfl rfl rfl ?_
    refine TL.pass rfl rfl rfl rfl rfl ?_
    refine TL.pass rfl rfl rfl rfl rfl ?_
    refine TL.pass rfl rfl rfl rfl rfl ?_
    refine TL.gets (Wants.none rfl) rfl (Gets.pickF rfl rfl rfl) ?_
    refine TL.gets (Wants.none rfl) rfl (Gets.move rfl rfl) ?_
    refine TL.pass rfl rfl rfl rfl rfl ?_
    refine TL.pass rfl rfl rfl rfl rfl ?_
    refine TL.pass rfl rfl rfl rfl rfl ?_
    refine TL.pass rfl rfl rfl rfl rfl ?_
    refine TL.pass rfl rfl rfl rfl rfl ?_
    refine TL.gets (Wants.none rfl) rfl (Gets.pickF rfl rfl rfl) ?_
    refine TL.gets (Wants.none rfl) rfl (Gets.assign rfl rfl) ?_
    refine TL.nil ?_
    refine TE.then ?_
    refine TC.ret ?_
    exact TE.ret1 rfl rfl (fun w hs => ⟨dec_f (by unfold sameD; simp [*]), ((hs.drop (by assumption)).drop (by assumption))⟩)
end Go.Proofs.Ytkgamkjdkapchaa
/-
  Clones of commands, with the blocks that hold their bytes.
-/
namespace Go.Proofs.Ytkgamkjdkapchaa
set_option linter.unusedVariables false
set_option linter.unusedSimpArgs false
set_option linter.unusedVariables false
open Go Go.RowKit
def OwnB (N : Nat) (Fs : List CV) (He : List Ent) : Prop := (∀ e ∈ He, N ≤ e.g) ∧ NumsC Fs ∧ ∀ w : World, (∀ e ∈ He, e.lies w) → DatC w Fs
def clV (x : CV) (A : Option Addr) (c : Nat) : CV := ⟨x.k, x.t, x.f, x.l, A, x.m, c, x.B⟩
def CloneR (N : Nat) (x : CV) (A : Option Addr) (c : Nat) (He : List Ent) : Prop := (∀ e ∈ He, N ≤ e.g) ∧ NumC (clV x A c) ∧ ∀ w : World, (∀ e ∈ He, e.lies w) → Src w A x.m .u8 x.B ∧ Bytes x.B
theorem CloneR.mono {N N' : Nat} {x : CV} {A : Option Addr} {c : Nat} {He : List Ent} (h : CloneR N' x A c He) (hN : N ≤ N') : CloneR N x A c He := ⟨fun e he => Nat.le_trans hN (h.1 e he), h.2⟩
theorem OwnB.nil (N : Nat) : OwnB N [] [] := ⟨fun e he => (nomatch he), fun i x h => (by simp at h), fun w _ i x h => (by simp at h)⟩
theorem nums_add {Fs : List CV} {z : CV} (h : NumsC Fs) (hz : NumC z) : NumsC (Fs ++ [z]) := fun i x hx => by
  by_cases hi : i < Fs.length
  · rw [List.getElem?_append_left hi] at hx; exact h i x hx
  · rw [List.getElem?_append_right (by omega)] at hx
    match hq : i - Fs.length, hx with
    | 0, hx => simp at hx; subst hx; exact hz
    | q + 1, hx => simp at hx
theorem dat_add {w : World} {Fs : List CV} {z : CV} (h : DatC w Fs) (hz : Src w z.A z.m .u8 z.B ∧ Bytes z.B) : DatC w (Fs ++ [z]) := fun i x hx => by
  by_cases hi : i < Fs.length
  · rw [List.getElem?_append_left hi] at hx; exact h i x hx
  · rw [List.getElem?_append_right (by omega)] at hx
    match hq : i - Fs.length, hx with
    | 0, hx => simp at hx; subst hx; exact hz
    | q + 1, hx => simp at hx
theorem OwnB.add {N : Nat} {Fs : List CV} {He He' : List Ent} {x : CV} {A : Option Addr} {c : Nat} (h : OwnB N Fs He) (hc : CloneR N x A c He') : OwnB N (Fs ++ [clV x A c]) (He ++ He') :=
  ⟨fun e he => by
    rcases List.mem_append.1 he with he | he
    · exact h.1 e he
    · exact hc.1 e he, nums_add h.2.1 hc.2.1, fun w hl => dat_add (h.2.2 w fun e he => hl e (List.mem_append.2 (.inl he))) (hc.2.2 w fun e he => hl e (List.mem_append.2 (.inr he)))⟩
theorem sameE_add {Fs Es : List CV} {i : Nat} {x : CV} {A : Option Addr} {c : Nat} (h : sameE Fs (Es.take i)) (hx : Es[i]? = some x) : sameE (Fs ++ [clV x A c]) (Es.take (i + 1)) := by
  unfold sameE at h ⊢
  rw [List.take_add_one, hx, Option.toList_some, List.map_append, List.map_append, h]
  rfl
def zC : CV := ⟨0, 0, 0, 0, none, 0, 0, []⟩
def stC (Fs : List CV) (r : Nat) : List CV := Fs ++ List.replicate r zC
theorem flatC_cons (z : CV) (R : List CV) : flatC (z :: R) = cellsC z ++ flatC R := by unfold flatC; rw [List.flatMap_cons]
theorem stC_rep (m : Nat) : (List.replicate m [Value.int .i64 0, Value.int .i64 0, Value.int .i64 0, Value.int .i64 0, Value.slice none 0 0]).flatten = flatC (stC [] m) := by
  unfold stC
  rw [List.nil_append]
  induction m with
  | zero => rfl
  | succ m ih => rw [List.replicate_succ, List.replicate_succ, List.flatten_cons, ih, flatC_cons]; rfl
theorem stC_len (Fs : List CV) (r : Nat) : (stC Fs r).length = Fs.length + r := by unfold stC; simp
theorem stC_step {Fs : List CV} {i m : Nat} {z : CV} (hl : Fs.length = i) (hi : i < m) :
    (flatC (stC Fs (m - i))).take (5 * i) ++ cellsC z ++ (flatC (stC Fs (m - i))).drop (5 * i + 5) = flatC (stC (Fs ++ [z]) (m - (i + 1))) := by
  have e1 : stC Fs (m - i) = Fs ++ (zC :: List.replicate (m - (i + 1)) zC) := by
    unfold stC; rw [show m - i = (m - (i + 1)) + 1 by omega, List.replicate_succ]
  have e2 : stC (Fs ++ [z]) (m - (i + 1)) = Fs ++ (z :: List.replicate (m - (i + 1)) zC) := by unfold stC; rw [List.append_assoc]; rfl
  have h3 : (flatC Fs).length = 5 * i := by rw [flatC_len]; omega
  rw [e1, e2, flatC_app, flatC_app, flatC_cons, flatC_cons, List.take_left' h3, List.append_assoc]
  congr 1
  congr 1
  rw [← List.drop_drop, List.drop_left' h3]
  rfl
theorem stC_end {Fs : List CV} {i m : Nat} (h : i = m) : flatC (stC Fs (m - i)) = flatC Fs := by subst h; unfold stC; simp
theorem OwnB.ownD {N g t tot m : Nat} {Fs : List CV} {He : List Ent} {cs : List Value} (h : OwnB N Fs He) (hg : N ≤ g) (hm : Fs.length = m) (hcs : cs = flatC Fs) : OwnD N (some ⟨g, 0, none⟩) m Fs (⟨g, t, cs, tot⟩ :: He) :=
  ⟨fun e he => by
    rcases List.mem_cons.1 he with rfl | he
    · exact hg
    · exact h.1 e he, h.2.1, .inr ⟨g, 0, rfl⟩, fun w hl => ⟨lies_srcC (hl _ List.mem_cons_self) hcs hm, h.2.2 w fun e he => hl e (List.mem_cons_of_mem _ he)⟩⟩
theorem with_keep {w0 w : World} {e6 gb : Ent} {R He Hy : List Ent} (h : St w0 (((e6 :: R) ++ He) ++ (([] ++ Hy) ++ [gb])) w) (h6 : w0.heap.size ≤ e6.g) : St w0 ((gb :: R) ++ (He ++ Hy)) w := by
  have hp : (((e6 :: R) ++ He) ++ (([] ++ Hy) ++ [gb])).Perm (e6 :: ((gb :: R) ++ (He ++ Hy))) := by
    rw [List.nil_append]
    show (e6 :: ((R ++ He) ++ (Hy ++ [gb]))).Perm _
    refine List.Perm.cons _ ?_
    rw [← List.append_assoc, ← List.append_assoc]
    refine (List.perm_append_singleton _ _).trans ?_
    rw [List.append_assoc (gb :: R)]
    simp
  exact (h.perm hp).drop h6
theorem OwnS.room {N g m s : Nat} {t : TypeId} (h : N ≤ g) (hm : m ≤ maxLen) : OwnS N t s (.slice (some ⟨g, 0, none⟩) 0 m) 0 [] [⟨g, t, [], m * s⟩] := ⟨by simp, .inr ⟨g, m, rfl, rfl, h, Nat.zero_le _, hm⟩⟩
/-- The commands that targets name. -/
def pickC (Cs : List CV) (Ts : List TV) : List CV := Ts.map fun t => Cs.getD t.x zC
theorem pick_tv : ∀ (Es : List CV) (Cs : List CV) (i : Nat), (∀ j x, Es[j]? = some x → Cs[i + j]? = some x) → pickC Cs (tvA i Es) = Es
  | [], _, _, _ => rfl
  | c :: Es, Cs, i, h => by
    have h0 := h 0 c rfl
    have ih := pick_tv Es Cs (i + 1) fun j x hx => by rw [show i + 1 + j = i + (j + 1) by omega]; exact h (j + 1) x (by simpa using hx)
    unfold pickC at ih ⊢
    simp only [tvA, List.map_cons]
    rw [ih, List.getD_eq_getElem?_getD]
    rw [Nat.add_zero] at h0
    rw [h0]; rfl
theorem pick_perm {Cs : List CV} {Ts : List TV} (h : Ts.Perm (tvOf Cs)) : (pickC Cs Ts).Perm Cs := by
  have h1 := h.map fun t => Cs.getD t.x zC
  have h2 := pick_tv Cs Cs 0 fun j x hx => by rw [Nat.zero_add]; exact hx
  unfold pickC at h2 ⊢
  rw [h2] at h1; exact h1
theorem tv_key {Cs : List CV} {Ts : List TV} (h : Ts.Perm (tvOf Cs)) {t : TV} (ht : t ∈ Ts) : ∃ c, Cs[t.x]? = some c ∧ t.o = c.t := by
  obtain ⟨j, c, hj, rfl⟩ := tvA_of (h.mem_iff.1 ht)
  exact ⟨c, by rw [Nat.zero_add]; exact hj, rfl⟩
theorem pick_sorted {Cs : List CV} {Ts : List TV} (h : Ts.Perm (tvOf Cs)) (hs : Ts.Pairwise leT) : (pickC Cs Ts).Pairwise leC := by
  unfold pickC
  rw [List.pairwise_map]
  refine hs.imp_of_mem fun {a b} ha hb hab => ?_
  obtain ⟨c, hc, e1⟩ := tv_key h ha
  obtain ⟨d, hd, e2⟩ := tv_key h hb
  rw [List.getD_eq_getElem?_getD, List.getD_eq_getElem?_getD, hc, hd]
  unfold leC leT at *
  simp only [Option.getD_some]
  omega
theorem pick_at {Cs : List CV} {Ts : List TV} {i : Nat} {t : TV} {x : CV} (ht : Ts[i]? = some t) (hx : Cs[t.x]? = some x) : pickC Cs (Ts.take (i + 1)) = pickC Cs (Ts.take i) ++ [x] := by
  unfold pickC
  rw [List.take_add_one, ht, Option.toList_some, List.map_append]
  simp only [List.map_cons, List.map_nil, List.getD_eq_getElem?_getD, hx, Option.getD_some]
end Go.Proofs.Ytkgamkjdkapchaa
/-
  The code of layer 5: Clone, With.
-/
namespace Go.Proofs.Ytkgamkjdkapchaa
set_option linter.unusedVariables false
set_option linter.unusedSimpArgs false
open Go Go.RowKit
theorem enters36 : Enters Try.prog 36 := ⟨_, Try.func36, by kernel_rfl, by kernel_rfl⟩

theorem clone_any (x : CV) (w : World) (hs : Src w x.A x.m .u8 x.B) (hB : Bytes x.B) (hn : NumC x) : Calls Try.prog 36 #[.agg ([Value.int .i64 x.k, Value.int .i64 x.t, Value.int .i64 x.f, Value.int .i64 x.l, Value.slice x.A x.m x.c]).toArray] w fun e w' => ∃ y : (Option Addr × Nat) × List Ent, e = .returned (.agg ([Value.int .i64 x.k, Value.int .i64 x.t, Value.int .i64 x.f, Value.int .i64 x.l, Value.slice y.1.1 x.m y.1.2]).toArray) ∧ CloneR w.heap.size x y.1.1 y.1.2 y.2 ∧ St w y.2 w' := by
  obtain ⟨k, t, f, l, A, m, c, B⟩ := x
  dsimp only at hs hB ⊢
  have hn2 := hn
  unfold NumC at hn2
  dsimp only at hn2
  cases A with
  | none =>
    have hm : m = 0 := by
      rcases hs.2 with h | ⟨b, off, h, _⟩
      · exact h
      · cases h
    subst hm
    refine (clone_nil k t f l 0 c w).mono ?_
    rintro e w' ⟨he, hw⟩
    refine ⟨((none, 0), []), he, ⟨fun e he => (nomatch he), ?_, fun W _ => ⟨⟨hs.1, .inl rfl⟩, hB⟩⟩, hw⟩
    unfold NumC clV; dsimp only; omega
  | some ad =>
    refine (clone_some k t f l ad m c B w hs (by omega) (by omega)).mono ?_
    rintro e w' ⟨g, c', he, hg, hmc, hmx, hw⟩
    refine ⟨((some ⟨g, 0, none⟩, c'), [⟨g, 5, B.map (Value.int .u8), c'⟩]), he, ⟨fun e he => (by rw [List.mem_singleton.1 he]; exact hg), ?_, fun W hl => ⟨src_ent (hl _ List.mem_cons_self) hs.1, hB⟩⟩, hw⟩
    unfold maxLen at hmx
    unfold NumC clV; dsimp only; omega


structure WW where
  i : Nat
  Fs : List CV
  He : List Ent

set_option maxRecDepth 100000 in
set_option maxHeartbeats 1000000 in
theorem dwith_c (o n : Int) (H1 H2 : List Int) (hH1 : H1.length = 32) (hH2 : H2.length = 32) (A : Option Addr) (m c : Nat) (A2 : Option Addr) (m2 c2 : Nat) (Es : List CV) (hmm2 : m2 ≤ 1000000000) (hN2 : NumsC Es) (w : World) (hC2 : SrcC w A2 m2 Es) (hE : DatC w Es) (hf2 : fewQ Es)  : Calls Try.prog 21 #[.agg ([Value.int .i64 o, Value.int .i64 n] ++ (H1.map (Value.int .u8) ++ (H2.map (Value.int .u8) ++ ([Value.slice A m c])))).toArray, .slice A2 m2 c2] w fun e w' => ∃ A' c' Fs He, e = .returned (.agg ([Value.int .i64 o, Value.int .i64 n] ++ (H1.map (Value.int .u8) ++ (H2.map (Value.int .u8) ++ ([Value.slice A' m2 ((c'))])))).toArray) ∧ (m2 ≤ c' ∧ c' ≤ 9223372036854775807) ∧ OwnD w.heap.size A' m2 Fs He ∧ sameE Fs Es ∧ St w He w' := by
  refine calls_from (args := [.agg ([Value.int .i64 o, Value.int .i64 n] ++ (H1.map (Value.int .u8) ++ (H2.map (Value.int .u8) ++ ([Value.slice A m c])))).toArray, .slice A2 m2 c2]) Try.func21 rfl Try.ntmps21 (by simp) ?_
  refine TC.sub (Sub.cons (i := 0) rfl (Sub.cons (i := 1) rfl (Sub.nil))) ?_
  refine TC.seq ?_
  refine TC.regionL ?_
  refine TL.box (Wants.none rfl) rfl rfl rfl (cs := [Value.int .i64 o, Value.int .i64 n] ++ (H1.map (Value.int .u8) ++ (H2.map (Value.int .u8) ++ ([Value.slice A m c])))) (by simp [Value.cells]) (tot := 67) (by simp [hH1, hH2]) (fun g1 hg1 => ?_)
  refine TL.alloc (Wants.none rfl) rfl rfl zero25 (cs := [Value.int .i64 0, Value.int .i64 0] ++ ((List.replicate 64 0).map (Value.int .u8) ++ ([Value.slice none 0 0]))) rfl (tot := 67) (by simp) (fun g2 hg2 => ?_)
  refine TL.nil ?_
  refine TE.then ?_
  refine TC.seq ?_
  refine TC.regionL ?_
  refine TL.gets (Wants.none rfl) rfl (Gets.move rfl rfl) ?_
  refine TL.gets (Wants.none rfl) rfl (Gets.lenSlice rfl Try.underlying23 rfl) ?_
  refine TL.makeSliceS (Wants.none rfl) rfl rfl Try.underlying23 mk40 (zs := [Value.int .i64 0, Value.int .i64 0, Value.int .i64 0, Value.int .i64 0, Value.slice none 0 0]) rfl rfl (by decide) rfl rfl (ln := m2) (cp := m2) (by omega) (by omega) (by omega) (by omega) (by omega) (cs := flatC (stC [] m2)) (tot := m2 * 5) (stC_rep m2) rfl (fun g3 hg3 => ?_)
  refine TL.gets (Wants.none rfl) rfl (Gets.fieldAddr rfl Try.underlying25 rfl size23 rfl (off' := 66) (by first | rfl | omega)) ?_
  refine TL.store1 (Wants.none rfl) rfl rfl size23 rfl rfl rfl (i := 2) rfl rfl (by simp [hH1, hH2] <;> omega) (cs' := [Value.int .i64 o, Value.int .i64 n] ++ (H1.map (Value.int .u8) ++ (H2.map (Value.int .u8) ++ ([Value.slice (some ⟨g3, 0, none⟩) m2 m2])))) (set_right (a := 2) (i := 64) (rfl) (set_right (a := 32) (i := 32) (ints_len hH1) (set_right (a := 32) (i := 0) (ints_len hH2) (rfl)))) (H' := [⟨g3, 40, flatC (stC [] m2), (m2 * 5)⟩, ⟨g2, 25, [Value.int .i64 0, Value.int .i64 0] ++ ((List.replicate 64 0).map (Value.int .u8) ++ ([Value.slice none 0 0])), 67⟩, ⟨g1, 25, [Value.int .i64 o, Value.int .i64 n] ++ (H1.map (Value.int .u8) ++ (H2.map (Value.int .u8) ++ ([Value.slice (some ⟨g3, 0, none⟩) m2 m2]))), 67⟩]) rfl ?_
  refine TL.nil ?_
  refine TE.then ?_
  refine TC.seq ?_
  refine TC.seq ?_
  refine TC.regionL ?_
  refine TL.gets (Wants.none rfl) rfl (Gets.move rfl rfl) ?_
  refine TL.gets (Wants.none rfl) rfl (Gets.lenSlice rfl Try.underlying23 rfl) ?_
  refine TL.gets (Wants.none rfl) rfl (Gets.move rfl rfl) ?_
  refine TL.nil ?_
  refine TE.then ?_
  refine TC.sub (Sub.cons (i := 2) rfl (Sub.cons (i := 4) rfl (Sub.cons (i := 11) rfl (Sub.cons (i := 12) rfl (Sub.cons (i := 13) rfl (Sub.nil)))))) ?_
  refine TC.block ?_
  refine TC.loop (ι := WW) (fun x0 => [(2, .pointer (some ⟨g1, 0, none⟩)), (4, .pointer (some ⟨g2, 0, none⟩)), (11, .slice A2 m2 c2), (12, .int .i64 (m2 : Int)), (13, .int .i64 (x0.i : Int))]) (fun x0 => [⟨g3, 40, flatC (stC x0.Fs (m2 - x0.i)), (m2 * 5)⟩, ⟨g2, 25, [Value.int .i64 0, Value.int .i64 0] ++ ((List.replicate 64 0).map (Value.int .u8) ++ ([Value.slice none 0 0])), 67⟩, ⟨g1, 25, [Value.int .i64 o, Value.int .i64 n] ++ (H1.map (Value.int .u8) ++ (H2.map (Value.int .u8) ++ ([Value.slice (some ⟨g3, 0, none⟩) m2 m2]))), 67⟩] ++ x0.He) (fun x0 => m2 - x0.i) (fun x0 => OwnB w.heap.size x0.Fs x0.He ∧ sameE x0.Fs (Es.take x0.i) ∧ x0.i ≤ m2) (⟨0, [], []⟩ : WW) ⟨OwnB.nil _, rfl, Nat.zero_le _⟩ (Sub.cons (i := 2) rfl (Sub.cons (i := 4) rfl (Sub.slice (i := 11) rfl rfl (by first | omega | (dsimp only; omega) | rfl) (by first | omega | (dsimp only; omega) | rfl) (Sub.int (i := 12) rfl (by first | omega | rfl) (Sub.int (i := 13) rfl rfl (Sub.nil)))))) (fun w h => by rw [List.append_nil]; exact h) (fun x0 hC0 => ?_)
  obtain ⟨i, Fs, He⟩ := x0
  obtain ⟨hOw, hsm, him⟩ := hC0
  dsimp only at hOw hsm him ⊢
  have hF : Fresh w He := hOw.1
  have hFl : Fs.length = i := by have h1 := hsm.len; have h2 := hC2.1; rw [List.length_take] at h1; omega
  refine TC.seq ?_
  refine TC.regionL ?_
  refine TL.gets (Wants.none rfl) rfl (Gets.lss rfl rfl rfl) ?_
  refine TL.nil ?_
  refine TE.then ?_
  refine TC.seq ?_
  refine TC.split rfl (fun hq0 => ?_) (fun hq0 => ?_)
  · obtain ⟨b, off, hAe, hb, hrw⟩ := hC2.some_ (i := i) (by omega)
    subst hAe
    obtain ⟨x, hx⟩ := hC2.get (i := i) (by omega)
    refine TC.skip ?_
    refine TE.then ?_
    refine TC.seq ?_
    refine TC.block ?_
    refine TC.seq ?_
    refine TC.regionL ?_
    refine TL.gets (Wants.none rfl) rfl (Gets.move rfl rfl) ?_
    refine TL.gets (Wants.none rfl) rfl (Gets.idxSlice rfl Try.underlying23 size40 rfl rfl (i := i) (by omega) (by omega) (off' := (off + 5 * i)) (by omega)) ?_
    refine TL.gets (Wants.none rfl) rfl (Gets.loadN rfl agg40 size40 rfl rfl (Row.old (fun jj u h => hrw i x hx jj u h) hb (ne_app (ne_cons (by show g3 ≠ b; omega) (ne_cons (by show g2 ≠ b; omega) (ne_cons (by show g1 ≠ b; omega) ne_nil))) (hF.ne hb)))) ?_
    refine TL.alloc (Wants.none rfl) rfl rfl zero40 (cs := [Value.int .i64 0, Value.int .i64 0, Value.int .i64 0, Value.int .i64 0, Value.slice none 0 0]) rfl (tot := 5) (by simp) (fun g4 hg4 => ?_)
    refine TL.gets (Wants.none rfl) rfl (Gets.assign rfl rfl) ?_
    refine TL.storeW (Wants.none rfl) rfl rfl size40 rfl (vs := [Value.int .i64 x.k, Value.int .i64 x.t, Value.int .i64 x.f, Value.int .i64 x.l, Value.slice x.A x.m x.c]) rfl (by simp []) (by simp [Value.oneCell']) (i := 0) (ent := ⟨g4, 40, [Value.int .i64 0, Value.int .i64 0, Value.int .i64 0, Value.int .i64 0, Value.slice none 0 0], 5⟩) rfl rfl (by simp []) (H' := [⟨g4, 40, [Value.int .i64 x.k, Value.int .i64 x.t, Value.int .i64 x.f, Value.int .i64 x.l, Value.slice x.A x.m x.c], 5⟩, ⟨g3, 40, flatC (stC Fs (m2 - i)), (m2 * 5)⟩, ⟨g2, 25, [Value.int .i64 0, Value.int .i64 0] ++ ((List.replicate 64 0).map (Value.int .u8) ++ ([Value.slice none 0 0])), 67⟩, ⟨g1, 25, [Value.int .i64 o, Value.int .i64 n] ++ (H1.map (Value.int .u8) ++ (H2.map (Value.int .u8) ++ ([Value.slice (some ⟨g3, 0, none⟩) m2 m2]))), 67⟩] ++ He) rfl ?_
    refine TL.nil ?_
    refine TE.then ?_
    refine TC.sub (Sub.cons (i := 2) rfl (Sub.cons (i := 4) rfl (Sub.cons (i := 5) rfl (Sub.cons (i := 6) rfl (Sub.cons (i := 11) rfl (Sub.cons (i := 12) rfl (Sub.cons (i := 13) rfl (Sub.nil)))))))) ?_
    refine TC.mixS ([Ent.mk g4 40 ([Value.int .i64 x.k, Value.int .i64 x.t, Value.int .i64 x.f, Value.int .i64 x.l, Value.slice x.A x.m x.c]) 5, Ent.mk g2 25 ([Value.int .i64 0, Value.int .i64 0] ++ ((List.replicate 64 0).map (Value.int .u8) ++ ([Value.slice none 0 0]))) 67, Ent.mk g1 25 ([Value.int .i64 o, Value.int .i64 n] ++ (H1.map (Value.int .u8) ++ (H2.map (Value.int .u8) ++ ([Value.slice (some ⟨g3, 0, none⟩) m2 m2])))) 67] ++ He) [⟨g3, 40, flatC (stC Fs (m2 - i)), (m2 * 5)⟩] (by kernel_rfl) [0, 1, 0, 1, 3, 0, 4] [0, 1, 2, 3, 4, 5, 6] [fun _ _ => True, fun _ _ => True, fun _ _ => True, fun _ _ => True, fun v e => ∃ y : (Option Addr × Nat) × List Ent, (CloneR w.heap.size x y.1.1 y.1.2 y.2) ∧ v = .agg ([Value.int .i64 x.k, Value.int .i64 x.t, Value.int .i64 x.f, Value.int .i64 x.l, Value.slice y.1.1 x.m y.1.2]).toArray ∧ e = y.2, fun _ _ => True, fun _ _ => True] (by kernel_rfl) (by kernel_rfl) (perm_midE (A := [Ent.mk g4 40 ([Value.int .i64 x.k, Value.int .i64 x.t, Value.int .i64 x.f, Value.int .i64 x.l, Value.slice x.A x.m x.c]) 5]) (g := Ent.mk g3 40 (flatC (stC Fs (m2 - i))) (m2 * 5)) (B := [Ent.mk g2 25 ([Value.int .i64 0, Value.int .i64 0] ++ ((List.replicate 64 0).map (Value.int .u8) ++ ([Value.slice none 0 0]))) 67, Ent.mk g1 25 ([Value.int .i64 o, Value.int .i64 n] ++ (H1.map (Value.int .u8) ++ (H2.map (Value.int .u8) ++ ([Value.slice (some ⟨g3, 0, none⟩) m2 m2])))) 67] ++ He)) (Fresh.cons (by assumption) Fresh.nil) ?_
    refine TR.free (Wants.none rfl) rfl (fun _ => Gets.fieldAddr rfl Try.underlying25 rfl size23 rfl (off' := 66) (by first | rfl | omega)) ?_
    refine TR.gets (Wants.none rfl) rfl (fun Z hZ => Gets.load1 rfl agg23 rfl (At.ent (i := 2) (ent := ⟨g1, 25, [Value.int .i64 o, Value.int .i64 n] ++ (H1.map (Value.int .u8) ++ (H2.map (Value.int .u8) ++ ([Value.slice (some ⟨g3, 0, none⟩) m2 m2]))), 67⟩) (off := 66) rfl rfl (by exact app_right (a := 2) (i := 64) (rfl) (app_right (a := 32) (i := 32) (ints_len hH1) (app_right (a := 32) (i := 0) (ints_len hH2) (rfl)))))) ?_
    refine TR.free (Wants.none rfl) rfl (fun _ => Gets.move rfl rfl) ?_
    refine TR.gets (Wants.none rfl) rfl (fun Z hZ => Gets.loadN rfl agg40 size40 rfl (vs := [Value.int .i64 x.k, Value.int .i64 x.t, Value.int .i64 x.f, Value.int .i64 x.l, Value.slice x.A x.m x.c]) (by simp []) (Row.all (i := 0) (ent := ⟨g4, 40, [Value.int .i64 x.k, Value.int .i64 x.t, Value.int .i64 x.f, Value.int .i64 x.l, Value.slice x.A x.m x.c], 5⟩) rfl rfl rfl)) ?_
    refine TR.call3 (ι := (Option Addr × Nat) × List Ent) (V := fun y => .agg ([Value.int .i64 x.k, Value.int .i64 x.t, Value.int .i64 x.f, Value.int .i64 x.l, Value.slice y.1.1 x.m y.1.2]).toArray) (R := fun y => CloneR w.heap.size x y.1.1 y.1.2 y.2) (E := fun y => y.2) (Wants.none rfl) rfl enters36 rfl rfl (fun Z w hZ hs => (clone_any x w ((hE i x hx).1.at_ hs (fun b hb => (ne_app (ne_app (ne_cons (by show g4 ≠ b; omega) (ne_cons (by show g2 ≠ b; omega) (ne_cons (by show g1 ≠ b; omega) ne_nil))) (hF.ne hb)) (hZ.ne hb)))) (hE i x hx).2 (hN2 i x hx)).mono fun e w' ⟨y, he, hR, hw⟩ => ⟨y, he, hR.mono hs.size, hR.1, hw⟩) (fun y hR hFy => ?_)
    refine TR.free (Wants.none rfl) rfl (fun _ => Gets.idxSlice rfl Try.underlying23 size40 rfl rfl (i := i) (by omega) (by omega) (off' := (5 * i)) (by omega)) ?_
    refine TR.storeN (Wants.none rfl) rfl rfl size40 rfl (vs := [Value.int .i64 x.k, Value.int .i64 x.t, Value.int .i64 x.f, Value.int .i64 x.l, Value.slice y.1.1 x.m y.1.2]) rfl rfl (by simp [Value.oneCell']) (i := 0) (ent := ⟨g3, 40, flatC (stC Fs (m2 - i)), (m2 * 5)⟩) rfl rfl (by show (5 * i) + 5 ≤ (flatC (stC Fs (m2 - i))).length; rw [flatC_len, stC_len]; omega) (cs' := flatC (stC (Fs ++ [clV x y.1.1 y.1.2]) (m2 - (i + 1)))) (stC_step (i := i) (m := m2) (z := clV x y.1.1 y.1.2) hFl (by omega)) (D' := [⟨g3, 40, flatC (stC (Fs ++ [clV x y.1.1 y.1.2]) (m2 - (i + 1))), (m2 * 5)⟩]) rfl (Fresh.cons (by assumption) Fresh.nil) ?_
    refine TR.nil ?_
    refine TE.heap (H' := [Ent.mk g3 40 (flatC (stC (Fs ++ [clV x y.1.1 y.1.2]) (m2 - (i + 1)))) (m2 * 5), Ent.mk g2 25 ([Value.int .i64 0, Value.int .i64 0] ++ ((List.replicate 64 0).map (Value.int .u8) ++ ([Value.slice none 0 0]))) 67, Ent.mk g1 25 ([Value.int .i64 o, Value.int .i64 n] ++ (H1.map (Value.int .u8) ++ (H2.map (Value.int .u8) ++ ([Value.slice (some ⟨g3, 0, none⟩) m2 m2])))) 67] ++ (He ++ y.2)) (fun w h => with_keep h (by assumption)) ?_
    have hOw2 := hOw.add hR
    have hF2 : Fresh w (He ++ y.2) := hOw2.1
    refine TE.blockN ?_
    refine TE.then ?_
    refine TC.sub (Sub.cons (i := 2) rfl (Sub.cons (i := 4) rfl (Sub.cons (i := 11) rfl (Sub.cons (i := 12) rfl (Sub.cons (i := 13) rfl (Sub.nil)))))) ?_
    refine TC.regionL ?_
    refine TL.gets (Wants.none rfl) rfl (Gets.add rfl rfl rfl (r := ((i : Int) + 1)) (w64 (by omega) (by omega))) ?_
    refine TL.gets (Wants.none rfl) rfl (Gets.move rfl rfl) ?_
    refine TL.nil ?_
    exact TE.back (⟨i + 1, Fs ++ [clV x y.1.1 y.1.2], He ++ y.2⟩ : WW) (by show m2 - (i + 1) < m2 - i; omega) ⟨hOw2, sameE_add hsm hx, (by show i + 1 ≤ m2; omega)⟩ (Sub.cons (i := 2) rfl (Sub.cons (i := 4) rfl (Sub.slice (i := 11) rfl (by first | rfl | (congr 2; omega)) (by first | omega | (dsimp only; omega) | rfl) (by first | omega | (dsimp only; omega) | rfl) (Sub.int (i := 12) rfl (by first | omega | rfl) (Sub.int (i := 13) rfl rfl (Sub.nil)))))) (fun w h => h)
  · have hiq : i = m2 := by omega
    have hsmE : sameE Fs Es := by rw [List.take_of_length_le (by have := hC2.1; omega)] at hsm; exact hsm
    refine TC.exit ?_
    refine TE.thenX ?_
    refine TE.thenX ?_
    refine TE.blockX ?_
    refine TE.then ?_
    refine TC.seq ?_
    refine TC.regionL ?_
    refine TL.gets (Wants.none rfl) rfl (Gets.loadN rfl agg25 size25 rfl (vs := [Value.int .i64 o, Value.int .i64 n] ++ (H1.map (Value.int .u8) ++ (H2.map (Value.int .u8) ++ ([Value.slice (some ⟨g3, 0, none⟩) m2 m2])))) (by simp [hH1, hH2]) (Row.all (i := 2) (ent := ⟨g1, 25, [Value.int .i64 o, Value.int .i64 n] ++ (H1.map (Value.int .u8) ++ (H2.map (Value.int .u8) ++ ([Value.slice (some ⟨g3, 0, none⟩) m2 m2]))), 67⟩) rfl rfl rfl)) ?_
    refine TL.storeW (Wants.none rfl) rfl rfl size25 rfl (vs := [Value.int .i64 o, Value.int .i64 n] ++ (H1.map (Value.int .u8) ++ (H2.map (Value.int .u8) ++ ([Value.slice (some ⟨g3, 0, none⟩) m2 m2])))) rfl (by simp [hH1, hH2]) (ones_app (by simp [Value.oneCell']) (ones_app ints_one (ones_app ints_one (by simp [Value.oneCell'])))) (i := 1) (ent := ⟨g2, 25, [Value.int .i64 0, Value.int .i64 0] ++ ((List.replicate 64 0).map (Value.int .u8) ++ ([Value.slice none 0 0])), 67⟩) rfl rfl (by simp []) (H' := [⟨g3, 40, flatC (stC Fs (m2 - i)), (m2 * 5)⟩, ⟨g2, 25, [Value.int .i64 o, Value.int .i64 n] ++ (H1.map (Value.int .u8) ++ (H2.map (Value.int .u8) ++ ([Value.slice (some ⟨g3, 0, none⟩) m2 m2]))), 67⟩, ⟨g1, 25, [Value.int .i64 o, Value.int .i64 n] ++ (H1.map (Value.int .u8) ++ (H2.map (Value.int .u8) ++ ([Value.slice (some ⟨g3, 0, none⟩) m2 m2]))), 67⟩] ++ He) rfl ?_
    refine TL.nil ?_
    refine TE.then ?_
    refine TC.ret ?_
    exact TE.retC rfl agg25 size25 rfl (vs := [Value.int .i64 o, Value.int .i64 n] ++ (H1.map (Value.int .u8) ++ (H2.map (Value.int .u8) ++ ([Value.slice (some ⟨g3, 0, none⟩) m2 m2])))) (by simp [hH1, hH2]) (Row.all (i := 1) (ent := ⟨g2, 25, [Value.int .i64 o, Value.int .i64 n] ++ (H1.map (Value.int .u8) ++ (H2.map (Value.int .u8) ++ ([Value.slice (some ⟨g3, 0, none⟩) m2 m2]))), 67⟩) rfl rfl rfl) (fun w hs => ⟨some ⟨g3, 0, none⟩, m2, Fs, _, rfl, ⟨Nat.le_refl _, by omega⟩, hOw.ownD hg3 (hFl.trans hiq) (stC_end hiq), hsmE, (hs.erase (i := 1) rfl (by assumption)).erase (i := 1) rfl (by assumption)⟩)
end Go.Proofs.Ytkgamkjdkapchaa
/-
  The code of layer 5: Sort.
-/
namespace Go.Proofs.Ytkgamkjdkapchaa
set_option linter.unusedVariables false
set_option linter.unusedSimpArgs false
open Go Go.RowKit
theorem enters21 : Enters Try.prog 21 := ⟨_, Try.func21, by kernel_rfl, by kernel_rfl⟩
set_option maxRecDepth 100000 in
set_option maxHeartbeats 1000000 in
theorem dsort_c (o n : Int) (H1 H2 : List Int) (hH1 : H1.length = 32) (hH2 : H2.length = 32) (A : Option Addr) (m c : Nat) (Cs : List CV) (hmm : m ≤ 1000000000) (hN : NumsC Cs) (w : World) (hC : SrcC w A m Cs) (hD : DatC w Cs) (hf : fewQ Cs) (hVC : ValidC o n Cs)  : Calls Try.prog 16 #[.agg ([Value.int .i64 o, Value.int .i64 n] ++ (H1.map (Value.int .u8) ++ (H2.map (Value.int .u8) ++ ([Value.slice A m c])))).toArray] w fun e w' => ∃ A' c' Fs He, e = .returned (.agg ([Value.int .i64 o, Value.int .i64 n] ++ (H1.map (Value.int .u8) ++ (H2.map (Value.int .u8) ++ ([Value.slice A' m ((c'))])))).toArray) ∧ (m ≤ c' ∧ c' ≤ 9223372036854775807) ∧ OwnD w.heap.size A' m Fs He ∧ (∃ Gs : List CV, Gs.Perm Cs ∧ Gs.Pairwise leC ∧ sameE Fs Gs) ∧ St w He w' := by
  have hk12 : ∀ (i : Nat) (x : CV), Cs[i]? = some x → x.k = 1 ∨ x.k = 2 := fun i x hx => code_kind (single_vld (hVC.single i x hx)).2.2.2.1
  refine calls_from (args := [.agg ([Value.int .i64 o, Value.int .i64 n] ++ (H1.map (Value.int .u8) ++ (H2.map (Value.int .u8) ++ ([Value.slice A m c])))).toArray]) Try.func16 rfl Try.ntmps16 (by simp) ?_
  refine TC.sub (Sub.cons (i := 0) rfl (Sub.nil)) ?_
  refine TC.seq ?_
  refine TC.regionL ?_
  refine TL.box (Wants.none rfl) rfl rfl rfl (cs := [Value.int .i64 o, Value.int .i64 n] ++ (H1.map (Value.int .u8) ++ (H2.map (Value.int .u8) ++ ([Value.slice A m c])))) (by simp [Value.cells]) (tot := 67) (by simp [hH1, hH2]) (fun g1 hg1 => ?_)
  refine TL.alloc (Wants.none rfl) rfl rfl zero25 (cs := [Value.int .i64 0, Value.int .i64 0] ++ ((List.replicate 64 0).map (Value.int .u8) ++ ([Value.slice none 0 0]))) rfl (tot := 67) (by simp) (fun g2 hg2 => ?_)
  refine TL.nil ?_
  refine TE.then ?_
  refine TC.seq ?_
  refine TC.regionL ?_
  refine TL.gets (Wants.none rfl) rfl (Gets.fieldAddr rfl Try.underlying25 rfl size23 rfl (off' := 66) (by first | rfl | omega)) ?_
  refine TL.gets (Wants.none rfl) rfl (Gets.load1 rfl agg23 rfl (At.ent (i := 1) (ent := ⟨g1, 25, [Value.int .i64 o, Value.int .i64 n] ++ (H1.map (Value.int .u8) ++ (H2.map (Value.int .u8) ++ ([Value.slice A m c]))), 67⟩) (off := 66) rfl rfl (by exact app_right (a := 2) (i := 64) (rfl) (app_right (a := 32) (i := 32) (ints_len hH1) (app_right (a := 32) (i := 0) (ints_len hH2) (rfl)))))) ?_
  refine TL.gets (Wants.none rfl) rfl (Gets.lenSlice rfl Try.underlying23 rfl) ?_
  refine TL.makeSliceS (Wants.none rfl) rfl rfl Try.underlying23 mk40 (zs := [Value.int .i64 0, Value.int .i64 0, Value.int .i64 0, Value.int .i64 0, Value.slice none 0 0]) rfl rfl (by decide) rfl rfl (ln := 0) (cp := m) rfl (by omega) (by omega) (by omega) (by omega) (cs := flatC (stC [] m)) (tot := m * 5) (stC_rep m) rfl (fun g3 hg3 => ?_)
  refine TL.gets (Wants.none rfl) rfl (Gets.assign rfl rfl) ?_
  refine TL.nil ?_
  refine TE.then ?_
  refine TC.seq ?_
  refine TC.seq ?_
  refine TC.regionL ?_
  refine TL.gets (Wants.none rfl) rfl (Gets.fieldAddr rfl Try.underlying25 rfl size23 rfl (off' := 66) (by first | rfl | omega)) ?_
  refine TL.gets (Wants.none rfl) rfl (Gets.load1 rfl agg23 rfl (At.ent (i := 2) (ent := ⟨g1, 25, [Value.int .i64 o, Value.int .i64 n] ++ (H1.map (Value.int .u8) ++ (H2.map (Value.int .u8) ++ ([Value.slice A m c]))), 67⟩) (off := 66) rfl rfl (by exact app_right (a := 2) (i := 64) (rfl) (app_right (a := 32) (i := 32) (ints_len hH1) (app_right (a := 32) (i := 0) (ints_len hH2) (rfl)))))) ?_
  refine TL.call (ι := Nat × List TV) (V := fun y => .slice (some ⟨y.1, 0, none⟩) m m) (R := fun y => (y.2.Perm (tvOf Cs) ∧ y.2.Pairwise leT) ∧ w.heap.size ≤ y.1) (H' := fun y => [⟨g3, 40, flatC (stC [] m), (m * 5)⟩, ⟨g2, 25, [Value.int .i64 0, Value.int .i64 0] ++ ((List.replicate 64 0).map (Value.int .u8) ++ ([Value.slice none 0 0])), 67⟩, ⟨g1, 25, [Value.int .i64 o, Value.int .i64 n] ++ (H1.map (Value.int .u8) ++ (H2.map (Value.int .u8) ++ ([Value.slice A m c]))), 67⟩, ⟨y.1, 59, flatT y.2, (m * 3)⟩]) (Wants.none rfl) rfl enters35 rfl rfl (fun w hs => (asc_c A m c Cs hk12 (by omega) hN w (hC.at_ hs (fun b hb => (ne_cons (by show g3 ≠ b; omega) (ne_cons (by show g2 ≠ b; omega) (ne_cons (by show g1 ≠ b; omega) ne_nil)))))).mono fun e w' ⟨y, he, hR, hg, hw⟩ => ⟨y, he, ⟨hR, Nat.le_trans hs.size hg⟩, st_call hs hw (fun e he => by rw [List.mem_singleton.1 he]; exact hg)⟩) (fun y hR => ?_)
  obtain ⟨gt, Ts⟩ := y
  obtain ⟨⟨hTp, hTs⟩, hgt⟩ := hR
  dsimp only at hTp hTs hgt ⊢
  refine TL.gets (Wants.none rfl) rfl (Gets.lenSlice rfl Try.underlying56 rfl) ?_
  refine TL.gets (Wants.none rfl) rfl (Gets.move rfl rfl) ?_
  refine TL.nil ?_
  refine TE.then ?_
  refine TC.sub (Sub.cons (i := 1) rfl (Sub.cons (i := 2) rfl (Sub.cons (i := 3) rfl (Sub.cons (i := 12) rfl (Sub.cons (i := 13) rfl (Sub.cons (i := 14) rfl (Sub.nil))))))) ?_
  refine TC.block ?_
  refine TC.loop (ι := WS) (fun x0 => [(1, .pointer (some ⟨g1, 0, none⟩)), (2, .pointer (some ⟨g2, 0, none⟩)), (3, x0.v), (12, .slice (some ⟨gt, 0, none⟩) m m), (13, .int .i64 (m : Int)), (14, .int .i64 (x0.i : Int))]) (fun x0 => [⟨g2, 25, [Value.int .i64 0, Value.int .i64 0] ++ ((List.replicate 64 0).map (Value.int .u8) ++ ([Value.slice none 0 0])), 67⟩, ⟨g1, 25, [Value.int .i64 o, Value.int .i64 n] ++ (H1.map (Value.int .u8) ++ (H2.map (Value.int .u8) ++ ([Value.slice A m c]))), 67⟩, ⟨gt, 59, flatT Ts, (m * 3)⟩] ++ x0.He) (fun x0 => m - x0.i) (fun x0 => OwnS w.heap.size 40 5 x0.v x0.i (flatC x0.Es) x0.He ∧ x0.Es = pickC Cs (Ts.take x0.i) ∧ x0.i ≤ m) (⟨0, .slice (some ⟨g3, 0, none⟩) 0 m, [], [⟨g3, 40, [], m * 5⟩]⟩ : WS) ⟨OwnS.room hg3 (by unfold maxLen; omega), rfl, Nat.zero_le _⟩ (Sub.cons (i := 1) rfl (Sub.cons (i := 2) rfl (Sub.cons (i := 3) rfl (Sub.slice (i := 12) rfl rfl (by first | omega | (dsimp only; omega) | rfl) (by first | omega | (dsimp only; omega) | rfl) (Sub.int (i := 13) rfl (by first | omega | rfl) (Sub.int (i := 14) rfl rfl (Sub.nil))))))) (fun w h => (St.less h).perm (List.perm_append_singleton _ _).symm) (fun x0 hC0 => ?_)
  obtain ⟨i, v, Es, He⟩ := x0
  obtain ⟨hown, hEq, him⟩ := hC0
  dsimp only at hown hEq him ⊢
  have hF : Fresh w He := hown.new
  obtain ⟨Ao, co, rfl, hco, hco2⟩ := hown.form
  refine TC.seq ?_
  refine TC.regionL ?_
  refine TL.gets (Wants.none rfl) rfl (Gets.lss rfl rfl rfl) ?_
  refine TL.nil ?_
  refine TE.then ?_
  refine TC.seq ?_
  refine TC.split rfl (fun hq0 => ?_) (fun hq0 => ?_)
  · obtain ⟨tv, htv⟩ : ∃ tv, Ts[i]? = some tv := ⟨_, List.getElem?_eq_getElem (by have h1 := hTp.length_eq; rw [tvA_len] at h1; have := hC.1; omega)⟩
    obtain ⟨x, hx, htx⟩ := tv_key hTp (List.mem_of_getElem? htv)
    have hxm : tv.x < m := by have h1 := (List.getElem?_eq_some_iff.1 hx).1; have := hC.1; omega
    obtain ⟨b, off, hAe, hb, hrw⟩ := hC.some_ (i := tv.x) hxm
    subst hAe
    refine TC.skip ?_
    refine TE.then ?_
    refine TC.seq ?_
    refine TC.block ?_
    refine TC.seq ?_
    refine TC.regionL ?_
    refine TL.gets (Wants.none rfl) rfl (Gets.idxSlice rfl Try.underlying56 size59 rfl rfl (i := i) (by omega) (by omega) (off' := (3 * i)) (by omega)) ?_
    refine TL.gets (Wants.none rfl) rfl (Gets.loadN rfl agg59 size59 rfl (vs := [Value.int .i64 tv.o, Value.int .i64 tv.l, Value.int .i64 (tv.x : Int)]) rfl (Row.ent (i := 2) (ent := ⟨gt, 59, flatT Ts, (m * 3)⟩) rfl rfl (fun j u h => flatT_get htv h))) ?_
    refine TL.alloc (Wants.none rfl) rfl rfl zero59 (cs := [Value.int .i64 0, Value.int .i64 0, Value.int .i64 0]) rfl (tot := 3) (by simp) (fun g4 hg4 => ?_)
    refine TL.storeW (Wants.none rfl) rfl rfl size59 rfl (vs := [Value.int .i64 tv.o, Value.int .i64 tv.l, Value.int .i64 (tv.x : Int)]) rfl (by simp []) (by simp [Value.oneCell']) (i := 0) (ent := ⟨g4, 59, [Value.int .i64 0, Value.int .i64 0, Value.int .i64 0], 3⟩) rfl rfl (by simp []) (H' := [⟨g4, 59, [Value.int .i64 tv.o, Value.int .i64 tv.l, Value.int .i64 (tv.x : Int)], 3⟩, ⟨g2, 25, [Value.int .i64 0, Value.int .i64 0] ++ ((List.replicate 64 0).map (Value.int .u8) ++ ([Value.slice none 0 0])), 67⟩, ⟨g1, 25, [Value.int .i64 o, Value.int .i64 n] ++ (H1.map (Value.int .u8) ++ (H2.map (Value.int .u8) ++ ([Value.slice (some ⟨b, off, none⟩) m c]))), 67⟩, ⟨gt, 59, flatT Ts, (m * 3)⟩] ++ He) rfl ?_
    refine TL.nil ?_
    refine TE.then ?_
    refine TC.sub (Sub.cons (i := 1) rfl (Sub.cons (i := 2) rfl (Sub.cons (i := 3) rfl (Sub.cons (i := 5) rfl (Sub.cons (i := 12) rfl (Sub.cons (i := 13) rfl (Sub.cons (i := 14) rfl (Sub.nil)))))))) ?_
    refine TC.regionL ?_
    refine TL.gets (Wants.none rfl) rfl (Gets.move rfl rfl) ?_
    refine TL.gets (Wants.none rfl) rfl (Gets.fieldAddr rfl Try.underlying25 rfl size23 rfl (off' := 66) (by first | rfl | omega)) ?_
    refine TL.gets (Wants.none rfl) rfl (Gets.load1 rfl agg23 rfl (At.ent (i := 2) (ent := ⟨g1, 25, [Value.int .i64 o, Value.int .i64 n] ++ (H1.map (Value.int .u8) ++ (H2.map (Value.int .u8) ++ ([Value.slice (some ⟨b, off, none⟩) m c]))), 67⟩) (off := 66) rfl rfl (by exact app_right (a := 2) (i := 64) (rfl) (app_right (a := 32) (i := 32) (ints_len hH1) (app_right (a := 32) (i := 0) (ints_len hH2) (rfl)))))) ?_
    refine TL.gets (Wants.none rfl) rfl (Gets.fieldAddr rfl Try.underlying59 rfl size3 rfl (off' := 2) (by first | rfl | omega)) ?_
    refine TL.gets (Wants.none rfl) rfl (Gets.load1 rfl agg3 rfl (At.ent (i := 0) (ent := ⟨g4, 59, [Value.int .i64 tv.o, Value.int .i64 tv.l, Value.int .i64 (tv.x : Int)], 3⟩) (off := 2) rfl rfl (by exact rfl))) ?_
    refine TL.gets (Wants.none rfl) rfl (Gets.idxSlice rfl Try.underlying23 size40 rfl rfl (i := tv.x) (by omega) (by omega) (off' := (off + 5 * tv.x)) (by omega)) ?_
    refine TL.gets (Wants.none rfl) rfl (Gets.loadN rfl agg40 size40 rfl rfl (Row.old (fun jj u h => hrw tv.x x hx jj u h) hb (ne_app (ne_cons (by show g4 ≠ b; omega) (ne_cons (by show g2 ≠ b; omega) (ne_cons (by show g1 ≠ b; omega) (ne_cons (by show gt ≠ b; omega) ne_nil)))) (hF.ne hb)))) ?_
    refine TL.buildSlice (Wants.none rfl) rfl rfl Try.underlying23 size40 zero40 rfl (by decide) (by decide) (cells := #[.int .i64 x.k, .int .i64 x.t, .int .i64 x.f, .int .i64 x.l, .slice x.A x.m x.c]) (tot := 5) (by kernel_rfl) (cs := [.int .i64 x.k, .int .i64 x.t, .int .i64 x.f, .int .i64 x.l, .slice x.A x.m x.c]) rfl rfl (fun g5 hg5 => ?_)
    refine TL.appendS (H := [Ent.mk g5 40 ([Value.int .i64 x.k, Value.int .i64 x.t, Value.int .i64 x.f, Value.int .i64 x.l, Value.slice x.A x.m x.c]) 5, Ent.mk g4 59 ([Value.int .i64 tv.o, Value.int .i64 tv.l, Value.int .i64 (tv.x : Int)]) 3, Ent.mk g2 25 ([Value.int .i64 0, Value.int .i64 0] ++ ((List.replicate 64 0).map (Value.int .u8) ++ ([Value.slice none 0 0]))) 67, Ent.mk g1 25 ([Value.int .i64 o, Value.int .i64 n] ++ (H1.map (Value.int .u8) ++ (H2.map (Value.int .u8) ++ ([Value.slice (some ⟨b, off, none⟩) m c])))) 67, Ent.mk gt 59 (flatT Ts) (m * 3)]) (He := He) (Wants.none rfl) rfl rfl Try.underlying23 mk40 rfl (by decide) rfl rfl (s := 5) (nn := i) (m := 1) (cs := flatC Es) (news := cellsC x) hown rfl (fun w hs => lies_srcV (hs.has (Ent.mk g5 40 ([Value.int .i64 x.k, Value.int .i64 x.t, Value.int .i64 x.f, Value.int .i64 x.l, Value.slice x.A x.m x.c]) 5) (by simp))) (by intro u hu; exact flatC_one' [x] u (by rw [flatC_one]; exact hu)) (by unfold maxLen; omega) (by omega) (fun v2 He2 hown2 => ?_)
    have hF2 : Fresh w He2 := hown2.new
    refine TL.gets (Wants.none rfl) rfl (Gets.assign rfl rfl) ?_
    refine TL.nil ?_
    refine TE.blockN ?_
    refine TE.then ?_
    refine TC.sub (Sub.cons (i := 1) rfl (Sub.cons (i := 2) rfl (Sub.cons (i := 3) rfl (Sub.cons (i := 12) rfl (Sub.cons (i := 13) rfl (Sub.cons (i := 14) rfl (Sub.nil))))))) ?_
    refine TC.regionL ?_
    refine TL.gets (Wants.none rfl) rfl (Gets.add rfl rfl rfl (r := ((i : Int) + 1)) (w64 (by omega) (by omega))) ?_
    refine TL.gets (Wants.none rfl) rfl (Gets.move rfl rfl) ?_
    refine TL.nil ?_
    exact TE.back (⟨i + 1, v2, Es ++ [x], He2⟩ : WS) (by show m - (i + 1) < m - i; omega) ⟨(by show OwnS _ _ _ _ _ (flatC (Es ++ [x])) _; rw [flatC_app, flatC_one]; exact hown2), (by show Es ++ [x] = _; rw [hEq, pick_at htv hx]), (by show i + 1 ≤ m; omega)⟩ (Sub.cons (i := 1) rfl (Sub.cons (i := 2) rfl (Sub.cons (i := 3) rfl (Sub.slice (i := 12) rfl rfl (by first | omega | (dsimp only; omega) | rfl) (by first | omega | (dsimp only; omega) | rfl) (Sub.int (i := 13) rfl (by first | omega | rfl) (Sub.int (i := 14) rfl rfl (Sub.nil))))))) (fun w h => ((h.erase (i := 1) rfl (by assumption)).erase (i := 0) rfl (by assumption)))
  · obtain rfl : m = i := by omega
    have hTl : Ts.length = m := by have h1 := hTp.length_eq; rw [tvA_len] at h1; have := hC.1; omega
    rw [List.take_of_length_le (by omega)] at hEq
    have hEp : Es.Perm Cs := by rw [hEq]; exact pick_perm hTp
    have hEs : Es.Pairwise leC := by rw [hEq]; exact pick_sorted hTp hTs
    refine TC.exit ?_
    refine TE.thenX ?_
    refine TE.thenX ?_
    refine TE.blockX ?_
    refine TE.then ?_
    refine TC.seq ?_
    refine TC.regionL ?_
    refine TL.gets (Wants.none rfl) rfl (Gets.loadN rfl agg25 size25 rfl (vs := [Value.int .i64 o, Value.int .i64 n] ++ (H1.map (Value.int .u8) ++ (H2.map (Value.int .u8) ++ ([Value.slice A m c])))) (by simp [hH1, hH2]) (Row.all (i := 1) (ent := ⟨g1, 25, [Value.int .i64 o, Value.int .i64 n] ++ (H1.map (Value.int .u8) ++ (H2.map (Value.int .u8) ++ ([Value.slice A m c]))), 67⟩) rfl rfl rfl)) ?_
    refine TL.gets (Wants.none rfl) rfl (Gets.move rfl rfl) ?_
    refine TL.call (ι := (Option Addr × Nat) × (List CV × List Ent)) (V := fun y => .agg ([Value.int .i64 o, Value.int .i64 n] ++ (H1.map (Value.int .u8) ++ (H2.map (Value.int .u8) ++ ([Value.slice y.1.1 m y.1.2])))).toArray) (R := fun y => (m ≤ y.1.2 ∧ y.1.2 ≤ 9223372036854775807) ∧ OwnD w.heap.size y.1.1 m y.2.1 y.2.2 ∧ sameE y.2.1 Es) (H' := fun y => [⟨g2, 25, [Value.int .i64 0, Value.int .i64 0] ++ ((List.replicate 64 0).map (Value.int .u8) ++ ([Value.slice none 0 0])), 67⟩, ⟨g1, 25, [Value.int .i64 o, Value.int .i64 n] ++ (H1.map (Value.int .u8) ++ (H2.map (Value.int .u8) ++ ([Value.slice A m c]))), 67⟩, ⟨gt, 59, flatT Ts, (m * 3)⟩] ++ He ++ y.2.2) (Wants.none rfl) rfl enters21 rfl rfl (fun w hs => (dwith_c o n H1 H2 hH1 hH2 A m c Ao m co Es hmm (hN.sub fun x hx => hEp.mem_iff.1 hx) w (hown.srcC (fun e he => hs.has e (by simp [he]))) ((hD.at_ hs (fun b hb => (ne_app (ne_cons (by show g2 ≠ b; omega) (ne_cons (by show g1 ≠ b; omega) (ne_cons (by show gt ≠ b; omega) ne_nil))) (hF.ne hb)))).sub fun x hx => hEp.mem_iff.1 hx) (hf.sub2 hEp)).mono fun e w' ⟨A', c', Fs, He, he, hc, ho, hsm, hw⟩ => ⟨((A', c'), (Fs, He)), he, ⟨hc, ho.mono hs.size, hsm⟩, st_call hs hw ho.1⟩) (fun y hR => ?_)
    obtain ⟨⟨As, cs⟩, Fs, Hw⟩ := y
    obtain ⟨hcs, hos, hsm⟩ := hR
    dsimp only at hcs hos hsm ⊢
    have hFw : Fresh w Hw := hos.1
    refine TL.heap (H' := [⟨g2, 25, [Value.int .i64 0, Value.int .i64 0] ++ ((List.replicate 64 0).map (Value.int .u8) ++ ([Value.slice none 0 0])), 67⟩, ⟨g1, 25, [Value.int .i64 o, Value.int .i64 n] ++ (H1.map (Value.int .u8) ++ (H2.map (Value.int .u8) ++ ([Value.slice A m c]))), 67⟩, ⟨gt, 59, flatT Ts, (m * 3)⟩] ++ (He ++ Hw)) (fun w h => by rw [← List.append_assoc]; exact h) ?_
    have hFtHw := Fresh.app hF hFw
    refine TL.storeW (Wants.none rfl) rfl rfl size25 rfl (vs := [Value.int .i64 o, Value.int .i64 n] ++ (H1.map (Value.int .u8) ++ (H2.map (Value.int .u8) ++ ([Value.slice As m cs])))) rfl (by simp [hH1, hH2]) (ones_app (by simp [Value.oneCell']) (ones_app ints_one (ones_app ints_one (by simp [Value.oneCell'])))) (i := 0) (ent := ⟨g2, 25, [Value.int .i64 0, Value.int .i64 0] ++ ((List.replicate 64 0).map (Value.int .u8) ++ ([Value.slice none 0 0])), 67⟩) rfl rfl (by simp []) (H' := [⟨g2, 25, [Value.int .i64 o, Value.int .i64 n] ++ (H1.map (Value.int .u8) ++ (H2.map (Value.int .u8) ++ ([Value.slice As m cs]))), 67⟩, ⟨g1, 25, [Value.int .i64 o, Value.int .i64 n] ++ (H1.map (Value.int .u8) ++ (H2.map (Value.int .u8) ++ ([Value.slice A m c]))), 67⟩, ⟨gt, 59, flatT Ts, (m * 3)⟩] ++ (He ++ Hw)) rfl ?_
    refine TL.nil ?_
    refine TE.then ?_
    refine TC.ret ?_
    exact TE.retC rfl agg25 size25 rfl (vs := [Value.int .i64 o, Value.int .i64 n] ++ (H1.map (Value.int .u8) ++ (H2.map (Value.int .u8) ++ ([Value.slice As m cs])))) (by simp [hH1, hH2]) (Row.all (i := 0) (ent := ⟨g2, 25, [Value.int .i64 o, Value.int .i64 n] ++ (H1.map (Value.int .u8) ++ (H2.map (Value.int .u8) ++ ([Value.slice As m cs]))), 67⟩) rfl rfl rfl) (fun w hs => ⟨As, cs, Fs, Hw, rfl, hcs, hos, ⟨Es, hEp, hEs, hsm⟩, St.dropAll He (((hs.erase (i := 0) rfl (by assumption)).erase (i := 0) rfl (by assumption)).erase (i := 0) rfl (by assumption)) hown.new⟩)
end Go.Proofs.Ytkgamkjdkapchaa
/-
  alive; DeltaChecks: the walk.
-/
namespace Go.Proofs.Ytkgamkjdkapchaa
set_option linter.unusedVariables false
set_option linter.unusedSimpArgs false
open Go Go.RowKit
theorem agg30 : (isAgg 30).run Try.prog = fun w => .ok false w := isAgg_no Try.underlying30 rfl
theorem enters8 : Enters Try.prog 8 := ⟨_, Try.func8, by kernel_rfl, by kernel_rfl⟩
theorem enters9 : Enters Try.prog 9 := ⟨_, Try.func9, by kernel_rfl, by kernel_rfl⟩
theorem enters12 : Enters Try.prog 12 := ⟨_, Try.func12, by kernel_rfl, by kernel_rfl⟩
theorem enters24 : Enters Try.prog 24 := ⟨_, Try.func24, by kernel_rfl, by kernel_rfl⟩
theorem size30 : (Try.prog.info? 30).map (·.size) = some 1 := by kernel_rfl
theorem zero5 : (Try.prog.info? 5).bind (·.zero) = some (.int .u8 0) := by kernel_rfl
set_option maxRecDepth 100000 in
set_option maxHeartbeats 2000000 in
theorem alive_c (w : World) : Calls Try.prog 9 #[] w fun e w' => e = .returned (.bool true) ∧ St w [] w' := by
  refine calls_from (args := []) Try.func9 rfl Try.ntmps9 (by simp) ?_
  refine TC.sub (Sub.nil) ?_
  refine TC.seq ?_
  refine TC.regionL ?_
  refine TL.gets (Wants.none rfl) rfl (Gets.assign rfl rfl) ?_
  refine TL.nil ?_
  refine TE.then ?_
  refine TC.seq ?_
  refine TC.regionL ?_
  refine TL.gets (Wants.none rfl) rfl (Gets.build rfl (vs := [(0, Value.int .i64 1), (1, Value.int .i64 2), (3, Value.int .i64 4)]) rfl (fun w => by first | rfl | kernel_rfl) (v := .agg ([Value.int .i64 1, Value.int .i64 2, Value.int .i64 0, Value.int .i64 4, Value.slice none 0 0]).toArray)) ?_
  refine TL.alloc (Wants.none rfl) rfl rfl zero40 (cs := [Value.int .i64 0, Value.int .i64 0, Value.int .i64 0, Value.int .i64 0, Value.slice none 0 0]) rfl (tot := 5) (by simp) (fun g1 hg1 => ?_)
  refine TL.storeW (Wants.none rfl) rfl rfl size40 rfl (vs := [Value.int .i64 1, Value.int .i64 2, Value.int .i64 0, Value.int .i64 4, Value.slice none 0 0]) rfl (by simp []) (by simp [Value.oneCell']) (i := 0) (ent := ⟨g1, 40, [Value.int .i64 0, Value.int .i64 0, Value.int .i64 0, Value.int .i64 0, Value.slice none 0 0], 5⟩) rfl rfl (by simp []) (H' := [⟨g1, 40, [Value.int .i64 1, Value.int .i64 2, Value.int .i64 0, Value.int .i64 4, Value.slice none 0 0], 5⟩]) rfl ?_
  refine TL.nil ?_
  refine TE.then ?_
  refine TC.seq ?_
  refine TC.regionL ?_
  refine TL.buildSlice (Wants.none rfl) rfl rfl Try.underlying38 size5 zero5 rfl (by decide) (by decide) (cells := #[.int .u8 97, .int .u8 98]) (tot := 2) (by kernel_rfl) (cs := [.int .u8 97, .int .u8 98]) rfl rfl (fun g2 hg2 => ?_)
  refine TL.mark (Wants.none rfl) rfl rfl Try.underlying38 Try.underlying5 rfl (i := 0) (ent := ⟨g2, 5, [Value.int .u8 97, Value.int .u8 98], 2⟩) rfl rfl (W := [97, 98]) rfl (by omega) (fun w1 hw1 hrw hgw => ?_)
  have hsr : Src w1 (some ⟨g2, 0, none⟩) 2 .u8 [97, 98] := ⟨rfl, .inr ⟨g2, 0, rfl, hgw, hrw⟩⟩
  have hl1 := hw1.has ⟨g1, 40, [Value.int .i64 1, Value.int .i64 2, Value.int .i64 0, Value.int .i64 4, Value.slice none 0 0], 5⟩ (by simp)
  have hlt1 : g1 < w1.heap.size := hl1.lt
  refine TL.gets (Wants.none rfl) rfl (Gets.build rfl (vs := [(0, Value.int .i64 2), (4, Value.slice (some ⟨g2, 0, none⟩) 2 2)]) rfl (fun w => by first | rfl | kernel_rfl) (v := .agg ([Value.int .i64 2, Value.int .i64 0, Value.int .i64 0, Value.int .i64 0, Value.slice (some ⟨g2, 0, none⟩) 2 2]).toArray)) ?_
  refine TL.alloc (Wants.none rfl) rfl rfl zero40 (cs := [Value.int .i64 0, Value.int .i64 0, Value.int .i64 0, Value.int .i64 0, Value.slice none 0 0]) rfl (tot := 5) (by simp) (fun g3 hg3 => ?_)
  refine TL.storeW (Wants.none rfl) rfl rfl size40 rfl (vs := [Value.int .i64 2, Value.int .i64 0, Value.int .i64 0, Value.int .i64 0, Value.slice (some ⟨g2, 0, none⟩) 2 2]) rfl (by simp []) (by simp [Value.oneCell']) (i := 0) (ent := ⟨g3, 40, [Value.int .i64 0, Value.int .i64 0, Value.int .i64 0, Value.int .i64 0, Value.slice none 0 0], 5⟩) rfl rfl (by simp []) (H' := [⟨g3, 40, [Value.int .i64 2, Value.int .i64 0, Value.int .i64 0, Value.int .i64 0, Value.slice (some ⟨g2, 0, none⟩) 2 2], 5⟩]) rfl ?_
  refine TL.nil ?_
  refine TE.then ?_
  refine TC.seq ?_
  refine TC.regionL ?_
  refine TL.gets (Wants.none rfl) rfl (Gets.loadN rfl agg40 size40 rfl rfl ((Row.old (vs := [Value.int .i64 1, Value.int .i64 2, Value.int .i64 0, Value.int .i64 4, Value.slice none 0 0]) (fun jj u h => by rw [Nat.zero_add]; exact hl1.cell h) hlt1 (ne_cons (by show g3 ≠ g1; omega) ne_nil)))) ?_
  refine TL.gets (Wants.none rfl) rfl (Gets.loadN rfl agg40 size40 rfl (vs := [Value.int .i64 2, Value.int .i64 0, Value.int .i64 0, Value.int .i64 0, Value.slice (some ⟨g2, 0, none⟩) 2 2]) (by simp []) (Row.all (i := 0) (ent := ⟨g3, 40, [Value.int .i64 2, Value.int .i64 0, Value.int .i64 0, Value.int .i64 0, Value.slice (some ⟨g2, 0, none⟩) 2 2], 5⟩) rfl rfl rfl)) ?_
  refine TL.buildSlice (Wants.none rfl) rfl rfl Try.underlying23 size40 zero40 rfl (by decide) (by decide) (cells := #[.int .i64 1, .int .i64 2, .int .i64 0, .int .i64 4, .slice none 0 0, .int .i64 2, .int .i64 0, .int .i64 0, .int .i64 0, .slice (some ⟨g2, 0, none⟩) 2 2]) (tot := 10) (by kernel_rfl) (cs := [.int .i64 1, .int .i64 2, .int .i64 0, .int .i64 4, .slice none 0 0, .int .i64 2, .int .i64 0, .int .i64 0, .int .i64 0, .slice (some ⟨g2, 0, none⟩) 2 2]) rfl rfl (fun g4 hg4 => ?_)
  refine TL.gets (Wants.none rfl) rfl (Gets.congr (u := .agg #[.int .i64 4, .int .i64 6, .int .u8 0, .int .u8 0, .int .u8 0, .int .u8 0, .int .u8 0, .int .u8 0, .int .u8 0, .int .u8 0, .int .u8 0, .int .u8 0, .int .u8 0, .int .u8 0, .int .u8 0, .int .u8 0, .int .u8 0, .int .u8 0, .int .u8 0, .int .u8 0, .int .u8 0, .int .u8 0, .int .u8 0, .int .u8 0, .int .u8 0, .int .u8 0, .int .u8 0, .int .u8 0, .int .u8 0, .int .u8 0, .int .u8 0, .int .u8 0, .int .u8 0, .int .u8 0, .int .u8 0, .int .u8 0, .int .u8 0, .int .u8 0, .int .u8 0, .int .u8 0, .int .u8 0, .int .u8 0, .int .u8 0, .int .u8 0, .int .u8 0, .int .u8 0, .int .u8 0, .int .u8 0, .int .u8 0, .int .u8 0, .int .u8 0, .int .u8 0, .int .u8 0, .int .u8 0, .int .u8 0, .int .u8 0, .int .u8 0, .int .u8 0, .int .u8 0, .int .u8 0, .int .u8 0, .int .u8 0, .int .u8 0, .int .u8 0, .int .u8 0, .int .u8 0, .slice (some ⟨g4, 0, none⟩) 2 2]) (Gets.build rfl (vs := [(0, .int .i64 4), (1, .int .i64 6), (4, Value.slice (some ⟨g4, 0, none⟩) 2 2)]) rfl (fun w => by first | rfl | kernel_rfl)) rfl) ?_
  refine TL.alloc (Wants.none rfl) rfl rfl zero25 (cs := [Value.int .i64 0, Value.int .i64 0] ++ ((List.replicate 64 0).map (Value.int .u8) ++ ([Value.slice none 0 0]))) rfl (tot := 67) (by simp) (fun g5 hg5 => ?_)
  refine TL.storeW (Wants.none rfl) rfl rfl size25 rfl (vs := [Value.int .i64 4, Value.int .i64 6] ++ ((List.replicate 32 0).map (Value.int .u8) ++ ((List.replicate 32 0).map (Value.int .u8) ++ ([Value.slice (some ⟨g4, 0, none⟩) 2 2])))) rfl (by simp []) (ones_app (by simp [Value.oneCell']) (ones_app ints_one (ones_app ints_one (by simp [Value.oneCell'])))) (i := 0) (ent := ⟨g5, 25, [Value.int .i64 0, Value.int .i64 0] ++ ((List.replicate 64 0).map (Value.int .u8) ++ ([Value.slice none 0 0])), 67⟩) rfl rfl (by simp []) (H' := [⟨g5, 25, [Value.int .i64 4, Value.int .i64 6] ++ ((List.replicate 32 0).map (Value.int .u8) ++ ((List.replicate 32 0).map (Value.int .u8) ++ ([Value.slice (some ⟨g4, 0, none⟩) 2 2]))), 67⟩, ⟨g4, 40, [Value.int .i64 1, Value.int .i64 2, Value.int .i64 0, Value.int .i64 4, Value.slice none 0 0, Value.int .i64 2, Value.int .i64 0, Value.int .i64 0, Value.int .i64 0, Value.slice (some ⟨g2, 0, none⟩) 2 2], 10⟩, ⟨g3, 40, [Value.int .i64 2, Value.int .i64 0, Value.int .i64 0, Value.int .i64 0, Value.slice (some ⟨g2, 0, none⟩) 2 2], 5⟩]) rfl ?_
  refine TL.nil ?_
  refine TE.then ?_
  refine TC.sub (Sub.cons (i := 0) rfl (Sub.cons (i := 1) rfl (Sub.cons (i := 3) rfl (Sub.nil)))) ?_
  refine TC.seq ?_
  refine TC.regionL ?_
  refine TL.gets (Wants.none rfl) rfl (Gets.loadN rfl agg25 size25 rfl (vs := [Value.int .i64 4, Value.int .i64 6] ++ ((List.replicate 32 0).map (Value.int .u8) ++ ((List.replicate 32 0).map (Value.int .u8) ++ ([Value.slice (some ⟨g4, 0, none⟩) 2 2])))) (by simp []) (Row.all (i := 0) (ent := ⟨g5, 25, [Value.int .i64 4, Value.int .i64 6] ++ ((List.replicate 32 0).map (Value.int .u8) ++ ((List.replicate 32 0).map (Value.int .u8) ++ ([Value.slice (some ⟨g4, 0, none⟩) 2 2]))), 67⟩) rfl rfl rfl)) ?_
  refine TL.call0 (Wants.none rfl) rfl enters11 rfl rfl (v := .agg ([Value.int .i64 ((faultI 4 6 [exA, (exB (some ⟨g2, 0, none⟩))]).1), Value.int .i64 ((faultI 4 6 [exA, (exB (some ⟨g2, 0, none⟩))]).2)]).toArray) (fun w hs => dcheck_c 4 6 (List.replicate 32 0) (List.replicate 32 0) (by rfl) (by rfl) (some ⟨g4, 0, none⟩) 2 2 [exA, (exB (some ⟨g2, 0, none⟩))] (by decide) (ex_num g2) w (lies_srcC (hs.has (⟨g4, 40, [Value.int .i64 1, Value.int .i64 2, Value.int .i64 0, Value.int .i64 4, Value.slice none 0 0, Value.int .i64 2, Value.int .i64 0, Value.int .i64 0, Value.int .i64 0, Value.slice (some ⟨g2, 0, none⟩) 2 2], 10⟩) (by simp)) rfl rfl) (ex_dat (hsr.at_ hs (fun b hb => (ne_cons (by show g5 ≠ b; omega) (ne_cons (by show g4 ≠ b; omega) (ne_cons (by show g3 ≠ b; omega) ne_nil)))))) (ex_few g2) (by omega) (by omega)) ?_
  refine TL.gets (Wants.none rfl) rfl (Gets.build rfl (vs := []) rfl (fun w => by first | rfl | kernel_rfl) (v := .agg ([Value.int .i64 0, Value.int .i64 0]).toArray)) ?_
  refine TL.gets (Wants.none rfl) rfl (Gets.isTrue (Gets.pairEq rfl Try.underlying32 (by decide) (by decide) rfl rfl Try.underlying30 Try.underlying3 sih32 geq32 rfl rfl) (by rw [ex_ok]; exact ⟨rfl, rfl⟩)) ?_
  refine TL.gets (Wants.none rfl) rfl (Gets.move rfl rfl) ?_
  refine TL.gets (Wants.yes rfl rfl rfl) rfl (Gets.loadN rfl agg25 size25 rfl (vs := [Value.int .i64 4, Value.int .i64 6] ++ ((List.replicate 32 0).map (Value.int .u8) ++ ((List.replicate 32 0).map (Value.int .u8) ++ ([Value.slice (some ⟨g4, 0, none⟩) 2 2])))) (by simp []) (Row.all (i := 0) (ent := ⟨g5, 25, [Value.int .i64 4, Value.int .i64 6] ++ ((List.replicate 32 0).map (Value.int .u8) ++ ((List.replicate 32 0).map (Value.int .u8) ++ ([Value.slice (some ⟨g4, 0, none⟩) 2 2]))), 67⟩) rfl rfl rfl)) ?_
  refine TL.gets (Wants.yes rfl rfl rfl) rfl (Gets.loadN rfl agg40 size40 rfl rfl ((Row.old (vs := [Value.int .i64 1, Value.int .i64 2, Value.int .i64 0, Value.int .i64 4, Value.slice none 0 0]) (fun jj u h => by rw [Nat.zero_add]; exact hl1.cell h) hlt1 (ne_cons (by show g5 ≠ g1; omega) (ne_cons (by show g4 ≠ g1; omega) (ne_cons (by show g3 ≠ g1; omega) ne_nil)))))) ?_
  refine TL.buildSlice (Wants.yes rfl rfl rfl) rfl rfl Try.underlying23 size40 zero40 rfl (by decide) (by decide) (cells := #[.int .i64 1, .int .i64 2, .int .i64 0, .int .i64 4, .slice none 0 0]) (tot := 5) (by kernel_rfl) (cs := [.int .i64 1, .int .i64 2, .int .i64 0, .int .i64 4, .slice none 0 0]) rfl rfl (fun g6 hg6 => ?_)
  refine TL.call (ι := (Option Addr × Nat) × (List CV × List Ent)) (V := fun y => .agg ([Value.int .i64 4, Value.int .i64 6] ++ ((List.replicate 32 0).map (Value.int .u8) ++ ((List.replicate 32 0).map (Value.int .u8) ++ ([Value.slice y.1.1 1 y.1.2])))).toArray) (R := fun y => (1 ≤ y.1.2 ∧ y.1.2 ≤ 9223372036854775807) ∧ OwnD w1.heap.size y.1.1 1 y.2.1 y.2.2 ∧ sameE y.2.1 ([exA])) (H' := fun y => [⟨g6, 40, [Value.int .i64 1, Value.int .i64 2, Value.int .i64 0, Value.int .i64 4, Value.slice none 0 0], 5⟩, ⟨g5, 25, [Value.int .i64 4, Value.int .i64 6] ++ ((List.replicate 32 0).map (Value.int .u8) ++ ((List.replicate 32 0).map (Value.int .u8) ++ ([Value.slice (some ⟨g4, 0, none⟩) 2 2]))), 67⟩, ⟨g4, 40, [Value.int .i64 1, Value.int .i64 2, Value.int .i64 0, Value.int .i64 4, Value.slice none 0 0, Value.int .i64 2, Value.int .i64 0, Value.int .i64 0, Value.int .i64 0, Value.slice (some ⟨g2, 0, none⟩) 2 2], 10⟩, ⟨g3, 40, [Value.int .i64 2, Value.int .i64 0, Value.int .i64 0, Value.int .i64 0, Value.slice (some ⟨g2, 0, none⟩) 2 2], 5⟩] ++ y.2.2) (Wants.yes rfl rfl rfl) rfl enters21 rfl rfl (fun w hs => (dwith_c 4 6 (List.replicate 32 0) (List.replicate 32 0) (by rfl) (by rfl) (some ⟨g4, 0, none⟩) 2 2 (some ⟨g6, 0, none⟩) 1 1 ([exA]) (by decide) ex1_num w (lies_srcC (hs.has (⟨g6, 40, [Value.int .i64 1, Value.int .i64 2, Value.int .i64 0, Value.int .i64 4, Value.slice none 0 0], 5⟩) (by simp)) rfl rfl) ex1_dat ex1_few).mono fun e w' ⟨A', c', Fs, He, he, hc, ho, hsm, hw⟩ => ⟨((A', c'), (Fs, He)), he, ⟨hc, ho.mono hs.size, hsm⟩, st_call hs hw ho.1⟩) (fun y hR => ?_)
  obtain ⟨⟨Ax, cx⟩, Fx, Ex⟩ := y
  obtain ⟨hcx, hox, hsmx⟩ := hR
  dsimp only at hcx hox hsmx ⊢
  have hFx : Fresh w1 Ex := hox.1
  refine TL.call0 (Wants.yes rfl rfl rfl) rfl enters11 rfl rfl (v := .agg ([Value.int .i64 ((faultI 4 6 [exA]).1), Value.int .i64 ((faultI 4 6 [exA]).2)]).toArray) (fun w hs => (dcheck_c 4 6 (List.replicate 32 0) (List.replicate 32 0) (by rfl) (by rfl) Ax 1 cx Fx (by decide) hox.num w (hox.src (fun e he => hs.has e (by simp [he]))) (hox.dat (fun e he => hs.has e (by simp [he]))) (ex1_few.same hsmx) (by omega) (by omega)).mono fun e w' h => by rw [faultI_same hsmx] at h; exact h) ?_
  refine TL.gets (Wants.yes rfl rfl rfl) rfl (Gets.build rfl (vs := [(0, Value.int .i64 3)]) rfl (fun w => by first | rfl | kernel_rfl) (v := .agg ([Value.int .i64 3, Value.int .i64 0]).toArray)) ?_
  refine TL.gets (Wants.yes rfl rfl rfl) rfl (Gets.isTrue (Gets.pairEq rfl Try.underlying32 (by decide) (by decide) rfl rfl Try.underlying30 Try.underlying3 sih32 geq32 rfl rfl) (by rw [ex_gap]; exact ⟨rfl, rfl⟩)) ?_
  refine TL.gets (Wants.none rfl) rfl (Gets.pickT rfl rfl rfl) ?_
  refine TL.gets (Wants.none rfl) rfl (Gets.move rfl rfl) ?_
  refine TL.gets (Wants.yes rfl rfl rfl) rfl (Gets.loadN rfl agg25 size25 rfl (vs := [Value.int .i64 4, Value.int .i64 6] ++ ((List.replicate 32 0).map (Value.int .u8) ++ ((List.replicate 32 0).map (Value.int .u8) ++ ([Value.slice (some ⟨g4, 0, none⟩) 2 2])))) (by simp []) (Row.all (i := 1) (ent := ⟨g5, 25, [Value.int .i64 4, Value.int .i64 6] ++ ((List.replicate 32 0).map (Value.int .u8) ++ ((List.replicate 32 0).map (Value.int .u8) ++ ([Value.slice (some ⟨g4, 0, none⟩) 2 2]))), 67⟩) rfl rfl rfl)) ?_
  refine TL.call0 (Wants.yes rfl rfl rfl) rfl enters24 rfl rfl (v := .int .i64 (findI ([exA, (exB (some ⟨g2, 0, none⟩))]) 1)) (fun w hs => dfind_c 4 6 (List.replicate 32 0) (List.replicate 32 0) (by rfl) (by rfl) (some ⟨g4, 0, none⟩) 2 2 [exA, (exB (some ⟨g2, 0, none⟩))] (by decide) (ex_num g2) w (lies_srcC (hs.has (⟨g4, 40, [Value.int .i64 1, Value.int .i64 2, Value.int .i64 0, Value.int .i64 4, Value.slice none 0 0, Value.int .i64 2, Value.int .i64 0, Value.int .i64 0, Value.int .i64 0, Value.slice (some ⟨g2, 0, none⟩) 2 2], 10⟩) (by simp)) rfl rfl) (ex_dat (hsr.at_ hs (fun b hb => (ne_app (ne_cons (by show g6 ≠ b; omega) (ne_cons (by show g5 ≠ b; omega) (ne_cons (by show g4 ≠ b; omega) (ne_cons (by show g3 ≠ b; omega) ne_nil)))) (hFx.ne hb))))) (ex_few g2) (ex_validC _) 1) ?_
  refine TL.gets (Wants.yes rfl rfl rfl) rfl (Gets.isTrue (Gets.eql rfl rfl rfl) (ex_find _)) ?_
  refine TL.gets (Wants.none rfl) rfl (Gets.pickT rfl rfl rfl) ?_
  refine TL.gets (Wants.none rfl) rfl (Gets.move rfl rfl) ?_
  refine TL.gets (Wants.yes rfl rfl rfl) rfl (Gets.loadN rfl agg25 size25 rfl (vs := [Value.int .i64 4, Value.int .i64 6] ++ ((List.replicate 32 0).map (Value.int .u8) ++ ((List.replicate 32 0).map (Value.int .u8) ++ ([Value.slice (some ⟨g4, 0, none⟩) 2 2])))) (by simp []) (Row.all (i := 1) (ent := ⟨g5, 25, [Value.int .i64 4, Value.int .i64 6] ++ ((List.replicate 32 0).map (Value.int .u8) ++ ((List.replicate 32 0).map (Value.int .u8) ++ ([Value.slice (some ⟨g4, 0, none⟩) 2 2]))), 67⟩) rfl rfl rfl)) ?_
  refine TL.call0 (Wants.yes rfl rfl rfl) rfl enters12 rfl rfl (v := .bool true) (fun w hs => (dvalid_c 4 6 (List.replicate 32 0) (List.replicate 32 0) (by rfl) (by rfl) (some ⟨g4, 0, none⟩) 2 2 [exA, (exB (some ⟨g2, 0, none⟩))] (by decide) (ex_num g2) w (lies_srcC (hs.has (⟨g4, 40, [Value.int .i64 1, Value.int .i64 2, Value.int .i64 0, Value.int .i64 4, Value.slice none 0 0, Value.int .i64 2, Value.int .i64 0, Value.int .i64 0, Value.int .i64 0, Value.slice (some ⟨g2, 0, none⟩) 2 2], 10⟩) (by simp)) rfl rfl) (ex_dat (hsr.at_ hs (fun b hb => (ne_app (ne_cons (by show g6 ≠ b; omega) (ne_cons (by show g5 ≠ b; omega) (ne_cons (by show g4 ≠ b; omega) (ne_cons (by show g3 ≠ b; omega) ne_nil)))) (hFx.ne hb))))) (ex_few g2) (by omega) (by omega)).mono fun e w' h => by rw [decide_eq_true (p := (faultI 4 6 [exA, (exB (some ⟨g2, 0, none⟩))]).1 = 0) (by rw [ex_ok])] at h; exact h) ?_
  refine TL.gets (Wants.none rfl) rfl (Gets.pickT rfl rfl rfl) ?_
  refine TL.gets (Wants.none rfl) rfl (Gets.assign rfl rfl) ?_
  refine TL.nil ?_
  refine TE.then ?_
  refine TC.ret ?_
  exact TE.ret1 rfl rfl (fun w hs => ⟨rfl, by have h2 := St.left (H := [⟨g6, 40, [Value.int .i64 1, Value.int .i64 2, Value.int .i64 0, Value.int .i64 4, Value.slice none 0 0], 5⟩, ⟨g5, 25, [Value.int .i64 4, Value.int .i64 6] ++ ((List.replicate 32 0).map (Value.int .u8) ++ ((List.replicate 32 0).map (Value.int .u8) ++ ([Value.slice (some ⟨g4, 0, none⟩) 2 2]))), 67⟩, ⟨g4, 40, [Value.int .i64 1, Value.int .i64 2, Value.int .i64 0, Value.int .i64 4, Value.slice none 0 0, Value.int .i64 2, Value.int .i64 0, Value.int .i64 0, Value.int .i64 0, Value.slice (some ⟨g2, 0, none⟩) 2 2], 10⟩, ⟨g3, 40, [Value.int .i64 2, Value.int .i64 0, Value.int .i64 0, Value.int .i64 0, Value.slice (some ⟨g2, 0, none⟩) 2 2], 5⟩]) hs hFx; exact ((hw1.call' ((((h2.drop (by assumption)).drop (by assumption)).drop (by assumption)).drop (by assumption))).drop (by assumption))⟩)

set_option maxRecDepth 100000 in
set_option maxHeartbeats 2000000 in
theorem dchecks_no (o n : Int) (H1 H2 : List Int) (hH1 : H1.length = 32) (hH2 : H2.length = 32) (A : Option Addr) (m c : Nat) (Cs : List CV) (hml : m ≤ 9223372036854775807 ∧ ((-9223372036854775808 ≤ o ∧ o ≤ 9223372036854775807) ∧ (-9223372036854775808 ≤ n ∧ n ≤ 9223372036854775807))) (hN : NumsC Cs) (w : World) (hC : SrcC w A m Cs) (hD : DatC w Cs) (hf : ¬ fewP Cs) : Calls Try.prog 3 #[.agg ([Value.int .i64 o, Value.int .i64 n] ++ (H1.map (Value.int .u8) ++ (H2.map (Value.int .u8) ++ ([Value.slice A m c])))).toArray] w fun e w' => e = .returned (.bool true) ∧ St w [] w' := by
  refine calls_from (args := [.agg ([Value.int .i64 o, Value.int .i64 n] ++ (H1.map (Value.int .u8) ++ (H2.map (Value.int .u8) ++ ([Value.slice A m c])))).toArray]) Try.func3 rfl Try.ntmps3 (by simp) ?_
  refine TC.sub (Sub.cons (i := 0) rfl (Sub.nil)) ?_
  refine TC.seq ?_
  refine TC.regionL ?_
  refine TL.box (Wants.none rfl) rfl rfl rfl (cs := [Value.int .i64 o, Value.int .i64 n] ++ (H1.map (Value.int .u8) ++ (H2.map (Value.int .u8) ++ ([Value.slice A m c])))) (by simp [Value.cells]) (tot := 67) (by simp [hH1, hH2]) (fun g1 hg1 => ?_)
  refine TL.gets (Wants.none rfl) rfl (Gets.assign rfl rfl) ?_
  refine TL.nil ?_
  refine TE.then ?_
  refine TC.seq ?_
  refine TC.seq ?_
  refine TC.regionL ?_
  refine TL.gets (Wants.none rfl) rfl (Gets.loadN rfl agg25 size25 rfl (vs := [Value.int .i64 o, Value.int .i64 n] ++ (H1.map (Value.int .u8) ++ (H2.map (Value.int .u8) ++ ([Value.slice A m c])))) (by simp [hH1, hH2]) (Row.all (i := 0) (ent := ⟨g1, 25, [Value.int .i64 o, Value.int .i64 n] ++ (H1.map (Value.int .u8) ++ (H2.map (Value.int .u8) ++ ([Value.slice A m c]))), 67⟩) rfl rfl rfl)) ?_
  refine TL.call0 (Wants.none rfl) rfl enters8 rfl rfl (v := .bool false) (fun w hs => (few_c o n H1 H2 hH1 hH2 A m c Cs (by omega) hN w (hC.at_ hs (fun b hb => (ne_cons (by show g1 ≠ b; omega) ne_nil)))).mono fun e w' h => by rw [decide_eq_false (p := fewP Cs) hf] at h; exact h) ?_
  refine TL.gets (Wants.none rfl) rfl (Gets.not rfl rfl) ?_
  refine TL.nil ?_
  refine TE.then ?_
  refine TC.yes rfl ?_
  refine TC.seq ?_
  refine TC.regionL ?_
  refine TL.call0 (Wants.none rfl) rfl enters9 rfl rfl (v := .bool true) (fun w hs => alive_c w) ?_
  refine TL.gets (Wants.none rfl) rfl (Gets.assign rfl rfl) ?_
  refine TL.nil ?_
  refine TE.then ?_
  refine TC.ret ?_
  refine TE.thenR ?_
  exact TE.ret1 rfl rfl (fun w hs => ⟨rfl, (hs.drop (by assumption))⟩)

set_option maxRecDepth 100000 in
set_option maxHeartbeats 2000000 in
theorem dchecks_yes (o n : Int) (H1 H2 : List Int) (hH1 : H1.length = 32) (hH2 : H2.length = 32) (A : Option Addr) (m c : Nat) (Cs : List CV) (hml : m ≤ 9223372036854775807 ∧ ((-9223372036854775808 ≤ o ∧ o ≤ 9223372036854775807) ∧ (-9223372036854775808 ≤ n ∧ n ≤ 9223372036854775807))) (hN : NumsC Cs) (w : World) (hC : SrcC w A m Cs) (hD : DatC w Cs) (hf : fewP Cs) : Calls Try.prog 3 #[.agg ([Value.int .i64 o, Value.int .i64 n] ++ (H1.map (Value.int .u8) ++ (H2.map (Value.int .u8) ++ ([Value.slice A m c])))).toArray] w fun e w' => e = .returned (.bool true) ∧ St w [] w' := by
  have hmm : m ≤ 1000000000 := by have := hf.2; have := hC.1; omega
  refine calls_from (args := [.agg ([Value.int .i64 o, Value.int .i64 n] ++ (H1.map (Value.int .u8) ++ (H2.map (Value.int .u8) ++ ([Value.slice A m c])))).toArray]) Try.func3 rfl Try.ntmps3 (by simp) ?_
  refine TC.sub (Sub.cons (i := 0) rfl (Sub.nil)) ?_
  refine TC.seq ?_
  refine TC.regionL ?_
  refine TL.box (Wants.none rfl) rfl rfl rfl (cs := [Value.int .i64 o, Value.int .i64 n] ++ (H1.map (Value.int .u8) ++ (H2.map (Value.int .u8) ++ ([Value.slice A m c])))) (by simp [Value.cells]) (tot := 67) (by simp [hH1, hH2]) (fun g1 hg1 => ?_)
  refine TL.gets (Wants.none rfl) rfl (Gets.assign rfl rfl) ?_
  refine TL.nil ?_
  refine TE.then ?_
  refine TC.seq ?_
  refine TC.seq ?_
  refine TC.regionL ?_
  refine TL.gets (Wants.none rfl) rfl (Gets.loadN rfl agg25 size25 rfl (vs := [Value.int .i64 o, Value.int .i64 n] ++ (H1.map (Value.int .u8) ++ (H2.map (Value.int .u8) ++ ([Value.slice A m c])))) (by simp [hH1, hH2]) (Row.all (i := 0) (ent := ⟨g1, 25, [Value.int .i64 o, Value.int .i64 n] ++ (H1.map (Value.int .u8) ++ (H2.map (Value.int .u8) ++ ([Value.slice A m c]))), 67⟩) rfl rfl rfl)) ?_
  refine TL.call0 (Wants.none rfl) rfl enters8 rfl rfl (v := .bool true) (fun w hs => (few_c o n H1 H2 hH1 hH2 A m c Cs (by omega) hN w (hC.at_ hs (fun b hb => (ne_cons (by show g1 ≠ b; omega) ne_nil)))).mono fun e w' h => by rw [decide_eq_true (p := fewP Cs) hf] at h; exact h) ?_
  refine TL.gets (Wants.none rfl) rfl (Gets.not rfl rfl) ?_
  refine TL.nil ?_
  refine TE.then ?_
  refine TC.no rfl ?_
  refine TC.skip ?_
  refine TE.then ?_
  refine TC.seq ?_
  refine TC.regionL ?_
  refine TL.gets (Wants.none rfl) rfl (Gets.loadN rfl agg25 size25 rfl (vs := [Value.int .i64 o, Value.int .i64 n] ++ (H1.map (Value.int .u8) ++ (H2.map (Value.int .u8) ++ ([Value.slice A m c])))) (by simp [hH1, hH2]) (Row.all (i := 0) (ent := ⟨g1, 25, [Value.int .i64 o, Value.int .i64 n] ++ (H1.map (Value.int .u8) ++ (H2.map (Value.int .u8) ++ ([Value.slice A m c]))), 67⟩) rfl rfl rfl)) ?_
  refine TL.call0 (Wants.none rfl) rfl enters10 rfl rfl (v := .tuple #[.int .i64 ((faultI o n Cs).1), .int .i64 ((faultI o n Cs).2)]) (fun w hs => rdcheck_c o n H1 H2 hH1 hH2 A m c Cs hmm hN w (hC.at_ hs (fun b hb => (ne_cons (by show g1 ≠ b; omega) ne_nil)))) ?_
  refine TL.gets (Wants.none rfl) rfl (Gets.move rfl rfl) ?_
  refine TL.gets (Wants.none rfl) rfl (Gets.extract rfl rfl rfl) ?_
  refine TL.gets (Wants.none rfl) rfl (Gets.extract rfl rfl rfl) ?_
  refine TL.gets (Wants.none rfl) rfl (Gets.assign rfl rfl) ?_
  refine TL.gets (Wants.none rfl) rfl (Gets.assign rfl rfl) ?_
  refine TL.nil ?_
  refine TE.then ?_
  refine TC.sub (Sub.cons (i := 1) rfl (Sub.cons (i := 2) rfl (Sub.cons (i := 3) rfl (Sub.cons (i := 4) rfl (Sub.nil))))) ?_
  refine TC.seq ?_
  refine TC.regionL ?_
  refine TL.gets (Wants.none rfl) rfl (Gets.loadN rfl agg25 size25 rfl (vs := [Value.int .i64 o, Value.int .i64 n] ++ (H1.map (Value.int .u8) ++ (H2.map (Value.int .u8) ++ ([Value.slice A m c])))) (by simp [hH1, hH2]) (Row.all (i := 0) (ent := ⟨g1, 25, [Value.int .i64 o, Value.int .i64 n] ++ (H1.map (Value.int .u8) ++ (H2.map (Value.int .u8) ++ ([Value.slice A m c]))), 67⟩) rfl rfl rfl)) ?_
  refine TL.call0 (Wants.none rfl) rfl enters11 rfl rfl (v := .agg ([Value.int .i64 ((faultI o n Cs).1), Value.int .i64 ((faultI o n Cs).2)]).toArray) (fun w hs => dcheck_c o n H1 H2 hH1 hH2 A m c Cs hmm hN w (hC.at_ hs (fun b hb => (ne_cons (by show g1 ≠ b; omega) ne_nil))) (hD.at_ hs (fun b hb => (ne_cons (by show g1 ≠ b; omega) ne_nil))) hf.q (by omega) (by omega)) ?_
  refine TL.alloc (Wants.none rfl) rfl rfl zero32 (cs := [Value.int .i64 0, Value.int .i64 0]) rfl (tot := 2) (by simp) (fun g2 hg2 => ?_)
  refine TL.storeW (Wants.none rfl) rfl rfl size32 rfl (vs := [Value.int .i64 ((faultI o n Cs).1), Value.int .i64 ((faultI o n Cs).2)]) rfl (by simp []) (by simp [Value.oneCell']) (i := 0) (ent := ⟨g2, 32, [Value.int .i64 0, Value.int .i64 0], 2⟩) rfl rfl (by simp []) (H' := [⟨g2, 32, [Value.int .i64 ((faultI o n Cs).1), Value.int .i64 ((faultI o n Cs).2)], 2⟩, ⟨g1, 25, [Value.int .i64 o, Value.int .i64 n] ++ (H1.map (Value.int .u8) ++ (H2.map (Value.int .u8) ++ ([Value.slice A m c]))), 67⟩]) rfl ?_
  refine TL.nil ?_
  refine TE.then ?_
  refine TC.seq ?_
  refine TC.regionL ?_
  refine TL.call0 (Wants.none rfl) rfl enters9 rfl rfl (v := .bool true) (fun w hs => alive_c w) ?_
  refine TL.gets (Wants.none rfl) rfl (Gets.move rfl rfl) ?_
  refine TL.gets (Wants.yes rfl rfl rfl) rfl (Gets.fieldAddr rfl Try.underlying32 rfl size30 rfl (off' := 0) (by first | rfl | omega)) ?_
  refine TL.gets (Wants.yes rfl rfl rfl) rfl (Gets.load1 rfl agg30 rfl (At.ent (i := 0) (ent := ⟨g2, 32, [Value.int .i64 ((faultI o n Cs).1), Value.int .i64 ((faultI o n Cs).2)], 2⟩) (off := 0) rfl rfl (by exact rfl))) ?_
  refine TL.gets (Wants.yes rfl rfl rfl) rfl (Gets.move rfl rfl) ?_
  refine TL.gets (Wants.yes rfl rfl rfl) rfl (Gets.isTrue (Gets.eql rfl rfl rfl) rfl) ?_
  refine TL.gets (Wants.none rfl) rfl (Gets.pickT rfl rfl rfl) ?_
  refine TL.gets (Wants.none rfl) rfl (Gets.move rfl rfl) ?_
  refine TL.gets (Wants.yes rfl rfl rfl) rfl (Gets.fieldAddr rfl Try.underlying32 rfl size3 rfl (off' := 1) (by first | rfl | omega)) ?_
  refine TL.gets (Wants.yes rfl rfl rfl) rfl (Gets.load1 rfl agg3 rfl (At.ent (i := 0) (ent := ⟨g2, 32, [Value.int .i64 ((faultI o n Cs).1), Value.int .i64 ((faultI o n Cs).2)], 2⟩) (off := 1) rfl rfl (by exact rfl))) ?_
  refine TL.gets (Wants.yes rfl rfl rfl) rfl (Gets.move rfl rfl) ?_
  refine TL.gets (Wants.yes rfl rfl rfl) rfl (Gets.isTrue (Gets.eql rfl rfl rfl) rfl) ?_
  refine TL.gets (Wants.none rfl) rfl (Gets.pickT rfl rfl rfl) ?_
  refine TL.gets (Wants.none rfl) rfl (Gets.move rfl rfl) ?_
  refine TL.gets (Wants.yes rfl rfl rfl) rfl (Gets.loadN rfl agg25 size25 rfl (vs := [Value.int .i64 o, Value.int .i64 n] ++ (H1.map (Value.int .u8) ++ (H2.map (Value.int .u8) ++ ([Value.slice A m c])))) (by simp [hH1, hH2]) (Row.all (i := 1) (ent := ⟨g1, 25, [Value.int .i64 o, Value.int .i64 n] ++ (H1.map (Value.int .u8) ++ (H2.map (Value.int .u8) ++ ([Value.slice A m c]))), 67⟩) rfl rfl rfl)) ?_
  refine TL.call0 (Wants.yes rfl rfl rfl) rfl enters12 rfl rfl (v := .bool (decide ((faultI o n Cs).1 = 0))) (fun w hs => dvalid_c o n H1 H2 hH1 hH2 A m c Cs hmm hN w (hC.at_ hs (fun b hb => (ne_cons (by show g2 ≠ b; omega) (ne_cons (by show g1 ≠ b; omega) ne_nil)))) (hD.at_ hs (fun b hb => (ne_cons (by show g2 ≠ b; omega) (ne_cons (by show g1 ≠ b; omega) ne_nil)))) hf.q (by omega) (by omega)) ?_
  refine TL.gets (Wants.yes rfl rfl rfl) rfl (Gets.move rfl rfl) ?_
  refine TL.gets (Wants.yes rfl rfl rfl) rfl (Gets.eql rfl rfl rfl) ?_
  refine TL.gets (Wants.yes rfl rfl rfl) rfl (Gets.isTrue (Gets.boolEqP rfl Try.underlying4 rfl rfl) Iff.rfl) ?_
  refine TL.gets (Wants.none rfl) rfl (Gets.pickT rfl rfl rfl) ?_
  refine TL.gets (Wants.none rfl) rfl (Gets.assign rfl rfl) ?_
  refine TL.nil ?_
  refine TE.then ?_
  refine TC.ret ?_
  exact TE.ret1 rfl rfl (fun w hs => ⟨rfl, ((hs.drop (by assumption)).drop (by assumption))⟩)


theorem deltaChecks_walk (o n : Int) (H1 H2 : List Int) (hH1 : H1.length = 32) (hH2 : H2.length = 32) (A : Option Addr) (m c : Nat) (Cs : List CV) (w : World) (bo : -9223372036854775808 ≤ o ∧ o ≤ 9223372036854775807) (bn : -9223372036854775808 ≤ n ∧ n ≤ 9223372036854775807) (hmc : m ≤ c) (hcm : c ≤ 9223372036854775807) (hN : NumsC Cs) (hC : SrcC w A m Cs) (hD : DatC w Cs) (hA : A = none → m = 0) (hB1 : Bytes H1) (hB2 : Bytes H2) : Calls Try.prog 3 #[.agg ([Value.int .i64 o, Value.int .i64 n] ++ (H1.map (Value.int .u8) ++ (H2.map (Value.int .u8) ++ ([Value.slice A m c])))).toArray] w fun e w' => e = .returned (.bool true) ∧ St w [] w' := by
  by_cases hf : fewP Cs
  · exact dchecks_yes o n H1 H2 hH1 hH2 A m c Cs (by omega) hN w hC hD hf
  · exact dchecks_no o n H1 H2 hH1 hH2 A m c Cs (by omega) hN w hC hD hf
end Go.Proofs.Ytkgamkjdkapchaa
/-
  DeltaTotals: the walk.
-/
namespace Go.Proofs.Ytkgamkjdkapchaa
set_option linter.unusedVariables false
set_option linter.unusedSimpArgs false
open Go Go.RowKit
theorem enters13 : Enters Try.prog 13 := ⟨_, Try.func13, by kernel_rfl, by kernel_rfl⟩
theorem enters14 : Enters Try.prog 14 := ⟨_, Try.func14, by kernel_rfl, by kernel_rfl⟩
theorem enters15 : Enters Try.prog 15 := ⟨_, Try.func15, by kernel_rfl, by kernel_rfl⟩
set_option maxRecDepth 100000 in
set_option maxHeartbeats 2000000 in
theorem dtotals_no (o n : Int) (H1 H2 : List Int) (hH1 : H1.length = 32) (hH2 : H2.length = 32) (A : Option Addr) (m c : Nat) (Cs : List CV) (hml : m ≤ 9223372036854775807 ∧ ((-9223372036854775808 ≤ o ∧ o ≤ 9223372036854775807) ∧ (-9223372036854775808 ≤ n ∧ n ≤ 9223372036854775807))) (hN : NumsC Cs) (w : World) (hC : SrcC w A m Cs) (hD : DatC w Cs) (hf : ¬ fewP Cs) : Calls Try.prog 4 #[.agg ([Value.int .i64 o, Value.int .i64 n] ++ (H1.map (Value.int .u8) ++ (H2.map (Value.int .u8) ++ ([Value.slice A m c])))).toArray] w fun e w' => e = .returned (.bool true) ∧ St w [] w' := by
  refine calls_from (args := [.agg ([Value.int .i64 o, Value.int .i64 n] ++ (H1.map (Value.int .u8) ++ (H2.map (Value.int .u8) ++ ([Value.slice A m c])))).toArray]) Try.func4 rfl Try.ntmps4 (by simp) ?_
  refine TC.sub (Sub.cons (i := 0) rfl (Sub.nil)) ?_
  refine TC.seq ?_
  refine TC.regionL ?_
  refine TL.box (Wants.none rfl) rfl rfl rfl (cs := [Value.int .i64 o, Value.int .i64 n] ++ (H1.map (Value.int .u8) ++ (H2.map (Value.int .u8) ++ ([Value.slice A m c])))) (by simp [Value.cells]) (tot := 67) (by simp [hH1, hH2]) (fun g1 hg1 => ?_)
  refine TL.gets (Wants.none rfl) rfl (Gets.assign rfl rfl) ?_
  refine TL.nil ?_
  refine TE.then ?_
  refine TC.seq ?_
  refine TC.seq ?_
  refine TC.regionL ?_
  refine TL.gets (Wants.none rfl) rfl (Gets.loadN rfl agg25 size25 rfl (vs := [Value.int .i64 o, Value.int .i64 n] ++ (H1.map (Value.int .u8) ++ (H2.map (Value.int .u8) ++ ([Value.slice A m c])))) (by simp [hH1, hH2]) (Row.all (i := 0) (ent := ⟨g1, 25, [Value.int .i64 o, Value.int .i64 n] ++ (H1.map (Value.int .u8) ++ (H2.map (Value.int .u8) ++ ([Value.slice A m c]))), 67⟩) rfl rfl rfl)) ?_
  refine TL.call0 (Wants.none rfl) rfl enters8 rfl rfl (v := .bool false) (fun w hs => (few_c o n H1 H2 hH1 hH2 A m c Cs (by omega) hN w (hC.at_ hs (fun b hb => (ne_cons (by show g1 ≠ b; omega) ne_nil)))).mono fun e w' h => by rw [decide_eq_false (p := fewP Cs) hf] at h; exact h) ?_
  refine TL.gets (Wants.none rfl) rfl (Gets.not rfl rfl) ?_
  refine TL.gets (Wants.none rfl) rfl (Gets.move rfl rfl) ?_
  refine TL.pass rfl rfl rfl rfl rfl ?_
  refine TL.pass rfl rfl rfl rfl rfl ?_
  refine TL.pass rfl rfl rfl rfl rfl ?_
  refine TL.gets (Wants.none rfl) rfl (Gets.pickT rfl rfl rfl) ?_
  refine TL.nil ?_
  refine TE.then ?_
  refine TC.sub (Sub.cons (i := 1) rfl (Sub.cons (i := 2) rfl (Sub.cons (i := 14) rfl (Sub.nil)))) ?_
  refine TC.yes rfl ?_
  refine TC.seq ?_
  refine TC.regionL ?_
  refine TL.call0 (Wants.none rfl) rfl enters9 rfl rfl (v := .bool true) (fun w hs => alive_c w) ?_
  refine TL.gets (Wants.none rfl) rfl (Gets.assign rfl rfl) ?_
  refine TL.nil ?_
  refine TE.then ?_
  refine TC.ret ?_
  refine TE.thenR ?_
  exact TE.ret1 rfl rfl (fun w hs => ⟨rfl, (hs.drop (by assumption))⟩)

set_option maxRecDepth 100000 in
set_option maxHeartbeats 2000000 in
theorem dtotals_bad (o n : Int) (H1 H2 : List Int) (hH1 : H1.length = 32) (hH2 : H2.length = 32) (A : Option Addr) (m c : Nat) (Cs : List CV) (hml : m ≤ 9223372036854775807 ∧ ((-9223372036854775808 ≤ o ∧ o ≤ 9223372036854775807) ∧ (-9223372036854775808 ≤ n ∧ n ≤ 9223372036854775807))) (hN : NumsC Cs) (w : World) (hC : SrcC w A m Cs) (hD : DatC w Cs) (hf : fewP Cs) (hv : ¬ (faultI o n Cs).1 = 0) : Calls Try.prog 4 #[.agg ([Value.int .i64 o, Value.int .i64 n] ++ (H1.map (Value.int .u8) ++ (H2.map (Value.int .u8) ++ ([Value.slice A m c])))).toArray] w fun e w' => e = .returned (.bool true) ∧ St w [] w' := by
  have hmm : m ≤ 1000000000 := by have := hf.2; have := hC.1; omega
  refine calls_from (args := [.agg ([Value.int .i64 o, Value.int .i64 n] ++ (H1.map (Value.int .u8) ++ (H2.map (Value.int .u8) ++ ([Value.slice A m c])))).toArray]) Try.func4 rfl Try.ntmps4 (by simp) ?_
  refine TC.sub (Sub.cons (i := 0) rfl (Sub.nil)) ?_
  refine TC.seq ?_
  refine TC.regionL ?_
  refine TL.box (Wants.none rfl) rfl rfl rfl (cs := [Value.int .i64 o, Value.int .i64 n] ++ (H1.map (Value.int .u8) ++ (H2.map (Value.int .u8) ++ ([Value.slice A m c])))) (by simp [Value.cells]) (tot := 67) (by simp [hH1, hH2]) (fun g1 hg1 => ?_)
  refine TL.gets (Wants.none rfl) rfl (Gets.assign rfl rfl) ?_
  refine TL.nil ?_
  refine TE.then ?_
  refine TC.seq ?_
  refine TC.seq ?_
  refine TC.regionL ?_
  refine TL.gets (Wants.none rfl) rfl (Gets.loadN rfl agg25 size25 rfl (vs := [Value.int .i64 o, Value.int .i64 n] ++ (H1.map (Value.int .u8) ++ (H2.map (Value.int .u8) ++ ([Value.slice A m c])))) (by simp [hH1, hH2]) (Row.all (i := 0) (ent := ⟨g1, 25, [Value.int .i64 o, Value.int .i64 n] ++ (H1.map (Value.int .u8) ++ (H2.map (Value.int .u8) ++ ([Value.slice A m c]))), 67⟩) rfl rfl rfl)) ?_
  refine TL.call0 (Wants.none rfl) rfl enters8 rfl rfl (v := .bool true) (fun w hs => (few_c o n H1 H2 hH1 hH2 A m c Cs (by omega) hN w (hC.at_ hs (fun b hb => (ne_cons (by show g1 ≠ b; omega) ne_nil)))).mono fun e w' h => by rw [decide_eq_true (p := fewP Cs) hf] at h; exact h) ?_
  refine TL.gets (Wants.none rfl) rfl (Gets.not rfl rfl) ?_
  refine TL.gets (Wants.none rfl) rfl (Gets.move rfl rfl) ?_
  refine TL.gets (Wants.yes rfl rfl rfl) rfl (Gets.loadN rfl agg25 size25 rfl (vs := [Value.int .i64 o, Value.int .i64 n] ++ (H1.map (Value.int .u8) ++ (H2.map (Value.int .u8) ++ ([Value.slice A m c])))) (by simp [hH1, hH2]) (Row.all (i := 0) (ent := ⟨g1, 25, [Value.int .i64 o, Value.int .i64 n] ++ (H1.map (Value.int .u8) ++ (H2.map (Value.int .u8) ++ ([Value.slice A m c]))), 67⟩) rfl rfl rfl)) ?_
  refine TL.call0 (Wants.yes rfl rfl rfl) rfl enters13 rfl rfl (v := .bool false) (fun w hs => (rdvalid_c o n H1 H2 hH1 hH2 A m c Cs hmm hN w (hC.at_ hs (fun b hb => (ne_cons (by show g1 ≠ b; omega) ne_nil)))).mono fun e w' h => by rw [decide_eq_false (p := (faultI o n Cs).1 = 0) hv] at h; exact h) ?_
  refine TL.gets (Wants.yes rfl rfl rfl) rfl (Gets.not rfl rfl) ?_
  refine TL.gets (Wants.none rfl) rfl (Gets.pickF rfl rfl rfl) ?_
  refine TL.nil ?_
  refine TE.then ?_
  refine TC.sub (Sub.cons (i := 1) rfl (Sub.cons (i := 2) rfl (Sub.cons (i := 14) rfl (Sub.nil)))) ?_
  refine TC.yes rfl ?_
  refine TC.seq ?_
  refine TC.regionL ?_
  refine TL.call0 (Wants.none rfl) rfl enters9 rfl rfl (v := .bool true) (fun w hs => alive_c w) ?_
  refine TL.gets (Wants.none rfl) rfl (Gets.assign rfl rfl) ?_
  refine TL.nil ?_
  refine TE.then ?_
  refine TC.ret ?_
  refine TE.thenR ?_
  exact TE.ret1 rfl rfl (fun w hs => ⟨rfl, (hs.drop (by assumption))⟩)

set_option maxRecDepth 100000 in
set_option maxHeartbeats 2000000 in
theorem dtotals_yes (o n : Int) (H1 H2 : List Int) (hH1 : H1.length = 32) (hH2 : H2.length = 32) (A : Option Addr) (m c : Nat) (Cs : List CV) (hml : m ≤ 9223372036854775807 ∧ ((-9223372036854775808 ≤ o ∧ o ≤ 9223372036854775807) ∧ (-9223372036854775808 ≤ n ∧ n ≤ 9223372036854775807))) (hN : NumsC Cs) (w : World) (hC : SrcC w A m Cs) (hD : DatC w Cs) (hf : fewP Cs) (hv : (faultI o n Cs).1 = 0) : Calls Try.prog 4 #[.agg ([Value.int .i64 o, Value.int .i64 n] ++ (H1.map (Value.int .u8) ++ (H2.map (Value.int .u8) ++ ([Value.slice A m c])))).toArray] w fun e w' => e = .returned (.bool true) ∧ St w [] w' := by
  have hmm : m ≤ 1000000000 := by have := hf.2; have := hC.1; omega
  have hVC := validC hv
  have htb := hVC.tot Cs.length
  rw [totI_all rfl, totI_all rfl, totI_all rfl] at htb
  have hadd := hVC.adds
  refine calls_from (args := [.agg ([Value.int .i64 o, Value.int .i64 n] ++ (H1.map (Value.int .u8) ++ (H2.map (Value.int .u8) ++ ([Value.slice A m c])))).toArray]) Try.func4 rfl Try.ntmps4 (by simp) ?_
  refine TC.sub (Sub.cons (i := 0) rfl (Sub.nil)) ?_
  refine TC.seq ?_
  refine TC.regionL ?_
  refine TL.box (Wants.none rfl) rfl rfl rfl (cs := [Value.int .i64 o, Value.int .i64 n] ++ (H1.map (Value.int .u8) ++ (H2.map (Value.int .u8) ++ ([Value.slice A m c])))) (by simp [Value.cells]) (tot := 67) (by simp [hH1, hH2]) (fun g1 hg1 => ?_)
  refine TL.gets (Wants.none rfl) rfl (Gets.assign rfl rfl) ?_
  refine TL.nil ?_
  refine TE.then ?_
  refine TC.seq ?_
  refine TC.seq ?_
  refine TC.regionL ?_
  refine TL.gets (Wants.none rfl) rfl (Gets.loadN rfl agg25 size25 rfl (vs := [Value.int .i64 o, Value.int .i64 n] ++ (H1.map (Value.int .u8) ++ (H2.map (Value.int .u8) ++ ([Value.slice A m c])))) (by simp [hH1, hH2]) (Row.all (i := 0) (ent := ⟨g1, 25, [Value.int .i64 o, Value.int .i64 n] ++ (H1.map (Value.int .u8) ++ (H2.map (Value.int .u8) ++ ([Value.slice A m c]))), 67⟩) rfl rfl rfl)) ?_
  refine TL.call0 (Wants.none rfl) rfl enters8 rfl rfl (v := .bool true) (fun w hs => (few_c o n H1 H2 hH1 hH2 A m c Cs (by omega) hN w (hC.at_ hs (fun b hb => (ne_cons (by show g1 ≠ b; omega) ne_nil)))).mono fun e w' h => by rw [decide_eq_true (p := fewP Cs) hf] at h; exact h) ?_
  refine TL.gets (Wants.none rfl) rfl (Gets.not rfl rfl) ?_
  refine TL.gets (Wants.none rfl) rfl (Gets.move rfl rfl) ?_
  refine TL.gets (Wants.yes rfl rfl rfl) rfl (Gets.loadN rfl agg25 size25 rfl (vs := [Value.int .i64 o, Value.int .i64 n] ++ (H1.map (Value.int .u8) ++ (H2.map (Value.int .u8) ++ ([Value.slice A m c])))) (by simp [hH1, hH2]) (Row.all (i := 0) (ent := ⟨g1, 25, [Value.int .i64 o, Value.int .i64 n] ++ (H1.map (Value.int .u8) ++ (H2.map (Value.int .u8) ++ ([Value.slice A m c]))), 67⟩) rfl rfl rfl)) ?_
  refine TL.call0 (Wants.yes rfl rfl rfl) rfl enters13 rfl rfl (v := .bool true) (fun w hs => (rdvalid_c o n H1 H2 hH1 hH2 A m c Cs hmm hN w (hC.at_ hs (fun b hb => (ne_cons (by show g1 ≠ b; omega) ne_nil)))).mono fun e w' h => by rw [decide_eq_true (p := (faultI o n Cs).1 = 0) hv] at h; exact h) ?_
  refine TL.gets (Wants.yes rfl rfl rfl) rfl (Gets.not rfl rfl) ?_
  refine TL.gets (Wants.none rfl) rfl (Gets.pickF rfl rfl rfl) ?_
  refine TL.nil ?_
  refine TE.then ?_
  refine TC.sub (Sub.cons (i := 1) rfl (Sub.cons (i := 2) rfl (Sub.cons (i := 14) rfl (Sub.nil)))) ?_
  refine TC.no rfl ?_
  refine TC.skip ?_
  refine TE.then ?_
  refine TC.seq ?_
  refine TC.regionL ?_
  refine TL.gets (Wants.none rfl) rfl (Gets.loadN rfl agg25 size25 rfl (vs := [Value.int .i64 o, Value.int .i64 n] ++ (H1.map (Value.int .u8) ++ (H2.map (Value.int .u8) ++ ([Value.slice A m c])))) (by simp [hH1, hH2]) (Row.all (i := 0) (ent := ⟨g1, 25, [Value.int .i64 o, Value.int .i64 n] ++ (H1.map (Value.int .u8) ++ (H2.map (Value.int .u8) ++ ([Value.slice A m c]))), 67⟩) rfl rfl rfl)) ?_
  refine TL.call0 (Wants.none rfl) rfl enters14 rfl rfl (v := .tuple #[.int .i64 ((Cs.map cpV).sum), .int .i64 ((Cs.map ltV).sum)]) (fun w hs => dtotals_c o n H1 H2 hH1 hH2 A m c Cs hmm hN w (hC.at_ hs (fun b hb => (ne_cons (by show g1 ≠ b; omega) ne_nil))) (hD.at_ hs (fun b hb => (ne_cons (by show g1 ≠ b; omega) ne_nil))) hf.q hVC) ?_
  refine TL.gets (Wants.none rfl) rfl (Gets.move rfl rfl) ?_
  refine TL.gets (Wants.none rfl) rfl (Gets.extract rfl rfl rfl) ?_
  refine TL.gets (Wants.none rfl) rfl (Gets.extract rfl rfl rfl) ?_
  refine TL.gets (Wants.none rfl) rfl (Gets.assign rfl rfl) ?_
  refine TL.gets (Wants.none rfl) rfl (Gets.assign rfl rfl) ?_
  refine TL.nil ?_
  refine TE.then ?_
  refine TC.sub (Sub.cons (i := 1) rfl (Sub.cons (i := 2) rfl (Sub.cons (i := 3) rfl (Sub.cons (i := 4) rfl (Sub.nil))))) ?_
  refine TC.seq ?_
  refine TC.regionL ?_
  refine TL.gets (Wants.none rfl) rfl (Gets.loadN rfl agg25 size25 rfl (vs := [Value.int .i64 o, Value.int .i64 n] ++ (H1.map (Value.int .u8) ++ (H2.map (Value.int .u8) ++ ([Value.slice A m c])))) (by simp [hH1, hH2]) (Row.all (i := 0) (ent := ⟨g1, 25, [Value.int .i64 o, Value.int .i64 n] ++ (H1.map (Value.int .u8) ++ (H2.map (Value.int .u8) ++ ([Value.slice A m c]))), 67⟩) rfl rfl rfl)) ?_
  refine TL.call0 (Wants.none rfl) rfl enters15 rfl rfl (v := .tuple #[.int .i64 ((Cs.map cpV).sum), .int .i64 ((Cs.map ltV).sum)]) (fun w hs => rtotals_c o n H1 H2 hH1 hH2 A m c Cs hVC hmm hN w (hC.at_ hs (fun b hb => (ne_cons (by show g1 ≠ b; omega) ne_nil)))) ?_
  refine TL.gets (Wants.none rfl) rfl (Gets.move rfl rfl) ?_
  refine TL.gets (Wants.none rfl) rfl (Gets.extract rfl rfl rfl) ?_
  refine TL.gets (Wants.none rfl) rfl (Gets.extract rfl rfl rfl) ?_
  refine TL.gets (Wants.none rfl) rfl (Gets.assign rfl rfl) ?_
  refine TL.gets (Wants.none rfl) rfl (Gets.assign rfl rfl) ?_
  refine TL.nil ?_
  refine TE.then ?_
  refine TC.sub (Sub.cons (i := 1) rfl (Sub.cons (i := 2) rfl (Sub.cons (i := 3) rfl (Sub.cons (i := 4) rfl (Sub.cons (i := 5) rfl (Sub.cons (i := 6) rfl (Sub.nil))))))) ?_
  refine TC.seq ?_
  refine TC.regionL ?_
  refine TL.call0 (Wants.none rfl) rfl enters9 rfl rfl (v := .bool true) (fun w hs => alive_c w) ?_
  refine TL.gets (Wants.none rfl) rfl (Gets.move rfl rfl) ?_
  refine TL.gets (Wants.yes rfl rfl rfl) rfl (Gets.move rfl rfl) ?_
  refine TL.gets (Wants.yes rfl rfl rfl) rfl (Gets.move rfl rfl) ?_
  refine TL.gets (Wants.yes rfl rfl rfl) rfl (Gets.isTrue (Gets.eql rfl rfl rfl) rfl) ?_
  refine TL.gets (Wants.none rfl) rfl (Gets.pickT rfl rfl rfl) ?_
  refine TL.gets (Wants.none rfl) rfl (Gets.move rfl rfl) ?_
  refine TL.gets (Wants.yes rfl rfl rfl) rfl (Gets.move rfl rfl) ?_
  refine TL.gets (Wants.yes rfl rfl rfl) rfl (Gets.move rfl rfl) ?_
  refine TL.gets (Wants.yes rfl rfl rfl) rfl (Gets.isTrue (Gets.eql rfl rfl rfl) rfl) ?_
  refine TL.gets (Wants.none rfl) rfl (Gets.pickT rfl rfl rfl) ?_
  refine TL.gets (Wants.none rfl) rfl (Gets.move rfl rfl) ?_
  refine TL.gets (Wants.yes rfl rfl rfl) rfl (Gets.move rfl rfl) ?_
  refine TL.gets (Wants.yes rfl rfl rfl) rfl (Gets.move rfl rfl) ?_
  refine TL.gets (Wants.yes rfl rfl rfl) rfl (Gets.add rfl rfl rfl (r := (((Cs.map cpV).sum) + ((Cs.map ltV).sum))) (w64 (by omega) (by omega))) ?_
  refine TL.gets (Wants.yes rfl rfl rfl) rfl (Gets.fieldAddr rfl Try.underlying25 rfl size3 rfl (off' := 1) (by first | rfl | omega)) ?_
  refine TL.gets (Wants.yes rfl rfl rfl) rfl (Gets.load1 rfl agg3 rfl (At.ent (i := 0) (ent := ⟨g1, 25, [Value.int .i64 o, Value.int .i64 n] ++ (H1.map (Value.int .u8) ++ (H2.map (Value.int .u8) ++ ([Value.slice A m c]))), 67⟩) (off := 1) rfl rfl (by exact app_left (i := 1) (B := H1.map (Value.int .u8) ++ (H2.map (Value.int .u8) ++ ([Value.slice A m c]))) (rfl)))) ?_
  refine TL.gets (Wants.yes rfl rfl rfl) rfl (Gets.isTrue (Gets.eql rfl rfl rfl) hVC.adds) ?_
  refine TL.gets (Wants.none rfl) rfl (Gets.pickT rfl rfl rfl) ?_
  refine TL.gets (Wants.none rfl) rfl (Gets.assign rfl rfl) ?_
  refine TL.nil ?_
  refine TE.then ?_
  refine TC.ret ?_
  exact TE.ret1 rfl rfl (fun w hs => ⟨rfl, (hs.drop (by assumption))⟩)


theorem deltaTotals_walk (o n : Int) (H1 H2 : List Int) (hH1 : H1.length = 32) (hH2 : H2.length = 32) (A : Option Addr) (m c : Nat) (Cs : List CV) (w : World) (bo : -9223372036854775808 ≤ o ∧ o ≤ 9223372036854775807) (bn : -9223372036854775808 ≤ n ∧ n ≤ 9223372036854775807) (hmc : m ≤ c) (hcm : c ≤ 9223372036854775807) (hN : NumsC Cs) (hC : SrcC w A m Cs) (hD : DatC w Cs) (hA : A = none → m = 0) (hB1 : Bytes H1) (hB2 : Bytes H2) : Calls Try.prog 4 #[.agg ([Value.int .i64 o, Value.int .i64 n] ++ (H1.map (Value.int .u8) ++ (H2.map (Value.int .u8) ++ ([Value.slice A m c])))).toArray] w fun e w' => e = .returned (.bool true) ∧ St w [] w' := by
  by_cases hf : fewP Cs
  · by_cases hv : (faultI o n Cs).1 = 0
    · exact dtotals_yes o n H1 H2 hH1 hH2 A m c Cs (by omega) hN w hC hD hf hv
    · exact dtotals_bad o n H1 H2 hH1 hH2 A m c Cs (by omega) hN w hC hD hf hv
  · exact dtotals_no o n H1 H2 hH1 hH2 A m c Cs (by omega) hN w hC hD hf
end Go.Proofs.Ytkgamkjdkapchaa
/-
  DeltaWith: the walk.
-/
namespace Go.Proofs.Ytkgamkjdkapchaa
set_option linter.unusedVariables false
set_option linter.unusedSimpArgs false
open Go Go.RowKit
theorem enters17 : Enters Try.prog 17 := ⟨_, Try.func17, by kernel_rfl, by kernel_rfl⟩
theorem enters18 : Enters Try.prog 18 := ⟨_, Try.func18, by kernel_rfl, by kernel_rfl⟩
theorem enters22 : Enters Try.prog 22 := ⟨_, Try.func22, by kernel_rfl, by kernel_rfl⟩
set_option maxRecDepth 100000 in
set_option maxHeartbeats 2000000 in
theorem dwith_no1 (o n : Int) (H1 H2 : List Int) (hH1 : H1.length = 32) (hH2 : H2.length = 32) (A : Option Addr) (m c : Nat) (Cs : List CV) (o2 n2 : Int) (G1 G2 : List Int) (hG1 : G1.length = 32) (hG2 : G2.length = 32) (A2 : Option Addr) (m2 c2 : Nat) (Es : List CV) (hml : m ≤ 9223372036854775807) (hml2 : m2 ≤ 9223372036854775807) (hN : NumsC Cs) (hN2 : NumsC Es) (w : World) (hC : SrcC w A m Cs) (hC2 : SrcC w A2 m2 Es) (hD : DatC w Cs) (hE : DatC w Es) (hf : ¬ fewP Cs) : Calls Try.prog 6 #[.agg ([Value.int .i64 o, Value.int .i64 n] ++ (H1.map (Value.int .u8) ++ (H2.map (Value.int .u8) ++ ([Value.slice A m c])))).toArray, .agg ([Value.int .i64 o2, Value.int .i64 n2] ++ (G1.map (Value.int .u8) ++ (G2.map (Value.int .u8) ++ ([Value.slice A2 m2 c2])))).toArray] w fun e w' => e = .returned (.bool true) ∧ St w [] w' := by
  refine calls_from (args := [.agg ([Value.int .i64 o, Value.int .i64 n] ++ (H1.map (Value.int .u8) ++ (H2.map (Value.int .u8) ++ ([Value.slice A m c])))).toArray, .agg ([Value.int .i64 o2, Value.int .i64 n2] ++ (G1.map (Value.int .u8) ++ (G2.map (Value.int .u8) ++ ([Value.slice A2 m2 c2])))).toArray]) Try.func6 rfl Try.ntmps6 (by simp) ?_
  refine TC.sub (Sub.cons (i := 0) rfl (Sub.cons (i := 1) rfl (Sub.nil))) ?_
  refine TC.seq ?_
  refine TC.regionL ?_
  refine TL.box (Wants.none rfl) rfl rfl rfl (cs := [Value.int .i64 o, Value.int .i64 n] ++ (H1.map (Value.int .u8) ++ (H2.map (Value.int .u8) ++ ([Value.slice A m c])))) (by simp [Value.cells]) (tot := 67) (by simp [hH1, hH2]) (fun g1 hg1 => ?_)
  refine TL.box (Wants.none rfl) rfl rfl rfl (cs := [Value.int .i64 o2, Value.int .i64 n2] ++ (G1.map (Value.int .u8) ++ (G2.map (Value.int .u8) ++ ([Value.slice A2 m2 c2])))) (by simp [Value.cells]) (tot := 67) (by simp [hG1, hG2]) (fun g2 hg2 => ?_)
  refine TL.gets (Wants.none rfl) rfl (Gets.assign rfl rfl) ?_
  refine TL.nil ?_
  refine TE.then ?_
  refine TC.seq ?_
  refine TC.seq ?_
  refine TC.regionL ?_
  refine TL.gets (Wants.none rfl) rfl (Gets.loadN rfl agg25 size25 rfl (vs := [Value.int .i64 o, Value.int .i64 n] ++ (H1.map (Value.int .u8) ++ (H2.map (Value.int .u8) ++ ([Value.slice A m c])))) (by simp [hH1, hH2]) (Row.all (i := 1) (ent := ⟨g1, 25, [Value.int .i64 o, Value.int .i64 n] ++ (H1.map (Value.int .u8) ++ (H2.map (Value.int .u8) ++ ([Value.slice A m c]))), 67⟩) rfl rfl rfl)) ?_
  refine TL.call0 (Wants.none rfl) rfl enters8 rfl rfl (v := .bool false) (fun w hs => (few_c o n H1 H2 hH1 hH2 A m c Cs (by omega) hN w (hC.at_ hs (fun b hb => (ne_cons (by show g2 ≠ b; omega) (ne_cons (by show g1 ≠ b; omega) ne_nil))))).mono fun e w' h => by rw [decide_eq_false (p := fewP Cs) hf] at h; exact h) ?_
  refine TL.gets (Wants.none rfl) rfl (Gets.not rfl rfl) ?_
  refine TL.gets (Wants.none rfl) rfl (Gets.move rfl rfl) ?_
  refine TL.pass rfl rfl rfl rfl rfl ?_
  refine TL.pass rfl rfl rfl rfl rfl ?_
  refine TL.pass rfl rfl rfl rfl rfl ?_
  refine TL.gets (Wants.none rfl) rfl (Gets.pickT rfl rfl rfl) ?_
  refine TL.nil ?_
  refine TE.then ?_
  refine TC.sub (Sub.cons (i := 2) rfl (Sub.cons (i := 3) rfl (Sub.cons (i := 4) rfl (Sub.cons (i := 13) rfl (Sub.nil))))) ?_
  refine TC.yes rfl ?_
  refine TC.seq ?_
  refine TC.regionL ?_
  refine TL.call0 (Wants.none rfl) rfl enters9 rfl rfl (v := .bool true) (fun w hs => alive_c w) ?_
  refine TL.gets (Wants.none rfl) rfl (Gets.assign rfl rfl) ?_
  refine TL.nil ?_
  refine TE.then ?_
  refine TC.ret ?_
  refine TE.thenR ?_
  exact TE.ret1 rfl rfl (fun w hs => ⟨rfl, ((hs.drop (by assumption)).drop (by assumption))⟩)

set_option maxRecDepth 100000 in
set_option maxHeartbeats 2000000 in
theorem dwith_no2 (o n : Int) (H1 H2 : List Int) (hH1 : H1.length = 32) (hH2 : H2.length = 32) (A : Option Addr) (m c : Nat) (Cs : List CV) (o2 n2 : Int) (G1 G2 : List Int) (hG1 : G1.length = 32) (hG2 : G2.length = 32) (A2 : Option Addr) (m2 c2 : Nat) (Es : List CV) (hml : m ≤ 9223372036854775807) (hml2 : m2 ≤ 9223372036854775807) (hN : NumsC Cs) (hN2 : NumsC Es) (w : World) (hC : SrcC w A m Cs) (hC2 : SrcC w A2 m2 Es) (hD : DatC w Cs) (hE : DatC w Es) (hf : fewP Cs) (hf2 : ¬ fewP Es) : Calls Try.prog 6 #[.agg ([Value.int .i64 o, Value.int .i64 n] ++ (H1.map (Value.int .u8) ++ (H2.map (Value.int .u8) ++ ([Value.slice A m c])))).toArray, .agg ([Value.int .i64 o2, Value.int .i64 n2] ++ (G1.map (Value.int .u8) ++ (G2.map (Value.int .u8) ++ ([Value.slice A2 m2 c2])))).toArray] w fun e w' => e = .returned (.bool true) ∧ St w [] w' := by
  refine calls_from (args := [.agg ([Value.int .i64 o, Value.int .i64 n] ++ (H1.map (Value.int .u8) ++ (H2.map (Value.int .u8) ++ ([Value.slice A m c])))).toArray, .agg ([Value.int .i64 o2, Value.int .i64 n2] ++ (G1.map (Value.int .u8) ++ (G2.map (Value.int .u8) ++ ([Value.slice A2 m2 c2])))).toArray]) Try.func6 rfl Try.ntmps6 (by simp) ?_
  refine TC.sub (Sub.cons (i := 0) rfl (Sub.cons (i := 1) rfl (Sub.nil))) ?_
  refine TC.seq ?_
  refine TC.regionL ?_
  refine TL.box (Wants.none rfl) rfl rfl rfl (cs := [Value.int .i64 o, Value.int .i64 n] ++ (H1.map (Value.int .u8) ++ (H2.map (Value.int .u8) ++ ([Value.slice A m c])))) (by simp [Value.cells]) (tot := 67) (by simp [hH1, hH2]) (fun g1 hg1 => ?_)
  refine TL.box (Wants.none rfl) rfl rfl rfl (cs := [Value.int .i64 o2, Value.int .i64 n2] ++ (G1.map (Value.int .u8) ++ (G2.map (Value.int .u8) ++ ([Value.slice A2 m2 c2])))) (by simp [Value.cells]) (tot := 67) (by simp [hG1, hG2]) (fun g2 hg2 => ?_)
  refine TL.gets (Wants.none rfl) rfl (Gets.assign rfl rfl) ?_
  refine TL.nil ?_
  refine TE.then ?_
  refine TC.seq ?_
  refine TC.seq ?_
  refine TC.regionL ?_
  refine TL.gets (Wants.none rfl) rfl (Gets.loadN rfl agg25 size25 rfl (vs := [Value.int .i64 o, Value.int .i64 n] ++ (H1.map (Value.int .u8) ++ (H2.map (Value.int .u8) ++ ([Value.slice A m c])))) (by simp [hH1, hH2]) (Row.all (i := 1) (ent := ⟨g1, 25, [Value.int .i64 o, Value.int .i64 n] ++ (H1.map (Value.int .u8) ++ (H2.map (Value.int .u8) ++ ([Value.slice A m c]))), 67⟩) rfl rfl rfl)) ?_
  refine TL.call0 (Wants.none rfl) rfl enters8 rfl rfl (v := .bool true) (fun w hs => (few_c o n H1 H2 hH1 hH2 A m c Cs (by omega) hN w (hC.at_ hs (fun b hb => (ne_cons (by show g2 ≠ b; omega) (ne_cons (by show g1 ≠ b; omega) ne_nil))))).mono fun e w' h => by rw [decide_eq_true (p := fewP Cs) hf] at h; exact h) ?_
  refine TL.gets (Wants.none rfl) rfl (Gets.not rfl rfl) ?_
  refine TL.gets (Wants.none rfl) rfl (Gets.move rfl rfl) ?_
  refine TL.gets (Wants.yes rfl rfl rfl) rfl (Gets.loadN rfl agg25 size25 rfl (vs := [Value.int .i64 o2, Value.int .i64 n2] ++ (G1.map (Value.int .u8) ++ (G2.map (Value.int .u8) ++ ([Value.slice A2 m2 c2])))) (by simp [hG1, hG2]) (Row.all (i := 0) (ent := ⟨g2, 25, [Value.int .i64 o2, Value.int .i64 n2] ++ (G1.map (Value.int .u8) ++ (G2.map (Value.int .u8) ++ ([Value.slice A2 m2 c2]))), 67⟩) rfl rfl rfl)) ?_
  refine TL.call0 (Wants.yes rfl rfl rfl) rfl enters8 rfl rfl (v := .bool false) (fun w hs => (few_c o2 n2 G1 G2 hG1 hG2 A2 m2 c2 Es (by omega) hN2 w (hC2.at_ hs (fun b hb => (ne_cons (by show g2 ≠ b; omega) (ne_cons (by show g1 ≠ b; omega) ne_nil))))).mono fun e w' h => by rw [decide_eq_false (p := fewP Es) hf2] at h; exact h) ?_
  refine TL.gets (Wants.yes rfl rfl rfl) rfl (Gets.not rfl rfl) ?_
  refine TL.gets (Wants.none rfl) rfl (Gets.pickF rfl rfl rfl) ?_
  refine TL.nil ?_
  refine TE.then ?_
  refine TC.sub (Sub.cons (i := 2) rfl (Sub.cons (i := 3) rfl (Sub.cons (i := 4) rfl (Sub.cons (i := 13) rfl (Sub.nil))))) ?_
  refine TC.yes rfl ?_
  refine TC.seq ?_
  refine TC.regionL ?_
  refine TL.call0 (Wants.none rfl) rfl enters9 rfl rfl (v := .bool true) (fun w hs => alive_c w) ?_
  refine TL.gets (Wants.none rfl) rfl (Gets.assign rfl rfl) ?_
  refine TL.nil ?_
  refine TE.then ?_
  refine TC.ret ?_
  refine TE.thenR ?_
  exact TE.ret1 rfl rfl (fun w hs => ⟨rfl, ((hs.drop (by assumption)).drop (by assumption))⟩)

set_option maxRecDepth 100000 in
set_option maxHeartbeats 2000000 in
theorem dwith_yes (o n : Int) (H1 H2 : List Int) (hH1 : H1.length = 32) (hH2 : H2.length = 32) (A : Option Addr) (m c : Nat) (Cs : List CV) (o2 n2 : Int) (G1 G2 : List Int) (hG1 : G1.length = 32) (hG2 : G2.length = 32) (A2 : Option Addr) (m2 c2 : Nat) (Es : List CV) (hml : m ≤ 9223372036854775807) (hml2 : m2 ≤ 9223372036854775807) (hN : NumsC Cs) (hN2 : NumsC Es) (w : World) (hC : SrcC w A m Cs) (hC2 : SrcC w A2 m2 Es) (hD : DatC w Cs) (hE : DatC w Es) (hf : fewP Cs) (hf2 : fewP Es) : Calls Try.prog 6 #[.agg ([Value.int .i64 o, Value.int .i64 n] ++ (H1.map (Value.int .u8) ++ (H2.map (Value.int .u8) ++ ([Value.slice A m c])))).toArray, .agg ([Value.int .i64 o2, Value.int .i64 n2] ++ (G1.map (Value.int .u8) ++ (G2.map (Value.int .u8) ++ ([Value.slice A2 m2 c2])))).toArray] w fun e w' => e = .returned (.bool true) ∧ St w [] w' := by
  have hmm : m ≤ 1000000000 := by have := hf.2; have := hC.1; omega
  have hmm2 : m2 ≤ 1000000000 := by have := hf2.2; have := hC2.1; omega
  refine calls_from (args := [.agg ([Value.int .i64 o, Value.int .i64 n] ++ (H1.map (Value.int .u8) ++ (H2.map (Value.int .u8) ++ ([Value.slice A m c])))).toArray, .agg ([Value.int .i64 o2, Value.int .i64 n2] ++ (G1.map (Value.int .u8) ++ (G2.map (Value.int .u8) ++ ([Value.slice A2 m2 c2])))).toArray]) Try.func6 rfl Try.ntmps6 (by simp) ?_
  refine TC.sub (Sub.cons (i := 0) rfl (Sub.cons (i := 1) rfl (Sub.nil))) ?_
  refine TC.seq ?_
  refine TC.regionL ?_
  refine TL.box (Wants.none rfl) rfl rfl rfl (cs := [Value.int .i64 o, Value.int .i64 n] ++ (H1.map (Value.int .u8) ++ (H2.map (Value.int .u8) ++ ([Value.slice A m c])))) (by simp [Value.cells]) (tot := 67) (by simp [hH1, hH2]) (fun g1 hg1 => ?_)
  refine TL.box (Wants.none rfl) rfl rfl rfl (cs := [Value.int .i64 o2, Value.int .i64 n2] ++ (G1.map (Value.int .u8) ++ (G2.map (Value.int .u8) ++ ([Value.slice A2 m2 c2])))) (by simp [Value.cells]) (tot := 67) (by simp [hG1, hG2]) (fun g2 hg2 => ?_)
  refine TL.gets (Wants.none rfl) rfl (Gets.assign rfl rfl) ?_
  refine TL.nil ?_
  refine TE.then ?_
  refine TC.seq ?_
  refine TC.seq ?_
  refine TC.regionL ?_
  refine TL.gets (Wants.none rfl) rfl (Gets.loadN rfl agg25 size25 rfl (vs := [Value.int .i64 o, Value.int .i64 n] ++ (H1.map (Value.int .u8) ++ (H2.map (Value.int .u8) ++ ([Value.slice A m c])))) (by simp [hH1, hH2]) (Row.all (i := 1) (ent := ⟨g1, 25, [Value.int .i64 o, Value.int .i64 n] ++ (H1.map (Value.int .u8) ++ (H2.map (Value.int .u8) ++ ([Value.slice A m c]))), 67⟩) rfl rfl rfl)) ?_
  refine TL.call0 (Wants.none rfl) rfl enters8 rfl rfl (v := .bool true) (fun w hs => (few_c o n H1 H2 hH1 hH2 A m c Cs (by omega) hN w (hC.at_ hs (fun b hb => (ne_cons (by show g2 ≠ b; omega) (ne_cons (by show g1 ≠ b; omega) ne_nil))))).mono fun e w' h => by rw [decide_eq_true (p := fewP Cs) hf] at h; exact h) ?_
  refine TL.gets (Wants.none rfl) rfl (Gets.not rfl rfl) ?_
  refine TL.gets (Wants.none rfl) rfl (Gets.move rfl rfl) ?_
  refine TL.gets (Wants.yes rfl rfl rfl) rfl (Gets.loadN rfl agg25 size25 rfl (vs := [Value.int .i64 o2, Value.int .i64 n2] ++ (G1.map (Value.int .u8) ++ (G2.map (Value.int .u8) ++ ([Value.slice A2 m2 c2])))) (by simp [hG1, hG2]) (Row.all (i := 0) (ent := ⟨g2, 25, [Value.int .i64 o2, Value.int .i64 n2] ++ (G1.map (Value.int .u8) ++ (G2.map (Value.int .u8) ++ ([Value.slice A2 m2 c2]))), 67⟩) rfl rfl rfl)) ?_
  refine TL.call0 (Wants.yes rfl rfl rfl) rfl enters8 rfl rfl (v := .bool true) (fun w hs => (few_c o2 n2 G1 G2 hG1 hG2 A2 m2 c2 Es (by omega) hN2 w (hC2.at_ hs (fun b hb => (ne_cons (by show g2 ≠ b; omega) (ne_cons (by show g1 ≠ b; omega) ne_nil))))).mono fun e w' h => by rw [decide_eq_true (p := fewP Es) hf2] at h; exact h) ?_
  refine TL.gets (Wants.yes rfl rfl rfl) rfl (Gets.not rfl rfl) ?_
  refine TL.gets (Wants.none rfl) rfl (Gets.pickF rfl rfl rfl) ?_
  refine TL.nil ?_
  refine TE.then ?_
  refine TC.sub (Sub.cons (i := 2) rfl (Sub.cons (i := 3) rfl (Sub.cons (i := 4) rfl (Sub.cons (i := 13) rfl (Sub.nil))))) ?_
  refine TC.no rfl ?_
  refine TC.skip ?_
  refine TE.then ?_
  refine TC.seq ?_
  refine TC.regionL ?_
  refine TL.gets (Wants.none rfl) rfl (Gets.loadN rfl agg25 size25 rfl (vs := [Value.int .i64 o, Value.int .i64 n] ++ (H1.map (Value.int .u8) ++ (H2.map (Value.int .u8) ++ ([Value.slice A m c])))) (by simp [hH1, hH2]) (Row.all (i := 1) (ent := ⟨g1, 25, [Value.int .i64 o, Value.int .i64 n] ++ (H1.map (Value.int .u8) ++ (H2.map (Value.int .u8) ++ ([Value.slice A m c]))), 67⟩) rfl rfl rfl)) ?_
  refine TL.gets (Wants.none rfl) rfl (Gets.fieldAddr rfl Try.underlying25 rfl size23 rfl (off' := 66) (by first | rfl | omega)) ?_
  refine TL.gets (Wants.none rfl) rfl (Gets.load1 rfl agg23 rfl (At.ent (i := 0) (ent := ⟨g2, 25, [Value.int .i64 o2, Value.int .i64 n2] ++ (G1.map (Value.int .u8) ++ (G2.map (Value.int .u8) ++ ([Value.slice A2 m2 c2]))), 67⟩) (off := 66) rfl rfl (by exact app_right (a := 2) (i := 64) (rfl) (app_right (a := 32) (i := 32) (ints_len hG1) (app_right (a := 32) (i := 0) (ints_len hG2) (rfl)))))) ?_
  refine TL.call (ι := (Option Addr × Nat) × (List CV × List Ent)) (V := fun y => .agg ([Value.int .i64 o, Value.int .i64 n] ++ (H1.map (Value.int .u8) ++ (H2.map (Value.int .u8) ++ ([Value.slice y.1.1 m2 y.1.2])))).toArray) (R := fun y => (m2 ≤ y.1.2 ∧ y.1.2 ≤ 9223372036854775807) ∧ OwnD w.heap.size y.1.1 m2 y.2.1 y.2.2 ∧ sameE y.2.1 Es) (H' := fun y => [⟨g2, 25, [Value.int .i64 o2, Value.int .i64 n2] ++ (G1.map (Value.int .u8) ++ (G2.map (Value.int .u8) ++ ([Value.slice A2 m2 c2]))), 67⟩, ⟨g1, 25, [Value.int .i64 o, Value.int .i64 n] ++ (H1.map (Value.int .u8) ++ (H2.map (Value.int .u8) ++ ([Value.slice A m c]))), 67⟩] ++ y.2.2) (Wants.none rfl) rfl enters21 rfl rfl (fun w hs => (dwith_c o n H1 H2 hH1 hH2 A m c A2 m2 c2 Es hmm2 hN2 w (hC2.at_ hs (fun b hb => (ne_cons (by show g2 ≠ b; omega) (ne_cons (by show g1 ≠ b; omega) ne_nil)))) (hE.at_ hs (fun b hb => (ne_cons (by show g2 ≠ b; omega) (ne_cons (by show g1 ≠ b; omega) ne_nil)))) hf2.q).mono fun e w' ⟨A', c', Fs, He, he, hc, ho, hsm, hw⟩ => ⟨((A', c'), (Fs, He)), he, ⟨hc, ho.mono hs.size, hsm⟩, st_call hs hw ho.1⟩) (fun y hR => ?_)
  obtain ⟨⟨Ax, cx⟩, Fx, Ex⟩ := y
  obtain ⟨hcx, hox, hsmx⟩ := hR
  dsimp only at hcx hox hsmx ⊢
  have hFx : Fresh w Ex := hox.1
  refine TL.alloc (Wants.none rfl) rfl rfl zero25 (cs := [Value.int .i64 0, Value.int .i64 0] ++ ((List.replicate 64 0).map (Value.int .u8) ++ ([Value.slice none 0 0]))) rfl (tot := 67) (by simp) (fun g3 hg3 => ?_)
  refine TL.storeW (Wants.none rfl) rfl rfl size25 rfl (vs := [Value.int .i64 o, Value.int .i64 n] ++ (H1.map (Value.int .u8) ++ (H2.map (Value.int .u8) ++ ([Value.slice Ax m2 cx])))) rfl (by simp [hH1, hH2]) (ones_app (by simp [Value.oneCell']) (ones_app ints_one (ones_app ints_one (by simp [Value.oneCell'])))) (i := 0) (ent := ⟨g3, 25, [Value.int .i64 0, Value.int .i64 0] ++ ((List.replicate 64 0).map (Value.int .u8) ++ ([Value.slice none 0 0])), 67⟩) rfl rfl (by simp []) (H' := [⟨g3, 25, [Value.int .i64 o, Value.int .i64 n] ++ (H1.map (Value.int .u8) ++ (H2.map (Value.int .u8) ++ ([Value.slice Ax m2 cx]))), 67⟩, ⟨g2, 25, [Value.int .i64 o2, Value.int .i64 n2] ++ (G1.map (Value.int .u8) ++ (G2.map (Value.int .u8) ++ ([Value.slice A2 m2 c2]))), 67⟩, ⟨g1, 25, [Value.int .i64 o, Value.int .i64 n] ++ (H1.map (Value.int .u8) ++ (H2.map (Value.int .u8) ++ ([Value.slice A m c]))), 67⟩] ++ Ex) rfl ?_
  refine TL.nil ?_
  refine TE.then ?_
  refine TC.sub (Sub.cons (i := 2) rfl (Sub.cons (i := 3) rfl (Sub.cons (i := 4) rfl (Sub.cons (i := 5) rfl (Sub.nil))))) ?_
  refine TC.seq ?_
  refine TC.mix (by kernel_rfl) [1, 0, 1, 1, 0, 1, 1, 1, 0, 0, 1, 1, 1, 1, 1, 1, 0, 0, 0, 1, 1, 1, 0, 0, 1, 1, 1, 0, 1, 0, 1, 1, 0, 0, 0] rfl (by kernel_rfl) ?_
  refine TM.call0 (Wants.none rfl) rfl enters9 rfl rfl (v := .bool true) (fun w hs => alive_c w) ?_
  refine TM.free (Wants.none rfl) rfl (fun _ => Gets.move rfl rfl) ?_
  refine TM.gets (Wants.yes rfl rfl rfl) rfl (Gets.loadN rfl agg25 size25 rfl (vs := [Value.int .i64 o, Value.int .i64 n] ++ (H1.map (Value.int .u8) ++ (H2.map (Value.int .u8) ++ ([Value.slice Ax m2 cx])))) (by simp [hH1, hH2]) (Row.all (i := 0) (ent := ⟨g3, 25, [Value.int .i64 o, Value.int .i64 n] ++ (H1.map (Value.int .u8) ++ (H2.map (Value.int .u8) ++ ([Value.slice Ax m2 cx]))), 67⟩) rfl rfl rfl)) ?_
  refine TM.gets (Wants.yes rfl rfl rfl) rfl (Gets.loadN rfl agg25 size25 rfl (vs := [Value.int .i64 o, Value.int .i64 n] ++ (H1.map (Value.int .u8) ++ (H2.map (Value.int .u8) ++ ([Value.slice A m c])))) (by simp [hH1, hH2]) (Row.all (i := 2) (ent := ⟨g1, 25, [Value.int .i64 o, Value.int .i64 n] ++ (H1.map (Value.int .u8) ++ (H2.map (Value.int .u8) ++ ([Value.slice A m c]))), 67⟩) rfl rfl rfl)) ?_
  refine TM.free (Wants.yes rfl rfl rfl) rfl (fun _ => Gets.fieldAddr rfl Try.underlying25 rfl size23 rfl (off' := 66) (by first | rfl | omega)) ?_
  refine TM.gets (Wants.yes rfl rfl rfl) rfl (Gets.load1 rfl agg23 rfl (At.ent (i := 1) (ent := ⟨g2, 25, [Value.int .i64 o2, Value.int .i64 n2] ++ (G1.map (Value.int .u8) ++ (G2.map (Value.int .u8) ++ ([Value.slice A2 m2 c2]))), 67⟩) (off := 66) rfl rfl (by exact app_right (a := 2) (i := 64) (rfl) (app_right (a := 32) (i := 32) (ints_len hG1) (app_right (a := 32) (i := 0) (ints_len hG2) (rfl)))))) ?_
  refine TM.call0 (Wants.yes rfl rfl rfl) rfl enters18 rfl rfl (v := .agg ([Value.int .i64 o, Value.int .i64 n] ++ (H1.map (Value.int .u8) ++ (H2.map (Value.int .u8) ++ ([Value.slice A2 m2 c2])))).toArray) (fun w hs => rwith_c o n H1 H2 hH1 hH2 A A2 m c m2 c2 w) ?_
  refine TM.call0 (Wants.yes rfl rfl rfl) rfl enters17 rfl rfl (v := .bool true) (fun w hs => (rdsame_c o n H1 H2 hH1 hH2 Ax m2 cx Fx o n H1 H2 hH1 hH2 A2 m2 c2 Es hmm2 hmm2 hox.num w (hox.src (fun e he => hs.has e (by simp [he]))) (hC2.at_ hs (fun b hb => (ne_app (ne_cons (by show g3 ≠ b; omega) (ne_cons (by show g2 ≠ b; omega) (ne_cons (by show g1 ≠ b; omega) ne_nil))) (hFx.ne hb)))) (hox.dat (fun e he => hs.has e (by simp [he]))) (hE.at_ hs (fun b hb => (ne_app (ne_cons (by show g3 ≠ b; omega) (ne_cons (by show g2 ≠ b; omega) (ne_cons (by show g1 ≠ b; omega) ne_nil))) (hFx.ne hb))))).mono fun e w' h => by rw [decide_eq_true (p := sameD o n H1 H2 Fx o n H1 H2 Es) ⟨rfl, rfl, rfl, rfl, hsmx.c⟩] at h; exact h) ?_
  refine TM.free (Wants.none rfl) rfl (fun _ => Gets.pickT rfl rfl rfl) ?_
  refine TM.free (Wants.none rfl) rfl (fun _ => Gets.move rfl rfl) ?_
  refine TM.gets (Wants.yes rfl rfl rfl) rfl (Gets.loadN rfl agg25 size25 rfl (vs := [Value.int .i64 o, Value.int .i64 n] ++ (H1.map (Value.int .u8) ++ (H2.map (Value.int .u8) ++ ([Value.slice A m c])))) (by simp [hH1, hH2]) (Row.all (i := 2) (ent := ⟨g1, 25, [Value.int .i64 o, Value.int .i64 n] ++ (H1.map (Value.int .u8) ++ (H2.map (Value.int .u8) ++ ([Value.slice A m c]))), 67⟩) rfl rfl rfl)) ?_
  refine TM.gets (Wants.yes rfl rfl rfl) rfl (Gets.loadN rfl agg25 size25 rfl (vs := [Value.int .i64 o2, Value.int .i64 n2] ++ (G1.map (Value.int .u8) ++ (G2.map (Value.int .u8) ++ ([Value.slice A2 m2 c2])))) (by simp [hG1, hG2]) (Row.all (i := 1) (ent := ⟨g2, 25, [Value.int .i64 o2, Value.int .i64 n2] ++ (G1.map (Value.int .u8) ++ (G2.map (Value.int .u8) ++ ([Value.slice A2 m2 c2]))), 67⟩) rfl rfl rfl)) ?_
  refine TM.call0 (Wants.yes rfl rfl rfl) rfl enters22 rfl rfl (v := .bool (decide (sameD o n H1 H2 Cs o2 n2 G1 G2 Es))) (fun w hs => dsame_c o n H1 H2 hH1 hH2 A m c Cs o2 n2 G1 G2 hG1 hG2 A2 m2 c2 Es hmm hmm2 hN w (hC.at_ hs (fun b hb => (ne_app (ne_cons (by show g3 ≠ b; omega) (ne_cons (by show g2 ≠ b; omega) (ne_cons (by show g1 ≠ b; omega) ne_nil))) (hFx.ne hb)))) (hC2.at_ hs (fun b hb => (ne_app (ne_cons (by show g3 ≠ b; omega) (ne_cons (by show g2 ≠ b; omega) (ne_cons (by show g1 ≠ b; omega) ne_nil))) (hFx.ne hb)))) (hD.at_ hs (fun b hb => (ne_app (ne_cons (by show g3 ≠ b; omega) (ne_cons (by show g2 ≠ b; omega) (ne_cons (by show g1 ≠ b; omega) ne_nil))) (hFx.ne hb)))) (hE.at_ hs (fun b hb => (ne_app (ne_cons (by show g3 ≠ b; omega) (ne_cons (by show g2 ≠ b; omega) (ne_cons (by show g1 ≠ b; omega) ne_nil))) (hFx.ne hb)))) hf.q hf2.q) ?_
  refine TM.gets (Wants.yes rfl rfl rfl) rfl (Gets.loadN rfl agg25 size25 rfl (vs := [Value.int .i64 o, Value.int .i64 n] ++ (H1.map (Value.int .u8) ++ (H2.map (Value.int .u8) ++ ([Value.slice A m c])))) (by simp [hH1, hH2]) (Row.all (i := 2) (ent := ⟨g1, 25, [Value.int .i64 o, Value.int .i64 n] ++ (H1.map (Value.int .u8) ++ (H2.map (Value.int .u8) ++ ([Value.slice A m c]))), 67⟩) rfl rfl rfl)) ?_
  refine TM.gets (Wants.yes rfl rfl rfl) rfl (Gets.loadN rfl agg25 size25 rfl (vs := [Value.int .i64 o2, Value.int .i64 n2] ++ (G1.map (Value.int .u8) ++ (G2.map (Value.int .u8) ++ ([Value.slice A2 m2 c2])))) (by simp [hG1, hG2]) (Row.all (i := 1) (ent := ⟨g2, 25, [Value.int .i64 o2, Value.int .i64 n2] ++ (G1.map (Value.int .u8) ++ (G2.map (Value.int .u8) ++ ([Value.slice A2 m2 c2]))), 67⟩) rfl rfl rfl)) ?_
  refine TM.call0 (Wants.yes rfl rfl rfl) rfl enters17 rfl rfl (v := .bool (decide (sameD o n H1 H2 Cs o2 n2 G1 G2 Es))) (fun w hs => rdsame_c o n H1 H2 hH1 hH2 A m c Cs o2 n2 G1 G2 hG1 hG2 A2 m2 c2 Es hmm hmm2 hN w (hC.at_ hs (fun b hb => (ne_app (ne_cons (by show g3 ≠ b; omega) (ne_cons (by show g2 ≠ b; omega) (ne_cons (by show g1 ≠ b; omega) ne_nil))) (hFx.ne hb)))) (hC2.at_ hs (fun b hb => (ne_app (ne_cons (by show g3 ≠ b; omega) (ne_cons (by show g2 ≠ b; omega) (ne_cons (by show g1 ≠ b; omega) ne_nil))) (hFx.ne hb)))) (hD.at_ hs (fun b hb => (ne_app (ne_cons (by show g3 ≠ b; omega) (ne_cons (by show g2 ≠ b; omega) (ne_cons (by show g1 ≠ b; omega) ne_nil))) (hFx.ne hb)))) (hE.at_ hs (fun b hb => (ne_app (ne_cons (by show g3 ≠ b; omega) (ne_cons (by show g2 ≠ b; omega) (ne_cons (by show g1 ≠ b; omega) ne_nil))) (hFx.ne hb))))) ?_
  refine TM.free (Wants.yes rfl rfl rfl) rfl (fun _ => Gets.isTrue (Gets.boolEqP rfl Try.underlying4 rfl rfl) Iff.rfl) ?_
  refine TM.free (Wants.none rfl) rfl (fun _ => Gets.pickT rfl rfl rfl) ?_
  refine TM.free (Wants.none rfl) rfl (fun _ => Gets.move rfl rfl) ?_
  refine TM.gets (Wants.yes rfl rfl rfl) rfl (Gets.loadN rfl agg25 size25 rfl (vs := [Value.int .i64 o, Value.int .i64 n] ++ (H1.map (Value.int .u8) ++ (H2.map (Value.int .u8) ++ ([Value.slice A m c])))) (by simp [hH1, hH2]) (Row.all (i := 2) (ent := ⟨g1, 25, [Value.int .i64 o, Value.int .i64 n] ++ (H1.map (Value.int .u8) ++ (H2.map (Value.int .u8) ++ ([Value.slice A m c]))), 67⟩) rfl rfl rfl)) ?_
  refine TM.gets (Wants.yes rfl rfl rfl) rfl (Gets.loadN rfl agg25 size25 rfl (vs := [Value.int .i64 o, Value.int .i64 n] ++ (H1.map (Value.int .u8) ++ (H2.map (Value.int .u8) ++ ([Value.slice A m c])))) (by simp [hH1, hH2]) (Row.all (i := 2) (ent := ⟨g1, 25, [Value.int .i64 o, Value.int .i64 n] ++ (H1.map (Value.int .u8) ++ (H2.map (Value.int .u8) ++ ([Value.slice A m c]))), 67⟩) rfl rfl rfl)) ?_
  refine TM.call0 (Wants.yes rfl rfl rfl) rfl enters22 rfl rfl (v := .bool true) (fun w hs => (dsame_c o n H1 H2 hH1 hH2 A m c Cs o n H1 H2 hH1 hH2 A m c Cs hmm hmm hN w (hC.at_ hs (fun b hb => (ne_app (ne_cons (by show g3 ≠ b; omega) (ne_cons (by show g2 ≠ b; omega) (ne_cons (by show g1 ≠ b; omega) ne_nil))) (hFx.ne hb)))) (hC.at_ hs (fun b hb => (ne_app (ne_cons (by show g3 ≠ b; omega) (ne_cons (by show g2 ≠ b; omega) (ne_cons (by show g1 ≠ b; omega) ne_nil))) (hFx.ne hb)))) (hD.at_ hs (fun b hb => (ne_app (ne_cons (by show g3 ≠ b; omega) (ne_cons (by show g2 ≠ b; omega) (ne_cons (by show g1 ≠ b; omega) ne_nil))) (hFx.ne hb)))) (hD.at_ hs (fun b hb => (ne_app (ne_cons (by show g3 ≠ b; omega) (ne_cons (by show g2 ≠ b; omega) (ne_cons (by show g1 ≠ b; omega) ne_nil))) (hFx.ne hb)))) hf.q hf.q).mono fun e w' h => by rw [decide_eq_true (p := sameD o n H1 H2 Cs o n H1 H2 Cs) ⟨rfl, rfl, rfl, rfl, rfl⟩] at h; exact h) ?_
  refine TM.free (Wants.none rfl) rfl (fun _ => Gets.pickT rfl rfl rfl) ?_
  refine TM.free (Wants.none rfl) rfl (fun _ => Gets.move rfl rfl) ?_
  refine TM.gets (Wants.yes rfl rfl rfl) rfl (Gets.loadN rfl agg25 size25 rfl (vs := [Value.int .i64 o, Value.int .i64 n] ++ (H1.map (Value.int .u8) ++ (H2.map (Value.int .u8) ++ ([Value.slice Ax m2 cx])))) (by simp [hH1, hH2]) (Row.all (i := 0) (ent := ⟨g3, 25, [Value.int .i64 o, Value.int .i64 n] ++ (H1.map (Value.int .u8) ++ (H2.map (Value.int .u8) ++ ([Value.slice Ax m2 cx]))), 67⟩) rfl rfl rfl)) ?_
  refine TM.gets (Wants.yes rfl rfl rfl) rfl (Gets.loadN rfl agg25 size25 rfl (vs := [Value.int .i64 o, Value.int .i64 n] ++ (H1.map (Value.int .u8) ++ (H2.map (Value.int .u8) ++ ([Value.slice A m c])))) (by simp [hH1, hH2]) (Row.all (i := 2) (ent := ⟨g1, 25, [Value.int .i64 o, Value.int .i64 n] ++ (H1.map (Value.int .u8) ++ (H2.map (Value.int .u8) ++ ([Value.slice A m c]))), 67⟩) rfl rfl rfl)) ?_
  refine TM.call0 (Wants.yes rfl rfl rfl) rfl enters22 rfl rfl (v := .bool (decide (sameD o n H1 H2 Fx o n H1 H2 Cs))) (fun w hs => dsame_c o n H1 H2 hH1 hH2 Ax m2 cx Fx o n H1 H2 hH1 hH2 A m c Cs hmm2 hmm hox.num w (hox.src (fun e he => hs.has e (by simp [he]))) (hC.at_ hs (fun b hb => (ne_app (ne_cons (by show g3 ≠ b; omega) (ne_cons (by show g2 ≠ b; omega) (ne_cons (by show g1 ≠ b; omega) ne_nil))) (hFx.ne hb)))) (hox.dat (fun e he => hs.has e (by simp [he]))) (hD.at_ hs (fun b hb => (ne_app (ne_cons (by show g3 ≠ b; omega) (ne_cons (by show g2 ≠ b; omega) (ne_cons (by show g1 ≠ b; omega) ne_nil))) (hFx.ne hb)))) (hf2.q.same hsmx) hf.q) ?_
  refine TM.free (Wants.yes rfl rfl rfl) rfl (fun _ => Gets.fieldAddr rfl Try.underlying25 rfl size23 rfl (off' := 66) (by first | rfl | omega)) ?_
  refine TM.gets (Wants.yes rfl rfl rfl) rfl (Gets.load1 rfl agg23 rfl (At.ent (i := 2) (ent := ⟨g1, 25, [Value.int .i64 o, Value.int .i64 n] ++ (H1.map (Value.int .u8) ++ (H2.map (Value.int .u8) ++ ([Value.slice A m c]))), 67⟩) (off := 66) rfl rfl (by exact app_right (a := 2) (i := 64) (rfl) (app_right (a := 32) (i := 32) (ints_len hH1) (app_right (a := 32) (i := 0) (ints_len hH2) (rfl)))))) ?_
  refine TM.free (Wants.yes rfl rfl rfl) rfl (fun _ => Gets.fieldAddr rfl Try.underlying25 rfl size23 rfl (off' := 66) (by first | rfl | omega)) ?_
  refine TM.gets (Wants.yes rfl rfl rfl) rfl (Gets.load1 rfl agg23 rfl (At.ent (i := 1) (ent := ⟨g2, 25, [Value.int .i64 o2, Value.int .i64 n2] ++ (G1.map (Value.int .u8) ++ (G2.map (Value.int .u8) ++ ([Value.slice A2 m2 c2]))), 67⟩) (off := 66) rfl rfl (by exact app_right (a := 2) (i := 64) (rfl) (app_right (a := 32) (i := 32) (ints_len hG1) (app_right (a := 32) (i := 0) (ints_len hG2) (rfl)))))) ?_
  refine TM.call0 (Wants.yes rfl rfl rfl) rfl enters23 rfl rfl (v := .bool (decide (sameC Cs Es))) (fun w hs => rall_c A A2 m c m2 c2 Cs Es hmm hmm2 hN w (hC.at_ hs (fun b hb => (ne_app (ne_cons (by show g3 ≠ b; omega) (ne_cons (by show g2 ≠ b; omega) (ne_cons (by show g1 ≠ b; omega) ne_nil))) (hFx.ne hb)))) (hC2.at_ hs (fun b hb => (ne_app (ne_cons (by show g3 ≠ b; omega) (ne_cons (by show g2 ≠ b; omega) (ne_cons (by show g1 ≠ b; omega) ne_nil))) (hFx.ne hb)))) (hD.at_ hs (fun b hb => (ne_app (ne_cons (by show g3 ≠ b; omega) (ne_cons (by show g2 ≠ b; omega) (ne_cons (by show g1 ≠ b; omega) ne_nil))) (hFx.ne hb)))) (hE.at_ hs (fun b hb => (ne_app (ne_cons (by show g3 ≠ b; omega) (ne_cons (by show g2 ≠ b; omega) (ne_cons (by show g1 ≠ b; omega) ne_nil))) (hFx.ne hb))))) ?_
  refine TM.free (Wants.yes rfl rfl rfl) rfl (fun _ => Gets.isTrue (Gets.boolEqP rfl Try.underlying4 rfl rfl) ⟨fun h => (hsmx.c.symm.trans h.2.2.2.2).symm, fun h => ⟨rfl, rfl, rfl, rfl, hsmx.c.trans h.symm⟩⟩) ?_
  refine TM.free (Wants.none rfl) rfl (fun _ => Gets.pickT rfl rfl rfl) ?_
  refine TM.free (Wants.none rfl) rfl (fun _ => Gets.assign rfl rfl) ?_
  refine TM.nil ?_
  refine TE.then ?_
  refine TC.ret ?_
  exact TE.ret1 rfl rfl (fun w hs => ⟨rfl, by have h2 := St.left (H := [⟨g3, 25, [Value.int .i64 o, Value.int .i64 n] ++ (H1.map (Value.int .u8) ++ (H2.map (Value.int .u8) ++ ([Value.slice Ax m2 cx]))), 67⟩, ⟨g2, 25, [Value.int .i64 o2, Value.int .i64 n2] ++ (G1.map (Value.int .u8) ++ (G2.map (Value.int .u8) ++ ([Value.slice A2 m2 c2]))), 67⟩, ⟨g1, 25, [Value.int .i64 o, Value.int .i64 n] ++ (H1.map (Value.int .u8) ++ (H2.map (Value.int .u8) ++ ([Value.slice A m c]))), 67⟩]) hs hFx; exact (((h2.drop (by assumption)).drop (by assumption)).drop (by assumption))⟩)


theorem deltaWith_walk (o n : Int) (H1 H2 : List Int) (hH1 : H1.length = 32) (hH2 : H2.length = 32) (A : Option Addr) (m c : Nat) (Cs : List CV) (o2 n2 : Int) (G1 G2 : List Int) (hG1 : G1.length = 32) (hG2 : G2.length = 32) (A2 : Option Addr) (m2 c2 : Nat) (Es : List CV) (w : World) (bo : -9223372036854775808 ≤ o ∧ o ≤ 9223372036854775807) (bn : -9223372036854775808 ≤ n ∧ n ≤ 9223372036854775807) (hmc : m ≤ c) (hcm : c ≤ 9223372036854775807) (hN : NumsC Cs) (hC : SrcC w A m Cs) (hD : DatC w Cs) (hA : A = none → m = 0) (hB1 : Bytes H1) (hB2 : Bytes H2) (bo2 : -9223372036854775808 ≤ o2 ∧ o2 ≤ 9223372036854775807) (bn2 : -9223372036854775808 ≤ n2 ∧ n2 ≤ 9223372036854775807) (hmc2 : m2 ≤ c2) (hcm2 : c2 ≤ 9223372036854775807) (hN2 : NumsC Es) (hC2 : SrcC w A2 m2 Es) (hE : DatC w Es) (hA2 : A2 = none → m2 = 0) (hB3 : Bytes G1) (hB4 : Bytes G2) : Calls Try.prog 6 #[.agg ([Value.int .i64 o, Value.int .i64 n] ++ (H1.map (Value.int .u8) ++ (H2.map (Value.int .u8) ++ ([Value.slice A m c])))).toArray, .agg ([Value.int .i64 o2, Value.int .i64 n2] ++ (G1.map (Value.int .u8) ++ (G2.map (Value.int .u8) ++ ([Value.slice A2 m2 c2])))).toArray] w fun e w' => e = .returned (.bool true) ∧ St w [] w' := by
  have h1 : m ≤ 9223372036854775807 := by omega
  have h2 : m2 ≤ 9223372036854775807 := by omega
  by_cases hf : fewP Cs
  · by_cases hf2 : fewP Es
    · exact dwith_yes o n H1 H2 hH1 hH2 A m c Cs o2 n2 G1 G2 hG1 hG2 A2 m2 c2 Es h1 h2 hN hN2 w hC hC2 hD hE hf hf2
    · exact dwith_no2 o n H1 H2 hH1 hH2 A m c Cs o2 n2 G1 G2 hG1 hG2 A2 m2 c2 Es h1 h2 hN hN2 w hC hC2 hD hE hf hf2
  · exact dwith_no1 o n H1 H2 hH1 hH2 A m c Cs o2 n2 G1 G2 hG1 hG2 A2 m2 c2 Es h1 h2 hN hN2 w hC hC2 hD hE hf
end Go.Proofs.Ytkgamkjdkapchaa
/-
  DeltaBreaks: the walk.
-/
namespace Go.Proofs.Ytkgamkjdkapchaa
set_option linter.unusedVariables false
set_option linter.unusedSimpArgs false
open Go Go.RowKit

set_option maxRecDepth 100000 in
set_option maxHeartbeats 2000000 in
theorem dbreaks_no (o n : Int) (H1 H2 : List Int) (hH1 : H1.length = 32) (hH2 : H2.length = 32) (A : Option Addr) (m c : Nat) (Cs : List CV) (hml : m ≤ 9223372036854775807 ∧ ((-9223372036854775808 ≤ o ∧ o ≤ 9223372036854775807) ∧ (-9223372036854775808 ≤ n ∧ n ≤ 9223372036854775807))) (hN : NumsC Cs) (w : World) (hC : SrcC w A m Cs) (hD : DatC w Cs) (i : Int) (hi : 0 ≤ i ∧ i ≤ 255) (hmc : m ≤ c) (hcm : c ≤ 9223372036854775807) (hf : ¬ fewP Cs) : Calls Try.prog 7 #[.agg ([Value.int .i64 o, Value.int .i64 n] ++ (H1.map (Value.int .u8) ++ (H2.map (Value.int .u8) ++ ([Value.slice A m c])))).toArray, .int .u8 i] w fun e w' => e = .returned (.bool true) ∧ St w [] w' := by
  refine calls_from (args := [.agg ([Value.int .i64 o, Value.int .i64 n] ++ (H1.map (Value.int .u8) ++ (H2.map (Value.int .u8) ++ ([Value.slice A m c])))).toArray, .int .u8 i]) Try.func7 rfl Try.ntmps7 (by simp) ?_
  refine TC.sub (Sub.cons (i := 0) rfl (Sub.cons (i := 1) rfl (Sub.nil))) ?_
  refine TC.seq ?_
  refine TC.regionL ?_
  refine TL.box (Wants.none rfl) rfl rfl rfl (cs := [Value.int .i64 o, Value.int .i64 n] ++ (H1.map (Value.int .u8) ++ (H2.map (Value.int .u8) ++ ([Value.slice A m c])))) (by simp [Value.cells]) (tot := 67) (by simp [hH1, hH2]) (fun g1 hg1 => ?_)
  refine TL.gets (Wants.none rfl) rfl (Gets.assign rfl rfl) ?_
  refine TL.nil ?_
  refine TE.then ?_
  refine TC.seq ?_
  refine TC.seq ?_
  refine TC.regionL ?_
  refine TL.gets (Wants.none rfl) rfl (Gets.loadN rfl agg25 size25 rfl (vs := [Value.int .i64 o, Value.int .i64 n] ++ (H1.map (Value.int .u8) ++ (H2.map (Value.int .u8) ++ ([Value.slice A m c])))) (by simp [hH1, hH2]) (Row.all (i := 0) (ent := ⟨g1, 25, [Value.int .i64 o, Value.int .i64 n] ++ (H1.map (Value.int .u8) ++ (H2.map (Value.int .u8) ++ ([Value.slice A m c]))), 67⟩) rfl rfl rfl)) ?_
  refine TL.call0 (Wants.none rfl) rfl enters8 rfl rfl (v := .bool false) (fun w hs => (few_c o n H1 H2 hH1 hH2 A m c Cs (by omega) hN w (hC.at_ hs (fun b hb => (ne_cons (by show g1 ≠ b; omega) ne_nil)))).mono fun e w' h => by rw [decide_eq_false (p := fewP Cs) hf] at h; exact h) ?_
  refine TL.gets (Wants.none rfl) rfl (Gets.not rfl rfl) ?_
  refine TL.gets (Wants.none rfl) rfl (Gets.move rfl rfl) ?_
  refine TL.pass rfl rfl rfl rfl rfl ?_
  refine TL.pass rfl rfl rfl rfl rfl ?_
  refine TL.pass rfl rfl rfl rfl rfl ?_
  refine TL.gets (Wants.none rfl) rfl (Gets.pickT rfl rfl rfl) ?_
  refine TL.gets (Wants.none rfl) rfl (Gets.move rfl rfl) ?_
  refine TL.pass rfl rfl rfl rfl rfl ?_
  refine TL.pass rfl rfl rfl rfl rfl ?_
  refine TL.pass rfl rfl rfl rfl rfl ?_
  refine TL.pass rfl rfl rfl rfl rfl ?_
  refine TL.gets (Wants.none rfl) rfl (Gets.pickT rfl rfl rfl) ?_
  refine TL.nil ?_
  refine TE.then ?_
  refine TC.sub (Sub.cons (i := 1) rfl (Sub.cons (i := 2) rfl (Sub.cons (i := 4) rfl (Sub.cons (i := 22) rfl (Sub.nil))))) ?_
  refine TC.yes rfl ?_
  refine TC.seq ?_
  refine TC.regionL ?_
  refine TL.call0 (Wants.none rfl) rfl enters9 rfl rfl (v := .bool true) (fun w hs => alive_c w) ?_
  refine TL.gets (Wants.none rfl) rfl (Gets.assign rfl rfl) ?_
  refine TL.nil ?_
  refine TE.then ?_
  refine TC.ret ?_
  refine TE.thenR ?_
  exact TE.ret1 rfl rfl (fun w hs => ⟨rfl, (hs.drop (by assumption))⟩)

set_option maxRecDepth 100000 in
set_option maxHeartbeats 2000000 in
theorem dbreaks_bad (o n : Int) (H1 H2 : List Int) (hH1 : H1.length = 32) (hH2 : H2.length = 32) (A : Option Addr) (m c : Nat) (Cs : List CV) (hml : m ≤ 9223372036854775807 ∧ ((-9223372036854775808 ≤ o ∧ o ≤ 9223372036854775807) ∧ (-9223372036854775808 ≤ n ∧ n ≤ 9223372036854775807))) (hN : NumsC Cs) (w : World) (hC : SrcC w A m Cs) (hD : DatC w Cs) (i : Int) (hi : 0 ≤ i ∧ i ≤ 255) (hmc : m ≤ c) (hcm : c ≤ 9223372036854775807) (hf : fewP Cs) (hv : ¬ (faultI o n Cs).1 = 0) : Calls Try.prog 7 #[.agg ([Value.int .i64 o, Value.int .i64 n] ++ (H1.map (Value.int .u8) ++ (H2.map (Value.int .u8) ++ ([Value.slice A m c])))).toArray, .int .u8 i] w fun e w' => e = .returned (.bool true) ∧ St w [] w' := by
  have hmm : m ≤ 1000000000 := by have := hf.2; have := hC.1; omega
  refine calls_from (args := [.agg ([Value.int .i64 o, Value.int .i64 n] ++ (H1.map (Value.int .u8) ++ (H2.map (Value.int .u8) ++ ([Value.slice A m c])))).toArray, .int .u8 i]) Try.func7 rfl Try.ntmps7 (by simp) ?_
  refine TC.sub (Sub.cons (i := 0) rfl (Sub.cons (i := 1) rfl (Sub.nil))) ?_
  refine TC.seq ?_
  refine TC.regionL ?_
  refine TL.box (Wants.none rfl) rfl rfl rfl (cs := [Value.int .i64 o, Value.int .i64 n] ++ (H1.map (Value.int .u8) ++ (H2.map (Value.int .u8) ++ ([Value.slice A m c])))) (by simp [Value.cells]) (tot := 67) (by simp [hH1, hH2]) (fun g1 hg1 => ?_)
  refine TL.gets (Wants.none rfl) rfl (Gets.assign rfl rfl) ?_
  refine TL.nil ?_
  refine TE.then ?_
  refine TC.seq ?_
  refine TC.seq ?_
  refine TC.regionL ?_
  refine TL.gets (Wants.none rfl) rfl (Gets.loadN rfl agg25 size25 rfl (vs := [Value.int .i64 o, Value.int .i64 n] ++ (H1.map (Value.int .u8) ++ (H2.map (Value.int .u8) ++ ([Value.slice A m c])))) (by simp [hH1, hH2]) (Row.all (i := 0) (ent := ⟨g1, 25, [Value.int .i64 o, Value.int .i64 n] ++ (H1.map (Value.int .u8) ++ (H2.map (Value.int .u8) ++ ([Value.slice A m c]))), 67⟩) rfl rfl rfl)) ?_
  refine TL.call0 (Wants.none rfl) rfl enters8 rfl rfl (v := .bool true) (fun w hs => (few_c o n H1 H2 hH1 hH2 A m c Cs (by omega) hN w (hC.at_ hs (fun b hb => (ne_cons (by show g1 ≠ b; omega) ne_nil)))).mono fun e w' h => by rw [decide_eq_true (p := fewP Cs) hf] at h; exact h) ?_
  refine TL.gets (Wants.none rfl) rfl (Gets.not rfl rfl) ?_
  refine TL.gets (Wants.none rfl) rfl (Gets.move rfl rfl) ?_
  refine TL.gets (Wants.yes rfl rfl rfl) rfl (Gets.loadN rfl agg25 size25 rfl (vs := [Value.int .i64 o, Value.int .i64 n] ++ (H1.map (Value.int .u8) ++ (H2.map (Value.int .u8) ++ ([Value.slice A m c])))) (by simp [hH1, hH2]) (Row.all (i := 0) (ent := ⟨g1, 25, [Value.int .i64 o, Value.int .i64 n] ++ (H1.map (Value.int .u8) ++ (H2.map (Value.int .u8) ++ ([Value.slice A m c]))), 67⟩) rfl rfl rfl)) ?_
  refine TL.call0 (Wants.yes rfl rfl rfl) rfl enters13 rfl rfl (v := .bool false) (fun w hs => (rdvalid_c o n H1 H2 hH1 hH2 A m c Cs hmm hN w (hC.at_ hs (fun b hb => (ne_cons (by show g1 ≠ b; omega) ne_nil)))).mono fun e w' h => by rw [decide_eq_false (p := (faultI o n Cs).1 = 0) hv] at h; exact h) ?_
  refine TL.gets (Wants.yes rfl rfl rfl) rfl (Gets.not rfl rfl) ?_
  refine TL.gets (Wants.none rfl) rfl (Gets.pickF rfl rfl rfl) ?_
  refine TL.gets (Wants.none rfl) rfl (Gets.move rfl rfl) ?_
  refine TL.pass rfl rfl rfl rfl rfl ?_
  refine TL.pass rfl rfl rfl rfl rfl ?_
  refine TL.pass rfl rfl rfl rfl rfl ?_
  refine TL.pass rfl rfl rfl rfl rfl ?_
  refine TL.gets (Wants.none rfl) rfl (Gets.pickT rfl rfl rfl) ?_
  refine TL.nil ?_
  refine TE.then ?_
  refine TC.sub (Sub.cons (i := 1) rfl (Sub.cons (i := 2) rfl (Sub.cons (i := 4) rfl (Sub.cons (i := 22) rfl (Sub.nil))))) ?_
  refine TC.yes rfl ?_
  refine TC.seq ?_
  refine TC.regionL ?_
  refine TL.call0 (Wants.none rfl) rfl enters9 rfl rfl (v := .bool true) (fun w hs => alive_c w) ?_
  refine TL.gets (Wants.none rfl) rfl (Gets.assign rfl rfl) ?_
  refine TL.nil ?_
  refine TE.then ?_
  refine TC.ret ?_
  refine TE.thenR ?_
  exact TE.ret1 rfl rfl (fun w hs => ⟨rfl, (hs.drop (by assumption))⟩)

set_option maxRecDepth 100000 in
set_option maxHeartbeats 2000000 in
theorem dbreaks_nil (o n : Int) (H1 H2 : List Int) (hH1 : H1.length = 32) (hH2 : H2.length = 32) (A : Option Addr) (m c : Nat) (Cs : List CV) (hml : m ≤ 9223372036854775807 ∧ ((-9223372036854775808 ≤ o ∧ o ≤ 9223372036854775807) ∧ (-9223372036854775808 ≤ n ∧ n ≤ 9223372036854775807))) (hN : NumsC Cs) (w : World) (hC : SrcC w A m Cs) (hD : DatC w Cs) (i : Int) (hi : 0 ≤ i ∧ i ≤ 255) (hmc : m ≤ c) (hcm : c ≤ 9223372036854775807) (hf : fewP Cs) (hv : (faultI o n Cs).1 = 0) (h0 : m = 0) : Calls Try.prog 7 #[.agg ([Value.int .i64 o, Value.int .i64 n] ++ (H1.map (Value.int .u8) ++ (H2.map (Value.int .u8) ++ ([Value.slice A m c])))).toArray, .int .u8 i] w fun e w' => e = .returned (.bool true) ∧ St w [] w' := by
  have hmm : m ≤ 1000000000 := by have := hf.2; have := hC.1; omega
  refine calls_from (args := [.agg ([Value.int .i64 o, Value.int .i64 n] ++ (H1.map (Value.int .u8) ++ (H2.map (Value.int .u8) ++ ([Value.slice A m c])))).toArray, .int .u8 i]) Try.func7 rfl Try.ntmps7 (by simp) ?_
  refine TC.sub (Sub.cons (i := 0) rfl (Sub.cons (i := 1) rfl (Sub.nil))) ?_
  refine TC.seq ?_
  refine TC.regionL ?_
  refine TL.box (Wants.none rfl) rfl rfl rfl (cs := [Value.int .i64 o, Value.int .i64 n] ++ (H1.map (Value.int .u8) ++ (H2.map (Value.int .u8) ++ ([Value.slice A m c])))) (by simp [Value.cells]) (tot := 67) (by simp [hH1, hH2]) (fun g1 hg1 => ?_)
  refine TL.gets (Wants.none rfl) rfl (Gets.assign rfl rfl) ?_
  refine TL.nil ?_
  refine TE.then ?_
  refine TC.seq ?_
  refine TC.seq ?_
  refine TC.regionL ?_
  refine TL.gets (Wants.none rfl) rfl (Gets.loadN rfl agg25 size25 rfl (vs := [Value.int .i64 o, Value.int .i64 n] ++ (H1.map (Value.int .u8) ++ (H2.map (Value.int .u8) ++ ([Value.slice A m c])))) (by simp [hH1, hH2]) (Row.all (i := 0) (ent := ⟨g1, 25, [Value.int .i64 o, Value.int .i64 n] ++ (H1.map (Value.int .u8) ++ (H2.map (Value.int .u8) ++ ([Value.slice A m c]))), 67⟩) rfl rfl rfl)) ?_
  refine TL.call0 (Wants.none rfl) rfl enters8 rfl rfl (v := .bool true) (fun w hs => (few_c o n H1 H2 hH1 hH2 A m c Cs (by omega) hN w (hC.at_ hs (fun b hb => (ne_cons (by show g1 ≠ b; omega) ne_nil)))).mono fun e w' h => by rw [decide_eq_true (p := fewP Cs) hf] at h; exact h) ?_
  refine TL.gets (Wants.none rfl) rfl (Gets.not rfl rfl) ?_
  refine TL.gets (Wants.none rfl) rfl (Gets.move rfl rfl) ?_
  refine TL.gets (Wants.yes rfl rfl rfl) rfl (Gets.loadN rfl agg25 size25 rfl (vs := [Value.int .i64 o, Value.int .i64 n] ++ (H1.map (Value.int .u8) ++ (H2.map (Value.int .u8) ++ ([Value.slice A m c])))) (by simp [hH1, hH2]) (Row.all (i := 0) (ent := ⟨g1, 25, [Value.int .i64 o, Value.int .i64 n] ++ (H1.map (Value.int .u8) ++ (H2.map (Value.int .u8) ++ ([Value.slice A m c]))), 67⟩) rfl rfl rfl)) ?_
  refine TL.call0 (Wants.yes rfl rfl rfl) rfl enters13 rfl rfl (v := .bool true) (fun w hs => (rdvalid_c o n H1 H2 hH1 hH2 A m c Cs hmm hN w (hC.at_ hs (fun b hb => (ne_cons (by show g1 ≠ b; omega) ne_nil)))).mono fun e w' h => by rw [decide_eq_true (p := (faultI o n Cs).1 = 0) hv] at h; exact h) ?_
  refine TL.gets (Wants.yes rfl rfl rfl) rfl (Gets.not rfl rfl) ?_
  refine TL.gets (Wants.none rfl) rfl (Gets.pickF rfl rfl rfl) ?_
  refine TL.gets (Wants.none rfl) rfl (Gets.move rfl rfl) ?_
  refine TL.gets (Wants.yes rfl rfl rfl) rfl (Gets.fieldAddr rfl Try.underlying25 rfl size23 rfl (off' := 66) (by first | rfl | omega)) ?_
  refine TL.gets (Wants.yes rfl rfl rfl) rfl (Gets.load1 rfl agg23 rfl (At.ent (i := 0) (ent := ⟨g1, 25, [Value.int .i64 o, Value.int .i64 n] ++ (H1.map (Value.int .u8) ++ (H2.map (Value.int .u8) ++ ([Value.slice A m c]))), 67⟩) (off := 66) rfl rfl (by exact app_right (a := 2) (i := 64) (rfl) (app_right (a := 32) (i := 32) (ints_len hH1) (app_right (a := 32) (i := 0) (ints_len hH2) (rfl)))))) ?_
  refine TL.gets (Wants.yes rfl rfl rfl) rfl (Gets.lenSlice rfl Try.underlying23 rfl) ?_
  refine TL.gets (Wants.yes rfl rfl rfl) rfl (Gets.isTrue (Gets.eql rfl rfl rfl) (by omega)) ?_
  refine TL.gets (Wants.none rfl) rfl (Gets.pickF rfl rfl rfl) ?_
  refine TL.nil ?_
  refine TE.then ?_
  refine TC.sub (Sub.cons (i := 1) rfl (Sub.cons (i := 2) rfl (Sub.cons (i := 4) rfl (Sub.cons (i := 22) rfl (Sub.nil))))) ?_
  refine TC.yes rfl ?_
  refine TC.seq ?_
  refine TC.regionL ?_
  refine TL.call0 (Wants.none rfl) rfl enters9 rfl rfl (v := .bool true) (fun w hs => alive_c w) ?_
  refine TL.gets (Wants.none rfl) rfl (Gets.assign rfl rfl) ?_
  refine TL.nil ?_
  refine TE.then ?_
  refine TC.ret ?_
  refine TE.thenR ?_
  exact TE.ret1 rfl rfl (fun w hs => ⟨rfl, (hs.drop (by assumption))⟩)

set_option maxRecDepth 100000 in
set_option maxHeartbeats 2000000 in
theorem dbreaks_yes (o n : Int) (H1 H2 : List Int) (hH1 : H1.length = 32) (hH2 : H2.length = 32) (A : Option Addr) (m c : Nat) (Cs : List CV) (hml : m ≤ 9223372036854775807 ∧ ((-9223372036854775808 ≤ o ∧ o ≤ 9223372036854775807) ∧ (-9223372036854775808 ≤ n ∧ n ≤ 9223372036854775807))) (hN : NumsC Cs) (w : World) (hC : SrcC w A m Cs) (hD : DatC w Cs) (i : Int) (hi : 0 ≤ i ∧ i ≤ 255) (hmc : m ≤ c) (hcm : c ≤ 9223372036854775807) (hf : fewP Cs) (hv : (faultI o n Cs).1 = 0) (h0 : ¬ m = 0) (k : Nat) (hk : i.tmod (m : Int) = (k : Int)) (hkm : k < m) : Calls Try.prog 7 #[.agg ([Value.int .i64 o, Value.int .i64 n] ++ (H1.map (Value.int .u8) ++ (H2.map (Value.int .u8) ++ ([Value.slice A m c])))).toArray, .int .u8 i] w fun e w' => e = .returned (.bool true) ∧ St w [] w' := by
  have hmm : m ≤ 1000000000 := by have := hf.2; have := hC.1; omega
  have hVC := validC hv
  have hm40 : m ≤ 40 := by have := hf.2; have := hC.1; omega
  refine calls_from (args := [.agg ([Value.int .i64 o, Value.int .i64 n] ++ (H1.map (Value.int .u8) ++ (H2.map (Value.int .u8) ++ ([Value.slice A m c])))).toArray, .int .u8 i]) Try.func7 rfl Try.ntmps7 (by simp) ?_
  refine TC.sub (Sub.cons (i := 0) rfl (Sub.cons (i := 1) rfl (Sub.nil))) ?_
  refine TC.seq ?_
  refine TC.regionL ?_
  refine TL.box (Wants.none rfl) rfl rfl rfl (cs := [Value.int .i64 o, Value.int .i64 n] ++ (H1.map (Value.int .u8) ++ (H2.map (Value.int .u8) ++ ([Value.slice A m c])))) (by simp [Value.cells]) (tot := 67) (by simp [hH1, hH2]) (fun g1 hg1 => ?_)
  refine TL.gets (Wants.none rfl) rfl (Gets.assign rfl rfl) ?_
  refine TL.nil ?_
  refine TE.then ?_
  refine TC.seq ?_
  refine TC.seq ?_
  refine TC.regionL ?_
  refine TL.gets (Wants.none rfl) rfl (Gets.loadN rfl agg25 size25 rfl (vs := [Value.int .i64 o, Value.int .i64 n] ++ (H1.map (Value.int .u8) ++ (H2.map (Value.int .u8) ++ ([Value.slice A m c])))) (by simp [hH1, hH2]) (Row.all (i := 0) (ent := ⟨g1, 25, [Value.int .i64 o, Value.int .i64 n] ++ (H1.map (Value.int .u8) ++ (H2.map (Value.int .u8) ++ ([Value.slice A m c]))), 67⟩) rfl rfl rfl)) ?_
  refine TL.call0 (Wants.none rfl) rfl enters8 rfl rfl (v := .bool true) (fun w hs => (few_c o n H1 H2 hH1 hH2 A m c Cs (by omega) hN w (hC.at_ hs (fun b hb => (ne_cons (by show g1 ≠ b; omega) ne_nil)))).mono fun e w' h => by rw [decide_eq_true (p := fewP Cs) hf] at h; exact h) ?_
  refine TL.gets (Wants.none rfl) rfl (Gets.not rfl rfl) ?_
  refine TL.gets (Wants.none rfl) rfl (Gets.move rfl rfl) ?_
  refine TL.gets (Wants.yes rfl rfl rfl) rfl (Gets.loadN rfl agg25 size25 rfl (vs := [Value.int .i64 o, Value.int .i64 n] ++ (H1.map (Value.int .u8) ++ (H2.map (Value.int .u8) ++ ([Value.slice A m c])))) (by simp [hH1, hH2]) (Row.all (i := 0) (ent := ⟨g1, 25, [Value.int .i64 o, Value.int .i64 n] ++ (H1.map (Value.int .u8) ++ (H2.map (Value.int .u8) ++ ([Value.slice A m c]))), 67⟩) rfl rfl rfl)) ?_
  refine TL.call0 (Wants.yes rfl rfl rfl) rfl enters13 rfl rfl (v := .bool true) (fun w hs => (rdvalid_c o n H1 H2 hH1 hH2 A m c Cs hmm hN w (hC.at_ hs (fun b hb => (ne_cons (by show g1 ≠ b; omega) ne_nil)))).mono fun e w' h => by rw [decide_eq_true (p := (faultI o n Cs).1 = 0) hv] at h; exact h) ?_
  refine TL.gets (Wants.yes rfl rfl rfl) rfl (Gets.not rfl rfl) ?_
  refine TL.gets (Wants.none rfl) rfl (Gets.pickF rfl rfl rfl) ?_
  refine TL.gets (Wants.none rfl) rfl (Gets.move rfl rfl) ?_
  refine TL.gets (Wants.yes rfl rfl rfl) rfl (Gets.fieldAddr rfl Try.underlying25 rfl size23 rfl (off' := 66) (by first | rfl | omega)) ?_
  refine TL.gets (Wants.yes rfl rfl rfl) rfl (Gets.load1 rfl agg23 rfl (At.ent (i := 0) (ent := ⟨g1, 25, [Value.int .i64 o, Value.int .i64 n] ++ (H1.map (Value.int .u8) ++ (H2.map (Value.int .u8) ++ ([Value.slice A m c]))), 67⟩) (off := 66) rfl rfl (by exact app_right (a := 2) (i := 64) (rfl) (app_right (a := 32) (i := 32) (ints_len hH1) (app_right (a := 32) (i := 0) (ints_len hH2) (rfl)))))) ?_
  refine TL.gets (Wants.yes rfl rfl rfl) rfl (Gets.lenSlice rfl Try.underlying23 rfl) ?_
  refine TL.gets (Wants.yes rfl rfl rfl) rfl (Gets.isFalse (Gets.eql rfl rfl rfl) (by omega)) ?_
  refine TL.gets (Wants.none rfl) rfl (Gets.pickF rfl rfl rfl) ?_
  refine TL.nil ?_
  refine TE.then ?_
  refine TC.sub (Sub.cons (i := 1) rfl (Sub.cons (i := 2) rfl (Sub.cons (i := 4) rfl (Sub.cons (i := 22) rfl (Sub.nil))))) ?_
  refine TC.no rfl ?_
  refine TC.skip ?_
  refine TE.then ?_
  refine TC.seq ?_
  refine TC.regionL ?_
  refine TL.gets (Wants.none rfl) rfl (Gets.move rfl rfl) ?_
  refine TL.gets (Wants.none rfl) rfl (Gets.conv rfl Try.underlying5 Try.underlying3 rfl (r := (IntKind.i64.wrap i)) rfl) ?_
  refine TL.gets (Wants.none rfl) rfl (Gets.fieldAddr rfl Try.underlying25 rfl size23 rfl (off' := 66) (by first | rfl | omega)) ?_
  refine TL.gets (Wants.none rfl) rfl (Gets.load1 rfl agg23 rfl (At.ent (i := 0) (ent := ⟨g1, 25, [Value.int .i64 o, Value.int .i64 n] ++ (H1.map (Value.int .u8) ++ (H2.map (Value.int .u8) ++ ([Value.slice A m c]))), 67⟩) (off := 66) rfl rfl (by exact app_right (a := 2) (i := 64) (rfl) (app_right (a := 32) (i := 32) (ints_len hH1) (app_right (a := 32) (i := 0) (ints_len hH2) (rfl)))))) ?_
  refine TL.gets (Wants.none rfl) rfl (Gets.lenSlice rfl Try.underlying23 rfl) ?_
  refine TL.gets (Wants.none rfl) rfl (Gets.rem rfl rfl rfl (by omega) ((congrArg (·.tmod (m : Int)) (IntWalk.i64_in i (by omega))).trans hk)) ?_
  refine TL.gets (Wants.none rfl) rfl (Gets.assign rfl rfl) ?_
  refine TL.nil ?_
  refine TE.then ?_
  refine TC.sub (Sub.cons (i := 2) rfl (Sub.cons (i := 4) rfl (Sub.cons (i := 5) rfl (Sub.nil)))) ?_
  refine TC.seq ?_
  obtain ⟨b, off, hAe, hb, hrw⟩ := hC.some_ (i := k) (by omega)
  subst hAe
  obtain ⟨x, hx⟩ := hC.get (i := k) (by omega)
  have hnx := hN k x hx
  unfold NumC at hnx
  have hlbx := lenV_bd (k := x.k) (l := x.l) (m := x.m) (by omega) (by omega)
  have subL : ∀ y ∈ (Cs.take k ++ Cs.drop (k + 1)), y ∈ Cs := fun y hy => (List.mem_append.1 hy).elim List.mem_of_mem_take List.mem_of_mem_drop
  have subM : ∀ y ∈ (Cs ++ [x]), y ∈ Cs := fun y hy => (List.mem_append.1 hy).elim id fun h => by rw [List.mem_singleton.1 h]; exact List.mem_of_getElem? hx
  refine TC.regionL ?_
  refine TL.gets (Wants.none rfl) rfl (Gets.fieldAddr rfl Try.underlying25 rfl size23 rfl (off' := 66) (by first | rfl | omega)) ?_
  refine TL.gets (Wants.none rfl) rfl (Gets.load1 rfl agg23 rfl (At.ent (i := 0) (ent := ⟨g1, 25, [Value.int .i64 o, Value.int .i64 n] ++ (H1.map (Value.int .u8) ++ (H2.map (Value.int .u8) ++ ([Value.slice (some ⟨b, off, none⟩) m c]))), 67⟩) (off := 66) rfl rfl (by exact app_right (a := 2) (i := 64) (rfl) (app_right (a := 32) (i := 32) (ints_len hH1) (app_right (a := 32) (i := 0) (ints_len hH2) (rfl)))))) ?_
  refine TL.gets (Wants.none rfl) rfl (Gets.move rfl rfl) ?_
  refine TL.gets (Wants.none rfl) rfl (Gets.idxSlice rfl Try.underlying23 size40 rfl rfl (i := k) (by omega) (by omega) (off' := (off + 5 * k)) (by omega)) ?_
  refine TL.gets (Wants.none rfl) rfl (Gets.loadN rfl agg40 size40 rfl rfl (Row.old (fun jj u h => hrw k x hx jj u h) hb (ne_cons (by show g1 ≠ b; omega) ne_nil))) ?_
  refine TL.alloc (Wants.none rfl) rfl rfl zero40 (cs := [Value.int .i64 0, Value.int .i64 0, Value.int .i64 0, Value.int .i64 0, Value.slice none 0 0]) rfl (tot := 5) (by simp) (fun g2 hg2 => ?_)
  refine TL.storeW (Wants.none rfl) rfl rfl size40 rfl (vs := [Value.int .i64 x.k, Value.int .i64 x.t, Value.int .i64 x.f, Value.int .i64 x.l, Value.slice x.A x.m x.c]) rfl (by simp []) (by simp [Value.oneCell']) (i := 0) (ent := ⟨g2, 40, [Value.int .i64 0, Value.int .i64 0, Value.int .i64 0, Value.int .i64 0, Value.slice none 0 0], 5⟩) rfl rfl (by simp []) (H' := [⟨g2, 40, [Value.int .i64 x.k, Value.int .i64 x.t, Value.int .i64 x.f, Value.int .i64 x.l, Value.slice x.A x.m x.c], 5⟩, ⟨g1, 25, [Value.int .i64 o, Value.int .i64 n] ++ (H1.map (Value.int .u8) ++ (H2.map (Value.int .u8) ++ ([Value.slice (some ⟨b, off, none⟩) m c]))), 67⟩]) rfl ?_
  refine TL.nil ?_
  refine TE.then ?_
  refine TC.sub (Sub.cons (i := 2) rfl (Sub.cons (i := 4) rfl (Sub.cons (i := 5) rfl (Sub.cons (i := 6) rfl (Sub.nil))))) ?_
  refine TC.seq ?_
  refine TC.mixT [⟨g2, 40, [Value.int .i64 x.k, Value.int .i64 x.t, Value.int .i64 x.f, Value.int .i64 x.l, Value.slice x.A x.m x.c], 5⟩, ⟨g1, 25, [Value.int .i64 o, Value.int .i64 n] ++ (H1.map (Value.int .u8) ++ (H2.map (Value.int .u8) ++ ([Value.slice (some ⟨b, off, none⟩) m c]))), 67⟩] [] (by kernel_rfl) [3, 0, 0, 0, 0, 7, 0, 0, 0, 0, 0, 7, 0] [1, 2, 3, 4, 6, 7, 8, 9, 10, 0, 5, 11, 12] [fun v d => ∃ g, v = .slice (some ⟨g, 0, none⟩) 0 0 ∧ d = [⟨g, 40, [], 0⟩], fun _ _ => True, fun _ _ => True, fun _ _ => True, fun _ _ => True, fun v' d => OwnS w.heap.size 40 5 v' (0 + k) (([] : List Value) ++ flatC (Cs.take k)) d, fun _ _ => True, fun _ _ => True, fun _ _ => True, fun _ _ => True, fun _ _ => True, fun v' d => OwnS w.heap.size 40 5 v' ((0 + k) + (m - (k + 1))) (([] ++ flatC (Cs.take k)) ++ flatC (Cs.drop (k + 1))) d, fun _ _ => True] (by kernel_rfl) (by kernel_rfl) (List.Perm.of_eq (List.append_nil _).symm) Fresh.nil ?_
  refine TT.free (Wants.none rfl) rfl (fun Z hZ => Gets.fieldAddr rfl Try.underlying25 rfl size23 rfl (off' := 66) (by first | rfl | omega)) ?_
  refine TT.free (Wants.none rfl) rfl (fun Z hZ => Gets.load1 rfl agg23 rfl (At.ent (i := 1) (ent := ⟨g1, 25, [Value.int .i64 o, Value.int .i64 n] ++ (H1.map (Value.int .u8) ++ (H2.map (Value.int .u8) ++ ([Value.slice (some ⟨b, off, none⟩) m c]))), 67⟩) (off := 66) rfl rfl (by exact app_right (a := 2) (i := 64) (rfl) (app_right (a := 32) (i := 32) (ints_len hH1) (app_right (a := 32) (i := 0) (ints_len hH2) (rfl)))))) ?_
  refine TT.free (Wants.none rfl) rfl (fun Z hZ => Gets.move rfl rfl) ?_
  refine TT.free (Wants.none rfl) rfl (fun Z hZ => Gets.sliceS rfl Try.underlying23 size40 rfl bnd.dflt (bnd.at_ (l := k) rfl (by omega)) (by omega) (by omega) (cutA_zero _ _ _) (ln := k) (cp := c) (by omega) (by omega)) ?_
  refine TT.free (Wants.none rfl) rfl (fun Z hZ => Gets.fieldAddr rfl Try.underlying25 rfl size23 rfl (off' := 66) (by first | rfl | omega)) ?_
  refine TT.free (Wants.none rfl) rfl (fun Z hZ => Gets.load1 rfl agg23 rfl (At.ent (i := 1) (ent := ⟨g1, 25, [Value.int .i64 o, Value.int .i64 n] ++ (H1.map (Value.int .u8) ++ (H2.map (Value.int .u8) ++ ([Value.slice (some ⟨b, off, none⟩) m c]))), 67⟩) (off := 66) rfl rfl (by exact app_right (a := 2) (i := 64) (rfl) (app_right (a := 32) (i := 32) (ints_len hH1) (app_right (a := 32) (i := 0) (ints_len hH2) (rfl)))))) ?_
  refine TT.free (Wants.none rfl) rfl (fun Z hZ => Gets.move rfl rfl) ?_
  refine TT.free (Wants.none rfl) rfl (fun Z hZ => Gets.add rfl rfl rfl (r := ((k : Int) + 1)) (w64 (by omega) (by omega))) ?_
  refine TT.free (Wants.none rfl) rfl (fun Z hZ => Gets.sliceS rfl Try.underlying23 size40 rfl (bnd.at_ (l := (k + 1)) rfl (by omega)) bnd.dflt (by omega) (by omega) rfl (ln := (m - k - 1)) (cp := (c - k - 1)) (by omega) (by omega)) ?_
  refine TT.emptySlice (Wants.none rfl) rfl rfl Try.underlying23 size40 (fun ge hge => ?_)
  refine TT.appendS (Wants.none rfl) rfl rfl Try.underlying23 mk40 rfl (by decide) rfl rfl (s := 5) (nn := 0) (m := k) (cs := ([] : List Value)) (news := flatC (Cs.take k)) (OwnS.empty hge rfl) (X0 := []) (List.Perm.refl _) (by rw [flatC_len, List.length_take]; have := hC.1; omega) (fun Z w hZ hs => (hC.at_ hs (fun b hb => (ne_app (ne_cons (by show g2 ≠ b; omega) (ne_cons (by show g1 ≠ b; omega) ne_nil)) (ne_app (ne_app ne_nil (ne_cons (by show ge ≠ b; omega) ne_nil)) (hZ.ne hb))))).srcHead (by omega)) (flatC_one' _) (by unfold maxLen; omega) (by omega) (fun vh Hh hvh => ?_)
  refine TT.appendS (Wants.none rfl) rfl rfl Try.underlying23 mk40 rfl (by decide) rfl rfl (s := 5) (nn := (0 + k)) (m := (m - (k + 1))) (cs := ([] ++ flatC (Cs.take k))) (news := flatC (Cs.drop (k + 1))) hvh (X0 := []) (List.Perm.refl _) (by rw [flatC_len, List.length_drop]; have := hC.1; omega) (fun Z w hZ hs => (hC.at_ hs (fun b hb => (ne_app (ne_cons (by show g2 ≠ b; omega) (ne_cons (by show g1 ≠ b; omega) ne_nil)) (ne_app (ne_app ne_nil (Fresh.ne hvh.new hb)) (hZ.ne hb))))).srcCut hmc (by omega)) (flatC_one' _) (by unfold maxLen; omega) (by omega) (fun vl Hl hvl => ?_)
  refine TT.free (Wants.none rfl) rfl (fun Z hZ => Gets.assign rfl rfl) ?_
  refine TT.nil ?_
  refine TE.heap (H' := [⟨g2, 40, [Value.int .i64 x.k, Value.int .i64 x.t, Value.int .i64 x.f, Value.int .i64 x.l, Value.slice x.A x.m x.c], 5⟩, ⟨g1, 25, [Value.int .i64 o, Value.int .i64 n] ++ (H1.map (Value.int .u8) ++ (H2.map (Value.int .u8) ++ ([Value.slice (some ⟨b, off, none⟩) m c]))), 67⟩] ++ Hl) (fun w h => h) ?_
  have hl : OwnS w.heap.size 40 5 vl (0 + k + (m - (k + 1))) (flatC (Cs.take k ++ Cs.drop (k + 1))) Hl := by rw [flatC_app]; exact hvl
  obtain ⟨Al, cl, rfl, hcl, hcl2⟩ := hl.form
  have hFl : Fresh w Hl := hl.new
  refine TE.then ?_
  refine TC.sub (Sub.cons (i := 2) rfl (Sub.cons (i := 4) rfl (Sub.cons (i := 6) rfl (Sub.cons (i := 7) rfl (Sub.nil))))) ?_
  refine TC.seq ?_
  refine TC.mixT ([⟨g2, 40, [Value.int .i64 x.k, Value.int .i64 x.t, Value.int .i64 x.f, Value.int .i64 x.l, Value.slice x.A x.m x.c], 5⟩, ⟨g1, 25, [Value.int .i64 o, Value.int .i64 n] ++ (H1.map (Value.int .u8) ++ (H2.map (Value.int .u8) ++ ([Value.slice (some ⟨b, off, none⟩) m c]))), 67⟩] ++ Hl) [] (by kernel_rfl) [3, 0, 0, 7, 0, 3, 7, 0] [1, 2, 4, 0, 3, 5, 6, 7] [fun v d => ∃ g, v = .slice (some ⟨g, 0, none⟩) 0 0 ∧ d = [⟨g, 40, [], 0⟩], fun _ _ => True, fun _ _ => True, fun v' d => OwnS w.heap.size 40 5 v' (0 + m) (([] : List Value) ++ flatC Cs) d, fun _ _ => True, fun v d => ∃ g, v = .slice (some ⟨g, 0, none⟩) 1 1 ∧ d = [⟨g, 40, [Value.int .i64 x.k, Value.int .i64 x.t, Value.int .i64 x.f, Value.int .i64 x.l, Value.slice x.A x.m x.c], 5⟩], fun v' d => OwnS w.heap.size 40 5 v' ((0 + m) + 1) (([] ++ flatC Cs) ++ cellsC x) d, fun _ _ => True] (by kernel_rfl) (by kernel_rfl) (List.Perm.of_eq (List.append_nil _).symm) Fresh.nil ?_
  refine TT.free (Wants.none rfl) rfl (fun Z hZ => Gets.fieldAddr rfl Try.underlying25 rfl size23 rfl (off' := 66) (by first | rfl | omega)) ?_
  refine TT.free (Wants.none rfl) rfl (fun Z hZ => Gets.load1 rfl agg23 rfl (At.ent (i := 1) (ent := ⟨g1, 25, [Value.int .i64 o, Value.int .i64 n] ++ (H1.map (Value.int .u8) ++ (H2.map (Value.int .u8) ++ ([Value.slice (some ⟨b, off, none⟩) m c]))), 67⟩) (off := 66) rfl rfl (by exact app_right (a := 2) (i := 64) (rfl) (app_right (a := 32) (i := 32) (ints_len hH1) (app_right (a := 32) (i := 0) (ints_len hH2) (rfl)))))) ?_
  refine TT.free (Wants.none rfl) rfl (fun Z hZ => Gets.loadN rfl agg40 size40 rfl (vs := [Value.int .i64 x.k, Value.int .i64 x.t, Value.int .i64 x.f, Value.int .i64 x.l, Value.slice x.A x.m x.c]) (by simp []) (Row.all (i := 0) (ent := ⟨g2, 40, [Value.int .i64 x.k, Value.int .i64 x.t, Value.int .i64 x.f, Value.int .i64 x.l, Value.slice x.A x.m x.c], 5⟩) rfl rfl rfl)) ?_
  refine TT.emptySlice (Wants.none rfl) rfl rfl Try.underlying23 size40 (fun ge hge => ?_)
  refine TT.appendS (Wants.none rfl) rfl rfl Try.underlying23 mk40 rfl (by decide) rfl rfl (s := 5) (nn := 0) (m := m) (cs := ([] : List Value)) (news := flatC Cs) (OwnS.empty hge rfl) (X0 := []) (List.Perm.refl _) (by rw [flatC_len]; have := hC.1; omega) (fun Z w hZ hs => (hC.at_ hs (fun b hb => (ne_app (ne_app (ne_cons (by show g2 ≠ b; omega) (ne_cons (by show g1 ≠ b; omega) ne_nil)) (hFl.ne hb)) (ne_app (ne_app ne_nil (ne_cons (by show ge ≠ b; omega) ne_nil)) (hZ.ne hb))))).srcAll) (flatC_one' _) (by unfold maxLen; omega) (by omega) (fun vq Hq hvq => ?_)
  refine TT.buildSlice (Wants.none rfl) rfl rfl Try.underlying23 size40 zero40 rfl (by decide) (by decide) (cells := #[Value.int .i64 x.k, Value.int .i64 x.t, Value.int .i64 x.f, Value.int .i64 x.l, Value.slice x.A x.m x.c]) (tot := 5) (by kernel_rfl) (cs := [Value.int .i64 x.k, Value.int .i64 x.t, Value.int .i64 x.f, Value.int .i64 x.l, Value.slice x.A x.m x.c]) rfl rfl (fun gb hgb => ?_)
  refine TT.appendS (Wants.none rfl) rfl rfl Try.underlying23 mk40 rfl (by decide) rfl rfl (s := 5) (nn := (0 + m)) (m := 1) (cs := ([] ++ flatC Cs)) (news := cellsC x) hvq (X0 := [⟨gb, 40, [Value.int .i64 x.k, Value.int .i64 x.t, Value.int .i64 x.f, Value.int .i64 x.l, Value.slice x.A x.m x.c], 5⟩]) List.perm_append_comm rfl (fun Z w hZ hs => lies_srcV (hs.has ⟨gb, 40, [Value.int .i64 x.k, Value.int .i64 x.t, Value.int .i64 x.f, Value.int .i64 x.l, Value.slice x.A x.m x.c], 5⟩ (by simp))) (by intro u hu; exact flatC_one' [x] u (by rw [flatC_one]; exact hu)) (by unfold maxLen; omega) (by omega) (fun vm Hm hvm => ?_)
  refine TT.free (Wants.none rfl) rfl (fun Z hZ => Gets.assign rfl rfl) ?_
  refine TT.nil ?_
  refine TE.heap (H' := [⟨g2, 40, [Value.int .i64 x.k, Value.int .i64 x.t, Value.int .i64 x.f, Value.int .i64 x.l, Value.slice x.A x.m x.c], 5⟩, ⟨g1, 25, [Value.int .i64 o, Value.int .i64 n] ++ (H1.map (Value.int .u8) ++ (H2.map (Value.int .u8) ++ ([Value.slice (some ⟨b, off, none⟩) m c]))), 67⟩] ++ (Hl ++ Hm)) (fun w h => st_keep2 h (fresh_one hgb)) ?_
  have hm : OwnS w.heap.size 40 5 vm (0 + m + 1) (flatC (Cs ++ [x])) Hm := by rw [flatC_app, flatC_one]; exact hvm
  obtain ⟨Am, cm, rfl, hcm3, hcm4⟩ := hm.form
  have hFm : Fresh w Hm := hm.new
  have hFlm := Fresh.app hFl hFm
  refine TE.then ?_
  refine TC.sub (Sub.cons (i := 2) rfl (Sub.cons (i := 4) rfl (Sub.cons (i := 6) rfl (Sub.cons (i := 7) rfl (Sub.cons (i := 8) rfl (Sub.nil)))))) ?_
  refine TC.seq ?_
  refine TC.mixT ([⟨g2, 40, [Value.int .i64 x.k, Value.int .i64 x.t, Value.int .i64 x.f, Value.int .i64 x.l, Value.slice x.A x.m x.c], 5⟩, ⟨g1, 25, [Value.int .i64 o, Value.int .i64 n] ++ (H1.map (Value.int .u8) ++ (H2.map (Value.int .u8) ++ ([Value.slice (some ⟨b, off, none⟩) m c]))), 67⟩] ++ (Hl ++ Hm)) [] (by kernel_rfl) [0, 0, 0, 0, 3, 7, 0, 0, 0, 0, 0, 0, 0, 0, 3, 7, 0, 0, 0, 0, 0, 0, 0] [0, 1, 2, 3, 6, 7, 8, 4, 5, 9, 10, 11, 12, 13, 16, 17, 18, 19, 14, 15, 20, 21, 22] [fun _ _ => True, fun _ _ => True, fun _ _ => True, fun _ _ => True, fun v e => ∃ y : (Option Addr × Nat) × (List CV × List Ent), (((((0 + k + (m - (k + 1))))) ≤ y.1.2 ∧ y.1.2 ≤ 9223372036854775807) ∧ OwnD w.heap.size y.1.1 (((0 + k + (m - (k + 1))))) y.2.1 y.2.2 ∧ sameE y.2.1 (Cs.take k ++ Cs.drop (k + 1))) ∧ v = .agg ([Value.int .i64 o, Value.int .i64 n] ++ (H1.map (Value.int .u8) ++ (H2.map (Value.int .u8) ++ ([Value.slice y.1.1 (((0 + k + (m - (k + 1))))) y.1.2])))).toArray ∧ e = y.2.2, fun u d => u = .agg ([Value.int .i64 ((faultI o n (Cs.take k ++ Cs.drop (k + 1))).1), Value.int .i64 ((faultI o n (Cs.take k ++ Cs.drop (k + 1))).2)]).toArray ∧ d = [], fun _ _ => True, fun _ _ => True, fun _ _ => True, fun _ _ => True, fun _ _ => True, fun _ _ => True, fun _ _ => True, fun _ _ => True, fun v e => ∃ y : (Option Addr × Nat) × (List CV × List Ent), (((((0 + m + 1))) ≤ y.1.2 ∧ y.1.2 ≤ 9223372036854775807) ∧ OwnD w.heap.size y.1.1 (((0 + m + 1))) y.2.1 y.2.2 ∧ sameE y.2.1 (Cs ++ [x])) ∧ v = .agg ([Value.int .i64 o, Value.int .i64 n] ++ (H1.map (Value.int .u8) ++ (H2.map (Value.int .u8) ++ ([Value.slice y.1.1 (((0 + m + 1))) y.1.2])))).toArray ∧ e = y.2.2, fun u d => u = .agg ([Value.int .i64 ((faultI o n (Cs ++ [x])).1), Value.int .i64 ((faultI o n (Cs ++ [x])).2)]).toArray ∧ d = [], fun _ _ => True, fun _ _ => True, fun _ _ => True, fun _ _ => True, fun _ _ => True, fun _ _ => True, fun _ _ => True] (by kernel_rfl) (by kernel_rfl) (List.Perm.of_eq (List.append_nil _).symm) Fresh.nil ?_
  refine TT.call0 (Wants.none rfl) rfl enters9 rfl rfl (v := .bool true) (fun Z w hZ hs => alive_c w) ?_
  refine TT.free (Wants.none rfl) rfl (fun Z hZ => Gets.move rfl rfl) ?_
  refine TT.free (Wants.yes rfl rfl rfl) rfl (fun Z hZ => Gets.loadN rfl agg25 size25 rfl (vs := [Value.int .i64 o, Value.int .i64 n] ++ (H1.map (Value.int .u8) ++ (H2.map (Value.int .u8) ++ ([Value.slice (some ⟨b, off, none⟩) m c])))) (by simp [hH1, hH2]) (Row.all (i := 1) (ent := ⟨g1, 25, [Value.int .i64 o, Value.int .i64 n] ++ (H1.map (Value.int .u8) ++ (H2.map (Value.int .u8) ++ ([Value.slice (some ⟨b, off, none⟩) m c]))), 67⟩) rfl rfl rfl)) ?_
  refine TT.free (Wants.yes rfl rfl rfl) rfl (fun Z hZ => Gets.move rfl rfl) ?_
  refine TT.free (Wants.yes rfl rfl rfl) rfl (fun Z hZ => Gets.fieldAddr rfl Try.underlying40 rfl size3 rfl (off' := 1) (by first | rfl | omega)) ?_
  refine TT.free (Wants.yes rfl rfl rfl) rfl (fun Z hZ => Gets.load1 rfl agg3 rfl (At.ent (i := 0) (ent := ⟨g2, 40, [Value.int .i64 x.k, Value.int .i64 x.t, Value.int .i64 x.f, Value.int .i64 x.l, Value.slice x.A x.m x.c], 5⟩) (off := 1) rfl rfl (by exact rfl))) ?_
  refine TT.free (Wants.yes rfl rfl rfl) rfl (fun Z hZ => Gets.build rfl (vs := [(0, Value.int .i64 3), (1, Value.int .i64 x.t)]) rfl (fun w => by first | rfl | kernel_rfl) (v := .agg ([Value.int .i64 3, Value.int .i64 x.t]).toArray)) ?_
  refine TT.call (ι := (Option Addr × Nat) × (List CV × List Ent)) (V := fun y => .agg ([Value.int .i64 o, Value.int .i64 n] ++ (H1.map (Value.int .u8) ++ (H2.map (Value.int .u8) ++ ([Value.slice y.1.1 (((0 + k + (m - (k + 1))))) y.1.2])))).toArray) (R := fun y => ((((0 + k + (m - (k + 1))))) ≤ y.1.2 ∧ y.1.2 ≤ 9223372036854775807) ∧ OwnD w.heap.size y.1.1 (((0 + k + (m - (k + 1))))) y.2.1 y.2.2 ∧ sameE y.2.1 (Cs.take k ++ Cs.drop (k + 1))) (E := fun y => y.2.2) (Wants.yes rfl rfl rfl) rfl enters21 rfl rfl (fun Z w hZ hs => (dwith_c o n H1 H2 hH1 hH2 (some ⟨b, off, none⟩) m c Al (((0 + k + (m - (k + 1))))) cl (Cs.take k ++ Cs.drop (k + 1)) (by omega) (hN.sub subL) w (hl.srcC (fun e he => hs.has e (by simp [he]))) ((hD.at_ hs (fun b hb => (ne_app (ne_app (ne_cons (by show g2 ≠ b; omega) (ne_cons (by show g1 ≠ b; omega) ne_nil)) (hFlm.ne hb)) (hZ.ne hb)))).sub subL) (fewQ.sub hf subL (by have := hC.1; have := hf.2; simp only [List.length_append, List.length_take, List.length_drop]; omega))).mono fun e w' ⟨A', c', Fs, He, he, hc, ho, hsm, hw⟩ => ⟨((A', c'), (Fs, He)), he, ⟨hc, ho.mono hs.size, hsm⟩, ho.1, hw⟩) (fun y hR hFy => ?_)
  obtain ⟨⟨Ax, cx⟩, Fx, Ex⟩ := y
  obtain ⟨hcx, hox, hsmx⟩ := hR
  dsimp only at hcx hox hsmx ⊢
  have hFx : Fresh w Ex := hox.1
  refine TT.callR (Wants.yes rfl rfl rfl) rfl enters11 rfl rfl (v := .agg ([Value.int .i64 ((faultI o n (Cs.take k ++ Cs.drop (k + 1))).1), Value.int .i64 ((faultI o n (Cs.take k ++ Cs.drop (k + 1))).2)]).toArray) (fun Z w hZ hs => (dcheck_c o n H1 H2 hH1 hH2 Ax (((0 + k + (m - (k + 1))))) cx Fx (by omega) hox.num w (hox.src (fun e he => hs.has e (by simp [he]))) (hox.dat (fun e he => hs.has e (by simp [he]))) (fewQ.same (fewQ.sub hf subL (by have := hC.1; have := hf.2; simp only [List.length_append, List.length_take, List.length_drop]; omega)) hsmx) (by omega) (by omega)).mono fun e w' h => by rw [faultI_same hsmx] at h; exact h) ?_
  refine TT.free (Wants.yes rfl rfl rfl) rfl (fun Z hZ => Gets.isTrue (Gets.pairEq rfl Try.underlying32 (by decide) (by decide) rfl rfl Try.underlying30 Try.underlying3 sih32 geq32 rfl rfl) (by rw [breaks_less hVC hx]; exact ⟨rfl, rfl⟩)) ?_
  refine TT.free (Wants.none rfl) rfl (fun Z hZ => Gets.pickT rfl rfl rfl) ?_
  refine TT.free (Wants.none rfl) rfl (fun Z hZ => Gets.move rfl rfl) ?_
  refine TT.free (Wants.yes rfl rfl rfl) rfl (fun Z hZ => Gets.loadN rfl agg25 size25 rfl (vs := [Value.int .i64 o, Value.int .i64 n] ++ (H1.map (Value.int .u8) ++ (H2.map (Value.int .u8) ++ ([Value.slice (some ⟨b, off, none⟩) m c])))) (by simp [hH1, hH2]) (Row.all (i := 1) (ent := ⟨g1, 25, [Value.int .i64 o, Value.int .i64 n] ++ (H1.map (Value.int .u8) ++ (H2.map (Value.int .u8) ++ ([Value.slice (some ⟨b, off, none⟩) m c]))), 67⟩) rfl rfl rfl)) ?_
  refine TT.free (Wants.yes rfl rfl rfl) rfl (fun Z hZ => Gets.move rfl rfl) ?_
  refine TT.free (Wants.yes rfl rfl rfl) rfl (fun Z hZ => Gets.fieldAddr rfl Try.underlying25 rfl size23 rfl (off' := 66) (by first | rfl | omega)) ?_
  refine TT.free (Wants.yes rfl rfl rfl) rfl (fun Z hZ => Gets.load1 rfl agg23 rfl (At.ent (i := 1) (ent := ⟨g1, 25, [Value.int .i64 o, Value.int .i64 n] ++ (H1.map (Value.int .u8) ++ (H2.map (Value.int .u8) ++ ([Value.slice (some ⟨b, off, none⟩) m c]))), 67⟩) (off := 66) rfl rfl (by exact app_right (a := 2) (i := 64) (rfl) (app_right (a := 32) (i := 32) (ints_len hH1) (app_right (a := 32) (i := 0) (ints_len hH2) (rfl)))))) ?_
  refine TT.free (Wants.yes rfl rfl rfl) rfl (fun Z hZ => Gets.lenSlice rfl Try.underlying23 rfl) ?_
  refine TT.free (Wants.yes rfl rfl rfl) rfl (fun Z hZ => Gets.build rfl (vs := [(0, Value.int .i64 4), (1, Value.int .i64 (m : Int))]) rfl (fun w => by first | rfl | kernel_rfl) (v := .agg ([Value.int .i64 4, Value.int .i64 (m : Int)]).toArray)) ?_
  refine TT.call (ι := (Option Addr × Nat) × (List CV × List Ent)) (V := fun y => .agg ([Value.int .i64 o, Value.int .i64 n] ++ (H1.map (Value.int .u8) ++ (H2.map (Value.int .u8) ++ ([Value.slice y.1.1 (((0 + m + 1))) y.1.2])))).toArray) (R := fun y => ((((0 + m + 1))) ≤ y.1.2 ∧ y.1.2 ≤ 9223372036854775807) ∧ OwnD w.heap.size y.1.1 (((0 + m + 1))) y.2.1 y.2.2 ∧ sameE y.2.1 (Cs ++ [x])) (E := fun y => y.2.2) (Wants.yes rfl rfl rfl) rfl enters21 rfl rfl (fun Z w hZ hs => (dwith_c o n H1 H2 hH1 hH2 (some ⟨b, off, none⟩) m c Am (((0 + m + 1))) cm (Cs ++ [x]) (by omega) (hN.sub subM) w (hm.srcC (fun e he => hs.has e (by simp [he]))) ((hD.at_ hs (fun b hb => (ne_app (ne_app (ne_cons (by show g2 ≠ b; omega) (ne_cons (by show g1 ≠ b; omega) ne_nil)) (hFlm.ne hb)) (hZ.ne hb)))).sub subM) (fewQ.sub hf subM (by have := hC.1; have := hf.2; simp only [List.length_append, List.length_singleton]; omega))).mono fun e w' ⟨A', c', Fs, He, he, hc, ho, hsm, hw⟩ => ⟨((A', c'), (Fs, He)), he, ⟨hc, ho.mono hs.size, hsm⟩, ho.1, hw⟩) (fun y hR hFy => ?_)
  obtain ⟨⟨Ay, cy⟩, Fy, Ey⟩ := y
  obtain ⟨hcy, hoy, hsmy⟩ := hR
  dsimp only at hcy hoy hsmy ⊢
  have hFy : Fresh w Ey := hoy.1
  refine TT.callR (Wants.yes rfl rfl rfl) rfl enters11 rfl rfl (v := .agg ([Value.int .i64 ((faultI o n (Cs ++ [x])).1), Value.int .i64 ((faultI o n (Cs ++ [x])).2)]).toArray) (fun Z w hZ hs => (dcheck_c o n H1 H2 hH1 hH2 Ay (((0 + m + 1))) cy Fy (by omega) hoy.num w (hoy.src (fun e he => hs.has e (by simp [he]))) (hoy.dat (fun e he => hs.has e (by simp [he]))) (fewQ.same (fewQ.sub hf subM (by have := hC.1; have := hf.2; simp only [List.length_append, List.length_singleton]; omega)) hsmy) (by omega) (by omega)).mono fun e w' h => by rw [faultI_same hsmy] at h; exact h) ?_
  refine TT.free (Wants.yes rfl rfl rfl) rfl (fun Z hZ => Gets.isTrue (Gets.pairEq rfl Try.underlying32 (by decide) (by decide) rfl rfl Try.underlying30 Try.underlying3 sih32 geq32 rfl rfl) (by rw [breaks_more hVC hx]; have := hC.1; exact ⟨rfl, by rw [this]⟩)) ?_
  refine TT.free (Wants.none rfl) rfl (fun Z hZ => Gets.pickT rfl rfl rfl) ?_
  refine TT.free (Wants.none rfl) rfl (fun Z hZ => Gets.assign rfl rfl) ?_
  refine TT.nil ?_
  refine TE.then ?_
  refine TC.ret ?_
  exact TE.ret1 rfl rfl (fun w hs => ⟨rfl, St.none hs (Fresh.app (Fresh.app (Fresh.cons (by assumption) (Fresh.cons (by assumption) Fresh.nil)) hFlm) (Fresh.app (Fresh.app Fresh.nil hFx) hFy))⟩)


theorem deltaBreaks_walk (o n : Int) (H1 H2 : List Int) (hH1 : H1.length = 32) (hH2 : H2.length = 32) (A : Option Addr) (m c : Nat) (Cs : List CV) (i : Int) (w : World) (bo : -9223372036854775808 ≤ o ∧ o ≤ 9223372036854775807) (bn : -9223372036854775808 ≤ n ∧ n ≤ 9223372036854775807) (hmc : m ≤ c) (hcm : c ≤ 9223372036854775807) (hN : NumsC Cs) (hC : SrcC w A m Cs) (hD : DatC w Cs) (hA : A = none → m = 0) (hB1 : Bytes H1) (hB2 : Bytes H2) (hi : 0 ≤ i ∧ i ≤ 255) : Calls Try.prog 7 #[.agg ([Value.int .i64 o, Value.int .i64 n] ++ (H1.map (Value.int .u8) ++ (H2.map (Value.int .u8) ++ ([Value.slice A m c])))).toArray, .int .u8 i] w fun e w' => e = .returned (.bool true) ∧ St w [] w' := by
  have h1 : m ≤ 9223372036854775807 ∧ ((-9223372036854775808 ≤ o ∧ o ≤ 9223372036854775807) ∧ (-9223372036854775808 ≤ n ∧ n ≤ 9223372036854775807)) := by omega
  by_cases hf : fewP Cs
  · by_cases hv : (faultI o n Cs).1 = 0
    · by_cases h0 : m = 0
      · exact dbreaks_nil o n H1 H2 hH1 hH2 A m c Cs h1 hN w hC hD i hi hmc hcm hf hv h0
      · have h2 := Int.tmod_nonneg (m : Int) hi.1
        have h3 := Int.tmod_lt_of_pos i (show (0 : Int) < (m : Int) by omega)
        exact dbreaks_yes o n H1 H2 hH1 hH2 A m c Cs h1 hN w hC hD i hi hmc hcm hf hv h0 (i.tmod (m : Int)).toNat (by omega) (by omega)
    · exact dbreaks_bad o n H1 H2 hH1 hH2 A m c Cs h1 hN w hC hD i hi hmc hcm hf hv
  · exact dbreaks_no o n H1 H2 hH1 hH2 A m c Cs h1 hN w hC hD i hi hmc hcm hf
end Go.Proofs.Ytkgamkjdkapchaa
/-
  A law's frame: arguments opened, tables that start-up lays.
-/
namespace Go.Proofs.Ytkgamkjdkapchaa
set_option linter.unusedVariables false
set_option linter.unusedSimpArgs false
open Go Go.RowKit Go.ChangeShapes Go.WideShapes Go.ChangeAt Go.Joins Go.Deep

theorem own_knob : ownKnob Try.prog.godebug = none := by kernel_rfl
theorem laid_out : laidOutB Try.prog = true := by kernel_rfl

section
variable {H : Type} {enc : TypeId × Value → H} {P : Program} {W : World} {base fuel : Nat} {sp : Nat → Bool} {held : Bool} {t e : TypeId} {kd : IntKind}
/-- An array of numbers that reads as known ones. -/
theorem cells_of_table {n : Nat} {cs : List Value} {T : List Int} {p : List MemPlace} (ht : P.underlying t = some (.array n e)) (he : P.underlying e = some (.int kd)) (hc : P.cellsOf e = 1) (hn : P.cellsOf t = n)
    (hd : DataW.trod enc P W base sp held fuel t cs = some (.agg (T.map fun x => .lit (.int kd x)), p)) : cs = T.map (Value.int kd) := by
  obtain ⟨xs, m, _, hx, hlen, hxn, hel⟩ := DataW.trod_array ht hd
  simp only [Prod.mk.injEq, DataW.agg.injEq] at hx
  have hTn : T.length = n := by
    have := congrArg List.length hx.1
    simp at this; omega
  apply List.ext_getElem (by simp; omega)
  intro i h1 h2
  have hi : i < n := by omega
  have h3 := hel i hi
  rw [hc, Nat.mul_one, List.getElem?_eq_getElem (by omega : i < xs.length)] at h3
  have h4 : (cs.drop i).take 1 = [cs[i]] := by
    rw [List.drop_eq_getElem_cons h1]; rfl
  rw [h4] at h3
  obtain ⟨k, e1, e2, _⟩ := DataW.trod_int he h3
  have h5 : (xs.map (·.1))[i]? = (T.map fun x => DataW.lit (.int kd x))[i]? := by rw [hx.1]
  have hxi : i < xs.length := by omega
  have hTi : i < T.length := by omega
  simp only [List.getElem?_map, List.getElem?_eq_getElem hxi, List.getElem?_eq_getElem hTi, Option.map_some, Option.some.injEq] at h5
  rw [e2] at h5
  simp only [DataW.lit.injEq, Lit.int.injEq, true_and] at h5
  simp only [List.cons.injEq, and_true] at e1
  rw [e1, List.getElem_map, h5]

theorem wf_u8b {n : Int} (h : (Lit.int .u8 n).wf = true) : 0 ≤ n ∧ n ≤ 255 := by
  simp [Lit.wf, IntKind.min, IntKind.max, IntKind.signed, IntKind.bits] at h
  exact h
theorem wf_i64b {n : Int} (h : (Lit.int .i64 n).wf = true) : -9223372036854775808 ≤ n ∧ n ≤ 9223372036854775807 := by
  simp [Lit.wf, IntKind.min, IntKind.max, IntKind.signed, IntKind.bits] at h
  exact h
/-- A slice of bytes that came in. -/
theorem open_bytes {v : Value} {d : DataW H} {ps : List MemPlace} (ht : P.underlying t = some (.slice e)) (he : P.underlying e = some (.int .u8)) (hc : P.cellsOf e = 1) (hv : Value.okWide P W .any base t v)
    (h : DataW.Trod enc P W 0 (fun _ => true) true t v d ps) : ∃ (A : Option Addr) (m c : Nat) (B : List Int), v = .slice A m c ∧ m ≤ c ∧ c ≤ 9223372036854775807 ∧ Src W A m .u8 B ∧ ∀ x ∈ B, 0 ≤ x ∧ x ≤ 255 := by
  obtain ⟨a0, len0, cap0, rfl⟩ := okWide_slice ht hv
  obtain ⟨fuel, hf⟩ := h
  rcases open_ints ht he hc hf with ⟨hcs, _⟩ | ⟨a, len, cap, zs, hcs, _, hl, hm, hz, _, hcell, hwf⟩
  · simp [Value.cells] at hcs
    obtain ⟨rfl, rfl, rfl⟩ := hcs
    exact ⟨none, 0, 0, [], rfl, Nat.le_refl _, by omega, ⟨rfl, .inl rfl⟩, by simp⟩
  · simp [Value.cells] at hcs
    obtain ⟨rfl, rfl, rfl⟩ := hcs
    simp only [if_true] at hz
    refine ⟨some a, len0, cap0, zs.take len0, rfl, hl, hm, ⟨by simp; omega, ?_⟩, fun x hx => wf_u8b (hwf x (List.mem_of_mem_take hx))⟩
    by_cases h0 : len0 = 0
    · exact .inl h0
    · right
      obtain ⟨b, off, spot⟩ := a
      have hc0 := hcell 0 (by omega)
      have hspot : spot = none := by simpa [Addr.add] using World.cell?_spot hc0
      subst hspot
      refine ⟨b, off, rfl, World.block_lt_of_cell? W _ hc0, fun j hj => ?_⟩
      have := hcell j (by omega)
      rw [addr_add] at this
      rw [this]
      simp [List.getD_eq_getElem?_getD, List.getElem?_take, hj]
/-- A slice of slices of bytes that came in. -/
theorem open_bss {q : TypeId} {v : Value} {d : DataW H} {ps : List MemPlace} (ht : P.underlying t = some (.slice e)) (he : P.underlying e = some (.slice q)) (hq : P.underlying q = some (.int .u8)) (ce : P.cellsOf e = 1) (cq : P.cellsOf q = 1) (hv : Value.okWide P W .any base t v)
    (h : DataW.Trod enc P W 0 (fun _ => true) true t v d ps) : ∃ (A : Option Addr) (m c : Nat) (Ps : List (List Int)), v = .slice A m c ∧ m ≤ c ∧ c ≤ 9223372036854775807 ∧
      (Ps.length = m ∧ (m = 0 ∨ ∃ b off, A = some ⟨b, off, none⟩ ∧ b < W.heap.size ∧ ∀ i, i < m → ∃ Ai mi ci, W.cell? ⟨b, off + i, none⟩ = some (.slice Ai mi ci) ∧ Src W Ai mi .u8 (Ps.getD i []) ∧ mi ≤ ci)) := by
  obtain ⟨a0, len0, cap0, rfl⟩ := okWide_slice ht hv
  obtain ⟨fuel, hf⟩ := h
  rcases open_int_rows ht he hq ce cq hf with ⟨hcs, _⟩ | ⟨a, len, cap, A, L, C, Z, hcs, _, hl, hm, _, hrow⟩
  · simp [Value.cells] at hcs
    obtain ⟨rfl, rfl, rfl⟩ := hcs
    exact ⟨none, 0, 0, [], rfl, Nat.le_refl _, by omega, rfl, .inl rfl⟩
  · simp [Value.cells] at hcs
    obtain ⟨rfl, rfl, rfl⟩ := hcs
    refine ⟨some a, len0, cap0, (List.range len0).map fun r => (Z r).take (L r), rfl, hl, hm, by simp, ?_⟩
    by_cases h0 : len0 = 0
    · exact .inl h0
    · right
      obtain ⟨b, off, spot⟩ := a
      have hc0 := (hrow 0 (by omega)).1
      have hspot : spot = none := by simpa [Addr.add] using World.cell?_spot hc0
      subst hspot
      refine ⟨b, off, rfl, World.block_lt_of_cell? W _ hc0, fun i hi => ?_⟩
      obtain ⟨g1, g2, g3, g4, g5, g6, g7⟩ := hrow i (by omega)
      rw [addr_add] at g1
      refine ⟨A i, L i, C i, g1, ?_, g2⟩
      have hget : ((List.range len0).map fun r => (Z r).take (L r)).getD i [] = (Z i).take (L i) := by simp [hi]
      rw [hget]
      refine ⟨by simp; omega, ?_⟩
      by_cases hl0 : L i = 0
      · exact .inl hl0
      · right
        cases hA : A i with
        | none => have := g6 hA; omega
        | some a' =>
          obtain ⟨_, hz⟩ := g7 a' hA
          obtain ⟨b', off', spot'⟩ := a'
          have hc1 := hz 0 (by omega)
          have hspot' : spot' = none := by simpa [Addr.add] using World.cell?_spot hc1
          subst hspot'
          refine ⟨b', off', rfl, World.block_lt_of_cell? W _ hc1, fun j hj => ?_⟩
          have := hz j (by omega)
          rw [addr_add] at this
          rw [this]
          simp [List.getD_eq_getElem?_getD, List.getElem?_take, hj]
end
end Go.Proofs.Ytkgamkjdkapchaa
namespace Go.Proofs.Ytkgamkjdkapchaa
set_option linter.unusedVariables false
set_option linter.unusedSimpArgs false
open Go Go.RowKit Go.ChangeShapes Go.WideShapes Go.ChangeAt Go.Joins Go.Deep
section
variable {H : Type} {enc : TypeId × Value → H} {P : Program} {W : World} {base fuel : Nat} {sp : Nat → Bool} {held : Bool} {t e : TypeId} {kd : IntKind}
theorem open_bssB {q : TypeId} {v : Value} {d : DataW H} {ps : List MemPlace} (ht : P.underlying t = some (.slice e)) (he : P.underlying e = some (.slice q)) (hq : P.underlying q = some (.int .u8)) (ce : P.cellsOf e = 1) (cq : P.cellsOf q = 1) (hv : Value.okWide P W .any base t v)
    (h : DataW.Trod enc P W 0 (fun _ => true) true t v d ps) : ∃ (A : Option Addr) (m c : Nat) (Ps : List (List Int)), v = .slice A m c ∧ m ≤ c ∧ c ≤ 9223372036854775807 ∧
      (Ps.length = m ∧ (m = 0 ∨ ∃ b off, A = some ⟨b, off, none⟩ ∧ b < W.heap.size ∧ ∀ i, i < m → ∃ Ai mi ci, W.cell? ⟨b, off + i, none⟩ = some (.slice Ai mi ci) ∧ Src W Ai mi .u8 (Ps.getD i []) ∧ mi ≤ ci)) ∧ ∀ x ∈ Ps.flatten, 0 ≤ x ∧ x ≤ 255 := by
  obtain ⟨a0, len0, cap0, rfl⟩ := okWide_slice ht hv
  obtain ⟨fuel, hf⟩ := h
  rcases open_int_rows ht he hq ce cq hf with ⟨hcs, _⟩ | ⟨a, len, cap, A, L, C, Z, hcs, _, hl, hm, _, hrow⟩
  · simp [Value.cells] at hcs
    obtain ⟨rfl, rfl, rfl⟩ := hcs
    exact ⟨none, 0, 0, [], rfl, Nat.le_refl _, by omega, ⟨rfl, .inl rfl⟩, by simp⟩
  · simp [Value.cells] at hcs
    obtain ⟨rfl, rfl, rfl⟩ := hcs
    refine ⟨some a, len0, cap0, (List.range len0).map fun r => (Z r).take (L r), rfl, hl, hm, ⟨by simp, ?_⟩, ?_⟩
    · by_cases h0 : len0 = 0
      · exact .inl h0
      · right
        obtain ⟨b, off, spot⟩ := a
        have hc0 := (hrow 0 (by omega)).1
        have hspot : spot = none := by simpa [Addr.add] using World.cell?_spot hc0
        subst hspot
        refine ⟨b, off, rfl, World.block_lt_of_cell? W _ hc0, fun i hi => ?_⟩
        obtain ⟨g1, g2, g3, g4, g5, g6, g7⟩ := hrow i (by omega)
        rw [addr_add] at g1
        refine ⟨A i, L i, C i, g1, ?_, g2⟩
        have hget : ((List.range len0).map fun r => (Z r).take (L r)).getD i [] = (Z i).take (L i) := by simp [hi]
        rw [hget]
        refine ⟨by simp; omega, ?_⟩
        by_cases hl0 : L i = 0
        · exact .inl hl0
        · right
          cases hA : A i with
          | none => have := g6 hA; omega
          | some a' =>
            obtain ⟨_, hz⟩ := g7 a' hA
            obtain ⟨b', off', spot'⟩ := a'
            have hc1 := hz 0 (by omega)
            have hspot' : spot' = none := by simpa [Addr.add] using World.cell?_spot hc1
            subst hspot'
            refine ⟨b', off', rfl, World.block_lt_of_cell? W _ hc1, fun j hj => ?_⟩
            have := hz j (by omega)
            rw [addr_add] at this
            rw [this]
            simp [List.getD_eq_getElem?_getD, List.getElem?_take, hj]
    · intro x hx
      obtain ⟨l, hl1, hl2⟩ := List.mem_flatten.1 hx
      obtain ⟨r, hr, rfl⟩ := List.mem_map.1 hl1
      have hr' := List.mem_range.1 hr
      obtain ⟨_, _, _, _, g5, _, _⟩ := hrow r (by omega)
      exact wf_u8b (g5 x (List.mem_of_mem_take hl2))
end
end Go.Proofs.Ytkgamkjdkapchaa
