/-
  The code of layer 5: checkCommand, Check, Valid.
-/
import Derived.Test.YtkgamkjdkapchaaDcC
namespace Go.Proofs.Ytkgamkjdkapchaa
set_option linter.unusedVariables false
set_option linter.unusedSimpArgs false
open Go Go.RowKit
theorem enters11 : Enters Try.prog 11 := ⟨_, Try.func11, by kernel_rfl, by kernel_rfl⟩
theorem enters31 : Enters Try.prog 31 := ⟨_, Try.func31, by kernel_rfl, by kernel_rfl⟩
theorem enters32 : Enters Try.prog 32 := ⟨_, Try.func32, by kernel_rfl, by kernel_rfl⟩
theorem enters33 : Enters Try.prog 33 := ⟨_, Try.func33, by kernel_rfl, by kernel_rfl⟩
theorem enters45 : Enters Try.prog 45 := ⟨_, Try.func45, by kernel_rfl, by kernel_rfl⟩
theorem enters46 : Enters Try.prog 46 := ⟨_, Try.func46, by kernel_rfl, by kernel_rfl⟩
theorem enters47 : Enters Try.prog 47 := ⟨_, Try.func47, by kernel_rfl, by kernel_rfl⟩
theorem geq32 : Try.prog.eqGuardType Try.prog.depth 32 = false := by kernel_rfl
theorem sih32 : Try.prog.stoodInHeld 32 = false := by kernel_rfl
set_option maxRecDepth 100000 in
set_option maxHeartbeats 400000 in
theorem file_c (n : Int) (w : World) : Calls Try.prog 31 #[.int .i64 n] w fun e w' => e = .returned (.agg ([Value.int .i64 0, Value.int .i64 n]).toArray) ∧ St w [] w' := by
  refine calls_from (args := [.int .i64 n]) Try.func31 rfl Try.ntmps31 (by simp) ?_
  refine TC.sub (Sub.cons (i := 0) rfl (Sub.nil)) ?_
  refine TC.seq ?_
  refine TC.regionL ?_
  refine TL.alloc (Wants.none rfl) rfl rfl zero49 (cs := [Value.int .i64 0, Value.int .i64 0]) rfl (tot := 2) (by simp) (fun g1 hg1 => ?_)
  refine TL.nil ?_
  refine TE.then ?_
  refine TC.seq ?_
  refine TC.regionL ?_
  refine TL.gets (Wants.none rfl) rfl (Gets.move rfl rfl) ?_
  refine TL.gets (Wants.none rfl) rfl (Gets.build rfl (vs := [(1, Value.int .i64 n)]) rfl (fun w => by first | rfl | kernel_rfl) (v := .agg ([Value.int .i64 0, Value.int .i64 n]).toArray)) ?_
  refine TL.storeW (Wants.none rfl) rfl rfl size49 rfl (vs := [Value.int .i64 0, Value.int .i64 n]) rfl (by simp []) (by simp [Value.oneCell']) (i := 0) (ent := ⟨g1, 49, [Value.int .i64 0, Value.int .i64 0], 2⟩) rfl rfl (by simp []) (H' := [⟨g1, 49, [Value.int .i64 0, Value.int .i64 n], 2⟩]) rfl ?_
  refine TL.nil ?_
  refine TE.then ?_
  refine TC.ret ?_
  exact TE.retC rfl agg49 size49 rfl (vs := [Value.int .i64 0, Value.int .i64 n]) rfl (Row.all (i := 0) (ent := ⟨g1, 49, [Value.int .i64 0, Value.int .i64 n], 2⟩) rfl rfl rfl) (fun w hs => ⟨rfl, (hs.drop (by assumption))⟩)


theorem code_kind {k t f l : Int} {m : Nat} (h : codeV k t f l m = 0) : k = 1 ∨ k = 2 := by
  by_cases h1 : k = 1
  · exact .inl h1
  · by_cases h2 : k = 2
    · exact .inr h2
    · unfold codeV at h; rw [if_neg h1, if_neg h2] at h; cases h
theorem src1_c (k t f l : Int) (A : Option Addr) (m c : Nat) (hk : k = 1) (w : World) : Calls Try.prog 46 #[.agg ([Value.int .i64 k, Value.int .i64 t, Value.int .i64 f, Value.int .i64 l, Value.slice A m c]).toArray] w fun e w' => e = .returned (.tuple #[.agg ([Value.int .i64 f, Value.int .i64 l]).toArray, .bool true]) ∧ St w [] w' := by
  subst hk; exact source1 t f l A m c w
theorem src2_c (k t f l : Int) (A : Option Addr) (m c : Nat) (hk : k = 2) (w : World) : Calls Try.prog 46 #[.agg ([Value.int .i64 k, Value.int .i64 t, Value.int .i64 f, Value.int .i64 l, Value.slice A m c]).toArray] w fun e w' => e = .returned (.tuple #[.agg ([Value.int .i64 0, Value.int .i64 0]).toArray, .bool false]) ∧ St w [] w' := by
  subst hk; exact source2 t f l A m c w
theorem fault_zero {o n : Int} {Cs : List CV} (h : (faultI o n Cs).1 = 0) : (faultI o n Cs).2 = 0 := by
  obtain ⟨h1, h2, h3, h4⟩ := faultI_valid h
  rw [faultI_gap h1 h2 h3, if_neg (by omega)]

set_option maxRecDepth 100000 in
set_option maxHeartbeats 400000 in
theorem sg_bad (o n : Int) (H1 H2 : List Int) (hH1 : H1.length = 32) (hH2 : H2.length = 32) (A : Option Addr) (m c : Nat) (Cs : List CV) (x : CV) (hok : okLen o n) (hn : NumC x) (hv : ¬ codeV x.k x.t x.f x.l x.m = 0) (w : World) : Calls Try.prog 32 #[.agg ([Value.int .i64 o, Value.int .i64 n] ++ (H1.map (Value.int .u8) ++ (H2.map (Value.int .u8) ++ ([Value.slice A m c])))).toArray, .agg ([Value.int .i64 x.k, Value.int .i64 x.t, Value.int .i64 x.f, Value.int .i64 x.l, Value.slice x.A x.m x.c]).toArray] w fun e w' => e = .returned (.int .i64 (singleV o n x)) ∧ St w [] w' := by
  have hnx := hn
  unfold NumC at hnx
  have hlb := lenV_bd (k := x.k) (l := x.l) (m := x.m) (by omega) (by omega)
  have hok2 := hok
  unfold okLen at hok2
  refine calls_from (args := [.agg ([Value.int .i64 o, Value.int .i64 n] ++ (H1.map (Value.int .u8) ++ (H2.map (Value.int .u8) ++ ([Value.slice A m c])))).toArray, .agg ([Value.int .i64 x.k, Value.int .i64 x.t, Value.int .i64 x.f, Value.int .i64 x.l, Value.slice x.A x.m x.c]).toArray]) Try.func32 rfl Try.ntmps32 (by simp) ?_
  refine TC.sub (Sub.cons (i := 0) rfl (Sub.cons (i := 1) rfl (Sub.nil))) ?_
  refine TC.seq ?_
  refine TC.regionL ?_
  refine TL.box (Wants.none rfl) rfl rfl rfl (cs := [Value.int .i64 o, Value.int .i64 n] ++ (H1.map (Value.int .u8) ++ (H2.map (Value.int .u8) ++ ([Value.slice A m c])))) (by simp [Value.cells]) (tot := 67) (by simp [hH1, hH2]) (fun g1 hg1 => ?_)
  refine TL.box (Wants.none rfl) rfl rfl rfl (cs := [Value.int .i64 x.k, Value.int .i64 x.t, Value.int .i64 x.f, Value.int .i64 x.l, Value.slice x.A x.m x.c]) (by simp [Value.cells]) (tot := 5) (by simp []) (fun g2 hg2 => ?_)
  refine TL.gets (Wants.none rfl) rfl (Gets.assign rfl rfl) ?_
  refine TL.nil ?_
  refine TE.then ?_
  refine TC.seq ?_
  refine TC.seq ?_
  refine TC.regionL ?_
  refine TL.gets (Wants.none rfl) rfl (Gets.loadN rfl agg40 size40 rfl (vs := [Value.int .i64 x.k, Value.int .i64 x.t, Value.int .i64 x.f, Value.int .i64 x.l, Value.slice x.A x.m x.c]) (by simp []) (Row.all (i := 0) (ent := ⟨g2, 40, [Value.int .i64 x.k, Value.int .i64 x.t, Value.int .i64 x.f, Value.int .i64 x.l, Value.slice x.A x.m x.c], 5⟩) rfl rfl rfl)) ?_
  refine TL.call0 (Wants.none rfl) rfl enters45 rfl rfl (v := .int .i64 (codeV x.k x.t x.f x.l x.m)) (fun w hs => check_c x.k x.t x.f x.l x.A x.m x.c (by omega) (by omega) (by omega) (by omega) w) ?_
  refine TL.gets (Wants.none rfl) rfl (Gets.assign rfl rfl) ?_
  refine TL.nil ?_
  refine TE.then ?_
  refine TC.seq ?_
  refine TC.regionL ?_
  refine TL.gets (Wants.none rfl) rfl (Gets.move rfl rfl) ?_
  refine TL.gets (Wants.none rfl) rfl (Gets.isTrue (Gets.neq rfl rfl rfl) hv) ?_
  refine TL.nil ?_
  refine TE.then ?_
  refine TC.sub (Sub.cons (i := 2) rfl (Sub.cons (i := 3) rfl (Sub.cons (i := 4) rfl (Sub.cons (i := 5) rfl (Sub.cons (i := 11) rfl (Sub.nil)))))) ?_
  refine TC.yes rfl ?_
  refine TC.seq ?_
  refine TC.regionL ?_
  refine TL.gets (Wants.none rfl) rfl (Gets.move rfl rfl) ?_
  refine TL.gets (Wants.none rfl) rfl (Gets.assign rfl rfl) ?_
  refine TL.nil ?_
  refine TE.then ?_
  refine TC.ret ?_
  refine TE.thenR ?_
  exact TE.ret1 rfl rfl (fun w hs => ⟨ret_i (by unfold singleV; (try unfold inside_ at *); (repeat' split) <;> first | rfl | (exfalso; omega)), ((hs.drop (by assumption)).drop (by assumption))⟩)

set_option maxRecDepth 100000 in
set_option maxHeartbeats 400000 in
theorem sg_one (o n : Int) (H1 H2 : List Int) (hH1 : H1.length = 32) (hH2 : H2.length = 32) (A : Option Addr) (m c : Nat) (Cs : List CV) (x : CV) (hok : okLen o n) (hn : NumC x) (hv : codeV x.k x.t x.f x.l x.m = 0) (hk : x.k = 1) (w : World) : Calls Try.prog 32 #[.agg ([Value.int .i64 o, Value.int .i64 n] ++ (H1.map (Value.int .u8) ++ (H2.map (Value.int .u8) ++ ([Value.slice A m c])))).toArray, .agg ([Value.int .i64 x.k, Value.int .i64 x.t, Value.int .i64 x.f, Value.int .i64 x.l, Value.slice x.A x.m x.c]).toArray] w fun e w' => e = .returned (.int .i64 (singleV o n x)) ∧ St w [] w' := by
  have hnx := hn
  unfold NumC at hnx
  have hlb := lenV_bd (k := x.k) (l := x.l) (m := x.m) (by omega) (by omega)
  have hok2 := hok
  unfold okLen at hok2
  have hcv := codeV_facts hv
  unfold vld at hcv
  have hcf := hcv.2.2 hk
  refine calls_from (args := [.agg ([Value.int .i64 o, Value.int .i64 n] ++ (H1.map (Value.int .u8) ++ (H2.map (Value.int .u8) ++ ([Value.slice A m c])))).toArray, .agg ([Value.int .i64 x.k, Value.int .i64 x.t, Value.int .i64 x.f, Value.int .i64 x.l, Value.slice x.A x.m x.c]).toArray]) Try.func32 rfl Try.ntmps32 (by simp) ?_
  refine TC.sub (Sub.cons (i := 0) rfl (Sub.cons (i := 1) rfl (Sub.nil))) ?_
  refine TC.seq ?_
  refine TC.regionL ?_
  refine TL.box (Wants.none rfl) rfl rfl rfl (cs := [Value.int .i64 o, Value.int .i64 n] ++ (H1.map (Value.int .u8) ++ (H2.map (Value.int .u8) ++ ([Value.slice A m c])))) (by simp [Value.cells]) (tot := 67) (by simp [hH1, hH2]) (fun g1 hg1 => ?_)
  refine TL.box (Wants.none rfl) rfl rfl rfl (cs := [Value.int .i64 x.k, Value.int .i64 x.t, Value.int .i64 x.f, Value.int .i64 x.l, Value.slice x.A x.m x.c]) (by simp [Value.cells]) (tot := 5) (by simp []) (fun g2 hg2 => ?_)
  refine TL.gets (Wants.none rfl) rfl (Gets.assign rfl rfl) ?_
  refine TL.nil ?_
  refine TE.then ?_
  refine TC.seq ?_
  refine TC.seq ?_
  refine TC.regionL ?_
  refine TL.gets (Wants.none rfl) rfl (Gets.loadN rfl agg40 size40 rfl (vs := [Value.int .i64 x.k, Value.int .i64 x.t, Value.int .i64 x.f, Value.int .i64 x.l, Value.slice x.A x.m x.c]) (by simp []) (Row.all (i := 0) (ent := ⟨g2, 40, [Value.int .i64 x.k, Value.int .i64 x.t, Value.int .i64 x.f, Value.int .i64 x.l, Value.slice x.A x.m x.c], 5⟩) rfl rfl rfl)) ?_
  refine TL.call0 (Wants.none rfl) rfl enters45 rfl rfl (v := .int .i64 (codeV x.k x.t x.f x.l x.m)) (fun w hs => check_c x.k x.t x.f x.l x.A x.m x.c (by omega) (by omega) (by omega) (by omega) w) ?_
  refine TL.gets (Wants.none rfl) rfl (Gets.assign rfl rfl) ?_
  refine TL.nil ?_
  refine TE.then ?_
  refine TC.seq ?_
  refine TC.regionL ?_
  refine TL.gets (Wants.none rfl) rfl (Gets.move rfl rfl) ?_
  refine TL.gets (Wants.none rfl) rfl (Gets.isFalse (Gets.neq rfl rfl rfl) (fun h => h hv)) ?_
  refine TL.nil ?_
  refine TE.then ?_
  refine TC.sub (Sub.cons (i := 2) rfl (Sub.cons (i := 3) rfl (Sub.cons (i := 4) rfl (Sub.cons (i := 5) rfl (Sub.cons (i := 11) rfl (Sub.nil)))))) ?_
  refine TC.no rfl ?_
  refine TC.skip ?_
  refine TE.then ?_
  refine TC.seq ?_
  refine TC.seq ?_
  refine TC.regionL ?_
  refine TL.gets (Wants.none rfl) rfl (Gets.loadN rfl agg40 size40 rfl (vs := [Value.int .i64 x.k, Value.int .i64 x.t, Value.int .i64 x.f, Value.int .i64 x.l, Value.slice x.A x.m x.c]) (by simp []) (Row.all (i := 0) (ent := ⟨g2, 40, [Value.int .i64 x.k, Value.int .i64 x.t, Value.int .i64 x.f, Value.int .i64 x.l, Value.slice x.A x.m x.c], 5⟩) rfl rfl rfl)) ?_
  refine TL.call0 (Wants.none rfl) rfl enters46 rfl rfl (v := .tuple #[.agg ([Value.int .i64 x.f, Value.int .i64 x.l]).toArray, .bool true]) (fun w hs => src1_c x.k x.t x.f x.l x.A x.m x.c hk w) ?_
  refine TL.gets (Wants.none rfl) rfl (Gets.move rfl rfl) ?_
  refine TL.gets (Wants.none rfl) rfl (Gets.extract rfl rfl rfl) ?_
  refine TL.gets (Wants.none rfl) rfl (Gets.extract rfl rfl rfl) ?_
  refine TL.alloc (Wants.none rfl) rfl rfl zero49 (cs := [Value.int .i64 0, Value.int .i64 0]) rfl (tot := 2) (by simp) (fun g3 hg3 => ?_)
  refine TL.storeW (Wants.none rfl) rfl rfl size49 rfl (vs := [Value.int .i64 x.f, Value.int .i64 x.l]) rfl (by simp []) (by simp [Value.oneCell']) (i := 0) (ent := ⟨g3, 49, [Value.int .i64 0, Value.int .i64 0], 2⟩) rfl rfl (by simp []) (H' := [⟨g3, 49, [Value.int .i64 x.f, Value.int .i64 x.l], 2⟩, ⟨g2, 40, [Value.int .i64 x.k, Value.int .i64 x.t, Value.int .i64 x.f, Value.int .i64 x.l, Value.slice x.A x.m x.c], 5⟩, ⟨g1, 25, [Value.int .i64 o, Value.int .i64 n] ++ (H1.map (Value.int .u8) ++ (H2.map (Value.int .u8) ++ ([Value.slice A m c]))), 67⟩]) rfl ?_
  refine TL.gets (Wants.none rfl) rfl (Gets.assign rfl rfl) ?_
  refine TL.nil ?_
  refine TE.then ?_
  refine TC.sub (Sub.cons (i := 2) rfl (Sub.cons (i := 3) rfl (Sub.cons (i := 4) rfl (Sub.cons (i := 6) rfl (Sub.cons (i := 7) rfl (Sub.nil)))))) ?_
  refine TC.seq ?_
  refine TC.mixS [⟨g3, 49, [Value.int .i64 x.f, Value.int .i64 x.l], 2⟩, ⟨g2, 40, [Value.int .i64 x.k, Value.int .i64 x.t, Value.int .i64 x.f, Value.int .i64 x.l, Value.slice x.A x.m x.c], 5⟩, ⟨g1, 25, [Value.int .i64 o, Value.int .i64 n] ++ (H1.map (Value.int .u8) ++ (H2.map (Value.int .u8) ++ ([Value.slice A m c]))), 67⟩] [] (by kernel_rfl) [0, 0, 0, 1, 1, 1, 3, 1, 0, 0] [0, 1, 2, 3, 4, 5, 6, 7, 8, 9] [fun _ _ => True, fun _ _ => True, fun _ _ => True, fun _ _ => True, fun _ _ => True, fun _ _ => True, fun v d => ∃ g, v = .slice (some ⟨g, 0, none⟩) 1 1 ∧ d = [⟨g, 49, [.int .i64 x.f, .int .i64 x.l], 2⟩], fun _ _ => True, fun _ _ => True, fun _ _ => True] (by kernel_rfl) (by kernel_rfl) (perm_pick (p := [0, 1, 2]) (by kernel_rfl) rfl) Fresh.nil ?_
  refine TR.free (Wants.none rfl) rfl (fun _ => Gets.move rfl rfl) ?_
  refine TR.free (Wants.none rfl) rfl (fun _ => Gets.move rfl rfl) ?_
  refine TR.free (Wants.yes rfl rfl rfl) rfl (fun _ => Gets.fieldAddr rfl Try.underlying25 rfl size3 rfl (off' := 0) (by first | rfl | omega)) ?_
  refine TR.gets (Wants.yes rfl rfl rfl) rfl (fun Z hZ => Gets.load1 rfl agg3 rfl (At.ent (i := 2) (ent := ⟨g1, 25, [Value.int .i64 o, Value.int .i64 n] ++ (H1.map (Value.int .u8) ++ (H2.map (Value.int .u8) ++ ([Value.slice A m c]))), 67⟩) (off := 0) rfl rfl (by exact app_left (i := 0) (B := H1.map (Value.int .u8) ++ (H2.map (Value.int .u8) ++ ([Value.slice A m c]))) (rfl)))) ?_
  refine TR.call0 (Wants.yes rfl rfl rfl) rfl enters31 rfl rfl (v := .agg ([Value.int .i64 0, Value.int .i64 o]).toArray) (fun Z w hZ hs => file_c o w) ?_
  refine TR.gets (Wants.yes rfl rfl rfl) rfl (fun Z hZ => Gets.loadN rfl agg49 size49 rfl (vs := [Value.int .i64 x.f, Value.int .i64 x.l]) (by simp []) (Row.all (i := 0) (ent := ⟨g3, 49, [Value.int .i64 x.f, Value.int .i64 x.l], 2⟩) rfl rfl rfl)) ?_
  refine TR.buildSlice (Wants.yes rfl rfl rfl) rfl rfl Try.underlying89 size49 zero49 rfl (by decide) (by decide) (cells := #[.int .i64 x.f, .int .i64 x.l]) (tot := 2) (by kernel_rfl) (cs := [.int .i64 x.f, .int .i64 x.l]) rfl rfl (fun g4 hg4 => ?_)
  refine TR.call0 (Wants.yes rfl rfl rfl) rfl enters47 rfl rfl (v := .bool (decide (inside_ 0 o x.f x.l))) (fun Z w hZ hs => contains1 0 o x.f x.l (by omega) (by omega) g4 (hs.has (⟨g4, 49, [Value.int .i64 x.f, Value.int .i64 x.l], 2⟩) (by simp)).lt (lies_row0 (hs.has (⟨g4, 49, [Value.int .i64 x.f, Value.int .i64 x.l], 2⟩) (by simp)))) ?_
  refine TR.free (Wants.yes rfl rfl rfl) rfl (fun _ => Gets.notP rfl rfl) ?_
  refine TR.free (Wants.none rfl) rfl (fun _ => Gets.pickT rfl rfl rfl) ?_
  refine TR.nil ?_
  refine TE.then ?_
  refine TC.sub (Sub.cons (i := 2) rfl (Sub.cons (i := 3) rfl (Sub.cons (i := 4) rfl (Sub.cons (i := 27) rfl (Sub.nil))))) ?_
  refine TC.split rfl (fun hq1 => ?_) (fun hq1 => ?_)
  · refine TC.seq ?_
    refine TC.regionL ?_
    refine TL.gets (Wants.none rfl) rfl (Gets.assign rfl rfl) ?_
    refine TL.nil ?_
    refine TE.then ?_
    refine TC.ret ?_
    refine TE.thenR ?_
    exact TE.ret1 rfl rfl (fun w hs => ⟨ret_i (by unfold singleV; (try unfold inside_ at *); (repeat' split) <;> first | rfl | (exfalso; omega)), ((((hs.drop (by assumption)).drop (by assumption)).drop (by assumption)).drop (by assumption))⟩)
  · refine TC.skip ?_
    refine TE.then ?_
    refine TC.seq ?_
    refine TC.seq ?_
    refine TC.mixS [⟨g3, 49, [Value.int .i64 x.f, Value.int .i64 x.l], 2⟩, ⟨g2, 40, [Value.int .i64 x.k, Value.int .i64 x.t, Value.int .i64 x.f, Value.int .i64 x.l, Value.slice x.A x.m x.c], 5⟩, ⟨g1, 25, [Value.int .i64 o, Value.int .i64 n] ++ (H1.map (Value.int .u8) ++ (H2.map (Value.int .u8) ++ ([Value.slice A m c]))), 67⟩, ⟨g4, 49, [Value.int .i64 x.f, Value.int .i64 x.l], 2⟩] [] (by kernel_rfl) [0, 1, 1, 1, 1, 3, 1, 0] [0, 1, 2, 3, 4, 5, 6, 7] [fun _ _ => True, fun _ _ => True, fun _ _ => True, fun _ _ => True, fun _ _ => True, fun v d => ∃ g, v = .slice (some ⟨g, 0, none⟩) 1 1 ∧ d = [⟨g, 49, [.int .i64 x.t, .int .i64 (lenV x.k x.l x.m)], 2⟩], fun _ _ => True, fun _ _ => True] (by kernel_rfl) (by kernel_rfl) (perm_pick (p := [0, 1, 2, 3]) (by kernel_rfl) rfl) Fresh.nil ?_
    refine TR.free (Wants.none rfl) rfl (fun _ => Gets.fieldAddr rfl Try.underlying25 rfl size3 rfl (off' := 1) (by first | rfl | omega)) ?_
    refine TR.gets (Wants.none rfl) rfl (fun Z hZ => Gets.load1 rfl agg3 rfl (At.ent (i := 2) (ent := ⟨g1, 25, [Value.int .i64 o, Value.int .i64 n] ++ (H1.map (Value.int .u8) ++ (H2.map (Value.int .u8) ++ ([Value.slice A m c]))), 67⟩) (off := 1) rfl rfl (by exact app_left (i := 1) (B := H1.map (Value.int .u8) ++ (H2.map (Value.int .u8) ++ ([Value.slice A m c]))) (rfl)))) ?_
    refine TR.call0 (Wants.none rfl) rfl enters31 rfl rfl (v := .agg ([Value.int .i64 0, Value.int .i64 n]).toArray) (fun Z w hZ hs => file_c n w) ?_
    refine TR.gets (Wants.none rfl) rfl (fun Z hZ => Gets.loadN rfl agg40 size40 rfl (vs := [Value.int .i64 x.k, Value.int .i64 x.t, Value.int .i64 x.f, Value.int .i64 x.l, Value.slice x.A x.m x.c]) (by simp []) (Row.all (i := 1) (ent := ⟨g2, 40, [Value.int .i64 x.k, Value.int .i64 x.t, Value.int .i64 x.f, Value.int .i64 x.l, Value.slice x.A x.m x.c], 5⟩) rfl rfl rfl)) ?_
    refine TR.call0 (Wants.none rfl) rfl enters34 rfl rfl (v := .agg ([Value.int .i64 x.t, Value.int .i64 (lenV x.k x.l x.m)]).toArray) (fun Z w hZ hs => tgt_c x.k x.t x.f x.l x.A x.m x.c (.inl hk) w) ?_
    refine TR.buildSlice (Wants.none rfl) rfl rfl Try.underlying89 size49 zero49 rfl (by decide) (by decide) (cells := #[.int .i64 x.t, .int .i64 (lenV x.k x.l x.m)]) (tot := 2) (by kernel_rfl) (cs := [.int .i64 x.t, .int .i64 (lenV x.k x.l x.m)]) rfl rfl (fun g5 hg5 => ?_)
    refine TR.call0 (Wants.none rfl) rfl enters47 rfl rfl (v := .bool (decide (inside_ 0 n x.t (lenV x.k x.l x.m)))) (fun Z w hZ hs => contains1 0 n x.t (lenV x.k x.l x.m) (by omega) (by omega) g5 (hs.has (⟨g5, 49, [Value.int .i64 x.t, Value.int .i64 (lenV x.k x.l x.m)], 2⟩) (by simp)).lt (lies_row0 (hs.has (⟨g5, 49, [Value.int .i64 x.t, Value.int .i64 (lenV x.k x.l x.m)], 2⟩) (by simp)))) ?_
    refine TR.free (Wants.none rfl) rfl (fun _ => Gets.notP rfl rfl) ?_
    refine TR.nil ?_
    refine TE.then ?_
    refine TC.sub (Sub.cons (i := 4) rfl (Sub.cons (i := 35) rfl (Sub.nil))) ?_
    refine TC.split rfl (fun hq2 => ?_) (fun hq2 => ?_)
    · refine TC.seq ?_
      refine TC.regionL ?_
      refine TL.gets (Wants.none rfl) rfl (Gets.assign rfl rfl) ?_
      refine TL.nil ?_
      refine TE.then ?_
      refine TC.ret ?_
      refine TE.thenR ?_
      exact TE.ret1 rfl rfl (fun w hs => ⟨ret_i (by unfold singleV; (try unfold inside_ at *); (repeat' split) <;> first | rfl | (exfalso; omega)), (((((hs.drop (by assumption)).drop (by assumption)).drop (by assumption)).drop (by assumption)).drop (by assumption))⟩)
    · refine TC.skip ?_
      refine TE.then ?_
      refine TC.seq ?_
      refine TC.regionL ?_
      refine TL.gets (Wants.none rfl) rfl (Gets.assign rfl rfl) ?_
      refine TL.nil ?_
      refine TE.then ?_
      refine TC.ret ?_
      exact TE.ret1 rfl rfl (fun w hs => ⟨ret_i (by unfold singleV; (try unfold inside_ at *); (repeat' split) <;> first | rfl | (exfalso; omega)), (((((hs.drop (by assumption)).drop (by assumption)).drop (by assumption)).drop (by assumption)).drop (by assumption))⟩)

set_option maxRecDepth 100000 in
set_option maxHeartbeats 400000 in
theorem sg_two (o n : Int) (H1 H2 : List Int) (hH1 : H1.length = 32) (hH2 : H2.length = 32) (A : Option Addr) (m c : Nat) (Cs : List CV) (x : CV) (hok : okLen o n) (hn : NumC x) (hv : codeV x.k x.t x.f x.l x.m = 0) (hk : x.k = 2) (w : World) : Calls Try.prog 32 #[.agg ([Value.int .i64 o, Value.int .i64 n] ++ (H1.map (Value.int .u8) ++ (H2.map (Value.int .u8) ++ ([Value.slice A m c])))).toArray, .agg ([Value.int .i64 x.k, Value.int .i64 x.t, Value.int .i64 x.f, Value.int .i64 x.l, Value.slice x.A x.m x.c]).toArray] w fun e w' => e = .returned (.int .i64 (singleV o n x)) ∧ St w [] w' := by
  have hnx := hn
  unfold NumC at hnx
  have hlb := lenV_bd (k := x.k) (l := x.l) (m := x.m) (by omega) (by omega)
  have hok2 := hok
  unfold okLen at hok2
  have hcv := codeV_facts hv
  unfold vld at hcv
  refine calls_from (args := [.agg ([Value.int .i64 o, Value.int .i64 n] ++ (H1.map (Value.int .u8) ++ (H2.map (Value.int .u8) ++ ([Value.slice A m c])))).toArray, .agg ([Value.int .i64 x.k, Value.int .i64 x.t, Value.int .i64 x.f, Value.int .i64 x.l, Value.slice x.A x.m x.c]).toArray]) Try.func32 rfl Try.ntmps32 (by simp) ?_
  refine TC.sub (Sub.cons (i := 0) rfl (Sub.cons (i := 1) rfl (Sub.nil))) ?_
  refine TC.seq ?_
  refine TC.regionL ?_
  refine TL.box (Wants.none rfl) rfl rfl rfl (cs := [Value.int .i64 o, Value.int .i64 n] ++ (H1.map (Value.int .u8) ++ (H2.map (Value.int .u8) ++ ([Value.slice A m c])))) (by simp [Value.cells]) (tot := 67) (by simp [hH1, hH2]) (fun g1 hg1 => ?_)
  refine TL.box (Wants.none rfl) rfl rfl rfl (cs := [Value.int .i64 x.k, Value.int .i64 x.t, Value.int .i64 x.f, Value.int .i64 x.l, Value.slice x.A x.m x.c]) (by simp [Value.cells]) (tot := 5) (by simp []) (fun g2 hg2 => ?_)
  refine TL.gets (Wants.none rfl) rfl (Gets.assign rfl rfl) ?_
  refine TL.nil ?_
  refine TE.then ?_
  refine TC.seq ?_
  refine TC.seq ?_
  refine TC.regionL ?_
  refine TL.gets (Wants.none rfl) rfl (Gets.loadN rfl agg40 size40 rfl (vs := [Value.int .i64 x.k, Value.int .i64 x.t, Value.int .i64 x.f, Value.int .i64 x.l, Value.slice x.A x.m x.c]) (by simp []) (Row.all (i := 0) (ent := ⟨g2, 40, [Value.int .i64 x.k, Value.int .i64 x.t, Value.int .i64 x.f, Value.int .i64 x.l, Value.slice x.A x.m x.c], 5⟩) rfl rfl rfl)) ?_
  refine TL.call0 (Wants.none rfl) rfl enters45 rfl rfl (v := .int .i64 (codeV x.k x.t x.f x.l x.m)) (fun w hs => check_c x.k x.t x.f x.l x.A x.m x.c (by omega) (by omega) (by omega) (by omega) w) ?_
  refine TL.gets (Wants.none rfl) rfl (Gets.assign rfl rfl) ?_
  refine TL.nil ?_
  refine TE.then ?_
  refine TC.seq ?_
  refine TC.regionL ?_
  refine TL.gets (Wants.none rfl) rfl (Gets.move rfl rfl) ?_
  refine TL.gets (Wants.none rfl) rfl (Gets.isFalse (Gets.neq rfl rfl rfl) (fun h => h hv)) ?_
  refine TL.nil ?_
  refine TE.then ?_
  refine TC.sub (Sub.cons (i := 2) rfl (Sub.cons (i := 3) rfl (Sub.cons (i := 4) rfl (Sub.cons (i := 5) rfl (Sub.cons (i := 11) rfl (Sub.nil)))))) ?_
  refine TC.no rfl ?_
  refine TC.skip ?_
  refine TE.then ?_
  refine TC.seq ?_
  refine TC.seq ?_
  refine TC.regionL ?_
  refine TL.gets (Wants.none rfl) rfl (Gets.loadN rfl agg40 size40 rfl (vs := [Value.int .i64 x.k, Value.int .i64 x.t, Value.int .i64 x.f, Value.int .i64 x.l, Value.slice x.A x.m x.c]) (by simp []) (Row.all (i := 0) (ent := ⟨g2, 40, [Value.int .i64 x.k, Value.int .i64 x.t, Value.int .i64 x.f, Value.int .i64 x.l, Value.slice x.A x.m x.c], 5⟩) rfl rfl rfl)) ?_
  refine TL.call0 (Wants.none rfl) rfl enters46 rfl rfl (v := .tuple #[.agg ([Value.int .i64 0, Value.int .i64 0]).toArray, .bool false]) (fun w hs => src2_c x.k x.t x.f x.l x.A x.m x.c hk w) ?_
  refine TL.gets (Wants.none rfl) rfl (Gets.move rfl rfl) ?_
  refine TL.gets (Wants.none rfl) rfl (Gets.extract rfl rfl rfl) ?_
  refine TL.gets (Wants.none rfl) rfl (Gets.extract rfl rfl rfl) ?_
  refine TL.alloc (Wants.none rfl) rfl rfl zero49 (cs := [Value.int .i64 0, Value.int .i64 0]) rfl (tot := 2) (by simp) (fun g3 hg3 => ?_)
  refine TL.storeW (Wants.none rfl) rfl rfl size49 rfl (vs := [Value.int .i64 0, Value.int .i64 0]) rfl (by simp []) (by simp [Value.oneCell']) (i := 0) (ent := ⟨g3, 49, [Value.int .i64 0, Value.int .i64 0], 2⟩) rfl rfl (by simp []) (H' := [⟨g3, 49, [Value.int .i64 0, Value.int .i64 0], 2⟩, ⟨g2, 40, [Value.int .i64 x.k, Value.int .i64 x.t, Value.int .i64 x.f, Value.int .i64 x.l, Value.slice x.A x.m x.c], 5⟩, ⟨g1, 25, [Value.int .i64 o, Value.int .i64 n] ++ (H1.map (Value.int .u8) ++ (H2.map (Value.int .u8) ++ ([Value.slice A m c]))), 67⟩]) rfl ?_
  refine TL.gets (Wants.none rfl) rfl (Gets.assign rfl rfl) ?_
  refine TL.nil ?_
  refine TE.then ?_
  refine TC.sub (Sub.cons (i := 2) rfl (Sub.cons (i := 3) rfl (Sub.cons (i := 4) rfl (Sub.cons (i := 6) rfl (Sub.cons (i := 7) rfl (Sub.nil)))))) ?_
  refine TC.seq ?_
  refine TC.mixS [⟨g3, 49, [Value.int .i64 0, Value.int .i64 0], 2⟩, ⟨g2, 40, [Value.int .i64 x.k, Value.int .i64 x.t, Value.int .i64 x.f, Value.int .i64 x.l, Value.slice x.A x.m x.c], 5⟩, ⟨g1, 25, [Value.int .i64 o, Value.int .i64 n] ++ (H1.map (Value.int .u8) ++ (H2.map (Value.int .u8) ++ ([Value.slice A m c]))), 67⟩] [] (by kernel_rfl) [0, 0, 0, 0, 0, 0, 0, 0, 0, 0] [0, 1, 2, 3, 4, 5, 6, 7, 8, 9] [fun _ _ => True, fun _ _ => True, fun _ _ => True, fun _ _ => True, fun _ _ => True, fun _ _ => True, fun _ _ => True, fun _ _ => True, fun _ _ => True, fun _ _ => True] (by kernel_rfl) (by kernel_rfl) (perm_pick (p := [0, 1, 2]) (by kernel_rfl) rfl) Fresh.nil ?_
  refine TR.free (Wants.none rfl) rfl (fun _ => Gets.move rfl rfl) ?_
  refine TR.free (Wants.none rfl) rfl (fun _ => Gets.move rfl rfl) ?_
  refine TR.pass rfl rfl rfl rfl rfl ?_
  refine TR.pass rfl rfl rfl rfl rfl ?_
  refine TR.pass rfl rfl rfl rfl rfl ?_
  refine TR.pass rfl rfl rfl rfl rfl ?_
  refine TR.pass rfl rfl rfl rfl rfl ?_
  refine TR.pass rfl rfl rfl rfl rfl ?_
  refine TR.pass rfl rfl rfl rfl rfl ?_
  refine TR.free (Wants.none rfl) rfl (fun _ => Gets.pickF rfl rfl rfl) ?_
  refine TR.nil ?_
  refine TE.then ?_
  refine TC.sub (Sub.cons (i := 2) rfl (Sub.cons (i := 3) rfl (Sub.cons (i := 4) rfl (Sub.cons (i := 27) rfl (Sub.nil))))) ?_
  refine TC.no rfl ?_
  refine TC.skip ?_
  refine TE.then ?_
  refine TC.seq ?_
  refine TC.seq ?_
  refine TC.mixS [⟨g3, 49, [Value.int .i64 0, Value.int .i64 0], 2⟩, ⟨g2, 40, [Value.int .i64 x.k, Value.int .i64 x.t, Value.int .i64 x.f, Value.int .i64 x.l, Value.slice x.A x.m x.c], 5⟩, ⟨g1, 25, [Value.int .i64 o, Value.int .i64 n] ++ (H1.map (Value.int .u8) ++ (H2.map (Value.int .u8) ++ ([Value.slice A m c]))), 67⟩] [] (by kernel_rfl) [0, 1, 1, 1, 1, 3, 1, 0] [0, 1, 2, 3, 4, 5, 6, 7] [fun _ _ => True, fun _ _ => True, fun _ _ => True, fun _ _ => True, fun _ _ => True, fun v d => ∃ g, v = .slice (some ⟨g, 0, none⟩) 1 1 ∧ d = [⟨g, 49, [.int .i64 x.t, .int .i64 (lenV x.k x.l x.m)], 2⟩], fun _ _ => True, fun _ _ => True] (by kernel_rfl) (by kernel_rfl) (perm_pick (p := [0, 1, 2]) (by kernel_rfl) rfl) Fresh.nil ?_
  refine TR.free (Wants.none rfl) rfl (fun _ => Gets.fieldAddr rfl Try.underlying25 rfl size3 rfl (off' := 1) (by first | rfl | omega)) ?_
  refine TR.gets (Wants.none rfl) rfl (fun Z hZ => Gets.load1 rfl agg3 rfl (At.ent (i := 2) (ent := ⟨g1, 25, [Value.int .i64 o, Value.int .i64 n] ++ (H1.map (Value.int .u8) ++ (H2.map (Value.int .u8) ++ ([Value.slice A m c]))), 67⟩) (off := 1) rfl rfl (by exact app_left (i := 1) (B := H1.map (Value.int .u8) ++ (H2.map (Value.int .u8) ++ ([Value.slice A m c]))) (rfl)))) ?_
  refine TR.call0 (Wants.none rfl) rfl enters31 rfl rfl (v := .agg ([Value.int .i64 0, Value.int .i64 n]).toArray) (fun Z w hZ hs => file_c n w) ?_
  refine TR.gets (Wants.none rfl) rfl (fun Z hZ => Gets.loadN rfl agg40 size40 rfl (vs := [Value.int .i64 x.k, Value.int .i64 x.t, Value.int .i64 x.f, Value.int .i64 x.l, Value.slice x.A x.m x.c]) (by simp []) (Row.all (i := 1) (ent := ⟨g2, 40, [Value.int .i64 x.k, Value.int .i64 x.t, Value.int .i64 x.f, Value.int .i64 x.l, Value.slice x.A x.m x.c], 5⟩) rfl rfl rfl)) ?_
  refine TR.call0 (Wants.none rfl) rfl enters34 rfl rfl (v := .agg ([Value.int .i64 x.t, Value.int .i64 (lenV x.k x.l x.m)]).toArray) (fun Z w hZ hs => tgt_c x.k x.t x.f x.l x.A x.m x.c (.inr hk) w) ?_
  refine TR.buildSlice (Wants.none rfl) rfl rfl Try.underlying89 size49 zero49 rfl (by decide) (by decide) (cells := #[.int .i64 x.t, .int .i64 (lenV x.k x.l x.m)]) (tot := 2) (by kernel_rfl) (cs := [.int .i64 x.t, .int .i64 (lenV x.k x.l x.m)]) rfl rfl (fun g4 hg4 => ?_)
  refine TR.call0 (Wants.none rfl) rfl enters47 rfl rfl (v := .bool (decide (inside_ 0 n x.t (lenV x.k x.l x.m)))) (fun Z w hZ hs => contains1 0 n x.t (lenV x.k x.l x.m) (by omega) (by omega) g4 (hs.has (⟨g4, 49, [Value.int .i64 x.t, Value.int .i64 (lenV x.k x.l x.m)], 2⟩) (by simp)).lt (lies_row0 (hs.has (⟨g4, 49, [Value.int .i64 x.t, Value.int .i64 (lenV x.k x.l x.m)], 2⟩) (by simp)))) ?_
  refine TR.free (Wants.none rfl) rfl (fun _ => Gets.notP rfl rfl) ?_
  refine TR.nil ?_
  refine TE.then ?_
  refine TC.sub (Sub.cons (i := 4) rfl (Sub.cons (i := 35) rfl (Sub.nil))) ?_
  refine TC.split rfl (fun hq2 => ?_) (fun hq2 => ?_)
  · refine TC.seq ?_
    refine TC.regionL ?_
    refine TL.gets (Wants.none rfl) rfl (Gets.assign rfl rfl) ?_
    refine TL.nil ?_
    refine TE.then ?_
    refine TC.ret ?_
    refine TE.thenR ?_
    exact TE.ret1 rfl rfl (fun w hs => ⟨ret_i (by unfold singleV; (try unfold inside_ at *); (repeat' split) <;> first | rfl | (exfalso; omega)), ((((hs.drop (by assumption)).drop (by assumption)).drop (by assumption)).drop (by assumption))⟩)
  · refine TC.skip ?_
    refine TE.then ?_
    refine TC.seq ?_
    refine TC.regionL ?_
    refine TL.gets (Wants.none rfl) rfl (Gets.assign rfl rfl) ?_
    refine TL.nil ?_
    refine TE.then ?_
    refine TC.ret ?_
    exact TE.ret1 rfl rfl (fun w hs => ⟨ret_i (by unfold singleV; (try unfold inside_ at *); (repeat' split) <;> first | rfl | (exfalso; omega)), ((((hs.drop (by assumption)).drop (by assumption)).drop (by assumption)).drop (by assumption))⟩)


theorem sg_c (o n : Int) (H1 H2 : List Int) (hH1 : H1.length = 32) (hH2 : H2.length = 32) (A : Option Addr) (m c : Nat) (Cs : List CV) (x : CV) (hok : okLen o n) (hn : NumC x) (w : World) : Calls Try.prog 32 #[.agg ([Value.int .i64 o, Value.int .i64 n] ++ (H1.map (Value.int .u8) ++ (H2.map (Value.int .u8) ++ ([Value.slice A m c])))).toArray, .agg ([Value.int .i64 x.k, Value.int .i64 x.t, Value.int .i64 x.f, Value.int .i64 x.l, Value.slice x.A x.m x.c]).toArray] w fun e w' => e = .returned (.int .i64 (singleV o n x)) ∧ St w [] w' := by
  by_cases hv : codeV x.k x.t x.f x.l x.m = 0
  · rcases code_kind hv with hk | hk
    · exact sg_one o n H1 H2 hH1 hH2 A m c Cs x hok hn hv hk w
    · exact sg_two o n H1 H2 hH1 hH2 A m c Cs x hok hn hv hk w
  · exact sg_bad o n H1 H2 hH1 hH2 A m c Cs x hok hn hv w

set_option maxRecDepth 100000 in
set_option maxHeartbeats 1000000 in
theorem dcheck_c (o n : Int) (H1 H2 : List Int) (hH1 : H1.length = 32) (hH2 : H2.length = 32) (A : Option Addr) (m c : Nat) (Cs : List CV) (hmm : m ≤ 1000000000) (hN : NumsC Cs) (w : World) (hC : SrcC w A m Cs) (hD : DatC w Cs) (hf : fewQ Cs) (bo : -9223372036854775808 ≤ o ∧ o ≤ 9223372036854775807) (bn : -9223372036854775808 ≤ n ∧ n ≤ 9223372036854775807)  : Calls Try.prog 11 #[.agg ([Value.int .i64 o, Value.int .i64 n] ++ (H1.map (Value.int .u8) ++ (H2.map (Value.int .u8) ++ ([Value.slice A m c])))).toArray] w fun e w' => e = .returned (.agg ([Value.int .i64 ((faultI o n Cs).1), Value.int .i64 ((faultI o n Cs).2)]).toArray) ∧ St w [] w' := by
  refine calls_from (args := [.agg ([Value.int .i64 o, Value.int .i64 n] ++ (H1.map (Value.int .u8) ++ (H2.map (Value.int .u8) ++ ([Value.slice A m c])))).toArray]) Try.func11 rfl Try.ntmps11 (by simp) ?_
  refine TC.sub (Sub.cons (i := 0) rfl (Sub.nil)) ?_
  refine TC.seq ?_
  refine TC.regionL ?_
  refine TL.box (Wants.none rfl) rfl rfl rfl (cs := [Value.int .i64 o, Value.int .i64 n] ++ (H1.map (Value.int .u8) ++ (H2.map (Value.int .u8) ++ ([Value.slice A m c])))) (by simp [Value.cells]) (tot := 67) (by simp [hH1, hH2]) (fun g1 hg1 => ?_)
  refine TL.alloc (Wants.none rfl) rfl rfl zero32 (cs := [Value.int .i64 0, Value.int .i64 0]) rfl (tot := 2) (by simp) (fun g2 hg2 => ?_)
  refine TL.nil ?_
  refine TE.then ?_
  refine TC.seq ?_
  refine TC.seq ?_
  refine TC.regionL ?_
  refine TL.gets (Wants.none rfl) rfl (Gets.fieldAddr rfl Try.underlying25 rfl size3 rfl (off' := 0) (by first | rfl | omega)) ?_
  refine TL.gets (Wants.none rfl) rfl (Gets.load1 rfl agg3 rfl (At.ent (i := 1) (ent := ⟨g1, 25, [Value.int .i64 o, Value.int .i64 n] ++ (H1.map (Value.int .u8) ++ (H2.map (Value.int .u8) ++ ([Value.slice A m c]))), 67⟩) (off := 0) rfl rfl (by exact app_left (i := 0) (B := H1.map (Value.int .u8) ++ (H2.map (Value.int .u8) ++ ([Value.slice A m c]))) (rfl)))) ?_
  refine TL.call0 (Wants.none rfl) rfl enters31 rfl rfl (v := .agg ([Value.int .i64 0, Value.int .i64 o]).toArray) (fun w hs => file_c o w) ?_
  refine TL.call0 (Wants.none rfl) rfl enters30 rfl rfl (v := .bool (decide (vld 0 o))) (fun w hs => valid_c 0 o (by omega) (by omega) w) ?_
  refine TL.gets (Wants.none rfl) rfl (Gets.notP rfl rfl) ?_
  by_cases c1 : ¬ (vld 0 o)
  · have hno : ¬ okLen o n := by unfold okLen; unfold vld at c1; omega
    refine TL.gets (Wants.none rfl) rfl (Gets.isTrue (Gets.move rfl rfl) c1) ?_
    refine TL.pass rfl rfl rfl rfl rfl ?_
    refine TL.pass rfl rfl rfl rfl rfl ?_
    refine TL.pass rfl rfl rfl rfl rfl ?_
    refine TL.pass rfl rfl rfl rfl rfl ?_
    refine TL.pass rfl rfl rfl rfl rfl ?_
    refine TL.gets (Wants.none rfl) rfl (Gets.pickT rfl rfl rfl) ?_
    refine TL.nil ?_
    refine TE.then ?_
    refine TC.sub (Sub.cons (i := 1) rfl (Sub.cons (i := 2) rfl (Sub.cons (i := 17) rfl (Sub.nil)))) ?_
    refine TC.yes rfl ?_
    refine TC.seq ?_
    refine TC.regionL ?_
    refine TL.gets (Wants.none rfl) rfl (Gets.build rfl (vs := [(0, Value.int .i64 2), (1, Value.int .i64 (-1))]) rfl (fun w => by first | rfl | kernel_rfl) (v := .agg ([Value.int .i64 2, Value.int .i64 (-1)]).toArray)) ?_
    refine TL.storeW (Wants.none rfl) rfl rfl size32 rfl (vs := [Value.int .i64 2, Value.int .i64 (-1)]) rfl (by simp []) (by simp [Value.oneCell']) (i := 0) (ent := ⟨g2, 32, [Value.int .i64 0, Value.int .i64 0], 2⟩) rfl rfl (by simp []) (H' := [⟨g2, 32, [Value.int .i64 2, Value.int .i64 (-1)], 2⟩, ⟨g1, 25, [Value.int .i64 o, Value.int .i64 n] ++ (H1.map (Value.int .u8) ++ (H2.map (Value.int .u8) ++ ([Value.slice A m c]))), 67⟩]) rfl ?_
    refine TL.nil ?_
    refine TE.then ?_
    refine TC.ret ?_
    refine TE.thenR ?_
    exact TE.retC rfl agg32 size32 rfl (vs := [Value.int .i64 2, Value.int .i64 (-1)]) rfl (Row.all (i := 0) (ent := ⟨g2, 32, [Value.int .i64 2, Value.int .i64 (-1)], 2⟩) rfl rfl rfl) (fun w hs => ⟨by rw [faultI_len hno], ((hs.drop (by assumption)).drop (by assumption))⟩)
  · refine TL.gets (Wants.none rfl) rfl (Gets.isFalse (Gets.move rfl rfl) c1) ?_
    refine TL.gets (Wants.yes rfl rfl rfl) rfl (Gets.fieldAddr rfl Try.underlying25 rfl size3 rfl (off' := 1) (by first | rfl | omega)) ?_
    refine TL.gets (Wants.yes rfl rfl rfl) rfl (Gets.load1 rfl agg3 rfl (At.ent (i := 1) (ent := ⟨g1, 25, [Value.int .i64 o, Value.int .i64 n] ++ (H1.map (Value.int .u8) ++ (H2.map (Value.int .u8) ++ ([Value.slice A m c]))), 67⟩) (off := 1) rfl rfl (by exact app_left (i := 1) (B := H1.map (Value.int .u8) ++ (H2.map (Value.int .u8) ++ ([Value.slice A m c]))) (rfl)))) ?_
    refine TL.call0 (Wants.yes rfl rfl rfl) rfl enters31 rfl rfl (v := .agg ([Value.int .i64 0, Value.int .i64 n]).toArray) (fun w hs => file_c n w) ?_
    refine TL.call0 (Wants.yes rfl rfl rfl) rfl enters30 rfl rfl (v := .bool (decide (vld 0 n))) (fun w hs => valid_c 0 n (by omega) (by omega) w) ?_
    refine TL.gets (Wants.yes rfl rfl rfl) rfl (Gets.notP rfl rfl) ?_
    refine TL.gets (Wants.none rfl) rfl (Gets.pickF rfl rfl rfl) ?_
    refine TL.nil ?_
    refine TE.then ?_
    refine TC.sub (Sub.cons (i := 1) rfl (Sub.cons (i := 2) rfl (Sub.cons (i := 17) rfl (Sub.nil)))) ?_
    refine TC.split rfl (fun hq0 => ?_) (fun hq0 => ?_)
    · have hno : ¬ okLen o n := by unfold okLen; unfold vld at hq0; omega
      refine TC.seq ?_
      refine TC.regionL ?_
      refine TL.gets (Wants.none rfl) rfl (Gets.build rfl (vs := [(0, Value.int .i64 2), (1, Value.int .i64 (-1))]) rfl (fun w => by first | rfl | kernel_rfl) (v := .agg ([Value.int .i64 2, Value.int .i64 (-1)]).toArray)) ?_
      refine TL.storeW (Wants.none rfl) rfl rfl size32 rfl (vs := [Value.int .i64 2, Value.int .i64 (-1)]) rfl (by simp []) (by simp [Value.oneCell']) (i := 0) (ent := ⟨g2, 32, [Value.int .i64 0, Value.int .i64 0], 2⟩) rfl rfl (by simp []) (H' := [⟨g2, 32, [Value.int .i64 2, Value.int .i64 (-1)], 2⟩, ⟨g1, 25, [Value.int .i64 o, Value.int .i64 n] ++ (H1.map (Value.int .u8) ++ (H2.map (Value.int .u8) ++ ([Value.slice A m c]))), 67⟩]) rfl ?_
      refine TL.nil ?_
      refine TE.then ?_
      refine TC.ret ?_
      refine TE.thenR ?_
      exact TE.retC rfl agg32 size32 rfl (vs := [Value.int .i64 2, Value.int .i64 (-1)]) rfl (Row.all (i := 0) (ent := ⟨g2, 32, [Value.int .i64 2, Value.int .i64 (-1)], 2⟩) rfl rfl rfl) (fun w hs => ⟨by rw [faultI_len hno], ((hs.drop (by assumption)).drop (by assumption))⟩)
    · have hok : okLen o n := by unfold okLen; unfold vld at c1 hq0; omega
      refine TC.skip ?_
      refine TE.then ?_
      refine TC.seq ?_
      refine TC.seq ?_
      refine TC.regionL ?_
      refine TL.gets (Wants.none rfl) rfl (Gets.fieldAddr rfl Try.underlying25 rfl size23 rfl (off' := 66) (by first | rfl | omega)) ?_
      refine TL.gets (Wants.none rfl) rfl (Gets.load1 rfl agg23 rfl (At.ent (i := 1) (ent := ⟨g1, 25, [Value.int .i64 o, Value.int .i64 n] ++ (H1.map (Value.int .u8) ++ (H2.map (Value.int .u8) ++ ([Value.slice A m c]))), 67⟩) (off := 66) rfl rfl (by exact app_right (a := 2) (i := 64) (rfl) (app_right (a := 32) (i := 32) (ints_len hH1) (app_right (a := 32) (i := 0) (ints_len hH2) (rfl)))))) ?_
      refine TL.gets (Wants.none rfl) rfl (Gets.lenSlice rfl Try.underlying23 rfl) ?_
      refine TL.gets (Wants.none rfl) rfl (Gets.move rfl rfl) ?_
      refine TL.nil ?_
      refine TE.then ?_
      refine TC.block ?_
      refine TC.loop (ι := Nat) (fun i => [(1, .pointer (some ⟨g1, 0, none⟩)), (2, .pointer (some ⟨g2, 0, none⟩)), (20, .slice A m c), (21, .int .i64 (m : Int)), (22, .int .i64 (i : Int))]) (fun i => [⟨g2, 32, [Value.int .i64 0, Value.int .i64 0], 2⟩, ⟨g1, 25, [Value.int .i64 o, Value.int .i64 n] ++ (H1.map (Value.int .u8) ++ (H2.map (Value.int .u8) ++ ([Value.slice A m c]))), 67⟩]) (fun i => m - i) (fun i => i ≤ m ∧ ∀ (j : Nat) (y : CV), j < i → Cs[j]? = some y → singleV o n y = 0) 0 ⟨Nat.zero_le _, fun j y h => absurd h (Nat.not_lt_zero j)⟩ (Sub.cons (i := 1) rfl (Sub.cons (i := 2) rfl (Sub.slice (i := 20) rfl rfl (by first | omega | (dsimp only; omega) | rfl) (by first | omega | (dsimp only; omega) | rfl) (Sub.int (i := 21) rfl (by first | omega | rfl) (Sub.int (i := 22) rfl (by first | omega | rfl) (Sub.nil)))))) (fun w h => h) (fun i hC0 => ?_)
      obtain ⟨hC0, hC1⟩ := hC0
      refine TC.seq ?_
      refine TC.regionL ?_
      refine TL.gets (Wants.none rfl) rfl (Gets.lss rfl rfl rfl) ?_
      refine TL.nil ?_
      refine TE.then ?_
      refine TC.seq ?_
      refine TC.split rfl (fun hq1 => ?_) (fun hq1 => ?_)
      · obtain ⟨b, off, hAe, hb, hrw⟩ := hC.some_ (i := i) (by omega)
        subst hAe
        obtain ⟨x, hx⟩ := hC.get (i := i) (by omega)
        have hnx := hN i x hx
        unfold NumC at hnx
        have hlbx := lenV_bd (k := x.k) (l := x.l) (m := x.m) (by omega) (by omega)
        refine TC.skip ?_
        refine TE.then ?_
        refine TC.seq ?_
        refine TC.block ?_
        refine TC.seq ?_
        refine TC.regionL ?_
        refine TL.gets (Wants.none rfl) rfl (Gets.move rfl rfl) ?_
        refine TL.gets (Wants.none rfl) rfl (Gets.idxSlice rfl Try.underlying23 size40 rfl rfl (i := i) (by omega) (by omega) (off' := (off + 5 * i)) (by omega)) ?_
        refine TL.gets (Wants.none rfl) rfl (Gets.loadN rfl agg40 size40 rfl rfl (Row.old (fun jj u h => hrw i x hx jj u h) hb (ne_cons (by show g2 ≠ b; omega) (ne_cons (by show g1 ≠ b; omega) ne_nil)))) ?_
        refine TL.alloc (Wants.none rfl) rfl rfl zero40 (cs := [Value.int .i64 0, Value.int .i64 0, Value.int .i64 0, Value.int .i64 0, Value.slice none 0 0]) rfl (tot := 5) (by simp) (fun g3 hg3 => ?_)
        refine TL.gets (Wants.none rfl) rfl (Gets.assign rfl rfl) ?_
        refine TL.storeW (Wants.none rfl) rfl rfl size40 rfl (vs := [Value.int .i64 x.k, Value.int .i64 x.t, Value.int .i64 x.f, Value.int .i64 x.l, Value.slice x.A x.m x.c]) rfl (by simp []) (by simp [Value.oneCell']) (i := 0) (ent := ⟨g3, 40, [Value.int .i64 0, Value.int .i64 0, Value.int .i64 0, Value.int .i64 0, Value.slice none 0 0], 5⟩) rfl rfl (by simp []) (H' := [⟨g3, 40, [Value.int .i64 x.k, Value.int .i64 x.t, Value.int .i64 x.f, Value.int .i64 x.l, Value.slice x.A x.m x.c], 5⟩, ⟨g2, 32, [Value.int .i64 0, Value.int .i64 0], 2⟩, ⟨g1, 25, [Value.int .i64 o, Value.int .i64 n] ++ (H1.map (Value.int .u8) ++ (H2.map (Value.int .u8) ++ ([Value.slice (some ⟨b, off, none⟩) m c]))), 67⟩]) rfl ?_
        refine TL.nil ?_
        refine TE.then ?_
        refine TC.sub (Sub.cons (i := 1) rfl (Sub.cons (i := 2) rfl (Sub.cons (i := 3) rfl (Sub.cons (i := 4) rfl (Sub.cons (i := 20) rfl (Sub.cons (i := 21) rfl (Sub.cons (i := 22) rfl (Sub.nil)))))))) ?_
        refine TC.seq ?_
        refine TC.regionL ?_
        refine TL.gets (Wants.none rfl) rfl (Gets.loadN rfl agg25 size25 rfl (vs := [Value.int .i64 o, Value.int .i64 n] ++ (H1.map (Value.int .u8) ++ (H2.map (Value.int .u8) ++ ([Value.slice (some ⟨b, off, none⟩) m c])))) (by simp [hH1, hH2]) (Row.all (i := 2) (ent := ⟨g1, 25, [Value.int .i64 o, Value.int .i64 n] ++ (H1.map (Value.int .u8) ++ (H2.map (Value.int .u8) ++ ([Value.slice (some ⟨b, off, none⟩) m c]))), 67⟩) rfl rfl rfl)) ?_
        refine TL.gets (Wants.none rfl) rfl (Gets.loadN rfl agg40 size40 rfl (vs := [Value.int .i64 x.k, Value.int .i64 x.t, Value.int .i64 x.f, Value.int .i64 x.l, Value.slice x.A x.m x.c]) (by simp []) (Row.all (i := 0) (ent := ⟨g3, 40, [Value.int .i64 x.k, Value.int .i64 x.t, Value.int .i64 x.f, Value.int .i64 x.l, Value.slice x.A x.m x.c], 5⟩) rfl rfl rfl)) ?_
        refine TL.call0 (Wants.none rfl) rfl enters32 rfl rfl (v := .int .i64 (singleV o n x)) (fun w hs => sg_c o n H1 H2 hH1 hH2 (some ⟨b, off, none⟩) m c Cs x hok (hN _ x hx) w) ?_
        refine TL.gets (Wants.none rfl) rfl (Gets.assign rfl rfl) ?_
        refine TL.nil ?_
        refine TE.then ?_
        refine TC.sub (Sub.cons (i := 1) rfl (Sub.cons (i := 2) rfl (Sub.cons (i := 3) rfl (Sub.cons (i := 5) rfl (Sub.cons (i := 20) rfl (Sub.cons (i := 21) rfl (Sub.cons (i := 22) rfl (Sub.nil)))))))) ?_
        refine TC.seq ?_
        refine TC.regionL ?_
        refine TL.gets (Wants.none rfl) rfl (Gets.move rfl rfl) ?_
        refine TL.gets (Wants.none rfl) rfl (Gets.neq rfl rfl rfl) ?_
        refine TL.nil ?_
        refine TE.then ?_
        refine TC.sub (Sub.cons (i := 1) rfl (Sub.cons (i := 2) rfl (Sub.cons (i := 3) rfl (Sub.cons (i := 5) rfl (Sub.cons (i := 20) rfl (Sub.cons (i := 21) rfl (Sub.cons (i := 22) rfl (Sub.cons (i := 31) rfl (Sub.nil))))))))) ?_
        refine TC.split rfl (fun hq2 => ?_) (fun hq2 => ?_)
        · refine TC.seq ?_
          refine TC.regionL ?_
          refine TL.gets (Wants.none rfl) rfl (Gets.move rfl rfl) ?_
          refine TL.gets (Wants.none rfl) rfl (Gets.move rfl rfl) ?_
          refine TL.gets (Wants.none rfl) rfl (Gets.build rfl (vs := [(0, Value.int .i64 (singleV o n x)), (1, Value.int .i64 (i : Int))]) rfl (fun w => by first | rfl | kernel_rfl) (v := .agg ([Value.int .i64 (singleV o n x), Value.int .i64 (i : Int)]).toArray)) ?_
          refine TL.storeW (Wants.none rfl) rfl rfl size32 rfl (vs := [Value.int .i64 (singleV o n x), Value.int .i64 (i : Int)]) rfl (by simp []) (by simp [Value.oneCell']) (i := 1) (ent := ⟨g2, 32, [Value.int .i64 0, Value.int .i64 0], 2⟩) rfl rfl (by simp []) (H' := [⟨g3, 40, [Value.int .i64 x.k, Value.int .i64 x.t, Value.int .i64 x.f, Value.int .i64 x.l, Value.slice x.A x.m x.c], 5⟩, ⟨g2, 32, [Value.int .i64 (singleV o n x), Value.int .i64 (i : Int)], 2⟩, ⟨g1, 25, [Value.int .i64 o, Value.int .i64 n] ++ (H1.map (Value.int .u8) ++ (H2.map (Value.int .u8) ++ ([Value.slice (some ⟨b, off, none⟩) m c]))), 67⟩]) rfl ?_
          refine TL.nil ?_
          refine TE.then ?_
          refine TC.ret ?_
          refine TE.blockR ?_
          refine TE.thenR ?_
          refine TE.thenR ?_
          refine TE.blockR ?_
          refine TE.thenR ?_
          exact TE.retC rfl agg32 size32 rfl (vs := [Value.int .i64 (singleV o n x), Value.int .i64 (i : Int)]) rfl (Row.all (i := 1) (ent := ⟨g2, 32, [Value.int .i64 (singleV o n x), Value.int .i64 (i : Int)], 2⟩) rfl rfl rfl) (fun w hs => ⟨by rw [faultI_single hok hx hq2 hC1], (((hs.drop (by assumption)).drop (by assumption)).drop (by assumption))⟩)
        · refine TC.skip ?_
          refine TE.blockN ?_
          refine TE.then ?_
          refine TC.regionL ?_
          refine TL.gets (Wants.none rfl) rfl (Gets.add rfl rfl rfl (r := ((i : Int) + 1)) (w64 (by omega) (by omega))) ?_
          refine TL.gets (Wants.none rfl) rfl (Gets.move rfl rfl) ?_
          refine TL.nil ?_
          exact TE.back (i + 1) (by omega) ⟨by omega, all_succ hC1 hx (by omega)⟩ (Sub.cons (i := 1) rfl (Sub.cons (i := 2) rfl (Sub.slice (i := 20) rfl (by first | rfl | (congr 2; omega)) (by first | omega | (dsimp only; omega) | rfl) (by first | omega | (dsimp only; omega) | rfl) (Sub.int (i := 21) rfl (by first | omega | rfl) (Sub.int (i := 22) rfl (by first | omega | rfl) (Sub.nil)))))) (fun w h => (h.erase (i := 0) rfl (by assumption)))
      · have hall := all_of (m := m) (by have := hC.1; omega) (fun j y hj => hC1 j y (by omega))
        refine TC.exit ?_
        refine TE.thenX ?_
        refine TE.thenX ?_
        refine TE.blockX ?_
        refine TE.then ?_
        refine TC.seq ?_
        refine TC.regionL ?_
        refine TL.gets (Wants.none rfl) rfl (Gets.loadN rfl agg25 size25 rfl (vs := [Value.int .i64 o, Value.int .i64 n] ++ (H1.map (Value.int .u8) ++ (H2.map (Value.int .u8) ++ ([Value.slice A m c])))) (by simp [hH1, hH2]) (Row.all (i := 1) (ent := ⟨g1, 25, [Value.int .i64 o, Value.int .i64 n] ++ (H1.map (Value.int .u8) ++ (H2.map (Value.int .u8) ++ ([Value.slice A m c]))), 67⟩) rfl rfl rfl)) ?_
        refine TL.call0 (Wants.none rfl) rfl enters33 rfl rfl (v := .agg ([Value.int .i64 ((faultI o n Cs).1), Value.int .i64 ((faultI o n Cs).2)]).toArray) (fun w hs => ct_c o n H1 H2 hH1 hH2 A m c Cs (fun i x hx => code_kind (single_vld (hall i x hx)).2.2.2.1) hok hall hmm hN w (hC.at_ hs (fun b hb => (ne_cons (by show g2 ≠ b; omega) (ne_cons (by show g1 ≠ b; omega) ne_nil))))) ?_
        refine TL.storeW (Wants.none rfl) rfl rfl size32 rfl (vs := [Value.int .i64 ((faultI o n Cs).1), Value.int .i64 ((faultI o n Cs).2)]) rfl (by simp []) (by simp [Value.oneCell']) (i := 0) (ent := ⟨g2, 32, [Value.int .i64 0, Value.int .i64 0], 2⟩) rfl rfl (by simp []) (H' := [⟨g2, 32, [Value.int .i64 ((faultI o n Cs).1), Value.int .i64 ((faultI o n Cs).2)], 2⟩, ⟨g1, 25, [Value.int .i64 o, Value.int .i64 n] ++ (H1.map (Value.int .u8) ++ (H2.map (Value.int .u8) ++ ([Value.slice A m c]))), 67⟩]) rfl ?_
        refine TL.nil ?_
        refine TE.then ?_
        refine TC.ret ?_
        exact TE.retC rfl agg32 size32 rfl (vs := [Value.int .i64 ((faultI o n Cs).1), Value.int .i64 ((faultI o n Cs).2)]) rfl (Row.all (i := 0) (ent := ⟨g2, 32, [Value.int .i64 ((faultI o n Cs).1), Value.int .i64 ((faultI o n Cs).2)], 2⟩) rfl rfl rfl) (fun w hs => ⟨rfl, ((hs.drop (by assumption)).drop (by assumption))⟩)

set_option maxRecDepth 100000 in
set_option maxHeartbeats 400000 in
theorem dvalid_c (o n : Int) (H1 H2 : List Int) (hH1 : H1.length = 32) (hH2 : H2.length = 32) (A : Option Addr) (m c : Nat) (Cs : List CV) (hmm : m ≤ 1000000000) (hN : NumsC Cs) (w : World) (hC : SrcC w A m Cs) (hD : DatC w Cs) (hf : fewQ Cs) (bo : -9223372036854775808 ≤ o ∧ o ≤ 9223372036854775807) (bn : -9223372036854775808 ≤ n ∧ n ≤ 9223372036854775807)  : Calls Try.prog 12 #[.agg ([Value.int .i64 o, Value.int .i64 n] ++ (H1.map (Value.int .u8) ++ (H2.map (Value.int .u8) ++ ([Value.slice A m c])))).toArray] w fun e w' => e = .returned (.bool (decide ((faultI o n Cs).1 = 0))) ∧ St w [] w' := by
  refine calls_from (args := [.agg ([Value.int .i64 o, Value.int .i64 n] ++ (H1.map (Value.int .u8) ++ (H2.map (Value.int .u8) ++ ([Value.slice A m c])))).toArray]) Try.func12 rfl Try.ntmps12 (by simp) ?_
  refine TC.sub (Sub.cons (i := 0) rfl (Sub.nil)) ?_
  refine TC.seq ?_
  refine TC.regionL ?_
  refine TL.box (Wants.none rfl) rfl rfl rfl (cs := [Value.int .i64 o, Value.int .i64 n] ++ (H1.map (Value.int .u8) ++ (H2.map (Value.int .u8) ++ ([Value.slice A m c])))) (by simp [Value.cells]) (tot := 67) (by simp [hH1, hH2]) (fun g1 hg1 => ?_)
  refine TL.gets (Wants.none rfl) rfl (Gets.assign rfl rfl) ?_
  refine TL.nil ?_
  refine TE.then ?_
  refine TC.seq ?_
  refine TC.regionL ?_
  refine TL.gets (Wants.none rfl) rfl (Gets.loadN rfl agg25 size25 rfl (vs := [Value.int .i64 o, Value.int .i64 n] ++ (H1.map (Value.int .u8) ++ (H2.map (Value.int .u8) ++ ([Value.slice A m c])))) (by simp [hH1, hH2]) (Row.all (i := 0) (ent := ⟨g1, 25, [Value.int .i64 o, Value.int .i64 n] ++ (H1.map (Value.int .u8) ++ (H2.map (Value.int .u8) ++ ([Value.slice A m c]))), 67⟩) rfl rfl rfl)) ?_
  refine TL.call0 (Wants.none rfl) rfl enters11 rfl rfl (v := .agg ([Value.int .i64 ((faultI o n Cs).1), Value.int .i64 ((faultI o n Cs).2)]).toArray) (fun w hs => dcheck_c o n H1 H2 hH1 hH2 A m c Cs hmm hN w (hC.at_ hs (fun b hb => (ne_cons (by show g1 ≠ b; omega) ne_nil))) (hD.at_ hs (fun b hb => (ne_cons (by show g1 ≠ b; omega) ne_nil))) hf bo bn) ?_
  refine TL.gets (Wants.none rfl) rfl (Gets.build rfl (vs := []) rfl (fun w => by first | rfl | kernel_rfl) (v := .agg ([Value.int .i64 0, Value.int .i64 0]).toArray)) ?_
  refine TL.gets (Wants.none rfl) rfl (Gets.pairEq rfl Try.underlying32 (by decide) (by decide) rfl rfl Try.underlying30 Try.underlying3 sih32 geq32 rfl rfl) ?_
  refine TL.gets (Wants.none rfl) rfl (Gets.assign rfl rfl) ?_
  refine TL.nil ?_
  refine TE.then ?_
  refine TC.ret ?_
  exact TE.ret1 rfl rfl (fun w hs => ⟨dec_iff (⟨fun h => h.1, fun h => ⟨h, fault_zero h⟩⟩), (hs.drop (by assumption))⟩)
end Go.Proofs.Ytkgamkjdkapchaa
