/-
 DERIVED: THE SHELF's CONTRACTS AT THIS DUMP, IN PLAIN WORDS (tools/lay-plain.mjs out of 'YtegddcklbmonfaaGreatDoorLayI.lean', which tools/lay-shelf.mjs wrote): THE SAME DECLARATIONS UNDER THE SAME NAMES: 'import', 'namespace', 'open', 'def', 'theorem' AND NOTHING ELSE: no command of the shelf's: FOR A HAND-IN. Each laying: the table of numbers ('.._ren') and one theorem, a field a fact of the dump's own or the kernel's comparison; each contract: ONE APPLICATION.
-/
import Derived.Test.YtegddcklbmonfaaGreatDoorYVerifiesPd
import Derived.Test.YtegddcklbmonfaaGreatDoorYVerifiesPb
import Derived.Test.YtegddcklbmonfaaGreatDoorYVerifiesPc
import Derived.Test.YtegddcklbmonfaaGreatDoorYVerifiesPa
import Derived.MapKept
import Derived.Lib.IndexMore
import Derived.Lib.Bytes
import Derived.Shelf.Bytes.SlIndexWhole
import Derived.Shelf.LaysM
import Derived.Test.YtegddcklbmonfaaGreatDoorProg
/-
 The code of layer 5: checkCommand, Check, Valid.
-/
namespace Go.Proofs.YtegddcklbmonfaaGreatDoor
set_option maxRecDepth 100000
set_option maxHeartbeats 2000000
open Go.Value (int slice)
set_option linter.unusedVariables false
set_option linter.unusedSimpArgs false
open Go Go.RowKit
theorem enters35 : Enters Tryz.prog 35 := ⟨_, Tryz.func35, by kernel_rfl, by kernel_rfl⟩
theorem enters49 : Enters Tryz.prog 49 := ⟨_, Tryz.func49, by kernel_rfl, by kernel_rfl⟩
theorem enters62 : Enters Tryz.prog 62 := ⟨_, Tryz.func62, by kernel_rfl, by kernel_rfl⟩
theorem enters63 : Enters Tryz.prog 63 := ⟨_, Tryz.func63, by kernel_rfl, by kernel_rfl⟩
theorem enters64 : Enters Tryz.prog 64 := ⟨_, Tryz.func64, by kernel_rfl, by kernel_rfl⟩
theorem enters87 : Enters Tryz.prog 87 := ⟨_, Tryz.func87, by kernel_rfl, by kernel_rfl⟩
theorem enters88 : Enters Tryz.prog 88 := ⟨_, Tryz.func88, by kernel_rfl, by kernel_rfl⟩
theorem geq40 : Tryz.prog.eqGuardType Tryz.prog.depth 40 = false := by kernel_rfl
theorem sih40 : Tryz.prog.stoodInHeld 40 = false := by kernel_rfl
theorem file_c (n : Int) (w : World) : Calls Tryz.prog 62 #[.int .i64 n] w fun e w' => e = .returned (.agg ([int .i64 0, int .i64 n]).toArray) ∧ St w [] w' := by
 refine qN (args := [.int .i64 n]) Tryz.func62 rfl Tryz.ntmps62 (by simp) ?_
 refine qC [0] ?_
 iterate 2 refine gx ?_
 refine qa (fun g1 hg1 => ?_)
 iterate 5 refine gx ?_
 refine qB (qA rfl) rfl (qn rfl (vs := [(1, int .i64 n)]) rfl (fun w => by first | rfl | kernel_rfl) (v := .agg ([int .i64 0, int .i64 n]).toArray)) ?_
 iterate 4 refine gx ?_
 exact qk rfl agg81 size81 rfl (vs := [int .i64 0, int .i64 n]) rfl (qX (i := 0) (ent := ⟨g1, 81, [int .i64 0, int .i64 n], 2⟩) rfl rfl rfl) (fun w hs => ⟨rfl, (hs.drop (by assumption))⟩)
theorem code_kind {k t f l : Int} {m : Nat} (h : codeV k t f l m = 0) : k = 1 ∨ k = 2 := by
 by_cases h1 : k = 1
 ·exact .inl h1
 ·by_cases h2 : k = 2
  ·exact .inr h2
  ·unfold codeV at h; rw [if_neg h1, if_neg h2] at h; cases h
theorem src1_c (k t f l : Int) (A : Option Addr) (m c : Nat) (hk : k = 1) (w : World) : Calls Tryz.prog 49 #[.agg ([int .i64 k, int .i64 t, int .i64 f, int .i64 l, slice A m c]).toArray] w fun e w' => e = .returned (.tuple #[.agg ([int .i64 f, int .i64 l]).toArray, .bool true]) ∧ St w [] w' := by
 subst hk; exact source1 t f l A m c w
theorem src2_c (k t f l : Int) (A : Option Addr) (m c : Nat) (hk : k = 2) (w : World) : Calls Tryz.prog 49 #[.agg ([int .i64 k, int .i64 t, int .i64 f, int .i64 l, slice A m c]).toArray] w fun e w' => e = .returned (.tuple #[.agg ([int .i64 0, int .i64 0]).toArray, .bool false]) ∧ St w [] w' := by
 subst hk; exact source2 t f l A m c w
theorem fault_zero {o n : Int} {Cs : List CV} (h : (faultI o n Cs).1 = 0) : (faultI o n Cs).2 = 0 := by
 obtain ⟨h1, h2, h3, h4⟩ := faultI_valid h
 rw [faultI_gap h1 h2 h3, if_neg (by omega)]
theorem sg_bad (o n : Int) (H1 H2 : List Int) (hH1 : H1.length = 32) (hH2 : H2.length = 32) (A : Option Addr) (m c : Nat) (Cs : List CV) (x : CV) (hok : okLen o n) (hn : NumC x) (hv : ¬ codeV x.k x.t x.f x.l x.m = 0) (w : World) : Calls Tryz.prog 63 #[.agg (dV o n H1 H2 (slice A m c)).toArray, .agg ([int .i64 x.k, int .i64 x.t, int .i64 x.f, int .i64 x.l, slice x.A x.m x.c]).toArray] w fun e w' => e = .returned (.int .i64 (singleV o n x)) ∧ St w [] w' := by
 have hnx := hn
 unfold NumC at hnx
 have hlb := lenV_bd (k := x.k) (l := x.l) (m := x.m) (by omega) (by omega)
 have hok2 := hok
 unfold okLen at hok2
 refine qN (args := [.agg (dV o n H1 H2 (slice A m c)).toArray, .agg ([int .i64 x.k, int .i64 x.t, int .i64 x.f, int .i64 x.l, slice x.A x.m x.c]).toArray]) Tryz.func63 rfl Tryz.ntmps63 (by simp) ?_
 refine qC [0, 1] ?_
 iterate 2 refine gx ?_
 refine qz (qA rfl) rfl rfl rfl (cs := dV o n H1 H2 (slice A m c)) (by simp [Value.cells]) (tot := 67) (by simp [hH1, hH2]) (fun g1 hg1 => ?_)
 refine ql (fun g2 hg2 => ?_)
 iterate 7 refine gx ?_
 refine qP (qA rfl) rfl enters87 rfl rfl (v := .int .i64 (codeV x.k x.t x.f x.l x.m)) (fun w hs => check_c x.k x.t x.f x.l x.A x.m x.c (by omega) (by omega) (by omega) (by omega) w) ?_
 iterate 6 refine gx ?_
 refine qB (qA rfl) rfl (qc (Gets.neq rfl rfl rfl) hv) ?_
 iterate 2 refine gx ?_
 refine qC [2, 3, 4, 5, 11] ?_
 refine qj rfl ?_
 iterate 8 refine gx ?_
 exact qL rfl rfl (fun w hs => ⟨ret_i (by unfold singleV; (try unfold inside_ at *); (repeat' split) <;> first | rfl | (exfalso; omega)), ((hs.drop (by assumption)).drop (by assumption))⟩)
theorem sg_one (o n : Int) (H1 H2 : List Int) (hH1 : H1.length = 32) (hH2 : H2.length = 32) (A : Option Addr) (m c : Nat) (Cs : List CV) (x : CV) (hok : okLen o n) (hn : NumC x) (hv : codeV x.k x.t x.f x.l x.m = 0) (hk : x.k = 1) (w : World) : Calls Tryz.prog 63 #[.agg (dV o n H1 H2 (slice A m c)).toArray, .agg ([int .i64 x.k, int .i64 x.t, int .i64 x.f, int .i64 x.l, slice x.A x.m x.c]).toArray] w fun e w' => e = .returned (.int .i64 (singleV o n x)) ∧ St w [] w' := by
 have hnx := hn
 unfold NumC at hnx
 have hlb := lenV_bd (k := x.k) (l := x.l) (m := x.m) (by omega) (by omega)
 have hok2 := hok
 unfold okLen at hok2
 have hcv := codeV_facts hv
 unfold vld at hcv
 have hcf := hcv.2.2 hk
 refine qN (args := [.agg (dV o n H1 H2 (slice A m c)).toArray, .agg ([int .i64 x.k, int .i64 x.t, int .i64 x.f, int .i64 x.l, slice x.A x.m x.c]).toArray]) Tryz.func63 rfl Tryz.ntmps63 (by simp) ?_
 refine qC [0, 1] ?_
 iterate 2 refine gx ?_
 refine qz (qA rfl) rfl rfl rfl (cs := dV o n H1 H2 (slice A m c)) (by simp [Value.cells]) (tot := 67) (by simp [hH1, hH2]) (fun g1 hg1 => ?_)
 refine ql (fun g2 hg2 => ?_)
 iterate 7 refine gx ?_
 refine qP (qA rfl) rfl enters87 rfl rfl (v := .int .i64 (codeV x.k x.t x.f x.l x.m)) (fun w hs => check_c x.k x.t x.f x.l x.A x.m x.c (by omega) (by omega) (by omega) (by omega) w) ?_
 iterate 6 refine gx ?_
 refine qB (qA rfl) rfl (qd (Gets.neq rfl rfl rfl) (fun h => h hv)) ?_
 iterate 2 refine gx ?_
 refine qC [2, 3, 4, 5, 11] ?_
 refine qh rfl ?_
 iterate 6 refine gx ?_
 refine qP (qA rfl) rfl enters49 rfl rfl (v := .tuple #[.agg ([int .i64 x.f, int .i64 x.l]).toArray, .bool true]) (fun w hs => src1_c x.k x.t x.f x.l x.A x.m x.c hk w) ?_
 iterate 3 refine gx ?_
 refine qa (fun g3 hg3 => ?_)
 iterate 4 refine gx ?_
 refine qC [2, 3, 4, 6, 7] ?_
 refine gx ?_
 refine TC.mixS [⟨g3, 81, [int .i64 x.f, int .i64 x.l], 2⟩, ⟨g2, 54, [int .i64 x.k, int .i64 x.t, int .i64 x.f, int .i64 x.l, slice x.A x.m x.c], 5⟩, ⟨g1, 26, dV o n H1 H2 (slice A m c), 67⟩] [] (by kernel_rfl) [0, 0, 0, 1, 1, 1, 3, 1, 0, 0] [0, 1, 2, 3, 4, 5, 6, 7, 8, 9] [fun _ _ => True, fun _ _ => True, fun _ _ => True, fun _ _ => True, fun _ _ => True, fun _ _ => True, fun v d => ∃ g, v = .slice (some ⟨g, 0, none⟩) 1 1 ∧ d = [⟨g, 81, [.int .i64 x.f, .int .i64 x.l], 2⟩], fun _ _ => True, fun _ _ => True, fun _ _ => True] (by kernel_rfl) (by kernel_rfl) (perm_pick (p := [0, 1, 2]) (by kernel_rfl) rfl) qe ?_
 iterate 4 refine gx ?_
 refine TR.call0 (qM rfl rfl rfl) rfl enters62 rfl rfl (v := .agg ([int .i64 0, int .i64 o]).toArray) (fun Z w hZ hs => file_c o w) ?_
 refine gx ?_
 refine TR.buildSlice (qM rfl rfl rfl) rfl rfl Tryz.underlying153 size81 zero81 rfl (by decide) (by decide) (cells := #[.int .i64 x.f, .int .i64 x.l]) (tot := 2) (by kernel_rfl) (cs := [.int .i64 x.f, .int .i64 x.l]) rfl rfl (fun g4 hg4 => ?_)
 refine TR.call0 (qM rfl rfl rfl) rfl enters88 rfl rfl (v := .bool (decide (inside_ 0 o x.f x.l))) (fun Z w hZ hs => contains1 0 o x.f x.l (by omega) (by omega) g4 (hs.has (⟨g4, 81, [int .i64 x.f, int .i64 x.l], 2⟩) (by simp)).lt (lies_row0 (hs.has (⟨g4, 81, [int .i64 x.f, int .i64 x.l], 2⟩) (by simp)))) ?_
 iterate 4 refine gx ?_
 refine qC [2, 3, 4, 27] ?_
 refine qO rfl (fun hq1 => ?_) (fun hq1 => ?_)
 ·iterate 7 refine gx ?_
  exact qL rfl rfl (fun w hs => ⟨ret_i (by unfold singleV; (try unfold inside_ at *); (repeat' split) <;> first | rfl | (exfalso; omega)), ((((hs.drop (by assumption)).drop (by assumption)).drop (by assumption)).drop (by assumption))⟩)
 ·iterate 4 refine gx ?_
  refine TC.mixS [⟨g3, 81, [int .i64 x.f, int .i64 x.l], 2⟩, ⟨g2, 54, [int .i64 x.k, int .i64 x.t, int .i64 x.f, int .i64 x.l, slice x.A x.m x.c], 5⟩, ⟨g1, 26, dV o n H1 H2 (slice A m c), 67⟩, ⟨g4, 81, [int .i64 x.f, int .i64 x.l], 2⟩] [] (by kernel_rfl) [0, 1, 1, 1, 1, 3, 1, 0] [0, 1, 2, 3, 4, 5, 6, 7] [fun _ _ => True, fun _ _ => True, fun _ _ => True, fun _ _ => True, fun _ _ => True, fun v d => ∃ g, v = .slice (some ⟨g, 0, none⟩) 1 1 ∧ d = [⟨g, 81, [.int .i64 x.t, .int .i64 (lenV x.k x.l x.m)], 2⟩], fun _ _ => True, fun _ _ => True] (by kernel_rfl) (by kernel_rfl) (perm_pick (p := [0, 1, 2, 3]) (by kernel_rfl) rfl) qe ?_
  iterate 2 refine gx ?_
  refine TR.call0 (qA rfl) rfl enters62 rfl rfl (v := .agg ([int .i64 0, int .i64 n]).toArray) (fun Z w hZ hs => file_c n w) ?_
  refine gx ?_
  refine TR.call0 (qA rfl) rfl enters71 rfl rfl (v := .agg ([int .i64 x.t, int .i64 (lenV x.k x.l x.m)]).toArray) (fun Z w hZ hs => tgt_c x.k x.t x.f x.l x.A x.m x.c (.inl hk) w) ?_
  refine TR.buildSlice (qA rfl) rfl rfl Tryz.underlying153 size81 zero81 rfl (by decide) (by decide) (cells := #[.int .i64 x.t, .int .i64 (lenV x.k x.l x.m)]) (tot := 2) (by kernel_rfl) (cs := [.int .i64 x.t, .int .i64 (lenV x.k x.l x.m)]) rfl rfl (fun g5 hg5 => ?_)
  refine TR.call0 (qA rfl) rfl enters88 rfl rfl (v := .bool (decide (inside_ 0 n x.t (lenV x.k x.l x.m)))) (fun Z w hZ hs => contains1 0 n x.t (lenV x.k x.l x.m) (by omega) (by omega) g5 (hs.has (⟨g5, 81, [int .i64 x.t, int .i64 (lenV x.k x.l x.m)], 2⟩) (by simp)).lt (lies_row0 (hs.has (⟨g5, 81, [int .i64 x.t, int .i64 (lenV x.k x.l x.m)], 2⟩) (by simp)))) ?_
  iterate 3 refine gx ?_
  refine qC [4, 35] ?_
  refine qO rfl (fun hq2 => ?_) (fun hq2 => ?_)
  ·iterate 7 refine gx ?_
   exact qL rfl rfl (fun w hs => ⟨ret_i (by unfold singleV; (try unfold inside_ at *); (repeat' split) <;> first | rfl | (exfalso; omega)), (((((hs.drop (by assumption)).drop (by assumption)).drop (by assumption)).drop (by assumption)).drop (by assumption))⟩)
  ·iterate 8 refine gx ?_
   exact qL rfl rfl (fun w hs => ⟨ret_i (by unfold singleV; (try unfold inside_ at *); (repeat' split) <;> first | rfl | (exfalso; omega)), (((((hs.drop (by assumption)).drop (by assumption)).drop (by assumption)).drop (by assumption)).drop (by assumption))⟩)
theorem sg_two (o n : Int) (H1 H2 : List Int) (hH1 : H1.length = 32) (hH2 : H2.length = 32) (A : Option Addr) (m c : Nat) (Cs : List CV) (x : CV) (hok : okLen o n) (hn : NumC x) (hv : codeV x.k x.t x.f x.l x.m = 0) (hk : x.k = 2) (w : World) : Calls Tryz.prog 63 #[.agg (dV o n H1 H2 (slice A m c)).toArray, .agg ([int .i64 x.k, int .i64 x.t, int .i64 x.f, int .i64 x.l, slice x.A x.m x.c]).toArray] w fun e w' => e = .returned (.int .i64 (singleV o n x)) ∧ St w [] w' := by
 have hnx := hn
 unfold NumC at hnx
 have hlb := lenV_bd (k := x.k) (l := x.l) (m := x.m) (by omega) (by omega)
 have hok2 := hok
 unfold okLen at hok2
 have hcv := codeV_facts hv
 unfold vld at hcv
 refine qN (args := [.agg (dV o n H1 H2 (slice A m c)).toArray, .agg ([int .i64 x.k, int .i64 x.t, int .i64 x.f, int .i64 x.l, slice x.A x.m x.c]).toArray]) Tryz.func63 rfl Tryz.ntmps63 (by simp) ?_
 refine qC [0, 1] ?_
 iterate 2 refine gx ?_
 refine qz (qA rfl) rfl rfl rfl (cs := dV o n H1 H2 (slice A m c)) (by simp [Value.cells]) (tot := 67) (by simp [hH1, hH2]) (fun g1 hg1 => ?_)
 refine ql (fun g2 hg2 => ?_)
 iterate 7 refine gx ?_
 refine qP (qA rfl) rfl enters87 rfl rfl (v := .int .i64 (codeV x.k x.t x.f x.l x.m)) (fun w hs => check_c x.k x.t x.f x.l x.A x.m x.c (by omega) (by omega) (by omega) (by omega) w) ?_
 iterate 6 refine gx ?_
 refine qB (qA rfl) rfl (qd (Gets.neq rfl rfl rfl) (fun h => h hv)) ?_
 iterate 2 refine gx ?_
 refine qC [2, 3, 4, 5, 11] ?_
 refine qh rfl ?_
 iterate 6 refine gx ?_
 refine qP (qA rfl) rfl enters49 rfl rfl (v := .tuple #[.agg ([int .i64 0, int .i64 0]).toArray, .bool false]) (fun w hs => src2_c x.k x.t x.f x.l x.A x.m x.c hk w) ?_
 iterate 3 refine gx ?_
 refine qa (fun g3 hg3 => ?_)
 iterate 4 refine gx ?_
 refine qC [2, 3, 4, 6, 7] ?_
 refine gx ?_
 refine TC.mixS [⟨g3, 81, [int .i64 0, int .i64 0], 2⟩, ⟨g2, 54, [int .i64 x.k, int .i64 x.t, int .i64 x.f, int .i64 x.l, slice x.A x.m x.c], 5⟩, ⟨g1, 26, dV o n H1 H2 (slice A m c), 67⟩] [] (by kernel_rfl) [0, 0, 0, 0, 0, 0, 0, 0, 0, 0] [0, 1, 2, 3, 4, 5, 6, 7, 8, 9] [fun _ _ => True, fun _ _ => True, fun _ _ => True, fun _ _ => True, fun _ _ => True, fun _ _ => True, fun _ _ => True, fun _ _ => True, fun _ _ => True, fun _ _ => True] (by kernel_rfl) (by kernel_rfl) (perm_pick (p := [0, 1, 2]) (by kernel_rfl) rfl) qe ?_
 iterate 2 refine gx ?_
 refine TR.pass rfl rfl rfl rfl rfl ?_
 refine TR.pass rfl rfl rfl rfl rfl ?_
 refine TR.pass rfl rfl rfl rfl rfl ?_
 refine TR.pass rfl rfl rfl rfl rfl ?_
 refine TR.pass rfl rfl rfl rfl rfl ?_
 refine TR.pass rfl rfl rfl rfl rfl ?_
 refine TR.pass rfl rfl rfl rfl rfl ?_
 iterate 3 refine gx ?_
 refine qC [2, 3, 4, 27] ?_
 refine qh rfl ?_
 iterate 4 refine gx ?_
 refine TC.mixS [⟨g3, 81, [int .i64 0, int .i64 0], 2⟩, ⟨g2, 54, [int .i64 x.k, int .i64 x.t, int .i64 x.f, int .i64 x.l, slice x.A x.m x.c], 5⟩, ⟨g1, 26, dV o n H1 H2 (slice A m c), 67⟩] [] (by kernel_rfl) [0, 1, 1, 1, 1, 3, 1, 0] [0, 1, 2, 3, 4, 5, 6, 7] [fun _ _ => True, fun _ _ => True, fun _ _ => True, fun _ _ => True, fun _ _ => True, fun v d => ∃ g, v = .slice (some ⟨g, 0, none⟩) 1 1 ∧ d = [⟨g, 81, [.int .i64 x.t, .int .i64 (lenV x.k x.l x.m)], 2⟩], fun _ _ => True, fun _ _ => True] (by kernel_rfl) (by kernel_rfl) (perm_pick (p := [0, 1, 2]) (by kernel_rfl) rfl) qe ?_
 iterate 2 refine gx ?_
 refine TR.call0 (qA rfl) rfl enters62 rfl rfl (v := .agg ([int .i64 0, int .i64 n]).toArray) (fun Z w hZ hs => file_c n w) ?_
 refine gx ?_
 refine TR.call0 (qA rfl) rfl enters71 rfl rfl (v := .agg ([int .i64 x.t, int .i64 (lenV x.k x.l x.m)]).toArray) (fun Z w hZ hs => tgt_c x.k x.t x.f x.l x.A x.m x.c (.inr hk) w) ?_
 refine TR.buildSlice (qA rfl) rfl rfl Tryz.underlying153 size81 zero81 rfl (by decide) (by decide) (cells := #[.int .i64 x.t, .int .i64 (lenV x.k x.l x.m)]) (tot := 2) (by kernel_rfl) (cs := [.int .i64 x.t, .int .i64 (lenV x.k x.l x.m)]) rfl rfl (fun g4 hg4 => ?_)
 refine TR.call0 (qA rfl) rfl enters88 rfl rfl (v := .bool (decide (inside_ 0 n x.t (lenV x.k x.l x.m)))) (fun Z w hZ hs => contains1 0 n x.t (lenV x.k x.l x.m) (by omega) (by omega) g4 (hs.has (⟨g4, 81, [int .i64 x.t, int .i64 (lenV x.k x.l x.m)], 2⟩) (by simp)).lt (lies_row0 (hs.has (⟨g4, 81, [int .i64 x.t, int .i64 (lenV x.k x.l x.m)], 2⟩) (by simp)))) ?_
 iterate 3 refine gx ?_
 refine qC [4, 35] ?_
 refine qO rfl (fun hq2 => ?_) (fun hq2 => ?_)
 ·iterate 7 refine gx ?_
  exact qL rfl rfl (fun w hs => ⟨ret_i (by unfold singleV; (try unfold inside_ at *); (repeat' split) <;> first | rfl | (exfalso; omega)), ((((hs.drop (by assumption)).drop (by assumption)).drop (by assumption)).drop (by assumption))⟩)
 ·iterate 8 refine gx ?_
  exact qL rfl rfl (fun w hs => ⟨ret_i (by unfold singleV; (try unfold inside_ at *); (repeat' split) <;> first | rfl | (exfalso; omega)), ((((hs.drop (by assumption)).drop (by assumption)).drop (by assumption)).drop (by assumption))⟩)
theorem sg_c (o n : Int) (H1 H2 : List Int) (hH1 : H1.length = 32) (hH2 : H2.length = 32) (A : Option Addr) (m c : Nat) (Cs : List CV) (x : CV) (hok : okLen o n) (hn : NumC x) (w : World) : Calls Tryz.prog 63 #[.agg (dV o n H1 H2 (slice A m c)).toArray, .agg ([int .i64 x.k, int .i64 x.t, int .i64 x.f, int .i64 x.l, slice x.A x.m x.c]).toArray] w fun e w' => e = .returned (.int .i64 (singleV o n x)) ∧ St w [] w' := by
 by_cases hv : codeV x.k x.t x.f x.l x.m = 0
 ·rcases code_kind hv with hk | hk
  ·exact sg_one o n H1 H2 hH1 hH2 A m c Cs x hok hn hv hk w
  ·exact sg_two o n H1 H2 hH1 hH2 A m c Cs x hok hn hv hk w
 ·exact sg_bad o n H1 H2 hH1 hH2 A m c Cs x hok hn hv w
theorem dcheck_c (o n : Int) (H1 H2 : List Int) (hH1 : H1.length = 32) (hH2 : H2.length = 32) (A : Option Addr) (m c : Nat) (Cs : List CV) (hmm : m ≤ 1000000000) (hN : NumsC Cs) (w : World) (hC : SrcC w A m Cs) (hD : DatC w Cs) (bo : -9223372036854775808 ≤ o ∧ o ≤ 9223372036854775807) (bn : -9223372036854775808 ≤ n ∧ n ≤ 9223372036854775807)  : Calls Tryz.prog 35 #[.agg (dV o n H1 H2 (slice A m c)).toArray] w fun e w' => e = .returned (.agg ([int .i64 ((faultI o n Cs).1), int .i64 ((faultI o n Cs).2)]).toArray) ∧ St w [] w' := by
 refine qN (args := [.agg (dV o n H1 H2 (slice A m c)).toArray]) Tryz.func35 rfl Tryz.ntmps35 (by simp) ?_
 refine qC [0] ?_
 iterate 2 refine gx ?_
 refine qz (qA rfl) rfl rfl rfl (cs := dV o n H1 H2 (slice A m c)) (by simp [Value.cells]) (tot := 67) (by simp [hH1, hH2]) (fun g1 hg1 => ?_)
 refine qa (fun g2 hg2 => ?_)
 iterate 7 refine gx ?_
 refine qP (qA rfl) rfl enters62 rfl rfl (v := .agg ([int .i64 0, int .i64 o]).toArray) (fun w hs => file_c o w) ?_
 refine qP (qA rfl) rfl enters61 rfl rfl (v := .bool (decide (vld 0 o))) (fun w hs => valid_c 0 o (by omega) (by omega) w) ?_
 refine gx ?_
 by_cases c1 : ¬ (vld 0 o)
 ·have hno : ¬ okLen o n := by unfold okLen; unfold vld at c1; omega
  refine qB (qA rfl) rfl (qc (qb rfl rfl) c1) ?_
  iterate 8 refine gx ?_
  refine qC [1, 2, 17] ?_
  refine qj rfl ?_
  iterate 2 refine gx ?_
  refine qB (qA rfl) rfl (qn rfl (vs := [(0, int .i64 2), (1, int .i64 (-1))]) rfl (fun w => by first | rfl | kernel_rfl) (v := .agg ([int .i64 2, int .i64 (-1)]).toArray)) ?_
  iterate 5 refine gx ?_
  exact qk rfl agg40 size40 rfl (vs := [int .i64 2, int .i64 (-1)]) rfl (qX (i := 0) (ent := ⟨g2, 40, [int .i64 2, int .i64 (-1)], 2⟩) rfl rfl rfl) (fun w hs => ⟨by rw [faultI_len hno], ((hs.drop (by assumption)).drop (by assumption))⟩)
 ·refine qB (qA rfl) rfl (qd (qb rfl rfl) c1) ?_
  iterate 2 refine gx ?_
  refine qP (qM rfl rfl rfl) rfl enters62 rfl rfl (v := .agg ([int .i64 0, int .i64 n]).toArray) (fun w hs => file_c n w) ?_
  refine qP (qM rfl rfl rfl) rfl enters61 rfl rfl (v := .bool (decide (vld 0 n))) (fun w hs => valid_c 0 n (by omega) (by omega) w) ?_
  iterate 4 refine gx ?_
  refine qC [1, 2, 17] ?_
  refine qO rfl (fun hq0 => ?_) (fun hq0 => ?_)
  ·have hno : ¬ okLen o n := by unfold okLen; unfold vld at hq0; omega
   iterate 2 refine gx ?_
   refine qB (qA rfl) rfl (qn rfl (vs := [(0, int .i64 2), (1, int .i64 (-1))]) rfl (fun w => by first | rfl | kernel_rfl) (v := .agg ([int .i64 2, int .i64 (-1)]).toArray)) ?_
   iterate 5 refine gx ?_
   exact qk rfl agg40 size40 rfl (vs := [int .i64 2, int .i64 (-1)]) rfl (qX (i := 0) (ent := ⟨g2, 40, [int .i64 2, int .i64 (-1)], 2⟩) rfl rfl rfl) (fun w hs => ⟨by rw [faultI_len hno], ((hs.drop (by assumption)).drop (by assumption))⟩)
  ·have hok : okLen o n := by unfold okLen; unfold vld at c1 hq0; omega
   iterate 12 refine gx ?_
   refine qg (ι := Nat) (fun i => [(1, .pointer (some ⟨g1, 0, none⟩)), (2, .pointer (some ⟨g2, 0, none⟩)), (20, .slice A m c), (21, .int .i64 (m : Int)), (22, .int .i64 (i : Int))]) (fun i => [⟨g2, 40, [int .i64 0, int .i64 0], 2⟩, ⟨g1, 26, dV o n H1 H2 (slice A m c), 67⟩]) (fun i => m - i) (fun i => i ≤ m ∧ ∀ (j : Nat) (y : CV), j < i → Cs[j]? = some y → singleV o n y = 0) 0 ⟨Nat.zero_le _, fun j y h => absurd h (Nat.not_lt_zero j)⟩ (qG (i := 1) rfl (qG (i := 2) rfl (qS (i := 20) rfl rfl (by first | omega | (dsimp only; omega) | rfl) (by first | omega | (dsimp only; omega) | rfl) (qE (i := 21) rfl (by first | omega | rfl) (qE (i := 22) rfl (by first | omega | rfl) (qK)))))) (fun w h => h) (fun i hC0 => ?_)
   obtain ⟨hC0, hC1⟩ := hC0
   iterate 6 refine gx ?_
   refine qO rfl (fun hq1 => ?_) (fun hq1 => ?_)
   ·obtain ⟨b, off, hAe, hb, hrw⟩ := hC.some_ (i := i) (by omega)
    subst hAe
    obtain ⟨x, hx⟩ := hC.get (i := i) (by omega)
    have hnx := hN i x hx
    unfold NumC at hnx
    have hlbx := lenV_bd (k := x.k) (l := x.l) (m := x.m) (by omega) (by omega)
    iterate 7 refine gx ?_
    refine qB (qA rfl) rfl (qU rfl Tryz.underlying24 size54 rfl rfl (i := i) (by omega) (by omega) (off' := (off + 5 * i)) (by omega)) ?_
    refine qB (qA rfl) rfl (qi rfl agg54 size54 rfl rfl (Row.old (fun jj u h => hrw i x hx jj u h) hb (qD (by show g2 ≠ b; omega) (qD (by show g1 ≠ b; omega) qF)))) ?_
    refine qa (fun g3 hg3 => ?_)
    iterate 4 refine gx ?_
    refine qC [1, 2, 3, 4, 20, 21, 22] ?_
    iterate 4 refine gx ?_
    refine qP (qA rfl) rfl enters63 rfl rfl (v := .int .i64 (singleV o n x)) (fun w hs => sg_c o n H1 H2 hH1 hH2 (some ⟨b, off, none⟩) m c Cs x hok (hN _ x hx) w) ?_
    iterate 3 refine gx ?_
    refine qC [1, 2, 3, 5, 20, 21, 22] ?_
    iterate 6 refine gx ?_
    refine qC [1, 2, 3, 5, 20, 21, 22, 31] ?_
    refine qO rfl (fun hq2 => ?_) (fun hq2 => ?_)
    ·iterate 4 refine gx ?_
     refine qB (qA rfl) rfl (qn rfl (vs := [(0, int .i64 (singleV o n x)), (1, int .i64 (i : Int))]) rfl (fun w => by first | rfl | kernel_rfl) (v := .agg ([int .i64 (singleV o n x), int .i64 (i : Int)]).toArray)) ?_
     iterate 9 refine gx ?_
     exact qk rfl agg40 size40 rfl (vs := [int .i64 (singleV o n x), int .i64 (i : Int)]) rfl (qX (i := 1) (ent := ⟨g2, 40, [int .i64 (singleV o n x), int .i64 (i : Int)], 2⟩) rfl rfl rfl) (fun w hs => ⟨by rw [faultI_single hok hx hq2 hC1], (((hs.drop (by assumption)).drop (by assumption)).drop (by assumption))⟩)
    ·iterate 4 refine gx ?_
     refine qB (qA rfl) rfl (qQ rfl rfl rfl (r := ((i : Int) + 1)) (w64 (by omega) (by omega))) ?_
     iterate 2 refine gx ?_
     exact qZ (i + 1) (by omega) ⟨by omega, all_succ hC1 hx (by omega)⟩ (qG (i := 1) rfl (qG (i := 2) rfl (qS (i := 20) rfl (by first | rfl | (congr 2; omega)) (by first | omega | (dsimp only; omega) | rfl) (by first | omega | (dsimp only; omega) | rfl) (qE (i := 21) rfl (by first | omega | rfl) (qE (i := 22) rfl (by first | omega | rfl) (qK)))))) (fun w h => (h.erase (i := 0) rfl (by assumption)))
   ·have hall := all_of (m := m) (by have := hC.1; omega) (fun j y hj => hC1 j y (by omega))
    iterate 8 refine gx ?_
    refine qP (qA rfl) rfl enters64 rfl rfl (v := .agg ([int .i64 ((faultI o n Cs).1), int .i64 ((faultI o n Cs).2)]).toArray) (fun w hs => ct_c o n H1 H2 hH1 hH2 A m c Cs (fun i x hx => code_kind (single_vld (hall i x hx)).2.2.2.1) hok hall hmm hN w (hC.at_ hs (fun b hb => (qD (by show g2 ≠ b; omega) (qD (by show g1 ≠ b; omega) qF))))) ?_
    iterate 4 refine gx ?_
    exact qk rfl agg40 size40 rfl (vs := [int .i64 ((faultI o n Cs).1), int .i64 ((faultI o n Cs).2)]) rfl (qX (i := 0) (ent := ⟨g2, 40, [int .i64 ((faultI o n Cs).1), int .i64 ((faultI o n Cs).2)], 2⟩) rfl rfl rfl) (fun w hs => ⟨rfl, ((hs.drop (by assumption)).drop (by assumption))⟩)
theorem dvalid_c (o n : Int) (H1 H2 : List Int) (hH1 : H1.length = 32) (hH2 : H2.length = 32) (A : Option Addr) (m c : Nat) (Cs : List CV) (hmm : m ≤ 1000000000) (hN : NumsC Cs) (w : World) (hC : SrcC w A m Cs) (hD : DatC w Cs) (bo : -9223372036854775808 ≤ o ∧ o ≤ 9223372036854775807) (bn : -9223372036854775808 ≤ n ∧ n ≤ 9223372036854775807)  : Calls Tryz.prog 48 #[.agg (dV o n H1 H2 (slice A m c)).toArray] w fun e w' => e = .returned (.bool (decide ((faultI o n Cs).1 = 0))) ∧ St w [] w' := by
 refine qN (args := [.agg (dV o n H1 H2 (slice A m c)).toArray]) Tryz.func48 rfl Tryz.ntmps48 (by simp) ?_
 refine qC [0] ?_
 iterate 2 refine gx ?_
 refine qz (qA rfl) rfl rfl rfl (cs := dV o n H1 H2 (slice A m c)) (by simp [Value.cells]) (tot := 67) (by simp [hH1, hH2]) (fun g1 hg1 => ?_)
 iterate 6 refine gx ?_
 refine qP (qA rfl) rfl enters35 rfl rfl (v := .agg ([int .i64 ((faultI o n Cs).1), int .i64 ((faultI o n Cs).2)]).toArray) (fun w hs => dcheck_c o n H1 H2 hH1 hH2 A m c Cs hmm hN w (hC.at_ hs (fun b hb => (qD (by show g1 ≠ b; omega) qF))) (hD.at_ hs (fun b hb => (qD (by show g1 ≠ b; omega) qF))) bo bn) ?_
 refine qB (qA rfl) rfl (qn rfl (vs := []) rfl (fun w => by first | rfl | kernel_rfl) (v := .agg ([int .i64 0, int .i64 0]).toArray)) ?_
 refine qB (qA rfl) rfl (Gets.pairEq rfl Tryz.underlying40 (by decide) (by decide) rfl rfl Tryz.underlying38 Tryz.underlying3 sih40 geq40 rfl rfl) ?_
 iterate 4 refine gx ?_
 exact qL rfl rfl (fun w hs => ⟨dec_iff (⟨fun h => h.1, fun h => ⟨h, fault_zero h⟩⟩), (hs.drop (by assumption))⟩)
/-
 The code of layer 5: Totals, Find, Same.
-/
/-
 Clones of commands, with the blocks that hold their bytes.
-/
def OwnB (N : Nat) (Fs : List CV) (He : List Ent) : Prop := (∀ e ∈ He, N ≤ e.g) ∧ NumsC Fs ∧ ∀ w : World, (∀ e ∈ He, e.lies w) → DatC w Fs
def clV (x : CV) (A : Option Addr) (c : Nat) : CV := ⟨x.k, x.t, x.f, x.l, A, x.m, c, x.B⟩
def CloneR (N : Nat) (x : CV) (A : Option Addr) (c : Nat) (He : List Ent) : Prop := (∀ e ∈ He, N ≤ e.g) ∧ NumC (clV x A c) ∧ ∀ w : World, (∀ e ∈ He, e.lies w) → Src w A x.m .u8 x.B ∧ Bytes x.B
theorem CloneR.mono {N N' : Nat} {x : CV} {A : Option Addr} {c : Nat} {He : List Ent} (h : CloneR N' x A c He) (hN : N ≤ N') : CloneR N x A c He := ⟨fun e he => Nat.le_trans hN (h.1 e he), h.2⟩
theorem OwnB.nil (N : Nat) : OwnB N [] [] := ⟨fun e he => (nomatch he), fun i x h => (by simp at h), fun w _ i x h => (by simp at h)⟩
theorem nums_add {Fs : List CV} {z : CV} (h : NumsC Fs) (hz : NumC z) : NumsC (Fs ++ [z]) := fun i x hx => by
 by_cases hi : i < Fs.length
 ·rw [List.getElem?_append_left hi] at hx; exact h i x hx
 ·rw [List.getElem?_append_right (by omega)] at hx
  match hq : i - Fs.length, hx with
  | 0, hx => simp at hx; subst hx; exact hz
  | q + 1, hx => simp at hx
theorem dat_add {w : World} {Fs : List CV} {z : CV} (h : DatC w Fs) (hz : Src w z.A z.m .u8 z.B ∧ Bytes z.B) : DatC w (Fs ++ [z]) := fun i x hx => by
 by_cases hi : i < Fs.length
 ·rw [List.getElem?_append_left hi] at hx; exact h i x hx
 ·rw [List.getElem?_append_right (by omega)] at hx
  match hq : i - Fs.length, hx with
  | 0, hx => simp at hx; subst hx; exact hz
  | q + 1, hx => simp at hx
theorem OwnB.add {N : Nat} {Fs : List CV} {He He' : List Ent} {x : CV} {A : Option Addr} {c : Nat} (h : OwnB N Fs He) (hc : CloneR N x A c He') : OwnB N (Fs ++ [clV x A c]) (He ++ He') :=
 ⟨fun e he => by
  rcases List.mem_append.1 he with he | he
  ·exact h.1 e he
  ·exact hc.1 e he, nums_add h.2.1 hc.2.1, fun w hl => dat_add (h.2.2 w fun e he => hl e (List.mem_append.2 (.inl he))) (hc.2.2 w fun e he => hl e (List.mem_append.2 (.inr he)))⟩
theorem sameE_add {Fs Es : List CV} {i : Nat} {x : CV} {A : Option Addr} {c : Nat} (h : sameE Fs (Es.take i)) (hx : Es[i]? = some x) : sameE (Fs ++ [clV x A c]) (Es.take (i + 1)) := by
 unfold sameE at h ⊢
 rw [List.take_add_one, hx, Option.toList_some, List.map_append, List.map_append, h]
 rfl
def zC : CV := ⟨0, 0, 0, 0, none, 0, 0, []⟩
def stC (Fs : List CV) (r : Nat) : List CV := Fs ++ List.replicate r zC
theorem flatC_cons (z : CV) (R : List CV) : flatC (z :: R) = cellsC z ++ flatC R := by unfold flatC; rw [List.flatMap_cons]
theorem stC_rep (m : Nat) : (List.replicate m [int .i64 0, int .i64 0, int .i64 0, int .i64 0, slice none 0 0]).flatten = flatC (stC [] m) := by
 unfold stC
 rw [List.nil_append]
 induction m with
 | zero => rfl
 | succ m ih => rw [List.replicate_succ, List.replicate_succ, List.flatten_cons, ih, flatC_cons]; rfl
theorem stC_len (Fs : List CV) (r : Nat) : (stC Fs r).length = Fs.length + r := by unfold stC; simp
theorem stC_step {Fs : List CV} {i m : Nat} {z : CV} (hl : Fs.length = i) (hi : i < m) :
  (flatC (stC Fs (m - i))).take (5 * i) ++ cellsC z ++ (flatC (stC Fs (m - i))).drop (5 * i + 5) = flatC (stC (Fs ++ [z]) (m - (i + 1))) := by
 have e1 : stC Fs (m - i) = Fs ++ (zC :: List.replicate (m - (i + 1)) zC) := by
  unfold stC; rw [show m - i = (m - (i + 1)) + 1 by omega, List.replicate_succ]
 have e2 : stC (Fs ++ [z]) (m - (i + 1)) = Fs ++ (z :: List.replicate (m - (i + 1)) zC) := by unfold stC; rw [List.append_assoc]; rfl
 have h3 : (flatC Fs).length = 5 * i := by rw [flatC_len]; omega
 rw [e1, e2, flatC_app, flatC_app, flatC_cons, flatC_cons, List.take_left' h3, List.append_assoc]
 congr 1
 congr 1
 rw [← List.drop_drop, List.drop_left' h3]
 rfl
theorem stC_end {Fs : List CV} {i m : Nat} (h : i = m) : flatC (stC Fs (m - i)) = flatC Fs := by subst h; unfold stC; simp
theorem OwnB.ownD {N g t tot m : Nat} {Fs : List CV} {He : List Ent} {cs : List Value} (h : OwnB N Fs He) (hg : N ≤ g) (hm : Fs.length = m) (hcs : cs = flatC Fs) : OwnD N (some ⟨g, 0, none⟩) m Fs (⟨g, t, cs, tot⟩ :: He) :=
 ⟨fun e he => by
  rcases List.mem_cons.1 he with rfl | he
  ·exact hg
  ·exact h.1 e he, h.2.1, .inr ⟨g, 0, rfl⟩, fun w hl => ⟨lies_srcC (hl _ List.mem_cons_self) hcs hm, h.2.2 w fun e he => hl e (List.mem_cons_of_mem _ he)⟩⟩
theorem with_keep {w0 w : World} {e6 gb : Ent} {R He Hy : List Ent} (h : St w0 (((e6 :: R) ++ He) ++ (([] ++ Hy) ++ [gb])) w) (h6 : w0.heap.size ≤ e6.g) : St w0 ((gb :: R) ++ (He ++ Hy)) w := by
 have hp : (((e6 :: R) ++ He) ++ (([] ++ Hy) ++ [gb])).Perm (e6 :: ((gb :: R) ++ (He ++ Hy))) := by
  rw [List.nil_append]
  show (e6 :: ((R ++ He) ++ (Hy ++ [gb]))).Perm _
  refine List.Perm.cons _ ?_
  rw [← List.append_assoc, ← List.append_assoc]
  refine (List.perm_append_singleton _ _).trans ?_
  rw [List.append_assoc (gb :: R)]
  simp
 exact (h.perm hp).drop h6
theorem OwnS.room {N g m s : Nat} {t : TypeId} (h : N ≤ g) (hm : m ≤ maxLen) : OwnS N t s (.slice (some ⟨g, 0, none⟩) 0 m) 0 [] [⟨g, t, [], m * s⟩] := ⟨by simp, .inr ⟨g, m, rfl, rfl, h, Nat.zero_le _, hm⟩⟩
def pickC (Cs : List CV) (Ts : List TV) : List CV := Ts.map fun t => Cs.getD t.x zC
theorem pick_tv : ∀ (Es : List CV) (Cs : List CV) (i : Nat), (∀ j x, Es[j]? = some x → Cs[i + j]? = some x) → pickC Cs (tvA i Es) = Es
 | [], _, _, _ => rfl
 | c :: Es, Cs, i, h => by
  have h0 := h 0 c rfl
  have ih := pick_tv Es Cs (i + 1) fun j x hx => by rw [show i + 1 + j = i + (j + 1) by omega]; exact h (j + 1) x (by simpa using hx)
  unfold pickC at ih ⊢
  simp only [tvA, List.map_cons]
  rw [ih, List.getD_eq_getElem?_getD]
  rw [Nat.add_zero] at h0
  rw [h0]; rfl
theorem pick_perm {Cs : List CV} {Ts : List TV} (h : Ts.Perm (tvOf Cs)) : (pickC Cs Ts).Perm Cs := by
 have h1 := h.map fun t => Cs.getD t.x zC
 have h2 := pick_tv Cs Cs 0 fun j x hx => by rw [Nat.zero_add]; exact hx
 unfold pickC at h2 ⊢
 rw [h2] at h1; exact h1
theorem tv_key {Cs : List CV} {Ts : List TV} (h : Ts.Perm (tvOf Cs)) {t : TV} (ht : t ∈ Ts) : ∃ c, Cs[t.x]? = some c ∧ t.o = c.t := by
 obtain ⟨j, c, hj, rfl⟩ := tvA_of (h.mem_iff.1 ht)
 exact ⟨c, by rw [Nat.zero_add]; exact hj, rfl⟩
theorem pick_sorted {Cs : List CV} {Ts : List TV} (h : Ts.Perm (tvOf Cs)) (hs : Ts.Pairwise leT) : (pickC Cs Ts).Pairwise leC := by
 unfold pickC
 rw [List.pairwise_map]
 refine hs.imp_of_mem fun {a b} ha hb hab => ?_
 obtain ⟨c, hc, e1⟩ := tv_key h ha
 obtain ⟨d, hd, e2⟩ := tv_key h hb
 rw [List.getD_eq_getElem?_getD, List.getD_eq_getElem?_getD, hc, hd]
 unfold leC leT at *
 simp only [Option.getD_some]
 omega
theorem pick_at {Cs : List CV} {Ts : List TV} {i : Nat} {t : TV} {x : CV} (ht : Ts[i]? = some t) (hx : Cs[t.x]? = some x) : pickC Cs (Ts.take (i + 1)) = pickC Cs (Ts.take i) ++ [x] := by
 unfold pickC
 rw [List.take_add_one, ht, Option.toList_some, List.map_append]
 simp only [List.map_cons, List.map_nil, List.getD_eq_getElem?_getD, hx, Option.getD_some]
/-
 The code of layer 5: Clone, With.
-/
theorem enters68 : Enters Tryz.prog 68 := ⟨_, Tryz.func68, by kernel_rfl, by kernel_rfl⟩
theorem mk54 : (Tryz.prog.info? 54).map (fun i => (i.zero, i.size, i.bytes)) = some (some (.agg #[.int .i64 0, .int .i64 0, .int .i64 0, .int .i64 0, .slice none 0 0]), 5, 56) := by kernel_rfl
theorem clone_any (x : CV) (w : World) (hs : Src w x.A x.m .u8 x.B) (hB : Bytes x.B) (hn : NumC x) : Calls Tryz.prog 68 #[.agg ([int .i64 x.k, int .i64 x.t, int .i64 x.f, int .i64 x.l, slice x.A x.m x.c]).toArray] w fun e w' => ∃ y : (Option Addr × Nat) × List Ent, e = .returned (.agg ([int .i64 x.k, int .i64 x.t, int .i64 x.f, int .i64 x.l, slice y.1.1 x.m y.1.2]).toArray) ∧ CloneR w.heap.size x y.1.1 y.1.2 y.2 ∧ St w y.2 w' := by
 obtain ⟨k, t, f, l, A, m, c, B⟩ := x
 dsimp only at hs hB ⊢
 have hn2 := hn
 unfold NumC at hn2
 dsimp only at hn2
 cases A with
 | none =>
  have hm : m = 0 := by
   rcases hs.2 with h | ⟨b, off, h, _⟩
   ·exact h
   ·cases h
  subst hm
  refine (clone_nil k t f l 0 c w).mono ?_
  rintro e w' ⟨he, hw⟩
  refine ⟨((none, 0), []), he, ⟨fun e he => (nomatch he), ?_, fun W _ => ⟨⟨hs.1, .inl rfl⟩, hB⟩⟩, hw⟩
  unfold NumC clV; dsimp only; omega
 | some ad =>
  refine (clone_some k t f l ad m c B w hs (by omega) (by omega)).mono ?_
  rintro e w' ⟨g, c', he, hg, hmc, hmx, hw⟩
  refine ⟨((some ⟨g, 0, none⟩, c'), [⟨g, 5, B.map (int .u8), c'⟩]), he, ⟨fun e he => (by rw [List.mem_singleton.1 he]; exact hg), ?_, fun W hl => ⟨src_ent (hl _ List.mem_cons_self) hs.1, hB⟩⟩, hw⟩
  unfold maxLen at hmx
  unfold NumC clV; dsimp only; omega
structure WW where
 i : Nat
 Fs : List CV
 He : List Ent
theorem dwith_c (o n : Int) (H1 H2 : List Int) (hH1 : H1.length = 32) (hH2 : H2.length = 32) (A : Option Addr) (m c : Nat) (A2 : Option Addr) (m2 c2 : Nat) (Es : List CV) (hmm2 : m2 ≤ 1000000000) (hN2 : NumsC Es) (w : World) (hC2 : SrcC w A2 m2 Es) (hE : DatC w Es) (hf2 : fewQ Es)  : Calls Tryz.prog 38 #[.agg (dV o n H1 H2 (slice A m c)).toArray, .slice A2 m2 c2] w fun e w' => ∃ A' c' Fs He, e = .returned (.agg (dV o n H1 H2 (slice A' m2 ((c')))).toArray) ∧ (m2 ≤ c' ∧ c' ≤ 9223372036854775807) ∧ OwnD w.heap.size A' m2 Fs He ∧ sameE Fs Es ∧ St w He w' := by
 refine qN (args := [.agg (dV o n H1 H2 (slice A m c)).toArray, .slice A2 m2 c2]) Tryz.func38 rfl Tryz.ntmps38 (by simp) ?_
 refine qC [0, 1] ?_
 iterate 2 refine gx ?_
 refine qz (qA rfl) rfl rfl rfl (cs := dV o n H1 H2 (slice A m c)) (by simp [Value.cells]) (tot := 67) (by simp [hH1, hH2]) (fun g1 hg1 => ?_)
 refine TL.alloc (qA rfl) rfl rfl zero26 (cs := [int .i64 0, int .i64 0] ++ ((List.replicate 64 0).map (int .u8) ++ ([slice none 0 0]))) rfl (tot := 67) (by simp) (fun g2 hg2 => ?_)
 iterate 6 refine gx ?_
 refine TL.makeSliceS (qA rfl) rfl rfl Tryz.underlying24 mk54 (zs := [int .i64 0, int .i64 0, int .i64 0, int .i64 0, slice none 0 0]) rfl rfl (by decide) rfl rfl (ln := m2) (cp := m2) (by omega) (by omega) (by omega) (by omega) (by omega) (cs := flatC (stC [] m2)) (tot := m2 * 5) (stC_rep m2) rfl (fun g3 hg3 => ?_)
 refine gx ?_
 refine zF (qA rfl) rfl rfl size24 rfl rfl rfl (i := 2) rfl rfl (by simp [hH1, hH2] <;> omega) (cs' := [int .i64 o, int .i64 n] ++ (H1.map (int .u8) ++ (H2.map (int .u8) ++ ([slice (some ⟨g3, 0, none⟩) m2 m2])))) (set_right (a := 2) (i := 64) (rfl) (set_right (a := 32) (i := 32) (ints_len hH1) (set_right (a := 32) (i := 0) (ints_len hH2) (rfl)))) (H' := [⟨g3, 54, flatC (stC [] m2), (m2 * 5)⟩, ⟨g2, 26, [int .i64 0, int .i64 0] ++ ((List.replicate 64 0).map (int .u8) ++ ([slice none 0 0])), 67⟩, ⟨g1, 26, [int .i64 o, int .i64 n] ++ (H1.map (int .u8) ++ (H2.map (int .u8) ++ ([slice (some ⟨g3, 0, none⟩) m2 m2]))), 67⟩]) rfl ?_
 iterate 10 refine gx ?_
 refine qC [2, 4, 11, 12, 13] ?_
 refine gx ?_
 refine qg (ι := WW) (fun x0 => [(2, .pointer (some ⟨g1, 0, none⟩)), (4, .pointer (some ⟨g2, 0, none⟩)), (11, .slice A2 m2 c2), (12, .int .i64 (m2 : Int)), (13, .int .i64 (x0.i : Int))]) (fun x0 => [⟨g3, 54, flatC (stC x0.Fs (m2 - x0.i)), (m2 * 5)⟩, ⟨g2, 26, [int .i64 0, int .i64 0] ++ ((List.replicate 64 0).map (int .u8) ++ ([slice none 0 0])), 67⟩, ⟨g1, 26, [int .i64 o, int .i64 n] ++ (H1.map (int .u8) ++ (H2.map (int .u8) ++ ([slice (some ⟨g3, 0, none⟩) m2 m2]))), 67⟩] ++ x0.He) (fun x0 => m2 - x0.i) (fun x0 => OwnB w.heap.size x0.Fs x0.He ∧ sameE x0.Fs (Es.take x0.i) ∧ x0.i ≤ m2) (⟨0, [], []⟩ : WW) ⟨OwnB.nil _, rfl, Nat.zero_le _⟩ (qG (i := 2) rfl (qG (i := 4) rfl (qS (i := 11) rfl rfl (by first | omega | (dsimp only; omega) | rfl) (by first | omega | (dsimp only; omega) | rfl) (qE (i := 12) rfl (by first | omega | rfl) (qE (i := 13) rfl rfl (qK)))))) (fun w h => by rw [List.append_nil]; exact h) (fun x0 hC0 => ?_)
 obtain ⟨i, Fs, He⟩ := x0
 obtain ⟨hOw, hsm, him⟩ := hC0
 dsimp only at hOw hsm him ⊢
 have hF : Fresh w He := hOw.1
 have hFl : Fs.length = i := by have h1 := hsm.len; have h2 := hC2.1; rw [List.length_take] at h1; omega
 iterate 6 refine gx ?_
 refine qO rfl (fun hq0 => ?_) (fun hq0 => ?_)
 ·obtain ⟨b, off, hAe, hb, hrw⟩ := hC2.some_ (i := i) (by omega)
  subst hAe
  obtain ⟨x, hx⟩ := hC2.get (i := i) (by omega)
  iterate 7 refine gx ?_
  refine qB (qA rfl) rfl (qU rfl Tryz.underlying24 size54 rfl rfl (i := i) (by omega) (by omega) (off' := (off + 5 * i)) (by omega)) ?_
  refine qB (qA rfl) rfl (qi rfl agg54 size54 rfl rfl (Row.old (fun jj u h => hrw i x hx jj u h) hb (qT (qD (by show g3 ≠ b; omega) (qD (by show g2 ≠ b; omega) (qD (by show g1 ≠ b; omega) qF))) (hF.ne hb)))) ?_
  refine qa (fun g4 hg4 => ?_)
  refine gx ?_
  refine qy (qA rfl) rfl rfl size54 rfl (vs := [int .i64 x.k, int .i64 x.t, int .i64 x.f, int .i64 x.l, slice x.A x.m x.c]) rfl (by simp []) (by simp [Value.oneCell']) (i := 0) (ent := ⟨g4, 54, [int .i64 0, int .i64 0, int .i64 0, int .i64 0, slice none 0 0], 5⟩) rfl rfl (by simp []) (H' := [⟨g4, 54, [int .i64 x.k, int .i64 x.t, int .i64 x.f, int .i64 x.l, slice x.A x.m x.c], 5⟩, ⟨g3, 54, flatC (stC Fs (m2 - i)), (m2 * 5)⟩, ⟨g2, 26, [int .i64 0, int .i64 0] ++ ((List.replicate 64 0).map (int .u8) ++ ([slice none 0 0])), 67⟩, ⟨g1, 26, [int .i64 o, int .i64 n] ++ (H1.map (int .u8) ++ (H2.map (int .u8) ++ ([slice (some ⟨g3, 0, none⟩) m2 m2]))), 67⟩] ++ He) rfl ?_
  iterate 2 refine gx ?_
  refine qC [2, 4, 5, 6, 11, 12, 13] ?_
  refine TC.mixS ([Ent.mk g4 54 ([int .i64 x.k, int .i64 x.t, int .i64 x.f, int .i64 x.l, slice x.A x.m x.c]) 5, Ent.mk g2 26 ([int .i64 0, int .i64 0] ++ ((List.replicate 64 0).map (int .u8) ++ ([slice none 0 0]))) 67, Ent.mk g1 26 ([int .i64 o, int .i64 n] ++ (H1.map (int .u8) ++ (H2.map (int .u8) ++ ([slice (some ⟨g3, 0, none⟩) m2 m2])))) 67] ++ He) [⟨g3, 54, flatC (stC Fs (m2 - i)), (m2 * 5)⟩] (by kernel_rfl) [0, 1, 0, 1, 3, 0, 4] [0, 1, 2, 3, 4, 5, 6] [fun _ _ => True, fun _ _ => True, fun _ _ => True, fun _ _ => True, fun v e => ∃ y : (Option Addr × Nat) × List Ent, (CloneR w.heap.size x y.1.1 y.1.2 y.2) ∧ v = .agg ([int .i64 x.k, int .i64 x.t, int .i64 x.f, int .i64 x.l, slice y.1.1 x.m y.1.2]).toArray ∧ e = y.2, fun _ _ => True, fun _ _ => True] (by kernel_rfl) (by kernel_rfl) (perm_midE (A := [Ent.mk g4 54 ([int .i64 x.k, int .i64 x.t, int .i64 x.f, int .i64 x.l, slice x.A x.m x.c]) 5]) (g := Ent.mk g3 54 (flatC (stC Fs (m2 - i))) (m2 * 5)) (B := [Ent.mk g2 26 ([int .i64 0, int .i64 0] ++ ((List.replicate 64 0).map (int .u8) ++ ([slice none 0 0]))) 67, Ent.mk g1 26 ([int .i64 o, int .i64 n] ++ (H1.map (int .u8) ++ (H2.map (int .u8) ++ ([slice (some ⟨g3, 0, none⟩) m2 m2])))) 67] ++ He)) (qI (by assumption) qe) ?_
  iterate 4 refine gx ?_
  refine TR.call3 (ι := (Option Addr × Nat) × List Ent) (V := fun y => .agg ([int .i64 x.k, int .i64 x.t, int .i64 x.f, int .i64 x.l, slice y.1.1 x.m y.1.2]).toArray) (R := fun y => CloneR w.heap.size x y.1.1 y.1.2 y.2) (E := fun y => y.2) (qA rfl) rfl enters68 rfl rfl (fun Z w hZ hs => (clone_any x w ((hE i x hx).1.at_ hs (fun b hb => (qT (qT (qD (by show g4 ≠ b; omega) (qD (by show g2 ≠ b; omega) (qD (by show g1 ≠ b; omega) qF))) (hF.ne hb)) (hZ.ne hb)))) (hE i x hx).2 (hN2 i x hx)).mono fun e w' ⟨y, he, hR, hw⟩ => ⟨y, he, hR.mono hs.size, hR.1, hw⟩) (fun y hR hFy => ?_)
  refine TR.free (qA rfl) rfl (fun _ => qU rfl Tryz.underlying24 size54 rfl rfl (i := i) (by omega) (by omega) (off' := (5 * i)) (by omega)) ?_
  refine TR.storeN (qA rfl) rfl rfl size54 rfl (vs := [int .i64 x.k, int .i64 x.t, int .i64 x.f, int .i64 x.l, slice y.1.1 x.m y.1.2]) rfl rfl (by simp [Value.oneCell']) (i := 0) (ent := ⟨g3, 54, flatC (stC Fs (m2 - i)), (m2 * 5)⟩) rfl rfl (by show (5 * i) + 5 ≤ (flatC (stC Fs (m2 - i))).length; rw [flatC_len, stC_len]; omega) (cs' := flatC (stC (Fs ++ [clV x y.1.1 y.1.2]) (m2 - (i + 1)))) (stC_step (i := i) (m := m2) (z := clV x y.1.1 y.1.2) hFl (by omega)) (D' := [⟨g3, 54, flatC (stC (Fs ++ [clV x y.1.1 y.1.2]) (m2 - (i + 1))), (m2 * 5)⟩]) rfl (qI (by assumption) qe) ?_
  refine gx ?_
  refine TE.heap (H' := [Ent.mk g3 54 (flatC (stC (Fs ++ [clV x y.1.1 y.1.2]) (m2 - (i + 1)))) (m2 * 5), Ent.mk g2 26 ([int .i64 0, int .i64 0] ++ ((List.replicate 64 0).map (int .u8) ++ ([slice none 0 0]))) 67, Ent.mk g1 26 ([int .i64 o, int .i64 n] ++ (H1.map (int .u8) ++ (H2.map (int .u8) ++ ([slice (some ⟨g3, 0, none⟩) m2 m2])))) 67] ++ (He ++ y.2)) (fun w h => with_keep h (by assumption)) ?_
  have hOw2 := hOw.add hR
  have hF2 : Fresh w (He ++ y.2) := hOw2.1
  iterate 2 refine gx ?_
  refine qC [2, 4, 11, 12, 13] ?_
  refine gx ?_
  refine qB (qA rfl) rfl (qQ rfl rfl rfl (r := ((i : Int) + 1)) (w64 (by omega) (by omega))) ?_
  iterate 2 refine gx ?_
  exact qZ (⟨i + 1, Fs ++ [clV x y.1.1 y.1.2], He ++ y.2⟩ : WW) (by show m2 - (i + 1) < m2 - i; omega) ⟨hOw2, sameE_add hsm hx, (by show i + 1 ≤ m2; omega)⟩ (qG (i := 2) rfl (qG (i := 4) rfl (qS (i := 11) rfl (by first | rfl | (congr 2; omega)) (by first | omega | (dsimp only; omega) | rfl) (by first | omega | (dsimp only; omega) | rfl) (qE (i := 12) rfl (by first | omega | rfl) (qE (i := 13) rfl rfl (qK)))))) (fun w h => h)
 ·have hiq : i = m2 := by omega
  have hsmE : sameE Fs Es := by rw [List.take_of_length_le (by have := hC2.1; omega)] at hsm; exact hsm
  iterate 8 refine gx ?_
  refine qy (qA rfl) rfl rfl size26 rfl (vs := [int .i64 o, int .i64 n] ++ (H1.map (int .u8) ++ (H2.map (int .u8) ++ ([slice (some ⟨g3, 0, none⟩) m2 m2])))) rfl (by simp [hH1, hH2]) (zP (by simp [Value.oneCell']) (zP qs (zP qs (by simp [Value.oneCell'])))) (i := 1) (ent := ⟨g2, 26, [int .i64 0, int .i64 0] ++ ((List.replicate 64 0).map (int .u8) ++ ([slice none 0 0])), 67⟩) rfl rfl (by simp []) (H' := [⟨g3, 54, flatC (stC Fs (m2 - i)), (m2 * 5)⟩, ⟨g2, 26, [int .i64 o, int .i64 n] ++ (H1.map (int .u8) ++ (H2.map (int .u8) ++ ([slice (some ⟨g3, 0, none⟩) m2 m2]))), 67⟩, ⟨g1, 26, [int .i64 o, int .i64 n] ++ (H1.map (int .u8) ++ (H2.map (int .u8) ++ ([slice (some ⟨g3, 0, none⟩) m2 m2]))), 67⟩] ++ He) rfl ?_
  iterate 3 refine gx ?_
  exact qk rfl agg26 size26 rfl (vs := [int .i64 o, int .i64 n] ++ (H1.map (int .u8) ++ (H2.map (int .u8) ++ ([slice (some ⟨g3, 0, none⟩) m2 m2])))) (by simp [hH1, hH2]) (qX (i := 1) (ent := ⟨g2, 26, [int .i64 o, int .i64 n] ++ (H1.map (int .u8) ++ (H2.map (int .u8) ++ ([slice (some ⟨g3, 0, none⟩) m2 m2]))), 67⟩) rfl rfl rfl) (fun w hs => ⟨some ⟨g3, 0, none⟩, m2, Fs, _, rfl, ⟨Nat.le_refl _, by omega⟩, hOw.ownD hg3 (hFl.trans hiq) (stC_end hiq), hsmE, (hs.erase (i := 1) rfl (by assumption)).erase (i := 1) rfl (by assumption)⟩)
/-
 The code of layer 5: Sort.
-/
theorem enters38 : Enters Tryz.prog 38 := ⟨_, Tryz.func38, by kernel_rfl, by kernel_rfl⟩
theorem dsort_c (o n : Int) (H1 H2 : List Int) (hH1 : H1.length = 32) (hH2 : H2.length = 32) (A : Option Addr) (m c : Nat) (Cs : List CV) (hmm : m ≤ 1000000000) (hN : NumsC Cs) (w : World) (hC : SrcC w A m Cs) (hD : DatC w Cs) (hf : fewQ Cs) (hVC : ValidC o n Cs)  : Calls Tryz.prog 26 #[.agg (dV o n H1 H2 (slice A m c)).toArray] w fun e w' => ∃ A' c' Fs He, e = .returned (.agg (dV o n H1 H2 (slice A' m ((c')))).toArray) ∧ (m ≤ c' ∧ c' ≤ 9223372036854775807) ∧ OwnD w.heap.size A' m Fs He ∧ (∃ Gs : List CV, Gs.Perm Cs ∧ Gs.Pairwise leC ∧ sameE Fs Gs) ∧ St w He w' := by
 have hk12 : ∀ (i : Nat) (x : CV), Cs[i]? = some x → x.k = 1 ∨ x.k = 2 := fun i x hx => code_kind (single_vld (hVC.single i x hx)).2.2.2.1
 refine qN (args := [.agg (dV o n H1 H2 (slice A m c)).toArray]) Tryz.func26 rfl Tryz.ntmps26 (by simp) ?_
 refine qC [0] ?_
 iterate 2 refine gx ?_
 refine qz (qA rfl) rfl rfl rfl (cs := dV o n H1 H2 (slice A m c)) (by simp [Value.cells]) (tot := 67) (by simp [hH1, hH2]) (fun g1 hg1 => ?_)
 refine TL.alloc (qA rfl) rfl rfl zero26 (cs := [int .i64 0, int .i64 0] ++ ((List.replicate 64 0).map (int .u8) ++ ([slice none 0 0]))) rfl (tot := 67) (by simp) (fun g2 hg2 => ?_)
 iterate 7 refine gx ?_
 refine TL.makeSliceS (qA rfl) rfl rfl Tryz.underlying24 mk54 (zs := [int .i64 0, int .i64 0, int .i64 0, int .i64 0, slice none 0 0]) rfl rfl (by decide) rfl rfl (ln := 0) (cp := m) rfl (by omega) (by omega) (by omega) (by omega) (cs := flatC (stC [] m)) (tot := m * 5) (stC_rep m) rfl (fun g3 hg3 => ?_)
 iterate 8 refine gx ?_
 refine qu (ι := Nat × List TV) (V := fun y => .slice (some ⟨y.1, 0, none⟩) m m) (R := fun y => (y.2.Perm (tvOf Cs) ∧ y.2.Pairwise leT) ∧ w.heap.size ≤ y.1) (H' := fun y => [⟨g3, 54, flatC (stC [] m), (m * 5)⟩, ⟨g2, 26, [int .i64 0, int .i64 0] ++ ((List.replicate 64 0).map (int .u8) ++ ([slice none 0 0])), 67⟩, ⟨g1, 26, dV o n H1 H2 (slice A m c), 67⟩, ⟨y.1, 83, flatT y.2, (m * 3)⟩]) (qA rfl) rfl enters46 rfl rfl (fun w hs => (asc_c A m c Cs hk12 (by omega) hN w (hC.at_ hs (fun b hb => (qD (by show g3 ≠ b; omega) (qD (by show g2 ≠ b; omega) (qD (by show g1 ≠ b; omega) qF)))))).mono fun e w' ⟨y, he, hR, hg, hw⟩ => ⟨y, he, ⟨hR, Nat.le_trans hs.size hg⟩, st_call hs hw (fun e he => by rw [List.mem_singleton.1 he]; exact hg)⟩) (fun y hR => ?_)
 obtain ⟨gt, Ts⟩ := y
 obtain ⟨⟨hTp, hTs⟩, hgt⟩ := hR
 dsimp only at hTp hTs hgt ⊢
 iterate 4 refine gx ?_
 refine qC [1, 2, 3, 12, 13, 14] ?_
 refine gx ?_
 refine qg (ι := WS) (fun x0 => [(1, .pointer (some ⟨g1, 0, none⟩)), (2, .pointer (some ⟨g2, 0, none⟩)), (3, x0.v), (12, .slice (some ⟨gt, 0, none⟩) m m), (13, .int .i64 (m : Int)), (14, .int .i64 (x0.i : Int))]) (fun x0 => [⟨g2, 26, [int .i64 0, int .i64 0] ++ ((List.replicate 64 0).map (int .u8) ++ ([slice none 0 0])), 67⟩, ⟨g1, 26, dV o n H1 H2 (slice A m c), 67⟩, ⟨gt, 83, flatT Ts, (m * 3)⟩] ++ x0.He) (fun x0 => m - x0.i) (fun x0 => OwnS w.heap.size 54 5 x0.v x0.i (flatC x0.Es) x0.He ∧ x0.Es = pickC Cs (Ts.take x0.i) ∧ x0.i ≤ m) (⟨0, .slice (some ⟨g3, 0, none⟩) 0 m, [], [⟨g3, 54, [], m * 5⟩]⟩ : WS) ⟨OwnS.room hg3 (by unfold maxLen; omega), rfl, Nat.zero_le _⟩ (qG (i := 1) rfl (qG (i := 2) rfl (qG (i := 3) rfl (qS (i := 12) rfl rfl (by first | omega | (dsimp only; omega) | rfl) (by first | omega | (dsimp only; omega) | rfl) (qE (i := 13) rfl (by first | omega | rfl) (qE (i := 14) rfl rfl (qK))))))) (fun w h => (St.less h).perm (List.perm_append_singleton _ _).symm) (fun x0 hC0 => ?_)
 obtain ⟨i, v, Es, He⟩ := x0
 obtain ⟨hown, hEq, him⟩ := hC0
 dsimp only at hown hEq him ⊢
 have hF : Fresh w He := hown.new
 obtain ⟨Ao, co, rfl, hco, hco2⟩ := hown.form
 iterate 6 refine gx ?_
 refine qO rfl (fun hq0 => ?_) (fun hq0 => ?_)
 ·obtain ⟨tv, htv⟩ : ∃ tv, Ts[i]? = some tv := ⟨_, List.getElem?_eq_getElem (by have h1 := hTp.length_eq; rw [tvA_len] at h1; have := hC.1; omega)⟩
  obtain ⟨x, hx, htx⟩ := tv_key hTp (List.mem_of_getElem? htv)
  have hxm : tv.x < m := by have h1 := (List.getElem?_eq_some_iff.1 hx).1; have := hC.1; omega
  obtain ⟨b, off, hAe, hb, hrw⟩ := hC.some_ (i := tv.x) hxm
  subst hAe
  iterate 6 refine gx ?_
  refine qB (qA rfl) rfl (qU rfl Tryz.underlying78 size83 rfl rfl (i := i) (by omega) (by omega) (off' := (3 * i)) (by omega)) ?_
  refine qB (qA rfl) rfl (qi rfl agg83 size83 rfl (vs := [int .i64 tv.o, int .i64 tv.l, int .i64 (tv.x : Int)]) rfl (Row.ent (i := 2) (ent := ⟨gt, 83, flatT Ts, (m * 3)⟩) rfl rfl (fun j u h => flatT_get htv h))) ?_
  refine qa (fun g4 hg4 => ?_)
  refine qy (qA rfl) rfl rfl size83 rfl (vs := [int .i64 tv.o, int .i64 tv.l, int .i64 (tv.x : Int)]) rfl (by simp []) (by simp [Value.oneCell']) (i := 0) (ent := ⟨g4, 83, [int .i64 0, int .i64 0, int .i64 0], 3⟩) rfl rfl (by simp []) (H' := [⟨g4, 83, [int .i64 tv.o, int .i64 tv.l, int .i64 (tv.x : Int)], 3⟩, ⟨g2, 26, [int .i64 0, int .i64 0] ++ ((List.replicate 64 0).map (int .u8) ++ ([slice none 0 0])), 67⟩, ⟨g1, 26, [int .i64 o, int .i64 n] ++ (H1.map (int .u8) ++ (H2.map (int .u8) ++ ([slice (some ⟨b, off, none⟩) m c]))), 67⟩, ⟨gt, 83, flatT Ts, (m * 3)⟩] ++ He) rfl ?_
  iterate 2 refine gx ?_
  refine qC [1, 2, 3, 5, 12, 13, 14] ?_
  iterate 6 refine gx ?_
  refine qB (qA rfl) rfl (qU rfl Tryz.underlying24 size54 rfl rfl (i := tv.x) (by omega) (by omega) (off' := (off + 5 * tv.x)) (by omega)) ?_
  refine qB (qA rfl) rfl (qi rfl agg54 size54 rfl rfl (Row.old (fun jj u h => hrw tv.x x hx jj u h) hb (qT (qD (by show g4 ≠ b; omega) (qD (by show g2 ≠ b; omega) (qD (by show g1 ≠ b; omega) (qD (by show gt ≠ b; omega) qF)))) (hF.ne hb)))) ?_
  refine zK (qA rfl) rfl rfl Tryz.underlying24 size54 zero54 rfl (by decide) (by decide) (cells := #[.int .i64 x.k, .int .i64 x.t, .int .i64 x.f, .int .i64 x.l, .slice x.A x.m x.c]) (tot := 5) (by kernel_rfl) (cs := [.int .i64 x.k, .int .i64 x.t, .int .i64 x.f, .int .i64 x.l, .slice x.A x.m x.c]) rfl rfl (fun g5 hg5 => ?_)
  refine TL.appendS (H := [Ent.mk g5 54 ([int .i64 x.k, int .i64 x.t, int .i64 x.f, int .i64 x.l, slice x.A x.m x.c]) 5, Ent.mk g4 83 ([int .i64 tv.o, int .i64 tv.l, int .i64 (tv.x : Int)]) 3, Ent.mk g2 26 ([int .i64 0, int .i64 0] ++ ((List.replicate 64 0).map (int .u8) ++ ([slice none 0 0]))) 67, Ent.mk g1 26 ([int .i64 o, int .i64 n] ++ (H1.map (int .u8) ++ (H2.map (int .u8) ++ ([slice (some ⟨b, off, none⟩) m c])))) 67, Ent.mk gt 83 (flatT Ts) (m * 3)]) (He := He) (qA rfl) rfl rfl Tryz.underlying24 mk54 rfl (by decide) rfl rfl (s := 5) (nn := i) (m := 1) (cs := flatC Es) (news := cellsC x) hown rfl (fun w hs => lies_srcV (hs.has (Ent.mk g5 54 ([int .i64 x.k, int .i64 x.t, int .i64 x.f, int .i64 x.l, slice x.A x.m x.c]) 5) (by simp))) (by intro u hu; exact flatC_one' [x] u (by rw [flatC_one]; exact hu)) (by unfold maxLen; omega) (by omega) (fun v2 He2 hown2 => ?_)
  have hF2 : Fresh w He2 := hown2.new
  iterate 4 refine gx ?_
  refine qC [1, 2, 3, 12, 13, 14] ?_
  refine gx ?_
  refine qB (qA rfl) rfl (qQ rfl rfl rfl (r := ((i : Int) + 1)) (w64 (by omega) (by omega))) ?_
  iterate 2 refine gx ?_
  exact qZ (⟨i + 1, v2, Es ++ [x], He2⟩ : WS) (by show m - (i + 1) < m - i; omega) ⟨(by show OwnS _ _ _ _ _ (flatC (Es ++ [x])) _; rw [flatC_app, flatC_one]; exact hown2), (by show Es ++ [x] = _; rw [hEq, pick_at htv hx]), (by show i + 1 ≤ m; omega)⟩ (qG (i := 1) rfl (qG (i := 2) rfl (qG (i := 3) rfl (qS (i := 12) rfl rfl (by first | omega | (dsimp only; omega) | rfl) (by first | omega | (dsimp only; omega) | rfl) (qE (i := 13) rfl (by first | omega | rfl) (qE (i := 14) rfl rfl (qK))))))) (fun w h => ((h.erase (i := 1) rfl (by assumption)).erase (i := 0) rfl (by assumption)))
 ·obtain rfl : m = i := by omega
  have hTl : Ts.length = m := by have h1 := hTp.length_eq; rw [tvA_len] at h1; have := hC.1; omega
  rw [List.take_of_length_le (by omega)] at hEq
  have hEp : Es.Perm Cs := by rw [hEq]; exact pick_perm hTp
  have hEs : Es.Pairwise leC := by rw [hEq]; exact pick_sorted hTp hTs
  iterate 9 refine gx ?_
  refine qu (ι := (Option Addr × Nat) × (List CV × List Ent)) (V := fun y => .agg (dV o n H1 H2 (slice y.1.1 m y.1.2)).toArray) (R := fun y => (m ≤ y.1.2 ∧ y.1.2 ≤ 9223372036854775807) ∧ OwnD w.heap.size y.1.1 m y.2.1 y.2.2 ∧ sameE y.2.1 Es) (H' := fun y => [⟨g2, 26, [int .i64 0, int .i64 0] ++ ((List.replicate 64 0).map (int .u8) ++ ([slice none 0 0])), 67⟩, ⟨g1, 26, dV o n H1 H2 (slice A m c), 67⟩, ⟨gt, 83, flatT Ts, (m * 3)⟩] ++ He ++ y.2.2) (qA rfl) rfl enters38 rfl rfl (fun w hs => (dwith_c o n H1 H2 hH1 hH2 A m c Ao m co Es hmm (hN.sub fun x hx => hEp.mem_iff.1 hx) w (hown.srcC (fun e he => hs.has e (by simp [he]))) ((hD.at_ hs (fun b hb => (qT (qD (by show g2 ≠ b; omega) (qD (by show g1 ≠ b; omega) (qD (by show gt ≠ b; omega) qF))) (hF.ne hb)))).sub fun x hx => hEp.mem_iff.1 hx) (hf.sub2 hEp)).mono fun e w' ⟨A', c', Fs, He, he, hc, ho, hsm, hw⟩ => ⟨((A', c'), (Fs, He)), he, ⟨hc, ho.mono hs.size, hsm⟩, st_call hs hw ho.1⟩) (fun y hR => ?_)
  obtain ⟨⟨As, cs⟩, Fs, Hw⟩ := y
  obtain ⟨hcs, hos, hsm⟩ := hR
  dsimp only at hcs hos hsm ⊢
  have hFw : Fresh w Hw := hos.1
  refine TL.heap (H' := [⟨g2, 26, [int .i64 0, int .i64 0] ++ ((List.replicate 64 0).map (int .u8) ++ ([slice none 0 0])), 67⟩, ⟨g1, 26, dV o n H1 H2 (slice A m c), 67⟩, ⟨gt, 83, flatT Ts, (m * 3)⟩] ++ (He ++ Hw)) (fun w h => by rw [← List.append_assoc]; exact h) ?_
  have hFtHw := zG hF hFw
  refine qy (qA rfl) rfl rfl size26 rfl (vs := dV o n H1 H2 (slice As m cs)) rfl (by simp [hH1, hH2]) (zP (by simp [Value.oneCell']) (zP qs (zP qs (by simp [Value.oneCell'])))) (i := 0) (ent := ⟨g2, 26, [int .i64 0, int .i64 0] ++ ((List.replicate 64 0).map (int .u8) ++ ([slice none 0 0])), 67⟩) rfl rfl (by simp []) (H' := [⟨g2, 26, dV o n H1 H2 (slice As m cs), 67⟩, ⟨g1, 26, dV o n H1 H2 (slice A m c), 67⟩, ⟨gt, 83, flatT Ts, (m * 3)⟩] ++ (He ++ Hw)) rfl ?_
  iterate 3 refine gx ?_
  exact qk rfl agg26 size26 rfl (vs := dV o n H1 H2 (slice As m cs)) (by simp [hH1, hH2]) (qX (i := 0) (ent := ⟨g2, 26, dV o n H1 H2 (slice As m cs), 67⟩) rfl rfl rfl) (fun w hs => ⟨As, cs, Fs, Hw, rfl, hcs, hos, ⟨Es, hEp, hEs, hsm⟩, zQ He (((hs.erase (i := 0) rfl (by assumption)).erase (i := 0) rfl (by assumption)).erase (i := 0) rfl (by assumption)) hown.new⟩)
/-
 Mathematics of the new file: the byte that belongs to an offset; it does not depend on the order of the commands.
-/
def atV (B : List Int) (x : CV) (p : Int) : Int := if x.k = 1 then B.getD (x.f + p - x.t).toNat 0 else x.B.getD (p - x.t).toNat 0
noncomputable def byteI (B : List Int) (Cs : List CV) (p : Int) : Int := match Cs[(findI Cs p).toNat]? with
 | some x => atV B x p
 | none => 0
noncomputable def newB (B : List Int) (Cs : List CV) (n : Int) : List Int := (List.range n.toNat).map fun i : Nat => byteI B Cs i
theorem newB_len {B : List Int} {Cs : List CV} {n : Int} : (newB B Cs n).length = n.toNat := by simp [newB]
theorem newB_get {B : List Int} {Cs : List CV} {n : Int} {i : Nat} (hi : (i : Int) < n) : (newB B Cs n)[i]? = some (byteI B Cs i) := by
 unfold newB; rw [List.getElem?_map, List.getElem?_range (by omega)]; rfl
theorem newB_succ {B : List Int} {Cs : List CV} {n : Int} {i : Nat} (hi : (i : Int) < n) : (newB B Cs n).take (i + 1) = (newB B Cs n).take i ++ [byteI B Cs i] := by
 rw [List.take_add_one, newB_get hi]; rfl
theorem newB_all {B : List Int} {Cs : List CV} {n : Int} {i : Nat} (hi : n ≤ (i : Int)) : (newB B Cs n).take i = newB B Cs n := List.take_of_length_le (by rw [newB_len]; omega)
theorem find_at {Cs : List CV} {a N p : Int} (ht : tidyT a N (Cs.map tg)) {i : Nat} {x : CV} (hx : Cs[i]? = some x) (hb : hasB (tg x) p) : findI Cs p = i := findI_is (.inr ⟨i, x, rfl, hx, hb, fun j y hj hy hb' => by
 have hil := (List.getElem?_eq_some_iff.1 hx).1
 have h1 := List.pairwise_iff_getElem.1 ht.2 j i (by simpa using (List.getElem?_eq_some_iff.1 hy).1) (by simpa using hil) hj
 simp only [List.getElem_map, (List.getElem?_eq_some_iff.1 hx).2, (List.getElem?_eq_some_iff.1 hy).2] at h1
 unfold apartT at h1; unfold hasB at hb hb'
 omega⟩)
theorem byteI_of {B : List Int} {Cs : List CV} {a N p : Int} (ht : tidyT a N (Cs.map tg)) {i : Nat} {x : CV} (hx : Cs[i]? = some x) (hb : hasB (tg x) p) : byteI B Cs p = atV B x p := by
 unfold byteI; rw [find_at ht hx hb, Int.toNat_natCast, hx]
theorem ValidC.find {o n p : Int} {Cs : List CV} (h : ValidC o n Cs) (h0 : 0 ≤ p) (hp : p < n) : ∃ (i : Nat) (x : CV), findI Cs p = i ∧ Cs[i]? = some x ∧ hasB (tg x) p := by
 obtain ⟨q, hq, hb⟩ := h.cover p h0 hp
 obtain ⟨x, hx, rfl⟩ := List.mem_map.1 hq
 obtain ⟨i, hi⟩ := List.mem_iff_getElem?.1 hx
 exact ⟨i, x, find_at h.tidy hi hb, hi, hb⟩
theorem ValidC.reads {o n p : Int} {Cs : List CV} (h : ValidC o n Cs) {i : Nat} {x : CV} (hx : Cs[i]? = some x) (hb : hasB (tg x) p) : (x.k = 1 → 0 ≤ x.f ∧ 0 ≤ x.f + p - x.t ∧ x.f + p - x.t < o ∧ x.f + x.l ≤ o) ∧ (x.k ≠ 1 → 0 ≤ p - x.t ∧ p - x.t < x.m) := by
 have h1 := h.single i x hx
 have hv := single_vld h1
 have h2 : codeV x.k x.t x.f x.l x.m = 0 := by
  apply Classical.byContradiction
  intro hne
  unfold singleV at h1; rw [if_neg hne] at h1; exact hne h1
 unfold singleV at h1; rw [if_pos h2] at h1
 have h3 := codeV_facts h2
 unfold hasB tg lenV at hb
 dsimp only at hb
 constructor
 ·intro hk
  rw [if_pos hk] at hb
  by_cases hc : x.k = 1 ∧ o < x.f + x.l
  ·rw [if_pos hc] at h1; omega
  ·obtain ⟨h4, h5, h6⟩ := h3.2.2 hk
   omega
 ·intro hk
  rw [if_neg hk] at hb
  omega
theorem byteI_perm {B : List Int} {Cs Es : List CV} {o n p : Int} (h : ValidC o n Cs) (hp : Cs.Perm Es) (h0 : 0 ≤ p) (hn : p < n) : byteI B Es p = byteI B Cs p := by
 obtain ⟨i, x, h1, h2, h3⟩ := h.find h0 hn
 obtain ⟨j, hj⟩ := List.mem_iff_getElem?.1 (hp.mem_iff.1 (List.mem_of_getElem? h2))
 rw [byteI_of h.tidy h2 h3, byteI_of (h.tidy.perm (hp.map tg)) hj h3]
theorem newB_perm {B : List Int} {Cs Es : List CV} {o n : Int} (h : ValidC o n Cs) (hp : Cs.Perm Es) : newB B Es n = newB B Cs n := by
 unfold newB
 refine List.map_congr_left fun i hi => ?_
 have := List.mem_range.1 hi
 exact byteI_perm h hp (by omega) (by omega)
/-
 Mathematics of the greedy commands from one file to another.
-/
def eqN : List Int → List Int → Nat
 | x :: a, y :: b => if x = y then eqN a b + 1 else 0
 | _, _ => 0
theorem eqN_le : ∀ a b : List Int, eqN a b ≤ a.length ∧ eqN a b ≤ b.length
 | [], b => by simp [eqN]
 | _ :: _, [] => by simp [eqN]
 | x :: a, y :: b => by
  have := eqN_le a b
  unfold eqN; split <;> simp only [List.length_cons] <;> omega
theorem eqN_take : ∀ a b : List Int, a.take (eqN a b) = b.take (eqN a b)
 | [], b => by simp [eqN]
 | _ :: _, [] => by simp [eqN]
 | x :: a, y :: b => by
  unfold eqN; split
  ·rename_i h; rw [List.take_succ_cons, List.take_succ_cons, h, eqN_take a b]
  ·rfl
theorem eqN_nil {a b : List Int} (h : a = [] ∨ b = []) : eqN a b = 0 := by
 have := eqN_le a b
 rcases h with rfl | rfl <;> simp at this <;> omega
theorem getD_in {a : List Int} {n : Nat} (h : n < a.length) : a.getD n 0 = a[n] := by
 rw [List.getD_eq_getElem?_getD, List.getElem?_eq_getElem h]; rfl
theorem eqN_yes {a b : List Int} {n : Nat} (ha : n < a.length) (hb : n < b.length) (h : a.getD n 0 = b.getD n 0) : eqN (a.drop n) (b.drop n) = eqN (a.drop (n + 1)) (b.drop (n + 1)) + 1 := by
 rw [List.drop_eq_getElem_cons ha, List.drop_eq_getElem_cons hb]
 rw [getD_in ha, getD_in hb] at h
 show (if a[n] = b[n] then _ else _) = _
 rw [if_pos h]
theorem eqN_no {a b : List Int} {n : Nat} (ha : n < a.length) (hb : n < b.length) (h : ¬ a.getD n 0 = b.getD n 0) : eqN (a.drop n) (b.drop n) = 0 := by
 rw [List.drop_eq_getElem_cons ha, List.drop_eq_getElem_cons hb]
 rw [getD_in ha, getD_in hb] at h
 show (if a[n] = b[n] then _ else _) = _
 rw [if_neg h]
theorem eqN_end {a b : List Int} {n : Nat} (h : a.length ≤ n ∨ b.length ≤ n) : eqN (a.drop n) (b.drop n) = 0 := eqN_nil (by rcases h with h | h; exact .inl (List.drop_eq_nil_of_le h); exact .inr (List.drop_eq_nil_of_le h))
def matchI (old b : List Int) (k : Int) : Option Nat := if k < 1 ∨ (b.length : Int) < k then none else (List.range old.length).find? fun q => decide (k ≤ eqN (old.drop q) b)
theorem matchI_no {old b : List Int} {k : Int} (h : k < 1 ∨ (b.length : Int) < k) : matchI old b k = none := if_pos h
theorem matchI_none {old b : List Int} {k : Int} {q : Nat} (hq : (old.length : Int) < q + k) (h : ∀ q' : Nat, q' < q → ¬ k ≤ (eqN (old.drop q') b : Int)) : matchI old b k = none := by
 unfold matchI
 split
 ·rfl
 ·rename_i hk
  rw [List.find?_range_eq_none]
  intro i hi
  by_cases hiq : i < q
  ·simp [h i hiq]
  ·have := (eqN_le (old.drop i) b).1
   rw [List.length_drop] at this
   simp; omega
theorem matchI_some {old b : List Int} {k : Int} {q : Nat} (h1 : 1 ≤ k) (h2 : k ≤ eqN (old.drop q) b) (h : ∀ q' : Nat, q' < q → ¬ k ≤ (eqN (old.drop q') b : Int)) : matchI old b k = some q := by
 have h3 := eqN_le (old.drop q) b
 rw [List.length_drop] at h3
 unfold matchI
 rw [if_neg (by omega), List.find?_range_eq_some]
 refine ⟨by simpa using h2, List.mem_range.2 (by omega), fun j hj => by simpa using h j hj⟩
theorem matchI_spec {old b : List Int} {k : Int} {q : Nat} (h : matchI old b k = some q) : 1 ≤ k ∧ k ≤ eqN (old.drop q) b ∧ q + eqN (old.drop q) b ≤ old.length ∧ eqN (old.drop q) b ≤ b.length := by
 unfold matchI at h
 split at h
 ·cases h
 ·rename_i hk
  rw [List.find?_range_eq_some] at h
  have h1 : k ≤ eqN (old.drop q) b := by simpa using h.1
  have h2 := eqN_le (old.drop q) b
  rw [List.length_drop] at h2
  omega
abbrev PC := Int × Int × Int × Int × List Int
def lastLit (out : List PC) : Bool := match out.getLast? with
 | some c => decide (c.1 = 2)
 | none => false
def addLit (c : PC) (x : Int) : PC := (c.1, c.2.1, c.2.2.1, c.2.2.2.1, c.2.2.2.2 ++ [x])
def pushL (out : List PC) (p : Nat) (x : Int) : List PC := match out.getLast? with
 | some c => if c.1 = 2 then out.dropLast ++ [addLit c x] else out ++ [(2, (p : Int), 0, 0, [x])]
 | none => out ++ [(2, (p : Int), 0, 0, [x])]
def stepC (old new : List Int) (k : Int) (p : Nat) (out : List PC) : Nat × List PC := match matchI old (new.drop p) k with
 | some q => (p + eqN (old.drop q) (new.drop p), out ++ [(1, (p : Int), (q : Int), (eqN (old.drop q) (new.drop p) : Int), [])])
 | none => (p + 1, pushL out p (new.getD p 0))
def runC (old new : List Int) (k : Int) : Nat → Nat → List PC → List PC
 | 0, _, out => out
 | f + 1, p, out => if p < new.length then runC old new k f (stepC old new k p out).1 (stepC old new k p out).2 else out
theorem stepC_gt {old new : List Int} {k : Int} {p : Nat} {out : List PC} : p + 1 ≤ (stepC old new k p out).1 := by
 unfold stepC; split
 ·rename_i h; have := matchI_spec h; dsimp only; omega
 ·exact Nat.le_refl _
theorem stepC_le {old new : List Int} {k : Int} {p : Nat} {out : List PC} (hp : p < new.length) : (stepC old new k p out).1 ≤ new.length := by
 unfold stepC; split
 ·rename_i h; have := matchI_spec h; rw [List.length_drop] at this; dsimp only; omega
 ·exact hp
theorem runC_end {old new : List Int} {k : Int} {p : Nat} {out : List PC} (hp : new.length ≤ p) : ∀ f, runC old new k f p out = out
 | 0 => rfl
 | f + 1 => by unfold runC; rw [if_neg (by omega)]
theorem runC_fuel {old new : List Int} {k : Int} : ∀ (f g p : Nat) (out : List PC), new.length ≤ p + f → new.length ≤ p + g → runC old new k f p out = runC old new k g p out
 | 0, g, p, out, h1, h2 => (runC_end (by omega) g).symm
 | f + 1, 0, p, out, h1, h2 => runC_end (by omega) (f + 1)
 | f + 1, g + 1, p, out, h1, h2 => by
  unfold runC
  split
  ·have := stepC_gt (old := old) (new := new) (k := k) (p := p) (out := out)
   exact runC_fuel f g _ _ (by omega) (by omega)
  ·rfl
def cmdsL (old new : List Int) (k : Int) : List PC := runC old new k new.length 0 []
def greedy (old new : List Int) (k : Int) (p : Nat) (out : List PC) : Prop := p ≤ new.length ∧ runC old new k (new.length - p) p out = cmdsL old new k
theorem greedy_zero (old new : List Int) (k : Int) : greedy old new k 0 [] := ⟨Nat.zero_le _, rfl⟩
theorem greedy_end {old new : List Int} {k : Int} {p : Nat} {out : List PC} (h : greedy old new k p out) (hp : new.length ≤ p) : out = cmdsL old new k := by rw [← h.2, runC_end hp]
theorem greedy_step {old new : List Int} {k : Int} {p : Nat} {out : List PC} (h : greedy old new k p out) (hp : p < new.length) : greedy old new k (stepC old new k p out).1 (stepC old new k p out).2 := by
 refine ⟨stepC_le hp, ?_⟩
 rw [← h.2]
 have h1 := stepC_gt (old := old) (new := new) (k := k) (p := p) (out := out)
 obtain ⟨f, hf⟩ : ∃ f, new.length - p = f + 1 := ⟨new.length - p - 1, by omega⟩
 rw [hf]
 show _ = if p < new.length then _ else _
 rw [if_pos hp]
 exact runC_fuel _ _ _ _ (by omega) (by omega)
theorem greedy_copy {old new : List Int} {k : Int} {p q : Nat} {out : List PC} (h : greedy old new k p out) (hp : p < new.length) (hq : matchI old (new.drop p) k = some q) : greedy old new k (p + eqN (old.drop q) (new.drop p)) (out ++ [(1, (p : Int), (q : Int), (eqN (old.drop q) (new.drop p) : Int), [])]) := by
 have := greedy_step h hp
 unfold stepC at this; rw [hq] at this; exact this
theorem greedy_lit {old new : List Int} {k : Int} {p : Nat} {out : List PC} (h : greedy old new k p out) (hp : p < new.length) (hq : matchI old (new.drop p) k = none) : greedy old new k (p + 1) (pushL out p (new.getD p 0)) := by
 have := greedy_step h hp
 unfold stepC at this; rw [hq] at this; exact this
def lenPC (c : PC) : Int := if c.1 = 1 then c.2.2.2.1 else (c.2.2.2.2.length : Int)
def tgP (c : PC) : Int × Int := (c.2.1, lenPC c)
def segP (old : List Int) (c : PC) : List Int := if c.1 = 1 then (old.drop c.2.2.1.toNat).take c.2.2.2.1.toNat else c.2.2.2.2
def okPC (old : List Int) (c : PC) : Prop := (c.1 = 1 ∧ 0 ≤ c.2.2.1 ∧ 1 ≤ c.2.2.2.1 ∧ c.2.2.1 + c.2.2.2.1 ≤ old.length ∧ c.2.2.2.2 = []) ∨ (c.1 = 2 ∧ c.2.2.1 = 0 ∧ c.2.2.2.1 = 0 ∧ c.2.2.2.2 ≠ [])
def leads (old new : List Int) (p : Nat) (out : List PC) : Prop := (∀ c ∈ out, okPC old c) ∧ chainT 0 (out.map tgP) ∧ sumT (out.map tgP) = p ∧ (out.map (segP old)).flatten = new.take p
theorem chain_snoc : ∀ {l : List (Int × Int)} {a : Int} {p : Int × Int}, chainT a l → p.1 = a + sumT l → chainT a (l ++ [p])
 | [], a, p, _, h => ⟨by simpa [sumT] using h, trivial⟩
 | q :: l, a, p, hc, h => by
  rw [sumT_cons] at h
  exact ⟨hc.1, chain_snoc hc.2 (by omega)⟩
theorem chain_init : ∀ {l : List (Int × Int)} {a : Int} {p : Int × Int}, chainT a (l ++ [p]) → chainT a l ∧ p.1 = a + sumT l
 | [], a, p, h => ⟨trivial, by simpa [sumT] using h.1⟩
 | q :: l, a, p, h => by
  have := chain_init (l := l) h.2
  rw [sumT_cons]
  exact ⟨⟨h.1, this.1⟩, by omega⟩
theorem leads_zero (old new : List Int) : leads old new 0 [] := ⟨(fun c h => by cases h), trivial, rfl, by simp⟩
theorem leads_app {old new : List Int} {p n : Nat} {out : List PC} {c : PC} (h : leads old new p out) (hc : okPC old c) (ht : c.2.1 = p) (hn : lenPC c = n) (hs : segP old c = (new.drop p).take n) : leads old new (p + n) (out ++ [c]) := by
 obtain ⟨h1, h2, h3, h4⟩ := h
 refine ⟨fun d hd => ?_, ?_, ?_, ?_⟩
 ·rcases List.mem_append.1 hd with h | h
  ·exact h1 d h
  ·cases List.mem_singleton.1 h; exact hc
 ·rw [List.map_append]; exact chain_snoc h2 (by show c.2.1 = _; rw [ht, h3]; omega)
 ·rw [List.map_append, sumT_app, h3]; simp only [List.map_cons, List.map_nil, sumT, tgP, hn]; simp
 ·rw [List.map_append, List.flatten_append, h4]
  simp only [List.map_cons, List.map_nil, List.flatten_cons, List.flatten_nil, List.append_nil]
  rw [hs, List.take_add]
theorem leads_lit {old new : List Int} {p : Nat} {out : List PC} (h : leads old new p out) (hp : p < new.length) : leads old new (p + 1) (pushL out p (new.getD p 0)) := by
 have h1 : [new.getD p 0] = (new.drop p).take 1 := by
  rw [List.drop_eq_getElem_cons hp, getD_in hp]; rfl
 have hA : leads old new (p + 1) (out ++ [(2, (p : Int), 0, 0, [new.getD p 0])]) := leads_app h (.inr ⟨rfl, rfl, rfl, by simp⟩) rfl rfl h1
 unfold pushL
 split
 ·rename_i c hc
  by_cases hk : c.1 = 2
  ·rw [if_pos hk]
   have hne : out ≠ [] := by rintro rfl; cases hc
   have ho : out = out.dropLast ++ [c] := by
    rw [List.getLast?_eq_some_getLast hne] at hc
    cases hc; exact (List.dropLast_concat_getLast hne).symm
   obtain ⟨h1', h2', h3', h4'⟩ := h
   rw [ho] at h1' h2' h3' h4'
   generalize out.dropLast = L at *
   have hc1 := h1' c (by simp)
   have hc2 : ¬ c.1 = 1 := by omega
   rw [List.map_append] at h2' h3' h4'
   obtain ⟨k1, k2⟩ := chain_init h2'
   rw [sumT_app] at h3'
   simp only [List.map_cons, List.map_nil, sumT, List.sum_cons, List.sum_nil, Int.add_zero] at h3'
   refine ⟨fun d hd => ?_, ?_, ?_, ?_⟩
   ·rcases List.mem_append.1 hd with h | h
    ·exact h1' d (by simp [h])
    ·cases List.mem_singleton.1 h
     rcases hc1 with h | h
     ·omega
     ·exact .inr ⟨hk, h.2.1, h.2.2.1, by simp [addLit]⟩
   ·rw [List.map_append]; exact chain_snoc k1 k2
   ·rw [List.map_append, sumT_app]
    simp only [List.map_cons, List.map_nil, sumT, List.sum_cons, List.sum_nil, Int.add_zero]
    unfold tgP lenPC at h3' ⊢
    unfold addLit
    simp only [if_neg hc2, List.length_append, List.length_singleton] at h3' ⊢
    omega
   ·rw [List.map_append, List.flatten_append]
    rw [List.flatten_append] at h4'
    simp only [List.map_cons, List.map_nil, List.flatten_cons, List.flatten_nil, List.append_nil] at h4' ⊢
    have e1 : segP old (addLit c (new.getD p 0)) = segP old c ++ [new.getD p 0] := by
     unfold segP addLit; simp only [if_neg hc2]
    rw [e1, ← List.append_assoc, h4', h1, List.take_add]
  ·rw [if_neg hk]; exact hA
 ·exact hA
theorem leads_step {old new : List Int} {k : Int} {p : Nat} {out : List PC} (h : leads old new p out) (hp : p < new.length) : leads old new (stepC old new k p out).1 (stepC old new k p out).2 := by
 unfold stepC
 split
 ·rename_i q hq
  have h1 := matchI_spec hq
  refine leads_app h (.inl ⟨rfl, by dsimp only; omega, by dsimp only; omega, by dsimp only; omega, rfl⟩) rfl (by unfold lenPC; rw [if_pos rfl]) ?_
  unfold segP; rw [if_pos rfl]
  simp only [Int.toNat_natCast]
  exact eqN_take _ _
 ·exact leads_lit h hp
theorem leads_run {old new : List Int} {k : Int} : ∀ (f p : Nat) (out : List PC), new.length ≤ p + f → p ≤ new.length → leads old new p out → leads old new new.length (runC old new k f p out)
 | 0, p, out, h1, h2, h => by
  obtain rfl : p = new.length := by omega
  exact h
 | f + 1, p, out, h1, h2, h => by
  unfold runC
  split
  ·rename_i hp
   have := stepC_gt (old := old) (new := new) (k := k) (p := p) (out := out)
   exact leads_run f _ _ (by omega) (stepC_le hp) (leads_step h hp)
  ·obtain rfl : p = new.length := by omega
   exact h
theorem cmdsL_leads (old new : List Int) (k : Int) : leads old new new.length (cmdsL old new k) := leads_run new.length 0 [] (by omega) (Nat.zero_le _) (leads_zero old new)
/-
 Commands that lead from one file to another: they are valid, and their new file is the other one.
-/
theorem tg_val {x : CV} (hm : x.m = x.B.length) : tgP (valC x) = tg x := by
 unfold tgP lenPC valC tg lenV; dsimp only; rw [hm]
theorem tgs_val {Cs : List CV} (hm : ∀ x ∈ Cs, x.m = x.B.length) : (Cs.map valC).map tgP = Cs.map tg := by
 rw [List.map_map]; exact List.map_congr_left fun x hx => tg_val (hm x hx)
theorem seg_at {old : List Int} {x : CV} (h : okPC old (valC x)) (hm : x.m = x.B.length) : segP old (valC x) = (List.range (tg x).2.toNat).map fun j : Nat => atV old x (x.t + j) := by
 unfold okPC valC at h; dsimp only at h
 apply List.ext_getElem?
 intro j
 unfold segP tg lenV valC atV; dsimp only
 rw [List.getElem?_map]
 rcases h with ⟨h1, h2, h3, h4, h5⟩ | ⟨h1, h2, h3, h4⟩
 ·rw [if_pos h1, if_pos h1, List.getElem?_take]
  by_cases hj : j < x.l.toNat
  ·rw [if_pos hj, List.getElem?_range hj, List.getElem?_drop, List.getElem?_eq_getElem (by omega)]
   simp only [Option.map_some, if_pos h1]
   rw [show (x.f + (x.t + (j : Int)) - x.t).toNat = x.f.toNat + j by omega, getD_in (by omega)]
  ·rw [if_neg hj, List.getElem?_eq_none (by simp; omega)]; rfl
 ·have hk : ¬ x.k = 1 := by omega
  rw [if_neg hk, if_neg hk, hm, Int.toNat_natCast]
  by_cases hj : j < x.B.length
  ·rw [List.getElem?_range hj, List.getElem?_eq_getElem hj]
   simp only [Option.map_some, if_neg hk]
   rw [show (x.t + (j : Int) - x.t).toNat = j by omega, getD_in hj]
  ·rw [List.getElem?_eq_none (by omega), List.getElem?_eq_none (by simp; omega)]; rfl
theorem map_range'_add (f : Nat → Int) (a n : Nat) : (List.range' a n).map f = (List.range n).map fun j => f (a + j) := by
 rw [List.range'_eq_map_range, List.map_map]; rfl
theorem byte_chain {old : List Int} {Cs : List CV} {N : Int} (ht : tidyT 0 N (Cs.map tg)) (hok : ∀ x ∈ Cs, okPC old (valC x) ∧ x.m = x.B.length) : ∀ (suf pre : List CV) (a : Nat), Cs = pre ++ suf → chainT a (suf.map tg) → (List.range' a (sumT (suf.map tg)).toNat).map (fun i : Nat => byteI old Cs i) = ((suf.map valC).map (segP old)).flatten
 | [], pre, a, _, _ => by simp [sumT]
 | x :: suf, pre, a, hC, hc => by
  obtain ⟨h1, h2⟩ := hc
  have hx : Cs[pre.length]? = some x := by rw [hC, List.getElem?_append_right (Nat.le_refl _)]; simp
  have hmem := List.mem_of_getElem? hx
  have h3 := ht.1 _ (List.mem_map_of_mem (f := tg) hmem)
  unfold okT at h3
  have hnn : 0 ≤ sumT (suf.map tg) := by
   have : ∀ l : List (Int × Int), (∀ p ∈ l, 1 ≤ p.2) → 0 ≤ sumT l := fun l => by
    induction l with
    | nil => intro _; simp [sumT]
    | cons q l ih => intro h; rw [sumT_cons]; have := h q List.mem_cons_self; have := ih (fun p hp => h p (by simp [hp])); omega
   refine this _ fun p hp => ?_
   obtain ⟨y, hy, rfl⟩ := List.mem_map.1 hp
   have := ht.1 _ (List.mem_map_of_mem (f := tg) (show y ∈ Cs by rw [hC]; simp [hy]))
   unfold okT at this; omega
  have h4 := byte_chain ht hok suf (pre ++ [x]) (a + (tg x).2.toNat) (by rw [hC]; simp) (by rw [Int.natCast_add, Int.toNat_of_nonneg (by omega)]; exact h2)
  have h5 : (tg x).1 = (a : Int) := h1
  rw [List.map_cons, sumT_cons, show ((tg x).2 + sumT (suf.map tg)).toNat = (tg x).2.toNat + (sumT (suf.map tg)).toNat by omega, ← List.range'_append_1, List.map_append, h4]
  rw [List.map_cons, List.map_cons, List.flatten_cons]
  congr 1
  rw [seg_at (hok x hmem).1 (hok x hmem).2, map_range'_add]
  refine List.map_congr_left fun j hj => ?_
  have hj' := List.mem_range.1 hj
  have h6 : x.t = (a : Int) := h5
  rw [byteI_of ht hx (p := ((a + j : Nat) : Int)) (by unfold hasB; omega), h6]
  rw [Int.natCast_add]
theorem leads_valid {old new : List Int} {l : List PC} (h : leads old new new.length l) {Cs : List CV} (hv : Cs.map valC = l) (hm : ∀ x ∈ Cs, x.m = x.B.length) (ho : old.length ≤ 4611686018427387903) (hn : new.length ≤ 4611686018427387903) : faultI old.length new.length Cs = (0, 0) ∧ newB old Cs new.length = new := by
 subst hv
 obtain ⟨h1, h2, h3, h4⟩ := h
 have hok : ∀ x ∈ Cs, okPC old (valC x) ∧ x.m = x.B.length := fun x hx => ⟨h1 _ (List.mem_map_of_mem hx), hm x hx⟩
 rw [tgs_val hm] at h2 h3
 have hl1 : ∀ p ∈ Cs.map tg, 1 ≤ p.2 := fun p hp => by
  obtain ⟨x, hx, rfl⟩ := List.mem_map.1 hp
  have := hok x hx
  unfold okPC valC at this
  unfold tg lenV; dsimp only at this ⊢
  obtain ⟨h | h, h6⟩ := this
  ·rw [if_pos h.1]; omega
  ·rw [if_neg (by omega)]
   have : x.B.length ≠ 0 := fun h0 => h.2.2.2 (List.length_eq_zero_iff.1 h0)
   omega
 obtain ⟨h5, h6, _⟩ := tidy_of_chain (N := new.length) hl1 h2 (by omega)
 refine ⟨valid_of (by unfold okLen; omega) (fun i x hx => ?_) h5 h6, ?_⟩
 ·have hmem := List.mem_of_getElem? hx
  have h7 := h5.1 _ (List.mem_map_of_mem (f := tg) hmem)
  have h8 := hok x hmem
  unfold okT tg lenV at h7
  unfold okPC valC at h8
  dsimp only at h7 h8
  unfold singleV
  obtain ⟨h8 | h8, h9⟩ := h8
  ·rw [if_pos h8.1] at h7
   have hm0 : x.m = 0 := by rw [h9, h8.2.2.2.2]; rfl
   have hc : codeV x.k x.t x.f x.l x.m = 0 := by rw [h8.1]; exact codeV1.2 (by refine ⟨?_, ?_, ?_, ?_⟩ <;> first | omega | (unfold vld; omega))
   rw [if_pos hc, if_neg (by omega), if_neg (by unfold lenV; rw [if_pos h8.1]; omega)]
  ·have hk : ¬ x.k = 1 := by omega
   rw [if_neg hk] at h7
   have hc : codeV x.k x.t x.f x.l x.m = 0 := by rw [h8.1]; exact codeV2.2 (by refine ⟨?_, ?_, ?_, ?_⟩ <;> first | omega | (unfold vld; omega))
   rw [if_pos hc, if_neg (by omega), if_neg (by unfold lenV; rw [if_neg hk]; omega)]
 ·have h7 := byte_chain h5 hok Cs [] 0 rfl (by simpa using h2)
  rw [h4, h3, Int.toNat_natCast] at h7
  rw [List.take_length] at h7
  unfold newB
  rw [Int.toNat_natCast, List.range_eq_range', h7]
theorem cmdsL_valid {old new : List Int} {k : Int} {Cs : List CV} (hv : Cs.map valC = cmdsL old new k) (hm : ∀ x ∈ Cs, x.m = x.B.length) (ho : old.length ≤ 4611686018427387903) (hn : new.length ≤ 4611686018427387903) : faultI old.length new.length Cs = (0, 0) ∧ newB old Cs new.length = new := leads_valid (cmdsL_leads old new k) hv hm ho hn
/-
 Fields: numbers with sizes; what they are written as.
-/
structure FV where
 x : Int
 n : Int
def fitV (x n : Int) : Prop := 1 ≤ n ∧ n ≤ 8 ∧ (n = 8 ∨ shrI .u64 x (8 * n) = 0)
instance (x n : Int) : Decidable (fitV x n) := by unfold fitV; infer_instance
def fitAll (Fs : List FV) : Prop := ∀ f ∈ Fs, fitV f.x f.n
def fitAllB (Fs : List FV) : Bool := Fs.all fun f => decide (fitV f.x f.n)
theorem fitAllB_iff (Fs : List FV) : fitAllB Fs = true ↔ fitAll Fs := by
 unfold fitAllB fitAll; rw [List.all_eq_true]; simp
instance (Fs : List FV) : Decidable (fitAll Fs) := decidable_of_iff _ (fitAllB_iff Fs)
/-
 A number that is written and read back.
-/
/-
 The reader: its block, its bytes, what its calls leave.
-/
def SrcX (w : World) (X : List Nat) (A : Option Addr) (m : Nat) (kd : IntKind) (B : List Int) : Prop := B.length = m ∧ (m = 0 ∨ ∃ b off, A = some ⟨b, off, none⟩ ∧ b < w.heap.size ∧ (∀ x ∈ X, b ≠ x) ∧ RowI w b off m kd B)
section
variable {w0 w : World} {g m : Nat} {A : Option Addr} {kd : IntKind} {B : List Int} {H : List Ent} {X Y : List Nat}
theorem SrcX.src (h : SrcX w X A m kd B) : Src w A m kd B := by
 obtain ⟨h1, h2⟩ := h
 refine ⟨h1, ?_⟩
 rcases h2 with h2 | ⟨b, off, hA, hb, hne, hr⟩
 ·exact .inl h2
 ·exact .inr ⟨b, off, hA, hb, hr⟩
theorem SrcX.drop {c l : Nat} (h : SrcX w X A m kd B) (hl : l ≤ m) (hc : m ≤ c) : SrcX w X (cutA A c l 1) (m - l) kd (B.drop l) := by
 obtain ⟨h1, h2⟩ := h
 refine ⟨by simp [h1], ?_⟩
 rcases h2 with h2 | ⟨b, off, hA, hb, hne, hr⟩
 ·exact .inl (by omega)
 ·by_cases hlm : l = m
  ·exact .inl (by omega)
  ·subst hA
   refine .inr ⟨b, off + l, by rw [cut_is (o' := off + l) (by omega) (by omega)], hb, hne, fun j hj => ?_⟩
   have := hr (l + j) (by omega)
   rw [← Nat.add_assoc] at this
   rw [this]
   simp [List.getD_eq_getElem?_getD, List.getElem?_drop]
theorem Src.toX (h : Src w A m kd B) (hne : ∀ b off, A = some ⟨b, off, none⟩ → ∀ x ∈ X, b ≠ x) : SrcX w X A m kd B := by
 obtain ⟨h1, h2⟩ := h
 refine ⟨h1, ?_⟩
 rcases h2 with h2 | ⟨b, off, hA, hb, hr⟩
 ·exact .inl h2
 ·exact .inr ⟨b, off, hA, hb, hne b off hA, hr⟩
theorem Src.toX0 (h : Src w A m kd B) : SrcX w [] A m kd B := h.toX (fun _ _ _ x hx => by cases hx)
theorem TP.call0 {P : Program} {ops : Array Oper} {Q : Exit → Act → World → Prop} {n : Sz} {L : List (Nat × Value)} {HB : List Ent} {ks : List Nat} {o : Oper} {rest : List Oper} {f : FuncId} {xs : List Operand} {ts : Array TypeId} {vs : List Value} {v : Value} (hg : Wants n ops L o) (hi : inside n o.dst = true) (h : Enters P f)
  (ho : o.op = .call { callee := .value (.func f), args := xs.toArray, argTypes := ts }) (hx : evs L xs = some vs)
  (hc : ∀ w, St w0 (HB ++ H) w → Calls P f vs.toArray w fun e w' => e = .returned v ∧ St w [] w')
  (hr : TP P ops Q n w0 HB ks rest (put L o.dst v) H) : TP P ops Q n w0 HB (3 :: ks) (o :: rest) L H :=
 TP.call (ι := Unit) (V := fun _ => v) (R := fun _ => True) (H' := fun _ => H) hg hi h ho hx (fun w hs => (hc w hs).mono fun e w' ⟨he, hw⟩ => ⟨(), he, trivial, hs.call' hw⟩) fun _ _ => hr
end
/-
 The reference of layer 8: equal, match, Fits.
-/
theorem enters9 : Enters Tryz.prog 9 := ⟨_, Tryz.func9, by kernel_rfl, by kernel_rfl⟩
structure W8P where
 k : Nat
 v : Value
 He : List Ent
theorem eqN_stop {a b : List Int} {n : Nat} (hE : eqN a b = n + eqN (a.drop n) (b.drop n)) (h : (a.length ≤ n ∨ b.length ≤ n) ∨ (n < a.length ∧ n < b.length ∧ ¬ a.getD n 0 = b.getD n 0)) : eqN a b = n := by
 rcases h with h | ⟨h1, h2, h3⟩
 ·rw [hE, eqN_end h]; rfl
 ·rw [hE, eqN_no h1 h2 h3]; rfl
theorem eqN_go {a b : List Int} {n : Nat} (hE : eqN a b = n + eqN (a.drop n) (b.drop n)) (ha : n < a.length) (hb : n < b.length) (h : a.getD n 0 = b.getD n 0) : eqN a b = (n + 1) + eqN (a.drop (n + 1)) (b.drop (n + 1)) := by
 rw [hE, eqN_yes ha hb h]; omega
def fitsP (o n : Int) (Cs : List CV) (mo : Nat) : Prop := fewP Cs ∧ (faultI o n Cs).1 = 0 ∧ o = mo ∧ n ≤ 3000
noncomputable instance (o n : Int) (Cs : List CV) (mo : Nat) : Decidable (fitsP o n Cs mo) := by unfold fitsP; infer_instance
/-
 The reference of layer 8: Apply.
-/
theorem rapply_c (B : List Int) (Ao : Option Addr) (mo co : Nat) (hmo : mo ≤ co) (hco : co ≤ 9223372036854775807) (hBB : Bytes B) (o n : Int) (H1 H2 : List Int) (hH1 : H1.length = 32) (hH2 : H2.length = 32) (A : Option Addr) (m c : Nat) (Cs : List CV) (hmm : m ≤ 1000000000) (hN : NumsC Cs) (w : World) (hC : SrcC w A m Cs) (hsB : Src w Ao mo .u8 B) (hD : DatC w Cs) (hVC : ValidC o n Cs) (ho : o = mo) (hn : n ≤ 3000) : Calls Tryz.prog 14 #[.slice Ao mo co, .agg (dV o n H1 H2 (slice A m c)).toArray] w fun e w' => ∃ v He, e = .returned v ∧ Own w.heap.size 5 .u8 v (newB B Cs n) He ∧ St w He w' := by
 have hob := hVC.len
 unfold okLen at hob
 have hn0 : 0 ≤ n := by omega
 have hmo2 := hsB.1
 refine qN (args := [.slice Ao mo co, .agg (dV o n H1 H2 (slice A m c)).toArray]) Tryz.func14 rfl Tryz.ntmps14 (by simp) ?_
 refine qC [0, 1] ?_
 iterate 2 refine gx ?_
 refine qz (qA rfl) rfl rfl rfl (cs := dV o n H1 H2 (slice A m c)) (by simp [Value.cells]) (tot := 67) (by simp [hH1, hH2]) (fun g1 hg1 => ?_)
 iterate 15 refine gx ?_
 refine qg (ι := W8P) (fun x0 => [(0, .slice Ao mo co), (3, .pointer (some ⟨g1, 0, none⟩)), (5, x0.v), (6, .int .i64 (x0.k : Int))]) (fun x0 => [⟨g1, 26, dV o n H1 H2 (slice A m c), 67⟩] ++ x0.He) (fun x0 => n.toNat - x0.k) (fun x0 => Own w.heap.size 5 .u8 x0.v ((newB B Cs n).take x0.k) x0.He ∧ (x0.k : Int) ≤ n) (⟨0, .slice none 0 0, []⟩ : W8P) ⟨Own.nil _ _ _, hn0⟩ (qS (i := 0) rfl rfl (by first | omega | (dsimp only; omega) | rfl) (by first | omega | (dsimp only; omega) | rfl) (qG (i := 3) rfl (qG (i := 5) rfl (qE (i := 6) rfl (by first | omega | rfl) (qK))))) (fun w h => by rw [List.append_nil]; exact h) (fun x0 hC0 => ?_)
 obtain ⟨k, v, He⟩ := x0
 obtain ⟨hown, hC2⟩ := hC0
 dsimp only at hown hC2 ⊢
 iterate 9 refine gx ?_
 refine qO rfl (fun hq0 => ?_) (fun hq0 => ?_)
 ·obtain ⟨i, x, hfi, hx, hbx⟩ := hVC.find (p := (k : Int)) (by omega) (by omega)
  have hi : i < m := by have h1 := (List.getElem?_eq_some_iff.1 hx).1; have := hC.1; omega
  obtain ⟨b, off, hAe, hb, hrw⟩ := hC.some_ (i := i) hi
  subst hAe
  have hnx := hN i x hx
  unfold NumC at hnx
  have hrd := hVC.reads hx hbx
  have hby := byteI_of (B := B) hVC.tidy hx hbx
  have hdx := hD i x hx
  iterate 5 refine gx ?_
  refine TC.mixS ([Ent.mk g1 26 ([int .i64 o, int .i64 n] ++ (H1.map (int .u8) ++ (H2.map (int .u8) ++ ([slice (some ⟨b, off, none⟩) m c])))) 67] ++ He) [] (by kernel_rfl) [0, 1, 1, 0, 1, 0, 1, 5, 4] [0, 1, 2, 3, 4, 5, 6, 7, 8] [fun _ _ => True, fun _ _ => True, fun _ _ => True, fun _ _ => True, fun _ _ => True, fun _ _ => True, fun _ _ => True, fun v d => ∃ g, v = .pointer (some ⟨g, 0, none⟩) ∧ d = [⟨g, 54, [int .i64 0, int .i64 0, int .i64 0, int .i64 0, slice none 0 0], 5⟩], fun _ _ => True] (by kernel_rfl) (by kernel_rfl) (List.Perm.of_eq (List.append_nil _).symm) qe ?_
  iterate 4 refine gx ?_
  refine TR.call0 (qA rfl) rfl enters31 rfl rfl (v := .int .i64 (i : Int)) (fun Z w hZ hs => (by have h := rfind_c o n H1 H2 hH1 hH2 (some ⟨b, off, none⟩) m c Cs (k : Int) hVC.vld hmm hN w (hC.at_ hs (fun b hb => (qT (qT (qD (by show g1 ≠ b; omega) qF) (hown.ne hb)) (qT qF (hZ.ne hb))))); rw [hfi] at h; exact h)) ?_
  refine TR.free (qA rfl) rfl (fun _ => qU rfl Tryz.underlying24 size54 rfl rfl (i := i) (by omega) (by omega) (off' := (off + 5 * i)) (by omega)) ?_
  refine TR.gets (qA rfl) rfl (fun Z hZ => qi rfl agg54 size54 rfl rfl (Row.old (fun jj u h => hrw i x hx jj u h) hb (qT (qT (qD (by show g1 ≠ b; omega) qF) (hown.ne hb)) (qT qF (hZ.ne hb))))) ?_
  refine TR.alloc (qA rfl) rfl rfl zero54 (cs := [int .i64 0, int .i64 0, int .i64 0, int .i64 0, slice none 0 0]) rfl (tot := 5) (by simp) (fun g2 hg2 => ?_)
  refine TR.storeW (qA rfl) rfl rfl size54 rfl (vs := [int .i64 x.k, int .i64 x.t, int .i64 x.f, int .i64 x.l, slice x.A x.m x.c]) rfl rfl (by simp [Value.oneCell']) (i := 0) (ent := ⟨g2, 54, [int .i64 0, int .i64 0, int .i64 0, int .i64 0, slice none 0 0], 5⟩) rfl rfl rfl (D' := [⟨g2, 54, [int .i64 x.k, int .i64 x.t, int .i64 x.f, int .i64 x.l, slice x.A x.m x.c], 5⟩]) rfl (qI (by assumption) qe) ?_
  refine gx ?_
  refine TE.heap (H' := [⟨g2, 54, [int .i64 x.k, int .i64 x.t, int .i64 x.f, int .i64 x.l, slice x.A x.m x.c], 5⟩, ⟨g1, 26, [int .i64 o, int .i64 n] ++ (H1.map (int .u8) ++ (H2.map (int .u8) ++ ([slice (some ⟨b, off, none⟩) m c]))), 67⟩] ++ He) (fun w h => h.perm List.perm_append_comm) ?_
  refine gx ?_
  refine qC [0, 3, 5, 6, 7] ?_
  iterate 7 refine gx ?_
  refine qO rfl (fun hq1 => ?_) (fun hq1 => ?_)
  ·obtain ⟨hf0, hj0, hj1, hfl⟩ := hrd.1 hq1
   have hbx2 : x.t ≤ (k : Int) := hbx.1
   obtain ⟨j, hj⟩ : ∃ j : Nat, (j : Int) = x.f + (k : Int) - x.t := ⟨(x.f + (k : Int) - x.t).toNat, by omega⟩
   obtain ⟨bo, offo, hAo, hbo, hro⟩ := hsB.2.resolve_left (by omega)
   subst hAo
   have hat : atV B x (k : Int) = B.getD j 0 := by unfold atV; rw [if_pos hq1, ← hj, Int.toNat_natCast]
   iterate 6 refine gx ?_
   refine qB (qA rfl) rfl (qQ rfl rfl rfl (r := (x.f + (k : Int))) (w64 (by omega) (by omega))) ?_
   iterate 2 refine gx ?_
   refine qB (qA rfl) rfl (Gets.congr (qw rfl rfl rfl (r := (x.f + (k : Int) - x.t)) (w64 (by omega) (by omega))) (congrArg (int .i64) hj.symm)) ?_
   refine qB (qA rfl) rfl (qU rfl Tryz.underlying22 size5 rfl rfl (i := j) (by omega) (by omega) (off' := (offo + j)) (by omega)) ?_
   refine qB (qA rfl) rfl (qJ rfl agg5 rfl (zJ hro (i := j) (by omega) (by omega) hbo (qT (qD (by show g2 ≠ bo; omega) (qD (by show g1 ≠ bo; omega) qF)) (hown.ne hbo)))) ?_
   refine zK (qA rfl) rfl rfl Tryz.underlying22 size5 zero5 rfl (by decide) (by decide) (cells := #[.int .u8 (B.getD j 0)]) (tot := 1) (by kernel_rfl) (cs := [.int .u8 (B.getD j 0)]) rfl rfl (fun g3 hg3 => ?_)
   refine zR (H := [⟨g3, 5, [int .u8 (B.getD j 0)], 1⟩, ⟨g2, 54, [int .i64 x.k, int .i64 x.t, int .i64 x.f, int .i64 x.l, slice x.A x.m x.c], 5⟩, ⟨g1, 26, [int .i64 o, int .i64 n] ++ (H1.map (int .u8) ++ (H2.map (int .u8) ++ ([slice (some ⟨b, off, none⟩) m c]))), 67⟩]) (sl := 1) (t := 22) (e := 5) (kd := .u8) (qA rfl) rfl rfl Tryz.underlying22 mk5 rfl rfl rfl (W := (newB B Cs n).take k) (B := [(B.getD j 0)]) hown (fun w hs => src_ent (W := [(B.getD j 0)]) (hs.has ⟨g3, 5, [int .u8 (B.getD j 0)], 1⟩ (by simp)) rfl) (by have := newB_len (B := B) (Cs := Cs) (n := n); have : ((newB B Cs n).take k).length ≤ (newB B Cs n).length := (by rw [List.length_take]; omega); omega) (by have := newB_len (B := B) (Cs := Cs) (n := n); have : ((newB B Cs n).take k).length ≤ (newB B Cs n).length := (by rw [List.length_take]; omega); omega) (fun vo Ho ho hne => ?_)
   iterate 4 refine gx ?_
   refine qC [0, 3, 5, 6] ?_
   iterate 2 refine gx ?_
   refine qB (qA rfl) rfl (qQ rfl rfl rfl (r := ((k : Int) + 1)) (w64 (by omega) (by omega))) ?_
   iterate 2 refine gx ?_
   exact qZ (⟨k + 1, vo, Ho⟩ : W8P) (by show n.toNat - (k + 1) < n.toNat - k; omega) ⟨by show Own _ _ _ vo ((newB B Cs n).take (k + 1)) Ho; rw [newB_succ (by omega), hby, hat]; exact ho, by show ((k + 1 : Nat) : Int) ≤ n; omega⟩ (qS (i := 0) rfl (by first | rfl | (congr 2; omega)) (by first | omega | (dsimp only; omega) | rfl) (by first | omega | (dsimp only; omega) | rfl) (qG (i := 3) rfl (qG (i := 5) rfl (qE (i := 6) rfl (by first | omega | rfl) (qK))))) (fun w h => ((h.erase (i := 1) rfl (by assumption)).erase (i := 0) rfl (by assumption)))
  ·obtain ⟨hj0, hj1⟩ := hrd.2 hq1
   obtain ⟨j, hj⟩ : ∃ j : Nat, (j : Int) = (k : Int) - x.t := ⟨((k : Int) - x.t).toNat, by omega⟩
   obtain ⟨bd, offd, hAd, hbd, hrd2⟩ := hdx.1.2.resolve_left (by omega)
   rw [hAd]
   have hat : atV B x (k : Int) = x.B.getD j 0 := by unfold atV; rw [if_neg hq1, ← hj, Int.toNat_natCast]
   iterate 7 refine gx ?_
   refine qB (qA rfl) rfl (Gets.congr (qw rfl rfl rfl (r := ((k : Int) - x.t)) (w64 (by omega) (by omega))) (congrArg (int .i64) hj.symm)) ?_
   refine qB (qA rfl) rfl (qU rfl Tryz.underlying22 size5 rfl rfl (i := j) (by omega) (by omega) (off' := (offd + j)) (by omega)) ?_
   refine qB (qA rfl) rfl (qJ rfl agg5 rfl (zJ hrd2 (i := j) (by omega) (by omega) hbd (qT (qD (by show g2 ≠ bd; omega) (qD (by show g1 ≠ bd; omega) qF)) (hown.ne hbd)))) ?_
   refine zK (qA rfl) rfl rfl Tryz.underlying22 size5 zero5 rfl (by decide) (by decide) (cells := #[.int .u8 (x.B.getD j 0)]) (tot := 1) (by kernel_rfl) (cs := [.int .u8 (x.B.getD j 0)]) rfl rfl (fun g4 hg4 => ?_)
   refine zR (H := [⟨g4, 5, [int .u8 (x.B.getD j 0)], 1⟩, ⟨g2, 54, [int .i64 x.k, int .i64 x.t, int .i64 x.f, int .i64 x.l, slice (some ⟨bd, offd, none⟩) x.m x.c], 5⟩, ⟨g1, 26, [int .i64 o, int .i64 n] ++ (H1.map (int .u8) ++ (H2.map (int .u8) ++ ([slice (some ⟨b, off, none⟩) m c]))), 67⟩]) (sl := 1) (t := 22) (e := 5) (kd := .u8) (qA rfl) rfl rfl Tryz.underlying22 mk5 rfl rfl rfl (W := (newB B Cs n).take k) (B := [(x.B.getD j 0)]) hown (fun w hs => src_ent (W := [(x.B.getD j 0)]) (hs.has ⟨g4, 5, [int .u8 (x.B.getD j 0)], 1⟩ (by simp)) rfl) (by have := newB_len (B := B) (Cs := Cs) (n := n); have : ((newB B Cs n).take k).length ≤ (newB B Cs n).length := (by rw [List.length_take]; omega); omega) (by have := newB_len (B := B) (Cs := Cs) (n := n); have : ((newB B Cs n).take k).length ≤ (newB B Cs n).length := (by rw [List.length_take]; omega); omega) (fun vo Ho ho hne => ?_)
   iterate 4 refine gx ?_
   refine qC [0, 3, 5, 6] ?_
   iterate 2 refine gx ?_
   refine qB (qA rfl) rfl (qQ rfl rfl rfl (r := ((k : Int) + 1)) (w64 (by omega) (by omega))) ?_
   iterate 2 refine gx ?_
   exact qZ (⟨k + 1, vo, Ho⟩ : W8P) (by show n.toNat - (k + 1) < n.toNat - k; omega) ⟨by show Own _ _ _ vo ((newB B Cs n).take (k + 1)) Ho; rw [newB_succ (by omega), hby, hat]; exact ho, by show ((k + 1 : Nat) : Int) ≤ n; omega⟩ (qS (i := 0) rfl rfl (by first | omega | (dsimp only; omega) | rfl) (by first | omega | (dsimp only; omega) | rfl) (qG (i := 3) rfl (qG (i := 5) rfl (qE (i := 6) rfl (by first | omega | rfl) (qK))))) (fun w h => ((h.erase (i := 1) rfl (by assumption)).erase (i := 0) rfl (by assumption)))
 ·iterate 12 refine gx ?_
  exact qL rfl rfl (fun w hs => ⟨v, He, rfl, by rw [← newB_all (B := B) (Cs := Cs) (n := n) (i := k) (by omega)]; exact hown, hs.drop (by assumption)⟩)
theorem rapply_s (B : List Int) (Ao : Option Addr) (mo co : Nat) (hmo : mo ≤ co) (hco : co ≤ 9223372036854775807) (hBB : Bytes B) (o n : Int) (H1 H2 : List Int) (hH1 : H1.length = 32) (hH2 : H2.length = 32) (A : Option Addr) (m c : Nat) (Cs : List CV) (hmm : m ≤ 1000000000) (hN : NumsC Cs) (w : World) (hC : SrcC w A m Cs) (hsB : Src w Ao mo .u8 B) (hD : DatC w Cs) (hVC : ValidC o n Cs) (ho : o = mo) (hn : n ≤ 3000) : Calls Tryz.prog 14 #[.slice Ao mo co, .agg (dV o n H1 H2 (slice A m c)).toArray] w fun e w' => ∃ A' c' He, e = .returned (.slice A' (newB B Cs n).length c') ∧ Own w.heap.size 5 .u8 (.slice A' (newB B Cs n).length c') (newB B Cs n) He ∧ St w He w' :=
 (rapply_c B Ao mo co hmo hco hBB o n H1 H2 hH1 hH2 A m c Cs hmm hN w hC hsB hD hVC ho hn).mono fun e w' ⟨v, He, he, hw, hs⟩ => by
  obtain ⟨A', c', rfl, h1, h2⟩ := hw.form
  exact ⟨A', c', He, he, hw, hs⟩
/-
 A region that draws its order, of which the last operation is a store: makings, appending, the store.
-/
section
variable {P : Program} {ops : Array Oper} {Q : Exit → Act → World → Prop} {n : Sz} {w0 : World} {L L' : List (Nat × Value)} {HB H : List Ent}
variable {o : Oper} {rest : List Oper} {v u : Value} {x y z : Operand} {k m j : Nat} {t t' e : TypeId} {ks : List Nat} {kd : IntKind}
theorem TP.perm {H' : List Ent} (h : H.Perm H') (hr : TP P ops Q n w0 HB ks rest L H') : TP P ops Q n w0 HB ks rest L H := fun a hf => by
 have e : St w0 (HB ++ H) = St w0 (HB ++ H') := funext fun w => propext ⟨fun hs => hs.perm (List.Perm.append_left HB h), fun hs => hs.perm (List.Perm.append_left HB h.symm)⟩
 rw [e]; exact hr a hf
theorem TP.value {ι : Type} {V : ι → Value} {R : ι → Prop} {H' : ι → List Ent} (hg : Wants n ops L o) (hi : inside n o.dst = true)
  (h : ∀ a w, Fr n L a → St w0 (HB ++ H) w → ∃ i w', (execOp a.eval o).run P w = .ok (.value (V i)) w' ∧ R i ∧ St w0 (HB ++ H' i) w')
  (hr : ∀ i, R i → TP P ops Q n w0 HB ks rest (put L o.dst (V i)) (H' i)) : TP P ops Q n w0 HB (3 :: ks) (o :: rest) L H :=
 fun a hf => .inr <| .inl ⟨rfl, fun v S' => ∃ i, R i ∧ v = V i ∧ S' = St w0 (HB ++ H' i), fun w hs => by
  obtain ⟨i, w', h1, h2, h3⟩ := h a w hf hs
  exact ⟨.inl ⟨V i, w', _, h1, ⟨i, h2, rfl, rfl⟩, h3⟩, hg a hf⟩,
  fun v S' ⟨i, hR, h1, h2⟩ => by subst h1; subst h2; exact ⟨fun w hw => ⟨H' i, hw⟩, hr i hR _ (hf.put o.dst _ hi)⟩⟩
theorem TP.buildSlice {len s : Nat} {ps : List (Nat × Operand)} {vs : List (Nat × Value)} {cells : Array Value} {cs : List Value} {zv : Value} (hg : Wants n ops L o) (hi : inside n o.dst = true) (ho : o.op = .buildSlice t len ps.toArray)
  (h1 : P.underlying t = some (.slice e)) (hsz : (P.info? e).map (·.size) = some s) (hz : (P.info? e).bind (·.zero) = some zv) (hv : operVals L ps = some vs) (hlen : len * s ≤ 2 ^ 24) (hpos : (len * s = 0) = False)
  {tot : Nat} (hfill : Instr.fill (fun i => some (i * s, s)) ((Array.range (len * s)).map (zv.cells[· % zv.cells.size]!)) vs = some cells) (hcs : cells.toList = cs) (htot : cs.length = tot)
  (hr : ∀ g, w0.heap.size ≤ g → TP P ops Q n w0 HB ks rest (put L o.dst (.slice (some ⟨g, 0, none⟩) len len)) (⟨g, e, cs, tot⟩ :: H)) : TP P ops Q n w0 HB (3 :: ks) (o :: rest) L H := by
 refine TP.value (ι := Nat) (V := fun g => .slice (some ⟨g, 0, none⟩) len len) (R := fun g => w0.heap.size ≤ g) (H' := fun g => ⟨g, e, cs, tot⟩ :: H) hg hi (fun a w hf hs => ?_) hr
 have hrun : (execOp a.eval o).run P w = .ok (.value (.slice (some ⟨w.heap.size, 0, none⟩) len len)) (w.alloc (.cells cells e)) := by
  have hm := operVals_eval hf hv
  have hm2 : (ps.map fun (x : Nat × Operand) => match x with | (i, x) => (i, a.eval x)) = vs := hm
  simp only [execOp, ho]
  refine run_value ?_
  simp only [Instr.buildSlice, Sem.run_bind, run_under h1, Result.andThen_ok, run_size hsz, List.map_toArray, hm2]
  rw [if_neg (by omega), if_neg (by simp [hpos])]
  simp only [Sem.run_bind, run_zero hz, Result.andThen_ok, Sem.run_pure, hfill]
  simp [newRow, newObj, Sem.run_bind, Sem.run]
 subst htot
 exact ⟨w.heap.size, _, hrun, hs.size, (hs.alloc e cs cells hcs).perm List.perm_middle.symm⟩
theorem TP.appendS {As : Option Addr} {s nn sc bytes : Nat} {cs news : List Value} {H0 He : List Ent} {zv : Value} (hg : Wants n ops L o) (hi' : inside n o.dst = true) (ho : o.op = .call { callee := .builtin .append, args := #[x, y], argTypes := #[t, t] })
  (h1 : P.underlying t = some (.slice e)) (hz : (P.info? e).map (fun i => (i.zero, i.size, i.bytes)) = some (some zv, s, bytes)) (hzc : zv.cells.size = s) (hs0 : 0 < s)
  (hx : ev L x = some v) (hy : ev L y = some (.slice As m sc)) (hown : OwnS w0.heap.size e s v nn cs He) (hl : news.length = m * s) (hsrc : ∀ w, St w0 (HB ++ (H0 ++ He)) w → SrcV w As m news) (h1c : ∀ u ∈ news, u.oneCell' = true)
  (h63 : nn + m ≤ maxLen) (hbytes : (nn + m) * bytes ≤ 140737488355328)
  (hr : ∀ v' He', OwnS w0.heap.size e s v' (nn + m) (cs ++ news) He' → TP P ops Q n w0 HB ks rest (put L o.dst v') (H0 ++ He')) : TP P ops Q n w0 HB (3 :: ks) (o :: rest) L (H0 ++ He) := by
 refine TP.value (ι := Value × List Ent) (V := fun y => y.1) (R := fun y => OwnS w0.heap.size e s y.1 (nn + m) (cs ++ news) y.2) (H' := fun y => H0 ++ y.2) hg hi' (fun a w hf hs => ?_) (fun y hR => hr y.1 y.2 hR)
 have hs2 : St w0 ((HB ++ H0) ++ He) w := by rw [List.append_assoc]; exact hs
 obtain ⟨v', w', He', hrun, hown', hst⟩ := run_appendS (P := P) (t := t) (ty := o.type) (sc := sc) h1 hz hzc hs0 hown hs2 (Nat.le_refl _) (Nat.le_refl _) hl (hsrc w hs) h1c h63 hbytes (fun _ => rfl)
 have hrun' : (execOp a.eval o).run P w = .ok (.value v') w' := by
  simp only [execOp, ho, resolve, invoke, builtin, Sem.run_bind, Sem.run_pure, Result.andThen_ok, List.map_toArray, List.map_cons, List.map_nil, hf.eval hx, hf.eval hy, hrun]
 exact ⟨(v', He'), w', hrun', hown', by rw [List.append_assoc] at hst; exact hst⟩
theorem TP.last1 {i g off : Nat} {ent : Ent} (hg : Wants n ops L o) (hd : o.dst = none) (ho : o.op = .store t x y) (hsz : (P.info? t).map (·.size) = some 1)
  (hx : ev L x = some (.pointer (some ⟨g, off, none⟩))) (hy : ev L y = some v) (hv : v.oneCell' = true) (hi : (HB ++ H)[i]? = some ent) (he : ent.g = g) (hoff : off < ent.cs.length)
  {cs' : List Value} (hcs : ent.cs.set off v = cs') {H' : List Ent} (hH : (HB ++ H).set i ⟨ent.g, ent.t, cs', ent.tot⟩ = H') (hr : TE Q .normal n w0 L H') : TP P ops Q n w0 HB [7] [o] L H :=
 fun a hf => .inr (.inr (.inl ⟨rfl, St w0 H', ⟨hd, fun w hs => ⟨by
  subst he
  subst hcs
  subst hH
  refine ⟨w.setCell ⟨ent.g, off, none⟩ v, ?_, hs.set hi off v⟩
  simp only [execOp, ho, hf.eval hx, hf.eval hy]
  refine run_unit ?_
  have hl := hs.has ent (List.mem_of_getElem? hi)
  have hc := hl.cell (o := off) (List.getElem?_eq_getElem hoff)
  have hfz := hl.free off
  simp only [Instr.storeAt, Instr.sureAddr, storeVar, Sem.run_bind, Sem.run_pure, Result.andThen_ok, run_size hsz, oneCell_cells hv]
  simp only [List.size_toArray, List.length_cons, List.length_nil, Nat.zero_add, ne_eq, not_true_eq_false, if_false, storeCells, Sem.run_bind, Addr.add, if_true, store]
  cases v <;> first | (simp [Value.oneCell'] at hv; done) | simp [Sem.run, hc, hfz], hg a hf⟩⟩, fun hne => absurd rfl hne, fun w hs => hr a w hf hs⟩))
theorem TL.mark2 {i g ln cp : Nat} {ent : Ent} {W : List Int} (hg : Wants n ops L o) (hi' : inside n o.dst = true) (ho : o.op = .convert t t x) (h1 : P.underlying t = some (.slice e)) (h2 : P.underlying e = some (.int .u8))
  (hx : ev L x = some (.slice (some ⟨g, 0, none⟩) ln cp)) (hi : H[i]? = some ent) (he : ent.g = g) (hcs : ent.cs = W.map (int .u8)) (hN : w0.heap.size ≤ g)
  (hr : ∀ w1, (∀ d ∈ H.eraseIdx i, d.g ≠ g) → St w0 (H.eraseIdx i) w1 → RowI w1 g 0 W.length .u8 W → g < w1.heap.size → TL P ops Q n w1 rest (put L o.dst (.slice (some ⟨g, 0, none⟩) ln cp)) []) : TL P ops Q n w0 (o :: rest) L H :=
 fun a w hf hs => wpL_wants hg.nd (hg a hf) fun K hK => by
  subst he
  obtain ⟨cur, hc1, hc2, hc3⟩ := hs.has ent (List.mem_of_getElem? hi)
  have hsh : w.shape? ent.g = some (ent.t, cur.size) := by simp [World.shape?, hc1]
  have hrun : (execOp a.eval o).run P w = .ok (.value (.slice (some ⟨ent.g, 0, none⟩) ln cp)) (w.freeze ⟨ent.g, cur.size, none⟩ 1) := by
   simp only [execOp, ho, hf.eval hx]
   refine run_value ?_
   simp [convert, Sem.run_bind, run_under h1, run_under h2, markStringish, shape, Sem.run, hsh, freeze]
  unfold Oper.wp; rw [hrun]
  have hother : ∀ b, b ≠ ent.g → (w.freeze ⟨ent.g, cur.size, none⟩ 1).heap[b]? = w.heap[b]? := by
   intro b hb
   unfold World.freeze
   rw [if_neg (by omega)]
   simp [Array.getElem?_modify, hb.symm]
  have hsize : (w.freeze ⟨ent.g, cur.size, none⟩ 1).heap.size = w.heap.size := by
   unfold World.freeze
   rw [if_neg (by omega)]
   simp
  have hmem : ∀ e ∈ H.eraseIdx i, e ∈ H ∧ e.g ≠ ent.g := by
   intro c hc
   rw [List.mem_eraseIdx_iff_getElem?] at hc
   obtain ⟨q, hq, hcq⟩ := hc
   exact ⟨List.mem_of_getElem? hcq, pairwise_ne hs.apart hcq hi hq⟩
  have hst := hs.erase hi hN
  have hst1 : St w0 (H.eraseIdx i) (w.freeze ⟨ent.g, cur.size, none⟩ 1) :=
   ⟨by unfold World.freeze; rw [if_neg (by omega)]; exact hst.os, by unfold World.freeze; rw [if_neg (by omega)]; exact hst.tape, by unfold World.freeze; rw [if_neg (by omega)]; exact hst.output, by rw [hsize]; exact hst.size,
    fun c hc => (hst.has c hc).of_block (hother _ (hmem c hc).2), fun b hb hne => (hother b (by omega)).trans (hst.old b hb hne), hst.apart⟩
  refine hK _ _ (hr _ (fun d hd => (hmem d hd).2) hst1 ?_ (by rw [hsize]; exact (hs.has ent (List.mem_of_getElem? hi)).lt) _ _ (hf.put o.dst _ hi') (zI _))
  intro j hj
  have h4 := hc3 j (.int .u8 (W.getD j 0)) (by rw [hcs]; exact qW hj)
  simp [World.cell?, frozen_mark hc1, h4]
end
/-
 A region that draws its order, with a constant text among its operations: a block that is made, marked, and read at the region's end.
-/
structure GEnt where
 g : Nat
 t : TypeId
 cs : List Value
 fl : Nat × Nat
section
variable {P : Program} {ops : Array Oper} {md : Region.Mode} {w0 : World} {HB : List Ent}
end
section
variable {P : Program} {ops : Array Oper} {Q : Exit → Act → World → Prop} {n : Sz} {w0 : World} {L L' : List (Nat × Value)} {HB X : List Ent} {D : List GEnt}
variable {o : Oper} {rest : List Oper} {v u : Value} {x y z : Operand} {k m j : Nat} {t t' e : TypeId} {ks : List Nat} {kd : IntKind} {r : Value → List Ent → Prop} {rs : List (Value → List Ent → Prop)}
end
theorem St.madeB {w0 w w' : World} {HB H : List Ent} {e : Ent} (hs : St w0 (HB ++ H) w) (hw : St w [e] w') (hE : w.heap.size ≤ e.g) : St w0 (HB ++ e :: H) w' := (hs.made hw hE).perm List.perm_middle.symm
/-
 The reference of layer 2: With, the constants in old memory.
-/
instance : AgN Tryz.prog 34 := ⟨agg34⟩
instance : Fld Tryz.prog 36 0 0 := ⟨⟨_, _, _, Tryz.underlying36, rfl, size34, rfl⟩⟩
structure WR where
 k : Nat
 g : Nat
 c : Nat
 He : List Ent
def OwnR (w0 : World) (S : List Int) (k g : Nat) (He : List Ent) : Prop := (k = 0 ∧ He = [] ∧ g < w0.heap.size ∧ RowI w0 g 0 8 .u32 S) ∨ (1 ≤ k ∧ ∃ tot, He = [⟨g, 96, S.map (int .u32), tot⟩] ∧ w0.heap.size ≤ g)
theorem OwnR.fr {w0 : World} {S : List Int} {k g : Nat} {He : List Ent} (h : OwnR w0 S k g He) : Fresh w0 He := by
 rcases h with ⟨_, rfl, _⟩ | ⟨_, tot, rfl, h⟩
 ·exact qe
 ·exact qI h qe
theorem OwnR.row {w0 w : World} {S : List Int} {k g : Nat} {He H : List Ent} (h : OwnR w0 S k g He) (hS : S.length = 8) (hs : St w0 H w) (hH : ∀ b, b < w0.heap.size → ∀ e ∈ H, e.g ≠ b) (hsub : ∀ e ∈ He, e ∈ H) : g < w.heap.size ∧ RowI w g 0 8 .u32 S := by
 rcases h with ⟨_, rfl, h1, h2⟩ | ⟨_, tot, rfl, h1⟩
 ·exact ⟨Nat.lt_of_lt_of_le h1 hs.size, h2.keepH hs h1 (hH g h1)⟩
 ·have hl := hs.has _ (hsub _ List.mem_cons_self)
  exact ⟨hl.lt, rowI_ent hl hS⟩
attribute [local irreducible] blk
theorem rwith_m (M MB : List Int) (LN : Nat) (hMB : padM M = MB) (hLN : MB.length = LN) (hL64 : LN % 64 = 0) (hLb : LN ≤ 5000) (A : Option Addr) (m c0 : Nat) (gs cs gk ck : Nat) (w : World) (hsM : Src w A m .u8 M) (hmc : m ≤ c0) (hm : m ≤ 4000) (hgs : gs < w.heap.size) (hSg : RowI w gs 0 8 .u32 IV) (hgk : gk < w.heap.size) (hKg : RowI w gk 0 64 .u32 KT) (hcs : 8 ≤ cs) (hck : 64 ≤ ck)  : Calls Tryz.prog 33 #[.slice A m c0, .agg ([slice (some ⟨gs, 0, none⟩) 8 cs, slice (some ⟨gk, 0, none⟩) 64 ck]).toArray] w fun e w' => e = .returned (.agg ((shaM M).map (int .u8)).toArray) ∧ St w [] w' := by
 refine qN (args := [.slice A m c0, .agg ([slice (some ⟨gs, 0, none⟩) 8 cs, slice (some ⟨gk, 0, none⟩) 64 ck]).toArray]) Tryz.func33 rfl Tryz.ntmps33 (by simp) ?_
 refine qC [0, 1] ?_
 iterate 2 refine gx ?_
 refine ql (fun g1 hg1 => ?_)
 refine TL.alloc (qA rfl) rfl rfl zero23 (cs := (List.replicate 32 0).map (int .u8)) rfl (tot := 32) (by simp) (fun g2 hg2 => ?_)
 iterate 12 refine gx ?_
 refine qu (ι := Nat × Nat) (V := fun y => .slice (some ⟨y.1, 0, none⟩) LN y.2) (R := fun y => (LN ≤ y.2) ∧ w.heap.size ≤ (⟨y.1, 5, MB.map (int .u8), y.2⟩ : Ent).g) (H' := fun y => [⟨y.1, 5, MB.map (int .u8), y.2⟩, ⟨g2, 23, (List.replicate 32 0).map (int .u8), 32⟩, ⟨g1, 36, [slice (some ⟨gs, 0, none⟩) 8 cs, slice (some ⟨gk, 0, none⟩) 64 ck], 2⟩]) (qA rfl) rfl enters56 rfl rfl (fun w hs => (show Calls Tryz.prog 56 #[.slice A m c0] w (fun e w' => ∃ y : Nat × Nat, e = .returned (.slice (some ⟨y.1, 0, none⟩) LN y.2) ∧ (LN ≤ y.2) ∧ w.heap.size ≤ (⟨y.1, 5, MB.map (int .u8), y.2⟩ : Ent).g ∧ St w [⟨y.1, 5, MB.map (int .u8), y.2⟩] w') from (rpad_m M MB LN hMB hLN A m c0 w (hsM.at_ hs (fun b hb => (qD (by show g2 ≠ b; omega) (qD (by show g1 ≠ b; omega) qF)))) hmc hm).mono fun e w' ⟨gv, cv, he, hge, hcv, hw⟩ => ⟨(gv, cv), he, hcv, hge, hw⟩).mono fun e w' ⟨x, he, hR, hE, hw⟩ => ⟨x, he, ⟨hR, Nat.le_trans hs.size hE⟩, hs.made hw hE⟩) (fun y ⟨hcm, hgm⟩ => ?_)
 obtain ⟨gm, cm⟩ := y
 dsimp only at hcm hgm ⊢
 iterate 3 refine gx ?_
 refine qC [3, 4, 5, 6] ?_
 iterate 7 refine gx ?_
 refine qg (ι := WR) (fun x0 => [(3, .pointer (some ⟨g1, 0, none⟩)), (4, .pointer (some ⟨g2, 0, none⟩)), (5, .slice (some ⟨x0.g, 0, none⟩) 8 x0.c), (6, .slice (some ⟨gm, 0, none⟩) LN cm), (7, .int .i64 (64 * (x0.k : Int)))]) (fun x0 => [⟨gm, 5, MB.map (int .u8), cm⟩, ⟨g2, 23, (List.replicate 32 0).map (int .u8), 32⟩, ⟨g1, 36, [slice (some ⟨gs, 0, none⟩) 8 cs, slice (some ⟨gk, 0, none⟩) 64 ck], 2⟩] ++ x0.He) (fun x0 => LN - 64 * x0.k) (fun x0 => (64 * x0.k ≤ LN ∧ 8 ≤ x0.c) ∧ OwnR w (cmp MB x0.k) x0.k x0.g x0.He) (⟨0, gs, cs, []⟩ : WR) ⟨⟨by show 64 * 0 ≤ LN; omega, hcs⟩, .inl ⟨rfl, rfl, hgs, by show RowI w gs 0 8 .u32 (cmp MB 0); rw [show cmp MB 0 = IV by unfold cmp; rfl]; exact hSg⟩⟩ (qG (i := 3) rfl (qG (i := 4) rfl (qS (i := 5) rfl (by first | rfl | (congr 2; omega)) (by first | omega | (dsimp only; omega) | rfl) (by first | omega | (dsimp only; omega) | rfl) (qS (i := 6) rfl rfl (by first | omega | (dsimp only; omega) | rfl) (by first | omega | (dsimp only; omega) | rfl) (qE (i := 7) rfl (by first | omega | rfl) (qK)))))) (fun w h => by rw [List.append_nil]; exact h) (fun x0 hC0 => ?_)
 obtain ⟨k, g, c, He⟩ := x0
 obtain ⟨⟨hk, hc⟩, hor⟩ := hC0
 dsimp only at hk hc hor ⊢
 iterate 9 refine gx ?_
 refine qC [3, 4, 5, 6, 7, 17] ?_
 refine qO rfl (fun hq0 => ?_) (fun hq0 => ?_)
 ·iterate 4 refine gx ?_
  refine TC.heap (H' := [⟨gm, 5, MB.map (int .u8), cm⟩, ⟨g2, 23, (List.replicate 32 0).map (int .u8), 32⟩, ⟨g1, 36, [slice (some ⟨gs, 0, none⟩) 8 cs, slice (some ⟨gk, 0, none⟩) 64 ck], 2⟩] ++ ([] ++ He)) (fun w h => h) ?_
  refine TC.mixB (HB := [Ent.mk gm 5 (MB.map (int .u8)) cm, Ent.mk g2 23 ((List.replicate 32 0).map (int .u8)) 32, Ent.mk g1 36 ([slice (some ⟨gs, 0, none⟩) 8 cs, slice (some ⟨gk, 0, none⟩) 64 ck]) 2]) (H := [] ++ He) (by kernel_rfl) [0, 0, 0, 0, 0, 0, 3, 0, 0, 3, 0] [0, 1, 2, 3, 4, 5, 7, 8, 6, 9, 10] (by kernel_rfl) ?_
  refine qt (qA rfl) rfl (fun _ => qb rfl rfl) ?_
  refine qt (qA rfl) rfl (fun _ => qb rfl rfl) ?_
  refine qt (qA rfl) rfl (fun _ => qb rfl rfl) ?_
  refine qt (qA rfl) rfl (fun _ => qb rfl rfl) ?_
  refine qt (qA rfl) rfl (fun _ => qQ rfl rfl rfl (r := (64 * (k : Int) + 64)) (w64 (by omega) (by omega))) ?_
  refine qt (qA rfl) rfl (fun _ => zM rfl Tryz.underlying22 size5 rfl (bnd.at_ (l := (64 * k)) rfl (by omega)) (bnd.at_ (l := (64 * k + 64)) rfl (by omega)) (by omega) (by omega) (A' := some ⟨gm, (64 * k), none⟩) (cut_is (by omega) (by omega)) (ln := 64) (cp := (cm - 64 * k)) (by omega) (by omega)) ?_
  refine qt (qA rfl) rfl (fun _ => zT rfl Tryz.underlying36 rfl size34 rfl (off' := 1) (by first | rfl | omega)) ?_
  refine TP.stay (qA rfl) rfl (fun H' => qJ rfl agg34 rfl (qR (i := 2) (ent := ⟨g1, 36, [slice (some ⟨gs, 0, none⟩) 8 cs, slice (some ⟨gk, 0, none⟩) 64 ck], 2⟩) (off := 1) rfl rfl (by exact rfl))) ?_
  refine TP.call (ι := Nat × Nat) (V := fun y => .slice (some ⟨y.1, 0, none⟩) 64 y.2) (R := fun y => (64 ≤ y.2) ∧ w.heap.size ≤ (⟨y.1, 96, (sched (blk MB k)).map (int .u32), y.2⟩ : Ent).g) (H' := fun y => [⟨y.1, 96, (sched (blk MB k)).map (int .u32), y.2⟩] ++ He) (qA rfl) rfl enters58 rfl rfl (fun w hs => (show Calls Tryz.prog 58 #[.slice (some ⟨gm, (64 * k), none⟩) 64 (cm - 64 * k)] w (fun e w' => ∃ y : Nat × Nat, e = .returned (.slice (some ⟨y.1, 0, none⟩) 64 y.2) ∧ (64 ≤ y.2) ∧ w.heap.size ≤ (⟨y.1, 96, (sched (blk MB k)).map (int .u32), y.2⟩ : Ent).g ∧ St w [⟨y.1, 96, (sched (blk MB k)).map (int .u32), y.2⟩] w') from (rschedule_m (blk MB k) gm (64 * k) (cm - 64 * k) w (hs.has (⟨gm, 5, MB.map (int .u8), cm⟩) (by simp)).lt (row_blk (hs.has (⟨gm, 5, MB.map (int .u8), cm⟩) (by simp)) (by omega)) (by omega)).mono fun e w' ⟨gv, cv, he, hge, hcv, hw⟩ => ⟨(gv, cv), he, hcv, hge, hw⟩).mono fun e w' ⟨x, he, hR, hE, hw⟩ => ⟨x, he, ⟨hR, Nat.le_trans hs.size hE⟩, St.madeB hs hw hE⟩) (fun y ⟨hcw, hgw⟩ => ?_)
  obtain ⟨gw, cw⟩ := y
  dsimp only at hcw hgw ⊢
  refine TP.call (ι := Nat × Nat) (V := fun y => .slice (some ⟨y.1, 0, none⟩) 8 y.2) (R := fun y => (8 ≤ y.2) ∧ w.heap.size ≤ (⟨y.1, 96, (mixS (cmp MB k) (blk MB k)).map (int .u32), y.2⟩ : Ent).g) (H' := fun y => [⟨y.1, 96, (mixS (cmp MB k) (blk MB k)).map (int .u32), y.2⟩, ⟨gw, 96, (sched (blk MB k)).map (int .u32), cw⟩] ++ He) (qA rfl) rfl enters57 rfl rfl (fun w hs => (show Calls Tryz.prog 57 #[.slice (some ⟨g, 0, none⟩) 8 c, .slice (some ⟨gw, 0, none⟩) 64 cw, .slice (some ⟨gk, 0, none⟩) 64 ck] w (fun e w' => ∃ y : Nat × Nat, e = .returned (.slice (some ⟨y.1, 0, none⟩) 8 y.2) ∧ (8 ≤ y.2) ∧ w.heap.size ≤ (⟨y.1, 96, (mixS (cmp MB k) (blk MB k)).map (int .u32), y.2⟩ : Ent).g ∧ St w [⟨y.1, 96, (mixS (cmp MB k) (blk MB k)).map (int .u32), y.2⟩] w') from (rblock_m (cmp MB k) (blk MB k) g c gw cw gk ck w (cmp_len MB k) (hor.row (cmp_len MB k) hs (fun b hb => (qT (qD (by show gm ≠ b; omega) (qD (by show g2 ≠ b; omega) (qD (by show g1 ≠ b; omega) qF))) (qT (qD (by show gw ≠ b; omega) qF) (hor.fr.ne hb)))) (fun e he => by simp [he])).1 (hor.row (cmp_len MB k) hs (fun b hb => (qT (qD (by show gm ≠ b; omega) (qD (by show g2 ≠ b; omega) (qD (by show g1 ≠ b; omega) qF))) (qT (qD (by show gw ≠ b; omega) qF) (hor.fr.ne hb)))) (fun e he => by simp [he])).2 (by omega) (hs.has (⟨gw, 96, (sched (blk MB k)).map (int .u32), cw⟩) (by simp)).lt (rowI_ent (hs.has (⟨gw, 96, (sched (blk MB k)).map (int .u32), cw⟩) (by simp)) (sched_len _)) (by omega) (Nat.lt_of_lt_of_le hgk hs.size) (hKg.keepH hs hgk (qT (qD (by show gm ≠ gk; omega) (qD (by show g2 ≠ gk; omega) (qD (by show g1 ≠ gk; omega) qF))) (qT (qD (by show gw ≠ gk; omega) qF) (hor.fr.ne hgk)))) (by omega)).mono fun e w' ⟨gv, cv, he, hge, hcv, hw⟩ => ⟨(gv, cv), he, hcv, hge, hw⟩).mono fun e w' ⟨x, he, hR, hE, hw⟩ => ⟨x, he, ⟨hR, Nat.le_trans hs.size hE⟩, St.madeB hs hw hE⟩) (fun y ⟨hcb, hgb⟩ => ?_)
  obtain ⟨gb, cb⟩ := y
  dsimp only at hcb hgb ⊢
  refine qt (qA rfl) rfl (fun _ => zS rfl rfl) ?_
  refine TP.nil ?_
  refine TE.heap (H' := [⟨gm, 5, MB.map (int .u8), cm⟩, ⟨g2, 23, (List.replicate 32 0).map (int .u8), 32⟩, ⟨g1, 36, [slice (some ⟨gs, 0, none⟩) 8 cs, slice (some ⟨gk, 0, none⟩) 64 ck], 2⟩, ⟨gb, 96, (mixS (cmp MB k) (blk MB k)).map (int .u32), cb⟩, ⟨gw, 96, (sched (blk MB k)).map (int .u32), cw⟩] ++ He) (fun w h => h) ?_
  iterate 2 refine gx ?_
  refine qC [3, 4, 5, 6, 7] ?_
  iterate 2 refine gx ?_
  refine qB (qA rfl) rfl (qQ rfl rfl rfl (r := (64 * (k : Int) + 64)) (w64 (by omega) (by omega))) ?_
  iterate 2 refine gx ?_
  exact qZ (⟨k + 1, gb, cb, [⟨gb, 96, (cmp MB (k + 1)).map (int .u32), cb⟩]⟩ : WR) (by show LN - 64 * (k + 1) < LN - 64 * k; omega) ⟨⟨by show 64 * (k + 1) ≤ LN; omega, hcb⟩, .inr ⟨by show 1 ≤ k + 1; omega, cb, rfl, hgb⟩⟩ (qG (i := 3) rfl (qG (i := 4) rfl (qS (i := 5) rfl rfl (by first | omega | (dsimp only; omega) | rfl) (by first | omega | (dsimp only; omega) | rfl) (qS (i := 6) rfl rfl (by first | omega | (dsimp only; omega) | rfl) (by first | omega | (dsimp only; omega) | rfl) (qE (i := 7) rfl (by first | omega | rfl) (qK)))))) (fun w h => by have h2 := St.left (H := [⟨gm, 5, MB.map (int .u8), cm⟩, ⟨g2, 23, (List.replicate 32 0).map (int .u8), 32⟩, ⟨g1, 36, [slice (some ⟨gs, 0, none⟩) 8 cs, slice (some ⟨gk, 0, none⟩) 64 ck], 2⟩, ⟨gb, 96, (mixS (cmp MB k) (blk MB k)).map (int .u32), cb⟩]) (h.erase (i := 4) rfl hgw) hor.fr; show St _ [⟨gm, 5, MB.map (int .u8), cm⟩, ⟨g2, 23, (List.replicate 32 0).map (int .u8), 32⟩, ⟨g1, 36, [slice (some ⟨gs, 0, none⟩) 8 cs, slice (some ⟨gk, 0, none⟩) 64 ck], 2⟩, ⟨gb, 96, (cmp MB (k + 1)).map (int .u32), cb⟩] w; rw [cmp_succ]; exact h2)
 ·have hkn : k = LN / 64 := by omega
  have hL0 : 0 < LN := by have := padM_len M; rw [hMB] at this; omega
  obtain ⟨_, tot, rfl, hN⟩ := hor.resolve_left (fun h => by have := h.1; omega)
  have Vl := cmp_len MB k
  have hfin : digI (cmp MB k) 32 = shaM M := by rw [dig_same, sha_padM, hMB, hLN, hkn]
  generalize cmp MB k = V at Vl hfin ⊢
  iterate 7 refine gx ?_
  refine TL.alloc (qA rfl) rfl rfl zero23 (cs := (List.replicate 32 0).map (int .u8)) rfl (tot := 32) (by simp) (fun g3 hg3 => ?_)
  iterate 9 refine gx ?_
  refine qg (ι := Nat) (fun i => [(4, .pointer (some ⟨g2, 0, none⟩)), (5, .slice (some ⟨g, 0, none⟩) 8 c), (8, .pointer (some ⟨g3, 0, none⟩)), (9, .int .i64 (i : Int))]) (fun i => [⟨g3, 23, (digI V i).map (int .u8), 32⟩, ⟨gm, 5, MB.map (int .u8), cm⟩, ⟨g2, 23, (List.replicate 32 0).map (int .u8), 32⟩, ⟨g1, 36, [slice (some ⟨gs, 0, none⟩) 8 cs, slice (some ⟨gk, 0, none⟩) 64 ck], 2⟩, ⟨g, 96, V.map (int .u32), tot⟩]) (fun i => 32 - i) (fun i => i ≤ 32) 0 (Nat.zero_le _) (qG (i := 4) rfl (qS (i := 5) rfl rfl (by first | omega | (dsimp only; omega) | rfl) (by first | omega | (dsimp only; omega) | rfl) (qG (i := 8) rfl (qE (i := 9) rfl (by first | omega | rfl) (qK))))) (fun w h => by rw [show digI V 0 = List.replicate 32 0 by unfold digI; rfl]; exact h) (fun i hC1 => ?_)
  iterate 7 refine gx ?_
  refine qO rfl (fun hq1 => ?_) (fun hq1 => ?_)
  ·iterate 8 refine gx ?_
   refine qB (qA rfl) rfl (Gets.quo rfl rfl rfl (by omega) (r := ((i / 4 : Nat) : Int)) (tdiv_pos (by omega) (w64 (by omega) (by omega)))) ?_
   refine qB (qA rfl) rfl (qU rfl Tryz.underlying34 size96 rfl rfl (i := (((i / 4)))) (by omega) (by omega) (off' := (((i / 4)))) (by omega)) ?_
   refine qB (qA rfl) rfl (qJ rfl agg96 rfl (qR (i := 4) (ent := ⟨g, 96, V.map (int .u32), tot⟩) (off := (((i / 4)))) rfl rfl (by have := qW (kd := .u32) (W := V) (i := (((i / 4)))) (by rw [Vl]; omega); (first | exact this | (refine Eq.trans ?_ this; congr 1; omega))))) ?_
   refine gx ?_
   refine qB (qA rfl) rfl (Gets.rem rfl rfl rfl (by omega) (r := ((i : Int) % 4)) (tmod_pos (by omega) rfl)) ?_
   refine qB (qA rfl) rfl (Gets.mul rfl rfl rfl (r := (8 * ((i : Int) % 4))) (w64 (by omega) (by omega))) ?_
   refine qB (qA rfl) rfl (qw rfl rfl rfl (r := (24 - 8 * ((i : Int) % 4))) (w64 (by omega) (by omega))) ?_
   refine qB (qA rfl) rfl (zL rfl rfl rfl (by omega) (r := (shrI .u32 (V.getD (((i / 4))) 0) (24 - 8 * ((i : Int) % 4)))) rfl) ?_
   refine qB (qA rfl) rfl (zB rfl Tryz.underlying96 Tryz.underlying5 rfl (r := (IntKind.u8.wrap (shrI .u32 (V.getD (((i / 4))) 0) (24 - 8 * ((i : Int) % 4))))) rfl) ?_
   refine qB (qA rfl) rfl (qf rfl Tryz.underlying23 size5 rfl rfl (i := i) (by omega) (by omega) (off' := i) (by omega)) ?_
   refine zF (qA rfl) rfl rfl size5 rfl rfl rfl (i := 0) rfl rfl (by simp [(digI_len V i)] <;> omega) (cs' := ((digI V i).set i (IntKind.u8.wrap (shrI .u32 (V.getD (((i / 4))) 0) (24 - 8 * ((i : Int) % 4))))).map (int .u8)) (ints_set) (H' := [⟨g3, 23, ((digI V i).set i (IntKind.u8.wrap (shrI .u32 (V.getD (((i / 4))) 0) (24 - 8 * ((i : Int) % 4))))).map (int .u8), 32⟩, ⟨gm, 5, MB.map (int .u8), cm⟩, ⟨g2, 23, (List.replicate 32 0).map (int .u8), 32⟩, ⟨g1, 36, [slice (some ⟨gs, 0, none⟩) 8 cs, slice (some ⟨gk, 0, none⟩) 64 ck], 2⟩, ⟨g, 96, V.map (int .u32), tot⟩]) rfl ?_
   iterate 3 refine gx ?_
   refine qC [4, 5, 8, 9] ?_
   iterate 2 refine gx ?_
   refine qB (qA rfl) rfl (qQ rfl rfl rfl (r := ((i : Int) + 1)) (w64 (by omega) (by omega))) ?_
   iterate 2 refine gx ?_
   exact qZ (i + 1) (by omega) (by omega) (qG (i := 4) rfl (qS (i := 5) rfl rfl (by first | omega | (dsimp only; omega) | rfl) (by first | omega | (dsimp only; omega) | rfl) (qG (i := 8) rfl (qE (i := 9) rfl (by first | omega | rfl) (qK))))) (fun w h => by rw [show digI V (i + 1) = (digI V i).set i (IntKind.u8.wrap (shrI .u32 (V.getD (i / 4) 0) (24 - 8 * ((i : Int) % 4)))) by rw [digI]]; exact h)
  ·obtain rfl : i = 32 := by omega
   iterate 7 refine gx ?_
   refine qB (qA rfl) rfl (qi rfl agg23 size23 rfl (vs := (digI V 32).map (int .u8)) (by simp [(digI_len V 32)]) (qX (i := 0) (ent := ⟨g3, 23, (digI V 32).map (int .u8), 32⟩) rfl rfl rfl)) ?_
   refine qy (qA rfl) rfl rfl size23 rfl (vs := (digI V 32).map (int .u8)) rfl (by simp [(digI_len V 32)]) qs (i := 2) (ent := ⟨g2, 23, (List.replicate 32 0).map (int .u8), 32⟩) rfl rfl (by simp []) (H' := [⟨g3, 23, (digI V 32).map (int .u8), 32⟩, ⟨gm, 5, MB.map (int .u8), cm⟩, ⟨g2, 23, (digI V 32).map (int .u8), 32⟩, ⟨g1, 36, [slice (some ⟨gs, 0, none⟩) 8 cs, slice (some ⟨gk, 0, none⟩) 64 ck], 2⟩, ⟨g, 96, V.map (int .u32), tot⟩]) rfl ?_
   iterate 3 refine gx ?_
   exact qk rfl agg23 size23 rfl (vs := (digI V 32).map (int .u8)) (by simp [(digI_len V 32)]) (qX (i := 2) (ent := ⟨g2, 23, (digI V 32).map (int .u8), 32⟩) rfl rfl rfl) (fun w hs => ⟨congrArg (fun D => Ending.returned (.agg (List.map (int .u8) D).toArray)) hfin, (St.left (H := []) hs (qI (by assumption) (qI (by assumption) (qI (by assumption) (qI (by assumption) (qI (by assumption) qe))))))⟩)
theorem rwith_g (M : List Int) (A : Option Addr) (m c0 : Nat) (gs cs gk ck : Nat) (w : World) (hsM : Src w A m .u8 M) (hmc : m ≤ c0) (hm : m ≤ 4000) (hgs : gs < w.heap.size) (hSg : RowI w gs 0 8 .u32 IV) (hgk : gk < w.heap.size) (hKg : RowI w gk 0 64 .u32 KT) (hcs : 8 ≤ cs) (hck : 64 ≤ ck) : Calls Tryz.prog 33 #[.slice A m c0, .agg ([slice (some ⟨gs, 0, none⟩) 8 cs, slice (some ⟨gk, 0, none⟩) 64 ck]).toArray] w fun e w' => e = .returned (.agg ((shaM M).map (int .u8)).toArray) ∧ St w [] w' :=
 rwith_m M (padM M) (padM M).length rfl rfl (padM_mod M) (padM_le M (by have := hsM.1; omega)) A m c0 gs cs gk ck w hsM hmc hm hgs hSg hgk hKg hcs hck
/-
 Arrays of numbers that are held against each other with '!='.
-/
section
variable {P : Program} {n : Sz} {w0 : World} {o : Oper} {L : List (Nat × Value)} {H : List Ent} {t t' e : TypeId} {x y : Operand} {kd : IntKind}
theorem Gets.arrNe {len : Nat} {W V : List Int} (ho : o.op = .binOp .neq t x y t') (h1 : P.underlying t = some (.array len e)) (h2 : P.underlying e = some (.int kd)) (hsz : (P.info? e).map (·.size) = some 1) (hgt : P.eqGuardType P.depth t = false)
  (hx : ev L x = some (.agg (W.map (int kd)).toArray)) (hy : ev L y = some (.agg (V.map (int kd)).toArray)) (hW : W.length = len) (hV : V.length = len) : Gets P n w0 o L H (.bool (decide (¬ W = V))) := fun a w hf hs => by
 simp only [execOp, ho, hf.eval hx, hf.eval hy]
 refine run_value ?_
 have h3 := eqIn_arr2 (P := P) 9998 h1 h2 hsz hW hV w
 have h4 : ∀ c d : Value, Op.equal t c d = Op.equalIn (9998 + 1 + 1) t c d := fun _ _ => rfl
 simp only [Sem.run_bind, run_noGuard hgt, Result.andThen_ok, binOp, h4]
 generalize Op.equalIn (9998 + 1 + 1) t (.agg (W.map (int kd)).toArray) (.agg (V.map (int kd)).toArray) = s at *
 simp [h3]
end
/-
 The reference of layer 8: Verify.
-/
theorem enters14 : Enters Tryz.prog 14 := ⟨_, Tryz.func14, by kernel_rfl, by kernel_rfl⟩
theorem enters33 : Enters Tryz.prog 33 := ⟨_, Tryz.func33, by kernel_rfl, by kernel_rfl⟩
instance : AgY Tryz.prog 36 := ⟨agg36⟩
instance : Siz Tryz.prog 36 2 := ⟨size36⟩
open Classical in
noncomputable def verI (B : List Int) (mo : Nat) (o n : Int) (H1 H2 : List Int) (Cs : List CV) : Int × Int :=
 if (faultI o n Cs).1 ≠ 0 then faultI o n Cs else if o ≠ mo then (13, (mo : Int)) else if shaM B ≠ H1 then (14, 0) else if shaM (newB B Cs n) ≠ H2 then (15, 0) else (0, 0)
theorem verI_1 {B : List Int} {mo : Nat} {o n : Int} {H1 H2 : List Int} {Cs : List CV} (h : (faultI o n Cs).1 ≠ 0) : verI B mo o n H1 H2 Cs = faultI o n Cs := if_pos h
theorem verI_2 {B : List Int} {mo : Nat} {o n : Int} {H1 H2 : List Int} {Cs : List CV} (h : ¬ (faultI o n Cs).1 ≠ 0) (h2 : o ≠ mo) : verI B mo o n H1 H2 Cs = (13, (mo : Int)) := by unfold verI; rw [if_neg h, if_pos h2]
theorem verI_3 {B : List Int} {mo : Nat} {o n : Int} {H1 H2 : List Int} {Cs : List CV} (h : ¬ (faultI o n Cs).1 ≠ 0) (h2 : ¬ o ≠ mo) (h3 : shaM B ≠ H1) : verI B mo o n H1 H2 Cs = (14, 0) := by unfold verI; rw [if_neg h, if_neg h2, if_pos h3]
theorem verI_4 {B : List Int} {mo : Nat} {o n : Int} {H1 H2 : List Int} {Cs : List CV} (h : ¬ (faultI o n Cs).1 ≠ 0) (h2 : ¬ o ≠ mo) (h3 : ¬ shaM B ≠ H1) (h4 : shaM (newB B Cs n) ≠ H2) : verI B mo o n H1 H2 Cs = (15, 0) := by unfold verI; rw [if_neg h, if_neg h2, if_neg h3, if_pos h4]
theorem verI_5 {B : List Int} {mo : Nat} {o n : Int} {H1 H2 : List Int} {Cs : List CV} (h : ¬ (faultI o n Cs).1 ≠ 0) (h2 : ¬ o ≠ mo) (h3 : ¬ shaM B ≠ H1) (h4 : ¬ shaM (newB B Cs n) ≠ H2) : verI B mo o n H1 H2 Cs = (0, 0) := by unfold verI; rw [if_neg h, if_neg h2, if_neg h3, if_neg h4]
theorem rverify_c (B : List Int) (Ao : Option Addr) (mo co : Nat) (hmo : mo ≤ co) (hco : co ≤ 9223372036854775807) (hmo3 : mo ≤ 300) (hBB : Bytes B) (o n : Int) (H1 H2 : List Int) (hH1 : H1.length = 32) (hH2 : H2.length = 32) (A : Option Addr) (m c : Nat) (Cs : List CV) (gs cs gk ck : Nat) (hmm : m ≤ 1000000000) (hN : NumsC Cs) (w : World) (hC : SrcC w A m Cs) (hsB : Src w Ao mo .u8 B) (hD : DatC w Cs) (hn : n ≤ 3000) (hgs : gs < w.heap.size) (hSg : RowI w gs 0 8 .u32 IV) (hgk : gk < w.heap.size) (hKg : RowI w gk 0 64 .u32 KT) (hcs : 8 ≤ cs) (hck : 64 ≤ ck)  : Calls Tryz.prog 15 #[.slice Ao mo co, .agg (dV o n H1 H2 (slice A m c)).toArray, .agg ([slice (some ⟨gs, 0, none⟩) 8 cs, slice (some ⟨gk, 0, none⟩) 64 ck]).toArray] w fun e w' => e = .returned (.tuple #[.int .i64 (verI B mo o n H1 H2 Cs).1, .int .i64 (verI B mo o n H1 H2 Cs).2]) ∧ St w [] w' := by
 have hmo2 := hsB.1
 refine qN (args := [.slice Ao mo co, .agg (dV o n H1 H2 (slice A m c)).toArray, .agg ([slice (some ⟨gs, 0, none⟩) 8 cs, slice (some ⟨gk, 0, none⟩) 64 ck]).toArray]) Tryz.func15 rfl Tryz.ntmps15 (by simp) ?_
 refine qC [0, 1, 2] ?_
 iterate 2 refine gx ?_
 refine qz (qA rfl) rfl rfl rfl (cs := dV o n H1 H2 (slice A m c)) (by simp [Value.cells]) (tot := 67) (by simp [hH1, hH2]) (fun g1 hg1 => ?_)
 refine ql (fun g2 hg2 => ?_)
 iterate 7 refine gx ?_
 refine qP (qA rfl) rfl enters32 rfl rfl (v := .tuple #[.int .i64 ((faultI o n Cs).1), .int .i64 ((faultI o n Cs).2)]) (fun w hs => rdcheck_c o n H1 H2 hH1 hH2 A m c Cs hmm hN w (hC.at_ hs (fun b hb => (qD (by show g2 ≠ b; omega) (qD (by show g1 ≠ b; omega) qF))))) ?_
 iterate 7 refine gx ?_
 refine qC [0, 4, 5, 6, 7, 8, 9] ?_
 iterate 7 refine gx ?_
 refine qC [0, 4, 5, 6, 7, 8, 9, 16] ?_
 refine qO rfl (fun c1 => ?_) (fun c1 => ?_)
 ·iterate 10 refine gx ?_
  exact TE.ret2 rfl rfl rfl (fun w hs => ⟨by rw [verI_1 c1] <;> rfl, (((hs.drop (by assumption)).drop (by assumption)))⟩)
 ·have hVC : ValidC o n Cs := validC (by omega)
  iterate 12 refine gx ?_
  refine qC [0, 4, 5, 6, 7, 23] ?_
  refine qO rfl (fun c2 => ?_) (fun c2 => ?_)
  ·iterate 10 refine gx ?_
   exact TE.ret2 rfl rfl rfl (fun w hs => ⟨by rw [verI_2 c1 c2] <;> rfl, (((hs.drop (by assumption)).drop (by assumption)))⟩)
  ·iterate 4 refine gx ?_
   refine qp (by kernel_rfl) [0, 1, 1, 0, 1, 0] rfl (by kernel_rfl) ?_
   iterate 2 refine gx ?_
   refine zE (qA rfl) rfl enters33 rfl rfl (v := .agg ((shaM B).map (int .u8)).toArray) (fun w hs => rwith_g B Ao mo co gs cs gk ck w (hsB.at_ hs (fun b hb => (qD (by show g2 ≠ b; omega) (qD (by show g1 ≠ b; omega) qF)))) (by omega) (by omega) (Nat.lt_of_lt_of_le hgs hs.size) (hSg.keepH hs hgs (qD (by show g2 ≠ gs; omega) (qD (by show g1 ≠ gs; omega) qF))) (Nat.lt_of_lt_of_le hgk hs.size) (hKg.keepH hs hgk (qD (by show g2 ≠ gk; omega) (qD (by show g1 ≠ gk; omega) qF))) hcs hck) ?_
   refine gx ?_
   refine qY (qA rfl) rfl (qi rfl agg23 size23 rfl (vs := H1.map (int .u8)) (by simp [hH1]) (Row.part (i := 1) (ent := ⟨g1, 26, dV o n H1 H2 (slice A m c), 67⟩) rfl rfl (by exact seg_mid (by simp [])))) ?_
   refine qH (qA rfl) rfl (fun _ => Gets.arrNe rfl Tryz.underlying23 Tryz.underlying5 size5 geq23 rfl rfl (shaM_len B) hH1) ?_
   iterate 2 refine gx ?_
   refine qC [0, 4, 5, 6, 7, 31] ?_
   refine qO rfl (fun c3 => ?_) (fun c3 => ?_)
   ·iterate 8 refine gx ?_
    exact TE.ret2 rfl rfl rfl (fun w hs => ⟨by rw [verI_3 c1 c2 c3] <;> rfl, (((hs.drop (by assumption)).drop (by assumption)))⟩)
   ·iterate 4 refine gx ?_
    refine TC.mixS [⟨g2, 36, [slice (some ⟨gs, 0, none⟩) 8 cs, slice (some ⟨gk, 0, none⟩) 64 ck], 2⟩, ⟨g1, 26, dV o n H1 H2 (slice A m c), 67⟩] [] (by kernel_rfl) [0, 1, 3, 1, 1, 0, 1, 0] [0, 1, 3, 5, 6, 2, 4, 7] [fun _ _ => True, fun _ _ => True, fun v e => ∃ y : (Option Addr × Nat) × List Ent, (Own w.heap.size 5 .u8 (.slice y.1.1 (newB B Cs n).length y.1.2) (newB B Cs n) y.2) ∧ v = .slice y.1.1 (((newB B Cs n).length)) y.1.2 ∧ e = y.2, fun _ _ => True, fun _ _ => True, fun _ _ => True, fun _ _ => True, fun _ _ => True] (by kernel_rfl) (by kernel_rfl) (perm_pick (p := [0, 1]) (by kernel_rfl) rfl) qe ?_
    iterate 4 refine gx ?_
    refine TR.gets (qA rfl) rfl (fun Z hZ => qi rfl agg23 size23 rfl (vs := H2.map (int .u8)) (by simp [hH2]) (Row.part (i := 1) (ent := ⟨g1, 26, [int .i64 o, int .i64 n] ++ (H1.map (int .u8) ++ (H2.map (int .u8) ++ ([slice A m c]))), 67⟩) rfl rfl (by rw [← List.append_assoc]; exact seg_mid (by simp [hH1])))) ?_
    refine TR.call3 (ι := (Option Addr × Nat) × List Ent) (V := fun y => .slice y.1.1 (((newB B Cs n).length)) y.1.2) (R := fun y => Own w.heap.size 5 .u8 (.slice y.1.1 (newB B Cs n).length y.1.2) (newB B Cs n) y.2) (E := fun y => y.2) (qA rfl) rfl enters14 rfl rfl (fun Z w hZ hs => (rapply_s B Ao mo co (by omega) (by omega) hBB o n H1 H2 hH1 hH2 A m c Cs hmm hN w (hC.at_ hs (fun b hb => (qT (qD (by show g2 ≠ b; omega) (qD (by show g1 ≠ b; omega) qF)) (qT qF (hZ.ne hb))))) (hsB.at_ hs (fun b hb => (qT (qD (by show g2 ≠ b; omega) (qD (by show g1 ≠ b; omega) qF)) (qT qF (hZ.ne hb))))) (hD.at_ hs (fun b hb => (qT (qD (by show g2 ≠ b; omega) (qD (by show g1 ≠ b; omega) qF)) (qT qF (hZ.ne hb))))) hVC (by omega) hn).mono fun e w' ⟨A', c', He, he, ho, hw⟩ => ⟨((A', c'), He), he, own_mono ho hs.size, ho.new, hw⟩) (fun y hOnw hFnw => ?_)
    obtain ⟨⟨Anw, cnw⟩, Hnw⟩ := y
    dsimp only at hOnw hFnw ⊢
    refine TR.call0 (qA rfl) rfl enters33 rfl rfl (v := .agg ((shaM (newB B Cs n)).map (int .u8)).toArray) (fun Z w hZ hs => rwith_g (newB B Cs n) Anw (((newB B Cs n).length)) cnw gs cs gk ck w (hOnw.srcOf (fun e he => hs.has e (by simp [he]))) (by obtain ⟨_, _, h1, h2, _⟩ := hOnw.form; simp only [slice.injEq] at h1; omega) (by have := newB_len (B := B) (Cs := Cs) (n := n); omega) (Nat.lt_of_lt_of_le hgs hs.size) (hSg.keepH hs hgs (qT (qD (by show g2 ≠ gs; omega) (qD (by show g1 ≠ gs; omega) qF)) (qT (qT qF (hFnw.ne hgs)) (hZ.ne hgs)))) (Nat.lt_of_lt_of_le hgk hs.size) (hKg.keepH hs hgk (qT (qD (by show g2 ≠ gk; omega) (qD (by show g1 ≠ gk; omega) qF)) (qT (qT qF (hFnw.ne hgk)) (hZ.ne hgk)))) hcs hck) ?_
    refine TR.free (qA rfl) rfl (fun _ => Gets.arrNe rfl Tryz.underlying23 Tryz.underlying5 size5 geq23 rfl rfl (shaM_len (newB B Cs n)) hH2) ?_
    refine gx ?_
    refine TE.heap (H' := [⟨g2, 36, [slice (some ⟨gs, 0, none⟩) 8 cs, slice (some ⟨gk, 0, none⟩) 64 ck], 2⟩, ⟨g1, 26, dV o n H1 H2 (slice A m c), 67⟩]) (fun w h => St.left h (zG hFnw qe)) ?_
    refine gx ?_
    refine qC [6, 7, 39] ?_
    refine qO rfl (fun c4 => ?_) (fun c4 => ?_)
    ·iterate 8 refine gx ?_
     exact TE.ret2 rfl rfl rfl (fun w hs => ⟨by rw [verI_4 c1 c2 c3 c4] <;> rfl, (((hs.drop (by assumption)).drop (by assumption)))⟩)
    ·iterate 9 refine gx ?_
     exact TE.ret2 rfl rfl rfl (fun w hs => ⟨by rw [verI_5 c1 c2 c3 c4] <;> rfl, (((hs.drop (by assumption)).drop (by assumption)))⟩)
/-
 The reference of layer 8: Describe.
-/
theorem enters16 : Enters Tryz.prog 16 := ⟨_, Tryz.func16, by kernel_rfl, by kernel_rfl⟩
instance : Zer Tryz.prog 36 [slice none 0 0, slice none 0 0] := ⟨⟨_, zero36, rfl⟩⟩
theorem list32 {l : List Int} (h : l.length = 32) : ∃ a0 a1 a2 a3 a4 a5 a6 a7 a8 a9 a10 a11 a12 a13 a14 a15 a16 a17 a18 a19 a20 a21 a22 a23 a24 a25 a26 a27 a28 a29 a30 a31 : Int, l = [a0, a1, a2, a3, a4, a5, a6, a7, a8, a9, a10, a11, a12, a13, a14, a15, a16, a17, a18, a19, a20, a21, a22, a23, a24, a25, a26, a27, a28, a29, a30, a31] := by
 match l, h with
 | [a0, a1, a2, a3, a4, a5, a6, a7, a8, a9, a10, a11, a12, a13, a14, a15, a16, a17, a18, a19, a20, a21, a22, a23, a24, a25, a26, a27, a28, a29, a30, a31], _ => exact ⟨a0, a1, a2, a3, a4, a5, a6, a7, a8, a9, a10, a11, a12, a13, a14, a15, a16, a17, a18, a19, a20, a21, a22, a23, a24, a25, a26, a27, a28, a29, a30, a31, rfl⟩
/-
 Maps with few keys, of the call's own: made, filled, looked up; and calls of method values.
-/
section
variable {P : Program} {ops : Array Oper} {Q : Exit → Act → World → Prop} {n : Sz} {w0 : World} {L L' : List (Nat × Value)} {H : List Ent}
variable {o : Oper} {rest : List Oper} {v u : Value} {x y z : Operand} {t e k : TypeId} {kq : IntKind}
theorem TL.makeMap (hg : Wants n ops L o) (hi : inside n o.dst = true) (ho : o.op = .makeMap t none)
  (hr : ∀ w1 b, w0.heap.size ≤ b → b < w1.heap.size → (∀ e ∈ H, e.g ≠ b) → St w0 H w1 → w1.heap[b]? = some (.map #[] 0) → TL P ops Q n w1 rest (put L o.dst (.map (some b))) H) : TL P ops Q n w0 (o :: rest) L H :=
 fun a w hf hs => wpL_wants hg.nd (hg a hf) fun K hK => by
  have hrun : (execOp a.eval o).run P w = .ok (.value (.map (some w.heap.size))) (w.alloc (.map #[] 0)) := by
   simp only [execOp, ho]
   refine run_value ?_
   simp [Instr.makeMap, newObj, Sem.run_bind, Sem.run]
  have hold : ∀ b, b < w.heap.size → (w.alloc (.map #[] 0)).heap[b]? = w.heap[b]? := fun b hb => Below.heap_alloc w _ b hb
  have hst : St w0 H (w.alloc (.map #[] 0)) := ⟨hs.os, hs.tape, hs.output, by simp; have := hs.size; omega, fun d hd => (hs.has d hd).of_block (hold _ (hs.has d hd).lt),
   fun b hb hne => (hold b (Nat.lt_of_lt_of_le hb hs.size)).trans (hs.old b hb hne), hs.apart⟩
  unfold Oper.wp; rw [hrun]
  exact hK _ _ (hr _ w.heap.size hs.size (by simp) (fun e he => by have := (hs.has e he).lt; omega) hst (heap_alloc_new w _) _ _ (hf.put o.dst _ hi) hst.self)
theorem run_lookupM {w : World} {b c : Nat} {es : Array MapEntry} {q : Int} {ck : Bool} {r : Option (Nat × Value)} {zv : Value} (hM : w.heap[b]? = some (.map es c)) (h1 : P.underlying t = some (.map k e)) (hk : P.underlying k = some (.int kq)) (hzv : (P.info? e).bind (·.zero) = some zv)
  (hfind : Instr.findNow (.int kq) (.int kq q) es.toList 0 = some r) : (Instr.lookup t (.map (some b)) (.int kq q) ck).run P w = .ok (let v := match r with | some (_, u) => u | none => zv; if ck then .tuple #[v, .bool r.isSome] else v) w := by
 cases r with
 | none => simp [Instr.lookup, Sem.run_bind, run_under h1, MapKept.run_getObj_map hM, MapKept.run_checkKey hk (k := .int kq q) (by simp [MapKept.IsKey]), MapKept.run_findKey hk hfind, run_zero hzv]
 | some p => obtain ⟨i, u⟩ := p; simp [Instr.lookup, Sem.run_bind, run_under h1, MapKept.run_getObj_map hM, MapKept.run_checkKey hk (k := .int kq q) (by simp [MapKept.IsKey]), MapKept.run_findKey hk hfind]
theorem Gets.lookYes {b c i : Nat} {es : Array MapEntry} {q : Int} {zv : Value} (hM : w0.heap[b]? = some (.map es c)) (hne : ∀ e ∈ H, e.g ≠ b) (ho : o.op = .lookup t x y true) (h1 : P.underlying t = some (.map k e)) (hk : P.underlying k = some (.int kq)) (hzv : (P.info? e).bind (·.zero) = some zv)
  (hx : ev L x = some (.map (some b))) (hy : ev L y = some (.int kq q)) (hfind : Instr.findNow (.int kq) (.int kq q) es.toList 0 = some (some (i, v))) : Gets P n w0 o L H (.tuple #[v, .bool true]) := fun a w hf hs => by
 have hbm : w.heap[b]? = some (.map es c) := (hs.old b (Array.getElem?_eq_some_iff.1 hM).1 hne).trans hM
 simp only [execOp, ho, hf.eval hx, hf.eval hy]
 refine run_value ?_
 rw [run_lookupM hbm h1 hk hzv hfind]; rfl
theorem Gets.lookNo {b c : Nat} {es : Array MapEntry} {q : Int} {zv : Value} (hM : w0.heap[b]? = some (.map es c)) (hne : ∀ e ∈ H, e.g ≠ b) (ho : o.op = .lookup t x y true) (h1 : P.underlying t = some (.map k e)) (hk : P.underlying k = some (.int kq)) (hzv : (P.info? e).bind (·.zero) = some zv)
  (hx : ev L x = some (.map (some b))) (hy : ev L y = some (.int kq q)) (hfind : Instr.findNow (.int kq) (.int kq q) es.toList 0 = some none) : Gets P n w0 o L H (.tuple #[zv, .bool false]) := fun a w hf hs => by
 have hbm : w.heap[b]? = some (.map es c) := (hs.old b (Array.getElem?_eq_some_iff.1 hM).1 hne).trans hM
 simp only [execOp, ho, hf.eval hx, hf.eval hy]
 refine run_value ?_
 rw [run_lookupM hbm h1 hk hzv hfind]; rfl
theorem find_nil {q : Int} {j : Nat} : Instr.findNow (.int kq) (.int kq q) [] j = some none := rfl
theorem find_yes {q : Int} {j c : Nat} {u : Value} {es : List MapEntry} : Instr.findNow (.int kq) (.int kq q) (⟨.int kq q, u, c⟩ :: es) j = some (some (j, u)) := by
 simp [Instr.findNow, Instr.sameNow]
theorem find_no {q q' : Int} {j c : Nat} {u : Value} {es : List MapEntry} {r : Option (Nat × Value)} (h : q ≠ q') (hr : Instr.findNow (.int kq) (.int kq q) es (j + 1) = some r) : Instr.findNow (.int kq) (.int kq q) (⟨.int kq q', u, c⟩ :: es) j = some r := by
 have hq : (q == q') = false := by simpa using h
 simp [Instr.findNow, Instr.sameNow, hq, hr]
theorem find_is {q q' : Int} {j c : Nat} {u : Value} {es : List MapEntry} (h : q = q') : Instr.findNow (.int kq) (.int kq q) (⟨.int kq q', u, c⟩ :: es) j = some (some (j, u)) := by subst h; exact find_yes
theorem Gets.pairNe {kd : IntKind} {t' : TypeId} {f0 f1 : Field} {a b c d : Int} {k0 k1 : IntKind} (ho : o.op = .binOp .neq t x y t') (h1 : P.underlying t = some (.struct #[f0, f1])) (hn0 : f0.name ≠ "_") (hn1 : f1.name ≠ "_") (ho0 : f0.offset = 0) (ho1 : f1.offset = 1)
  (ht0 : P.underlying f0.type = some (.int k0)) (ht1 : P.underlying f1.type = some (.int k1)) (hsi : P.stoodInHeld t = false) (hgt : P.eqGuardType P.depth t = false)
  (hx : ev L x = some (.agg [int kd a, int kd b].toArray)) (hy : ev L y = some (.agg [int kd c, int kd d].toArray)) : Gets P n w0 o L H (.bool (decide (¬ (a = c ∧ b = d)))) := fun ac w hf hs => by
 simp only [execOp, ho, hf.eval hx, hf.eval hy]
 refine run_value ?_
 have hg := run_eqGuard_agg (P := P) w .neq t x y [int kd a, int kd b].toArray [int kd c, int kd d].toArray hgt
 have hp := fun (ty : TypeId) (kk : IntKind) (l : List Value) (i : Nat) (v : Value) (ht : P.underlying ty = some (.int kk)) (hv : l[i]? = some v) (w : World) => run_part1 (P := P) (cs := l.toArray) (isAgg_no ht rfl) (by simpa using hv) w
 simp only [Sem.run_bind, hg, Result.andThen_ok]
 rw [run_neq_struct, run_equalIn_struct w 9999 t _ _ (by rw [fieldsOf_is h1]; exact h1) hsi, fieldsOf_is h1]
 simp only [Op.eqFields, Sem.run_bind, ne_eq, hn0, hn1, not_false_eq_true, if_true, ho0, ho1,
  hp f0.type k0 [int kd a, int kd b] 0 _ ht0 rfl, hp f0.type k0 [int kd c, int kd d] 0 _ ht0 rfl, hp f1.type k1 [int kd a, int kd b] 1 _ ht1 rfl, hp f1.type k1 [int kd c, int kd d] 1 _ ht1 rfl, Result.andThen_ok]
 have e0 := run_equalIn_int (P := P) w 9998 f0.type kd k0 a c ht0
 have e1 := run_equalIn_int (P := P) w 9998 f1.type kd k1 b d ht1
 rw [show (9998 + 1) = 9999 from rfl] at e0 e1
 have q1 := hp f1.type k1 [int kd a, int kd b] 1 _ ht1 rfl
 have q2 := hp f1.type k1 [int kd c, int kd d] 1 _ ht1 rfl
 rw [e0]
 by_cases hac : a = c
 ·subst hac
  simp only [beq_self_eq_true, Result.andThen_ok, Bool.not_true, Bool.false_eq_true, if_false, Sem.run_bind, q1, q2]
  rw [e1]
  by_cases hbd : b = d
  ·subst hbd
   simp only [beq_self_eq_true, Result.andThen_ok, Bool.not_true, Bool.false_eq_true, if_false, Sem.run_pure]
   simp
  ·have : (b == d) = false := by simpa using hbd
   simp [this, hbd]
 ·have : (a == c) = false := by simpa using hac
  simp [this, hac]
end
/-
 A range over a function whose rounds take two values and whose invariant is a fact about the world; and the same where the rounds make blocks of their own.
-/
section
variable {P : Program} {ops : Array Oper} {Q : Exit → Act → World → Prop} {n : Sz} {w0 v W w : World} {L L' : List (Nat × Value)} {H A B HC X : List Ent} {o : Oper} {rest : List Oper} {ex : Exit}
def RoundM (sz : Nat) (Ks : Nat → Prop) (v : World) (M1 : World → Prop) : Exit → Act → World → Prop
 | .normal, _, W => M1 W ∧ Holds Ks v W ∧ sz ≤ W.heap.size
 | _, _, _ => False
def AsgM (n : Sz) (La : List (Nat × Value)) (v : World) : Act → World → Prop := fun a W => Fr n La a ∧ St v [] W
theorem TE.asg {La : List (Nat × Value)} (hs : Sub La L) : TE (Exit.then (AsgM n La v) (fun _ _ _ => False)) .normal n v L [] := fun a w hf hst => ⟨hf.sub hs, hst⟩
theorem TC.rangeM {g : Operand} {p1 p2 : Tmp} {assign body : Code} {gf : FuncId} {lb : List Value} {V1 V2 : Nat → Value} {N c : Nat} {Cap : Nat → Prop}
  (hmd : n.md = .plain) (hds : n.ds = []) (hp1 : inside n (some p1) = true) (hp2 : inside n (some p2) = true) (hg : ev L g = some (.func (.func gf) #[] lb.toArray)) (hent : Enters P gf)
  (hit : ∀ w, St w0 H w → IterC Fence.wide 2 P gf lb.toArray (fun i => #[V1 i, V2 i]) N c Cap w)
  (M : Nat → Nat → World → Prop) (La : Nat → List (Nat × Value))
  (h0 : ∀ w, St w0 H w → M w.heap.size 0 w)
  (hM : ∀ lo i A B, w0.heap.size ≤ lo → M lo i A → Beside lo (lo + 2 + c) A B → M lo i B)
  (hcap : ∀ w, St w0 H w → ∀ k, Cap k → k < w.heap.size)
  (hassign : ∀ l i v, i < N → TC P (Exit.then (AsgM ⟨n.size, [], .inn (some l)⟩ (La i) v) (fun _ _ _ => False)) ⟨n.size, [], .inn (some l)⟩ v assign ((p2, V2 i) :: (p1, V1 i) :: L) [])
  (hbody : ∀ l lo i v a, i < N → w0.heap.size ≤ lo → lo + 2 + c ≤ v.heap.size → (∀ k, Cap k → k < lo) → M lo i v → Fr ⟨n.size, [], .inn (some l)⟩ (La i) a →
   wpn (.inn (some l)) P body (RoundM (lo + 2 + c) (fun k => (lo ≤ k ∧ k < lo + 2 + c) ∨ Cap k) v (M lo (i + 1))) a v)
  (hdone : ∀ lo W, w0.heap.size ≤ lo → M lo N W → W.heap[lo]? = some (.deferred (some [])) → TE Q .normal ⟨n.size, [mark lo], .plain⟩ W L []) :
  TC P Q n w0 (.rangeFunc g #[p1, p2] assign body) L H := by
 intro a w hf hs
 have hsz := hs.size
 rw [hmd]
 have frM : ∀ D, Fr ⟨n.size, [mark D], .plain⟩ L { a with defers := { target := .collected D, args := #[] } :: a.defers } := fun D => ⟨by show _ :: a.defers = _; rw [hf.1, hds]; rfl, hf.2⟩
 refine wpIn_wide.1 (wpIn_rangeFunc_it (F := Fence.wide) (n := 3) (w0 := w) rfl (by omega) (gf := gf) (lb := lb.toArray) (hf.eval hg) trivial (fun args w => run_call hent args w) (hit w hs) (Below.refl _ _) (hcap w hs) (fun _ => rfl)
  (fun i W => M w.heap.size i W)
  (fun j i W => False)
  (fun i a W => Fr ⟨n.size, [], .plain⟩ (La i) a ∧ M w.heap.size i W)
  ?hI ?hIx ?hAx (h0 w hs) ?assign ?body ?done ?stop)
 case hI => exact fun i A B h hb => hM _ i A B hsz h hb
 case hIx => exact fun j i A B h _ => h
 case hAx => exact fun i a' A B h hb => ⟨h.1, hM _ i A B hsz h.2 hb⟩
 case assign =>
  rintro l i W hiN hMi hWs
  have hfr : Fr ⟨n.size, [], .inn (some l)⟩ ((p2, V2 i) :: (p1, V1 i) :: L) { tmps := ((#[p1, p2] : Array Tmp).zip #[V1 i, V2 i]).foldl (fun t (p, v) => t.setIfInBounds p v) a.tmps, defers := [] } := by
   have h1 := hf.put (some p1) (V1 i) hp1
   have h := h1.put (some p2) (V2 i) hp2
   refine ⟨rfl, ?_, ?_⟩
   ·simpa [Act.put] using h.2.1
   ·have h3 := h.2.2
    unfold Proofs.YtegddcklbmonfaaGreatDoor.put at h3
    simpa [Act.put] using h3
  have h := hassign l i W hiN _ W hfr (zI W)
  refine wpIn_mono (wpIn_num (F := Fence.wide.inRound l) rfl (m := 2) h) ?_
  intro e a1 W1 hq
  cases e with
  | normal =>
   obtain ⟨hfr1, hst⟩ := hq
   have hbe : Beside w.heap.size (w.heap.size + 2 + c) W W1 := Beside.of_below hst.below
   exact ⟨⟨⟨hfr1.1, hfr1.2⟩, hM _ i W W1 hsz hMi hbe⟩, Keeps.below hst.below⟩
  | _ => exact hq.elim
 case body =>
  rintro l i a1 W hiN ⟨hfr, hMi⟩ hWs
  have h := hbody l w.heap.size i W a1 hiN hsz hWs (hcap w hs) hMi ⟨hfr.1, hfr.2⟩
  refine wpIn_mono (wpIn_num (F := Fence.wide.inRound l) rfl (m := 2) h) ?_
  intro e a2 W2 hq
  cases e with
  | normal => exact ⟨hq.2.1, hq.2.2, hq.1⟩
  | _ => exact hq.elim
 case done =>
  rintro W hMN hD
  exact hdone _ W hsz hMN hD _ W (frM _) (zI W)
 case stop =>
  rintro j i W hiN h hD
  exact h.elim
def cutW (hi : Nat) (v : World) : World := { v with heap := v.heap.extract 0 hi }
theorem cutW_size {hi : Nat} (h : hi ≤ v.heap.size) : (cutW hi v).heap.size = hi := by simp [cutW]; omega
theorem cutW_get {hi k : Nat} (hk : k < hi) (h : hi ≤ v.heap.size) : (cutW hi v).heap[k]? = v.heap[k]? := by
 have h1 : k < v.heap.size := by omega
 unfold cutW
 simp only
 rw [Array.getElem?_extract]
 simp only [Nat.zero_add, Nat.sub_zero]
 rw [if_pos (by omega)]
def RoundX {ι : Type} (B : World) (C1 : ι → Prop) (Hc He : ι → List Ent) : Exit → Act → World → Prop
 | .normal, _, W => ∃ x, C1 x ∧ Fresh B (He x) ∧ St B (Hc x ++ He x) W
 | _, _, _ => False
theorem TE.roundX {ι : Type} {C1 : ι → Prop} {Hc He : ι → List Ent} (x : ι) (hC : C1 x) (hF : Fresh w0 (He x)) (hH : ∀ w, St w0 H w → St w0 (Hc x ++ He x) w) : TE (RoundX w0 C1 Hc He) .normal n w0 L H := fun a w _ hs => ⟨x, hC, hF, hH w hs⟩
theorem TC.rangeX {ι : Type} {g : Operand} {p1 p2 : Tmp} {assign body : Code} {gf : FuncId} {lb : List Value} {V1 V2 : Nat → Value} {N c : Nat} {Cap : Nat → Prop}
  (hmd : n.md = .plain) (hds : n.ds = []) (hp1 : inside n (some p1) = true) (hp2 : inside n (some p2) = true) (hg : ev L g = some (.func (.func gf) #[] lb.toArray)) (hent : Enters P gf)
  (hit : ∀ w, St w0 H w → IterC Fence.wide 2 P gf lb.toArray (fun i => #[V1 i, V2 i]) N c Cap w)
  (C : Nat → Nat → ι → Prop) (Hc He : ι → List Ent) (gs : List Nat) (La : Nat → List (Nat × Value)) (x0 : ι)
  (hgs : ∀ x, (Hc x).map (·.g) = gs) (hCm : ∀ N0 N1 i x, N0 ≤ N1 → C N1 i x → C N0 i x) (hC0 : ∀ N0, w0.heap.size ≤ N0 → C N0 0 x0) (h0 : ∀ w, St w0 H w → St w0 (Hc x0) w) (he0 : He x0 = [])
  (hcap : ∀ w, St w0 H w → ∀ k, Cap k → k < w.heap.size ∧ k ∉ gs)
  (hassign : ∀ l i v, i < N → TC P (Exit.then (AsgM ⟨n.size, [], .inn (some l)⟩ (La i) v) (fun _ _ _ => False)) ⟨n.size, [], .inn (some l)⟩ v assign ((p2, V2 i) :: (p1, V1 i) :: L) [])
  (hbody : ∀ l i x B, i < N → w0.heap.size ≤ B.heap.size → C B.heap.size i x → Fresh B (He x) → St w0 (Hc x) B → TC P (RoundX B (C B.heap.size (i + 1)) Hc He) ⟨n.size, [], .inn (some l)⟩ B body (La i) (Hc x ++ He x))
  (hdone : ∀ lo x B, w0.heap.size ≤ lo → w0.heap.size ≤ B.heap.size → C B.heap.size N x → Fresh B (He x) → St w0 (Hc x) B → B.heap[lo]? = some (.deferred (some [])) → (∀ k ∈ gs, k < lo) → TE Q .normal ⟨n.size, [mark lo], .plain⟩ B L (Hc x ++ He x)) :
  TC P Q n w0 (.rangeFunc g #[p1, p2] assign body) L H := by
 have gsI : ∀ {x : ι} {e : Ent}, e ∈ Hc x → e.g ∈ gs := fun {x e} he => by rw [← hgs x]; exact List.mem_map_of_mem he
 have gsO : ∀ {x : ι} {k : Nat}, k ∈ gs → ∃ e ∈ Hc x, e.g = k := fun {x k} hk => by
  rw [← hgs x] at hk
  obtain ⟨e, he, h⟩ := List.mem_map.1 hk
  exact ⟨e, he, h⟩
 intro a w hf hs
 have hlt : ∀ k ∈ gs, k < w.heap.size := fun k hk => by
  obtain ⟨e, he, h⟩ := gsO (x := x0) hk
  rw [← h]; exact ((h0 w hs).has e he).lt
 have hw0 := hs.size
 refine TC.rangeM (H := []) (w0 := w) (L := L) (V1 := V1) (V2 := V2) (N := N) (c := c) (Cap := Cap) hmd hds hp1 hp2 hg hent (fun w1 h1 => ?it)
  (fun lo i W => ∃ x, C (lo + 2 + c) i x ∧ (∀ e ∈ He x, lo + 2 + c ≤ e.g) ∧ St w0 (Hc x ++ He x) W) La ?h0 ?hM ?hcap hassign ?body ?done a w hf (zI w)
 case it => exact hit w1 (hs.call' h1)
 case h0 =>
  intro w1 h1
  refine ⟨x0, hC0 _ (by have := h1.size; omega), (by rw [he0]; intro e he; cases he), ?_⟩
  rw [he0, List.append_nil]; exact (h0 w hs).call' h1
 case hM =>
  rintro lo i A B hlo ⟨x, h1, h2, h3⟩ hb
  refine ⟨x, h1, h2, h3.besides hb (fun e he => ?_) (by omega)⟩
  rcases List.mem_append.1 he with he | he
  ·have := hlt _ (gsI he); exact .inl (by omega)
  ·exact .inr (h2 e he)
 case hcap => exact fun w1 h1 k hk => (hcap w1 (hs.call' h1) k hk).1
 case body =>
  rintro l lo i v a1 hiN hlo hv hcl ⟨x, h1, h2, h3⟩ hfr
  have hsz := cutW_size hv
  have hF : Fresh (cutW (lo + 2 + c) v) (He x) := fun e he => by rw [hsz]; exact h2 e he
  have hB0 : St w0 (Hc x) (cutW (lo + 2 + c) v) := by
   refine ⟨h3.os, h3.tape, h3.output, by rw [hsz]; omega, fun e he => ?_, fun b hb hne => ?_, (List.pairwise_append.1 h3.apart).1⟩
   ·exact (h3.has e (List.mem_append.2 (.inl he))).of_block (cutW_get (by have := hlt _ (gsI he); omega) hv)
   ·refine (cutW_get (by omega) hv).trans (h3.old b hb fun e he => ?_)
    rcases List.mem_append.1 he with he | he
    ·exact hne e he
    ·have := h2 e he; omega
  have hBv : St (cutW (lo + 2 + c) v) (Hc x ++ He x) v := ⟨rfl, rfl, rfl, by rw [hsz]; exact hv, h3.has, fun b hb _ => (cutW_get (by rw [hsz] at hb; exact hb) hv).symm, h3.apart⟩
  have h := hbody l i x (cutW (lo + 2 + c) v) hiN (by rw [hsz]; omega) (by rw [hsz]; exact h1) hF hB0 a1 v hfr hBv
  refine wpn_mono h ?_
  intro e a2 W2 hq
  cases e with
  | normal =>
   obtain ⟨x', k1, k2, k3⟩ := hq
   rw [hsz] at k1
   have k2' : ∀ e ∈ He x', lo + 2 + c ≤ e.g := fun e he => by have := k2 e he; rw [hsz] at this; exact this
   refine ⟨⟨x', k1, k2', ?_⟩, fun k hk hkv => ?_, by have := k3.size; rw [hsz] at this; exact this⟩
   ·have := St.over (A := Hc x) (HC := []) (by rw [List.append_nil]; exact hB0) k3 (fun _ _ d hd => by cases hd) (fun d hd => by
     obtain ⟨e, he, h⟩ := gsO (x := x') (gsI hd)
     exact .inr ⟨e, List.mem_append.2 (.inl he), h⟩)
    rwa [List.append_nil] at this
   ·have hk2 : k < lo + 2 + c := by
     rcases hk with hk | hk
     ·omega
     ·have := hcl k hk; omega
    refine (k3.old k (by rw [hsz]; exact hk2) fun e he => ?_).trans (cutW_get hk2 hv)
    rcases List.mem_append.1 he with he | he
    ·rcases hk with hk | hk
     ·have := hlt _ (gsI he); omega
     ·intro heq
      exact (hcap w hs k hk).2 (by rw [← heq]; exact gsI he)
    ·have := k2' e he; omega
  | _ => exact hq.elim
 case done =>
  rintro lo W hlo ⟨x, h1, h2, h3⟩ hD
  intro a1 w1 hf1 hs1
  have hloW : lo < W.heap.size := (Array.getElem?_eq_some_iff.1 hD).1
  have hgl : ∀ k ∈ gs, k < lo := fun k hk => by have := hlt k hk; omega
  have hv : lo + 1 ≤ W.heap.size := hloW
  have hsz := cutW_size hv
  have hF : Fresh (cutW (lo + 1) W) (He x) := fun e he => by rw [hsz]; have := h2 e he; omega
  have hB0 : St w0 (Hc x) (cutW (lo + 1) W) := by
   refine ⟨h3.os, h3.tape, h3.output, by rw [hsz]; omega, fun e he => ?_, fun b hb hne => ?_, (List.pairwise_append.1 h3.apart).1⟩
   ·exact (h3.has e (List.mem_append.2 (.inl he))).of_block (cutW_get (by have := hlt _ (gsI he); omega) hv)
   ·refine (cutW_get (by omega) hv).trans (h3.old b hb fun e he => ?_)
    rcases List.mem_append.1 he with he | he
    ·exact hne e he
    ·have := h2 e he; omega
  have h4 := h3.self.call' hs1
  have hBw : St (cutW (lo + 1) W) (Hc x ++ He x) w1 := ⟨h4.os, h4.tape, h4.output, by rw [hsz]; exact Nat.le_trans hv h4.size, h4.has, fun b hb hne => (h4.old b (by rw [hsz] at hb; omega) hne).trans (cutW_get (by rw [hsz] at hb; exact hb) hv).symm, h4.apart⟩
  exact hdone lo x (cutW (lo + 1) W) (by omega) (by rw [hsz]; omega) (hCm _ _ _ _ (by rw [hsz]; omega) h1) hF hB0 ((cutW_get (by omega) hv).trans hD) hgl a1 w1 hf1 hBw
end
/-
 Mathematics of the hashes of blocks: a number with the bytes as its digits, modulo 2^64; and of the smallest offset of a block.
-/
abbrev HB : Int := 11400714819323198485
theorem u64_wrap (x : Int) : IntKind.u64.wrap x = x % 18446744073709551616 := by
 unfold IntKind.wrap
 first | rfl | (simp [IntKind.bits, IntKind.signed]; done) | (simp only []; rfl)
def polyI (l : List Int) : Int := l.foldl (fun h x => h * HB + x) 0
def pwI (k : Nat) : Int := HB ^ k % 18446744073709551616
def hshI (l : List Int) : Int := polyI l % 18446744073709551616
theorem poly_snoc (l : List Int) (x : Int) : polyI (l ++ [x]) = polyI l * HB + x := by simp [polyI, List.foldl_append]
theorem poly_from (l : List Int) : ∀ a : Int, l.foldl (fun h x => h * HB + x) a = a * HB ^ l.length + polyI l := by
 induction l with
 | nil => intro a; simp [polyI]
 | cons x l ih =>
  intro a
  have h0 : polyI (x :: l) = (0 * HB + x) * HB ^ l.length + polyI l := ih (0 * HB + x)
  rw [List.foldl_cons, ih, h0, List.length_cons, Int.pow_succ]
  generalize HB ^ l.length = p
  generalize polyI l = q
  grind
theorem poly_cons (x : Int) (l : List Int) : polyI (x :: l) = x * HB ^ l.length + polyI l := by
 rw [polyI, List.foldl_cons, poly_from]
 simp
theorem hsh_range (l : List Int) : 0 ≤ hshI l ∧ hshI l ≤ 18446744073709551615 := by unfold hshI; omega
theorem hsh_one {x : Int} (h : 0 ≤ x ∧ x ≤ 255) : hshI [x] = x := by
 unfold hshI polyI
 simp only [List.foldl_cons, List.foldl_nil]
 omega
theorem pw_zero : pwI 0 = 1 := by decide
theorem hsh_snoc (l : List Int) (x : Int) : addW .u64 (mulW .u64 (hshI l) HB) x = hshI (l ++ [x]) := by
 unfold addW mulW hshI
 rw [u64_wrap, u64_wrap, poly_snoc]
 rw [Int.emod_add_emod, Int.add_emod, Int.mul_emod (polyI l % _) HB, Int.emod_emod, ← Int.mul_emod, ← Int.add_emod]
theorem pw_succ (k : Nat) : mulW .u64 (pwI k) HB = pwI (k + 1) := by
 unfold mulW pwI
 rw [u64_wrap, Int.pow_succ, Int.mul_emod (HB ^ k % _) HB, Int.emod_emod, ← Int.mul_emod]
theorem hsh_roll (a : Int) (l : List Int) (x : Int) {k : Nat} (hk : l.length = k) : addW .u64 (mulW .u64 (subW .u64 (hshI (a :: l)) (mulW .u64 a (pwI k))) HB) x = hshI (l ++ [x]) := by
 have h1 : subW .u64 (hshI (a :: l)) (mulW .u64 a (pwI k)) = hshI l := by
  unfold subW mulW hshI pwI
  rw [u64_wrap, u64_wrap, poly_cons, hk]
  rw [Int.mul_emod a (HB ^ k % _), Int.emod_emod, ← Int.mul_emod, Int.sub_emod, Int.emod_emod, Int.emod_emod, ← Int.sub_emod]
  congr 1
  omega
 rw [h1, hsh_snoc]
def blkI (B : List Int) (s k : Nat) : List Int := (B.drop k).take s
theorem blk_len {B : List Int} {s k : Nat} (h : k + s ≤ B.length) : (blkI B s k).length = s := by
 unfold blkI; rw [List.length_take, List.length_drop]; omega
theorem blk_cons {B : List Int} {s k : Nat} (h : k < B.length) (hs : 0 < s) : blkI B s k = B.getD k 0 :: (B.drop (k + 1)).take (s - 1) := by
 unfold blkI
 obtain ⟨t, rfl⟩ : ∃ t, s = t + 1 := ⟨s - 1, by omega⟩
 rw [List.drop_eq_getElem_cons h, List.take_succ_cons, getD_in h]; rfl
theorem blk_snoc {B : List Int} {s k : Nat} (h : k + s < B.length) (hs : 0 < s) : blkI B s (k + 1) = (B.drop (k + 1)).take (s - 1) ++ [B.getD (k + s) 0] := by
 unfold blkI
 obtain ⟨t, rfl⟩ : ∃ t, s = t + 1 := ⟨s - 1, by omega⟩
 have ht : t < (B.drop (k + 1)).length := by rw [List.length_drop]; omega
 rw [List.take_succ_eq_append_getElem ht, List.getElem_drop, getD_in h]
 simp only [Nat.add_sub_cancel]
 congr 2
 simp only [Nat.add_right_comm, Nat.add_assoc]
theorem hsh_next {B : List Int} {s k : Nat} (h : k + s < B.length) (hs : 0 < s) : addW .u64 (mulW .u64 (subW .u64 (hshI (blkI B s k)) (mulW .u64 (B.getD k 0) (pwI (s - 1)))) HB) (B.getD (k + s) 0) = hshI (blkI B s (k + 1)) := by
 rw [blk_cons (by omega) hs, blk_snoc h hs]
 refine hsh_roll _ _ _ ?_
 rw [List.length_take, List.length_drop]; omega
theorem hsh_first {B : List Int} {i : Nat} (h : i < B.length) : addW .u64 (mulW .u64 (hshI (B.take i)) HB) (B.getD i 0) = hshI (B.take (i + 1)) := by
 rw [hsh_snoc, List.take_succ_eq_append_getElem h, getD_in h]
theorem hsh_zero {B : List Int} (hB : Bytes B) (h : 0 < B.length) : hshI (B.take 1) = B.getD 0 0 := by
 rw [List.take_succ_eq_append_getElem h, List.take_zero, List.nil_append, hsh_one (hB _ (List.getElem_mem h)), getD_in h]
def cntH (n : Nat) (k : Int) : Nat := if k < 1 ∨ (n : Int) < k then 0 else n - k.toNat + 1
theorem cntH_no {n : Nat} {k : Int} (h : k < 1 ∨ (n : Int) < k) : cntH n k = 0 := if_pos h
theorem cntH_yes {n s : Nat} (h1 : 1 ≤ s) (h2 : s ≤ n) : cntH n (s : Int) = n - s + 1 := by
 unfold cntH; rw [if_neg (by omega), Int.toNat_natCast]
theorem cntH_lt {n i : Nat} {k : Int} (h : i < cntH n k) : 1 ≤ k ∧ i + k ≤ n := by
 unfold cntH at h
 split at h
 ·omega
 ·omega
theorem eqN_blk {a b : List Int} {s : Nat} (hb : s ≤ b.length) (ha : s ≤ a.length) : s ≤ eqN a b ↔ a.take s = b.take s := by
 constructor
 ·intro h
  have h1 := congrArg (List.take s) (eqN_take a b)
  rw [List.take_take, List.take_take, Nat.min_eq_left h] at h1
  exact h1
 ·intro h
  apply Classical.byContradiction
  intro hlt
  have h2 : eqN a b < s := by omega
  have e1 : a.getD (eqN a b) 0 = b.getD (eqN a b) 0 := by
   rw [getD_in (by omega), getD_in (by omega)]
   have h3 := congrArg (fun l : List Int => l[eqN a b]?) h
   simp only [List.getElem?_take, if_pos h2] at h3
   rw [List.getElem?_eq_getElem (by omega), List.getElem?_eq_getElem (by omega)] at h3
   exact Option.some.inj h3
  have h4 : ∀ n, n ≤ eqN a b → eqN a b = n + eqN (a.drop n) (b.drop n) := by
   intro n
   induction n with
   | zero => intro _; simp
   | succ n ih =>
    intro hn
    have h5 := ih (by omega)
    have e2 : a.getD n 0 = b.getD n 0 := by
     rw [getD_in (by omega), getD_in (by omega)]
     have h6 := congrArg (fun l : List Int => l[n]?) (eqN_take a b)
     simp only [List.getElem?_take, if_pos (show n < eqN a b by omega)] at h6
     rw [List.getElem?_eq_getElem (by omega), List.getElem?_eq_getElem (by omega)] at h6
     exact Option.some.inj h6
    rw [eqN_yes (by omega) (by omega) e2] at h5
    omega
  have h7 := h4 (eqN a b) (Nat.le_refl _)
  rw [eqN_yes (by omega) (by omega) e1] at h7
  omega
/-
 The first offset of a hash; a map from hashes to first offsets; the smallest offset of a block by way of them.
-/
def firstH (B : List Int) (s k : Nat) (q : Int) : Option Nat := (List.range k).find? fun off => decide (hshI (blkI B s off) = q)
theorem firstH_succ (B : List Int) (s k : Nat) (q : Int) : firstH B s (k + 1) q = (firstH B s k q).or (if hshI (blkI B s k) = q then some k else none) := by
 unfold firstH
 rw [List.range_succ, List.find?_append]
 congr 1
 by_cases h : hshI (blkI B s k) = q
 ·rw [if_pos h]; simp [h]
 ·rw [if_neg h]; simp [h]
theorem firstH_some {B : List Int} {s k off : Nat} {q : Int} (h : firstH B s k q = some off) : off < k ∧ hshI (blkI B s off) = q ∧ ∀ j, j < off → ¬ hshI (blkI B s j) = q := by
 unfold firstH at h
 rw [List.find?_range_eq_some] at h
 obtain ⟨h1, h2, h3⟩ := h
 exact ⟨List.mem_range.1 h2, by simpa using h1, fun j hj => by simpa using h3 j hj⟩
theorem firstH_none {B : List Int} {s k : Nat} {q : Int} (h : firstH B s k q = none) : ∀ j, j < k → ¬ hshI (blkI B s j) = q := by
 unfold firstH at h
 rw [List.find?_range_eq_none] at h
 exact fun j hj => by simpa using h j hj
theorem findNow_app {kq : IntKind} {q : Int} : ∀ {es : List MapEntry} {fs : List MapEntry} {j : Nat}, (∀ e ∈ es, ∃ z : Int, e.key = .int kq z) →
  Instr.findNow (.int kq) (.int kq q) (es ++ fs) j = (match Instr.findNow (.int kq) (.int kq q) es j with
   | some none => Instr.findNow (.int kq) (.int kq q) fs (j + es.length)
   | r => r)
 | [], fs, j, _ => by simp [Instr.findNow]
 | e :: es, fs, j, he => by
  obtain ⟨z, hz⟩ := he e List.mem_cons_self
  obtain ⟨ek, ev, ec⟩ := e
  dsimp only at hz
  subst hz
  have ih := findNow_app (kq := kq) (q := q) (es := es) (fs := fs) (j := j + 1) (fun e h => he e (List.mem_cons_of_mem _ h))
  by_cases h : q = z
  ·subst h
   rw [List.cons_append, find_yes, find_yes]
  ·have hq : (q == z) = false := by simpa using h
   have e1 : ∀ l : List MapEntry, Instr.findNow (.int kq) (.int kq q) (⟨.int kq z, ev, ec⟩ :: l) j = Instr.findNow (.int kq) (.int kq q) l (j + 1) := fun l => by simp [Instr.findNow, Instr.sameNow, hq]
   rw [List.cons_append, e1, e1, ih, List.length_cons]
   rw [show j + 1 + es.length = j + (es.length + 1) by omega]
def MapE (es : Array MapEntry) (B : List Int) (s k : Nat) : Prop := (∀ e ∈ es.toList, ∃ z : Int, e.key = .int .u64 z) ∧ ∀ q : Int, ∃ j, Instr.findNow (.int .u64) (.int .u64 q) es.toList 0 = some ((firstH B s k q).map fun off => (j, int .i64 (off : Int)))
theorem MapE.zero (B : List Int) (s : Nat) : MapE #[] B s 0 := ⟨by simp, fun q => ⟨0, rfl⟩⟩
theorem MapE.same {es : Array MapEntry} {B : List Int} {s k : Nat} (h : MapE es B s k) (hf : firstH B s k (hshI (blkI B s k)) ≠ none) : MapE es B s (k + 1) := by
 refine ⟨h.1, fun q => ?_⟩
 obtain ⟨j, hj⟩ := h.2 q
 refine ⟨j, ?_⟩
 rw [hj, firstH_succ]
 by_cases hq : hshI (blkI B s k) = q
 ·subst hq
  cases hx : firstH B s k (hshI (blkI B s k)) with
  | none => exact absurd hx hf
  | some o => rfl
 ·rw [if_neg hq, Option.or_none]
theorem MapE.push {es : Array MapEntry} {B : List Int} {s k c : Nat} (h : MapE es B s k) (hf : firstH B s k (hshI (blkI B s k)) = none) : MapE (es.push ⟨.int .u64 (hshI (blkI B s k)), .int .i64 (k : Int), c⟩) B s (k + 1) := by
 refine ⟨fun e he => ?_, fun q => ?_⟩
 ·rw [Array.toList_push] at he
  rcases List.mem_append.1 he with he | he
  ·exact h.1 e he
  ·rw [List.mem_singleton.1 he]; exact ⟨_, rfl⟩
 ·obtain ⟨j, hj⟩ := h.2 q
  rw [Array.toList_push, findNow_app h.1, hj, firstH_succ]
  cases hx : firstH B s k q with
  | some o => exact ⟨j, rfl⟩
  | none =>
   refine ⟨0 + es.toList.length, ?_⟩
   simp only [Option.map_none, Option.none_or]
   by_cases hq : hshI (blkI B s k) = q
   ·rw [if_pos hq, find_is hq.symm]; rfl
   ·rw [if_neg hq]; exact find_no (fun e => hq e.symm) find_nil
def MapAt (w : World) (b : Nat) (B : List Int) (s k : Nat) : Prop := ∃ es c, w.heap[b]? = some (.map es c) ∧ MapE es B s k
theorem MapAt.lt {w : World} {b : Nat} {B : List Int} {s k : Nat} (h : MapAt w b B s k) : b < w.heap.size := by
 obtain ⟨es, c, h, _⟩ := h
 exact (Array.getElem?_eq_some_iff.1 h).1
theorem MapAt.of_block {w w' : World} {b : Nat} {B : List Int} {s k : Nat} (h : MapAt w b B s k) (hb : w'.heap[b]? = w.heap[b]?) : MapAt w' b B s k := by
 obtain ⟨es, c, h, hm⟩ := h
 exact ⟨es, c, hb.trans h, hm⟩
theorem MapAt.at_ {w0 w : World} {H : List Ent} {b : Nat} {B : List Int} {s k : Nat} (h : MapAt w0 b B s k) (hs : St w0 H w) (hne : ∀ e ∈ H, e.g ≠ b) : MapAt w b B s k := h.of_block (hs.old b h.lt hne)
theorem bytesOf_inj : ∀ {a b : List Int}, Bytes a → Bytes b → Lib.bytesOf a = Lib.bytesOf b → a = b
 | [], [], _, _, _ => rfl
 | [], y :: b, _, _, h => by simp [Lib.bytesOf] at h
 | x :: a, [], _, _, h => by simp [Lib.bytesOf] at h
 | x :: a, y :: b, ha, hb, h => by
  simp only [Lib.bytesOf, List.map_cons, List.cons.injEq] at h
  have hx := ha x List.mem_cons_self
  have hy := hb y List.mem_cons_self
  have h1 := congrArg UInt8.toNat h.1
  rw [UInt8.toNat_ofNat', UInt8.toNat_ofNat'] at h1
  have h2 : x = y := by omega
  rw [h2, bytesOf_inj (fun z hz => ha z (List.mem_cons_of_mem _ hz)) (fun z hz => hb z (List.mem_cons_of_mem _ hz)) h.2]
theorem Bytes.drop' {l : List Int} (h : Bytes l) (k : Nat) : Bytes (l.drop k) := fun x hx => h x (List.mem_of_mem_drop hx)
theorem Bytes.take' {l : List Int} (h : Bytes l) (k : Nat) : Bytes (l.take k) := fun x hx => h x (List.mem_of_mem_take hx)
theorem occAt_is {F P : List Int} (hF : Bytes F) (hP : Bytes P) (j : Nat) : Lib.occAt (Lib.bytesOf F) (Lib.bytesOf P) j = true ↔ (F.drop j).take P.length = P := by
 unfold Lib.occAt
 rw [← Lib.bytesOf_drop, List.isPrefixOf_iff_prefix, List.prefix_iff_eq_take, Lib.bytesOf_length, ← Lib.bytesOf_take]
 constructor
 ·intro h
  exact (bytesOf_inj hP ((hF.drop' j).take' _) h).symm
 ·intro h
  rw [h]
theorem occ_eqN {F P : List Int} {j : Nat} (hj : j + P.length ≤ F.length) : ((F.drop j).take P.length = P ↔ (P.length : Int) ≤ eqN (F.drop j) P) := by
 have h := eqN_blk (a := F.drop j) (b := P) (s := P.length) (Nat.le_refl _) (by rw [List.length_drop]; omega)
 rw [List.take_length] at h
 constructor
 ·intro h1; exact Int.ofNat_le.2 (h.2 h1)
 ·intro h1; exact h.1 (Int.ofNat_le.1 h1)
theorem occ_room {F P : List Int} {j : Nat} (hp : P ≠ []) (h : (F.drop j).take P.length = P) : j + P.length ≤ F.length := by
 have h1 := congrArg List.length h
 rw [List.length_take, List.length_drop] at h1
 have h2 : P.length ≠ 0 := fun e => hp (List.length_eq_zero_iff.1 e)
 omega
theorem match_no {F P : List Int} {s : Nat} (hs : 1 ≤ s) (hP : P.length = s) (h : firstH F s (cntH F.length s) (hshI P) = none) : matchI F P (s : Int) = none := by
 by_cases hl : F.length < s
 ·exact matchI_none (q := 0) (by omega) (fun q' hq => absurd hq (Nat.not_lt_zero q'))
 ·rw [cntH_yes hs (by omega)] at h
  refine matchI_none (q := F.length - s + 1) (by omega) (fun q' hq hle => ?_)
  have h2 := firstH_none h q' hq
  apply h2
  have h3 := (occ_eqN (F := F) (P := P) (j := q') (by omega)).2 (by rw [hP]; exact hle)
  rw [hP] at h3
  unfold blkI; rw [h3]
theorem match_from {F P : List Int} {s off : Nat} (hs : 1 ≤ s) (hP : P.length = s) (hF : Bytes F) (hPb : Bytes P) (h : firstH F s (cntH F.length s) (hshI P) = some off) :
  off + s ≤ F.length ∧ ((Lib.index (Lib.bytesOf (F.drop off)) (Lib.bytesOf P) < 0 ∧ matchI F P (s : Int) = none) ∨ ∃ i : Nat, Lib.index (Lib.bytesOf (F.drop off)) (Lib.bytesOf P) = i ∧ matchI F P (s : Int) = some (off + i) ∧ off + i ≤ F.length) := by
 obtain ⟨h1, h2, h3⟩ := firstH_some h
 have hl : s ≤ F.length := by
  apply Classical.byContradiction
  intro hn
  rw [cntH_no (by omega)] at h1; omega
 rw [cntH_yes hs hl] at h1
 have hne : P ≠ [] := fun e => by rw [e] at hP; simp at hP; omega
 have hbef : ∀ q' : Nat, q' < off → ¬ (s : Int) ≤ (eqN (F.drop q') P : Int) := fun q' hq hle => by
  apply h3 q' hq
  have h4 := (occ_eqN (F := F) (P := P) (j := q') (by omega)).2 (by rw [hP]; exact hle)
  rw [hP] at h4
  unfold blkI; rw [h4]
 refine ⟨by omega, ?_⟩
 rcases Lib.index_spec (Lib.bytesOf (F.drop off)) (Lib.bytesOf P) with ⟨e1, e2⟩ | ⟨i, e1, e2, e3, e4⟩
 ·left
  refine ⟨by omega, matchI_none (q := F.length - s + 1) (by omega) fun q' hq hle => ?_⟩
  by_cases hqo : q' < off
  ·exact hbef q' hqo hle
  ·have h4 := (occ_eqN (F := F) (P := P) (j := q') (by omega)).2 (by rw [hP]; exact hle)
   have h5 := e2 (q' - off) (by rw [Lib.bytesOf_length, List.length_drop]; omega)
   have h6 := (occAt_is (hF.drop' off) hPb (q' - off)).2 (by rw [List.drop_drop, show off + (q' - off) = q' by omega]; exact h4)
   rw [h5] at h6; cases h6
 ·right
  have h4 := (occAt_is (hF.drop' off) hPb i).1 e3
  have h5 := occ_room hne h4
  rw [List.length_drop] at h5
  rw [List.drop_drop] at h4
  have h6 := (occ_eqN (F := F) (P := P) (j := off + i) (by omega)).1 h4
  refine ⟨i, e1, matchI_some (by omega) (by rw [hP] at h6; exact h6) (fun q' hq hle => ?_), by omega⟩
  by_cases hqo : q' < off
  ·exact hbef q' hqo hle
  ·have h7 := (occ_eqN (F := F) (P := P) (j := q') (by omega)).2 (by rw [hP]; exact hle)
   have h8 := e4 (q' - off) (by omega)
   have h9 := (occAt_is (hF.drop' off) hPb (q' - off)).2 (by rw [List.drop_drop, show off + (q' - off) = q' by omega]; exact h7)
   rw [h8] at h9; cases h9
theorem match_blk {F Q : List Int} {s p : Nat} (hs : 1 ≤ s) (hp : p + s ≤ Q.length) : matchI F (blkI Q s p) (s : Int) = matchI F (Q.drop p) (s : Int) := by
 have hlen : (blkI Q s p).length = s := blk_len hp
 have key : ∀ q : Nat, (decide ((s : Int) ≤ eqN (F.drop q) (blkI Q s p))) = decide ((s : Int) ≤ eqN (F.drop q) (Q.drop p)) := fun q => by
  apply decide_eq_decide.2
  by_cases ha : s ≤ (F.drop q).length
  ·have h1 := eqN_blk (a := F.drop q) (b := blkI Q s p) (s := s) (by omega) ha
   have h2 := eqN_blk (a := F.drop q) (b := Q.drop p) (s := s) (by rw [List.length_drop]; omega) ha
   have h3 : (blkI Q s p).take s = (Q.drop p).take s := by unfold blkI; rw [List.take_take, Nat.min_self]
   rw [h3] at h1
   constructor
   ·intro h; exact Int.ofNat_le.2 (h2.2 (h1.1 (Int.ofNat_le.1 h)))
   ·intro h; exact Int.ofNat_le.2 (h1.2 (h2.1 (Int.ofNat_le.1 h)))
  ·have h1 := (eqN_le (F.drop q) (blkI Q s p)).1
   have h2 := (eqN_le (F.drop q) (Q.drop p)).1
   constructor <;> intro h <;> omega
 unfold matchI
 rw [if_neg (by rw [hlen]; omega), if_neg (by rw [List.length_drop]; omega)]
 congr 1
 funext q
 exact key q
/-
 The iterator over blocks and their hashes: what it has captured, what a round of it leaves.
-/
structure CapB (w : World) (ps pb b ob m c s : Nat) (B : List Int) : Prop where
 fs : w.cell? ⟨ps, 0, none⟩ = some (.int .i64 (s : Int))
 fx : w.cell? ⟨pb, 0, none⟩ = some (.slice (some ⟨b, ob, none⟩) m c)
 fr : RowI w b ob m .u8 B
 h1 : ps < w.heap.size
 h2 : pb < w.heap.size
 h3 : b < w.heap.size
def capB (ps pb b : Nat) (k : Nat) : Prop := k = ps ∨ k = pb ∨ k = b
section
variable {P : Program} {w0 v w w' W : World} {ps pb b ob m c s : Nat} {B : List Int} {H : List Ent}
theorem CapB.lt (h : CapB w ps pb b ob m c s B) {k : Nat} (hk : capB ps pb b k) : k < w.heap.size := by
 rcases hk with rfl | rfl | rfl
 ·exact h.h1
 ·exact h.h2
 ·exact h.h3
theorem rowI_of_block {w w' : World} {b o n : Nat} {kd : IntKind} {B : List Int} (h : RowI w b o n kd B) (hb : w'.heap[b]? = w.heap[b]?) : RowI w' b o n kd B := fun j hj => (World.cell?_of_block (w := w) hb).trans (h j hj)
theorem CapB.keepL (h : CapB w ps pb b ob m c s B) (hk : ∀ k, capB ps pb b k → w'.heap[k]? = w.heap[k]?) (hl : ∀ k, capB ps pb b k → k < w'.heap.size) : CapB w' ps pb b ob m c s B :=
 ⟨(World.cell?_of_block (w := w) (hk ps (.inl rfl))).trans h.fs, (World.cell?_of_block (w := w) (hk pb (.inr (.inl rfl)))).trans h.fx, rowI_of_block h.fr (hk b (.inr (.inr rfl))), hl _ (.inl rfl), hl _ (.inr (.inl rfl)), hl _ (.inr (.inr rfl))⟩
theorem CapB.at_ (h : CapB w0 ps pb b ob m c s B) (hs : St w0 H w) (hne : ∀ b, b < w0.heap.size → ∀ e ∈ H, e.g ≠ b) : CapB w ps pb b ob m c s B :=
 h.keepL (fun k hk => hs.old k (h.lt hk) (hne k (h.lt hk))) (fun k hk => Nat.lt_of_lt_of_le (h.lt hk) hs.size)
theorem CapB.bel (h : CapB w0 ps pb b ob m c s B) (hb : Below w0.heap.size w0 w) : CapB w ps pb b ob m c s B :=
 h.keepL (fun k hk => hb.block k (h.lt hk)) (fun k hk => Nat.lt_of_lt_of_le (h.lt hk) hb.size)
theorem h_yield {l : Nat} {J Jx : Nat → World → Prop} {N k : Nat}
  (hJ : ∀ s A B, J s A → Beside W.heap.size (W.heap.size + 0) A B → J s B)
  (hY : ∀ i W1, i < N → J i W1 → W.heap.size + 0 ≤ W1.heap.size → YieldAt Fence.wide (2 - 1) P l #[.int .i64 (i : Int), .int .u64 (hshI (blkI B s i))] W1 fun e W' =>
   (e = .returned (.bool true) ∧ J (i + 1) W' ∧ Holds (fun k => (W.heap.size ≤ k ∧ k < W.heap.size + 0) ∨ capB ps pb b k) W1 W' ∧ W.heap.size + 0 ≤ W'.heap.size) ∨ (e = .returned (.bool false) ∧ Jx (i + 1) W'))
  (hN : k < N) (hj : J k v) (hc : CapB v ps pb b ob m c s B) (hsz : W.heap.size ≤ v.heap.size) (hs : St v H w) (hn : ∀ e ∈ H, v.heap.size ≤ e.g) :
  YieldAt Fence.wide 1 P l #[.int .i64 (k : Int), .int .u64 (hshI (blkI B s k))] w fun e w' => (e = .returned (.bool true) ∧ (J (k + 1) w' ∧ CapB w' ps pb b ob m c s B ∧ W.heap.size ≤ w'.heap.size)) ∨ (e = .returned (.bool false) ∧ Jx (k + 1) w') := by
 have hb := St.beside0 (lo := W.heap.size) hs hn
 have hsw := hs.size
 obtain ⟨fn, tmps, assign, body, h1, h2⟩ := hY k w hN (hJ _ _ _ hj hb) (by omega)
 have hcw : CapB w ps pb b ob m c s B := hc.at_ hs (fun x hx e he => by have := hn e he; omega)
 refine ⟨fn, tmps, assign, body, h1, h2.mono ?_⟩
 rintro e w' (⟨he, hj', hk, hz⟩ | ⟨he, hx⟩)
 ·exact .inl ⟨he, hj', hcw.keepL (fun k hk' => hk k (.inr hk') (hcw.lt hk')) (fun k hk' => hk.lt (.inr hk') (hcw.lt hk')), by omega⟩
 ·exact .inr ⟨he, hx⟩
end
theorem Src.blk {w : World} {ad : Addr} {m : Nat} {kd : IntKind} {B : List Int} (h : Src w (some ad) m kd B) (hm : 0 < m) : ad.block < w.heap.size := by
 rcases h.2 with h | ⟨b, off, hA, hb, _⟩
 ·omega
 ·cases hA; exact hb
theorem min_is {m m2 mn : Nat} (h : mn = min m m2) : (if (m2 : Int) < (m : Int) then (m2 : Int) else (m : Int)) = ((mn : Nat) : Int) := by
 subst h
 split <;> omega
/-
 The code of layer 8: common, hashes, its iterator.
-/
theorem common_c (PA PB : List Int) (A A2 : Option Addr) (m c m2 c2 : Nat) (w : World) (hsA : Src w A m .u8 PA) (hsB : Src w A2 m2 .u8 PB) (hmc : m ≤ c) (hmc2 : m2 ≤ c2) (hcm : c ≤ 9223372036854775807) (hcm2 : c2 ≤ 9223372036854775807) (mn : Nat) (hmn : mn = min m m2) : Calls Tryz.prog 42 #[.slice A m c, .slice A2 m2 c2] w fun e w' => e = .returned (.int .i64 ((eqN PA PB) : Int)) ∧ St w [] w' := by
 have hmn1 : mn ≤ m ∧ mn ≤ m2 ∧ (mn = m ∨ mn = m2) := by omega
 refine qN (args := [.slice A m c, .slice A2 m2 c2]) Tryz.func42 rfl Tryz.ntmps42 (by simp) ?_
 refine qC [0, 1] ?_
 iterate 11 refine gx ?_
 refine qB (qA rfl) rfl (Gets.congr (Gets.min2 rfl rfl rfl) (by rw [min_is hmn])) ?_
 iterate 3 refine gx ?_
 refine qC [0, 1, 4, 5] ?_
 iterate 8 refine gx ?_
 refine qg (ι := Nat) (fun k => [(0, .slice A m c), (1, .slice A2 m2 c2), (5, .int .i64 (mn : Int)), (12, .int .i64 (mn : Int)), (13, .int .i64 (k : Int))]) (fun k => []) (fun k => mn - k) (fun k => k ≤ mn ∧ eqN PA PB = k + eqN (PA.drop (k)) (PB.drop (k))) 0 ⟨Nat.zero_le _, by simp⟩ (qS (i := 0) rfl rfl (by first | omega | (dsimp only; omega) | rfl) (by first | omega | (dsimp only; omega) | rfl) (qS (i := 1) rfl rfl (by first | omega | (dsimp only; omega) | rfl) (by first | omega | (dsimp only; omega) | rfl) (qE (i := 5) rfl (by first | omega | rfl) (qE (i := 12) rfl (by first | omega | rfl) (qE (i := 13) rfl (by first | omega | rfl) (qK)))))) (fun w h => h) (fun k hC0 => ?_)
 obtain ⟨hC0, hE⟩ := hC0
 iterate 6 refine gx ?_
 refine qO rfl (fun hq0 => ?_) (fun hq0 => ?_)
 ·obtain ⟨b, off, hAe, hb, hr⟩ := hsA.2.resolve_left (by omega)
  obtain ⟨b2, off2, hAe2, hb2, hr2⟩ := hsB.2.resolve_left (by omega)
  subst hAe; subst hAe2
  iterate 11 refine gx ?_
  refine qp (by kernel_rfl) [0, 0, 0, 1, 0, 0, 0, 1, 0] rfl (by kernel_rfl) ?_
  iterate 2 refine gx ?_
  refine qH (qA rfl) rfl (fun _ => qU rfl Tryz.underlying22 size5 rfl rfl (i := k) (by omega) (by omega) (off' := (off + k)) (by omega)) ?_
  refine qY (qA rfl) rfl (qJ rfl agg5 rfl (zJ hr (i := k) (by omega) (by omega) hb qF)) ?_
  iterate 2 refine gx ?_
  refine qH (qA rfl) rfl (fun _ => qU rfl Tryz.underlying22 size5 rfl rfl (i := k) (by omega) (by omega) (off' := (off2 + k)) (by omega)) ?_
  refine qY (qA rfl) rfl (qJ rfl agg5 rfl (zJ hr2 (i := k) (by omega) (by omega) hb2 qF)) ?_
  iterate 3 refine gx ?_
  refine qC [0, 1, 5, 6, 12, 13, 24] ?_
  refine qO rfl (fun c3n => ?_) (fun c3n => ?_)
  ·have c3 := c3n
   iterate 12 refine gx ?_
   exact qL rfl rfl (fun w hs => ⟨ret_i (by have l1 := hsA.1; have l2 := hsB.1; have hx := eqN_stop hE (by first | exact .inr ⟨by omega, by omega, c3⟩ | (by_cases hml : mn = m; exact .inl (.inl (by omega)); exact .inl (.inr (by omega)))); omega), hs⟩)
  ·have c3 := Classical.not_not.1 c3n
   iterate 4 refine gx ?_
   refine qB (qA rfl) rfl (qQ rfl rfl rfl (r := ((k : Int) + 1)) (w64 (by omega) (by omega))) ?_
   iterate 2 refine gx ?_
   exact qZ (k + 1) (by omega) ⟨by omega, eqN_go hE (by have := hsA.1; omega) (by have := hsB.1; omega) c3⟩ (qS (i := 0) rfl (by first | rfl | (congr 2; omega)) (by first | omega | (dsimp only; omega) | rfl) (by first | omega | (dsimp only; omega) | rfl) (qS (i := 1) rfl (by first | rfl | (congr 2; omega)) (by first | omega | (dsimp only; omega) | rfl) (by first | omega | (dsimp only; omega) | rfl) (qE (i := 5) rfl (by first | omega | rfl) (qE (i := 12) rfl (by first | omega | rfl) (qE (i := 13) rfl (by first | omega | rfl) (qK)))))) (fun w h => h)
 ·iterate 12 refine gx ?_
  exact qL rfl rfl (fun w hs => ⟨ret_i (by have l1 := hsA.1; have l2 := hsB.1; have hx := eqN_stop hE (by first | exact .inr ⟨by omega, by omega, c3⟩ | (by_cases hml : mn = m; exact .inl (.inl (by omega)); exact .inl (.inr (by omega)))); omega), hs⟩)
theorem hashes_c (A : Option Addr) (m c : Nat) (k : Int) (w : World) : Calls Tryz.prog 41 #[.slice A m c, .int .i64 k] w fun e w' => ∃ y : Nat × Nat, e = .returned (.func (.func 75) #[] #[.pointer (some ⟨y.1, 0, none⟩), .pointer (some ⟨y.2, 0, none⟩)]) ∧ (w.heap.size ≤ y.1 ∧ w.heap.size ≤ y.2) ∧ St w [⟨y.1, 3, [int .i64 k], 1⟩, ⟨y.2, 22, [slice A m c], 1⟩] w' := by
 refine qN (args := [.slice A m c, .int .i64 k]) Tryz.func41 rfl Tryz.ntmps41 (by simp) ?_
 refine qC [0, 1] ?_
 iterate 2 refine gx ?_
 refine TL.bx1 (fun g1 hg1 => ?_)
 refine TL.bx1 (fun g2 hg2 => ?_)
 iterate 5 refine gx ?_
 refine qB (qA rfl) rfl (Gets.makeFunc rfl rfl rfl) ?_
 iterate 4 refine gx ?_
 exact qL rfl rfl (fun w hs => ⟨(g2, g1), rfl, ⟨by assumption, by assumption⟩, hs⟩)
theorem hash_iter (ps pb b ob m c s : Nat) (B : List Int) (hBB : Bytes B) (hBl : B.length = m) (hs1 : 1 ≤ s) (hsm : s ≤ m) (hm : m ≤ 1000000) (hmc : m ≤ c) (hcm : c ≤ 9223372036854775807) (w0 : World) (hc0 : CapB w0 ps pb b ob m c s B) : IterC Fence.wide 2 Tryz.prog 75 #[.pointer (some ⟨ps, 0, none⟩), .pointer (some ⟨pb, 0, none⟩)] (fun i => #[.int .i64 (i : Int), .int .u64 (hshI (blkI B s i))]) (m - s + 1) 0 (capB ps pb b) w0 := by
 intro l J Jx W hW hJ hJx hY hJ0
 have hc : CapB W ps pb b ob m c s B := hc0.bel hW
 show CallsIn Fence.wide 2 Tryz.prog 75 #[.func (.yield l) #[] #[], .pointer (some ⟨ps, 0, none⟩), .pointer (some ⟨pb, 0, none⟩)] W _
 refine callsIn_from (args := [.func (.yield l) #[] #[], .pointer (some ⟨ps, 0, none⟩), .pointer (some ⟨pb, 0, none⟩)]) Tryz.func75 rfl Tryz.ntmps75 (by simp) ?_
 refine qC [0, 1, 2] ?_
 iterate 3 refine gx ?_
 refine qB (qA rfl) rfl (qJ rfl agg3 rfl (qr hc.fs hc.h1 qF)) ?_
 refine qB (qA rfl) rfl (qd (zA rfl rfl rfl) (by omega)) ?_
 refine gx ?_
 refine qB (qM rfl rfl rfl) rfl (qJ rfl agg3 rfl (qr hc.fs hc.h1 qF)) ?_
 refine qB (qM rfl rfl rfl) rfl (qJ rfl agg22 rfl (qr hc.fx hc.h2 qF)) ?_
 refine gx ?_
 refine qB (qM rfl rfl rfl) rfl (qd (zO rfl rfl rfl) (by omega)) ?_
 iterate 3 refine gx ?_
 refine qC [0, 1, 2, 16] ?_
 refine qh rfl ?_
 iterate 3 refine gx ?_
 have hb0 := hBB.get 0
 refine gx ?_
 refine qB (qA rfl) rfl (qJ rfl agg22 rfl (qr hc.fx hc.h2 qF)) ?_
 refine qB (qA rfl) rfl (qU rfl Tryz.underlying22 size5 rfl rfl (i := 0) (by rfl) (by omega) (off' := ob) (by omega)) ?_
 refine qB (qA rfl) rfl (qJ rfl agg5 rfl (zJ hc.fr (i := 0) (by omega) (by omega) hc.h3 qF)) ?_
 refine qB (qA rfl) rfl (zB rfl Tryz.underlying5 Tryz.underlying73 rfl (r := (B.getD 0 0)) (wu64 rfl (by omega))) ?_
 iterate 4 refine gx ?_
 refine qC [0, 1, 2, 4, 5] ?_
 iterate 3 refine gx ?_
 refine qB (qA rfl) rfl (qJ rfl agg22 rfl (qr hc.fx hc.h2 qF)) ?_
 refine qB (qA rfl) rfl (qJ rfl agg3 rfl (qr hc.fs hc.h1 qF)) ?_
 refine qB (qA rfl) rfl (zM rfl Tryz.underlying22 size5 rfl (bnd.at_ (l := 1) rfl rfl) (bnd.at_ (l := s) rfl (by omega)) (by omega) (by omega) rfl (ln := (s - 1)) (cp := (c - 1)) (by omega) (by omega)) ?_
 iterate 4 refine gx ?_
 refine qC [0, 1, 2, 4, 5, 23, 24, 25] ?_
 refine gx ?_
 refine qg (ι := Nat) (fun i => [(0, .func (.yield l) #[] #[]), (1, .pointer (some ⟨ps, 0, none⟩)), (2, .pointer (some ⟨pb, 0, none⟩)), (4, .int .u64 (hshI (B.take (i + 1)))), (5, .int .u64 (pwI i)), (23, .slice (cutA (some ⟨b, ob, none⟩) c 1 1) (s - 1) (c - 1)), (24, .int .i64 ((s : Int) - 1)), (25, .int .i64 (i : Int))]) (fun i => []) (fun i => s - i) (fun i => i + 1 ≤ s) 0 (by omega) (qG (i := 0) rfl (qG (i := 1) rfl (qG (i := 2) rfl (qE (i := 4) rfl ((hsh_zero hBB (by omega)).symm) (qE (i := 5) rfl (pw_zero.symm) (qS (i := 23) rfl rfl (by first | omega | (dsimp only; omega) | rfl) (by first | omega | (dsimp only; omega) | rfl) (qE (i := 24) rfl (by first | omega | rfl) (qE (i := 25) rfl (by first | omega | rfl) (qK))))))))) (fun w h => h) (fun i hC0 => ?_)
 iterate 5 refine gx ?_
 refine qC [0, 1, 2, 4, 5, 23, 24, 25, 26] ?_
 refine gx ?_
 refine qO rfl (fun hq1 => ?_) (fun hq1 => ?_)
 ·have hb1 := hBB.get (i + 1)
  rw [show cutA (some ⟨b, ob, none⟩) c 1 1 = some ⟨b, ob + 1, none⟩ from cut_is (by omega) (by omega)]
  iterate 2 refine gx ?_
  refine qC [0, 1, 2, 4, 5, 23, 24, 25] ?_
  iterate 4 refine gx ?_
  refine qB (qA rfl) rfl (qU rfl Tryz.underlying22 size5 rfl rfl (i := i) (by omega) (by omega) (off' := (ob + i + 1)) (by omega)) ?_
  refine qB (qA rfl) rfl (qJ rfl agg5 rfl (zJ hc.fr (i := (i + 1)) (by omega) (by omega) hc.h3 qF)) ?_
  iterate 3 refine gx ?_
  refine qC [0, 1, 2, 4, 5, 7, 23, 24, 25] ?_
  iterate 3 refine gx ?_
  refine qB (qA rfl) rfl (Gets.mulU rfl rfl rfl) ?_
  refine gx ?_
  refine qB (qA rfl) rfl (zB rfl Tryz.underlying5 Tryz.underlying73 rfl (r := (B.getD (i + 1) 0)) (wu64 rfl (by omega))) ?_
  refine qB (qA rfl) rfl (qo rfl rfl rfl) ?_
  iterate 3 refine gx ?_
  refine qC [0, 1, 2, 4, 5, 23, 24, 25] ?_
  iterate 2 refine gx ?_
  refine qB (qA rfl) rfl (Gets.mulU rfl rfl rfl) ?_
  iterate 4 refine gx ?_
  refine qC [0, 1, 2, 4, 5, 23, 24, 25] ?_
  refine gx ?_
  refine qB (qA rfl) rfl (qQ rfl rfl rfl (r := ((i : Int) + 1)) (w64 (by omega) (by omega))) ?_
  iterate 2 refine gx ?_
  exact qZ (i + 1) (by omega) (by omega) (qG (i := 0) rfl (qG (i := 1) rfl (qG (i := 2) rfl (qE (i := 4) rfl (hsh_first (B := B) (i := i + 1) (by omega)) (qE (i := 5) rfl (pw_succ i) (qS (i := 23) rfl (by first | rfl | (congr 2; omega)) (by first | omega | (dsimp only; omega) | rfl) (by first | omega | (dsimp only; omega) | rfl) (qE (i := 24) rfl (by first | omega | rfl) (qE (i := 25) rfl (by first | omega | rfl) (qK))))))))) (fun w h => h)
 ·iterate 5 refine gx ?_
  refine qC [0, 1, 2, 4, 5] ?_
  iterate 6 refine gx ?_
  refine TC.loopW (ι := Nat × World) (fun y => y.2) (fun y => [(0, .func (.yield l) #[] #[]), (1, .pointer (some ⟨ps, 0, none⟩)), (2, .pointer (some ⟨pb, 0, none⟩)), (4, .int .u64 (hshI (blkI B s y.1))), (5, .int .u64 (pwI (s - 1))), (8, .int .i64 (y.1 : Int))]) (fun y => []) (fun y => m - y.1) (fun y => y.1 < m - s + 1 ∧ J y.1 y.2 ∧ CapB y.2 ps pb b ob m c s B ∧ W.heap.size ≤ y.2.heap.size) (0, W) ⟨by show 0 < m - s + 1; omega, hJ0, hc, Nat.le_refl _⟩ (qG (i := 0) rfl (qG (i := 1) rfl (qG (i := 2) rfl (qE (i := 4) rfl (by rw [show blkI B s (0, W).1 = B.take s from rfl, show i + 1 = s by omega]) (qE (i := 5) rfl (by rw [show s - 1 = i by omega]) (qE (i := 8) rfl rfl (qK))))))) (fun w h => h) (fun y hC1 => ?_)
  obtain ⟨k, v⟩ := y
  obtain ⟨hk, hj, hc, hsz⟩ := hC1
  dsimp only at hk hj hc hsz
  change TC _ _ _ v _ _ _
  iterate 6 refine gx ?_
  refine TL.yield rfl (qA rfl) rfl rfl rfl rfl (T := fun v1 => J (k + 1) v1 ∧ CapB v1 ps pb b ob m c s B ∧ W.heap.size ≤ v1.heap.size) (U := fun v1 => Jx (k + 1) v1) (fun w hs => h_yield hJ hY (by omega) hj hc hsz hs (by intro e he; cases he)) (fun v1 hT => ?_) (fun v1 hU => ?_)
  ·obtain ⟨hj, hc, hsz⟩ := hT
   iterate 2 refine gx ?_
   refine qB (qM rfl rfl rfl) rfl (qJ rfl agg3 rfl (qr hc.fs hc.h1 qF)) ?_
   refine qB (qM rfl rfl rfl) rfl (qQ rfl rfl rfl (r := ((k : Int) + (s : Int))) (w64 (by omega) (by omega))) ?_
   refine qB (qM rfl rfl rfl) rfl (qJ rfl agg22 rfl (qr hc.fx hc.h2 qF)) ?_
   iterate 5 refine gx ?_
   refine qC [0, 1, 2, 4, 5, 8, 48] ?_
   refine qO rfl (fun hq2 => ?_) (fun hq2 => ?_)
   ·have hb2 := hBB.get k
    have hb3 := hBB.get (k + s)
    iterate 4 refine gx ?_
    refine qp (hok := ⟨fun ⟨_, _, h⟩ => (by obtain ⟨⟨_, hv⟩, _⟩ := h; cases hv), by kernel_rfl⟩) (by kernel_rfl) [0, 1, 0, 0, 1, 1, 0, 0, 0, 0, 1, 0, 1, 0, 0, 1, 1, 0, 0] rfl (by kernel_rfl) ?_
    refine gx ?_
    refine qY (qA rfl) rfl (qJ rfl agg22 rfl (qr hc.fx hc.h2 qF)) ?_
    refine gx ?_
    refine qH (qA rfl) rfl (fun _ => qU rfl Tryz.underlying22 size5 rfl rfl (i := k) (by omega) (by omega) (off' := (ob + k)) (by omega)) ?_
    refine qY (qA rfl) rfl (qJ rfl agg5 rfl (zJ hc.fr (i := k) (by omega) (by omega) hc.h3 qF)) ?_
    refine qY (qA rfl) rfl (zB rfl Tryz.underlying5 Tryz.underlying73 rfl (r := (B.getD k 0)) (wu64 rfl (by omega))) ?_
    refine gx ?_
    refine qH (qA rfl) rfl (fun _ => Gets.mulU rfl rfl rfl) ?_
    refine qH (qA rfl) rfl (fun _ => Gets.subU rfl rfl rfl) ?_
    refine qH (qA rfl) rfl (fun _ => Gets.mulU rfl rfl rfl) ?_
    refine qY (qA rfl) rfl (qJ rfl agg22 rfl (qr hc.fx hc.h2 qF)) ?_
    refine gx ?_
    refine qY (qA rfl) rfl (qJ rfl agg3 rfl (qr hc.fs hc.h1 qF)) ?_
    refine qH (qA rfl) rfl (fun _ => qQ rfl rfl rfl (r := ((k : Int) + (s : Int))) (w64 (by omega) (by omega))) ?_
    refine qH (qA rfl) rfl (fun _ => qU rfl Tryz.underlying22 size5 rfl rfl (i := (k + s)) (by omega) (by omega) (off' := (ob + k + s)) (by omega)) ?_
    refine qY (qA rfl) rfl (qJ rfl agg5 rfl (zJ hc.fr (i := (k + s)) (by omega) (by omega) hc.h3 qF)) ?_
    refine qY (qA rfl) rfl (zB rfl Tryz.underlying5 Tryz.underlying73 rfl (r := (B.getD (k + s) 0)) (wu64 rfl (by omega))) ?_
    refine qH (qA rfl) rfl (fun _ => qo rfl rfl rfl) ?_
    iterate 4 refine gx ?_
    refine qC [0, 1, 2, 4, 5, 8] ?_
    iterate 2 refine gx ?_
    refine qB (qA rfl) rfl (qQ rfl rfl rfl (r := ((k : Int) + 1)) (w64 (by omega) (by omega))) ?_
    iterate 2 refine gx ?_
    exact TE.backW (k + 1, v1) (by show m - (k + 1) < m - k; omega) ⟨(by show k + 1 < m - s + 1; omega), hj, hc, hsz⟩ (qG (i := 0) rfl (qG (i := 1) rfl (qG (i := 2) rfl (qE (i := 4) rfl (hsh_next (B := B) (by omega) (by omega)) (qE (i := 5) rfl (by first | rfl | omega) (qE (i := 8) rfl rfl (qK))))))) (fun w h => h)
   ·iterate 4 refine gx ?_
    exact TE.end0 rfl (fun w hs => ⟨⟨_, rfl⟩, .inl (hJ _ _ _ (show J (m - s + 1) v1 from by rw [show m - s + 1 = k + 1 by omega]; exact hj) (St.beside0 hs (by intro e he; cases he)))⟩)
  ·iterate 10 refine gx ?_
   refine qC [0, 1, 2, 4, 5, 8, 48] ?_
   refine qh rfl ?_
   iterate 4 refine gx ?_
   exact TE.end0 rfl (fun w hs => ⟨⟨_, rfl⟩, .inr ⟨k, by omega, hJx _ _ _ hU (St.beside0 hs (by intro e he; cases he))⟩⟩)
theorem hash_iterN0 (ps pb : Nat) (A : Option Addr) (m c : Nat) (k : Int) (enc : Nat → Array Value) (Cap : Nat → Prop) (hm : m ≤ 1000000) (hk : k < 1) (w0 : World) (hcs0 : w0.cell? ⟨ps, 0, none⟩ = some (.int .i64 k)) (hcb0 : w0.cell? ⟨pb, 0, none⟩ = some (.slice A m c)) (hpl0 : ps < w0.heap.size) (hbl0 : pb < w0.heap.size) : IterC Fence.wide 2 Tryz.prog 75 #[.pointer (some ⟨ps, 0, none⟩), .pointer (some ⟨pb, 0, none⟩)] enc 0 0 Cap w0 := by
 intro l J Jx W hW hJ hJx hY hJ0
 have hcs := (World.cell?_of_block (w := w0) (hW.block ps hpl0)).trans hcs0
 have hcb := (World.cell?_of_block (w := w0) (hW.block pb hbl0)).trans hcb0
 have hpl := Nat.lt_of_lt_of_le hpl0 hW.size
 have hbl := Nat.lt_of_lt_of_le hbl0 hW.size
 show CallsIn Fence.wide 2 Tryz.prog 75 #[.func (.yield l) #[] #[], .pointer (some ⟨ps, 0, none⟩), .pointer (some ⟨pb, 0, none⟩)] W _
 refine callsIn_from (args := [.func (.yield l) #[] #[], .pointer (some ⟨ps, 0, none⟩), .pointer (some ⟨pb, 0, none⟩)]) Tryz.func75 rfl Tryz.ntmps75 (by simp) ?_
 refine qC [0, 1, 2] ?_
 iterate 3 refine gx ?_
 refine qB (qA rfl) rfl (qJ rfl agg3 rfl (qr hcs hpl qF)) ?_
 refine qB (qA rfl) rfl (qc (zA rfl rfl rfl) hk) ?_
 iterate 8 refine gx ?_
 refine qC [0, 1, 2, 16] ?_
 refine qj rfl ?_
 iterate 2 refine gx ?_
 exact TE.ret0 rfl (fun w hs => ⟨⟨_, rfl⟩, .inl (hJ _ _ _ hJ0 (St.beside0 hs (by intro e he; cases he)))⟩)
theorem hash_iterN1 (ps pb : Nat) (A : Option Addr) (m c : Nat) (k : Int) (enc : Nat → Array Value) (Cap : Nat → Prop) (hm : m ≤ 1000000) (hk0 : ¬ k < 1) (hk : (m : Int) < k) (w0 : World) (hcs0 : w0.cell? ⟨ps, 0, none⟩ = some (.int .i64 k)) (hcb0 : w0.cell? ⟨pb, 0, none⟩ = some (.slice A m c)) (hpl0 : ps < w0.heap.size) (hbl0 : pb < w0.heap.size) : IterC Fence.wide 2 Tryz.prog 75 #[.pointer (some ⟨ps, 0, none⟩), .pointer (some ⟨pb, 0, none⟩)] enc 0 0 Cap w0 := by
 intro l J Jx W hW hJ hJx hY hJ0
 have hcs := (World.cell?_of_block (w := w0) (hW.block ps hpl0)).trans hcs0
 have hcb := (World.cell?_of_block (w := w0) (hW.block pb hbl0)).trans hcb0
 have hpl := Nat.lt_of_lt_of_le hpl0 hW.size
 have hbl := Nat.lt_of_lt_of_le hbl0 hW.size
 show CallsIn Fence.wide 2 Tryz.prog 75 #[.func (.yield l) #[] #[], .pointer (some ⟨ps, 0, none⟩), .pointer (some ⟨pb, 0, none⟩)] W _
 refine callsIn_from (args := [.func (.yield l) #[] #[], .pointer (some ⟨ps, 0, none⟩), .pointer (some ⟨pb, 0, none⟩)]) Tryz.func75 rfl Tryz.ntmps75 (by simp) ?_
 refine qC [0, 1, 2] ?_
 iterate 3 refine gx ?_
 refine qB (qA rfl) rfl (qJ rfl agg3 rfl (qr hcs hpl qF)) ?_
 refine qB (qA rfl) rfl (qd (zA rfl rfl rfl) hk0) ?_
 refine gx ?_
 refine qB (qM rfl rfl rfl) rfl (qJ rfl agg3 rfl (qr hcs hpl qF)) ?_
 refine qB (qM rfl rfl rfl) rfl (qJ rfl agg22 rfl (qr hcb hbl qF)) ?_
 refine gx ?_
 refine qB (qM rfl rfl rfl) rfl (qc (zO rfl rfl rfl) hk) ?_
 iterate 3 refine gx ?_
 refine qC [0, 1, 2, 16] ?_
 refine qj rfl ?_
 iterate 2 refine gx ?_
 exact TE.ret0 rfl (fun w hs => ⟨⟨_, rfl⟩, .inl (hJ _ _ _ hJ0 (St.beside0 hs (by intro e he; cases he)))⟩)
/-
 What the making of a delta asks of the engine: calls through function values in regions that draw their order, calls behind which the base world moves, a map that is written in the rounds of a range over a function, appends onto a caller's slice.
-/
section
variable {P : Program} {ops : Array Oper} {Q : Exit → Act → World → Prop} {n : Sz} {w0 v W w : World} {L L' : List (Nat × Value)} {H HB : List Ent}
variable {o : Oper} {rest : List Oper} {u : Value} {x y z : Operand} {t t' e k : TypeId} {kq : IntKind} {ks : List Nat} {ex : Exit}
theorem wp_mixBn {md0 : Md} {id : Nat} {l : List Oper} {a : Act} {w : World} {S B : World → Prop} (hmix : P.follows .mixedOrders = true) (ks p : List Nat) (ho : mixOKp9 .any l.toArray ks p = true)
  (hB : ∀ w, S w → B w) (hS : S w.drew) (h : MixMB P l.toArray B (Q .normal) (pickK9 ks p) (pickO9 l p) a S) (hok : OkR md0 l.toArray Q) : wpn md0 P (Code.region id l.toArray true) Q a w := by
 refine wpnFrom_start hok hmix ?_
 intro listed hl
 have hsz : l.toArray.size = l.length := by simp
 obtain ⟨hns, hlen, hall, hself, hpw⟩ := mixOKp_spec9 ho
 have := wpAny_of_mixB (P := P) (Q := Q) (ks := ks) hns hself l.length p listed a w.drew S (hlen.trans hsz) hpw (fun i hi => hi)
  ⟨hl.1, fun q hq => by
   rw [hl.2.1 q hq]
   have := hall q hq
   simp [this], hl.2.2⟩ (MixMB.seqp p a S (fun i hi => by rw [← hsz]; exact (hself i hi).1) h) hB hS
 rw [hsz, Nat.sub_zero]
 exact this
theorem TC.mixBn {id : Nat} {l : List Oper} (hmix : P.follows .mixedOrders = true) (ks p : List Nat) (ho : mixOKp9 .any l.toArray ks p = true) (h : TP P l.toArray Q n w0 HB (pickK9 ks p) (pickO9 l p) L H) (hok : OkR n.md l.toArray Q := by exact trivial) : TC P Q n w0 (.region id l.toArray true) L (HB ++ H) :=
 fun a w hf hs => wp_mixBn hmix ks p ho (fun w h => ⟨H, h⟩) hs.drew (h a hf) hok
theorem TM.call0F {f : FuncId} {tt : Nat} {lb : List Value} {xs : List Operand} {ts : Array TypeId} {vs : List Value} {v : Value} (hg : Wants n ops L o) (hi : inside n o.dst = true) (h : Enters P f)
  (ho : o.op = .call { callee := .value (.tmp tt), args := xs.toArray, argTypes := ts }) (ht : look L tt = some (.func (.func f) #[] lb.toArray)) (hx : evs L xs = some vs)
  (hc : ∀ w, St w0 H w → Calls P f (vs ++ lb).toArray w fun e w' => e = .returned v ∧ St w [] w')
  (hr : TM P ops Q n w0 ks rest (put L o.dst v) H) : TM P ops Q n w0 (1 :: ks) (o :: rest) L H :=
 fun a hf => ⟨v, St w0 H, ⟨.inl ⟨hg a hf, fun w hS => by rw [run_enterF h ho hf ht hx]; exact (hc w hS).mono fun e w' ⟨he, hw⟩ => ⟨he, hS.call' hw⟩⟩, rfl⟩, hr _ (hf.put o.dst v hi)⟩
theorem TP.lastW {i g s : Nat} {ent : Ent} {vs : List Value} (hg : Wants n ops L o) (hd : o.dst = none) (ho : o.op = .store t x y) (hsz : (P.info? t).map (·.size) = some s)
  (hx : ev L x = some (.pointer (some ⟨g, 0, none⟩))) (hy : ev L y = some (.agg vs.toArray)) (hl : vs.length = s) (h1 : ∀ u ∈ vs, u.oneCell' = true) (hi : (HB ++ H)[i]? = some ent) (he : ent.g = g) (hoff : ent.cs.length = s)
  {H' : List Ent} (hH : (HB ++ H).set i ⟨ent.g, ent.t, vs, ent.tot⟩ = H') (hr : TE Q .normal n w0 L H') : TP P ops Q n w0 HB [7] [o] L H :=
 fun a hf => .inr (.inr (.inl ⟨rfl, St w0 H', ⟨hd, fun w hs => ⟨by
  have h2 : ent.cs.drop (0 + vs.length) = [] := List.drop_of_length_le (by omega)
  obtain ⟨w', hrun, hs'⟩ := run_storeCells (P := P) (i := i) (g := g) (ent := ent) (off := 0) vs 0 (HB ++ H) ent w he hs hi h1 (by simp; omega)
  refine ⟨w', ?_, ?_⟩
  ·simp only [execOp, ho, hf.eval hx, hf.eval hy]
   refine run_unit ?_
   simp only [Instr.storeAt, Instr.sureAddr, storeVar, Sem.run_bind, Sem.run_pure, Result.andThen_ok, run_size hsz]
   rw [if_neg (fun h => h (by simpa [Value.cells] using hl))]
   simpa [Value.cells] using hrun
  ·rw [← hH]
   rw [Nat.zero_add] at h2
   simpa [h2] using hs', hg a hf⟩⟩, fun hne => absurd rfl hne, fun w hs => hr a w hf hs⟩))
theorem TL.callB {ι : Type} {f : FuncId} {xs : List Operand} {ts : Array TypeId} {vs : List Value} {V : ι → Value} {R : ι → World → Prop} (hg : Wants n ops L o) (hi : inside n o.dst = true) (h : Enters P f)
  (ho : o.op = .call { callee := .value (.func f), args := xs.toArray, argTypes := ts }) (hx : evs L xs = some vs)
  (hc : ∀ w, St w0 H w → Calls P f vs.toArray w fun e w' => ∃ i, e = .returned (V i) ∧ R i w' ∧ St w0 H w')
  (hr : ∀ i w1, R i w1 → St w0 H w1 → TL P ops Q n w1 rest (put L o.dst (V i)) H) : TL P ops Q n w0 (o :: rest) L H :=
 fun a w hf hs => wpL_wants hg.nd (hg a hf) fun K hK => by
  unfold Oper.wp; rw [run_enter h ho hf hx]
  refine (hc w hs).mono ?_
  rintro e w' ⟨i, rfl, hR, hs'⟩
  exact hK _ _ (hr i w' hR hs' _ w' (hf.put o.dst _ hi) hs'.self)
theorem St.rebase (h1 : St w0 [] v) (h2 : St v H w) (hH : ∀ e ∈ H, w0.heap.size ≤ e.g) : St w0 H w :=
 ⟨h2.os.trans h1.os, h2.tape.trans h1.tape, h2.output.trans h1.output, Nat.le_trans h1.size h2.size, h2.has,
  fun b hb hne => (h2.old b (Nat.lt_of_lt_of_le hb h1.size) hne).trans (h1.old b hb (by simp)), h2.apart⟩
theorem TL.updH {es : Array MapEntry} {b c : Nat} {q : Int} (hM : v.heap[b]? = some (.map es c)) (hg : Wants n ops L o) (hd : o.dst = none) (ho : o.op = .mapUpdate t x y z) (h1 : P.underlying t = some (.map k e)) (hk : P.underlying k = some (.int kq))
  (hx : ev L x = some (.map (some b))) (hy : ev L y = some (.int kq q)) (hz : ev L z = some u) (hfind : Instr.findNow (.int kq) (.int kq q) es.toList 0 = some none)
  (hr : ∀ v2, v2.os = v.os → v2.tape = v.tape → v2.output = v.output → v.heap.size ≤ v2.heap.size → (∀ c, c < v.heap.size → c ≠ b → v2.heap[c]? = v.heap[c]?) → v2.heap[b]? = some (.map (es.push ⟨.int kq q, u, c⟩) (c + 1)) → TL P ops Q n v2 rest L []) : TL P ops Q n v (o :: rest) L [] :=
 fun a w hf hs => wpL_wants hg.nd (hg a hf) fun K hK => by
  have hb1 : b < v.heap.size := (Array.getElem?_eq_some_iff.1 hM).1
  have hbm : w.heap[b]? = some (.map es c) := (hs.old b hb1 (by simp)).trans hM
  have hlt : b < w.heap.size := Nat.lt_of_lt_of_le hb1 hs.size
  have hrun : (execOp a.eval o).run P w = .ok .skip { w with heap := w.heap.setIfInBounds b (.map (es.push ⟨.int kq q, u, c⟩) (c + 1)) } := by
   simp only [execOp, ho, hf.eval hx, hf.eval hy, hf.eval hz]
   refine run_unit ?_
   simp [Instr.mapUpdate, Sem.run_bind, run_under h1, MapKept.run_getObj_map hbm, MapKept.run_checkKey hk (k := .int kq q) (by simp [MapKept.IsKey]), MapKept.run_findKey hk hfind, MapKept.run_setObj_map _ hbm]
  unfold Oper.wp; rw [hrun]
  refine hK _ _ ?_
  rw [hd]
  refine hr { w with heap := w.heap.setIfInBounds b (.map (es.push ⟨.int kq q, u, c⟩) (c + 1)) } hs.os hs.tape hs.output (by simpa using hs.size) (fun i hi hne => ?_) (by simp [hlt]) a _ hf (zI _)
  have h2 := hs.old i hi (by simp)
  simp only [Array.getElem?_setIfInBounds]
  rw [if_neg (fun h => hne h.symm)]
  exact h2
theorem TE.roundM {sz : Nat} {Ks : Nat → Prop} {M1 : World → Prop} (h : ∀ w, St w0 H w → M1 w ∧ Holds Ks v w ∧ sz ≤ w.heap.size) : TE (RoundM sz Ks v M1) .normal n w0 L H := fun a w _ hs => h w hs
theorem TE.markM {fn : Func} {R : Ending → World → Prop} {D : Nat} (M : World → Prop) (hD : W.heap[D]? = some (.deferred (some []))) (hM : ∀ u, St W [] u → M (u.putObj D (.deferred none)))
  (h : ∀ u, M u → TE (bodyPost P fn R) ex ⟨n.size, [], .plain⟩ u L []) (hex : ex = .ret ∨ ex = .normal) : TE (bodyPostM Fence.wide 2 P fn R) ex ⟨n.size, [mark D], .plain⟩ W L [] := by
 intro a w hf hs
 have hDW : D < W.heap.size := (Array.getElem?_eq_some_iff.1 hD).1
 have hDw : w.heap[D]? = some (.deferred (some [])) := (hs.old D hDW (by simp)).trans hD
 have h3 := h _ (hM w hs) { a with defers := [] } _ ⟨rfl, hf.2⟩ (zI _)
 have key : LeavesInM Fence.wide 2 P fn a.tmps R a.defers .returning w := by
  rw [hf.1]
  refine ⟨by simp, .inl ⟨D, _, rfl, run_takeDeferred hDw, ?_⟩⟩
  rcases hex with rfl | rfl
  ·exact h3.2
  ·exact h3.2
 rcases hex with rfl | rfl
 ·exact key
 ·exact key
theorem TL.appendOver {B : World} {Hc He : List Ent} {As : Option Addr} {s nn sc bytes m : Nat} {cs news : List Value} {zv v : Value} (hst : St B (Hc ++ He) w0) (hown : OwnS B.heap.size e s v nn cs He)
  (hg : Wants n ops L o) (hi' : inside n o.dst = true) (ho : o.op = .call { callee := .builtin .append, args := #[x, y], argTypes := #[t, t] })
  (h1 : P.underlying t = some (.slice e)) (hz : (P.info? e).map (fun i => (i.zero, i.size, i.bytes)) = some (some zv, s, bytes)) (hzc : zv.cells.size = s) (hs0 : 0 < s)
  (hx : ev L x = some v) (hy : ev L y = some (.slice As m sc)) (hF : Fresh w0 H) (hl : news.length = m * s) (hsrc : ∀ w, St w0 H w → SrcV w As m news) (h1c : ∀ u ∈ news, u.oneCell' = true)
  (h63 : nn + m ≤ maxLen) (hbytes : (nn + m) * bytes ≤ 140737488355328)
  (hr : ∀ v' He' w2, OwnS B.heap.size e s v' (nn + m) (cs ++ news) He' → St B ((Hc ++ H) ++ He') w2 → TL P ops Q n w2 rest (put L o.dst v') []) : TL P ops Q n w0 (o :: rest) L H :=
 fun a w hf hs => wpL_wants hg.nd (hg a hf) fun K hK => by
  have hall : St B ((Hc ++ H) ++ He) w := by
   have a1 : St B ([] ++ (Hc ++ He)) w0 := hst
   have := St.over a1 hs (fun e he d hd => by
    have h1 := hF e he
    have h2 := (hst.has d hd).lt
    omega) (fun d hd => by cases hd)
   refine this.perm ?_
   rw [List.append_assoc]
   exact List.perm_append_comm_assoc H Hc He
  obtain ⟨v', w', He', hrun, hown', hst'⟩ := run_appendS (P := P) (t := t) (ty := o.type) (sc := sc) h1 hz hzc hs0 hown hall (Nat.le_refl _) (Nat.le_refl _) hl (hsrc w hs) h1c h63 hbytes (fun _ => rfl)
  have hrun' : (execOp a.eval o).run P w = .ok (.value v') w' := by
   simp only [execOp, ho, resolve, invoke, builtin, Sem.run_bind, Sem.run_pure, Result.andThen_ok, List.map_toArray, List.map_cons, List.map_nil, hf.eval hx, hf.eval hy, hrun]
  unfold Oper.wp; rw [hrun']
  exact hK _ _ (hr v' He' w' hown' hst' _ w' (hf.put o.dst _ hi') (zI w'))
def occI (B P : List Int) (s : Int) : Int := match matchI B P s with
 | some q => (q : Int)
 | none => -1
theorem occ_no {B P : List Int} {s : Int} (h : matchI B P s = none) : occI B P s = -1 := by unfold occI; rw [h]
theorem occ_yes {B P : List Int} {s : Int} {q : Nat} (h : matchI B P s = some q) : occI B P s = q := by unfold occI; rw [h]
theorem rowI_drop {w : World} {b o n l : Nat} {kd : IntKind} {B : List Int} (h : RowI w b o n kd B) (hl : l ≤ n) : RowI w b (o + l) (n - l) kd (B.drop l) := fun j hj => by
 have := h (l + j) (by omega)
 rw [Lib.getD_drop, Nat.add_assoc]; exact this
structure MInv (w0 : World) (H : List Ent) (mb : Nat) (B : List Int) (s lo i : Nat) (W : World) : Prop where
 st : St w0 H W
 mp : MapAt W mb B s i
 lt : ∀ e ∈ H, e.g < lo
 ml : mb < lo
 nm : w0.heap.size ≤ mb
 ne : ∀ e ∈ H, e.g ≠ mb
structure FindC (w : World) (gm gf mb : Nat) (A : Option Addr) (m c : Nat) (B : List Int) (k : Int) : Prop where
 cm : w.cell? ⟨gm, 0, none⟩ = some (.map (some mb))
 cf : w.cell? ⟨gf, 0, none⟩ = some (.slice A m c)
 mp : MapAt w mb B k.toNat (cntH m k)
 lm : gm < w.heap.size
 lf : gf < w.heap.size
theorem FindC.at_ {gm gf mb m c : Nat} {A : Option Addr} {B : List Int} {k : Int} (h : FindC w0 gm gf mb A m c B k) (hs : St w0 H w) (hne : ∀ e ∈ H, e.g ≠ gm ∧ e.g ≠ gf ∧ e.g ≠ mb) : FindC w gm gf mb A m c B k :=
 ⟨(hs.old_cell (ad := ⟨gm, 0, none⟩) h.lm (fun e he => (hne e he).1)).trans h.cm, (hs.old_cell (ad := ⟨gf, 0, none⟩) h.lf (fun e he => (hne e he).2.1)).trans h.cf, h.mp.at_ hs (fun e he => (hne e he).2.2), Nat.lt_of_lt_of_le h.lm hs.size, Nat.lt_of_lt_of_le h.lf hs.size⟩
theorem Src.dropS {w : World} {b o m q : Nat} {kd : IntKind} {B : List Int} (h : Src w (some ⟨b, o, none⟩) m kd B) (hq : q ≤ m) : Src w (some ⟨b, o + q, none⟩) (m - q) kd (B.drop q) := by
 refine ⟨by rw [List.length_drop, h.1], ?_⟩
 rcases h.2 with h2 | ⟨b', o', hA, hb, hr⟩
 ·exact .inl (by omega)
 ·cases hA; exact .inr ⟨b, o + q, rfl, hb, rowI_drop hr hq⟩
theorem occ_cases (B P : List Int) (s : Int) : (occI B P s = -1 ∧ matchI B P s = none) ∨ ∃ q : Nat, occI B P s = q ∧ matchI B P s = some q := by
 cases h : matchI B P s with
 | none => exact .inl ⟨occ_no h, rfl⟩
 | some q => exact .inr ⟨q, occ_yes h, rfl⟩
def capA (ps pb : Nat) (A : Option Addr) (m : Nat) (k : Nat) : Prop := k = ps ∨ k = pb ∨ (0 < m ∧ ∃ a, A = some a ∧ k = a.block)
theorem capA_some {ps pb b ob m : Nat} (hm : 0 < m) : capA ps pb (some ⟨b, ob, none⟩) m = capB ps pb b := by
 funext k
 apply propext
 unfold capA capB
 constructor
 ·rintro (h | h | ⟨_, a, ha, h⟩)
  ·exact .inl h
  ·exact .inr (.inl h)
  ·cases ha; exact .inr (.inr h)
 ·rintro (h | h | h)
  ·exact .inl h
  ·exact .inr (.inl h)
  ·exact .inr (.inr ⟨hm, _, rfl, h⟩)
section
variable {mb s lo i c : Nat} {B : List Int}
theorem MInv.start {wm : World} (h : St wm H w) (hM : wm.heap[mb]? = some (.map #[] 0)) (hne : ∀ e ∈ H, e.g ≠ mb) (hb : w0.heap.size ≤ mb) (hw : St w0 [] wm) (hH : ∀ e ∈ H, w0.heap.size ≤ e.g) : MInv w0 H mb B s w.heap.size 0 w :=
 ⟨hw.rebase h hH, ⟨#[], 0, (h.old mb (Array.getElem?_eq_some_iff.1 hM).1 hne).trans hM, MapE.zero B s⟩, fun e he => (h.has e he).lt, Nat.lt_of_lt_of_le (Array.getElem?_eq_some_iff.1 hM).1 h.size, hb, hne⟩
theorem MInv.beside {A B' : World} (h : MInv w0 H mb B s lo i A) (hb : Beside lo (lo + 2 + c) A B') : MInv w0 H mb B s lo i B' :=
 ⟨h.st.besides hb (fun e he => .inl (h.lt e he)) (Nat.le_trans h.nm (Nat.le_of_lt h.ml)), h.mp.of_block (hb.block mb h.mp.lt (by have := h.ml; omega)), h.lt, h.ml, h.nm, h.ne⟩
theorem MInv.call {W' : World} (h : MInv w0 H mb B s lo i W) (hs : St W [] W') : MInv w0 H mb B s lo i W' :=
 ⟨h.st.call' hs, h.mp.at_ hs (by simp), h.lt, h.ml, h.nm, h.ne⟩
theorem MInv.next (h : MInv w0 H mb B s lo i W) (hf : firstH B s i (hshI (blkI B s i)) ≠ none) : MInv w0 H mb B s lo (i + 1) W := by
 obtain ⟨es, cc, h1, h2⟩ := h.mp
 exact ⟨h.st, ⟨es, cc, h1, h2.same hf⟩, h.lt, h.ml, h.nm, h.ne⟩
theorem MInv.put {es : Array MapEntry} {cc : Nat} {v2 : World} (h : MInv w0 H mb B s lo i v) (hme : MapE es B s i) (hf : firstH B s i (hshI (blkI B s i)) = none) (q1 : v2.os = v.os) (q2 : v2.tape = v.tape) (q3 : v2.output = v.output) (q4 : v.heap.size ≤ v2.heap.size)
  (q5 : ∀ c, c < v.heap.size → c ≠ mb → v2.heap[c]? = v.heap[c]?) (q6 : v2.heap[mb]? = some (.map (es.push ⟨.int .u64 (hshI (blkI B s i)), .int .i64 (i : Int), cc⟩) (cc + 1))) : MInv w0 H mb B s lo (i + 1) v2 :=
 ⟨⟨q1.trans h.st.os, q2.trans h.st.tape, q3.trans h.st.output, Nat.le_trans h.st.size q4, fun e he => (h.st.has e he).of_block (q5 _ (h.st.has e he).lt (h.ne e he)),
  fun b hb hne => (q5 b (Nat.lt_of_lt_of_le hb h.st.size) (by have := h.nm; omega)).trans (h.st.old b hb hne), h.st.apart⟩, ⟨_, _, q6, hme.push hf⟩, h.lt, h.ml, h.nm, h.ne⟩
theorem MInv.end_ {u : World} {ob : Obj} (h : MInv w0 H mb B s lo i W) (hs : St W [] u) : St w0 H (u.putObj lo ob) ∧ MapAt (u.putObj lo ob) mb B s i := by
 have h1 := h.call hs
 have hne : ∀ e ∈ H, e.g ≠ lo := fun e he => by have := h.lt e he; omega
 refine ⟨⟨h1.st.os, h1.st.tape, h1.st.output, by simpa using h1.st.size, fun e he => (h1.st.has e he).of_block (World.putObj_heap_other (hne e he)),
  fun b hb hneb => (World.putObj_heap_other (by have := h.nm; have := h.ml; omega)).trans (h1.st.old b hb hneb), h1.st.apart⟩, h1.mp.of_block (World.putObj_heap_other (by have := h.ml; omega))⟩
theorem holds_call {Ks : Nat → Prop} (hs : St v [] w) : Holds Ks v w := fun k _ hk => hs.old k hk (by simp)
theorem holds_put {Ks : Nat → Prop} {v2 : World} (hk : ∀ k, Ks k → k ≠ mb) (q4 : v.heap.size ≤ v2.heap.size) (q5 : ∀ c, c < v.heap.size → c ≠ mb → v2.heap[c]? = v.heap[c]?) (hs : St v2 [] w) : Holds Ks v w := fun k hk' hl =>
 (hs.old k (Nat.lt_of_lt_of_le hl q4) (by simp)).trans (q5 k hl (hk k hk'))
end
end
/-
 The code of layer 8: finder.
-/
theorem agg111 : (isAgg 111).run Tryz.prog = fun w => .ok false w := isAgg_no Tryz.underlying111 rfl
theorem enters41 : Enters Tryz.prog 41 := ⟨_, Tryz.func41, by kernel_rfl, by kernel_rfl⟩
theorem enters75 : Enters Tryz.prog 75 := ⟨_, Tryz.func75, by kernel_rfl, by kernel_rfl⟩
theorem size111 : (Tryz.prog.info? 111).map (·.size) = some 1 := by kernel_rfl
theorem zero111 : (Tryz.prog.info? 111).bind (·.zero) = some (.map none) := by kernel_rfl
instance : Zer Tryz.prog 111 [Value.map none] := ⟨⟨_, zero111, rfl⟩⟩
theorem hash_itC (ps pb : Nat) (A : Option Addr) (m c : Nat) (k : Int) (B : List Int) (hBB : Bytes B) (hm : m ≤ 1000000) (hmc : m ≤ c) (hcm : c ≤ 9223372036854775807) (w0 : World) (hcs : w0.cell? ⟨ps, 0, none⟩ = some (.int .i64 k)) (hcb : w0.cell? ⟨pb, 0, none⟩ = some (.slice A m c)) (hpl : ps < w0.heap.size) (hbl : pb < w0.heap.size) (hsB : Src w0 A m .u8 B) :
  IterC Fence.wide 2 Tryz.prog 75 #[.pointer (some ⟨ps, 0, none⟩), .pointer (some ⟨pb, 0, none⟩)] (fun i => #[.int .i64 (i : Int), .int .u64 (hshI (blkI B k.toNat i))]) (cntH m k) 0 (capA ps pb A m) w0 := by
 by_cases h1 : k < 1
 ·rw [cntH_no (.inl h1)]
  exact hash_iterN0 ps pb A m c k _ _ hm h1 w0 hcs hcb hpl hbl
 ·by_cases h2 : (m : Int) < k
  ·rw [cntH_no (.inr h2)]
   exact hash_iterN1 ps pb A m c k _ _ hm h1 h2 w0 hcs hcb hpl hbl
  ·obtain ⟨s, rfl⟩ : ∃ s : Nat, k = s := ⟨k.toNat, by omega⟩
   obtain ⟨b, ob, rfl, hb, hr⟩ := hsB.2.resolve_left (by omega)
   rw [cntH_yes (by omega) (by omega), Int.toNat_natCast, capA_some (by omega)]
   exact hash_iter ps pb b ob m c s B hBB hsB.1 (by omega) (by omega) hm hmc hcm w0 ⟨hcs, hcb, hr, hpl, hbl, hb⟩
theorem finder_c (A : Option Addr) (m c : Nat) (k : Int) (B : List Int) (hBB : Bytes B) (hm : m ≤ 1000000) (hmc : m ≤ c) (hcm : c ≤ 9223372036854775807) (w : World) (hsB : Src w A m .u8 B) : Calls Tryz.prog 40 #[.slice A m c, .int .i64 k] w fun e w' => ∃ y : Nat × Nat × Nat, e = .returned (.func (.func 73) #[] #[.pointer (some ⟨y.1, 0, none⟩), .pointer (some ⟨y.2.1, 0, none⟩)]) ∧ (w.heap.size ≤ y.1 ∧ w.heap.size ≤ y.2.1 ∧ w.heap.size ≤ y.2.2) ∧ St w [] w' ∧ FindC w' y.1 y.2.1 y.2.2 A m c B k := by
 refine calls_fromM (args := [.slice A m c, .int .i64 k]) Tryz.func40 rfl Tryz.ntmps40 (by simp) ?_
 refine qC [0, 1] ?_
 iterate 2 refine gx ?_
 refine TL.bx1 (fun g1 hg1 => ?_)
 iterate 5 refine gx ?_
 refine TL.makeMap (qA rfl) rfl rfl (fun wm10 mb10 hbmb10 hlmb10 hnmb10 hwmb10 hMmb10 => ?_)
 refine qa (fun g2 hg2 => ?_)
 refine zF (qA rfl) rfl rfl size111 rfl rfl rfl (i := 0) rfl rfl (by simp [] <;> omega) (cs' := [Value.map (some mb10)]) (rfl) (H' := [⟨g2, 111, [Value.map (some mb10)], 1⟩, ⟨g1, 22, [slice A m c], 1⟩]) rfl ?_
 iterate 7 refine gx ?_
 refine qu (ι := Nat × Nat) (V := fun y => .func (.func 75) #[] #[.pointer (some ⟨y.1, 0, none⟩), .pointer (some ⟨y.2, 0, none⟩)]) (R := fun y => wm10.heap.size ≤ y.1 ∧ wm10.heap.size ≤ y.2) (H' := fun y => [⟨g2, 111, [Value.map (some mb10)], 1⟩, ⟨g1, 22, [slice A m c], 1⟩, ⟨y.1, 3, [int .i64 k], 1⟩, ⟨y.2, 22, [slice A m c], 1⟩]) (qA rfl) rfl enters41 rfl rfl (fun w hs => (hashes_c A m c k w).mono fun e w' ⟨y, he, hR, hw⟩ => ⟨y, he, ⟨Nat.le_trans hs.size hR.1, Nat.le_trans hs.size hR.2⟩, st_call hs hw (fun e he => by rcases List.mem_cons.1 he with rfl | he; exact hR.1; rw [List.mem_singleton.1 he]; exact hR.2)⟩) (fun y hR => ?_)
 obtain ⟨gs, gb⟩ := y
 obtain ⟨hgs, hgb⟩ := hR
 dsimp only at hgs hgb ⊢
 iterate 2 refine gx ?_
 refine qC [2, 4, 5, 13] ?_
 refine gx ?_
 have hn2 := hnmb10 _ List.mem_cons_self
 dsimp only at hn2
 have hwB : St w [] wm10 := (hwmb10).drop (by assumption)
 have hszB := hwB.size
 have hsWm : Src wm10 A m .u8 B := hsB.at_ hwB (by simp)
 have hfr : ∀ e ∈ ([⟨g2, 111, [Value.map (some mb10)], 1⟩, ⟨g1, 22, [slice A m c], 1⟩, ⟨gs, 3, [int .i64 k], 1⟩, ⟨gb, 22, [slice A m c], 1⟩] : List Ent), w.heap.size ≤ e.g := (by intro e he; simp only [List.mem_cons, List.not_mem_nil, or_false] at he; rcases he with rfl | rfl | rfl | rfl <;> (dsimp only; omega))
 refine TC.rangeM (V1 := fun i => .int .i64 (i : Int)) (V2 := fun i => .int .u64 (hshI (blkI B k.toNat i))) (N := cntH m k) (c := 0) (Cap := capA gs gb A m) rfl rfl rfl rfl rfl enters75 (fun w hs => hash_itC gs gb A m c k B hBB hm hmc hcm w ((hs.has (⟨gs, 3, [int .i64 k], 1⟩) (by simp)).cell rfl) ((hs.has (⟨gb, 22, [slice A m c], 1⟩) (by simp)).cell rfl) (hs.has (⟨gs, 3, [int .i64 k], 1⟩) (by simp)).lt (hs.has (⟨gb, 22, [slice A m c], 1⟩) (by simp)).lt (hsB.at_ (hwB.rebase hs hfr) (fun b hb => (qD (by show g2 ≠ b; omega) (qD (by show g1 ≠ b; omega) (qD (by show gs ≠ b; omega) (qD (by show gb ≠ b; omega) qF))))))) (fun lo i W => MInv w [⟨g2, 111, [Value.map (some mb10)], 1⟩, ⟨g1, 22, [slice A m c], 1⟩, ⟨gs, 3, [int .i64 k], 1⟩, ⟨gb, 22, [slice A m c], 1⟩] mb10 B k.toNat lo i W) (fun i => [(5, .pointer (some ⟨g2, 0, none⟩)), (6, .int .i64 (i : Int)), (7, .int .u64 (hshI (blkI B k.toNat i)))]) (fun w1 h1 => MInv.start h1 hMmb10 (qD (by show g2 ≠ mb10; omega) (qD (by show g1 ≠ mb10; omega) (qD (by show gs ≠ mb10; omega) (qD (by show gb ≠ mb10; omega) qF)))) (by omega) hwB hfr) (fun lo i A B hlo h hb => h.beside hb) (fun w hs q hk => by rcases hk with h | h | ⟨hm0, ad, hA, h⟩; (rw [h]; exact (hs.has (⟨gs, 3, [int .i64 k], 1⟩) (by simp)).lt); (rw [h]; exact (hs.has (⟨gb, 22, [slice A m c], 1⟩) (by simp)).lt); (have h2 := (hsB.at_ (hwB.rebase hs hfr) (fun b hb => (qD (by show g2 ≠ b; omega) (qD (by show g1 ≠ b; omega) (qD (by show gs ≠ b; omega) (qD (by show gb ≠ b; omega) qF)))))); rw [hA] at h2; rw [h]; exact h2.blk hm0)) (fun l i v hiN => ?_) (fun l lo i v a hiN hlo hv hcl hI hfr => ?_) (fun lo W hlo hI hD => ?_)
 ·iterate 8 refine gx ?_
  exact TE.asg (qG (i := 5) rfl (qE (i := 6) rfl (by first | omega | rfl) (qE (i := 7) rfl (by first | rfl | omega) (qK))))
 ·refine (?_ : TC Tryz.prog _ _ v _ _ []) a v hfr (zI v)
  have hSt := hI.st
  obtain ⟨es, cc, hes, hme⟩ := hI.mp
  obtain ⟨j, hj⟩ := hme.2 (hshI (blkI B k.toNat i))
  have hg5 := (hSt.has (⟨g2, 111, [Value.map (some mb10)], 1⟩) (by simp))
  have hc5 := hg5.cell (o := 0) rfl
  have hl5 := hg5.lt
  have hir := hsh_range (blkI B k.toNat i)
  rcases hfx : firstH B k.toNat i (hshI (blkI B k.toNat i)) with _ | off
  ·have hnm : ∀ q, ((lo ≤ q ∧ q < lo + 2 + 0) ∨ capA gs gb A m q) → q ≠ mb10 := fun q hq => by
    rcases hq with hq | h | h | ⟨hm0, ad, hA, h⟩
    ·have := hI.ml; omega
    ·rw [h]; exact hI.ne (⟨gs, 3, [int .i64 k], 1⟩) (by simp)
    ·rw [h]; exact hI.ne (⟨gb, 22, [slice A m c], 1⟩) (by simp)
    ·have h2 := hsB; rw [hA] at h2; have := h2.blk hm0; have := hI.nm; omega
   iterate 3 refine gx ?_
   refine qB (qA rfl) rfl (qJ rfl agg111 rfl (qr hc5 hl5 qF)) ?_
   refine gx ?_
   refine qB (qA rfl) rfl (Gets.lookNo hes (by intro e he; cases he) rfl Tryz.underlying111 Tryz.underlying73 zero3 rfl rfl (by rw [hfx] at hj; exact hj)) ?_
   iterate 7 refine gx ?_
   refine qC [5, 6, 7, 9] ?_
   iterate 6 refine gx ?_
   refine qj rfl ?_
   refine gx ?_
   refine qB (qA rfl) rfl (qJ rfl agg111 rfl (qr hc5 hl5 qF)) ?_
   iterate 2 refine gx ?_
   refine TL.updH hes (qA rfl) rfl rfl Tryz.underlying111 Tryz.underlying73 rfl rfl rfl (by rw [hfx] at hj; exact hj) (fun v2 q1 q2 q3 q4 q5 q6 => ?_)
   iterate 2 refine gx ?_
   exact TE.roundM (fun w hs => ⟨(hI.put hme hfx q1 q2 q3 q4 q5 q6).call hs, holds_put (fun k hk => hnm k hk) q4 q5 hs, Nat.le_trans hv (Nat.le_trans q4 hs.size)⟩)
  ·iterate 3 refine gx ?_
   refine qB (qA rfl) rfl (qJ rfl agg111 rfl (qr hc5 hl5 qF)) ?_
   refine gx ?_
   refine qB (qA rfl) rfl (Gets.lookYes hes (by intro e he; cases he) rfl Tryz.underlying111 Tryz.underlying73 zero3 rfl rfl (by rw [hfx] at hj; exact hj)) ?_
   iterate 7 refine gx ?_
   refine qC [5, 6, 7, 9] ?_
   iterate 6 refine gx ?_
   refine qh rfl ?_
   iterate 2 refine gx ?_
   exact TE.roundM (fun w hs => ⟨(hI.next (by rw [hfx]; exact Option.some_ne_none _)).call hs, holds_call hs, Nat.le_trans hv hs.size⟩)
 ·iterate 4 refine gx ?_
  refine qB (qA rfl) rfl (Gets.makeFunc rfl rfl rfl) ?_
  iterate 4 refine gx ?_
  refine TE.markM (fun u => St w [⟨g2, 111, [Value.map (some mb10)], 1⟩, ⟨g1, 22, [slice A m c], 1⟩, ⟨gs, 3, [int .i64 k], 1⟩, ⟨gb, 22, [slice A m c], 1⟩] u ∧ MapAt u mb10 B k.toNat (cntH m k)) hD (fun u hu => hI.end_ hu) (fun u hM => ?_) (.inl rfl)
  exact qL rfl rfl (fun w2 hs2 => by have hM1 := hM.1.call' hs2; have hM2 := hM.2.at_ hs2 (by simp); exact ⟨(g2, g1, mb10), rfl, ⟨by omega, by omega, by omega⟩, zQ [⟨g2, 111, [Value.map (some mb10)], 1⟩, ⟨g1, 22, [slice A m c], 1⟩, ⟨gs, 3, [int .i64 k], 1⟩, ⟨gb, 22, [slice A m c], 1⟩] (by rw [List.append_nil]; exact hM1) hfr, ⟨(hM1.has (⟨g2, 111, [Value.map (some mb10)], 1⟩) (by simp)).cell rfl, (hM1.has (⟨g1, 22, [slice A m c], 1⟩) (by simp)).cell rfl, hM2, (hM1.has (⟨g2, 111, [Value.map (some mb10)], 1⟩) (by simp)).lt, (hM1.has (⟨g1, 22, [slice A m c], 1⟩) (by simp)).lt⟩⟩)
end Go.Proofs.YtegddcklbmonfaaGreatDoor
namespace Go.Proofs
open Go.Shelf
def Tryz.lays185_ren : Go.Shelf.Ren := ⟨fun | 185 => 74 | 187 => 99 | 115 => 100 | 253 => 101 | 224 => 102 | 254 => 103 | 255 => 114 | 291 => 115 | n => n, fun | 37 => 22 | 3 => 3 | 4 => 4 | 0 => 0 | 5 => 5 | 46 => 126 | 9 => 9 | 146 => 155 | 51 => 96 | n => n, fun | 1 => 1 | n => n⟩
theorem Tryz.lays185 : Go.Proofs.Lays.n185 Tryz.prog Tryz.lays185_ren := {
 mixed := by kernel_rfl
 f115 := Tryz.func100.trans (congrArg some (by kernel_rfl))
 f185 := Tryz.func74.trans (congrArg some (by kernel_rfl))
 f187 := Tryz.func99.trans (congrArg some (by kernel_rfl))
 f224 := Tryz.func102.trans (congrArg some (by kernel_rfl))
 f253 := Tryz.func101.trans (congrArg some (by kernel_rfl))
 f254 := Tryz.func103.trans (congrArg some (by kernel_rfl))
 f255 := Tryz.func114.trans (congrArg some (by kernel_rfl))
 f291 := Tryz.func115.trans (congrArg some (by kernel_rfl))
 t0 := Tryz.underlying0
 a0 := Tryz.isAgg0
 z0 := Tryz.sizeOf0
 v0 := Tryz.zeroValue0
 t3 := Tryz.underlying3
 a3 := Tryz.isAgg3
 z3 := Tryz.sizeOf3
 v3 := Tryz.zeroValue3
 t4 := Tryz.underlying4
 a4 := Tryz.isAgg4
 z4 := Tryz.sizeOf4
 v4 := Tryz.zeroValue4
 t5 := Tryz.underlying5
 a5 := Tryz.isAgg5
 z5 := Tryz.sizeOf5
 v5 := Tryz.zeroValue5
 t9 := Tryz.underlying9
 a9 := Tryz.isAgg9
 z9 := Tryz.sizeOf9
 v9 := Tryz.zeroValue9
 t37 := Tryz.underlying22
 a37 := Tryz.isAgg22
 z37 := Tryz.sizeOf22
 v37 := Tryz.zeroValue22
 t46 := Tryz.underlying126
 a46 := Tryz.isAgg126
 z46 := Tryz.sizeOf126
 v46 := Tryz.zeroValue126
 t51 := Tryz.underlying96
 a51 := Tryz.isAgg96
 z51 := Tryz.sizeOf96
 v51 := Tryz.zeroValue96
 t146 := Tryz.underlying155
 a146 := Tryz.isAgg155
 z146 := Tryz.sizeOf155
 v146 := Tryz.zeroValue155
 g1 := by kernel_rfl }
end Go.Proofs
