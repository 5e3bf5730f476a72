/-
 The encoding of deltas, as mathematics: what is written, what is read, that one inverts the other.
-/
import Derived.Test.YtclmgfcdnokaiaaGreatDoorFormatLoads7Pc
import Derived.Test.YtclmgfcdnokaiaaGreatDoorFormatLoads7Pb
import Derived.Test.YtclmgfcdnokaiaaGreatDoorFormatLoads7Pa
import Derived.Shelf.SlSortCmp.WholeK
import Derived.Shelf.SlicesG.Cmp
import Derived.Ground.SlsfProg
import Derived.Ground.SlgcProg
import Derived.WalkKit
/-
 Contracts of the reference: Len, Target, Source, Check, Overlaps.
-/
namespace Go.Proofs.YtclmgfcdnokaiaaGreatDoor
set_option maxRecDepth 100000
set_option maxHeartbeats 2000000
open Go.Value (int slice)
set_option linter.unusedVariables false
set_option linter.unusedSimpArgs false
open Go Go.RowKit
theorem enters108 : Enters Tryz.prog 108 := ⟨_, Tryz.func108, by kernel_rfl, by kernel_rfl⟩
theorem enters109 : Enters Tryz.prog 109 := ⟨_, Tryz.func109, by kernel_rfl, by kernel_rfl⟩
theorem enters43 : Enters Tryz.prog 43 := ⟨_, Tryz.func43, by kernel_rfl, by kernel_rfl⟩
theorem enters78 : Enters Tryz.prog 78 := ⟨_, Tryz.func78, by kernel_rfl, by kernel_rfl⟩
theorem rlen1 (t f l : Int) (A : Option Addr) (m c : Nat) (w : World) : Calls Tryz.prog 78 #[.agg ([int .i64 1, int .i64 t, int .i64 f, int .i64 l, slice A m c]).toArray] w fun e w' => e = .returned (.int .i64 l) ∧ St w [] w' := by
 refine qL (args := [.agg ([int .i64 1, int .i64 t, int .i64 f, int .i64 l, slice A m c]).toArray]) Tryz.func78 rfl Tryz.ntmps78 (by simp) ?_
 refine qC [0] ?_
 iterate 2 refine gx ?_
 refine qv (fun g1 hg1 => ?_)
 iterate 8 refine gx ?_
 refine qB (qA rfl) rfl (qP (qo rfl rfl rfl) rfl) ?_
 iterate 2 refine gx ?_
 refine qd rfl ?_
 iterate 9 refine gx ?_
 exact qK rfl rfl (fun w hs => ⟨ret_i (rfl), (hs.drop (by assumption))⟩)
theorem rlen2 (k t f l : Int) (A : Option Addr) (m c : Nat) (h1 : ¬ k = 1) (w : World) : Calls Tryz.prog 78 #[.agg ([int .i64 k, int .i64 t, int .i64 f, int .i64 l, slice A m c]).toArray] w fun e w' => e = .returned (.int .i64 (m : Int)) ∧ St w [] w' := by
 refine qL (args := [.agg ([int .i64 k, int .i64 t, int .i64 f, int .i64 l, slice A m c]).toArray]) Tryz.func78 rfl Tryz.ntmps78 (by simp) ?_
 refine qC [0] ?_
 iterate 2 refine gx ?_
 refine qv (fun g1 hg1 => ?_)
 iterate 8 refine gx ?_
 refine qB (qA rfl) rfl (qU (qo rfl rfl rfl) h1) ?_
 iterate 2 refine gx ?_
 refine qW rfl ?_
 iterate 11 refine gx ?_
 exact qK rfl rfl (fun w hs => ⟨ret_i (rfl), (hs.drop (by assumption))⟩)
theorem rtarget1 (t f l : Int) (A : Option Addr) (m c : Nat) (w : World) : Calls Tryz.prog 43 #[.agg ([int .i64 1, int .i64 t, int .i64 f, int .i64 l, slice A m c]).toArray] w fun e w' => e = .returned (.agg ([int .i64 t, int .i64 l]).toArray) ∧ St w [] w' := by
 refine qL (args := [.agg ([int .i64 1, int .i64 t, int .i64 f, int .i64 l, slice A m c]).toArray]) Tryz.func43 rfl Tryz.ntmps43 (by simp) ?_
 refine qC [0] ?_
 iterate 2 refine gx ?_
 refine qv (fun g1 hg1 => ?_)
 refine qc (fun g2 hg2 => ?_)
 iterate 3 refine gx ?_
 refine TC.mixS [⟨g1, 61, [int .i64 1, int .i64 t, int .i64 f, int .i64 l, slice A m c], 5⟩] [⟨g2, 70, [int .i64 0, int .i64 0], 2⟩] (by kernel_rfl) [0, 1, 1, 1, 0, 4] [0, 1, 2, 3, 4, 5] [fun _ _ => True, fun _ _ => True, fun _ _ => True, fun _ _ => True, fun _ _ => True, fun _ _ => True] (by kernel_rfl) (by kernel_rfl) (perm_pick (p := [1, 0]) (by kernel_rfl) rfl) (qx (by assumption) zA) ?_
 iterate 3 refine gx ?_
 refine zL (qA rfl) rfl enters78 rfl rfl (v := .int .i64 l) (fun Z w hZ hs => rlen1 t f l A m c w) ?_
 refine zK (qA rfl) rfl (fun _ => qm rfl (vs := [(0, int .i64 t), (1, int .i64 l)]) rfl (fun w => by first | rfl | kernel_rfl) (v := .agg ([int .i64 t, int .i64 l]).toArray)) ?_
 refine TR.storeW (qA rfl) rfl rfl size70 rfl (vs := [int .i64 t, int .i64 l]) rfl rfl (by simp [Value.oneCell']) (i := 0) (ent := ⟨g2, 70, [int .i64 0, int .i64 0], 2⟩) rfl rfl rfl (D' := [⟨g2, 70, [int .i64 t, int .i64 l], 2⟩]) rfl (qx (by assumption) zA) ?_
 iterate 3 refine gx ?_
 exact qu rfl agg70 size70 rfl (vs := [int .i64 t, int .i64 l]) rfl (qQ (i := 1) (ent := ⟨g2, 70, [int .i64 t, int .i64 l], 2⟩) rfl rfl rfl) (fun w hs => ⟨rfl, ((hs.drop (by assumption)).drop (by assumption))⟩)
theorem rtarget2 (k t f l : Int) (A : Option Addr) (m c : Nat) (h1 : ¬ k = 1) (w : World) : Calls Tryz.prog 43 #[.agg ([int .i64 k, int .i64 t, int .i64 f, int .i64 l, slice A m c]).toArray] w fun e w' => e = .returned (.agg ([int .i64 t, int .i64 (m : Int)]).toArray) ∧ St w [] w' := by
 refine qL (args := [.agg ([int .i64 k, int .i64 t, int .i64 f, int .i64 l, slice A m c]).toArray]) Tryz.func43 rfl Tryz.ntmps43 (by simp) ?_
 refine qC [0] ?_
 iterate 2 refine gx ?_
 refine qv (fun g1 hg1 => ?_)
 refine qc (fun g2 hg2 => ?_)
 iterate 3 refine gx ?_
 refine TC.mixS [⟨g1, 61, [int .i64 k, int .i64 t, int .i64 f, int .i64 l, slice A m c], 5⟩] [⟨g2, 70, [int .i64 0, int .i64 0], 2⟩] (by kernel_rfl) [0, 1, 1, 1, 0, 4] [0, 1, 2, 3, 4, 5] [fun _ _ => True, fun _ _ => True, fun _ _ => True, fun _ _ => True, fun _ _ => True, fun _ _ => True] (by kernel_rfl) (by kernel_rfl) (perm_pick (p := [1, 0]) (by kernel_rfl) rfl) (qx (by assumption) zA) ?_
 iterate 3 refine gx ?_
 refine zL (qA rfl) rfl enters78 rfl rfl (v := .int .i64 (m : Int)) (fun Z w hZ hs => rlen2 k t f l A m c (by omega) w) ?_
 refine zK (qA rfl) rfl (fun _ => qm rfl (vs := [(0, int .i64 t), (1, int .i64 (m : Int))]) rfl (fun w => by first | rfl | kernel_rfl) (v := .agg ([int .i64 t, int .i64 (m : Int)]).toArray)) ?_
 refine TR.storeW (qA rfl) rfl rfl size70 rfl (vs := [int .i64 t, int .i64 (m : Int)]) rfl rfl (by simp [Value.oneCell']) (i := 0) (ent := ⟨g2, 70, [int .i64 0, int .i64 0], 2⟩) rfl rfl rfl (D' := [⟨g2, 70, [int .i64 t, int .i64 (m : Int)], 2⟩]) rfl (qx (by assumption) zA) ?_
 iterate 3 refine gx ?_
 exact qu rfl agg70 size70 rfl (vs := [int .i64 t, int .i64 (m : Int)]) rfl (qQ (i := 1) (ent := ⟨g2, 70, [int .i64 t, int .i64 (m : Int)], 2⟩) rfl rfl rfl) (fun w hs => ⟨rfl, ((hs.drop (by assumption)).drop (by assumption))⟩)
theorem rsource_c (k t f l : Int) (A : Option Addr) (m c : Nat) (w : World) : Calls Tryz.prog 109 #[.agg ([int .i64 k, int .i64 t, int .i64 f, int .i64 l, slice A m c]).toArray] w fun e w' => e = .returned (.agg ([int .i64 f, int .i64 l]).toArray) ∧ St w [] w' := by
 refine qL (args := [.agg ([int .i64 k, int .i64 t, int .i64 f, int .i64 l, slice A m c]).toArray]) Tryz.func109 rfl Tryz.ntmps109 (by simp) ?_
 refine qC [0] ?_
 iterate 2 refine gx ?_
 refine qv (fun g1 hg1 => ?_)
 refine qc (fun g2 hg2 => ?_)
 iterate 8 refine gx ?_
 refine qB (qA rfl) rfl (qm rfl (vs := [(0, int .i64 f), (1, int .i64 l)]) rfl (fun w => by first | rfl | kernel_rfl) (v := .agg ([int .i64 f, int .i64 l]).toArray)) ?_
 iterate 4 refine gx ?_
 exact qu rfl agg70 size70 rfl (vs := [int .i64 f, int .i64 l]) rfl (qQ (i := 0) (ent := ⟨g2, 70, [int .i64 f, int .i64 l], 2⟩) rfl rfl rfl) (fun w hs => ⟨rfl, ((hs.drop (by assumption)).drop (by assumption))⟩)
theorem rcheck1 (t f l : Int) (A : Option Addr) (m c : Nat) (bt : -9223372036854775808 ≤ t ∧ t ≤ 9223372036854775807) (bf : -9223372036854775808 ≤ f ∧ f ≤ 9223372036854775807) (bl : -9223372036854775808 ≤ l ∧ l ≤ 9223372036854775807) (w : World) : Calls Tryz.prog 77 #[.agg ([int .i64 1, int .i64 t, int .i64 f, int .i64 l, slice A m c]).toArray] w fun e w' => e = .returned (.int .i64 (codeV 1 t f l m)) ∧ St w [] w' := by
 refine qL (args := [.agg ([int .i64 1, int .i64 t, int .i64 f, int .i64 l, slice A m c]).toArray]) Tryz.func77 rfl Tryz.ntmps77 (by simp) ?_
 refine qC [0] ?_
 iterate 2 refine gx ?_
 refine qv (fun g1 hg1 => ?_)
 iterate 8 refine gx ?_
 refine qB (qA rfl) rfl (qU (qs rfl rfl rfl) (by decide)) ?_
 iterate 7 refine gx ?_
 refine qC [1, 2, 10] ?_
 refine qW rfl ?_
 iterate 6 refine gx ?_
 refine qM (qA rfl) rfl enters78 rfl rfl (v := .int .i64 l) (fun w hs => rlen1 t f l A m c w) ?_
 iterate 3 refine gx ?_
 refine qX rfl (fun c0 => ?_) (fun c0 => ?_)
 ·iterate 7 refine gx ?_
  exact qK rfl rfl (fun w hs => ⟨ret_i (by unfold codeV; (repeat' split) <;> first | rfl | (exfalso; (try unfold vld at *); omega)), (hs.drop (by assumption))⟩)
 ·iterate 6 refine gx ?_
  refine qM (qA rfl) rfl enters43 rfl rfl (v := .agg ([int .i64 t, int .i64 l]).toArray) (fun w hs => rtarget1 t f l A m c w) ?_
  by_cases ct : vld t l
  ·refine qM (qA rfl) rfl enters108 rfl rfl (v := .bool true) (fun w hs => (rvalid_c t l (by omega) (by omega) w).mono fun e w' h => by rw [decide_eq_true (p := vld t l) ct] at h; exact h) ?_
   iterate 3 refine gx ?_
   refine qC [1, 2, 17] ?_
   refine qW rfl ?_
   iterate 7 refine gx ?_
   refine qB (qA rfl) rfl (qP (qo rfl rfl rfl) rfl) ?_
   iterate 4 refine gx ?_
   by_cases cm : 0 < (m : Int)
   ·refine qB (qJ rfl rfl rfl) rfl (qP (zJ rfl rfl rfl) cm) ?_
    iterate 9 refine gx ?_
    refine qC [1, 2, 32] ?_
    refine qd rfl ?_
    iterate 7 refine gx ?_
    exact qK rfl rfl (fun w hs => ⟨ret_i (by unfold codeV; (repeat' split) <;> first | rfl | (exfalso; (try unfold vld at *); omega)), (hs.drop (by assumption))⟩)
   ·refine qB (qJ rfl rfl rfl) rfl (qU (zJ rfl rfl rfl) cm) ?_
    iterate 2 refine gx ?_
    refine qM (qJ rfl rfl rfl) rfl enters109 rfl rfl (v := .agg ([int .i64 f, int .i64 l]).toArray) (fun w hs => rsource_c 1 t f l A m c w) ?_
    by_cases cf : vld f l
    ·refine qM (qJ rfl rfl rfl) rfl enters108 rfl rfl (v := .bool true) (fun w hs => (rvalid_c f l (by omega) (by omega) w).mono fun e w' h => by rw [decide_eq_true (p := vld f l) cf] at h; exact h) ?_
     iterate 5 refine gx ?_
     refine qC [1, 2, 32] ?_
     refine qW rfl ?_
     iterate 7 refine gx ?_
     refine qB (qA rfl) rfl (qU (qo rfl rfl rfl) (by decide)) ?_
     iterate 12 refine gx ?_
     refine qC [2, 45] ?_
     refine qW rfl ?_
     iterate 8 refine gx ?_
     exact qK rfl rfl (fun w hs => ⟨ret_i (by unfold codeV; (repeat' split) <;> first | rfl | (exfalso; (try unfold vld at *); omega)), (hs.drop (by assumption))⟩)
    ·refine qM (qJ rfl rfl rfl) rfl enters108 rfl rfl (v := .bool false) (fun w hs => (rvalid_c f l (by omega) (by omega) w).mono fun e w' h => by rw [decide_eq_false (p := vld f l) cf] at h; exact h) ?_
     iterate 5 refine gx ?_
     refine qC [1, 2, 32] ?_
     refine qd rfl ?_
     iterate 7 refine gx ?_
     exact qK rfl rfl (fun w hs => ⟨ret_i (by unfold codeV; (repeat' split) <;> first | rfl | (exfalso; (try unfold vld at *); omega)), (hs.drop (by assumption))⟩)
  ·refine qM (qA rfl) rfl enters108 rfl rfl (v := .bool false) (fun w hs => (rvalid_c t l (by omega) (by omega) w).mono fun e w' h => by rw [decide_eq_false (p := vld t l) ct] at h; exact h) ?_
   iterate 3 refine gx ?_
   refine qC [1, 2, 17] ?_
   refine qd rfl ?_
   iterate 7 refine gx ?_
   exact qK rfl rfl (fun w hs => ⟨ret_i (by unfold codeV; (repeat' split) <;> first | rfl | (exfalso; (try unfold vld at *); omega)), (hs.drop (by assumption))⟩)
theorem rcheck2 (t f l : Int) (A : Option Addr) (m c : Nat) (hmr : m ≤ 9223372036854775807) (bt : -9223372036854775808 ≤ t ∧ t ≤ 9223372036854775807) (bf : -9223372036854775808 ≤ f ∧ f ≤ 9223372036854775807) (bl : -9223372036854775808 ≤ l ∧ l ≤ 9223372036854775807) (w : World) : Calls Tryz.prog 77 #[.agg ([int .i64 2, int .i64 t, int .i64 f, int .i64 l, slice A m c]).toArray] w fun e w' => e = .returned (.int .i64 (codeV 2 t f l m)) ∧ St w [] w' := by
 refine qL (args := [.agg ([int .i64 2, int .i64 t, int .i64 f, int .i64 l, slice A m c]).toArray]) Tryz.func77 rfl Tryz.ntmps77 (by simp) ?_
 refine qC [0] ?_
 iterate 2 refine gx ?_
 refine qv (fun g1 hg1 => ?_)
 iterate 8 refine gx ?_
 refine qB (qA rfl) rfl (qP (qs rfl rfl rfl) (by decide)) ?_
 iterate 3 refine gx ?_
 refine qB (qJ rfl rfl rfl) rfl (qU (qs rfl rfl rfl) (by decide)) ?_
 iterate 3 refine gx ?_
 refine qC [1, 2, 10] ?_
 refine qW rfl ?_
 iterate 6 refine gx ?_
 refine qM (qA rfl) rfl enters78 rfl rfl (v := .int .i64 (m : Int)) (fun w hs => rlen2 2 t f l A m c (by omega) w) ?_
 iterate 3 refine gx ?_
 refine qX rfl (fun c0 => ?_) (fun c0 => ?_)
 ·iterate 7 refine gx ?_
  exact qK rfl rfl (fun w hs => ⟨ret_i (by unfold codeV; (repeat' split) <;> first | rfl | (exfalso; (try unfold vld at *); omega)), (hs.drop (by assumption))⟩)
 ·iterate 6 refine gx ?_
  refine qM (qA rfl) rfl enters43 rfl rfl (v := .agg ([int .i64 t, int .i64 (m : Int)]).toArray) (fun w hs => rtarget2 2 t f l A m c (by omega) w) ?_
  by_cases ct : vld t (m : Int)
  ·refine qM (qA rfl) rfl enters108 rfl rfl (v := .bool true) (fun w hs => (rvalid_c t (m : Int) (by omega) (by omega) w).mono fun e w' h => by rw [decide_eq_true (p := vld t (m : Int)) ct] at h; exact h) ?_
   iterate 3 refine gx ?_
   refine qC [1, 2, 17] ?_
   refine qW rfl ?_
   iterate 7 refine gx ?_
   refine qB (qA rfl) rfl (qU (qo rfl rfl rfl) (by decide)) ?_
   iterate 14 refine gx ?_
   refine qC [1, 2, 32] ?_
   refine qW rfl ?_
   iterate 7 refine gx ?_
   refine qB (qA rfl) rfl (qP (qo rfl rfl rfl) rfl) ?_
   iterate 3 refine gx ?_
   by_cases cf : f ≠ 0
   ·refine qB (qJ rfl rfl rfl) rfl (qP (qs rfl rfl rfl) cf) ?_
    iterate 8 refine gx ?_
    refine qC [2, 45] ?_
    refine qd rfl ?_
    iterate 7 refine gx ?_
    exact qK rfl rfl (fun w hs => ⟨ret_i (by unfold codeV; (repeat' split) <;> first | rfl | (exfalso; (try unfold vld at *); omega)), (hs.drop (by assumption))⟩)
   ·refine qB (qJ rfl rfl rfl) rfl (qU (qs rfl rfl rfl) cf) ?_
    iterate 3 refine gx ?_
    by_cases cl : l ≠ 0
    ·refine qB (qJ rfl rfl rfl) rfl (qP (qs rfl rfl rfl) cl) ?_
     iterate 4 refine gx ?_
     refine qC [2, 45] ?_
     refine qd rfl ?_
     iterate 7 refine gx ?_
     exact qK rfl rfl (fun w hs => ⟨ret_i (by unfold codeV; (repeat' split) <;> first | rfl | (exfalso; (try unfold vld at *); omega)), (hs.drop (by assumption))⟩)
    ·refine qB (qJ rfl rfl rfl) rfl (qU (qs rfl rfl rfl) cl) ?_
     iterate 4 refine gx ?_
     refine qC [2, 45] ?_
     refine qW rfl ?_
     iterate 8 refine gx ?_
     exact qK rfl rfl (fun w hs => ⟨ret_i (by unfold codeV; (repeat' split) <;> first | rfl | (exfalso; (try unfold vld at *); omega)), (hs.drop (by assumption))⟩)
  ·refine qM (qA rfl) rfl enters108 rfl rfl (v := .bool false) (fun w hs => (rvalid_c t (m : Int) (by omega) (by omega) w).mono fun e w' h => by rw [decide_eq_false (p := vld t (m : Int)) ct] at h; exact h) ?_
   iterate 3 refine gx ?_
   refine qC [1, 2, 17] ?_
   refine qd rfl ?_
   iterate 7 refine gx ?_
   exact qK rfl rfl (fun w hs => ⟨ret_i (by unfold codeV; (repeat' split) <;> first | rfl | (exfalso; (try unfold vld at *); omega)), (hs.drop (by assumption))⟩)
theorem rcheck0 (k t f l : Int) (A : Option Addr) (m c : Nat) (h1 : ¬ k = 1) (h2 : ¬ k = 2) (w : World) : Calls Tryz.prog 77 #[.agg ([int .i64 k, int .i64 t, int .i64 f, int .i64 l, slice A m c]).toArray] w fun e w' => e = .returned (.int .i64 (codeV k t f l m)) ∧ St w [] w' := by
 refine qL (args := [.agg ([int .i64 k, int .i64 t, int .i64 f, int .i64 l, slice A m c]).toArray]) Tryz.func77 rfl Tryz.ntmps77 (by simp) ?_
 refine qC [0] ?_
 iterate 2 refine gx ?_
 refine qv (fun g1 hg1 => ?_)
 iterate 8 refine gx ?_
 refine qB (qA rfl) rfl (qP (qs rfl rfl rfl) h1) ?_
 iterate 3 refine gx ?_
 refine qB (qJ rfl rfl rfl) rfl (qP (qs rfl rfl rfl) h2) ?_
 iterate 3 refine gx ?_
 refine qC [1, 2, 10] ?_
 refine qd rfl ?_
 iterate 7 refine gx ?_
 exact qK rfl rfl (fun w hs => ⟨ret_i (by unfold codeV; (repeat' split) <;> first | rfl | (exfalso; (try unfold vld at *); omega)), (hs.drop (by assumption))⟩)
theorem check_c (k t f l : Int) (A : Option Addr) (m c : Nat) (hmr : m ≤ 9223372036854775807) (bt : -9223372036854775808 ≤ t ∧ t ≤ 9223372036854775807) (bf : -9223372036854775808 ≤ f ∧ f ≤ 9223372036854775807) (bl : -9223372036854775808 ≤ l ∧ l ≤ 9223372036854775807) (w : World) : Calls Tryz.prog 67 #[.agg ([int .i64 k, int .i64 t, int .i64 f, int .i64 l, slice A m c]).toArray] w fun e w' => e = .returned (.int .i64 (codeV k t f l m)) ∧ St w [] w' := by
 by_cases h1 : k = 1
 ·subst h1; exact check1 t f l A m c bt bf bl w
 by_cases h2 : k = 2
 ·subst h2; exact check2 t f l A m c hmr bt bf bl w
 ·exact check0 k t f l A m c h1 h2 w
theorem rcheck_c (k t f l : Int) (A : Option Addr) (m c : Nat) (hmr : m ≤ 9223372036854775807) (bt : -9223372036854775808 ≤ t ∧ t ≤ 9223372036854775807) (bf : -9223372036854775808 ≤ f ∧ f ≤ 9223372036854775807) (bl : -9223372036854775808 ≤ l ∧ l ≤ 9223372036854775807) (w : World) : Calls Tryz.prog 77 #[.agg ([int .i64 k, int .i64 t, int .i64 f, int .i64 l, slice A m c]).toArray] w fun e w' => e = .returned (.int .i64 (codeV k t f l m)) ∧ St w [] w' := by
 by_cases h1 : k = 1
 ·subst h1; exact rcheck1 t f l A m c bt bf bl w
 by_cases h2 : k = 2
 ·subst h2; exact rcheck2 t f l A m c hmr bt bf bl w
 ·exact rcheck0 k t f l A m c h1 h2 w
theorem codeV1 {t f l : Int} {m : Nat} : codeV 1 t f l m = 0 ↔ ¬ l = 0 ∧ m = 0 ∧ vld t l ∧ vld f l := by
 unfold codeV; (repeat' split) <;> simp_all
theorem codeV2 {t f l : Int} {m : Nat} : codeV 2 t f l m = 0 ↔ ¬ m = 0 ∧ f = 0 ∧ l = 0 ∧ vld t m := by
 unfold codeV; (repeat' split) <;> simp_all
theorem codeV0 {k t f l : Int} {m : Nat} (h : codeV k t f l m = 0) : k = 1 ∨ k = 2 := by
 unfold codeV at h
 by_cases h1 : k = 1
 ·exact .inl h1
 by_cases h2 : k = 2
 ·exact .inr h2
 rw [if_neg h1, if_neg h2] at h; cases h
theorem roverlap_no (o l p n : Int) (ho : -9223372036854775808 ≤ o + l ∧ o + l ≤ 9223372036854775807) (hp : -9223372036854775808 ≤ p + n ∧ p + n ≤ 9223372036854775807) (hc : min (o + l) (p + n) ≤ max o p) (w : World) : Calls Tryz.prog 42 #[.agg ([int .i64 o, int .i64 l]).toArray, .agg ([int .i64 p, int .i64 n]).toArray] w fun e w' => e = .returned (.agg ([int .i64 0, int .i64 0]).toArray) ∧ St w [] w' := by
 refine qL (args := [.agg ([int .i64 o, int .i64 l]).toArray, .agg ([int .i64 p, int .i64 n]).toArray]) Tryz.func42 rfl Tryz.ntmps42 (by simp) ?_
 refine qC [0, 1] ?_
 iterate 2 refine gx ?_
 refine qv (fun g1 hg1 => ?_)
 refine qv (fun g2 hg2 => ?_)
 refine qc (fun g3 hg3 => ?_)
 iterate 8 refine gx ?_
 refine qB (qA rfl) rfl (zX (Gets.max2 rfl rfl rfl) (by rw [ifmax])) ?_
 iterate 3 refine gx ?_
 refine qC [2, 3, 4, 5] ?_
 iterate 6 refine gx ?_
 refine qB (qA rfl) rfl (qR rfl rfl rfl (r := (o + l)) (w64 (by omega) (by omega))) ?_
 iterate 4 refine gx ?_
 refine qB (qA rfl) rfl (qR rfl rfl rfl (r := (p + n)) (w64 (by omega) (by omega))) ?_
 refine qB (qA rfl) rfl (zX (Gets.min2 rfl rfl rfl) (by rw [ifmin])) ?_
 iterate 3 refine gx ?_
 refine qC [4, 5, 6] ?_
 iterate 5 refine gx ?_
 refine qB (qA rfl) rfl (qP (zb rfl rfl rfl) hc) ?_
 iterate 2 refine gx ?_
 refine qd rfl ?_
 iterate 2 refine gx ?_
 refine qB (qA rfl) rfl (qm rfl (vs := []) rfl (fun w => by first | rfl | kernel_rfl) (v := .agg ([int .i64 0, int .i64 0]).toArray)) ?_
 iterate 5 refine gx ?_
 exact qu rfl agg70 size70 rfl (vs := [int .i64 0, int .i64 0]) rfl (qQ (i := 0) (ent := ⟨g3, 70, [int .i64 0, int .i64 0], 2⟩) rfl rfl rfl) (fun w hs => ⟨rfl, (((hs.drop (by assumption)).drop (by assumption)).drop (by assumption))⟩)
theorem roverlap_yes (o l p n : Int) (ho : -9223372036854775808 ≤ o + l ∧ o + l ≤ 9223372036854775807) (hp : -9223372036854775808 ≤ p + n ∧ p + n ≤ 9223372036854775807) (hc : ¬ min (o + l) (p + n) ≤ max o p) (bo : 0 ≤ o) (bp : 0 ≤ p) (w : World) : Calls Tryz.prog 42 #[.agg ([int .i64 o, int .i64 l]).toArray, .agg ([int .i64 p, int .i64 n]).toArray] w fun e w' => e = .returned (.agg ([int .i64 (max o p), int .i64 ((min (o + l) (p + n)) - (max o p))]).toArray) ∧ St w [] w' := by
 refine qL (args := [.agg ([int .i64 o, int .i64 l]).toArray, .agg ([int .i64 p, int .i64 n]).toArray]) Tryz.func42 rfl Tryz.ntmps42 (by simp) ?_
 refine qC [0, 1] ?_
 iterate 2 refine gx ?_
 refine qv (fun g1 hg1 => ?_)
 refine qv (fun g2 hg2 => ?_)
 refine qc (fun g3 hg3 => ?_)
 iterate 8 refine gx ?_
 refine qB (qA rfl) rfl (zX (Gets.max2 rfl rfl rfl) (by rw [ifmax])) ?_
 iterate 3 refine gx ?_
 refine qC [2, 3, 4, 5] ?_
 iterate 6 refine gx ?_
 refine qB (qA rfl) rfl (qR rfl rfl rfl (r := (o + l)) (w64 (by omega) (by omega))) ?_
 iterate 4 refine gx ?_
 refine qB (qA rfl) rfl (qR rfl rfl rfl (r := (p + n)) (w64 (by omega) (by omega))) ?_
 refine qB (qA rfl) rfl (zX (Gets.min2 rfl rfl rfl) (by rw [ifmin])) ?_
 iterate 3 refine gx ?_
 refine qC [4, 5, 6] ?_
 iterate 5 refine gx ?_
 refine qB (qA rfl) rfl (qU (zb rfl rfl rfl) hc) ?_
 iterate 2 refine gx ?_
 refine qW rfl ?_
 iterate 7 refine gx ?_
 refine qB (qA rfl) rfl (zH rfl rfl rfl (r := ((min (o + l) (p + n)) - (max o p))) (w64 (by omega) (by omega))) ?_
 refine qB (qA rfl) rfl (qm rfl (vs := [(0, int .i64 (max o p)), (1, int .i64 ((min (o + l) (p + n)) - (max o p)))]) rfl (fun w => by first | rfl | kernel_rfl) (v := .agg ([int .i64 (max o p), int .i64 ((min (o + l) (p + n)) - (max o p))]).toArray)) ?_
 iterate 4 refine gx ?_
 exact qu rfl agg70 size70 rfl (vs := [int .i64 (max o p), int .i64 ((min (o + l) (p + n)) - (max o p))]) rfl (qQ (i := 0) (ent := ⟨g3, 70, [int .i64 (max o p), int .i64 ((min (o + l) (p + n)) - (max o p))], 2⟩) rfl rfl rfl) (fun w hs => ⟨rfl, (((hs.drop (by assumption)).drop (by assumption)).drop (by assumption))⟩)
/-
 Slices of commands in memory; the first of some indices; the model of a delta's check.
-/
structure CV where
 k : Int
 t : Int
 f : Int
 l : Int
 A : Option Addr
 m : Nat
 c : Nat
 B : List Int
def cellsC (x : CV) : List Value := [int .i64 x.k, int .i64 x.t, int .i64 x.f, int .i64 x.l, slice x.A x.m x.c]
def RowsC (w : World) (b off : Nat) (Cs : List CV) : Prop := ∀ (i : Nat) (x : CV), Cs[i]? = some x → ∀ j u, (cellsC x)[j]? = some u → w.cell? ⟨b, off + 5 * i + j, none⟩ = some u
def SrcC (w : World) (A : Option Addr) (m : Nat) (Cs : List CV) : Prop := Cs.length = m ∧ (m = 0 ∨ ∃ b off, A = some ⟨b, off, none⟩ ∧ b < w.heap.size ∧ RowsC w b off Cs)
def NumC (x : CV) : Prop := (-9223372036854775808 ≤ x.t ∧ x.t ≤ 9223372036854775807) ∧ (-9223372036854775808 ≤ x.f ∧ x.f ≤ 9223372036854775807) ∧ (-9223372036854775808 ≤ x.l ∧ x.l ≤ 9223372036854775807) ∧ x.m ≤ x.c ∧ x.m ≤ 140737488355327 ∧ x.c ≤ 9223372036854775807
def NumsC (Cs : List CV) : Prop := ∀ (i : Nat) (x : CV), Cs[i]? = some x → NumC x
theorem SrcC.at_ {w0 w : World} {H : List Ent} {A : Option Addr} {m : Nat} {Cs : List CV} (h : SrcC w0 A m Cs) (hs : St w0 H w) (hH : ∀ b, b < w0.heap.size → ∀ e ∈ H, e.g ≠ b) : SrcC w A m Cs := by
 refine ⟨h.1, ?_⟩
 rcases h.2 with h | ⟨b, off, hA, hb, hr⟩
 ·exact .inl h
 ·refine .inr ⟨b, off, hA, Nat.lt_of_lt_of_le hb hs.size, fun i x hx j u hu => ?_⟩
  rw [hs.old_cell (ad := ⟨b, _, none⟩) hb (hH b hb)]
  exact hr i x hx j u hu
theorem SrcC.some_ {w : World} {A : Option Addr} {m i : Nat} {Cs : List CV} (h : SrcC w A m Cs) (hi : i < m) : ∃ b off, A = some ⟨b, off, none⟩ ∧ b < w.heap.size ∧ RowsC w b off Cs := h.2.resolve_left (by omega)
theorem SrcC.get {w : World} {A : Option Addr} {m i : Nat} {Cs : List CV} (h : SrcC w A m Cs) (hi : i < m) : ∃ x, Cs[i]? = some x := ⟨_, List.getElem?_eq_getElem (by rw [h.1]; exact hi)⟩
def tg (x : CV) : Int × Int := (x.t, lenV x.k x.l x.m)
def fewP (Cs : List CV) : Prop := (∀ (i : Nat) (x : CV), Cs[i]? = some x → x.m ≤ 300) ∧ Cs.length ≤ 40
def singleV (o n : Int) (x : CV) : Int :=
 if codeV x.k x.t x.f x.l x.m = 0 then (if x.k = 1 ∧ o < x.f + x.l then 5 else if n < x.t + lenV x.k x.l x.m then 6 else 0) else codeV x.k x.t x.f x.l x.m
def findV (Cs : List CV) (off : Int) (r : Int) : Prop := (r = -1 ∧ ∀ (i : Nat) (x : CV), Cs[i]? = some x → ¬ hasB (tg x) off) ∨ ∃ (i : Nat) (x : CV), r = i ∧ Cs[i]? = some x ∧ hasB (tg x) off ∧ ∀ (j : Nat) (y : CV), j < i → Cs[j]? = some y → ¬ hasB (tg y) off
theorem all_succ {α : Type} {Cs : List α} {p : α → Prop} {i : Nat} {x : α} (h : ∀ (j : Nat) (y : α), j < i → Cs[j]? = some y → p y) (hx : Cs[i]? = some x) (hp : p x) : ∀ (j : Nat) (y : α), j < i + 1 → Cs[j]? = some y → p y := fun j y hj hy => by
 by_cases hji : j = i
 ·subst hji; rw [hx] at hy; cases hy; exact hp
 ·exact h j y (by omega) hy
theorem all_of {α : Type} {Cs : List α} {p : α → Prop} {m : Nat} (hm : Cs.length ≤ m) (h : ∀ (j : Nat) (y : α), j < m → Cs[j]? = some y → p y) : ∀ (i : Nat) (x : α), Cs[i]? = some x → p x := fun i x hx => h i x (by have := (List.getElem?_eq_some_iff.1 hx).1; omega) hx
theorem lenV_bd {k l : Int} {m : Nat} (hl : -9223372036854775808 ≤ l ∧ l ≤ 9223372036854775807) (hm : m ≤ 140737488355327) : -9223372036854775808 ≤ lenV k l m ∧ lenV k l m ≤ 9223372036854775807 := by
 unfold lenV; split <;> omega
theorem codeV_facts {k t f l : Int} {m : Nat} (h : codeV k t f l m = 0) : vld t (lenV k l m) ∧ 1 ≤ lenV k l m ∧ (k = 1 → vld f l) := by
 rcases codeV0 h with rfl | rfl
 ·obtain ⟨h1, h2, h3, h4⟩ := codeV1.1 h
  unfold lenV; rw [if_pos rfl]
  exact ⟨h3, by unfold vld at h3; omega, fun _ => h4⟩
 ·obtain ⟨h1, h2, h3, h4⟩ := codeV2.1 h
  unfold lenV; rw [if_neg (by decide)]
  exact ⟨h4, by omega, fun h => by cases h⟩
theorem findV_unique {Cs : List CV} {off r s : Int} (hr : findV Cs off r) (hs : findV Cs off s) : r = s := by
 rcases hr with ⟨rfl, h1⟩ | ⟨i, x, rfl, h1, h2, h3⟩ <;> rcases hs with ⟨rfl, k1⟩ | ⟨j, y, rfl, k1, k2, k3⟩
 ·rfl
 ·exact absurd k2 (h1 j y k1)
 ·exact absurd h2 (k1 i x h1)
 ·have a : ¬ i < j := fun c => k3 i x c h1 h2
  have b : ¬ j < i := fun c => h3 j y c k1 k2
  have : i = j := by omega
  rw [this]
open Classical in
noncomputable def findI (Cs : List CV) (off : Int) : Int := if h : ∃ r, findV Cs off r then Classical.choose h else -1
theorem findI_is {Cs : List CV} {off r : Int} (h : findV Cs off r) : findI Cs off = r := by
 unfold findI
 rw [dif_pos ⟨r, h⟩]
 exact findV_unique (Classical.choose_spec (⟨r, h⟩ : ∃ r, findV Cs off r)) h
theorem find_total (Cs : List CV) (off : Int) : ∃ r, findV Cs off r := by
 by_cases h : ∃ (i : Nat) (x : CV), Cs[i]? = some x ∧ hasB (tg x) off
 ·have hex : ∃ i, ∃ x, Cs[i]? = some x ∧ hasB (tg x) off := h
  obtain ⟨i, hi, hmin⟩ : ∃ i, (∃ x, Cs[i]? = some x ∧ hasB (tg x) off) ∧ ∀ j, (∃ x, Cs[j]? = some x ∧ hasB (tg x) off) → i ≤ j := by
   obtain ⟨i0, hi0⟩ := hex
   exact least_of i0 hi0
  obtain ⟨x, hx, hb⟩ := hi
  exact ⟨i, .inr ⟨i, x, rfl, hx, hb, fun j y hj hy hby => by have := hmin j ⟨y, hy, hby⟩; omega⟩⟩
 ·exact ⟨-1, .inl ⟨rfl, fun i x hx hb => h ⟨i, x, hx, hb⟩⟩⟩
theorem findI_spec (Cs : List CV) (off : Int) : findV Cs off (findI Cs off) := by
 obtain ⟨r, h⟩ := find_total Cs off
 rw [findI_is h]; exact h
theorem findI_free {Cs : List CV} {off : Int} : findI Cs off < 0 ↔ freeT (Cs.map tg) off := by
 constructor
 ·intro h p hp hb
  obtain ⟨x, hx, rfl⟩ := List.mem_map.1 hp
  obtain ⟨i, hi⟩ := List.mem_iff_getElem?.1 hx
  rcases findI_spec Cs off with ⟨_, h2⟩ | ⟨j, y, h2, _⟩
  ·exact h2 i x hi hb
  ·omega
 ·intro h
  rcases findI_spec Cs off with ⟨h2, _⟩ | ⟨j, y, h2, h3, h4, _⟩
  ·omega
  ·exact absurd h4 (h _ (List.mem_map.2 ⟨y, List.mem_of_getElem? h3, rfl⟩))
open Classical in
noncomputable def gapI (n : Int) (Cs : List CV) : Int := if h : ∃ g, leastT n (Cs.map tg) g then Classical.choose h else -1
theorem gapI_is {n g : Int} {Cs : List CV} (h : leastT n (Cs.map tg) g) : gapI n Cs = g := by
 unfold gapI
 rw [dif_pos ⟨g, h⟩]
 exact leastT_unique (Classical.choose_spec (⟨g, h⟩ : ∃ g, leastT n (Cs.map tg) g)) h
theorem gapI_no {n : Int} {Cs : List CV} (h : coverT 0 n (Cs.map tg)) : gapI n Cs = -1 := by
 unfold gapI
 rw [dif_neg]
 rintro ⟨g, h1, h2, h3, _⟩
 obtain ⟨p, hp, hb⟩ := h g h1 h2
 exact h3 p hp hb
def candI (Cs : List CV) (i : Nat) (c : Int) : Prop := (1 ≤ i ∧ c = 0) ∨ ∃ (j : Nat) (x : CV), j + 1 < i ∧ Cs[j]? = some x ∧ c = (tg x).1 + (tg x).2
def gapQ (n : Int) (Cs : List CV) (i : Nat) (q : Int) : Prop := (q = -1 ∧ ∀ c, candI Cs i c → c < n → ¬ freeT (Cs.map tg) c) ∨ (0 ≤ q ∧ q < n ∧ freeT (Cs.map tg) q ∧ ∀ c, candI Cs i c → c < n → freeT (Cs.map tg) c → q ≤ c)
theorem gapQ_zero (n : Int) (Cs : List CV) : gapQ n Cs 0 (-1) := .inl ⟨rfl, fun c hc => by
 rcases hc with ⟨h, _⟩ | ⟨j, x, h, _⟩ <;> omega⟩
theorem gapQ_step {n q d r : Int} {Cs : List CV} {i : Nat} (h : gapQ n Cs i q) (hd : 0 ≤ d) (hc : ∀ c, candI Cs (i + 1) c → candI Cs i c ∨ c = d)
  (hr : (d < n ∧ freeT (Cs.map tg) d ∧ (q < 0 ∨ d < q) ∧ r = d) ∨ (¬ (d < n ∧ freeT (Cs.map tg) d ∧ (q < 0 ∨ d < q)) ∧ r = q)) : gapQ n Cs (i + 1) r := by
 rcases hr with ⟨h1, h2, h3, rfl⟩ | ⟨h1, rfl⟩
 ·refine .inr ⟨hd, h1, h2, fun c hcc hcn hcf => ?_⟩
  rcases hc c hcc with hcc | rfl
  ·rcases h with ⟨_, h⟩ | ⟨_, _, _, h⟩
   ·exact absurd hcf (h c hcc hcn)
   ·have := h c hcc hcn hcf; omega
  ·exact Int.le_refl _
 ·rcases h with ⟨hq, h⟩ | ⟨hq0, hqn, hqf, h⟩
  ·refine .inl ⟨hq, fun c hcc hcn hcf => ?_⟩
   rcases hc c hcc with hcc | rfl
   ·exact h c hcc hcn hcf
   ·exact h1 ⟨hcn, hcf, .inl (by omega)⟩
  ·refine .inr ⟨hq0, hqn, hqf, fun c hcc hcn hcf => ?_⟩
   rcases hc c hcc with hcc | rfl
   ·exact h c hcc hcn hcf
   ·have : ¬ c < r := fun hlt => h1 ⟨hcn, hcf, .inr hlt⟩
    omega
theorem candI_zero {Cs : List CV} : ∀ c, candI Cs (0 + 1) c → candI Cs 0 c ∨ c = 0 := fun c hc => by
 rcases hc with ⟨_, h⟩ | ⟨j, x, h, _⟩
 ·exact .inr h
 ·omega
theorem candI_succ {Cs : List CV} {i : Nat} {x : CV} (hx : Cs[i]? = some x) : ∀ c, candI Cs (i + 1 + 1) c → candI Cs (i + 1) c ∨ c = (tg x).1 + (tg x).2 := fun c hc => by
 rcases hc with ⟨_, h⟩ | ⟨j, y, h, hy, h2⟩
 ·exact .inl (.inl ⟨by omega, h⟩)
 ·by_cases hj : j = i
  ·subst hj; rw [hx] at hy; cases hy; exact .inr h2
  ·exact .inl (.inr ⟨j, y, by omega, hy, h2⟩)
theorem gap_end {n q : Int} {Cs : List CV} {m : Nat} (hm : Cs.length = m) (h : gapQ n Cs (m + 1) q) : gapI n Cs = q := by
 have hcand : ∀ c, candT (Cs.map tg) c → candI Cs (m + 1) c := fun c hc => by
  rcases hc with rfl | ⟨p, hp, rfl⟩
  ·exact .inl ⟨by omega, rfl⟩
  ·obtain ⟨x, hx, rfl⟩ := List.mem_map.1 hp
   obtain ⟨j, hj⟩ := List.mem_iff_getElem?.1 hx
   exact .inr ⟨j, x, by have := (List.getElem?_eq_some_iff.1 hj).1; omega, hj, rfl⟩
 rcases h with ⟨rfl, h⟩ | ⟨h0, hn, hf, h⟩
 ·exact gapI_no (cover_of_cand fun c hc _ hcn => h c (hcand c hc) hcn)
 ·exact gapI_is (leastT_of_cand h0 hn hf fun c hc _ hcn hcf => h c (hcand c hc) hcn hcf)
noncomputable instance (Cs : List CV) : Decidable (fewP Cs) := Classical.propDecidable _
noncomputable def firstF (p : Nat → Prop) : Option Nat := @ite _ (∃ i, p i) (Classical.propDecidable _) (some (leastOf p)) none
theorem firstF_some {p : Nat → Prop} {i : Nat} (h : p i) (hm : ∀ j, j < i → ¬ p j) : firstF p = some i := by
 unfold firstF
 rw [if_pos ⟨i, h⟩]
 have h2 := leastOf_spec (p := p) h
 have h3 := h2.2 i h
 have h4 : ¬ leastOf p < i := fun hlt => hm _ hlt h2.1
 congr 1; omega
theorem firstF_none {p : Nat → Prop} (h : ∀ i, ¬ p i) : firstF p = none := by
 unfold firstF
 rw [if_neg (fun ⟨i, hi⟩ => h i hi)]
theorem firstF_spec {p : Nat → Prop} {i : Nat} (h : firstF p = some i) : p i ∧ ∀ j, j < i → ¬ p j := by
 unfold firstF at h
 by_cases he : ∃ i, p i
 ·rw [if_pos he] at h
  cases h
  obtain ⟨j, hj⟩ := he
  have h2 := leastOf_spec (p := p) hj
  exact ⟨h2.1, fun k hk hpk => by have := h2.2 k hpk; omega⟩
 ·rw [if_neg he] at h; cases h
theorem firstF_nope {p : Nat → Prop} (h : firstF p = none) : ∀ i, ¬ p i := fun i hi => by
 unfold firstF at h
 rw [if_pos ⟨i, hi⟩] at h; cases h
def okLen (o n : Int) : Prop := 0 ≤ o ∧ 0 ≤ n ∧ o ≤ 4611686018427387903 ∧ n ≤ 4611686018427387903
instance (o n : Int) : Decidable (okLen o n) := by unfold okLen; infer_instance
def bad1 (o n : Int) (Cs : List CV) (i : Nat) : Prop := ∃ x, Cs[i]? = some x ∧ singleV o n x ≠ 0
def bad2 (Cs : List CV) (i : Nat) : Prop := ∃ (x : CV) (j : Nat) (y : CV), Cs[i]? = some x ∧ j < i ∧ Cs[j]? = some y ∧ meets (tg x).1 (tg x).2 (tg y).1 (tg y).2
noncomputable def faultI (o n : Int) (Cs : List CV) : Int × Int :=
 if okLen o n then
  match firstF (bad1 o n Cs) with
  | some i => ((Cs[i]?).elim 0 (singleV o n), i)
  | none => match firstF (bad2 Cs) with
   | some i => (4, i)
   | none => if 0 ≤ gapI n Cs then (3, gapI n Cs) else (0, 0)
 else (2, -1)
theorem faultI_len {o n : Int} {Cs : List CV} (h : ¬ okLen o n) : faultI o n Cs = (2, -1) := by unfold faultI; rw [if_neg h]
theorem faultI_single {o n : Int} {Cs : List CV} {i : Nat} {x : CV} (h : okLen o n) (hx : Cs[i]? = some x) (hs : singleV o n x ≠ 0) (hb : ∀ (j : Nat) (y : CV), j < i → Cs[j]? = some y → singleV o n y = 0) : faultI o n Cs = (singleV o n x, (i : Int)) := by
 unfold faultI
 rw [if_pos h, firstF_some (p := bad1 o n Cs) ⟨x, hx, hs⟩ (fun j hj ⟨y, hy, hn⟩ => hn (hb j y hj hy))]
 simp [hx]
theorem no_bad1 {o n : Int} {Cs : List CV} (h : ∀ (i : Nat) (x : CV), Cs[i]? = some x → singleV o n x = 0) : firstF (bad1 o n Cs) = none := firstF_none fun i ⟨x, hx, hn⟩ => hn (h i x hx)
theorem faultI_over {o n : Int} {Cs : List CV} {i j : Nat} {x y : CV} (h : okLen o n) (h1 : ∀ (i : Nat) (x : CV), Cs[i]? = some x → singleV o n x = 0) (hx : Cs[i]? = some x) (hj : j < i) (hy : Cs[j]? = some y) (hm : meets (tg x).1 (tg x).2 (tg y).1 (tg y).2)
  (hb : ∀ i', i' < i → ¬ bad2 Cs i') : faultI o n Cs = (4, (i : Int)) := by
 unfold faultI
 rw [if_pos h, no_bad1 h1]
 simp only
 rw [firstF_some (p := bad2 Cs) ⟨x, j, y, hx, hj, hy, hm⟩ hb]
theorem faultI_gap {o n : Int} {Cs : List CV} (h : okLen o n) (h1 : ∀ (i : Nat) (x : CV), Cs[i]? = some x → singleV o n x = 0) (h2 : ∀ i, ¬ bad2 Cs i) : faultI o n Cs = if 0 ≤ gapI n Cs then (3, gapI n Cs) else (0, 0) := by
 unfold faultI
 rw [if_pos h, no_bad1 h1]
 simp only
 rw [firstF_none h2]
theorem bad2_succ {Cs : List CV} {i : Nat} {x : CV} (h : ∀ i', i' < i → ¬ bad2 Cs i') (hx : Cs[i]? = some x) (hn : ∀ (j : Nat) (y : CV), j < i → Cs[j]? = some y → ¬ meets (tg x).1 (tg x).2 (tg y).1 (tg y).2) : ∀ i', i' < i + 1 → ¬ bad2 Cs i' := fun i' hi' => by
 by_cases e : i' = i
 ·subst e
  rintro ⟨x', j, y, hx', hj, hy, hm⟩
  rw [hx] at hx'; cases hx'
  exact hn j y hj hy hm
 ·exact h i' (by omega)
theorem bad2_all {Cs : List CV} {m : Nat} (hm : Cs.length ≤ m) (h : ∀ i', i' < m → ¬ bad2 Cs i') : ∀ i, ¬ bad2 Cs i := fun i hb => by
 obtain ⟨x, j, y, hx, h2⟩ := hb
 exact h i (by have := (List.getElem?_eq_some_iff.1 hx).1; omega) ⟨x, j, y, hx, h2⟩
theorem single_vld {o n : Int} {x : CV} (h : singleV o n x = 0) : vld x.t (lenV x.k x.l x.m) ∧ 1 ≤ lenV x.k x.l x.m ∧ x.t + lenV x.k x.l x.m ≤ n ∧ codeV x.k x.t x.f x.l x.m = 0 ∧ (x.k = 1 → vld x.f x.l ∧ x.f + x.l ≤ o) := by
 unfold singleV at h
 by_cases hc : codeV x.k x.t x.f x.l x.m = 0
 ·rw [if_pos hc] at h
  obtain ⟨h1, h2, h3⟩ := codeV_facts hc
  split at h
  ·cases h
  ·split at h
   ·cases h
   ·exact ⟨h1, h2, by omega, hc, fun hk => ⟨h3 hk, by omega⟩⟩
 ·rw [if_neg hc] at h; exact absurd h hc
theorem faultI_valid {o n : Int} {Cs : List CV} (h : (faultI o n Cs).1 = 0) : okLen o n ∧ (∀ (i : Nat) (x : CV), Cs[i]? = some x → singleV o n x = 0) ∧ (∀ i, ¬ bad2 Cs i) ∧ gapI n Cs < 0 := by
 unfold faultI at h
 by_cases hl : okLen o n
 ·rw [if_pos hl] at h
  cases h1 : firstF (bad1 o n Cs) with
  | some i =>
   rw [h1] at h
   obtain ⟨x, hx, hn⟩ := (firstF_spec h1).1
   simp [hx] at h
   exact absurd h hn
  | none =>
   rw [h1] at h
   cases h2 : firstF (bad2 Cs) with
   | some i => rw [h2] at h; cases h
   | none =>
    rw [h2] at h
    refine ⟨hl, fun i x hx => Classical.byContradiction fun hn => firstF_nope h1 i ⟨x, hx, hn⟩, firstF_nope h2, ?_⟩
    simp only at h
    split at h
    ·cases h
    ·omega
 ·rw [if_neg hl] at h; cases h
theorem meets_apart {p q : Int × Int} (hp : 1 ≤ p.2) (hq : 1 ≤ q.2) : ¬ meets p.1 p.2 q.1 q.2 ↔ apartT p q := by
 unfold meets apartT; omega
def ovO (o l p n : Int) : Int := if min (o + l) (p + n) ≤ max o p then 0 else max o p
def ovL (o l p n : Int) : Int := if min (o + l) (p + n) ≤ max o p then 0 else min (o + l) (p + n) - max o p
theorem ovL_meets (o l p n : Int) : 0 < ovL o l p n ↔ meets o l p n := by
 unfold ovL meets; split <;> omega
/-
 Sums over commands: copied and literal bytes.
-/
def cpV (x : CV) : Int := if x.k = 1 then x.l else 0
def ltV (x : CV) : Int := if x.k = 1 then 0 else (x.m : Int)
def lnV (x : CV) : Int := lenV x.k x.l x.m
structure ValidC (o n : Int) (Cs : List CV) : Prop where
 len : okLen o n
 single : ∀ (i : Nat) (x : CV), Cs[i]? = some x → singleV o n x = 0
 tidy : tidyT 0 n (Cs.map tg)
 cover : coverT 0 n (Cs.map tg)
 sum : sumT (Cs.map tg) = n
 pos : ∀ x ∈ Cs, 0 ≤ cpV x ∧ 0 ≤ ltV x ∧ 1 ≤ lnV x
/-
 Contracts of Same.
-/
def sameP (k t f l k2 t2 f2 l2 : Int) (B B2 : List Int) : Prop := k = k2 ∧ t = t2 ∧ f = f2 ∧ l = l2 ∧ B = B2
instance (k t f l k2 t2 f2 l2 : Int) (B B2 : List Int) : Decidable (sameP k t f l k2 t2 f2 l2 B B2) := by unfold sameP; infer_instance
theorem rsame_c (k t f l k2 t2 f2 l2 : Int) (A A2 : Option Addr) (m c m2 c2 : Nat) (B B2 : List Int) (hB : Bytes B) (hB2 : Bytes B2) (w : World) (hsA : Src w A m .u8 B) (hsB : Src w A2 m2 .u8 B2) : Calls Tryz.prog 45 #[.agg ([int .i64 k, int .i64 t, int .i64 f, int .i64 l, slice A m c]).toArray, .agg ([int .i64 k2, int .i64 t2, int .i64 f2, int .i64 l2, slice A2 m2 c2]).toArray] w fun e w' => e = .returned (.bool (decide (sameP k t f l k2 t2 f2 l2 B B2))) ∧ St w [] w' := by
 refine qL (args := [.agg ([int .i64 k, int .i64 t, int .i64 f, int .i64 l, slice A m c]).toArray, .agg ([int .i64 k2, int .i64 t2, int .i64 f2, int .i64 l2, slice A2 m2 c2]).toArray]) Tryz.func45 rfl Tryz.ntmps45 (by simp) ?_
 refine qC [0, 1] ?_
 iterate 2 refine gx ?_
 refine qv (fun g1 hg1 => ?_)
 refine qv (fun g2 hg2 => ?_)
 iterate 9 refine gx ?_
 by_cases q1 : k = k2
 ·refine qB (qA rfl) rfl (qP (qo rfl rfl rfl) q1) ?_
  iterate 5 refine gx ?_
  by_cases q2 : t = t2
  ·refine qB (qJ rfl rfl rfl) rfl (qP (qo rfl rfl rfl) q2) ?_
   iterate 6 refine gx ?_
   by_cases q3 : f = f2
   ·refine qB (qJ rfl rfl rfl) rfl (qP (qo rfl rfl rfl) q3) ?_
    iterate 6 refine gx ?_
    by_cases q4 : l = l2
    ·refine qB (qJ rfl rfl rfl) rfl (qP (qo rfl rfl rfl) q4) ?_
     iterate 4 refine gx ?_
     refine qB (qJ rfl rfl rfl) rfl (Gets.b2s rfl Tryz.underlying22 Tryz.underlying9 Tryz.underlying5 rfl (fun w hs => (hsA.at_ hs (fun b hb => (qE (by show g2 ≠ b; omega) (qE (by show g1 ≠ b; omega) qF)))))) ?_
     iterate 2 refine gx ?_
     refine qB (qJ rfl rfl rfl) rfl (Gets.b2s rfl Tryz.underlying22 Tryz.underlying9 Tryz.underlying5 rfl (fun w hs => (hsB.at_ hs (fun b hb => (qE (by show g2 ≠ b; omega) (qE (by show g1 ≠ b; omega) qF)))))) ?_
     refine qB (qJ rfl rfl rfl) rfl (Gets.bytesEq rfl rfl rfl hB hB2) ?_
     iterate 5 refine gx ?_
     exact qK rfl rfl (fun w hs => ⟨dec_iff (by unfold sameP; simp [*]), ((hs.drop (by assumption)).drop (by assumption))⟩)
    ·refine qB (qJ rfl rfl rfl) rfl (qU (qo rfl rfl rfl) q4) ?_
     iterate 14 refine gx ?_
     exact qK rfl rfl (fun w hs => ⟨dec_f (by unfold sameP; simp [*]), ((hs.drop (by assumption)).drop (by assumption))⟩)
   ·refine qB (qJ rfl rfl rfl) rfl (qU (qo rfl rfl rfl) q3) ?_
    iterate 21 refine gx ?_
    exact qK rfl rfl (fun w hs => ⟨dec_f (by unfold sameP; simp [*]), ((hs.drop (by assumption)).drop (by assumption))⟩)
  ·refine qB (qJ rfl rfl rfl) rfl (qU (qo rfl rfl rfl) q2) ?_
   iterate 28 refine gx ?_
   exact qK rfl rfl (fun w hs => ⟨dec_f (by unfold sameP; simp [*]), ((hs.drop (by assumption)).drop (by assumption))⟩)
 ·refine qB (qA rfl) rfl (qU (qo rfl rfl rfl) q1) ?_
  iterate 34 refine gx ?_
  exact qK rfl rfl (fun w hs => ⟨dec_f (by unfold sameP; simp [*]), ((hs.drop (by assumption)).drop (by assumption))⟩)
/-
 What commands are, without where their data lie; when lists of commands are the same.
-/
def DatC (w : World) (Cs : List CV) : Prop := ∀ (i : Nat) (x : CV), Cs[i]? = some x → Src w x.A x.m .u8 x.B ∧ Bytes x.B
theorem DatC.at_ {w0 w : World} {H : List Ent} {Cs : List CV} (h : DatC w0 Cs) (hs : St w0 H w) (hH : ∀ b, b < w0.heap.size → ∀ e ∈ H, e.g ≠ b) : DatC w Cs := fun i x hx => ⟨(h i x hx).1.at_ hs hH, (h i x hx).2⟩
def valC (x : CV) : Int × Int × Int × Int × List Int := (x.k, x.t, x.f, x.l, x.B)
def sameC (Cs Es : List CV) : Prop := Cs.map valC = Es.map valC
instance (Cs Es : List CV) : Decidable (sameC Cs Es) := by unfold sameC; infer_instance
abbrev sameV (x y : CV) : Prop := sameP x.k x.t x.f x.l y.k y.t y.f y.l x.B y.B
theorem sameV_iff {x y : CV} : sameV x y ↔ valC x = valC y := by unfold sameV sameP valC; simp only [Prod.mk.injEq]
theorem sameC_len {Cs Es : List CV} (h : sameC Cs Es) : Cs.length = Es.length := by have := congrArg List.length h; simpa using this
theorem sameC_at {Cs Es : List CV} (h : sameC Cs Es) {i : Nat} {x y : CV} (hx : Cs[i]? = some x) (hy : Es[i]? = some y) : sameV x y := by
 have h1 := congrArg (·[i]?) h
 simp only [List.getElem?_map, hx, hy, Option.map_some, Option.some.injEq] at h1
 exact sameV_iff.2 h1
theorem sameC_of {Cs Es : List CV} (hl : Cs.length = Es.length) (h : ∀ (i : Nat) (x y : CV), Cs[i]? = some x → Es[i]? = some y → sameV x y) : sameC Cs Es := by
 apply List.ext_getElem?
 intro i
 rw [List.getElem?_map, List.getElem?_map]
 cases hx : Cs[i]? with
 | none =>
  rw [List.getElem?_eq_none_iff] at hx
  rw [List.getElem?_eq_none (by omega)]
 | some x =>
  have hi := (List.getElem?_eq_some_iff.1 hx).1
  have hy : Es[i]? = some Es[i] := List.getElem?_eq_getElem (by omega)
  rw [hy]
  simp only [Option.map_some, Option.some.injEq]
  exact sameV_iff.1 (h i x _ hx hy)
theorem sameC_succ {Cs Es : List CV} {i : Nat} {x y : CV} (h : ∀ (j : Nat) (x y : CV), j < i → Cs[j]? = some x → Es[j]? = some y → sameV x y) (hx : Cs[i]? = some x) (hy : Es[i]? = some y) (hs : sameV x y) : ∀ (j : Nat) (x y : CV), j < i + 1 → Cs[j]? = some x → Es[j]? = some y → sameV x y := fun j x' y' hj hx' hy' => by
 by_cases e : j = i
 ·subst e; rw [hx] at hx'; rw [hy] at hy'; cases hx'; cases hy'; exact hs
 ·exact h j x' y' (by omega) hx' hy'
def sameD (o n : Int) (H1 H2 : List Int) (Cs : List CV) (o2 n2 : Int) (G1 G2 : List Int) (Es : List CV) : Prop := o = o2 ∧ n = n2 ∧ H1 = G1 ∧ H2 = G2 ∧ sameC Cs Es
instance (o n : Int) (H1 H2 : List Int) (Cs : List CV) (o2 n2 : Int) (G1 G2 : List Int) (Es : List CV) : Decidable (sameD o n H1 H2 Cs o2 n2 G1 G2 Es) := by unfold sameD; infer_instance
/-
 Commands in a slice of the call's own.
-/
def flatC (Cs : List CV) : List Value := Cs.flatMap cellsC
theorem cellsC_len (x : CV) : (cellsC x).length = 5 := rfl
theorem flatC_len (Cs : List CV) : (flatC Cs).length = Cs.length * 5 := by
 induction Cs with
 | nil => rfl
 | cons x l ih => unfold flatC at *; rw [List.flatMap_cons, List.length_append, ih, cellsC_len, List.length_cons]; omega
theorem flatC_app (Cs Es : List CV) : flatC (Cs ++ Es) = flatC Cs ++ flatC Es := by unfold flatC; rw [List.flatMap_append]
theorem flatC_one (x : CV) : flatC [x] = cellsC x := by unfold flatC; simp
theorem flatC_get : ∀ {Cs : List CV} {i : Nat} {x : CV} {j : Nat} {u : Value}, Cs[i]? = some x → (cellsC x)[j]? = some u → (flatC Cs)[5 * i + j]? = some u
 | [], i, x, j, u, h, _ => by simp at h
 | y :: l, 0, x, j, u, h, hu => by
  simp at h; subst h
  have hj : j < 5 := by have := (List.getElem?_eq_some_iff.1 hu).1; rw [cellsC_len] at this; exact this
  show (flatC ([y] ++ l))[5 * 0 + j]? = some u
  rw [flatC_app, flatC_one, List.getElem?_append_left (by rw [cellsC_len]; omega), Nat.mul_zero, Nat.zero_add]; exact hu
 | y :: l, i + 1, x, j, u, h, hu => by
  simp at h
  show (flatC ([y] ++ l))[5 * (i + 1) + j]? = some u
  rw [flatC_app, flatC_one, List.getElem?_append_right (by rw [cellsC_len]; omega), cellsC_len]
  have := flatC_get (Cs := l) h hu
  rw [← this]; congr 1; omega
theorem OwnS.srcC {N m c : Nat} {A : Option Addr} {t : TypeId} {Cs : List CV} {He : List Ent} {w : World} (h : OwnS N t 5 (.slice A m c) m (flatC Cs) He) (hs : ∀ e ∈ He, e.lies w) : SrcC w A m Cs := by
 have hl : Cs.length = m := by have := h.1; rw [flatC_len] at this; omega
 refine ⟨hl, ?_⟩
 rcases h.2 with ⟨h1, h2, rfl⟩ | ⟨g, cap, h1, rfl, hN, hc, hm⟩
 ·exact .inl h2
 ·cases h1
  have hlie := hs _ (List.mem_singleton.2 rfl)
  refine .inr ⟨g, 0, rfl, hlie.lt, fun i x hx j u hu => ?_⟩
  rw [show 0 + 5 * i + j = 5 * i + j by omega]
  exact hlie.cell (flatC_get hx hu)
/-
 Insertion: where a command is put into a sorted list of commands.
-/
structure WS where
 i : Nat
 v : Value
 Es : List CV
 He : List Ent
/-
 Commands that a callee has made; what the check of a delta depends on; a delta without a command, and with one twice; the chapter's example.
-/
def OwnD (N : Nat) (A : Option Addr) (m : Nat) (Es : List CV) (He : List Ent) : Prop := (∀ e ∈ He, N ≤ e.g) ∧ NumsC Es ∧ (m = 0 ∨ ∃ b off, A = some ⟨b, off, none⟩) ∧ ∀ w : World, (∀ e ∈ He, e.lies w) → SrcC w A m Es ∧ DatC w Es
theorem OwnD.mono {N N' m : Nat} {A : Option Addr} {Es : List CV} {He : List Ent} (h : OwnD N' A m Es He) (hN : N ≤ N') : OwnD N A m Es He := ⟨fun e he => Nat.le_trans hN (h.1 e he), h.2⟩
theorem OwnD.num {N m : Nat} {A : Option Addr} {Es : List CV} {He : List Ent} (h : OwnD N A m Es He) : NumsC Es := h.2.1
theorem OwnD.src {N m : Nat} {A : Option Addr} {Es : List CV} {He : List Ent} (h : OwnD N A m Es He) {w : World} (hs : ∀ e ∈ He, e.lies w) : SrcC w A m Es := (h.2.2.2 w hs).1
theorem OwnD.dat {N m : Nat} {A : Option Addr} {Es : List CV} {He : List Ent} (h : OwnD N A m Es He) {w : World} (hs : ∀ e ∈ He, e.lies w) : DatC w Es := (h.2.2.2 w hs).2
def keyE (x : CV) : (Int × Int × Int × Int × List Int) × Nat := (valC x, x.m)
def sameE (Fs Gs : List CV) : Prop := Fs.map keyE = Gs.map keyE
def normC (x : CV) : CV := { x with A := none, c := 0, B := [] }
theorem firstF_congr {p q : Nat → Prop} (h : ∀ i, p i ↔ q i) : firstF p = firstF q := by
 have : p = q := funext fun i => propext (h i)
 rw [this]
theorem faultI_norm (o n : Int) (Cs : List CV) : faultI o n (Cs.map normC) = faultI o n Cs := by
 have h1 : firstF (bad1 o n (Cs.map normC)) = firstF (bad1 o n Cs) := firstF_congr fun i => by
  unfold bad1
  rw [List.getElem?_map]
  constructor
  ·rintro ⟨x, hx, hn⟩
   obtain ⟨y, hy, rfl⟩ := Option.map_eq_some_iff.1 hx
   exact ⟨y, hy, hn⟩
  ·rintro ⟨x, hx, hn⟩
   exact ⟨normC x, by rw [hx]; rfl, hn⟩
 have h2 : firstF (bad2 (Cs.map normC)) = firstF (bad2 Cs) := firstF_congr fun i => by
  unfold bad2
  constructor
  ·rintro ⟨x, j, y, hx, hj, hy, hm⟩
   rw [List.getElem?_map] at hx hy
   obtain ⟨x', hx', rfl⟩ := Option.map_eq_some_iff.1 hx
   obtain ⟨y', hy', rfl⟩ := Option.map_eq_some_iff.1 hy
   exact ⟨x', j, y', hx', hj, hy', hm⟩
  ·rintro ⟨x, j, y, hx, hj, hy, hm⟩
   exact ⟨normC x, j, normC y, by rw [List.getElem?_map, hx]; rfl, hj, by rw [List.getElem?_map, hy]; rfl, hm⟩
 have h3 : (Cs.map normC).map tg = Cs.map tg := by rw [List.map_map]; rfl
 have h4 : gapI n (Cs.map normC) = gapI n Cs := by unfold gapI; rw [h3]
 have h5 : ∀ i : Nat, ((Cs.map normC)[i]?).elim 0 (singleV o n) = (Cs[i]?).elim 0 (singleV o n) := fun i => by
  rw [List.getElem?_map]
  cases Cs[i]? <;> rfl
 unfold faultI
 rw [h1, h2, h4]
 simp only [h5]
theorem sameE.n {Cs Es : List CV} (h : sameE Es Cs) : Es.map normC = Cs.map normC := by
 have := congrArg (List.map fun (q : (Int × Int × Int × Int × List Int) × Nat) => (⟨q.1.1, q.1.2.1, q.1.2.2.1, q.1.2.2.2.1, none, q.2, 0, []⟩ : CV)) h
 rw [List.map_map, List.map_map] at this; exact this
theorem faultI_same {o n : Int} {Cs Es : List CV} (h : sameE Es Cs) : faultI o n Es = faultI o n Cs := by
 rw [← faultI_norm o n Es, h.n, faultI_norm]
/-
 Targets in ascending order, with the index of their command: the first overlap, the first gap.
-/
structure TV where
 o : Int
 l : Int
 x : Nat
instance : Inhabited TV := ⟨⟨0, 0, 0⟩⟩
def cellsT (t : TV) : List Value := [int .i64 t.o, int .i64 t.l, int .i64 t.x]
def flatT (Ts : List TV) : List Value := Ts.flatMap cellsT
theorem flatT_len (Ts : List TV) : (flatT Ts).length = Ts.length * 3 := by
 induction Ts with
 | nil => rfl
 | cons x l ih => unfold flatT at ih ⊢; rw [List.flatMap_cons, List.length_append, ih]; show 3 + _ = _; simp only [List.length_cons]; omega
theorem cellsT_len (x : TV) : (cellsT x).length = 3 := rfl
def leT (x y : TV) : Prop := x.o ≤ y.o
theorem flatT_app (Ts Es : List TV) : flatT (Ts ++ Es) = flatT Ts ++ flatT Es := by unfold flatT; rw [List.flatMap_append]
theorem flatT_one (x : TV) : flatT [x] = cellsT x := by unfold flatT; simp
theorem flatT_get : ∀ {Ts : List TV} {i : Nat} {x : TV} {j : Nat} {u : Value}, Ts[i]? = some x → (cellsT x)[j]? = some u → (flatT Ts)[3 * i + j]? = some u
 | [], i, x, j, u, h, _ => by simp at h
 | y :: l, 0, x, j, u, h, hu => by
  simp at h; subst h
  have hj : j < 3 := (List.getElem?_eq_some_iff.1 hu).1
  show (cellsT y ++ flatT l)[3 * 0 + j]? = some u
  rw [List.getElem?_append_left (by show _ < 3; omega)]
  simpa using hu
 | y :: l, i + 1, x, j, u, h, hu => by
  show (cellsT y ++ flatT l)[3 * (i + 1) + j]? = some u
  rw [List.getElem?_append_right (by show 3 ≤ _; omega)]
  show (flatT l)[3 * (i + 1) + j - 3]? = some u
  rw [show 3 * (i + 1) + j - 3 = 3 * i + j by omega]
  exact flatT_get (by simpa using h) hu
theorem flatT_one' (Ts : List TV) : ∀ u ∈ flatT Ts, u.oneCell' = true := fun u hu => by
 unfold flatT at hu
 obtain ⟨x, hx, hu⟩ := List.mem_flatMap.1 hu
 unfold cellsT at hu
 simp only [List.mem_cons, List.not_mem_nil, or_false] at hu
 rcases hu with rfl | rfl | rfl <;> rfl
def tvA : Nat → List CV → List TV
 | _, [] => []
 | i, c :: Cs => ⟨c.t, lenV c.k c.l c.m, i⟩ :: tvA (i + 1) Cs
abbrev tvOf (Cs : List CV) : List TV := tvA 0 Cs
theorem tvA_len : ∀ (i : Nat) (Cs : List CV), (tvA i Cs).length = Cs.length
 | _, [] => rfl
 | i, c :: Cs => by simp [tvA, tvA_len (i + 1) Cs]
theorem tvA_of : ∀ {i : Nat} {Cs : List CV} {t : TV}, t ∈ tvA i Cs → ∃ (j : Nat) (c : CV), Cs[j]? = some c ∧ t = ⟨c.t, lenV c.k c.l c.m, i + j⟩
 | i, c :: Cs, t, h => by
  rcases List.mem_cons.1 h with rfl | h
  ·exact ⟨0, c, rfl, rfl⟩
  ·obtain ⟨j, c', h1, h2⟩ := tvA_of h
   exact ⟨j + 1, c', by simpa using h1, by rw [h2]; congr 1; omega⟩
theorem tvA_app : ∀ (i : Nat) (Cs Es : List CV), tvA i (Cs ++ Es) = tvA i Cs ++ tvA (i + Cs.length) Es
 | i, [], Es => by simp [tvA]
 | i, c :: Cs, Es => by simp [tvA, tvA_app (i + 1) Cs Es, Nat.add_comm, Nat.add_left_comm]
def stT (Cs : List CV) (m i : Nat) : List TV := tvA 0 (Cs.take i) ++ List.replicate (m - i) ⟨0, 0, 0⟩
theorem stT_zero (Cs : List CV) (m : Nat) : stT Cs m 0 = List.replicate m ⟨0, 0, 0⟩ := by simp [stT, tvA]
theorem stT_rep (Cs : List CV) (m : Nat) : (List.replicate m [int .i64 0, int .i64 0, int .i64 0]).flatten = flatT (stT Cs m 0) := by
 rw [stT_zero]
 induction m with
 | zero => rfl
 | succ m ih => rw [List.replicate_succ, List.replicate_succ, List.flatten_cons, ih]; unfold flatT; rw [List.flatMap_cons]; rfl
theorem stT_all {Cs : List CV} {m : Nat} (hl : Cs.length = m) : stT Cs m m = tvOf Cs := by unfold stT; rw [List.take_of_length_le (by omega)]; simp
theorem stT_len {Cs : List CV} {m i : Nat} (hl : Cs.length = m) (hi : i ≤ m) : (stT Cs m i).length = m := by
 unfold stT; rw [List.length_append, tvA_len, List.length_replicate, List.length_take]; omega
theorem stT_step {Cs : List CV} {m i : Nat} {c : CV} (hl : Cs.length = m) (hc : Cs[i]? = some c) :
  (flatT (stT Cs m i)).take (3 * i) ++ cellsT ⟨c.t, lenV c.k c.l c.m, i⟩ ++ (flatT (stT Cs m i)).drop (3 * i + 3) = flatT (stT Cs m (i + 1)) := by
 have hi := (List.getElem?_eq_some_iff.1 hc).1
 have e1 : stT Cs m i = tvA 0 (Cs.take i) ++ (⟨0, 0, 0⟩ :: List.replicate (m - (i + 1)) ⟨0, 0, 0⟩) := by
  unfold stT; rw [show m - i = (m - (i + 1)) + 1 by omega, List.replicate_succ]
 have e2 : stT Cs m (i + 1) = tvA 0 (Cs.take i) ++ (⟨c.t, lenV c.k c.l c.m, i⟩ :: List.replicate (m - (i + 1)) ⟨0, 0, 0⟩) := by
  unfold stT
  rw [List.take_add_one, hc, Option.toList_some, tvA_app, List.append_assoc]
  congr 1
  simp only [tvA, List.length_take, Nat.zero_add, List.cons_append, List.nil_append]
  rw [show min i Cs.length = i by omega]
 have h3 : (flatT (tvA 0 (Cs.take i))).length = 3 * i := by rw [flatT_len, tvA_len, List.length_take]; omega
 rw [e1, e2, flatT_app, flatT_app]
 have h4 : ∀ (z : TV) (R : List TV), flatT (z :: R) = cellsT z ++ flatT R := fun z R => by unfold flatT; rw [List.flatMap_cons]
 rw [h4, h4]
 rw [List.take_left' h3, List.append_assoc]
 congr 1
 congr 1
 rw [← List.drop_drop, List.drop_left' h3]
 rfl
def pr (t : TV) : Int × Int := (t.o, t.l)
theorem tvA_pr : ∀ (i : Nat) (Cs : List CV), (tvA i Cs).map pr = Cs.map tg
 | _, [] => rfl
 | i, c :: Cs => by simp [tvA, tvA_pr (i + 1) Cs, pr, tg]
def upT (i : Int) (t : TV) : Bool := decide ((t.x : Int) ≤ i)
def upF (Ts : List TV) (i : Int) : List (Int × Int) := (Ts.filter (upT i)).map pr
theorem filter_tvA : ∀ (i : Nat) (Cs : List CV) (q : Nat), (tvA i Cs).filter (upT ((i + q : Nat) : Int)) = tvA i (Cs.take (q + 1))
 | _, [], _ => by simp [tvA]
 | i, c :: Cs, 0 => by
  have h : ∀ (k : Nat) (Cs : List CV), i < k → (tvA k Cs).filter (upT ((i : Nat) : Int)) = [] := fun k Cs => by
   induction Cs generalizing k with
   | nil => intro _; rfl
   | cons c Cs ih => intro hk; simp only [tvA, List.filter_cons]; rw [if_neg (by unfold upT; simp; omega)]; exact ih (k + 1) (by omega)
  simp only [tvA, List.filter_cons, Nat.add_zero, List.take_succ_cons, List.take_zero]
  rw [if_pos (by unfold upT; simp), h (i + 1) Cs (by omega)]
 | i, c :: Cs, q + 1 => by
  have := filter_tvA (i + 1) Cs q
  simp only [tvA, List.filter_cons, List.take_succ_cons]
  rw [if_pos (by unfold upT; simp; omega), ← this, show i + 1 + q = i + (q + 1) by omega]
def endF (F : List (Int × Int)) : Nat → Int
 | 0 => 0
 | i + 1 => match F[i]? with
  | some p => p.1 + p.2
  | none => 0
theorem endF_succ {F : List (Int × Int)} {i : Nat} {p : Int × Int} (h : F[i]? = some p) : endF F (i + 1) = p.1 + p.2 := by simp [endF, h]
def ovF (F : List (Int × Int)) : Prop := ∃ i p, F[i]? = some p ∧ p.1 < endF F i
open Classical in
noncomputable instance (F : List (Int × Int)) : Decidable (ovF F) := Classical.propDecidable _
def gapR (F : List (Int × Int)) (g : Int) : Prop := ∃ k, k ≤ F.length ∧ g = endF F k ∧ (∀ j p, j < k → F[j]? = some p → p.1 ≤ endF F j) ∧ (k = F.length ∨ ∃ p, F[k]? = some p ∧ endF F k < p.1)
def srtF (F : List (Int × Int)) : Prop := F.Pairwise (fun p q => p.1 ≤ q.1)
def posF (F : List (Int × Int)) : Prop := ∀ p ∈ F, 0 ≤ p.1 ∧ 1 ≤ p.2
theorem no_ov {F : List (Int × Int)} (hp : posF F) (h : ¬ ovF F) : ∀ (j : Nat) (q : Int × Int), F[j]? = some q → ∀ (i : Nat) (p : Int × Int), i < j → F[i]? = some p → p.1 + p.2 ≤ q.1
 | j + 1, q, hq, i, p, hij, hpi => by
  have h1 : endF F (j + 1) ≤ q.1 := Classical.byContradiction fun hc => h ⟨j + 1, q, hq, by omega⟩
  have hj : j < F.length := by have := (List.getElem?_eq_some_iff.1 hq).1; omega
  have hr : F[j]? = some F[j] := List.getElem?_eq_getElem hj
  rw [endF_succ hr] at h1
  by_cases e : i = j
  ·subst e; rw [hr] at hpi; cases hpi; exact h1
  ·have h2 := no_ov hp h j _ hr i p (by omega) hpi
   have h3 := hp _ (List.getElem_mem hj)
   omega
theorem ov_iff {F : List (Int × Int)} (hp : posF F) (hs : srtF F) : ovF F ↔ ¬ F.Pairwise apartT := by
 constructor
 ·rintro ⟨i, q, hq, hlt⟩ ha
  have hqp := hp q (List.mem_of_getElem? hq)
  match i with
  | 0 => simp [endF] at hlt; omega
  | i + 1 =>
   obtain ⟨hi1, rfl⟩ := List.getElem?_eq_some_iff.1 hq
   have hr : F[i]? = some F[i] := List.getElem?_eq_getElem (by omega)
   rw [endF_succ hr] at hlt
   have h1 := List.pairwise_iff_getElem.1 ha i (i + 1) (by omega) hi1 (by omega)
   have h2 := List.pairwise_iff_getElem.1 hs i (i + 1) (by omega) hi1 (by omega)
   have h3 := hp F[i] (List.getElem_mem _)
   unfold apartT at h1
   omega
 ·intro ha
  apply Classical.byContradiction
  intro hn
  refine ha (List.pairwise_iff_getElem.2 fun i j hi hj hij => .inl ?_)
  exact no_ov hp hn j _ (List.getElem?_eq_getElem hj) i _ hij (List.getElem?_eq_getElem hi)
theorem gap_facts {F : List (Int × Int)} {g : Int} (hp : posF F) (hs : srtF F) (hg : gapR F g) : 0 ≤ g ∧ freeT F g ∨ ovF F := by
 by_cases hov : ovF F
 ·exact .inr hov
 ·left
  obtain ⟨k, hk, rfl, h1, h2⟩ := hg
  have h0 : 0 ≤ endF F k := by
   match k with
   | 0 => exact Int.le_refl _
   | k + 1 =>
    have hr : F[k]? = some F[k] := List.getElem?_eq_getElem (by omega)
    rw [endF_succ hr]
    have := hp F[k] (List.getElem_mem _)
    omega
  refine ⟨h0, fun p hpm hb => ?_⟩
  obtain ⟨j, hj⟩ := List.mem_iff_getElem?.1 hpm
  unfold hasB at hb
  by_cases hjk : j < k
  ·match k, hk with
   | k + 1, hk =>
    have hr : F[k]? = some F[k] := List.getElem?_eq_getElem (by omega)
    rw [endF_succ hr] at hb
    by_cases e : j = k
    ·subst e; rw [hr] at hj; cases hj; omega
    ·have := no_ov hp hov k _ hr j p (by omega) hj
     have := hp F[k] (List.getElem_mem _)
     omega
  ·rcases h2 with h2 | ⟨q, hq, hlt⟩
   ·have := (List.getElem?_eq_some_iff.1 hj).1; omega
   ·by_cases e : j = k
    ·subst e; rw [hq] at hj; cases hj; omega
    ·obtain ⟨hj1, rfl⟩ := List.getElem?_eq_some_iff.1 hj
     obtain ⟨hk1, rfl⟩ := List.getElem?_eq_some_iff.1 hq
     have := List.pairwise_iff_getElem.1 hs k j hk1 hj1 (by omega)
     omega
theorem gap_below {F : List (Int × Int)} : ∀ (k : Nat), k ≤ F.length → (∀ j p, j < k → F[j]? = some p → p.1 ≤ endF F j) → ∀ x, 0 ≤ x → x < endF F k → ∃ p ∈ F, hasB p x
 | 0, _, _, x, h0, h1 => by simp [endF] at h1; omega
 | k + 1, hk, h, x, h0, h1 => by
  have hr : F[k]? = some F[k] := List.getElem?_eq_getElem (by omega)
  rw [endF_succ hr] at h1
  by_cases hx : F[k].1 ≤ x
  ·exact ⟨F[k], List.getElem_mem _, hx, h1⟩
  ·have h2 := h k _ (by omega) hr
   exact gap_below k (by omega) (fun j p hj hp => h j p (by omega) hp) x h0 (by omega)
theorem gap_least {F : List (Int × Int)} {g N : Int} (hp : posF F) (hs : srtF F) (hn : ¬ ovF F) (hg : gapR F g) (hN : g < N) : leastT N F g := by
 obtain ⟨h0, hf⟩ := (gap_facts hp hs hg).resolve_right hn
 obtain ⟨k, hk, rfl, h1, h2⟩ := hg
 exact ⟨h0, hN, hf, fun x hx hxg hfx => by
  obtain ⟨p, hpm, hb⟩ := gap_below k hk h1 x hx hxg
  exact hfx p hpm hb⟩
theorem gap_covers {F : List (Int × Int)} {g N : Int} (hg : gapR F g) (hN : N ≤ g) : coverT 0 N F := fun x h0 hx => by
 obtain ⟨k, hk, rfl, h1, h2⟩ := hg
 exact gap_below k hk h1 x h0 (by omega)
theorem endF_bd {F : List (Int × Int)} {n : Int} (hp : posF F) (hn : ∀ p ∈ F, p.1 + p.2 ≤ n) (h0 : 0 ≤ n) : ∀ k, 0 ≤ endF F k ∧ endF F k ≤ n
 | 0 => ⟨Int.le_refl _, h0⟩
 | k + 1 => by
  cases h : F[k]? with
  | none =>
   have e : endF F (k + 1) = 0 := by simp [endF, h]
   rw [e]; exact ⟨Int.le_refl _, h0⟩
  | some p =>
   have h1 := hp p (List.mem_of_getElem? h)
   have h2 := hn p (List.mem_of_getElem? h)
   rw [endF_succ h]
   omega
structure AscT (o n : Int) (Cs : List CV) (Ts : List TV) : Prop where
 perm : Ts.Perm (tvOf Cs)
 srt : Ts.Pairwise leT
 ok : okLen o n
 single : ∀ (i : Nat) (x : CV), Cs[i]? = some x → singleV o n x = 0
section
variable {o n : Int} {Cs : List CV} {Ts : List TV}
theorem AscT.len (h : AscT o n Cs Ts) : Ts.length = Cs.length := by rw [h.perm.length_eq, tvA_len]
theorem AscT.num (h : AscT o n Cs Ts) {t : TV} (ht : t ∈ Ts) : 0 ≤ t.o ∧ 1 ≤ t.l ∧ t.o + t.l ≤ n ∧ n ≤ 4611686018427387903 ∧ t.x < Cs.length := by
 obtain ⟨j, c, hj, rfl⟩ := tvA_of (h.perm.mem_iff.1 ht)
 obtain ⟨h1, h2, h3, _⟩ := single_vld (h.single j c hj)
 have h4 := h.ok
 have h5 := (List.getElem?_eq_some_iff.1 hj).1
 unfold vld at h1
 unfold okLen at h4
 dsimp only
 omega
theorem AscT.nums (h : AscT o n Cs Ts) (hm : Cs.length ≤ 1000000000) : ∀ t ∈ Ts, (-9223372036854775808 ≤ t.o ∧ t.o ≤ 9223372036854775807) ∧ (-9223372036854775808 ≤ t.l ∧ t.l ≤ 9223372036854775807) ∧ t.x ≤ 9223372036854775807 := fun t ht => by
 have := h.num ht; omega
theorem AscT.n0 (h : AscT o n Cs Ts) : 0 ≤ n ∧ n ≤ 4611686018427387903 := by have := h.ok; unfold okLen at this; omega
theorem AscT.pos (h : AscT o n Cs Ts) (i : Int) : posF (upF Ts i) := fun p hp => by
 obtain ⟨t, ht, rfl⟩ := List.mem_map.1 hp
 have := h.num (List.mem_filter.1 ht).1
 unfold pr; dsimp only; omega
theorem AscT.ends (h : AscT o n Cs Ts) (i : Int) : ∀ p ∈ upF Ts i, p.1 + p.2 ≤ n := fun p hp => by
 obtain ⟨t, ht, rfl⟩ := List.mem_map.1 hp
 have := h.num (List.mem_filter.1 ht).1
 unfold pr; dsimp only; omega
theorem AscT.srtd (h : AscT o n Cs Ts) (i : Int) : srtF (upF Ts i) := by
 unfold srtF upF
 rw [List.pairwise_map]
 exact h.srt.sublist List.filter_sublist
theorem AscT.upPerm (h : AscT o n Cs Ts) (i : Nat) : (upF Ts (i : Int)).Perm ((Cs.take (i + 1)).map tg) := by
 unfold upF
 have h1 := (h.perm.filter (upT (i : Int))).map pr
 have h2 := filter_tvA 0 Cs i
 rw [Nat.zero_add] at h2
 rw [h2, tvA_pr] at h1
 exact h1
theorem bad2_iff (h1 : ∀ (i : Nat) (x : CV), Cs[i]? = some x → singleV o n x = 0) (i : Nat) : (∃ i', i' ≤ i ∧ bad2 Cs i') ↔ ¬ ((Cs.take (i + 1)).map tg).Pairwise apartT := by
 have pos : ∀ {j : Nat} {x : CV}, Cs[j]? = some x → 1 ≤ (tg x).2 := fun hx => (single_vld (h1 _ _ hx)).2.1
 constructor
 ·rintro ⟨i', hi, x, j, y, hx, hj, hy, hm⟩ hp
  have hx' : ((Cs.take (i + 1)).map tg)[i']? = some (tg x) := by rw [List.getElem?_map, List.getElem?_take, if_pos (by omega), hx]; rfl
  have hy' : ((Cs.take (i + 1)).map tg)[j]? = some (tg y) := by rw [List.getElem?_map, List.getElem?_take, if_pos (by omega), hy]; rfl
  obtain ⟨a1, a2⟩ := List.getElem?_eq_some_iff.1 hx'
  obtain ⟨b1, b2⟩ := List.getElem?_eq_some_iff.1 hy'
  have := List.pairwise_iff_getElem.1 hp j i' b1 a1 hj
  rw [a2, b2] at this
  exact (meets_apart (pos hx) (pos hy)).2 this.symm hm
 ·intro hn
  apply Classical.byContradiction
  intro hno
  refine hn (List.pairwise_iff_getElem.2 fun j i' hj hi' hlt => ?_)
  simp only [List.length_map, List.length_take] at hj hi'
  simp only [List.getElem_map, List.getElem_take]
  have hx : Cs[i']? = some Cs[i'] := List.getElem?_eq_getElem (by omega)
  have hy : Cs[j]? = some Cs[j] := List.getElem?_eq_getElem (by omega)
  exact ((meets_apart (pos hx) (pos hy)).1 fun hm => hno ⟨i', by omega, _, j, _, hx, hlt, hy, hm⟩).symm
theorem AscT.ov (h : AscT o n Cs Ts) (i : Nat) : ovF (upF Ts (i : Int)) ↔ ∃ i', i' ≤ i ∧ bad2 Cs i' := by
 rw [ov_iff (h.pos _) (h.srtd _), bad2_iff h.single]
 have hp := h.upPerm i
 constructor
 ·exact fun h1 h2 => h1 (h2.perm hp.symm apartT.symm)
 ·exact fun h1 h2 => h1 (h2.perm hp apartT.symm)
theorem AscT.mono (h : AscT o n Cs Ts) {a b : Nat} (hab : a ≤ b) (ha : ovF (upF Ts (a : Int))) : ovF (upF Ts (b : Int)) := by
 rw [h.ov] at ha ⊢
 obtain ⟨i', h1, h2⟩ := ha
 exact ⟨i', by omega, h2⟩
theorem AscT.over (h : AscT o n Cs Ts) {k : Nat} (hk : ovF (upF Ts (k : Int))) (hb : ∀ j : Nat, j < k → ¬ ovF (upF Ts (j : Int))) : faultI o n Cs = (4, (k : Int)) := by
 obtain ⟨i', hi, hbad⟩ := (h.ov k).1 hk
 have e : i' = k := by
  apply Classical.byContradiction
  intro hne
  exact hb i' (by omega) ((h.ov i').2 ⟨i', Nat.le_refl _, hbad⟩)
 subst e
 obtain ⟨x, j, y, hx, hj, hy, hm⟩ := hbad
 exact faultI_over h.ok h.single hx hj hy hm fun q hq hbq => hb q hq ((h.ov q).2 ⟨q, Nat.le_refl _, hbq⟩)
theorem AscT.noBad (h : AscT o n Cs Ts) {m : Nat} (hm : Cs.length = m) (hb : ∀ j : Nat, j < m → ¬ ovF (upF Ts (j : Int))) : ∀ i, ¬ bad2 Cs i :=
 bad2_all (m := m) (by omega) fun i' hi' hbad => hb i' hi' ((h.ov i').2 ⟨i', Nat.le_refl _, hbad⟩)
theorem AscT.all (h : AscT o n Cs Ts) {m : Nat} (hm : Cs.length = m) : (upF Ts (m : Int)).Perm (Cs.map tg) := by
 have := h.upPerm m
 rwa [List.take_of_length_le (by omega)] at this
theorem AscT.noOv (h : AscT o n Cs Ts) {m : Nat} (hm : Cs.length = m) (hb : ∀ j : Nat, j < m → ¬ ovF (upF Ts (j : Int))) : ¬ ovF (upF Ts (m : Int)) := fun hov => by
 obtain ⟨i', _, hbad⟩ := (h.ov m).1 hov
 exact h.noBad hm hb i' hbad
theorem AscT.gap (h : AscT o n Cs Ts) {m : Nat} {g : Int} (hm : Cs.length = m) (hb : ∀ j : Nat, j < m → ¬ ovF (upF Ts (j : Int))) (hg : gapR (upF Ts (m : Int)) g) (hN : g < n) : faultI o n Cs = (3, g) := by
 have hl := gap_least (h.pos _) (h.srtd _) (h.noOv hm hb) hg hN
 have hp := h.all hm
 have hl2 : leastT n (Cs.map tg) g := ⟨hl.1, hl.2.1, hl.2.2.1.perm hp, fun x hx hxg hf => hl.2.2.2 x hx hxg (hf.perm hp.symm)⟩
 rw [faultI_gap h.ok h.single (h.noBad hm hb), gapI_is hl2, if_pos hl.1]
theorem AscT.none (h : AscT o n Cs Ts) {m : Nat} {g : Int} (hm : Cs.length = m) (hb : ∀ j : Nat, j < m → ¬ ovF (upF Ts (j : Int))) (hg : gapR (upF Ts (m : Int)) g) (hN : ¬ g < n) : faultI o n Cs = (0, 0) := by
 have hc := (gap_covers (N := n) hg (by omega)).perm (h.all hm)
 rw [faultI_gap h.ok h.single (h.noBad hm hb), gapI_no hc, if_neg (by omega)]
end
def cntT (Ts : List TV) (i : Int) (k : Nat) : Nat := ((Ts.take k).filter (upT i)).length
theorem cntT_yes {Ts : List TV} {i : Int} {k : Nat} {t : TV} (ht : Ts[k]? = some t) (h : (t.x : Int) ≤ i) : cntT Ts i (k + 1) = cntT Ts i k + 1 ∧ (upF Ts i)[cntT Ts i k]? = some (pr t) := by
 have hb : upT i t = true := by unfold upT; simpa using h
 have hk := (List.getElem?_eq_some_iff.1 ht).1
 constructor
 ·unfold cntT
  rw [List.take_add_one, ht, Option.toList_some, List.filter_append]
  simp [hb]
 ·unfold upF cntT
  have e : Ts.filter (upT i) = (Ts.take k).filter (upT i) ++ (t :: (Ts.drop (k + 1)).filter (upT i)) := by
   conv => lhs; rw [← List.take_append_drop k Ts]
   rw [List.filter_append, List.drop_eq_getElem_cons hk, List.filter_cons]
   have : Ts[k] = t := (List.getElem?_eq_some_iff.1 ht).2
   rw [this, if_pos hb]
  rw [List.getElem?_map, e, List.getElem?_append_right (Nat.le_refl _), Nat.sub_self]
  rfl
theorem cntT_no {Ts : List TV} {i : Int} {k : Nat} {t : TV} (ht : Ts[k]? = some t) (h : ¬ (t.x : Int) ≤ i) : cntT Ts i (k + 1) = cntT Ts i k := by
 have hb : upT i t = false := by unfold upT; simpa using h
 unfold cntT
 rw [List.take_add_one, ht, Option.toList_some, List.filter_append]
 simp [hb]
theorem cntT_all {Ts : List TV} {i : Int} {m : Nat} (hm : Ts.length = m) : cntT Ts i m = (upF Ts i).length := by
 unfold cntT upF
 rw [List.take_of_length_le (by omega), List.length_map]
theorem cntT_lt {Ts : List TV} {i : Int} {k : Nat} {t : TV} (ht : Ts[k]? = some t) (h : (t.x : Int) ≤ i) : cntT Ts i k < (upF Ts i).length := (List.getElem?_eq_some_iff.1 (cntT_yes ht h).2).1
def RowsT (w : World) (b off : Nat) (Ts : List TV) : Prop := ∀ (i : Nat) (x : TV), Ts[i]? = some x → ∀ j u, (cellsT x)[j]? = some u → w.cell? ⟨b, off + 3 * i + j, none⟩ = some u
theorem lies_rowsT {w : World} {g t tot : Nat} {Ts : List TV} (h : Ent.lies ⟨g, t, flatT Ts, tot⟩ w) : RowsT w g 0 Ts := fun i x hx j u hu => by
 have := h.cell (o := 3 * i + j) (flatT_get hx hu)
 rw [show 0 + 3 * i + j = 3 * i + j by omega]
 exact this
theorem RowsT.of_block {w w' : World} {b off : Nat} {Ts : List TV} (h : RowsT w b off Ts) (hb : w'.heap[b]? = w.heap[b]?) : RowsT w' b off Ts := fun i x hx j u hu => (World.cell?_of_block (w := w) hb).trans (h i x hx j u hu)
/-
 The iterator over targets: what it has captured, what a round of it leaves.
-/
theorem TE.retC1 {P : Program} {n : Sz} {w0 : World} {L : List (Nat × Value)} {H : List Ent} {fn : Func} {R : Ending → World → Prop} {i g off : Nat} {t : TypeId} {v : Value} {ex : Exit} (hres : fn.results = #[.cell i t]) (hag : (isAgg t).run P = fun w => .ok false w)
  (hx : look L i = some (.pointer (some ⟨g, off, none⟩))) (hc : At w0 H ⟨g, off, none⟩ v) (h : ∀ w, St w0 H w → R (.returned v) w) (hex : ex = .ret ∨ ex = .normal) (hds : n.ds = [] := by rfl) : TE (bodyPost P fn R) ex n w0 L H := fun a w hf hs => by
 have h1 : (a.tmps.getD i undef) = .pointer (some ⟨g, off, none⟩) := by simp [Array.getD_eq_getD_getElem?, hf.2.2 i _ hx]
 have key : a.defers = [] ∧ ∃ v, (results fn a.tmps).run P w = .ok v w ∧ R (.returned v) w := by
  refine ⟨hf.1.trans hds, v, ?_, h w hs⟩
  simp only [results, hres]
  simp [Sem.run_bind, loadVar, hag]
  simp only [Array.getD_eq_getD_getElem?] at h1
  simp [h1, asAddr, load, Sem.run, hc w hs]
 rcases hex with rfl | rfl
 ·exact key
 ·exact key
structure CapT (w : World) (b1 b2 g m : Nat) (Ts : List TV) (q : Int) : Prop where
 s : w.cell? ⟨b1, 0, none⟩ = some (.slice (some ⟨g, 0, none⟩) m m)
 x : w.cell? ⟨b2, 0, none⟩ = some (.int .i64 q)
 r : RowsT w g 0 Ts
 l : Ts.length = m
 h1 : b1 < w.heap.size
 h2 : b2 < w.heap.size
 h3 : g < w.heap.size
def capK (b1 b2 g : Nat) (k : Nat) : Prop := k = b1 ∨ k = b2 ∨ k = g
section
variable {P : Program} {w0 v w w' W : World} {b1 b2 g m : Nat} {Ts : List TV} {q : Int} {H : List Ent}
theorem CapT.lt (h : CapT w b1 b2 g m Ts q) {k : Nat} (hk : capK b1 b2 g k) : k < w.heap.size := by
 rcases hk with rfl | rfl | rfl
 ·exact h.h1
 ·exact h.h2
 ·exact h.h3
theorem CapT.row (h : CapT w b1 b2 g m Ts q) {k : Nat} {x : TV} (hx : Ts[k]? = some x) {j : Nat} {u : Value} (hu : (cellsT x)[j]? = some u) : w.cell? ⟨g, 3 * k + j, none⟩ = some u := by
 have := h.r k x hx j u hu
 rw [Nat.zero_add] at this; exact this
theorem CapT.keep (h : CapT w b1 b2 g m Ts q) (hk : ∀ k, capK b1 b2 g k → w'.heap[k]? = w.heap[k]?) (hsz : w.heap.size ≤ w'.heap.size) : CapT w' b1 b2 g m Ts q :=
 ⟨(World.cell?_of_block (w := w) (hk b1 (.inl rfl))).trans h.s, (World.cell?_of_block (w := w) (hk b2 (.inr (.inl rfl)))).trans h.x, h.r.of_block (hk g (.inr (.inr rfl))), h.l, Nat.lt_of_lt_of_le h.h1 hsz, Nat.lt_of_lt_of_le h.h2 hsz, Nat.lt_of_lt_of_le h.h3 hsz⟩
theorem CapT.at_ (h : CapT w0 b1 b2 g m Ts q) (hs : St w0 H w) (hne : ∀ b, b < w0.heap.size → ∀ e ∈ H, e.g ≠ b) : CapT w b1 b2 g m Ts q :=
 h.keep (fun k hk => hs.old k (h.lt hk) (hne k (h.lt hk))) hs.size
theorem St.beside0 {lo : Nat} (h : St v H w) (hn : ∀ e ∈ H, v.heap.size ≤ e.g) : Beside lo (lo + 0) v w :=
 ⟨h.os, h.tape, h.output, h.size, fun k hk _ => h.old k hk (fun e he => by have := hn e he; omega)⟩
def eP (F : List (Int × Int)) (i : Nat) : Int × Int := F.getD i (0, 0)
theorem eP_of {F : List (Int × Int)} {i : Nat} {p : Int × Int} (h : F[i]? = some p) : eP F i = p := by unfold eP; rw [List.getD_eq_getElem?_getD, h]; rfl
theorem eP_at {F : List (Int × Int)} {i : Nat} (h : i < F.length) : F[i]? = some (eP F i) := by
 have h1 : F[i]? = some F[i] := List.getElem?_eq_getElem h
 rw [eP_of h1]; exact h1
def encP (F : List (Int × Int)) (i : Nat) : Value := .agg #[.int .i64 (eP F i).1, .int .i64 (eP F i).2]
theorem up_yield {l : Nat} {J Jx : Nat → World → Prop} {F : List (Int × Int)} {N cn : Nat} {p : Int × Int}
  (hJ : ∀ s A B, J s A → Beside W.heap.size (W.heap.size + 0) A B → J s B)
  (hY : ∀ i W1, i < N → J i W1 → W.heap.size + 0 ≤ W1.heap.size → YieldAt Fence.wide (2 - 1) P l #[encP F i] W1 fun e W' =>
   (e = .returned (.bool true) ∧ J (i + 1) W' ∧ Keeps (fun k => (W.heap.size ≤ k ∧ k < W.heap.size + 0) ∨ capK b1 b2 g k) W1 W') ∨ (e = .returned (.bool false) ∧ Jx (i + 1) W' ∧ W1.heap.size ≤ W'.heap.size))
  (hN : cn < N) (hp : F[cn]? = some p) (hj : J cn v) (hc : CapT v b1 b2 g m Ts q) (hsz : W.heap.size ≤ v.heap.size) (hs : St v H w) (hn : ∀ e ∈ H, v.heap.size ≤ e.g) :
  YieldAt Fence.wide 1 P l #[.agg #[.int .i64 p.1, .int .i64 p.2]] w fun e w' => (e = .returned (.bool true) ∧ (J (cn + 1) w' ∧ CapT w' b1 b2 g m Ts q ∧ W.heap.size ≤ w'.heap.size)) ∨ (e = .returned (.bool false) ∧ Jx (cn + 1) w') := by
 have hb := St.beside0 (lo := W.heap.size) hs hn
 have hsw := hs.size
 obtain ⟨fn, tmps, assign, body, h1, h2⟩ := hY cn w hN (hJ _ _ _ hj hb) (by omega)
 have he : encP F cn = .agg #[.int .i64 p.1, .int .i64 p.2] := by unfold encP; rw [eP_of hp]
 rw [he] at h1
 have hcw : CapT w b1 b2 g m Ts q := hc.keep (fun k hk => hs.old k (hc.lt hk) (fun e he => by have := hn e he; have := hc.lt hk; omega)) hsw
 refine ⟨fn, tmps, assign, body, h1, h2.mono ?_⟩
 rintro e w' (⟨he, hj', hk⟩ | ⟨he, hx, _⟩)
 ·exact .inl ⟨he, hj', hcw.keep (fun k hk' => hk.block k (.inr hk') (hcw.lt hk')) hk.size, by have := hk.size; omega⟩
 ·exact .inr ⟨he, hx⟩
theorem lies_call {e : Ent} (h : e.lies w) (hW : St w [] W) : e.lies W := h.of_block (hW.old _ h.lt (by simp))
theorem capT_of {t1 t2 : TypeId} (h1 : Ent.lies ⟨b1, t1, [.slice (some ⟨g, 0, none⟩) m m], 1⟩ w) (h2 : Ent.lies ⟨b2, t2, [.int .i64 q], 1⟩ w) (hr : RowsT w g 0 Ts) (hl : Ts.length = m) (hg : g < w.heap.size) : CapT w b1 b2 g m Ts q :=
 ⟨h1.cell rfl, h2.cell rfl, hr, hl, h1.lt, h2.lt, hg⟩
theorem nov_succ {F : List (Int × Int)} {i : Nat} {p : Int × Int} (h : ∀ j r, j < i → F[j]? = some r → endF F j ≤ r.1) (hp : F[i]? = some p) (hn : ¬ p.1 < endF F i) : ∀ j r, j < i + 1 → F[j]? = some r → endF F j ≤ r.1 := fun j r hj hr => by
 by_cases e : j = i
 ·subst e; rw [hp] at hr; cases hr; omega
 ·exact h j r (by omega) hr
theorem ngap_succ {F : List (Int × Int)} {i : Nat} {p : Int × Int} (h : ∀ j r, j < i → F[j]? = some r → r.1 ≤ endF F j) (hp : F[i]? = some p) (hn : ¬ endF F i < p.1) : ∀ j r, j < i + 1 → F[j]? = some r → r.1 ≤ endF F j := fun j r hj hr => by
 by_cases e : j = i
 ·subst e; rw [hp] at hr; cases hr; omega
 ·exact h j r (by omega) hr
theorem nov_end {F : List (Int × Int)} (h : ∀ j r, j < F.length → F[j]? = some r → endF F j ≤ r.1) : ¬ ovF F := by
 rintro ⟨i, p, hp, hlt⟩
 have := h i p (List.getElem?_eq_some_iff.1 hp).1 hp
 omega
noncomputable def lowI (p : Nat → Prop) (m : Nat) : Nat := match firstF (fun i => i < m ∧ p i) with
 | some i => i
 | none => m
theorem lowI_spec (p : Nat → Prop) (m : Nat) : (lowI p m < m ∧ p (lowI p m) ∨ lowI p m = m) ∧ ∀ j, j < lowI p m → j < m → ¬ p j := by
 unfold lowI
 cases h : firstF (fun i => i < m ∧ p i) with
 | some i =>
  have ⟨h1, h2⟩ := firstF_spec h
  exact ⟨.inl h1, fun j hj hjm hp => h2 j hj ⟨hjm, hp⟩⟩
 | none => exact ⟨.inr rfl, fun j hj hjm hp => firstF_nope h j ⟨hjm, hp⟩⟩
theorem lowI_is {p : Nat → Prop} {m k : Nat} (hk : k ≤ m) (h1 : ∀ j, j < k → ¬ p j) (h2 : k = m ∨ p k) : lowI p m = k := by
 obtain ⟨a, b⟩ := lowI_spec p m
 have c1 : ¬ k < lowI p m := fun hlt => by
  rcases h2 with h2 | h2
  ·rcases a with a | a <;> omega
  ·rcases a with a | a
   ·exact b k hlt (by omega) h2
   ·exact b k hlt (by omega) h2
 have c2 : ¬ lowI p m < k := fun hlt => by
  rcases a with a | a
  ·exact h1 _ hlt a.2
  ·omega
 omega
end
/-
 Contracts of Clone, Grow and Concat.
-/
structure WPq where
 k : Nat
 v : Value
 He : List Ent
/-
 Contracts of Literal and Part.
-/
/-
 The reference of layer 5: Few, single, Find.
-/
theorem agg25 : (isAgg 25).run Tryz.prog = fun w => .ok false w := isAgg_no Tryz.underlying25 rfl
theorem enters110 : Enters Tryz.prog 110 := ⟨_, Tryz.func110, by kernel_rfl, by kernel_rfl⟩
theorem enters121 : Enters Tryz.prog 121 := ⟨_, Tryz.func121, by kernel_rfl, by kernel_rfl⟩
theorem enters77 : Enters Tryz.prog 77 := ⟨_, Tryz.func77, by kernel_rfl, by kernel_rfl⟩
theorem size25 : (Tryz.prog.info? 25).map (·.size) = some 1 := by kernel_rfl
instance : AgN Tryz.prog 25 := ⟨agg25⟩
instance : Fld Tryz.prog 27 0 0 := ⟨⟨_, _, _, Tryz.underlying27, rfl, size3, rfl⟩⟩
instance : Fld Tryz.prog 27 1 1 := ⟨⟨_, _, _, Tryz.underlying27, rfl, size3, rfl⟩⟩
instance : Fld Tryz.prog 27 4 66 := ⟨⟨_, _, _, Tryz.underlying27, rfl, size25, rfl⟩⟩
instance : Sli Tryz.prog 25 61 := ⟨Tryz.underlying25⟩
theorem rlen_c (k t f l : Int) (A : Option Addr) (m c : Nat) (w : World) : Calls Tryz.prog 78 #[.agg ([int .i64 k, int .i64 t, int .i64 f, int .i64 l, slice A m c]).toArray] w fun e w' => e = .returned (.int .i64 (lenV k l m)) ∧ St w [] w' := by
 unfold lenV
 by_cases h1 : k = 1
 ·subst h1; rw [if_pos rfl]; exact rlen1 t f l A m c w
 ·rw [if_neg h1]; exact rlen2 k t f l A m c h1 w
theorem rtarget_c (k t f l : Int) (A : Option Addr) (m c : Nat) (w : World) : Calls Tryz.prog 43 #[.agg ([int .i64 k, int .i64 t, int .i64 f, int .i64 l, slice A m c]).toArray] w fun e w' => e = .returned (.agg ([int .i64 t, int .i64 (lenV k l m)]).toArray) ∧ St w [] w' := by
 unfold lenV
 by_cases h1 : k = 1
 ·subst h1; rw [if_pos rfl]; exact rtarget1 t f l A m c w
 ·rw [if_neg h1]; exact rtarget2 k t f l A m c h1 w
abbrev dV (o n : Int) (X Y : List Int) (s : Value) : List Value := [int .i64 o, int .i64 n] ++ (X.map (int .u8) ++ (Y.map (int .u8) ++ ([s])))
theorem single_c (o n : Int) (H1 H2 : List Int) (hH1 : H1.length = 32) (hH2 : H2.length = 32) (A : Option Addr) (m c : Nat) (Cs : List CV) (x : CV) (hn : NumC x) (w : World) : Calls Tryz.prog 41 #[.agg (dV o n H1 H2 (slice A m c)).toArray, .agg ([int .i64 x.k, int .i64 x.t, int .i64 x.f, int .i64 x.l, slice x.A x.m x.c]).toArray] w fun e w' => e = .returned (.int .i64 (singleV o n x)) ∧ St w [] w' := by
 refine qL (args := [.agg (dV o n H1 H2 (slice A m c)).toArray, .agg ([int .i64 x.k, int .i64 x.t, int .i64 x.f, int .i64 x.l, slice x.A x.m x.c]).toArray]) Tryz.func41 rfl Tryz.ntmps41 (by simp) ?_
 refine qC [0, 1] ?_
 iterate 2 refine gx ?_
 refine zQ (qA rfl) rfl rfl rfl (cs := dV o n H1 H2 (slice A m c)) (by simp [Value.cells]) (tot := 67) (by simp [hH1, hH2]) (fun g1 hg1 => ?_)
 refine qv (fun g2 hg2 => ?_)
 iterate 4 refine gx ?_
 have hnx := hn
 unfold NumC at hnx
 have hlb := lenV_bd (k := x.k) (l := x.l) (m := x.m) (by omega) (by omega)
 iterate 2 refine gx ?_
 refine qM (qA rfl) rfl enters77 rfl rfl (v := .int .i64 (codeV x.k x.t x.f x.l x.m)) (fun w hs => rcheck_c x.k x.t x.f x.l x.A x.m x.c (by omega) (by omega) (by omega) (by omega) w) ?_
 iterate 10 refine gx ?_
 refine qC [2, 3, 4, 5, 9] ?_
 refine qX rfl (fun hq0 => ?_) (fun hq0 => ?_)
 ·iterate 8 refine gx ?_
  exact qK rfl rfl (fun w hs => ⟨ret_i (by unfold singleV; (repeat' split) <;> first | rfl | (exfalso; omega)), ((hs.drop (by assumption)).drop (by assumption))⟩)
 ·have hcv := codeV_facts (by omega : codeV x.k x.t x.f x.l x.m = 0)
  unfold vld at hcv
  iterate 7 refine gx ?_
  by_cases c1 : x.k = 1
  ·refine qB (qA rfl) rfl (qP (qo rfl rfl rfl) c1) ?_
   iterate 5 refine gx ?_
   refine qB (qJ rfl rfl rfl) rfl (qR rfl rfl rfl (r := (x.f + x.l)) (w64 (by omega) (by omega))) ?_
   iterate 2 refine gx ?_
   by_cases c2 : o < (x.f + x.l)
   ·refine qB (qJ rfl rfl rfl) rfl (qP (zJ rfl rfl rfl) c2) ?_
    iterate 3 refine gx ?_
    refine qC [2, 3, 4, 23] ?_
    refine qd rfl ?_
    iterate 7 refine gx ?_
    exact qK rfl rfl (fun w hs => ⟨ret_i (by unfold singleV; (repeat' split) <;> first | rfl | (exfalso; omega)), ((hs.drop (by assumption)).drop (by assumption))⟩)
   ·refine qB (qJ rfl rfl rfl) rfl (qU (zJ rfl rfl rfl) c2) ?_
    iterate 3 refine gx ?_
    refine qC [2, 3, 4, 23] ?_
    refine qW rfl ?_
    iterate 4 refine gx ?_
    refine qy (by kernel_rfl) [0, 1, 1, 1, 0, 0, 1, 0] rfl (by kernel_rfl) ?_
    iterate 3 refine gx ?_
    refine zM (qA rfl) rfl enters78 rfl rfl (v := .int .i64 (lenV x.k x.l x.m)) (fun w hs => rlen_c x.k x.t x.f x.l x.A x.m x.c w) ?_
    refine qG (qA rfl) rfl (fun _ => qR rfl rfl rfl (r := (x.t + (lenV x.k x.l x.m))) (w64 (by omega) (by omega))) ?_
    iterate 5 refine gx ?_
    refine qC [4, 31] ?_
    refine qX rfl (fun h3 => ?_) (fun h3 => ?_)
    ·iterate 7 refine gx ?_
     exact qK rfl rfl (fun w hs => ⟨ret_i (by unfold singleV; (repeat' split) <;> first | rfl | (exfalso; omega)), ((hs.drop (by assumption)).drop (by assumption))⟩)
    ·iterate 8 refine gx ?_
     exact qK rfl rfl (fun w hs => ⟨ret_i (by unfold singleV; (repeat' split) <;> first | rfl | (exfalso; omega)), ((hs.drop (by assumption)).drop (by assumption))⟩)
  ·refine qB (qA rfl) rfl (qU (qo rfl rfl rfl) c1) ?_
   iterate 12 refine gx ?_
   refine qC [2, 3, 4, 23] ?_
   refine qW rfl ?_
   iterate 4 refine gx ?_
   refine qy (by kernel_rfl) [0, 1, 1, 1, 0, 0, 1, 0] rfl (by kernel_rfl) ?_
   iterate 3 refine gx ?_
   refine zM (qA rfl) rfl enters78 rfl rfl (v := .int .i64 (lenV x.k x.l x.m)) (fun w hs => rlen_c x.k x.t x.f x.l x.A x.m x.c w) ?_
   refine qG (qA rfl) rfl (fun _ => qR rfl rfl rfl (r := (x.t + (lenV x.k x.l x.m))) (w64 (by omega) (by omega))) ?_
   iterate 5 refine gx ?_
   refine qC [4, 31] ?_
   refine qX rfl (fun h5 => ?_) (fun h5 => ?_)
   ·iterate 7 refine gx ?_
    exact qK rfl rfl (fun w hs => ⟨ret_i (by unfold singleV; (repeat' split) <;> first | rfl | (exfalso; omega)), ((hs.drop (by assumption)).drop (by assumption))⟩)
   ·iterate 8 refine gx ?_
    exact qK rfl rfl (fun w hs => ⟨ret_i (by unfold singleV; (repeat' split) <;> first | rfl | (exfalso; omega)), ((hs.drop (by assumption)).drop (by assumption))⟩)
theorem rHas_c (o l p : Int) (h : -9223372036854775808 ≤ o + l ∧ o + l ≤ 9223372036854775807) (w : World) : Calls Tryz.prog 121 #[.agg ([int .i64 o, int .i64 l]).toArray, .int .i64 p] w fun e w' => e = .returned (.bool (decide (hasB (o, l) p))) ∧ St w [] w' := by
 refine qL (args := [.agg ([int .i64 o, int .i64 l]).toArray, .int .i64 p]) Tryz.func121 rfl Tryz.ntmps121 (by simp) ?_
 refine qC [0, 1] ?_
 iterate 2 refine gx ?_
 refine qv (fun g1 hg1 => ?_)
 iterate 8 refine gx ?_
 by_cases c1 : o ≤ p
 ·refine qB (qA rfl) rfl (qP (zb rfl rfl rfl) c1) ?_
  iterate 6 refine gx ?_
  refine qB (qJ rfl rfl rfl) rfl (qR rfl rfl rfl (r := (o + l)) (w64 (by omega) (by omega))) ?_
  iterate 6 refine gx ?_
  exact qK rfl rfl (fun w hs => ⟨dec_iff (by unfold hasB; dsimp only; omega), (hs.drop (by assumption))⟩)
 ·refine qB (qA rfl) rfl (qU (zb rfl rfl rfl) c1) ?_
  iterate 13 refine gx ?_
  exact qK rfl rfl (fun w hs => ⟨dec_f (by unfold hasB; dsimp only; omega), (hs.drop (by assumption))⟩)
theorem rhas_c (x : CV) (p : Int) (h : -9223372036854775808 ≤ x.t + lenV x.k x.l x.m ∧ x.t + lenV x.k x.l x.m ≤ 9223372036854775807) (w : World) : Calls Tryz.prog 110 #[.agg ([int .i64 x.k, int .i64 x.t, int .i64 x.f, int .i64 x.l, slice x.A x.m x.c]).toArray, .int .i64 p] w fun e w' => e = .returned (.bool (decide (hasB (tg x) p))) ∧ St w [] w' := by
 refine qL (args := [.agg ([int .i64 x.k, int .i64 x.t, int .i64 x.f, int .i64 x.l, slice x.A x.m x.c]).toArray, .int .i64 p]) Tryz.func110 rfl Tryz.ntmps110 (by simp) ?_
 refine qC [0, 1] ?_
 iterate 2 refine gx ?_
 refine qv (fun g1 hg1 => ?_)
 iterate 6 refine gx ?_
 refine qM (qA rfl) rfl enters43 rfl rfl (v := .agg ([int .i64 x.t, int .i64 (lenV x.k x.l x.m)]).toArray) (fun w hs => rtarget_c x.k x.t x.f x.l x.A x.m x.c w) ?_
 refine gx ?_
 refine qM (qA rfl) rfl enters121 rfl rfl (v := .bool (decide (hasB (x.t, lenV x.k x.l x.m) p))) (fun w hs => rHas_c x.t (lenV x.k x.l x.m) p (by omega) w) ?_
 iterate 4 refine gx ?_
 exact qK rfl rfl (fun w hs => ⟨dec_iff (Iff.rfl), (hs.drop (by assumption))⟩)
theorem rfind_c (o n : Int) (H1 H2 : List Int) (hH1 : H1.length = 32) (hH2 : H2.length = 32) (A : Option Addr) (m c : Nat) (Cs : List CV) (p : Int) (hV : ∀ (i : Nat) (x : CV), Cs[i]? = some x → vld x.t (lenV x.k x.l x.m)) (hmm : m ≤ 1000000000) (hN : NumsC Cs) (w : World) (hC : SrcC w A m Cs)  : Calls Tryz.prog 79 #[.agg (dV o n H1 H2 (slice A m c)).toArray, .int .i64 p] w fun e w' => e = .returned (.int .i64 (findI Cs p)) ∧ St w [] w' := by
 refine qL (args := [.agg (dV o n H1 H2 (slice A m c)).toArray, .int .i64 p]) Tryz.func79 rfl Tryz.ntmps79 (by simp) ?_
 refine qC [0, 1] ?_
 iterate 2 refine gx ?_
 refine zQ (qA rfl) rfl rfl rfl (cs := dV o n H1 H2 (slice A m c)) (by simp [Value.cells]) (tot := 67) (by simp [hH1, hH2]) (fun g1 hg1 => ?_)
 iterate 10 refine gx ?_
 refine qr (ι := Nat) (fun i => [(1, .int .i64 p), (2, .pointer (some ⟨g1, 0, none⟩)), (5, .int .i64 (i : Int))]) (fun i => [⟨g1, 27, dV o n H1 H2 (slice A m c), 67⟩]) (fun i => m - i) (fun i => i ≤ m ∧ ∀ (j : Nat) (y : CV), j < i → Cs[j]? = some y → ¬ hasB (tg y) p) 0 ⟨Nat.zero_le _, fun j y h => absurd h (Nat.not_lt_zero j)⟩ (qH (i := 1) rfl (by first | rfl | omega) (qI (i := 2) rfl (qH (i := 5) rfl (by first | omega | rfl) (qN)))) (fun w h => h) (fun i hC0 => ?_)
 obtain ⟨hC0, hC1⟩ := hC0
 iterate 10 refine gx ?_
 refine qX rfl (fun hq0 => ?_) (fun hq0 => ?_)
 ·obtain ⟨b, off, hAe, hb, hrw⟩ := hC.some_ (i := i) (by omega)
  subst hAe
  obtain ⟨x, hx⟩ := hC.get (i := i) (by omega)
  have hnx := hN i x hx
  unfold NumC at hnx
  have hlbx := lenV_bd (k := x.k) (l := x.l) (m := x.m) (by omega) (by omega)
  have hvx := hV i x hx
  unfold vld at hvx
  iterate 9 refine gx ?_
  refine qB (qA rfl) rfl (ql rfl Tryz.underlying25 size61 rfl rfl (i := i) (by omega) (by omega) (off' := (off + 5 * i)) (by omega)) ?_
  refine qB (qA rfl) rfl (qg rfl agg61 size61 rfl rfl (zS (fun jj u h => hrw i x hx jj u h) hb (qE (by show g1 ≠ b; omega) qF))) ?_
  refine gx ?_
  refine qM (qA rfl) rfl enters110 rfl rfl (v := .bool (decide (hasB (tg x) p))) (fun w hs => rhas_c x p (by omega) w) ?_
  iterate 2 refine gx ?_
  refine qC [1, 2, 5, 19] ?_
  refine qX rfl (fun hq1 => ?_) (fun hq1 => ?_)
  ·iterate 12 refine gx ?_
   exact qK rfl rfl (fun w hs => ⟨ret_i ((findI_is (.inr ⟨i, x, rfl, hx, hq1, hC1⟩)).symm), (hs.drop (by assumption))⟩)
  ·iterate 5 refine gx ?_
   refine qB (qA rfl) rfl (qR rfl rfl rfl (r := ((i : Int) + 1)) (w64 (by omega) (by omega))) ?_
   iterate 2 refine gx ?_
   exact qj (i + 1) (by omega) ⟨by omega, all_succ hC1 hx hq1⟩ (qH (i := 1) rfl (by first | rfl | omega) (qI (i := 2) rfl (qH (i := 5) rfl (by first | omega | rfl) (qN)))) (fun w h => h)
 ·iterate 11 refine gx ?_
  exact qK rfl rfl (fun w hs => ⟨ret_i ((findI_is (.inl ⟨rfl, all_of (m := m) (by have := hC.1; omega) (fun j y hj => hC1 j y (by omega))⟩)).symm), (hs.drop (by assumption))⟩)
/-
 The reference of layer 5: gap, Check, Valid.
-/
theorem agg27 : (isAgg 27).run Tryz.prog = fun w => .ok true w := isAgg_yes Tryz.underlying27 rfl
theorem enters41 : Enters Tryz.prog 41 := ⟨_, Tryz.func41, by kernel_rfl, by kernel_rfl⟩
theorem enters42 : Enters Tryz.prog 42 := ⟨_, Tryz.func42, by kernel_rfl, by kernel_rfl⟩
theorem enters44 : Enters Tryz.prog 44 := ⟨_, Tryz.func44, by kernel_rfl, by kernel_rfl⟩
theorem enters79 : Enters Tryz.prog 79 := ⟨_, Tryz.func79, by kernel_rfl, by kernel_rfl⟩
theorem size27 : (Tryz.prog.info? 27).map (·.size) = some 67 := by kernel_rfl
instance : AgY Tryz.prog 27 := ⟨agg27⟩
instance : Siz Tryz.prog 27 67 := ⟨size27⟩
theorem rgap_c (o n : Int) (H1 H2 : List Int) (hH1 : H1.length = 32) (hH2 : H2.length = 32) (A : Option Addr) (m c : Nat) (Cs : List CV) (hV : ∀ (i : Nat) (x : CV), Cs[i]? = some x → vld x.t (lenV x.k x.l x.m)) (hmm : m ≤ 1000000000) (hN : NumsC Cs) (w : World) (hC : SrcC w A m Cs)  : Calls Tryz.prog 44 #[.agg (dV o n H1 H2 (slice A m c)).toArray] w fun e w' => e = .returned (.int .i64 (gapI n Cs)) ∧ St w [] w' := by
 refine qL (args := [.agg (dV o n H1 H2 (slice A m c)).toArray]) Tryz.func44 rfl Tryz.ntmps44 (by simp) ?_
 refine qC [0] ?_
 iterate 2 refine gx ?_
 refine zQ (qA rfl) rfl rfl rfl (cs := dV o n H1 H2 (slice A m c)) (by simp [Value.cells]) (tot := 67) (by simp [hH1, hH2]) (fun g1 hg1 => ?_)
 iterate 15 refine gx ?_
 refine qr (ι := Nat × Int) (fun y => [(1, .pointer (some ⟨g1, 0, none⟩)), (3, .int .i64 y.2), (4, .int .i64 ((y.1 : Int) - 1))]) (fun y => [⟨g1, 27, dV o n H1 H2 (slice A m c), 67⟩]) (fun y => m + 1 - y.1) (fun y => y.1 ≤ m + 1 ∧ gapQ n Cs y.1 y.2) ((0, -1) : Nat × Int) ⟨Nat.zero_le _, gapQ_zero n Cs⟩ (qI (i := 1) rfl (qH (i := 3) rfl rfl (qH (i := 4) rfl rfl (qN)))) (fun w h => h) (fun y hC0 => ?_)
 obtain ⟨i, q⟩ := y
 obtain ⟨hC0, hQ⟩ := hC0
 dsimp only at hC0 hQ ⊢
 iterate 10 refine gx ?_
 refine qX rfl (fun hq0 => ?_) (fun hq0 => ?_)
 ·iterate 9 refine gx ?_
  refine qC [1, 3, 4, 5] ?_
  iterate 7 refine gx ?_
  refine qX rfl (fun hq1 => ?_) (fun hq1 => ?_)
  ·obtain ⟨i1, rfl⟩ : ∃ i1, i = i1 + 1 := ⟨i - 1, by omega⟩
   obtain ⟨b, off, hAe, hb, hrw⟩ := hC.some_ (i := i1) (by omega)
   subst hAe
   obtain ⟨x, hx⟩ := hC.get (i := i1) (by omega)
   have hnx := hN i1 x hx
   unfold NumC at hnx
   have hlbx := lenV_bd (k := x.k) (l := x.l) (m := x.m) (by omega) (by omega)
   have hvx := hV i1 x hx
   unfold vld at hvx
   refine qy (by kernel_rfl) [0, 1, 0, 0, 0, 1, 0, 1, 0, 0, 1, 1, 0, 0] rfl (by kernel_rfl) ?_
   iterate 3 refine gx ?_
   refine qG (qA rfl) rfl (fun _ => ql rfl Tryz.underlying25 size61 rfl rfl (i := i1) (by omega) (by omega) (off' := (off + 5 * i1)) (by omega)) ?_
   refine qG (qA rfl) rfl (fun _ => zE rfl Tryz.underlying61 rfl size3 rfl (off' := (off + 5 * i1 + 1)) (by first | rfl | omega)) ?_
   refine qk (qA rfl) rfl (qS rfl agg3 rfl (At.old (hrw i1 x hx 1 _ rfl) hb (qE (by show g1 ≠ b; omega) qF))) ?_
   iterate 3 refine gx ?_
   refine qG (qA rfl) rfl (fun _ => ql rfl Tryz.underlying25 size61 rfl rfl (i := i1) (by omega) (by omega) (off' := (off + 5 * i1)) (by omega)) ?_
   refine qk (qA rfl) rfl (qg rfl agg61 size61 rfl rfl (zS (fun jj u h => hrw i1 x hx jj u h) hb (qE (by show g1 ≠ b; omega) qF))) ?_
   refine zM (qA rfl) rfl enters78 rfl rfl (v := .int .i64 (lenV x.k x.l x.m)) (fun w hs => rlen_c x.k x.t x.f x.l x.A x.m x.c w) ?_
   refine qG (qA rfl) rfl (fun _ => qR rfl rfl rfl (r := (x.t + (lenV x.k x.l x.m))) (w64 (by omega) (by omega))) ?_
   iterate 3 refine gx ?_
   refine qC [1, 3, 4, 5] ?_
   iterate 5 refine gx ?_
   by_cases u1 : (x.t + (lenV x.k x.l x.m)) < n
   ·refine qB (qA rfl) rfl (qP (zC rfl rfl rfl) u1) ?_
    iterate 3 refine gx ?_
    refine qM (qJ rfl rfl rfl) rfl enters79 rfl rfl (v := .int .i64 (findI Cs (x.t + (lenV x.k x.l x.m)))) (fun w hs => rfind_c o n H1 H2 hH1 hH2 (some ⟨b, off, none⟩) m c Cs (x.t + (lenV x.k x.l x.m)) hV hmm hN w (hC.at_ hs (fun b hb => (qE (by show g1 ≠ b; omega) qF)))) ?_
    by_cases u2 : (findI Cs (x.t + (lenV x.k x.l x.m))) < 0
    ·refine qB (qJ rfl rfl rfl) rfl (qP (zC rfl rfl rfl) u2) ?_
     iterate 3 refine gx ?_
     by_cases u3 : q < 0
     ·refine qB (qJ rfl rfl rfl) rfl (qP (zC rfl rfl rfl) u3) ?_
      iterate 8 refine gx ?_
      refine qC [1, 3, 4, 5, 46] ?_
      refine qd rfl ?_
      iterate 8 refine gx ?_
      refine qB (qA rfl) rfl (qR rfl rfl rfl (r := ((i1 : Int) + 1)) (w64 (by omega) (by omega))) ?_
      iterate 2 refine gx ?_
      exact qj (((i1 + 2), (x.t + (lenV x.k x.l x.m))) : Nat × Int) (by dsimp only; omega) ⟨by show (i1 + 1) + 1 ≤ m + 1; omega, gapQ_step (d := (x.t + lenV x.k x.l x.m)) hQ (by omega) (candI_succ hx) (by have hfi := findI_free (Cs := Cs) (off := (x.t + lenV x.k x.l x.m)); first | exact .inl ⟨by omega, hfi.1 (by omega), by omega, rfl⟩ | exact .inr ⟨fun h => by have h2 := hfi.2 h.2.1; have h3 := h.1; have h4 := h.2.2; omega, rfl⟩)⟩ (qI (i := 1) rfl (qH (i := 3) rfl rfl (qH (i := 4) rfl (by dsimp only; omega) (qN)))) (fun w h => h)
     ·refine qB (qJ rfl rfl rfl) rfl (qU (zC rfl rfl rfl) u3) ?_
      iterate 3 refine gx ?_
      by_cases u4 : (x.t + (lenV x.k x.l x.m)) < q
      ·refine qB (qJ rfl rfl rfl) rfl (qP (zC rfl rfl rfl) u4) ?_
       iterate 4 refine gx ?_
       refine qC [1, 3, 4, 5, 46] ?_
       refine qd rfl ?_
       iterate 8 refine gx ?_
       refine qB (qA rfl) rfl (qR rfl rfl rfl (r := ((i1 : Int) + 1)) (w64 (by omega) (by omega))) ?_
       iterate 2 refine gx ?_
       exact qj (((i1 + 2), (x.t + (lenV x.k x.l x.m))) : Nat × Int) (by dsimp only; omega) ⟨by show (i1 + 1) + 1 ≤ m + 1; omega, gapQ_step (d := (x.t + lenV x.k x.l x.m)) hQ (by omega) (candI_succ hx) (by have hfi := findI_free (Cs := Cs) (off := (x.t + lenV x.k x.l x.m)); first | exact .inl ⟨by omega, hfi.1 (by omega), by omega, rfl⟩ | exact .inr ⟨fun h => by have h2 := hfi.2 h.2.1; have h3 := h.1; have h4 := h.2.2; omega, rfl⟩)⟩ (qI (i := 1) rfl (qH (i := 3) rfl rfl (qH (i := 4) rfl (by dsimp only; omega) (qN)))) (fun w h => h)
      ·refine qB (qJ rfl rfl rfl) rfl (qU (zC rfl rfl rfl) u4) ?_
       iterate 4 refine gx ?_
       refine qC [1, 3, 4, 5, 46] ?_
       refine qW rfl ?_
       iterate 5 refine gx ?_
       refine qB (qA rfl) rfl (qR rfl rfl rfl (r := ((i1 : Int) + 1)) (w64 (by omega) (by omega))) ?_
       iterate 2 refine gx ?_
       exact qj (((i1 + 2), q) : Nat × Int) (by dsimp only; omega) ⟨by show (i1 + 1) + 1 ≤ m + 1; omega, gapQ_step (d := (x.t + lenV x.k x.l x.m)) hQ (by omega) (candI_succ hx) (by have hfi := findI_free (Cs := Cs) (off := (x.t + lenV x.k x.l x.m)); first | exact .inl ⟨by omega, hfi.1 (by omega), by omega, rfl⟩ | exact .inr ⟨fun h => by have h2 := hfi.2 h.2.1; have h3 := h.1; have h4 := h.2.2; omega, rfl⟩)⟩ (qI (i := 1) rfl (qH (i := 3) rfl rfl (qH (i := 4) rfl (by dsimp only; omega) (qN)))) (fun w h => h)
    ·refine qB (qJ rfl rfl rfl) rfl (qU (zC rfl rfl rfl) u2) ?_
     iterate 12 refine gx ?_
     refine qC [1, 3, 4, 5, 46] ?_
     refine qW rfl ?_
     iterate 5 refine gx ?_
     refine qB (qA rfl) rfl (qR rfl rfl rfl (r := ((i1 : Int) + 1)) (w64 (by omega) (by omega))) ?_
     iterate 2 refine gx ?_
     exact qj (((i1 + 2), q) : Nat × Int) (by dsimp only; omega) ⟨by show (i1 + 1) + 1 ≤ m + 1; omega, gapQ_step (d := (x.t + lenV x.k x.l x.m)) hQ (by omega) (candI_succ hx) (by have hfi := findI_free (Cs := Cs) (off := (x.t + lenV x.k x.l x.m)); first | exact .inl ⟨by omega, hfi.1 (by omega), by omega, rfl⟩ | exact .inr ⟨fun h => by have h2 := hfi.2 h.2.1; have h3 := h.1; have h4 := h.2.2; omega, rfl⟩)⟩ (qI (i := 1) rfl (qH (i := 3) rfl rfl (qH (i := 4) rfl (by dsimp only; omega) (qN)))) (fun w h => h)
   ·refine qB (qA rfl) rfl (qU (zC rfl rfl rfl) u1) ?_
    iterate 17 refine gx ?_
    refine qC [1, 3, 4, 5, 46] ?_
    refine qW rfl ?_
    iterate 5 refine gx ?_
    refine qB (qA rfl) rfl (qR rfl rfl rfl (r := ((i1 : Int) + 1)) (w64 (by omega) (by omega))) ?_
    iterate 2 refine gx ?_
    exact qj (((i1 + 2), q) : Nat × Int) (by dsimp only; omega) ⟨by show (i1 + 1) + 1 ≤ m + 1; omega, gapQ_step (d := (x.t + lenV x.k x.l x.m)) hQ (by omega) (candI_succ hx) (by have hfi := findI_free (Cs := Cs) (off := (x.t + lenV x.k x.l x.m)); first | exact .inl ⟨by omega, hfi.1 (by omega), by omega, rfl⟩ | exact .inr ⟨fun h => by have h2 := hfi.2 h.2.1; have h3 := h.1; have h4 := h.2.2; omega, rfl⟩)⟩ (qI (i := 1) rfl (qH (i := 3) rfl rfl (qH (i := 4) rfl (by dsimp only; omega) (qN)))) (fun w h => h)
  ·obtain rfl : i = 0 := by omega
   iterate 7 refine gx ?_
   by_cases u1 : (0 : Int) < n
   ·refine qB (qA rfl) rfl (qP (zC rfl rfl rfl) u1) ?_
    iterate 3 refine gx ?_
    refine qM (qJ rfl rfl rfl) rfl enters79 rfl rfl (v := .int .i64 (findI Cs 0)) (fun w hs => rfind_c o n H1 H2 hH1 hH2 A m c Cs 0 hV hmm hN w (hC.at_ hs (fun b hb => (qE (by show g1 ≠ b; omega) qF)))) ?_
    by_cases u2 : (findI Cs 0) < 0
    ·refine qB (qJ rfl rfl rfl) rfl (qP (zC rfl rfl rfl) u2) ?_
     iterate 3 refine gx ?_
     by_cases u3 : q < 0
     ·refine qB (qJ rfl rfl rfl) rfl (qP (zC rfl rfl rfl) u3) ?_
      iterate 8 refine gx ?_
      refine qC [1, 3, 4, 5, 46] ?_
      refine qd rfl ?_
      iterate 8 refine gx ?_
      refine qB (qA rfl) rfl (qR rfl rfl rfl (r := 0) (w64 (by omega) (by omega))) ?_
      iterate 2 refine gx ?_
      exact qj ((1, 0) : Nat × Int) (by dsimp only; omega) ⟨by show 0 + 1 ≤ m + 1; omega, gapQ_step (d := 0) hQ (by omega) (candI_zero) (by have hfi := findI_free (Cs := Cs) (off := 0); first | exact .inl ⟨by omega, hfi.1 (by omega), by omega, rfl⟩ | exact .inr ⟨fun h => by have h2 := hfi.2 h.2.1; have h3 := h.1; have h4 := h.2.2; omega, rfl⟩)⟩ (qI (i := 1) rfl (qH (i := 3) rfl rfl (qH (i := 4) rfl (by dsimp only; omega) (qN)))) (fun w h => h)
     ·refine qB (qJ rfl rfl rfl) rfl (qU (zC rfl rfl rfl) u3) ?_
      iterate 3 refine gx ?_
      by_cases u4 : (0 : Int) < q
      ·refine qB (qJ rfl rfl rfl) rfl (qP (zC rfl rfl rfl) u4) ?_
       iterate 4 refine gx ?_
       refine qC [1, 3, 4, 5, 46] ?_
       refine qd rfl ?_
       iterate 8 refine gx ?_
       refine qB (qA rfl) rfl (qR rfl rfl rfl (r := 0) (w64 (by omega) (by omega))) ?_
       iterate 2 refine gx ?_
       exact qj ((1, 0) : Nat × Int) (by dsimp only; omega) ⟨by show 0 + 1 ≤ m + 1; omega, gapQ_step (d := 0) hQ (by omega) (candI_zero) (by have hfi := findI_free (Cs := Cs) (off := 0); first | exact .inl ⟨by omega, hfi.1 (by omega), by omega, rfl⟩ | exact .inr ⟨fun h => by have h2 := hfi.2 h.2.1; have h3 := h.1; have h4 := h.2.2; omega, rfl⟩)⟩ (qI (i := 1) rfl (qH (i := 3) rfl rfl (qH (i := 4) rfl (by dsimp only; omega) (qN)))) (fun w h => h)
      ·refine qB (qJ rfl rfl rfl) rfl (qU (zC rfl rfl rfl) u4) ?_
       iterate 4 refine gx ?_
       refine qC [1, 3, 4, 5, 46] ?_
       refine qW rfl ?_
       iterate 5 refine gx ?_
       refine qB (qA rfl) rfl (qR rfl rfl rfl (r := 0) (w64 (by omega) (by omega))) ?_
       iterate 2 refine gx ?_
       exact qj ((1, q) : Nat × Int) (by dsimp only; omega) ⟨by show 0 + 1 ≤ m + 1; omega, gapQ_step (d := 0) hQ (by omega) (candI_zero) (by have hfi := findI_free (Cs := Cs) (off := 0); first | exact .inl ⟨by omega, hfi.1 (by omega), by omega, rfl⟩ | exact .inr ⟨fun h => by have h2 := hfi.2 h.2.1; have h3 := h.1; have h4 := h.2.2; omega, rfl⟩)⟩ (qI (i := 1) rfl (qH (i := 3) rfl rfl (qH (i := 4) rfl (by dsimp only; omega) (qN)))) (fun w h => h)
    ·refine qB (qJ rfl rfl rfl) rfl (qU (zC rfl rfl rfl) u2) ?_
     iterate 12 refine gx ?_
     refine qC [1, 3, 4, 5, 46] ?_
     refine qW rfl ?_
     iterate 5 refine gx ?_
     refine qB (qA rfl) rfl (qR rfl rfl rfl (r := 0) (w64 (by omega) (by omega))) ?_
     iterate 2 refine gx ?_
     exact qj ((1, q) : Nat × Int) (by dsimp only; omega) ⟨by show 0 + 1 ≤ m + 1; omega, gapQ_step (d := 0) hQ (by omega) (candI_zero) (by have hfi := findI_free (Cs := Cs) (off := 0); first | exact .inl ⟨by omega, hfi.1 (by omega), by omega, rfl⟩ | exact .inr ⟨fun h => by have h2 := hfi.2 h.2.1; have h3 := h.1; have h4 := h.2.2; omega, rfl⟩)⟩ (qI (i := 1) rfl (qH (i := 3) rfl rfl (qH (i := 4) rfl (by dsimp only; omega) (qN)))) (fun w h => h)
   ·refine qB (qA rfl) rfl (qU (zC rfl rfl rfl) u1) ?_
    iterate 17 refine gx ?_
    refine qC [1, 3, 4, 5, 46] ?_
    refine qW rfl ?_
    iterate 5 refine gx ?_
    refine qB (qA rfl) rfl (qR rfl rfl rfl (r := 0) (w64 (by omega) (by omega))) ?_
    iterate 2 refine gx ?_
    exact qj ((1, q) : Nat × Int) (by dsimp only; omega) ⟨by show 0 + 1 ≤ m + 1; omega, gapQ_step (d := 0) hQ (by omega) (candI_zero) (by have hfi := findI_free (Cs := Cs) (off := 0); first | exact .inl ⟨by omega, hfi.1 (by omega), by omega, rfl⟩ | exact .inr ⟨fun h => by have h2 := hfi.2 h.2.1; have h3 := h.1; have h4 := h.2.2; omega, rfl⟩)⟩ (qI (i := 1) rfl (qH (i := 3) rfl rfl (qH (i := 4) rfl (by dsimp only; omega) (qN)))) (fun w h => h)
 ·obtain rfl : i = m + 1 := by omega
  iterate 12 refine gx ?_
  exact qK rfl rfl (fun w hs => ⟨ret_i ((gap_end hC.1 hQ).symm), (hs.drop (by assumption))⟩)
theorem roverlap_g (o l p n : Int) (ho : -9223372036854775808 ≤ o + l ∧ o + l ≤ 9223372036854775807) (hp : -9223372036854775808 ≤ p + n ∧ p + n ≤ 9223372036854775807) (bo : 0 ≤ o) (bp : 0 ≤ p) (w : World) : Calls Tryz.prog 42 #[.agg ([int .i64 o, int .i64 l]).toArray, .agg ([int .i64 p, int .i64 n]).toArray] w fun e w' => e = .returned (.agg ([int .i64 (ovO o l p n), int .i64 (ovL o l p n)]).toArray) ∧ St w [] w' := by
 unfold ovO ovL
 by_cases hc : min (o + l) (p + n) ≤ max o p
 ·rw [if_pos hc, if_pos hc]; exact roverlap_no o l p n ho hp hc w
 ·rw [if_neg hc, if_neg hc]; exact roverlap_yes o l p n ho hp hc bo bp w
theorem rdcheck_c (o n : Int) (H1 H2 : List Int) (hH1 : H1.length = 32) (hH2 : H2.length = 32) (A : Option Addr) (m c : Nat) (Cs : List CV) (hmm : m ≤ 1000000000) (hN : NumsC Cs) (w : World) (hC : SrcC w A m Cs)  : Calls Tryz.prog 16 #[.agg (dV o n H1 H2 (slice A m c)).toArray] w fun e w' => e = .returned (.tuple #[.int .i64 (faultI o n Cs).1, .int .i64 (faultI o n Cs).2]) ∧ St w [] w' := by
 refine qL (args := [.agg (dV o n H1 H2 (slice A m c)).toArray]) Tryz.func16 rfl Tryz.ntmps16 (by simp) ?_
 refine qC [0] ?_
 iterate 2 refine gx ?_
 refine zQ (qA rfl) rfl rfl rfl (cs := dV o n H1 H2 (slice A m c)) (by simp [Value.cells]) (tot := 67) (by simp [hH1, hH2]) (fun g1 hg1 => ?_)
 iterate 6 refine gx ?_
 refine qy (by kernel_rfl) [0, 1, 0, 0, 0, 1, 0, 0, 0, 0, 1, 1, 0, 0, 0, 0, 1, 1, 0, 0] rfl (by kernel_rfl) ?_
 iterate 2 refine gx ?_
 by_cases u1 : o < 0
 ·refine qG (qA rfl) rfl (fun _ => qP (zC rfl rfl rfl) u1) ?_
  refine gx ?_
  refine zF rfl rfl rfl rfl rfl ?_
  refine zI rfl rfl rfl rfl rfl ?_
  refine zF rfl rfl rfl rfl rfl ?_
  iterate 2 refine gx ?_
  refine zF rfl rfl rfl rfl rfl ?_
  refine zI rfl rfl rfl rfl rfl ?_
  refine zI rfl rfl rfl rfl rfl ?_
  refine zF rfl rfl rfl rfl rfl ?_
  iterate 2 refine gx ?_
  refine zF rfl rfl rfl rfl rfl ?_
  refine zI rfl rfl rfl rfl rfl ?_
  refine zI rfl rfl rfl rfl rfl ?_
  refine zF rfl rfl rfl rfl rfl ?_
  iterate 3 refine gx ?_
  refine qC [1, 2, 3, 28] ?_
  refine qd rfl ?_
  iterate 8 refine gx ?_
  exact TE.ret2 rfl rfl rfl (fun w hs => ⟨by have hf := faultI_len (o := o) (n := n) (Cs := Cs) (by unfold okLen; omega); rw [hf], (hs.drop (by assumption))⟩)
 ·refine qG (qA rfl) rfl (fun _ => qU (zC rfl rfl rfl) u1) ?_
  iterate 3 refine gx ?_
  by_cases u2 : n < 0
  ·refine qG (qJ rfl rfl rfl) rfl (fun _ => qP (zC rfl rfl rfl) u2) ?_
   iterate 2 refine gx ?_
   refine zF rfl rfl rfl rfl rfl ?_
   refine zI rfl rfl rfl rfl rfl ?_
   refine zI rfl rfl rfl rfl rfl ?_
   refine zF rfl rfl rfl rfl rfl ?_
   iterate 2 refine gx ?_
   refine zF rfl rfl rfl rfl rfl ?_
   refine zI rfl rfl rfl rfl rfl ?_
   refine zI rfl rfl rfl rfl rfl ?_
   refine zF rfl rfl rfl rfl rfl ?_
   iterate 3 refine gx ?_
   refine qC [1, 2, 3, 28] ?_
   refine qd rfl ?_
   iterate 8 refine gx ?_
   exact TE.ret2 rfl rfl rfl (fun w hs => ⟨by have hf := faultI_len (o := o) (n := n) (Cs := Cs) (by unfold okLen; omega); rw [hf], (hs.drop (by assumption))⟩)
  ·refine qG (qJ rfl rfl rfl) rfl (fun _ => qU (zC rfl rfl rfl) u2) ?_
   iterate 4 refine gx ?_
   refine zM (qJ rfl rfl rfl) rfl enters40 rfl rfl (v := .int .i64 4611686018427387903) (fun w hs => max_c w) ?_
   by_cases u3 : 4611686018427387903 < o
   ·refine qG (qJ rfl rfl rfl) rfl (fun _ => qP (zJ rfl rfl rfl) u3) ?_
    iterate 2 refine gx ?_
    refine zF rfl rfl rfl rfl rfl ?_
    refine zI rfl rfl rfl rfl rfl ?_
    refine zI rfl rfl rfl rfl rfl ?_
    refine zF rfl rfl rfl rfl rfl ?_
    iterate 3 refine gx ?_
    refine qC [1, 2, 3, 28] ?_
    refine qd rfl ?_
    iterate 8 refine gx ?_
    exact TE.ret2 rfl rfl rfl (fun w hs => ⟨by have hf := faultI_len (o := o) (n := n) (Cs := Cs) (by unfold okLen; omega); rw [hf], (hs.drop (by assumption))⟩)
   ·refine qG (qJ rfl rfl rfl) rfl (fun _ => qU (zJ rfl rfl rfl) u3) ?_
    iterate 4 refine gx ?_
    refine zM (qJ rfl rfl rfl) rfl enters40 rfl rfl (v := .int .i64 4611686018427387903) (fun w hs => max_c w) ?_
    by_cases u4 : 4611686018427387903 < n
    ·refine qG (qJ rfl rfl rfl) rfl (fun _ => qP (zJ rfl rfl rfl) u4) ?_
     iterate 3 refine gx ?_
     refine qC [1, 2, 3, 28] ?_
     refine qd rfl ?_
     iterate 8 refine gx ?_
     exact TE.ret2 rfl rfl rfl (fun w hs => ⟨by have hf := faultI_len (o := o) (n := n) (Cs := Cs) (by unfold okLen; omega); rw [hf], (hs.drop (by assumption))⟩)
    ·refine qG (qJ rfl rfl rfl) rfl (fun _ => qU (zJ rfl rfl rfl) u4) ?_
     iterate 3 refine gx ?_
     refine qC [1, 2, 3, 28] ?_
     refine qW rfl ?_
     iterate 9 refine gx ?_
     refine qr (ι := Nat) (fun i => [(1, .pointer (some ⟨g1, 0, none⟩)), (4, .int .i64 (i : Int))]) (fun i => [⟨g1, 27, dV o n H1 H2 (slice A m c), 67⟩]) (fun i => m - i) (fun i => i ≤ m ∧ ∀ (j : Nat) (y : CV), j < i → Cs[j]? = some y → singleV o n y = 0) 0 ⟨Nat.zero_le _, fun j y h => absurd h (Nat.not_lt_zero j)⟩ (qI (i := 1) rfl (qH (i := 4) rfl (by first | omega | rfl) (qN))) (fun w h => h) (fun i hC0 => ?_)
     obtain ⟨hC0, hA1⟩ := hC0
     iterate 10 refine gx ?_
     refine qX rfl (fun hq1 => ?_) (fun hq1 => ?_)
     ·obtain ⟨b, off, hAe, hb, hrw⟩ := hC.some_ (i := i) (by omega)
      subst hAe
      obtain ⟨x, hx⟩ := hC.get (i := i) (by omega)
      have hnx := hN i x hx
      unfold NumC at hnx
      have hlbx := lenV_bd (k := x.k) (l := x.l) (m := x.m) (by omega) (by omega)
      iterate 5 refine gx ?_
      refine qy (by kernel_rfl) [1, 0, 1, 0, 0, 1, 1, 0] rfl (by kernel_rfl) ?_
      iterate 4 refine gx ?_
      refine qG (qA rfl) rfl (fun _ => ql rfl Tryz.underlying25 size61 rfl rfl (i := i) (by omega) (by omega) (off' := (off + 5 * i)) (by omega)) ?_
      refine qk (qA rfl) rfl (qg rfl agg61 size61 rfl rfl (zS (fun jj u h => hrw i x hx jj u h) hb (qE (by show g1 ≠ b; omega) qF))) ?_
      refine zM (qA rfl) rfl enters41 rfl rfl (v := .int .i64 (singleV o n x)) (fun w hs => single_c o n H1 H2 hH1 hH2 (some ⟨b, off, none⟩) m c Cs x (hN _ x hx) w) ?_
      iterate 3 refine gx ?_
      refine qC [1, 4, 5] ?_
      iterate 6 refine gx ?_
      refine qX rfl (fun hq2 => ?_) (fun hq2 => ?_)
      ·iterate 14 refine gx ?_
       exact TE.ret2 rfl rfl rfl (fun w hs => ⟨by have hf := faultI_single (show okLen o n by unfold okLen; omega) hx (by omega) hA1; rw [hf], (hs.drop (by assumption))⟩)
      ·iterate 5 refine gx ?_
       refine qB (qA rfl) rfl (qR rfl rfl rfl (r := ((i : Int) + 1)) (w64 (by omega) (by omega))) ?_
       iterate 2 refine gx ?_
       exact qj (i + 1) (by omega) ⟨by omega, all_succ hA1 hx (by omega)⟩ (qI (i := 1) rfl (qH (i := 4) rfl (by first | omega | rfl) (qN))) (fun w h => h)
     ·have hS : ∀ (i : Nat) (x : CV), Cs[i]? = some x → singleV o n x = 0 := all_of (m := m) (by have := hC.1; omega) (fun j y hj => hA1 j y (by omega))
      have hV : ∀ (i : Nat) (x : CV), Cs[i]? = some x → vld x.t (lenV x.k x.l x.m) := fun i x hx => (single_vld (hS i x hx)).1
      iterate 12 refine gx ?_
      refine qr (ι := Nat) (fun i => [(1, .pointer (some ⟨g1, 0, none⟩)), (6, .int .i64 (i : Int))]) (fun i => [⟨g1, 27, dV o n H1 H2 (slice A m c), 67⟩]) (fun i => m - i) (fun i => i ≤ m ∧ ∀ i', i' < i → ¬ bad2 Cs i') 0 ⟨Nat.zero_le _, fun i h => absurd h (Nat.not_lt_zero i)⟩ (qI (i := 1) rfl (qH (i := 6) rfl (by first | omega | rfl) (qN))) (fun w h => h) (fun i hC1 => ?_)
      obtain ⟨hC1, hB1⟩ := hC1
      iterate 10 refine gx ?_
      refine qX rfl (fun hq3 => ?_) (fun hq3 => ?_)
      ·obtain ⟨b, off, hAe, hb, hrw⟩ := hC.some_ (i := i) (by omega)
       subst hAe
       obtain ⟨x, hx⟩ := hC.get (i := i) (by omega)
       have hnx := hN i x hx
       unfold NumC at hnx
       have hlbx := lenV_bd (k := x.k) (l := x.l) (m := x.m) (by omega) (by omega)
       have hvx := single_vld (hS i x hx)
       unfold vld at hvx
       iterate 10 refine gx ?_
       refine qr (ι := Nat) (fun j => [(1, .pointer (some ⟨g1, 0, none⟩)), (6, .int .i64 (i : Int)), (7, .int .i64 (j : Int))]) (fun j => [⟨g1, 27, [int .i64 o, int .i64 n] ++ (H1.map (int .u8) ++ (H2.map (int .u8) ++ ([slice (some ⟨b, off, none⟩) m c]))), 67⟩]) (fun j => i - j) (fun j => j ≤ i ∧ ∀ (j' : Nat) (y : CV), j' < j → Cs[j']? = some y → ¬ meets (tg x).1 (tg x).2 (tg y).1 (tg y).2) 0 ⟨Nat.zero_le _, fun j y h => absurd h (Nat.not_lt_zero j)⟩ (qI (i := 1) rfl (qH (i := 6) rfl (by first | omega | rfl) (qH (i := 7) rfl (by first | omega | rfl) (qN)))) (fun w h => h) (fun j hC2 => ?_)
       obtain ⟨hC2, hj2⟩ := hC2
       iterate 8 refine gx ?_
       refine qX rfl (fun hq4 => ?_) (fun hq4 => ?_)
       ·obtain ⟨y, hy⟩ := hC.get (i := j) (by omega)
        have hny := hN j y hy
        unfold NumC at hny
        have hvy := (single_vld (hS j y hy))
        unfold vld at hvy
        have hq4n : j < i := by omega
        iterate 5 refine gx ?_
        refine qy (by kernel_rfl) [0, 1, 0, 0, 1, 1, 0, 1, 0, 0, 1, 1, 1, 0, 0] rfl (by kernel_rfl) ?_
        iterate 3 refine gx ?_
        refine qG (qA rfl) rfl (fun _ => ql rfl Tryz.underlying25 size61 rfl rfl (i := i) (by omega) (by omega) (off' := (off + 5 * i)) (by omega)) ?_
        refine qk (qA rfl) rfl (qg rfl agg61 size61 rfl rfl (zS (fun jj u h => hrw i x hx jj u h) hb (qE (by show g1 ≠ b; omega) qF))) ?_
        refine zM (qA rfl) rfl enters43 rfl rfl (v := .agg ([int .i64 x.t, int .i64 (lenV x.k x.l x.m)]).toArray) (fun w hs => rtarget_c x.k x.t x.f x.l x.A x.m x.c w) ?_
        iterate 3 refine gx ?_
        refine qG (qA rfl) rfl (fun _ => ql rfl Tryz.underlying25 size61 rfl rfl (i := j) (by omega) (by omega) (off' := (off + 5 * j)) (by omega)) ?_
        refine qk (qA rfl) rfl (qg rfl agg61 size61 rfl rfl (zS (fun jj u h => hrw j y hy jj u h) hb (qE (by show g1 ≠ b; omega) qF))) ?_
        refine zM (qA rfl) rfl enters43 rfl rfl (v := .agg ([int .i64 y.t, int .i64 (lenV y.k y.l y.m)]).toArray) (fun w hs => rtarget_c y.k y.t y.f y.l y.A y.m y.c w) ?_
        refine zM (qA rfl) rfl enters42 rfl rfl (v := .agg ([int .i64 (ovO x.t (lenV x.k x.l x.m) y.t (lenV y.k y.l y.m)), int .i64 (ovL x.t (lenV x.k x.l x.m) y.t (lenV y.k y.l y.m))]).toArray) (fun w hs => roverlap_g x.t (lenV x.k x.l x.m) y.t (lenV y.k y.l y.m) (by omega) (by omega) (by omega) (by omega) w) ?_
        refine qG (qA rfl) rfl (fun _ => Gets.field1 rfl Tryz.underlying70 rfl rfl agg3 rfl) ?_
        iterate 3 refine gx ?_
        refine qC [1, 6, 7, 73] ?_
        refine qX rfl (fun hq5 => ?_) (fun hq5 => ?_)
        ·iterate 17 refine gx ?_
         exact TE.ret2 rfl rfl rfl (fun w hs => ⟨by have hf := faultI_over (show okLen o n by unfold okLen; omega) hS hx hq4n hy ((ovL_meets _ _ _ _).1 hq5) hB1; rw [hf], (hs.drop (by assumption))⟩)
        ·iterate 5 refine gx ?_
         refine qB (qA rfl) rfl (qR rfl rfl rfl (r := ((j : Int) + 1)) (w64 (by omega) (by omega))) ?_
         iterate 2 refine gx ?_
         exact qj (j + 1) (by omega) ⟨by omega, all_succ hj2 hy (fun hm => hq5 ((ovL_meets _ _ _ _).2 hm))⟩ (qI (i := 1) rfl (qH (i := 6) rfl (by first | omega | rfl) (qH (i := 7) rfl (by first | omega | rfl) (qN)))) (fun w h => h)
       ·iterate 8 refine gx ?_
        refine qB (qA rfl) rfl (qR rfl rfl rfl (r := ((i : Int) + 1)) (w64 (by omega) (by omega))) ?_
        iterate 2 refine gx ?_
        exact qj (i + 1) (by omega) ⟨by omega, bad2_succ hB1 hx (fun j' y' hj' => hj2 j' y' (by omega))⟩ (qI (i := 1) rfl (qH (i := 6) rfl (by first | omega | rfl) (qN))) (fun w h => h)
      ·have hB2 : ∀ i, ¬ bad2 Cs i := bad2_all (m := m) (by have := hC.1; omega) (fun i' hi => hB1 i' (by omega))
       iterate 8 refine gx ?_
       refine qM (qA rfl) rfl enters44 rfl rfl (v := .int .i64 (gapI n Cs)) (fun w hs => rgap_c o n H1 H2 hH1 hH2 A m c Cs hV hmm hN w (hC.at_ hs (fun b hb => (qE (by show g1 ≠ b; omega) qF)))) ?_
       iterate 3 refine gx ?_
       refine qC [8] ?_
       iterate 7 refine gx ?_
       refine qX rfl (fun hq6 => ?_) (fun hq6 => ?_)
       ·iterate 9 refine gx ?_
        exact TE.ret2 rfl rfl rfl (fun w hs => ⟨by have hf := (faultI_gap (show okLen o n by unfold okLen; omega) hS hB2).trans (if_pos hq6); rw [hf], (hs.drop (by assumption))⟩)
       ·iterate 9 refine gx ?_
        exact TE.ret2 rfl rfl rfl (fun w hs => ⟨by have hf := (faultI_gap (show okLen o n by unfold okLen; omega) hS hB2).trans (if_neg hq6); rw [hf], (hs.drop (by assumption))⟩)
/-
 The reference of layer 5: Totals.
-/
/-
 The reference of layer 5: All, Same.
-/
theorem enters17 : Enters Tryz.prog 17 := ⟨_, Tryz.func17, by kernel_rfl, by kernel_rfl⟩
theorem enters45 : Enters Tryz.prog 45 := ⟨_, Tryz.func45, by kernel_rfl, by kernel_rfl⟩
theorem geq24 : Tryz.prog.eqGuardType Tryz.prog.depth 24 = false := by kernel_rfl
instance : Fld Tryz.prog 27 2 2 := ⟨⟨_, _, _, Tryz.underlying27, rfl, size24, rfl⟩⟩
instance : Fld Tryz.prog 27 3 34 := ⟨⟨_, _, _, Tryz.underlying27, rfl, size24, rfl⟩⟩
theorem rall_c (A A2 : Option Addr) (m c m2 c2 : Nat) (Cs Es : List CV) (hmm : m ≤ 1000000000) (hmm2 : m2 ≤ 1000000000) (hN : NumsC Cs) (w : World) (hC : SrcC w A m Cs) (hC2 : SrcC w A2 m2 Es) (hD : DatC w Cs) (hE : DatC w Es) : Calls Tryz.prog 17 #[.slice A m c, .slice A2 m2 c2] w fun e w' => e = .returned (.bool (decide (sameC Cs Es))) ∧ St w [] w' := by
 refine qL (args := [.slice A m c, .slice A2 m2 c2]) Tryz.func17 rfl Tryz.ntmps17 (by simp) ?_
 refine qC [0, 1] ?_
 iterate 15 refine gx ?_
 refine qX rfl (fun hq0 => ?_) (fun hq0 => ?_)
 ·iterate 7 refine gx ?_
  exact qK rfl rfl (fun w hs => ⟨dec_f (fun h => by first | exact hq2 (sameC_at h hx hy) | (have h1 := sameC_len h; have h2 := hC.1; have h3 := hC2.1; omega)), hs⟩)
 ·iterate 8 refine gx ?_
  refine qC [0, 1, 4, 5] ?_
  refine gx ?_
  refine qr (ι := Nat) (fun i => [(0, .slice A m c), (1, .slice A2 m2 c2), (5, .int .i64 (i : Int))]) (fun i => []) (fun i => m - i) (fun i => i ≤ m ∧ ∀ (j : Nat) (x y : CV), j < i → Cs[j]? = some x → Es[j]? = some y → sameV x y) 0 ⟨Nat.zero_le _, fun j x y h => absurd h (Nat.not_lt_zero j)⟩ (qT (i := 0) rfl rfl (by first | omega | (dsimp only; omega) | rfl) (by first | omega | (dsimp only; omega) | rfl) (qT (i := 1) rfl rfl (by first | omega | (dsimp only; omega) | rfl) (by first | omega | (dsimp only; omega) | rfl) (qH (i := 5) rfl (by first | omega | rfl) (qN)))) (fun w h => h) (fun i hC0 => ?_)
  obtain ⟨hC0, hj⟩ := hC0
  iterate 9 refine gx ?_
  refine qX rfl (fun hq1 => ?_) (fun hq1 => ?_)
  ·obtain ⟨b, off, hAe, hb, hrw⟩ := hC.some_ (i := i) (by omega)
   subst hAe
   obtain ⟨x, hx⟩ := hC.get (i := i) (by omega)
   have hnx := hN i x hx
   unfold NumC at hnx
   have hlbx := lenV_bd (k := x.k) (l := x.l) (m := x.m) (by omega) (by omega)
   obtain ⟨b2, off2, hAe2, hb2, hrw2⟩ := hC2.some_ (i := i) (by omega)
   subst hAe2
   obtain ⟨y, hy⟩ := hC2.get (i := i) (by omega)
   iterate 5 refine gx ?_
   refine qy (by kernel_rfl) [0, 0, 0, 1, 0, 0, 0, 1, 1, 0] rfl (by kernel_rfl) ?_
   iterate 2 refine gx ?_
   refine qG (qA rfl) rfl (fun _ => ql rfl Tryz.underlying25 size61 rfl rfl (i := i) (by omega) (by omega) (off' := (off + 5 * i)) (by omega)) ?_
   refine qk (qA rfl) rfl (qg rfl agg61 size61 rfl rfl (zS (fun jj u h => hrw i x hx jj u h) hb qF)) ?_
   iterate 2 refine gx ?_
   refine qG (qA rfl) rfl (fun _ => ql rfl Tryz.underlying25 size61 rfl rfl (i := i) (by omega) (by omega) (off' := (off2 + 5 * i)) (by omega)) ?_
   refine qk (qA rfl) rfl (qg rfl agg61 size61 rfl rfl (zS (fun jj u h => hrw2 i y hy jj u h) hb2 qF)) ?_
   refine zM (qA rfl) rfl enters45 rfl rfl (v := .bool (decide (sameP x.k x.t x.f x.l y.k y.t y.f y.l x.B y.B))) (fun w hs => rsame_c x.k x.t x.f x.l y.k y.t y.f y.l x.A y.A x.m x.c y.m y.c x.B y.B (hD i x hx).2 (hE i y hy).2 w ((hD i x hx).1.at_ hs (fun b hb => qF)) ((hE i y hy).1.at_ hs (fun b hb => qF))) ?_
   iterate 3 refine gx ?_
   refine qC [0, 1, 5, 26] ?_
   refine qX rfl (fun hq2 => ?_) (fun hq2 => ?_)
   ·iterate 11 refine gx ?_
    exact qK rfl rfl (fun w hs => ⟨dec_f (fun h => by first | exact hq2 (sameC_at h hx hy) | (have h1 := sameC_len h; have h2 := hC.1; have h3 := hC2.1; omega)), hs⟩)
   ·iterate 5 refine gx ?_
    refine qB (qA rfl) rfl (qR rfl rfl rfl (r := ((i : Int) + 1)) (w64 (by omega) (by omega))) ?_
    iterate 2 refine gx ?_
    exact qj (i + 1) (by omega) ⟨by omega, sameC_succ hj hx hy (Decidable.not_not.1 hq2)⟩ (qT (i := 0) rfl (by first | rfl | (congr 2; omega)) (by first | omega | (dsimp only; omega) | rfl) (by first | omega | (dsimp only; omega) | rfl) (qT (i := 1) rfl (by first | rfl | (congr 2; omega)) (by first | omega | (dsimp only; omega) | rfl) (by first | omega | (dsimp only; omega) | rfl) (qH (i := 5) rfl (by first | omega | rfl) (qN)))) (fun w h => h)
  ·iterate 11 refine gx ?_
   exact qK rfl rfl (fun w hs => ⟨dec_t (sameC_of (by have := hC.1; have := hC2.1; omega) fun i' x y hx hy => hj i' x y (by have := (List.getElem?_eq_some_iff.1 hx).1; have := hC.1; omega) hx hy), hs⟩)
theorem rdsame_c (o n : Int) (H1 H2 : List Int) (hH1 : H1.length = 32) (hH2 : H2.length = 32) (A : Option Addr) (m c : Nat) (Cs : List CV) (o2 n2 : Int) (G1 G2 : List Int) (hG1 : G1.length = 32) (hG2 : G2.length = 32) (A2 : Option Addr) (m2 c2 : Nat) (Es : List CV) (hmm : m ≤ 1000000000) (hmm2 : m2 ≤ 1000000000) (hN : NumsC Cs) (w : World) (hC : SrcC w A m Cs) (hC2 : SrcC w A2 m2 Es) (hD : DatC w Cs) (hE : DatC w Es) : Calls Tryz.prog 7 #[.agg (dV o n H1 H2 (slice A m c)).toArray, .agg (dV o2 n2 G1 G2 (slice A2 m2 c2)).toArray] w fun e w' => e = .returned (.bool (decide (sameD o n H1 H2 Cs o2 n2 G1 G2 Es))) ∧ St w [] w' := by
 refine qL (args := [.agg (dV o n H1 H2 (slice A m c)).toArray, .agg (dV o2 n2 G1 G2 (slice A2 m2 c2)).toArray]) Tryz.func7 rfl Tryz.ntmps7 (by simp) ?_
 refine qC [0, 1] ?_
 iterate 2 refine gx ?_
 refine zQ (qA rfl) rfl rfl rfl (cs := dV o n H1 H2 (slice A m c)) (by simp [Value.cells]) (tot := 67) (by simp [hH1, hH2]) (fun g1 hg1 => ?_)
 refine zQ (qA rfl) rfl rfl rfl (cs := dV o2 n2 G1 G2 (slice A2 m2 c2)) (by simp [Value.cells]) (tot := 67) (by simp [hG1, hG2]) (fun g2 hg2 => ?_)
 iterate 9 refine gx ?_
 by_cases q1 : o = o2
 ·refine qB (qA rfl) rfl (qP (qo rfl rfl rfl) q1) ?_
  iterate 5 refine gx ?_
  by_cases q2 : n = n2
  ·refine qB (qJ rfl rfl rfl) rfl (qP (qo rfl rfl rfl) q2) ?_
   iterate 3 refine gx ?_
   refine qB (qJ rfl rfl rfl) rfl (qg rfl agg24 size24 rfl (vs := H1.map (int .u8)) (by simp [hH1]) (Row.part (i := 1) (ent := ⟨g1, 27, dV o n H1 H2 (slice A m c), 67⟩) rfl rfl (by exact seg_mid (by simp [])))) ?_
   refine gx ?_
   refine qB (qJ rfl rfl rfl) rfl (qg rfl agg24 size24 rfl (vs := G1.map (int .u8)) (by simp [hG1]) (Row.part (i := 0) (ent := ⟨g2, 27, dV o2 n2 G1 G2 (slice A2 m2 c2), 67⟩) rfl rfl (by exact seg_mid (by simp [])))) ?_
   by_cases q3 : H1 = G1
   ·refine qB (qJ rfl rfl rfl) rfl (qP (Gets.arrEq rfl Tryz.underlying24 Tryz.underlying5 size5 geq24 rfl rfl hH1 hG1) q3) ?_
    iterate 3 refine gx ?_
    refine qB (qJ rfl rfl rfl) rfl (qg rfl agg24 size24 rfl (vs := H2.map (int .u8)) (by simp [hH2]) (Row.part (i := 1) (ent := ⟨g1, 27, [int .i64 o, int .i64 n] ++ (H1.map (int .u8) ++ (H2.map (int .u8) ++ ([slice A m c]))), 67⟩) rfl rfl (by rw [← List.append_assoc]; exact seg_mid (by simp [hH1])))) ?_
    refine gx ?_
    refine qB (qJ rfl rfl rfl) rfl (qg rfl agg24 size24 rfl (vs := G2.map (int .u8)) (by simp [hG2]) (Row.part (i := 0) (ent := ⟨g2, 27, [int .i64 o2, int .i64 n2] ++ (G1.map (int .u8) ++ (G2.map (int .u8) ++ ([slice A2 m2 c2]))), 67⟩) rfl rfl (by rw [← List.append_assoc]; exact seg_mid (by simp [hG1])))) ?_
    by_cases q4 : H2 = G2
    ·refine qB (qJ rfl rfl rfl) rfl (qP (Gets.arrEq rfl Tryz.underlying24 Tryz.underlying5 size5 geq24 rfl rfl hH2 hG2) q4) ?_
     iterate 6 refine gx ?_
     refine qM (qJ rfl rfl rfl) rfl enters17 rfl rfl (v := .bool (decide (sameC Cs Es))) (fun w hs => rall_c A A2 m c m2 c2 Cs Es hmm hmm2 hN w (hC.at_ hs (fun b hb => (qE (by show g2 ≠ b; omega) (qE (by show g1 ≠ b; omega) qF)))) (hC2.at_ hs (fun b hb => (qE (by show g2 ≠ b; omega) (qE (by show g1 ≠ b; omega) qF)))) (hD.at_ hs (fun b hb => (qE (by show g2 ≠ b; omega) (qE (by show g1 ≠ b; omega) qF)))) (hE.at_ hs (fun b hb => (qE (by show g2 ≠ b; omega) (qE (by show g1 ≠ b; omega) qF))))) ?_
     iterate 5 refine gx ?_
     exact qK rfl rfl (fun w hs => ⟨dec_iff (by unfold sameD; simp [*]), ((hs.drop (by assumption)).drop (by assumption))⟩)
    ·refine qB (qJ rfl rfl rfl) rfl (qU (Gets.arrEq rfl Tryz.underlying24 Tryz.underlying5 size5 geq24 rfl rfl hH2 hG2) q4) ?_
     iterate 12 refine gx ?_
     exact qK rfl rfl (fun w hs => ⟨dec_f (by unfold sameD; simp [*]), ((hs.drop (by assumption)).drop (by assumption))⟩)
   ·refine qB (qJ rfl rfl rfl) rfl (qU (Gets.arrEq rfl Tryz.underlying24 Tryz.underlying5 size5 geq24 rfl rfl hH1 hG1) q3) ?_
    iterate 19 refine gx ?_
    exact qK rfl rfl (fun w hs => ⟨dec_f (by unfold sameD; simp [*]), ((hs.drop (by assumption)).drop (by assumption))⟩)
  ·refine qB (qJ rfl rfl rfl) rfl (qU (qo rfl rfl rfl) q2) ?_
   iterate 26 refine gx ?_
   exact qK rfl rfl (fun w hs => ⟨dec_f (by unfold sameD; simp [*]), ((hs.drop (by assumption)).drop (by assumption))⟩)
 ·refine qB (qA rfl) rfl (qU (qo rfl rfl rfl) q1) ?_
  iterate 32 refine gx ?_
  exact qK rfl rfl (fun w hs => ⟨dec_f (by unfold sameD; simp [*]), ((hs.drop (by assumption)).drop (by assumption))⟩)
/-
 A slice of the call's own whose elements are values of one cell each; blocks that a loop has made, one a round; three-number arrays.
-/
section
variable {P : Program} {ops : Array Oper} {Q : Exit → Act → World → Prop} {n : Sz} {w0 : World} {L L' : List (Nat × Value)} {H : List Ent}
variable {o : Oper} {rest : List Oper} {v u : Value} {x y z : Operand} {k m j : Nat} {t t' e : TypeId} {ks : List Nat} {kd : IntKind}
end
/-
 The reference of layer 5: With, Sort.
-/
/-
 The code of layer 5: upTo, its iterator, overlap, gap.
-/
theorem agg118 : (isAgg 118).run Tryz.prog = fun w => .ok false w := isAgg_no Tryz.underlying118 rfl
theorem agg155 : (isAgg 155).run Tryz.prog = fun w => .ok true w := isAgg_yes Tryz.underlying155 rfl
theorem enters107 : Enters Tryz.prog 107 := ⟨_, Tryz.func107, by kernel_rfl, by kernel_rfl⟩
theorem size155 : (Tryz.prog.info? 155).map (·.size) = some 3 := by kernel_rfl
theorem zero155 : (Tryz.prog.info? 155).bind (·.zero) = some (.agg #[.int .i64 0, .int .i64 0, .int .i64 0]) := by kernel_rfl
theorem zero3 : (Tryz.prog.info? 3).bind (·.zero) = some (.int .i64 0) := by kernel_rfl
theorem zero4 : (Tryz.prog.info? 4).bind (·.zero) = some (.bool false) := by kernel_rfl
instance : Fld Tryz.prog 155 0 0 := ⟨⟨_, _, _, Tryz.underlying155, rfl, size70, rfl⟩⟩
instance : Fld Tryz.prog 155 1 2 := ⟨⟨_, _, _, Tryz.underlying155, rfl, size3, rfl⟩⟩
instance : Siz Tryz.prog 155 3 := ⟨size155⟩
instance : Sli Tryz.prog 118 155 := ⟨Tryz.underlying118⟩
instance : Zer Tryz.prog 155 [int .i64 0, int .i64 0, int .i64 0] := ⟨⟨_, zero155, rfl⟩⟩
instance : Zer Tryz.prog 3 [int .i64 0] := ⟨⟨_, zero3, rfl⟩⟩
instance : Zer Tryz.prog 4 [Value.bool false] := ⟨⟨_, zero4, rfl⟩⟩
theorem upTo_iter (p1 p2 gt m : Nat) (Ts : List TV) (q : Int) (hq : -9223372036854775808 ≤ q ∧ q ≤ 9223372036854775807) (hm : m ≤ 1000000000) (hnum : ∀ t ∈ Ts, (-9223372036854775808 ≤ t.o ∧ t.o ≤ 9223372036854775807) ∧ (-9223372036854775808 ≤ t.l ∧ t.l ≤ 9223372036854775807) ∧ t.x ≤ 9223372036854775807) (w0 : World) (hc0 : CapT w0 p1 p2 gt m Ts q) : IterC Fence.wide 2 Tryz.prog 107 #[.pointer (some ⟨p1, 0, none⟩), .pointer (some ⟨p2, 0, none⟩)] (fun i => #[encP (upF Ts q) i]) (upF Ts q).length 0 (capK p1 p2 gt) w0 := by
 intro l J Jx W hW hJ hJx hY hJ0
 have hc : CapT W p1 p2 gt m Ts q := hc0.keep (fun k hk => hW.block k (hc0.lt hk)) hW.size
 have hc1 := hc.h1
 have hc2 := hc.h2
 have hc3 := hc.h3
 show CallsIn Fence.wide 2 Tryz.prog 107 #[.func (.yield l) #[] #[], .pointer (some ⟨p1, 0, none⟩), .pointer (some ⟨p2, 0, none⟩)] W _
 refine callsIn_from (args := [.func (.yield l) #[] #[], .pointer (some ⟨p1, 0, none⟩), .pointer (some ⟨p2, 0, none⟩)]) Tryz.func107 rfl Tryz.ntmps107 (by simp) ?_
 refine qC [0, 1, 2] ?_
 iterate 2 refine gx ?_
 refine qB (qA rfl) rfl (qS rfl agg118 rfl (At.old hc.s hc.h1 qF)) ?_
 iterate 5 refine gx ?_
 refine TC.loopW (ι := Nat × World) (fun y => y.2) (fun y => [(0, .func (.yield l) #[] #[]), (1, .pointer (some ⟨p1, 0, none⟩)), (2, .pointer (some ⟨p2, 0, none⟩)), (6, .slice (some ⟨gt, 0, none⟩) m m), (7, .int .i64 (m : Int)), (8, .int .i64 (y.1 : Int))]) (fun y => []) (fun y => m - y.1) (fun y => y.1 ≤ m ∧ J (cntT Ts q y.1) y.2 ∧ CapT y.2 p1 p2 gt m Ts q ∧ W.heap.size ≤ y.2.heap.size) (0, W) ⟨Nat.zero_le _, hJ0, hc, Nat.le_refl _⟩ (qI (i := 0) rfl (qI (i := 1) rfl (qI (i := 2) rfl (qT (i := 6) rfl rfl (by first | omega | (dsimp only; omega) | rfl) (by first | omega | (dsimp only; omega) | rfl) (qH (i := 7) rfl (by first | omega | rfl) (qH (i := 8) rfl rfl (qN))))))) (fun w h => h) (fun y hC0 => ?_)
 obtain ⟨k, v⟩ := y
 obtain ⟨hk, hj, hc, hsz⟩ := hC0
 dsimp only at hk hj hc hsz
 change TC _ _ _ v _ _ _
 have hc1 := hc.h1
 have hc2 := hc.h2
 have hc3 := hc.h3
 iterate 6 refine gx ?_
 refine qX rfl (fun hq0 => ?_) (fun hq0 => ?_)
 ·obtain ⟨x, hkx⟩ : ∃ x, Ts[k]? = some x := ⟨_, List.getElem?_eq_getElem (by have := hc.l; omega)⟩
  have hnx := hnum x (List.mem_of_getElem? hkx)
  iterate 6 refine gx ?_
  refine qB (qA rfl) rfl (ql rfl Tryz.underlying118 size155 rfl rfl (i := k) (by omega) (by omega) (off' := (3 * k)) (by omega)) ?_
  refine qB (qA rfl) rfl (qg rfl agg155 size155 rfl rfl (zS (fun jj u h => hc.row hkx h) hc.h3 qF)) ?_
  refine qc (fun g1 hg1 => ?_)
  iterate 3 refine gx ?_
  refine qC [0, 1, 2, 5, 6, 7, 8] ?_
  iterate 4 refine gx ?_
  refine qB (qA rfl) rfl (qS rfl agg3 rfl (At.old hc.x hc.h2 (qE (by show g1 ≠ p2; omega) qF))) ?_
  refine gx ?_
  by_cases hx : (x.x : Int) ≤ q
  ·refine qB (qA rfl) rfl (qP (qp rfl rfl) hx) ?_
   iterate 2 refine gx ?_
   refine qB (qJ rfl rfl rfl) rfl (qg rfl agg70 size70 rfl (vs := [int .i64 x.o, int .i64 x.l]) rfl (Row.part (i := 0) (ent := ⟨g1, 155, [int .i64 x.o, int .i64 x.l, int .i64 (x.x : Int)], 3⟩) rfl rfl rfl)) ?_
   refine TL.yield rfl (qJ rfl rfl rfl) rfl rfl rfl rfl (T := fun v1 => J (cntT Ts q k + 1) v1 ∧ CapT v1 p1 p2 gt m Ts q ∧ W.heap.size ≤ v1.heap.size) (U := fun v1 => Jx (cntT Ts q k + 1) v1) (fun w hs => up_yield (p := pr x) hJ hY (cntT_lt hkx hx) (cntT_yes hkx hx).2 hj hc hsz hs (by intro e he; rw [List.mem_singleton.1 he]; assumption)) (fun v1 hT => ?_) (fun v1 hU => ?_)
   ·obtain ⟨hj, hc, hsz⟩ := hT
    iterate 4 refine gx ?_
    refine qC [0, 1, 2, 6, 7, 8, 22] ?_
    refine qW rfl ?_
    iterate 4 refine gx ?_
    refine qB (qA rfl) rfl (qR rfl rfl rfl (r := ((k : Int) + 1)) (w64 (by omega) (by omega))) ?_
    iterate 2 refine gx ?_
    exact TE.backW (k + 1, v1) (by show m - (k + 1) < m - k; omega) ⟨(by show k + 1 ≤ m; omega), (show J (cntT Ts q (k + 1)) v1 from by rw [(cntT_yes hkx hx).1]; exact hj), hc, hsz⟩ (qI (i := 0) rfl (qI (i := 1) rfl (qI (i := 2) rfl (qT (i := 6) rfl rfl (by first | omega | (dsimp only; omega) | rfl) (by first | omega | (dsimp only; omega) | rfl) (qH (i := 7) rfl (by first | omega | rfl) (qH (i := 8) rfl rfl (qN))))))) (fun w h => h)
   ·iterate 4 refine gx ?_
    refine qC [0, 1, 2, 6, 7, 8, 22] ?_
    refine qd rfl ?_
    iterate 5 refine gx ?_
    exact TE.ret0 rfl (fun w hs => ⟨⟨_, rfl⟩, .inr ⟨cntT Ts q k, cntT_lt hkx hx, hJx _ _ _ hU (St.beside0 hs (by intro e he; cases he))⟩⟩)
  ·refine qB (qA rfl) rfl (qU (qp rfl rfl) hx) ?_
   iterate 8 refine gx ?_
   refine qC [0, 1, 2, 6, 7, 8, 22] ?_
   refine qW rfl ?_
   iterate 4 refine gx ?_
   refine qB (qA rfl) rfl (qR rfl rfl rfl (r := ((k : Int) + 1)) (w64 (by omega) (by omega))) ?_
   iterate 2 refine gx ?_
   exact TE.backW (k + 1, v) (by show m - (k + 1) < m - k; omega) ⟨(by show k + 1 ≤ m; omega), (show J (cntT Ts q (k + 1)) v from by rw [cntT_no hkx hx]; exact hj), hc, hsz⟩ (qI (i := 0) rfl (qI (i := 1) rfl (qI (i := 2) rfl (qT (i := 6) rfl rfl (by first | omega | (dsimp only; omega) | rfl) (by first | omega | (dsimp only; omega) | rfl) (qH (i := 7) rfl (by first | omega | rfl) (qH (i := 8) rfl rfl (qN))))))) (fun w h => (h.drop (by assumption)))
 ·iterate 4 refine gx ?_
  exact TE.end0 rfl (fun w hs => ⟨⟨_, rfl⟩, .inl (hJ _ _ _ (show J (upF Ts q).length v from by rw [← cntT_all (m := k) (by have := hc.l; omega)]; exact hj) (St.beside0 hs (by intro e he; cases he)))⟩)
theorem upTo_c (gt m : Nat) (q : Int) (w : World) : Calls Tryz.prog 75 #[.slice (some ⟨gt, 0, none⟩) m m, .int .i64 q] w fun e w' => ∃ y : Nat × Nat, e = .returned (.func (.func 107) #[] #[.pointer (some ⟨y.1, 0, none⟩), .pointer (some ⟨y.2, 0, none⟩)]) ∧ (w.heap.size ≤ y.1 ∧ w.heap.size ≤ y.2) ∧ St w [⟨y.1, 118, [slice (some ⟨gt, 0, none⟩) m m], 1⟩, ⟨y.2, 3, [int .i64 q], 1⟩] w' := by
 refine qL (args := [.slice (some ⟨gt, 0, none⟩) m m, .int .i64 q]) Tryz.func75 rfl Tryz.ntmps75 (by simp) ?_
 refine qC [0, 1] ?_
 iterate 2 refine gx ?_
 refine TL.bx1 (fun g1 hg1 => ?_)
 refine TL.bx1 (fun g2 hg2 => ?_)
 iterate 5 refine gx ?_
 refine qB (qA rfl) rfl (zg rfl rfl rfl) ?_
 iterate 4 refine gx ?_
 exact qK rfl rfl (fun w hs => ⟨(g1, g2), rfl, ⟨by assumption, by assumption⟩, hs.perm (List.Perm.swap _ _ _)⟩)
theorem overlap_c (p1 p2 gt m : Nat) (Ts : List TV) (q : Int) (hq : -9223372036854775808 ≤ q ∧ q ≤ 9223372036854775807) (hm : m ≤ 1000000000) (hnum : ∀ t ∈ Ts, (-9223372036854775808 ≤ t.o ∧ t.o ≤ 9223372036854775807) ∧ (-9223372036854775808 ≤ t.l ∧ t.l ≤ 9223372036854775807) ∧ t.x ≤ 9223372036854775807) (n : Int) (hn0 : 0 ≤ n ∧ n ≤ 4611686018427387903) (hpos : posF (upF Ts q)) (hend : ∀ p ∈ upF Ts q, p.1 + p.2 ≤ n) (w : World) (hc : CapT w p1 p2 gt m Ts q) : Calls Tryz.prog 74 #[.func (.func 107) #[] #[.pointer (some ⟨p1, 0, none⟩), .pointer (some ⟨p2, 0, none⟩)]] w fun e w' => e = .returned (.bool (decide (ovF (upF Ts q)))) ∧ St w [] w' := by
 have hc1 := hc.h1
 have hc2 := hc.h2
 have hc3 := hc.h3
 refine calls_fromM (args := [.func (.func 107) #[] #[.pointer (some ⟨p1, 0, none⟩), .pointer (some ⟨p2, 0, none⟩)]]) Tryz.func74 rfl Tryz.ntmps74 (by simp) ?_
 refine qC [0] ?_
 iterate 2 refine gx ?_
 refine qc (fun g1 hg1 => ?_)
 iterate 4 refine gx ?_
 refine qc (fun g2 hg2 => ?_)
 refine qw (qA rfl) rfl rfl size3 rfl rfl rfl (i := 0) rfl rfl (by simp [] <;> omega) (cs' := [int .i64 0]) (rfl) (H' := [⟨g2, 3, [int .i64 0], 1⟩, ⟨g1, 4, [Value.bool false], 1⟩]) rfl ?_
 iterate 9 refine gx ?_
 refine TC.range (V := fun i => .agg ([int .i64 ((eP (upF Ts q) i).1), int .i64 ((eP (upF Ts q) i).2)]).toArray) (N := (upF Ts q).length) (c := 0) (Cap := capK p1 p2 gt) rfl rfl rfl rfl enters107 (fun w hs => upTo_iter p1 p2 gt m Ts q hq hm hnum w (hc.at_ hs (fun b hb => (qE (by show g2 ≠ b; omega) (qE (by show g1 ≠ b; omega) qF))))) (fun i => ∀ j r, j < i → (upF Ts q)[j]? = some r → endF (upF Ts q) j ≤ r.1) (fun i => [⟨g2, 3, [int .i64 (endF (upF Ts q) i)], 1⟩, ⟨g1, 4, [Value.bool false], 1⟩]) [] (fun i y => [(2, .pointer (some ⟨g1, 0, none⟩)), (3, .pointer (some ⟨g2, 0, none⟩)), (4, .pointer (some ⟨y, 0, none⟩))]) (fun i y => [⟨y, 70, [int .i64 ((eP (upF Ts q) i).1), int .i64 ((eP (upF Ts q) i).2)], 2⟩]) (fun i => ovF (upF Ts q)) (fun i => [⟨g2, 3, [int .i64 (endF (upF Ts q) (i - 1))], 1⟩, ⟨g1, 4, [Value.bool true], 1⟩]) 0 (fun i => False) (fun i => [⟨g2, 3, [int .i64 (endF (upF Ts q) i)], 1⟩, ⟨g1, 4, [Value.bool false], 1⟩]) (fun j r h => absurd h (Nat.not_lt_zero j)) (fun w h => h) (fun _ => rfl) (fun _ => rfl) (fun _ => rfl) (fun w hs k hk => ⟨Nat.lt_of_lt_of_le (hc.lt hk) hs.size, (have hb := hc.lt hk; (qE (by show g2 ≠ k; omega) (qE (by show g1 ≠ k; omega) qF)))⟩) (fun i y e he => by rw [List.mem_singleton.1 he]; exact Nat.le_refl _) (fun l i v hiN hC hs0 => ?_) (fun l i y v hiN hC hy hyv hs0 => ?_) (fun D W hC hW hM => ?_) (fun D W i hiN hC hW hM => ?_) (fun D W i hiN hC hW hM => ?_)
 ·refine TC.sub (qI (i := 2) rfl (qI (i := 3) rfl (qI (i := 6) rfl (qN)))) ?_
  refine gx ?_
  refine qc (fun g3 hg3 => ?_)
  iterate 2 refine gx ?_
  exact TE.ax g3 hg3 (fun w hs => Nat.le_of_lt (hs.has _ List.mem_cons_self).lt) (qI (i := 2) rfl (qI (i := 3) rfl (qI (i := 4) rfl (qN)))) (fun w h => h)
 ·have hqq := eP_at hiN
  have hqp := hpos _ (List.mem_of_getElem? hqq)
  have hqn := hend _ (List.mem_of_getElem? hqq)
  have heb := endF_bd hpos hend hn0.1 i
  iterate 10 refine gx ?_
  refine qX rfl (fun hq0 => ?_) (fun hq0 => ?_)
  ·iterate 2 refine gx ?_
   refine qw (qA rfl) rfl rfl size4 rfl rfl rfl (i := 2) rfl rfl (by simp [] <;> omega) (cs' := [Value.bool true]) (rfl) (H' := [⟨y, 70, [int .i64 ((eP (upF Ts q) i).1), int .i64 ((eP (upF Ts q) i).2)], 2⟩, ⟨g2, 3, [int .i64 (endF (upF Ts q) i)], 1⟩, ⟨g1, 4, [Value.bool true], 1⟩]) rfl ?_
   iterate 5 refine gx ?_
   exact TE.roundR ⟨i, _, hqq, hq0⟩ [⟨y, 70, [int .i64 ((eP (upF Ts q) i).1), int .i64 ((eP (upF Ts q) i).2)], 2⟩] (by intro e he; simp only [List.mem_cons, List.not_mem_nil, or_false] at he; subst he; first | exact Nat.le_refl _ | (dsimp only; omega)) (fun w h => h)
  ·iterate 4 refine gx ?_
   refine qM (qA rfl) rfl enters102 rfl rfl (v := .int .i64 (((eP (upF Ts q) i).1) + ((eP (upF Ts q) i).2))) (fun w hs => end_c ((eP (upF Ts q) i).1) ((eP (upF Ts q) i).2) (by omega) w) ?_
   refine qw (qA rfl) rfl rfl size3 rfl rfl rfl (i := 1) rfl rfl (by simp [] <;> omega) (cs' := [int .i64 (((eP (upF Ts q) i).1) + ((eP (upF Ts q) i).2))]) (rfl) (H' := [⟨y, 70, [int .i64 ((eP (upF Ts q) i).1), int .i64 ((eP (upF Ts q) i).2)], 2⟩, ⟨g2, 3, [int .i64 (((eP (upF Ts q) i).1) + ((eP (upF Ts q) i).2))], 1⟩, ⟨g1, 4, [Value.bool false], 1⟩]) rfl ?_
   iterate 2 refine gx ?_
   exact TE.roundN (nov_succ hC hqq hq0) [⟨y, 70, [int .i64 ((eP (upF Ts q) i).1), int .i64 ((eP (upF Ts q) i).2)], 2⟩] (by intro e he; simp only [List.mem_cons, List.not_mem_nil, or_false] at he; subst he; first | exact Nat.le_refl _ | (dsimp only; omega)) (fun w h => by rw [endF_succ hqq]; exact h)
 ·have hno := nov_end hC
  iterate 4 refine gx ?_
  refine qw (qA rfl) rfl rfl size4 rfl rfl rfl (i := 1) rfl rfl (by simp [] <;> omega) (cs' := [Value.bool false]) (rfl) (H' := [⟨g2, 3, [int .i64 (endF (upF Ts q) ((upF Ts q).length))], 1⟩, ⟨g1, 4, [Value.bool false], 1⟩]) rfl ?_
  iterate 3 refine gx ?_
  refine TE.markR hM hW (by intro e he; simp only [List.mem_cons, List.not_mem_nil, or_false, List.cons_append, List.nil_append, List.append_nil] at he; rcases he with rfl | rfl <;> (first | assumption | (dsimp only; omega))) (by intro e he; simp only [List.mem_cons, List.not_mem_nil, or_false, List.cons_append, List.nil_append, List.append_nil] at he; rcases he with rfl | rfl <;> (first | exact .inr (by simp) | exact .inl (by assumption) | exact .inl (by dsimp only; omega))) ?_ (.inl rfl)
  exact TE.retC1 rfl agg4 rfl (qZ (i := 1) (ent := ⟨g1, 4, [Value.bool false], 1⟩) (off := 0) rfl rfl (by exact rfl)) (fun w hs => ⟨dec_f hno, ((hs.drop (by assumption)).drop (by assumption))⟩) (.inl rfl)
 ·iterate 2 refine gx ?_
  refine TE.markR hM hW (by intro e he; simp only [List.mem_cons, List.not_mem_nil, or_false, List.cons_append, List.nil_append, List.append_nil] at he; rcases he with rfl | rfl <;> (first | assumption | (dsimp only; omega))) (by intro e he; simp only [List.mem_cons, List.not_mem_nil, or_false, List.cons_append, List.nil_append, List.append_nil] at he; rcases he with rfl | rfl <;> (first | exact .inr (by simp) | exact .inl (by assumption) | exact .inl (by dsimp only; omega))) ?_ (.inl rfl)
  exact TE.retC1 rfl agg4 rfl (qZ (i := 1) (ent := ⟨g1, 4, [Value.bool true], 1⟩) (off := 0) rfl rfl (by exact rfl)) (fun w hs => ⟨dec_t hC, ((hs.drop (by assumption)).drop (by assumption))⟩) (.inl rfl)
 ·exact hC.elim
theorem gap_c (p1 p2 gt m : Nat) (Ts : List TV) (q : Int) (hq : -9223372036854775808 ≤ q ∧ q ≤ 9223372036854775807) (hm : m ≤ 1000000000) (hnum : ∀ t ∈ Ts, (-9223372036854775808 ≤ t.o ∧ t.o ≤ 9223372036854775807) ∧ (-9223372036854775808 ≤ t.l ∧ t.l ≤ 9223372036854775807) ∧ t.x ≤ 9223372036854775807) (n : Int) (hn0 : 0 ≤ n ∧ n ≤ 4611686018427387903) (hpos : posF (upF Ts q)) (hend : ∀ p ∈ upF Ts q, p.1 + p.2 ≤ n) (w : World) (hc : CapT w p1 p2 gt m Ts q) : Calls Tryz.prog 76 #[.func (.func 107) #[] #[.pointer (some ⟨p1, 0, none⟩), .pointer (some ⟨p2, 0, none⟩)]] w fun e w' => ∃ z : Int, e = .returned (.int .i64 z) ∧ gapR (upF Ts q) z ∧ St w [] w' := by
 have hc1 := hc.h1
 have hc2 := hc.h2
 have hc3 := hc.h3
 refine calls_fromM (args := [.func (.func 107) #[] #[.pointer (some ⟨p1, 0, none⟩), .pointer (some ⟨p2, 0, none⟩)]]) Tryz.func76 rfl Tryz.ntmps76 (by simp) ?_
 refine qC [0] ?_
 iterate 7 refine gx ?_
 refine qc (fun g1 hg1 => ?_)
 refine qw (qA rfl) rfl rfl size3 rfl rfl rfl (i := 0) rfl rfl (by simp [] <;> omega) (cs' := [int .i64 0]) (rfl) (H' := [⟨g1, 3, [int .i64 0], 1⟩]) rfl ?_
 iterate 9 refine gx ?_
 refine TC.range (V := fun i => .agg ([int .i64 ((eP (upF Ts q) i).1), int .i64 ((eP (upF Ts q) i).2)]).toArray) (N := (upF Ts q).length) (c := 0) (Cap := capK p1 p2 gt) rfl rfl rfl rfl enters107 (fun w hs => upTo_iter p1 p2 gt m Ts q hq hm hnum w (hc.at_ hs (fun b hb => (qE (by show g1 ≠ b; omega) qF)))) (fun i => ∀ j r, j < i → (upF Ts q)[j]? = some r → r.1 ≤ endF (upF Ts q) j) (fun i => [⟨g1, 3, [int .i64 (endF (upF Ts q) i)], 1⟩]) [] (fun i y => [(3, .pointer (some ⟨g1, 0, none⟩)), (4, .pointer (some ⟨y, 0, none⟩))]) (fun i y => [⟨y, 70, [int .i64 ((eP (upF Ts q) i).1), int .i64 ((eP (upF Ts q) i).2)], 2⟩]) (fun i => False) (fun i => [⟨g1, 3, [int .i64 (endF (upF Ts q) i)], 1⟩]) 0 (fun i => gapR (upF Ts q) (endF (upF Ts q) (i - 1))) (fun i => [⟨g1, 3, [int .i64 (endF (upF Ts q) (i - 1))], 1⟩]) (fun j r h => absurd h (Nat.not_lt_zero j)) (fun w h => h) (fun _ => rfl) (fun _ => rfl) (fun _ => rfl) (fun w hs k hk => ⟨Nat.lt_of_lt_of_le (hc.lt hk) hs.size, (have hb := hc.lt hk; (qE (by show g1 ≠ k; omega) qF))⟩) (fun i y e he => by rw [List.mem_singleton.1 he]; exact Nat.le_refl _) (fun l i v hiN hC hs0 => ?_) (fun l i y v hiN hC hy hyv hs0 => ?_) (fun D W hC hW hM => ?_) (fun D W i hiN hC hW hM => ?_) (fun D W i hiN hC hW hM => ?_)
 ·refine TC.sub (qI (i := 3) rfl (qI (i := 6) rfl (qN))) ?_
  refine gx ?_
  refine qc (fun g2 hg2 => ?_)
  iterate 2 refine gx ?_
  exact TE.ax g2 hg2 (fun w hs => Nat.le_of_lt (hs.has _ List.mem_cons_self).lt) (qI (i := 3) rfl (qI (i := 4) rfl (qN))) (fun w h => h)
 ·have hqq := eP_at hiN
  have hqp := hpos _ (List.mem_of_getElem? hqq)
  have hqn := hend _ (List.mem_of_getElem? hqq)
  have heb := endF_bd hpos hend hn0.1 i
  iterate 10 refine gx ?_
  refine qX rfl (fun hq0 => ?_) (fun hq0 => ?_)
  ·iterate 2 refine gx ?_
   refine TE.blockY rfl ?_
   exact TE.roundB ⟨i, Nat.le_of_lt hiN, rfl, hC, .inr ⟨_, hqq, hq0⟩⟩ [⟨y, 70, [int .i64 ((eP (upF Ts q) i).1), int .i64 ((eP (upF Ts q) i).2)], 2⟩] (by intro e he; simp only [List.mem_cons, List.not_mem_nil, or_false] at he; subst he; first | exact Nat.le_refl _ | (dsimp only; omega)) (fun w h => h)
  ·iterate 4 refine gx ?_
   refine qM (qA rfl) rfl enters102 rfl rfl (v := .int .i64 (((eP (upF Ts q) i).1) + ((eP (upF Ts q) i).2))) (fun w hs => end_c ((eP (upF Ts q) i).1) ((eP (upF Ts q) i).2) (by omega) w) ?_
   refine qw (qA rfl) rfl rfl size3 rfl rfl rfl (i := 1) rfl rfl (by simp [] <;> omega) (cs' := [int .i64 (((eP (upF Ts q) i).1) + ((eP (upF Ts q) i).2))]) (rfl) (H' := [⟨y, 70, [int .i64 ((eP (upF Ts q) i).1), int .i64 ((eP (upF Ts q) i).2)], 2⟩, ⟨g1, 3, [int .i64 (((eP (upF Ts q) i).1) + ((eP (upF Ts q) i).2))], 1⟩]) rfl ?_
   iterate 2 refine gx ?_
   exact TE.roundN (ngap_succ hC hqq hq0) [⟨y, 70, [int .i64 ((eP (upF Ts q) i).1), int .i64 ((eP (upF Ts q) i).2)], 2⟩] (by intro e he; simp only [List.mem_cons, List.not_mem_nil, or_false] at he; subst he; first | exact Nat.le_refl _ | (dsimp only; omega)) (fun w h => by rw [endF_succ hqq]; exact h)
 ·have hG : gapR (upF Ts q) (endF (upF Ts q) (upF Ts q).length) := ⟨_, Nat.le_refl _, rfl, hC, .inl rfl⟩
  iterate 9 refine gx ?_
  refine TE.markR hM hW (by intro e he; simp only [List.mem_cons, List.not_mem_nil, or_false, List.cons_append, List.nil_append, List.append_nil] at he; subst he; first | assumption | (dsimp only; omega)) (by intro e he; simp only [List.mem_cons, List.not_mem_nil, or_false, List.cons_append, List.nil_append, List.append_nil] at he; subst he; first | exact .inr (by simp) | exact .inl (by assumption) | exact .inl (by dsimp only; omega)) ?_ (.inl rfl)
  exact qK rfl rfl (fun w hs => ⟨_, rfl, hG, (hs.drop (by assumption))⟩)
 ·exact hC.elim
 ·have hG : gapR (upF Ts q) (endF (upF Ts q) i) := hC
  iterate 9 refine gx ?_
  refine TE.markR hM hW (by intro e he; simp only [List.mem_cons, List.not_mem_nil, or_false, List.cons_append, List.nil_append, List.append_nil] at he; subst he; first | assumption | (dsimp only; omega)) (by intro e he; simp only [List.mem_cons, List.not_mem_nil, or_false, List.cons_append, List.nil_append, List.append_nil] at he; subst he; first | exact .inr (by simp) | exact .inl (by assumption) | exact .inl (by dsimp only; omega)) ?_ (.inl rfl)
  exact qK rfl rfl (fun w hs => ⟨_, rfl, hG, (hs.drop (by assumption))⟩)
end Go.Proofs.YtclmgfcdnokaiaaGreatDoor
/-
 slices.SortFunc at targets, over blocks that are known.
-/
namespace Go.Proofs
open Go.Shelf Go.RowKit Go.Lib Go.Sort
def Tryz.sortT_ren : Go.Shelf.Ren := ⟨fun | 6 => 104 | 15 => 119 | 14 => 118 | 28 => 133 | 29 => 94 | 20 => 125 | 21 => 126 | 22 => 127 | 23 => 128 | 24 => 129 | 25 => 130 | 26 => 131 | 27 => 132 | 46 => 136 | 47 => 137 | 48 => 138 | 49 => 139 | 50 => 140 | 57 => 144 | n => n, fun | 22 => 118 | 24 => 155 | 25 => 158 | 3 => 3 | 39 => 99 | 0 => 0 | 53 => 127 | 55 => 37 | 4 => 4 | 46 => 177 | 45 => 176 | 50 => 181 | 5 => 5 | 9 => 9 | 66 => 187 | 70 => 191 | 76 => 195 | 77 => 45 | n => n, fun | n => n⟩
theorem Tryz.sortT : Go.Proofs.SlLaysF0.n6 Tryz.prog Tryz.sortT_ren := {
  mixed := by kernel_rfl
  f6 := ⟨Tryz.f104.name, by decide, Tryz.func104.trans (congrArg some (by kernel_rfl))⟩
  f14 := ⟨Tryz.f118.name, by decide, Tryz.func118.trans (congrArg some (by kernel_rfl))⟩
  f15 := Tryz.func119.trans (congrArg some (by kernel_rfl))
  f20 := ⟨Tryz.f125.name, by decide, Tryz.func125.trans (congrArg some (by kernel_rfl))⟩
  f21 := ⟨Tryz.f126.name, by decide, Tryz.func126.trans (congrArg some (by kernel_rfl))⟩
  f22 := ⟨Tryz.f127.name, by decide, Tryz.func127.trans (congrArg some (by kernel_rfl))⟩
  f23 := ⟨Tryz.f128.name, by decide, Tryz.func128.trans (congrArg some (by kernel_rfl))⟩
  f24 := ⟨Tryz.f129.name, by decide, Tryz.func129.trans (congrArg some (by kernel_rfl))⟩
  f25 := ⟨Tryz.f130.name, by decide, Tryz.func130.trans (congrArg some (by kernel_rfl))⟩
  f26 := ⟨Tryz.f131.name, by decide, Tryz.func131.trans (congrArg some (by kernel_rfl))⟩
  f27 := ⟨Tryz.f132.name, by decide, Tryz.func132.trans (congrArg some (by kernel_rfl))⟩
  f28 := Tryz.func133.trans (congrArg some (by kernel_rfl))
  f29 := Tryz.func94.trans (congrArg some (by kernel_rfl))
  f46 := ⟨Tryz.f136.name, by decide, Tryz.func136.trans (congrArg some (by kernel_rfl))⟩
  f47 := Tryz.func137.trans (congrArg some (by kernel_rfl))
  f48 := Tryz.func138.trans (congrArg some (by kernel_rfl))
  f49 := ⟨Tryz.f139.name, by decide, Tryz.func139.trans (congrArg some (by kernel_rfl))⟩
  f50 := ⟨Tryz.f140.name, by decide, Tryz.func140.trans (congrArg some (by kernel_rfl))⟩
  f57 := ⟨Tryz.f144.name, by decide, Tryz.func144.trans (congrArg some (by kernel_rfl))⟩
  t0 := Tryz.underlying0
  a0 := Tryz.isAgg0
  z0 := Tryz.sizeOf0
  v0 := Tryz.zeroValue0
  t3 := Tryz.underlying3
  a3 := Tryz.isAgg3
  z3 := Tryz.sizeOf3
  v3 := Tryz.zeroValue3
  t4 := Tryz.underlying4
  a4 := Tryz.isAgg4
  z4 := Tryz.sizeOf4
  v4 := Tryz.zeroValue4
  t5 := Tryz.underlying5
  a5 := Tryz.isAgg5
  z5 := Tryz.sizeOf5
  v5 := Tryz.zeroValue5
  t9 := Tryz.underlying9
  a9 := Tryz.isAgg9
  z9 := Tryz.sizeOf9
  v9 := Tryz.zeroValue9
  t22 := Tryz.underlying118
  a22 := Tryz.isAgg118
  z22 := Tryz.sizeOf118
  v22 := Tryz.zeroValue118
  t25 := Tryz.underlying158
  a25 := Tryz.isAgg158
  z25 := Tryz.sizeOf158
  v25 := Tryz.zeroValue158
  t39 := Tryz.underlying99
  a39 := Tryz.isAgg99
  z39 := Tryz.sizeOf99
  v39 := Tryz.zeroValue99
  t45 := Tryz.underlying176
  a45 := Tryz.isAgg176
  z45 := Tryz.sizeOf176
  v45 := Tryz.zeroValue176
  t46 := Tryz.underlying177
  a46 := Tryz.isAgg177
  z46 := Tryz.sizeOf177
  v46 := Tryz.zeroValue177
  t50 := Tryz.underlying181
  a50 := Tryz.isAgg181
  z50 := Tryz.sizeOf181
  v50 := Tryz.zeroValue181
  t53 := Tryz.underlying127
  a53 := Tryz.isAgg127
  z53 := Tryz.sizeOf127
  v53 := Tryz.zeroValue127
  t55 := Tryz.underlying37
  a55 := Tryz.isAgg37
  z55 := Tryz.sizeOf37
  v55 := Tryz.zeroValue37
  t66 := Tryz.underlying187
  a66 := Tryz.isAgg187
  z66 := Tryz.sizeOf187
  v66 := Tryz.zeroValue187
  t70 := Tryz.underlying191
  a70 := Tryz.isAgg191
  z70 := Tryz.sizeOf191
  v70 := Tryz.zeroValue191
  t76 := Tryz.underlying195
  a76 := Tryz.isAgg195
  z76 := Tryz.sizeOf195
  v76 := Tryz.zeroValue195
  t77 := Tryz.underlying45
  a77 := Tryz.isAgg45
  z77 := Tryz.sizeOf45
  v77 := Tryz.zeroValue45 }
def Tryz.cmpI_ren : Go.Shelf.Ren := ⟨fun | 5 => 106 | 7 => 120 | n => n, fun | 22 => 3 | 3 => 3 | 4 => 4 | n => n, fun | n => n⟩
theorem Tryz.cmpI : Go.Proofs.SlLaysC2.n5 Tryz.prog Tryz.cmpI_ren := {
  mixed := by kernel_rfl
  f5 := ⟨Tryz.f106.name, by decide, Tryz.func106.trans (congrArg some (by kernel_rfl))⟩
  f7 := ⟨Tryz.f120.name, by decide, Tryz.func120.trans (congrArg some (by kernel_rfl))⟩
  t3 := Tryz.underlying3
  a3 := Tryz.isAgg3
  z3 := Tryz.sizeOf3
  v3 := Tryz.zeroValue3
  t4 := Tryz.underlying4
  a4 := Tryz.isAgg4
  z4 := Tryz.sizeOf4
  v4 := Tryz.zeroValue4
  t22 := Tryz.underlying3
  a22 := Tryz.isAgg3
  z22 := Tryz.sizeOf3
  v22 := Tryz.zeroValue3 }
end Go.Proofs
namespace Go.Proofs.YtclmgfcdnokaiaaGreatDoor
set_option linter.unusedVariables false
set_option linter.unusedSimpArgs false
set_option maxRecDepth 100000
set_option maxHeartbeats 2000000
open Go.Value (int slice)
open Go Go.RowKit Go.Shelf Go.Lib Go.Sort
theorem flatK_flatT (Ts : List TV) : (flatK cellsT 3 Ts.toArray).toList = flatT Ts := by
 apply List.ext_getElem?
 intro t
 by_cases ht : t < Ts.length * 3
 ·have hi : t / 3 < Ts.length := by omega
  have hr : t % 3 < 3 := Nat.mod_lt _ (by omega)
  have h1 : (flatK cellsT 3 Ts.toArray).toList[t]? = some ((cellsT Ts.toArray[t / 3]!)[t % 3]!) := by
   have := get_flatK cellsT 3 Ts.toArray t (by simpa using ht)
   rw [Array.getElem?_toList, ← this]
   rw [Array.getElem?_eq_getElem (by simpa using ht), getElem!_pos _ _ (by simpa using ht)]
  have h2 : Ts.toArray[t / 3]! = Ts[t / 3] := by
   rw [getElem!_pos _ _ (by simpa using hi)]; simp
  rw [h1, h2]
  have hx : Ts[t / 3]? = some Ts[t / 3] := List.getElem?_eq_getElem hi
  have hu : (cellsT Ts[t / 3])[t % 3]? = some ((cellsT Ts[t / 3])[t % 3]'(by rw [cellsT_len]; exact hr)) := List.getElem?_eq_getElem _
  have h3 := flatT_get hx hu
  rw [show 3 * (t / 3) + t % 3 = t by omega] at h3
  rw [h3, getElem!_pos _ _ (by rw [cellsT_len]; exact hr)]
 ·rw [List.getElem?_eq_none (by simp; omega), List.getElem?_eq_none (by rw [flatT_len]; omega)]
theorem holds_entT {w : World} {g t tot : Nat} {Ts : List TV} (h : Ent.lies ⟨g, t, flatT Ts, tot⟩ w) : HoldsK cellsT 3 w g 0 Ts.toArray := fun j hj => by
 obtain ⟨cur, h1, h2, h3⟩ := h
 have hj' : j < (flatK cellsT 3 Ts.toArray).size := hj
 have hfl : (flatT Ts)[j]? = some (flatK cellsT 3 Ts.toArray)[j]! := by
  rw [← flatK_flatT, Array.getElem?_toList, Array.getElem?_eq_getElem hj', getElem!_pos (flatK cellsT 3 Ts.toArray) j hj']
 refine ⟨?_, ?_⟩
 ·have := h3 j _ hfl
  simp only [id]
  rw [Nat.zero_add]
  simp [World.cell?, h1, this]
 ·simp only [World.frozen?, h1]
  simp
theorem st_sortedT {w0 w : World} {g t tot n : Nat} {Ts Es : List TV} {H : List Ent} {os : Array Obj} (hs : St w0 (⟨g, t, flatT Ts, tot⟩ :: H) w) (hl : Es.length = Ts.length) : St w0 (⟨g, t, flatT Es, tot⟩ :: H) (sortWorldK cellsT 3 w g 0 n Es.toArray os) := by
 obtain ⟨cur, h1, h2, h3⟩ := hs.has _ List.mem_cons_self
 have hg : g < w.heap.size := (Array.getElem?_eq_some_iff.1 h1).1
 let W := sortWorldK cellsT 3 w g 0 n Es.toArray os
 have hheap : W.heap = (w.heap.modify g (onCells (putCells id 0 (flatK cellsT 3 Es.toArray)))) ++ os := rfl
 have hother : ∀ b, b < w.heap.size → b ≠ g → W.heap[b]? = w.heap[b]? := fun b hb hne => by
  rw [hheap, Array.getElem?_append_left (by simpa using hb), Array.getElem?_modify, if_neg (fun h => hne h.symm)]
 have hhere : W.heap[g]? = some (.cells (putCells id 0 (flatK cellsT 3 Es.toArray) cur) t (0, 0)) := by
  rw [hheap, Array.getElem?_append_left (by simpa using hg), Array.getElem?_modify, if_pos rfl, h1]; rfl
 have hap := hs.apart
 refine ⟨hs.os, hs.tape, hs.output, Nat.le_trans hs.size (by show w.heap.size ≤ W.heap.size; rw [hheap]; simp), ?_, ?_, ?_⟩
 ·intro e he
  rcases List.mem_cons.1 he with rfl | he
  ·refine ⟨_, hhere, by simpa [putCells] using h2, fun j u hu => ?_⟩
   have hj := (List.getElem?_eq_some_iff.1 hu).1
   have hjs : j < (flatK cellsT 3 Es.toArray).size := by rw [size_flatK]; rw [flatT_len] at hj; simpa using hj
   have hjc : j < cur.size := by
    have hjC : j < (flatT Ts).length := by rw [flatT_len, ← hl, ← flatT_len]; exact hj
    have := h3 j _ (List.getElem?_eq_getElem hjC)
    exact (Array.getElem?_eq_some_iff.1 this).1
   rw [← flatK_flatT, Array.getElem?_toList, Array.getElem?_eq_getElem hjs] at hu
   cases hu
   simp only [putCells]
   rw [Array.getElem?_eq_getElem (by simpa using hjc)]
   simp only [Array.getElem_mapIdx]
   rw [if_pos ⟨Nat.zero_le _, by rw [Nat.zero_add]; exact hjs⟩, Nat.sub_zero, getElem!_pos (flatK cellsT 3 Es.toArray) j hjs]; rfl
  ·have hne : e.g ≠ g := fun h => (List.pairwise_cons.1 hap).1 e he h.symm
   exact (hs.has e (List.mem_cons_of_mem _ he)).of_block (hother _ (hs.has e (List.mem_cons_of_mem _ he)).lt hne)
 ·intro b hb hne
  have hbg : b ≠ g := fun h => hne _ List.mem_cons_self h.symm
  rw [hother b (Nat.lt_of_lt_of_le hb hs.size) hbg]
  exact hs.old b hb (fun e he => by
   rcases List.mem_cons.1 he with rfl | he
   ·exact fun h => hbg h.symm
   ·exact hne e (List.mem_cons_of_mem _ he))
 ·exact .cons (fun e he => (List.pairwise_cons.1 hap).1 e he) (List.pairwise_cons.1 hap).2
theorem ltOf_o (x y : TV) : ltOf (fun x y : TV => Lib.compareInt x.o y.o) x y = decide (x.o < y.o) := by
 unfold ltOf Lib.compareInt
 by_cases h1 : x.o < y.o
 ·simp [h1]
 ·by_cases h2 : y.o < x.o <;> simp [h1, h2]
theorem sorted_listT {Es : List TV} (h : SortedIn (ltOf fun x y : TV => Lib.compareInt x.o y.o) 0 Es.length Es.toArray) : Es.Pairwise leT := by
 rw [List.pairwise_iff_getElem]
 intro i j hi hj hij
 have h1 := h i j (Nat.zero_le _) hij hj
 rw [getElem!_pos Es.toArray j (by simpa using hj), getElem!_pos Es.toArray i (by simpa using hi)] at h1
 simp only [List.getElem_toArray] at h1
 rw [ltOf_o] at h1
 unfold leT
 have h2 := of_decide_eq_false h1
 omega
theorem swoO : SWO (ltOf fun x y : TV => Lib.compareInt x.o y.o) := by
 have e := ltOf_o
 exact ⟨fun x => by rw [e]; simp, fun x y z h1 h2 => by rw [e] at *; simp at *; omega, fun x y z h1 h2 => by rw [e] at *; simp at *; omega⟩
theorem perm_ofT {Ts : List TV} {d : Array TV} (h : PermIn 0 Ts.toArray.size Ts.toArray d) : d.toList.Perm Ts := by
 obtain ⟨h1, _, h3⟩ := h
 have e1 : d.extract 0 Ts.toArray.size = d := by rw [← h1]; simp
 have e2 : Ts.toArray.extract 0 Ts.toArray.size = Ts.toArray := by simp
 rw [e1, e2] at h3
 simpa using h3
theorem sortT_c {w0 w : World} {g t tot cap fc : Nat} {Ts : List TV} {H : List Ent} (hs : St w0 (⟨g, t, flatT Ts, tot⟩ :: H) w) (hlen : Ts.length < 4611686018427387904)
  (eg : ∀ args w, (callFunc fc args).run Tryz.prog w = .ok (.enter fc args) w) (hc : ∀ (x y : TV) (W : World), Calls Tryz.prog fc #[.agg (cellsT x).toArray, .agg (cellsT y).toArray] W fun e w' => e = .returned (.int .i64 (Lib.compareInt x.o y.o)) ∧ ∃ q os', w' = grow (W.drewN q) os') :
  Calls Tryz.prog 104 #[.slice (some ⟨g, 0, none⟩) Ts.length cap, .func (.func fc) #[] #[]] w fun e w' => e = .returned (.tuple #[]) ∧ ∃ Es : List TV, Es.Perm Ts ∧ Es.Pairwise leT ∧ St w0 (⟨g, t, flatT Es, tot⟩ :: H) w' := by
 have hlt := (hs.has _ List.mem_cons_self).lt
 have hcon := AnyQ.slices_SortFunc Tryz.sortT 3 (fun w => congrFun agg155 w) (run_size size155) cellsT (fun _ => rfl) (fun x v hv => flatT_one' [x] v (by rw [flatT_one]; exact hv)) (fun x y : TV => Lib.compareInt x.o y.o) swoO fc #[] g 0 cap Ts.toArray w eg (fun _ _ _ _ x y => hc x y _) (holds_entT (hs.has _ List.mem_cons_self)) hlt (by simpa using hlen)
 refine hcon.mono ?_
 rintro e w' ⟨rfl, d, n, os, hp, hq, rfl⟩
 have hsz : d.size = Ts.length := by have := hp.1; simpa using this
 have hperm := perm_ofT hp
 refine ⟨rfl, d.toList, hperm, sorted_listT (by simpa [hsz] using hq), ?_⟩
 have := st_sortedT (n := n) (os := os) (Es := d.toList) hs (by simpa using hsz)
 simpa using this
/-
 The closure that compares targets.
-/
theorem closureT_c (x y : TV) (W : World) : Calls Tryz.prog 105 #[.agg (cellsT x).toArray, .agg (cellsT y).toArray] W fun e w' => e = .returned (.int .i64 (Lib.compareInt x.o y.o)) ∧ ∃ q os', w' = grow (W.drewN q) os' := by
 have hcon := fun W' => AnyG.cmp_Compare_int Tryz.cmpI x.o y.o W'
 change ∀ W', Calls Tryz.prog 106 _ _ _ at hcon
 generalize Lib.compareInt x.o y.o = r at hcon ⊢
 show Calls Tryz.prog 105 #[.agg #[.int .i64 x.o, .int .i64 x.l, .int .i64 x.x], .agg #[.int .i64 y.o, .int .i64 y.l, .int .i64 y.x]] W _
 go_enter Tryz.func105, Tryz.ntmps105
 go_wp2_with (go_at_call 106; refine (hcon _).mono ?_; rintro e w' ⟨rfl, rfl⟩)
 go_ret
 exact ⟨rfl, 0, _, by rw [alloc_eq_grow, alloc_eq_grow, grow_grow]; rfl⟩
/-
 The code of layer 5: the closure of checkTargets, sort.Search, ascending.
-/
open Go Go.RowKit
theorem enters104 : Enters Tryz.prog 104 := ⟨_, Tryz.func104, by kernel_rfl, by kernel_rfl⟩
theorem enters105 : Enters Tryz.prog 105 := ⟨_, Tryz.func105, by kernel_rfl, by kernel_rfl⟩
theorem enters70 : Enters Tryz.prog 70 := ⟨_, Tryz.func70, by kernel_rfl, by kernel_rfl⟩
theorem enters73 : Enters Tryz.prog 73 := ⟨_, Tryz.func73, by kernel_rfl, by kernel_rfl⟩
theorem enters74 : Enters Tryz.prog 74 := ⟨_, Tryz.func74, by kernel_rfl, by kernel_rfl⟩
theorem enters75 : Enters Tryz.prog 75 := ⟨_, Tryz.func75, by kernel_rfl, by kernel_rfl⟩
theorem mk155 : (Tryz.prog.info? 155).map (fun i => (i.zero, i.size, i.bytes)) = some (some (.agg #[.int .i64 0, .int .i64 0, .int .i64 0]), 3, 24) := by kernel_rfl
theorem zero61 : (Tryz.prog.info? 61).bind (·.zero) = some (.agg #[.int .i64 0, .int .i64 0, .int .i64 0, .int .i64 0, .slice none 0 0]) := by kernel_rfl
instance : Zer Tryz.prog 61 [int .i64 0, int .i64 0, int .i64 0, int .i64 0, slice none 0 0] := ⟨⟨_, zero61, rfl⟩⟩
theorem over1_c (bt gt m i : Nat) (o n : Int) (Cs : List CV) (Ts : List TV) (hA : AscT o n Cs Ts) (hm9 : m ≤ 1000000000) (hm8 : Cs.length ≤ 1000000000) (hlT : Ts.length = m) (hi : i ≤ 1000000000) (w : World) (hbt : w.cell? ⟨bt, 0, none⟩ = some (.slice (some ⟨gt, 0, none⟩) m m)) (hr : RowsT w gt 0 Ts) (hbl : bt < w.heap.size) (hgl : gt < w.heap.size) : Calls Tryz.prog 73 #[.int .i64 (i : Int), .pointer (some ⟨bt, 0, none⟩)] w fun e w' => e = .returned (.bool (decide (ovF (upF Ts (i : Int))))) ∧ St w [] w' := by
 refine qL (args := [.int .i64 (i : Int), .pointer (some ⟨bt, 0, none⟩)]) Tryz.func73 rfl Tryz.ntmps73 (by simp) ?_
 refine qC [0, 1] ?_
 iterate 7 refine gx ?_
 refine qB (qA rfl) rfl (qS rfl agg118 rfl (At.old hbt hbl qF)) ?_
 refine gx ?_
 refine qY (ι := Nat × Nat) (V := fun y => .func (.func 107) #[] #[.pointer (some ⟨y.1, 0, none⟩), .pointer (some ⟨y.2, 0, none⟩)]) (R := fun y => w.heap.size ≤ y.1 ∧ w.heap.size ≤ y.2) (H' := fun y => [⟨y.1, 118, [slice (some ⟨gt, 0, none⟩) m m], 1⟩, ⟨y.2, 3, [int .i64 (i : Int)], 1⟩]) (qA rfl) rfl enters75 rfl rfl (fun w hs => (upTo_c gt m (i : Int) w).mono fun e w' ⟨y, he, hR, hw⟩ => ⟨y, he, ⟨Nat.le_trans hs.size hR.1, Nat.le_trans hs.size hR.2⟩, st_call hs hw (fun e he => by rcases List.mem_cons.1 he with rfl | he; exact hR.1; rw [List.mem_singleton.1 he]; exact hR.2)⟩) (fun y hR => ?_)
 obtain ⟨u1, v1⟩ := y
 obtain ⟨hu1, hv1⟩ := hR
 dsimp only at hu1 hv1 ⊢
 refine qM (qA rfl) rfl enters74 rfl rfl (v := .bool (decide (ovF (upF Ts (i : Int))))) (fun w hs => overlap_c u1 v1 gt m Ts (i : Int) (by omega) hm9 (hA.nums hm8) n hA.n0 (hA.pos _) (hA.ends _) w (capT_of (hs.has (⟨u1, 118, [slice (some ⟨gt, 0, none⟩) m m], 1⟩) (by simp)) (hs.has (⟨v1, 3, [int .i64 (i : Int)], 1⟩) (by simp)) (hr.of_block (hs.old gt hgl (qE (by show u1 ≠ gt; omega) (qE (by show v1 ≠ gt; omega) qF)))) hlT (Nat.lt_of_lt_of_le hgl hs.size))) ?_
 iterate 4 refine gx ?_
 exact qK rfl rfl (fun w hs => ⟨dec_iff (Iff.rfl), ((hs.drop (by assumption)).drop (by assumption))⟩)
theorem shr1 {h : Nat} {p : Int} (hh : (h : Int) = p / 2) (hp : 0 ≤ p) : shrI .u64 p 1 = (h : Int) := by
 unfold shrI
 rw [hh, Int.fdiv_eq_ediv_of_nonneg _ (by decide)]
 rfl
theorem search_c (p : Nat → Prop) [DecidablePred p] (m bt : Nat) (hm : m ≤ 1000000000) (w : World) (hf : ∀ (i : Nat) (W : World), i < m → St w [] W → Calls Tryz.prog 73 #[.int .i64 (i : Int), .pointer (some ⟨bt, 0, none⟩)] W fun e w' => e = .returned (.bool (decide (p i))) ∧ St W [] w') (hmono : ∀ a b, a ≤ b → b < m → p a → p b) : Calls Tryz.prog 72 #[.int .i64 (m : Int), .func (.func 73) #[] #[.pointer (some ⟨bt, 0, none⟩)]] w fun e w' => e = .returned (.int .i64 ((lowI p m) : Int)) ∧ St w [] w' := by
 refine qL (args := [.int .i64 (m : Int), .func (.func 73) #[] #[.pointer (some ⟨bt, 0, none⟩)]]) Tryz.func72 rfl Tryz.ntmps72 (by simp) ?_
 refine qC [0, 1] ?_
 iterate 14 refine gx ?_
 refine qr (ι := Nat × Nat) (fun y => [(1, .func (.func 73) #[] #[.pointer (some ⟨bt, 0, none⟩)]), (5, .int .i64 (y.1 : Int)), (6, .int .i64 (y.2 : Int))]) (fun y => []) (fun y => y.2 - y.1) (fun y => (y.1 ≤ y.2 ∧ y.2 ≤ m) ∧ (∀ j, j < y.1 → ¬ p j) ∧ ∀ j, y.2 ≤ j → j < m → p j) (0, m) ⟨⟨Nat.zero_le _, Nat.le_refl _⟩, fun j h => absurd h (Nat.not_lt_zero j), fun j h1 h2 => by omega⟩ (qI (i := 1) rfl (qH (i := 5) rfl rfl (qH (i := 6) rfl rfl (qN)))) (fun w h => h) (fun y hC0 => ?_)
 obtain ⟨lo, hi⟩ := y
 obtain ⟨⟨hC0, hC1⟩, hC2, hC3⟩ := hC0
 dsimp only at hC0 hC1 hC2 hC3
 iterate 8 refine gx ?_
 refine qX rfl (fun hq0 => ?_) (fun hq0 => ?_)
 ·iterate 7 refine gx ?_
  refine qB (qA rfl) rfl (qR rfl rfl rfl (r := ((lo : Int) + (hi : Int))) (w64 (by omega) (by omega))) ?_
  refine qB (qA rfl) rfl (qt rfl Tryz.underlying3 Tryz.underlying99 rfl (r := ((lo : Int) + (hi : Int))) (wu64 rfl (by omega))) ?_
  obtain ⟨h, hh⟩ : ∃ h : Nat, (h : Int) = ((lo : Int) + (hi : Int)) / 2 := ⟨(lo + hi) / 2, by omega⟩
  refine qB (qA rfl) rfl (zN rfl rfl rfl (by omega) (r := (h : Int)) (shr1 hh (by omega))) ?_
  refine qB (qA rfl) rfl (qt rfl Tryz.underlying99 Tryz.underlying3 rfl (r := (h : Int)) (w64 rfl (by omega))) ?_
  iterate 3 refine gx ?_
  refine qC [1, 5, 6, 7] ?_
  iterate 4 refine gx ?_
  refine TL.call0F (qA rfl) rfl enters73 rfl rfl rfl (u := .bool (decide (p h))) (fun w hs => hf h w (by omega) hs) ?_
  iterate 3 refine gx ?_
  refine qX rfl (fun hq1 => ?_) (fun hq1 => ?_)
  ·iterate 2 refine gx ?_
   refine qB (qA rfl) rfl (qR rfl rfl rfl (r := ((h : Int) + 1)) (w64 (by omega) (by omega))) ?_
   iterate 3 refine gx ?_
   exact qj (h + 1, hi) (by show hi - (h + 1) < hi - lo; omega) ⟨⟨(by show h + 1 ≤ hi; omega), hC1⟩, fun j hj hp => hq1 (hmono j h (by omega) (by omega) hp), hC3⟩ (qI (i := 1) rfl (qH (i := 5) rfl (by show _ = _; omega) (qH (i := 6) rfl (by show _ = _; omega) (qN)))) (fun w h => h)
  ·iterate 5 refine gx ?_
   exact qj (lo, h) (by show h - lo < hi - lo; omega) ⟨⟨(by show lo ≤ h; omega), (by show h ≤ m; omega)⟩, hC2, fun j h1 h2 => hmono h j h1 h2 (Classical.byContradiction hq1)⟩ (qI (i := 1) rfl (qH (i := 5) rfl (by show _ = _; omega) (qH (i := 6) rfl (by show _ = _; omega) (qN)))) (fun w h => h)
 ·iterate 12 refine gx ?_
  exact qK rfl rfl (fun w hs => ⟨ret_i (by rw [lowI_is (k := lo) (by omega) hC2 (by by_cases hmm : lo = m; exact .inl hmm; exact .inr (hC3 lo (by omega) (by omega)))]), hs⟩)
theorem tgt_c (k t f l : Int) (A : Option Addr) (m c : Nat) (hk : k = 1 ∨ k = 2) (w : World) : Calls Tryz.prog 70 #[.agg ([int .i64 k, int .i64 t, int .i64 f, int .i64 l, slice A m c]).toArray] w fun e w' => e = .returned (.agg ([int .i64 t, int .i64 (lenV k l m)]).toArray) ∧ St w [] w' := by
 unfold lenV
 rcases hk with rfl | rfl
 ·rw [if_pos rfl]; exact target1 t f l A m c w
 ·rw [if_neg (by decide)]; exact target2 t f l A m c w
theorem asc_c (A : Option Addr) (m c : Nat) (Cs : List CV) (hk12 : ∀ (i : Nat) (x : CV), Cs[i]? = some x → x.k = 1 ∨ x.k = 2) (hmm : m ≤ 1000000000) (hN : NumsC Cs) (w : World) (hC : SrcC w A m Cs) : Calls Tryz.prog 71 #[.slice A m c] w fun e w' => ∃ y : Nat × List TV, e = .returned (.slice (some ⟨y.1, 0, none⟩) m m) ∧ (y.2.Perm (tvOf Cs) ∧ y.2.Pairwise leT) ∧ w.heap.size ≤ y.1 ∧ St w [⟨y.1, 155, flatT y.2, (m * 3)⟩] w' := by
 refine qL (args := [.slice A m c]) Tryz.func71 rfl Tryz.ntmps71 (by simp) ?_
 refine qC [0] ?_
 iterate 9 refine gx ?_
 refine TL.makeSliceS (qA rfl) rfl rfl Tryz.underlying118 mk155 (zs := [int .i64 0, int .i64 0, int .i64 0]) rfl rfl (by decide) rfl rfl (ln := m) (cp := m) (by omega) (by omega) (by omega) (by omega) (by omega) (cs := flatT (stT Cs m 0)) (tot := m * 3) (stT_rep Cs m) rfl (fun g1 hg1 => ?_)
 iterate 11 refine gx ?_
 refine qC [2, 3, 9, 10, 11] ?_
 refine gx ?_
 refine qr (ι := Nat) (fun i => [(3, .slice (some ⟨g1, 0, none⟩) m m), (9, .slice A m c), (10, .int .i64 (m : Int)), (11, .int .i64 (i : Int))]) (fun i => [⟨g1, 155, flatT (stT Cs m i), (m * 3)⟩]) (fun i => m - i) (fun i => i ≤ m) 0 (Nat.zero_le _) (qT (i := 3) rfl rfl (by first | omega | (dsimp only; omega) | rfl) (by first | omega | (dsimp only; omega) | rfl) (qT (i := 9) rfl rfl (by first | omega | (dsimp only; omega) | rfl) (by first | omega | (dsimp only; omega) | rfl) (qH (i := 10) rfl (by first | omega | rfl) (qH (i := 11) rfl (by first | omega | rfl) (qN))))) (fun w h => h) (fun i hC0 => ?_)
 iterate 6 refine gx ?_
 refine qX rfl (fun hq0 => ?_) (fun hq0 => ?_)
 ·obtain ⟨b, off, hAe, hb, hrw⟩ := hC.some_ (i := i) (by omega)
  subst hAe
  obtain ⟨x, hx⟩ := hC.get (i := i) (by omega)
  have hnx := hN i x hx
  unfold NumC at hnx
  have hlbx := lenV_bd (k := x.k) (l := x.l) (m := x.m) (by omega) (by omega)
  iterate 7 refine gx ?_
  refine qB (qA rfl) rfl (ql rfl Tryz.underlying25 size61 rfl rfl (i := i) (by omega) (by omega) (off' := (off + 5 * i)) (by omega)) ?_
  refine qB (qA rfl) rfl (qg rfl agg61 size61 rfl rfl (zS (fun jj u h => hrw i x hx jj u h) hb (qE (by show g1 ≠ b; omega) qF))) ?_
  refine qc (fun g2 hg2 => ?_)
  iterate 4 refine gx ?_
  refine qC [3, 4, 5, 9, 10, 11] ?_
  iterate 4 refine gx ?_
  refine qM (qA rfl) rfl enters70 rfl rfl (v := .agg ([int .i64 x.t, int .i64 (lenV x.k x.l x.m)]).toArray) (fun w hs => tgt_c x.k x.t x.f x.l x.A x.m x.c (hk12 i x hx) w) ?_
  refine gx ?_
  refine qB (qA rfl) rfl (qm rfl (vs := [(0, Value.agg ([int .i64 x.t, int .i64 (lenV x.k x.l x.m)]).toArray), (1, int .i64 (i : Int))]) rfl (fun w => by first | rfl | kernel_rfl) (v := .agg ([int .i64 x.t, int .i64 (lenV x.k x.l x.m), int .i64 (i : Int)]).toArray)) ?_
  refine qB (qA rfl) rfl (ql rfl Tryz.underlying118 size155 rfl rfl (i := i) (by omega) (by omega) (off' := (3 * i)) (by omega)) ?_
  refine TL.storeN (qA rfl) rfl rfl size155 rfl (vs := [int .i64 x.t, int .i64 (lenV x.k x.l x.m), int .i64 (i : Int)]) rfl rfl (by simp [Value.oneCell']) (i := 1) (ent := ⟨g1, 155, flatT (stT Cs m i), (m * 3)⟩) rfl rfl (by show (3 * i) + 3 ≤ (flatT (stT Cs m i)).length; rw [flatT_len, stT_len hC.1 (by omega)]; omega) (cs' := flatT (stT Cs m (i + 1))) (stT_step hC.1 hx) (H' := [⟨g2, 61, [int .i64 x.k, int .i64 x.t, int .i64 x.f, int .i64 x.l, slice x.A x.m x.c], 5⟩, ⟨g1, 155, flatT (stT Cs m (i + 1)), (m * 3)⟩]) rfl ?_
  iterate 3 refine gx ?_
  refine qC [3, 9, 10, 11] ?_
  refine gx ?_
  refine qB (qA rfl) rfl (qR rfl rfl rfl (r := ((i : Int) + 1)) (w64 (by omega) (by omega))) ?_
  iterate 2 refine gx ?_
  exact qj (i + 1) (by omega) (by omega) (qT (i := 3) rfl rfl (by first | omega | (dsimp only; omega) | rfl) (by first | omega | (dsimp only; omega) | rfl) (qT (i := 9) rfl (by first | rfl | (congr 2; omega)) (by first | omega | (dsimp only; omega) | rfl) (by first | omega | (dsimp only; omega) | rfl) (qH (i := 10) rfl (by first | omega | rfl) (qH (i := 11) rfl (by first | omega | rfl) (qN))))) (fun w h => (h.erase (i := 0) rfl (by assumption)))
 ·have him : i = m := by omega
  iterate 8 refine gx ?_
  refine qY (ι := List TV) (V := fun Es => .tuple #[]) (R := fun Es => Es.Perm (tvOf Cs) ∧ Es.Pairwise leT) (H' := fun Es => [⟨g1, 155, flatT Es, (m * 3)⟩]) (qA rfl) rfl enters104 rfl rfl (fun w hs => by have hlen := stT_len (i := i) hC.1 (by omega); have h := sortT_c (Ts := stT Cs m i) (cap := m) hs (by omega) (fun args w => run_call enters105 args w) (fun x y W => closureT_c x y W); rw [hlen] at h; exact h.mono fun e w' ⟨he, Es, hp, hq, hw⟩ => ⟨Es, he, ⟨by rw [him, stT_all hC.1] at hp; exact hp, hq⟩, hw⟩) (fun Es hEs => ?_)
  iterate 9 refine gx ?_
  exact qK rfl rfl (fun w hs => ⟨(g1, Es), rfl, hEs, by assumption, hs⟩)
/-
 The code of layer 5: checkTargets.
-/
theorem agg30 : (isAgg 30).run Tryz.prog = fun w => .ok true w := isAgg_yes Tryz.underlying30 rfl
theorem enters71 : Enters Tryz.prog 71 := ⟨_, Tryz.func71, by kernel_rfl, by kernel_rfl⟩
theorem enters72 : Enters Tryz.prog 72 := ⟨_, Tryz.func72, by kernel_rfl, by kernel_rfl⟩
theorem enters76 : Enters Tryz.prog 76 := ⟨_, Tryz.func76, by kernel_rfl, by kernel_rfl⟩
theorem size118 : (Tryz.prog.info? 118).map (·.size) = some 1 := by kernel_rfl
theorem size30 : (Tryz.prog.info? 30).map (·.size) = some 2 := by kernel_rfl
theorem zero118 : (Tryz.prog.info? 118).bind (·.zero) = some (.slice none 0 0) := by kernel_rfl
theorem zero30 : (Tryz.prog.info? 30).bind (·.zero) = some (.agg #[.int .i64 0, .int .i64 0]) := by kernel_rfl
instance : AgN Tryz.prog 118 := ⟨agg118⟩
instance : Siz Tryz.prog 30 2 := ⟨size30⟩
instance : Zer Tryz.prog 118 [slice none 0 0] := ⟨⟨_, zero118, rfl⟩⟩
instance : Zer Tryz.prog 30 [int .i64 0, int .i64 0] := ⟨⟨_, zero30, rfl⟩⟩
theorem ct_c (o n : Int) (H1 H2 : List Int) (hH1 : H1.length = 32) (hH2 : H2.length = 32) (A : Option Addr) (m c : Nat) (Cs : List CV) (hk12 : ∀ (i : Nat) (x : CV), Cs[i]? = some x → x.k = 1 ∨ x.k = 2) (hok : okLen o n) (h1 : ∀ (i : Nat) (x : CV), Cs[i]? = some x → singleV o n x = 0) (hmm : m ≤ 1000000000) (hN : NumsC Cs) (w : World) (hC : SrcC w A m Cs)  : Calls Tryz.prog 33 #[.agg (dV o n H1 H2 (slice A m c)).toArray] w fun e w' => e = .returned (.agg ([int .i64 ((faultI o n Cs).1), int .i64 ((faultI o n Cs).2)]).toArray) ∧ St w [] w' := by
 refine qL (args := [.agg (dV o n H1 H2 (slice A m c)).toArray]) Tryz.func33 rfl Tryz.ntmps33 (by simp) ?_
 refine qC [0] ?_
 iterate 2 refine gx ?_
 refine zQ (qA rfl) rfl rfl rfl (cs := dV o n H1 H2 (slice A m c)) (by simp [Value.cells]) (tot := 67) (by simp [hH1, hH2]) (fun g1 hg1 => ?_)
 refine qc (fun g2 hg2 => ?_)
 iterate 6 refine gx ?_
 refine qY (ι := Nat × List TV) (V := fun y => .slice (some ⟨y.1, 0, none⟩) m m) (R := fun y => (y.2.Perm (tvOf Cs) ∧ y.2.Pairwise leT) ∧ w.heap.size ≤ y.1) (H' := fun y => [⟨g2, 30, [int .i64 0, int .i64 0], 2⟩, ⟨g1, 27, dV o n H1 H2 (slice A m c), 67⟩, ⟨y.1, 155, flatT y.2, (m * 3)⟩]) (qA rfl) rfl enters71 rfl rfl (fun w hs => (asc_c A m c Cs hk12 (by omega) hN w (hC.at_ hs (fun b hb => (qE (by show g2 ≠ b; omega) (qE (by show g1 ≠ b; omega) qF))))).mono fun e w' ⟨y, he, hR, hg, hw⟩ => ⟨y, he, ⟨hR, Nat.le_trans hs.size hg⟩, st_call hs hw (fun e he => by rw [List.mem_singleton.1 he]; exact hg)⟩) (fun y hR => ?_)
 obtain ⟨gt, Ts⟩ := y
 obtain ⟨⟨hTp, hTs⟩, hgt⟩ := hR
 dsimp only at hTp hTs hgt ⊢
 have hA : AscT o n Cs Ts := ⟨hTp, hTs, hok, h1⟩
 have hm8 : Cs.length ≤ 1000000000 := by have := hC.1; omega
 have hm9 : m ≤ 1000000000 := hmm
 have hlT : Ts.length = m := hA.len.trans hC.1
 have hls := lowI_spec (fun q : Nat => ovF (upF Ts (q : Int))) m
 have hlow := hls.2
 have hn0 := hA.n0
 refine qc (fun g3 hg3 => ?_)
 refine qw (qA rfl) rfl rfl size118 rfl rfl rfl (i := 0) rfl rfl (by simp [] <;> omega) (cs' := [slice (some ⟨gt, 0, none⟩) m m]) (rfl) (H' := [⟨g3, 118, [slice (some ⟨gt, 0, none⟩) m m], 1⟩, ⟨g2, 30, [int .i64 0, int .i64 0], 2⟩, ⟨g1, 27, dV o n H1 H2 (slice A m c), 67⟩, ⟨gt, 155, flatT Ts, (m * 3)⟩]) rfl ?_
 iterate 6 refine gx ?_
 refine qB (qA rfl) rfl (zg rfl rfl rfl) ?_
 refine qM (qA rfl) rfl enters72 rfl rfl (v := .int .i64 ((lowI (fun q : Nat => ovF (upF Ts (q : Int))) m) : Int)) (fun w hs => search_c (fun q : Nat => ovF (upF Ts (q : Int))) m g3 (by omega) w (fun i W hi hW => over1_c g3 gt m i o n Cs Ts hA hm9 hm8 hlT (by omega) W ((lies_call (hs.has (⟨g3, 118, [slice (some ⟨gt, 0, none⟩) m m], 1⟩) (by simp)) hW).cell rfl) (lies_rowsT (lies_call (hs.has (⟨gt, 155, flatT Ts, (m * 3)⟩) (by simp)) hW)) (lies_call (hs.has (⟨g3, 118, [slice (some ⟨gt, 0, none⟩) m m], 1⟩) (by simp)) hW).lt (lies_call (hs.has (⟨gt, 155, flatT Ts, (m * 3)⟩) (by simp)) hW).lt) (fun a b hab _ ha => hA.mono hab ha)) ?_
 iterate 3 refine gx ?_
 refine qC [1, 2, 3, 4] ?_
 iterate 9 refine gx ?_
 refine qX rfl (fun hq0 => ?_) (fun hq0 => ?_)
 ·have hov : ovF (upF Ts ((lowI (fun q : Nat => ovF (upF Ts (q : Int))) m : Nat) : Int)) := by rcases hls.1 with h | h; exact h.2; omega
  iterate 3 refine gx ?_
  refine qB (qA rfl) rfl (qm rfl (vs := [(0, int .i64 4), (1, int .i64 ((lowI (fun q : Nat => ovF (upF Ts (q : Int))) m) : Int))]) rfl (fun w => by first | rfl | kernel_rfl) (v := .agg ([int .i64 4, int .i64 ((lowI (fun q : Nat => ovF (upF Ts (q : Int))) m) : Int)]).toArray)) ?_
  iterate 5 refine gx ?_
  exact qu rfl agg30 size30 rfl (vs := [int .i64 4, int .i64 ((lowI (fun q : Nat => ovF (upF Ts (q : Int))) m) : Int)]) rfl (qQ (i := 1) (ent := ⟨g2, 30, [int .i64 4, int .i64 ((lowI (fun q : Nat => ovF (upF Ts (q : Int))) m) : Int)], 2⟩) rfl rfl rfl) (fun w hs => ⟨by rw [hA.over (k := lowI (fun q : Nat => ovF (upF Ts (q : Int))) m) hov (fun j hj => hlow j hj (by omega))], ((((hs.drop (by assumption)).drop (by assumption)).drop (by assumption)).drop (by assumption))⟩)
 ·have hnb : ∀ j : Nat, j < m → ¬ ovF (upF Ts (j : Int)) := by rcases hls.1 with h | h; omega; exact fun j hj => hlow j (by omega) hj
  iterate 8 refine gx ?_
  refine qY (ι := Nat × Nat) (V := fun y => .func (.func 107) #[] #[.pointer (some ⟨y.1, 0, none⟩), .pointer (some ⟨y.2, 0, none⟩)]) (R := fun y => w.heap.size ≤ y.1 ∧ w.heap.size ≤ y.2) (H' := fun y => [⟨g3, 118, [slice (some ⟨gt, 0, none⟩) m m], 1⟩, ⟨g2, 30, [int .i64 0, int .i64 0], 2⟩, ⟨g1, 27, dV o n H1 H2 (slice A m c), 67⟩, ⟨gt, 155, flatT Ts, (m * 3)⟩, ⟨y.1, 118, [slice (some ⟨gt, 0, none⟩) m m], 1⟩, ⟨y.2, 3, [int .i64 (m : Int)], 1⟩]) (qA rfl) rfl enters75 rfl rfl (fun w hs => (upTo_c gt m (m : Int) w).mono fun e w' ⟨y, he, hR, hw⟩ => ⟨y, he, ⟨Nat.le_trans hs.size hR.1, Nat.le_trans hs.size hR.2⟩, st_call hs hw (fun e he => by rcases List.mem_cons.1 he with rfl | he; exact hR.1; rw [List.mem_singleton.1 he]; exact hR.2)⟩) (fun y hR => ?_)
  obtain ⟨u1, v1⟩ := y
  obtain ⟨hu1, hv1⟩ := hR
  dsimp only at hu1 hv1 ⊢
  refine qY (ι := Int) (V := fun z => .int .i64 z) (R := fun z => gapR (upF Ts (m : Int)) z) (H' := fun _ => [⟨g3, 118, [slice (some ⟨gt, 0, none⟩) m m], 1⟩, ⟨g2, 30, [int .i64 0, int .i64 0], 2⟩, ⟨g1, 27, dV o n H1 H2 (slice A m c), 67⟩, ⟨gt, 155, flatT Ts, (m * 3)⟩, ⟨u1, 118, [slice (some ⟨gt, 0, none⟩) m m], 1⟩, ⟨v1, 3, [int .i64 (m : Int)], 1⟩]) (qA rfl) rfl enters76 rfl rfl (fun w hs => (gap_c u1 v1 gt m Ts (m : Int) (by omega) hm9 (hA.nums hm8) n hA.n0 (hA.pos _) (hA.ends _) w (capT_of (hs.has (⟨u1, 118, [slice (some ⟨gt, 0, none⟩) m m], 1⟩) (by simp)) (hs.has (⟨v1, 3, [int .i64 (m : Int)], 1⟩) (by simp)) (lies_rowsT (hs.has (⟨gt, 155, flatT Ts, (m * 3)⟩) (by simp))) hlT (hs.has (⟨gt, 155, flatT Ts, (m * 3)⟩) (by simp)).lt)).mono fun e w' ⟨y, he, hR, hw⟩ => ⟨y, he, hR, hs.call' hw⟩) (fun z hz => ?_)
  iterate 3 refine gx ?_
  refine qC [1, 2, 5] ?_
  iterate 8 refine gx ?_
  refine qX rfl (fun hq1 => ?_) (fun hq1 => ?_)
  ·iterate 3 refine gx ?_
   refine qB (qA rfl) rfl (qm rfl (vs := [(0, int .i64 3), (1, int .i64 z)]) rfl (fun w => by first | rfl | kernel_rfl) (v := .agg ([int .i64 3, int .i64 z]).toArray)) ?_
   iterate 5 refine gx ?_
   exact qu rfl agg30 size30 rfl (vs := [int .i64 3, int .i64 z]) rfl (qQ (i := 1) (ent := ⟨g2, 30, [int .i64 3, int .i64 z], 2⟩) rfl rfl rfl) (fun w hs => ⟨by rw [hA.gap hC.1 hnb hz hq1], ((((((hs.drop (by assumption)).drop (by assumption)).drop (by assumption)).drop (by assumption)).drop (by assumption)).drop (by assumption))⟩)
  ·iterate 4 refine gx ?_
   refine qB (qA rfl) rfl (qm rfl (vs := []) rfl (fun w => by first | rfl | kernel_rfl) (v := .agg ([int .i64 0, int .i64 0]).toArray)) ?_
   iterate 4 refine gx ?_
   exact qu rfl agg30 size30 rfl (vs := [int .i64 0, int .i64 0]) rfl (qQ (i := 1) (ent := ⟨g2, 30, [int .i64 0, int .i64 0], 2⟩) rfl rfl rfl) (fun w hs => ⟨by rw [hA.none hC.1 hnb hz hq1], ((((((hs.drop (by assumption)).drop (by assumption)).drop (by assumption)).drop (by assumption)).drop (by assumption)).drop (by assumption))⟩)
/-
 The code of layer 5: checkCommand, Check, Valid.
-/
theorem enters14 : Enters Tryz.prog 14 := ⟨_, Tryz.func14, by kernel_rfl, by kernel_rfl⟩
theorem enters31 : Enters Tryz.prog 31 := ⟨_, Tryz.func31, by kernel_rfl, by kernel_rfl⟩
theorem enters32 : Enters Tryz.prog 32 := ⟨_, Tryz.func32, by kernel_rfl, by kernel_rfl⟩
theorem enters33 : Enters Tryz.prog 33 := ⟨_, Tryz.func33, by kernel_rfl, by kernel_rfl⟩
theorem enters67 : Enters Tryz.prog 67 := ⟨_, Tryz.func67, by kernel_rfl, by kernel_rfl⟩
theorem enters68 : Enters Tryz.prog 68 := ⟨_, Tryz.func68, by kernel_rfl, by kernel_rfl⟩
theorem enters69 : Enters Tryz.prog 69 := ⟨_, Tryz.func69, by kernel_rfl, by kernel_rfl⟩
theorem geq30 : Tryz.prog.eqGuardType Tryz.prog.depth 30 = false := by kernel_rfl
theorem sih30 : Tryz.prog.stoodInHeld 30 = false := by kernel_rfl
theorem file_c (n : Int) (w : World) : Calls Tryz.prog 31 #[.int .i64 n] w fun e w' => e = .returned (.agg ([int .i64 0, int .i64 n]).toArray) ∧ St w [] w' := by
 refine qL (args := [.int .i64 n]) Tryz.func31 rfl Tryz.ntmps31 (by simp) ?_
 refine qC [0] ?_
 iterate 2 refine gx ?_
 refine qc (fun g1 hg1 => ?_)
 iterate 5 refine gx ?_
 refine qB (qA rfl) rfl (qm rfl (vs := [(1, int .i64 n)]) rfl (fun w => by first | rfl | kernel_rfl) (v := .agg ([int .i64 0, int .i64 n]).toArray)) ?_
 iterate 4 refine gx ?_
 exact qu rfl agg70 size70 rfl (vs := [int .i64 0, int .i64 n]) rfl (qQ (i := 0) (ent := ⟨g1, 70, [int .i64 0, int .i64 n], 2⟩) rfl rfl rfl) (fun w hs => ⟨rfl, (hs.drop (by assumption))⟩)
theorem code_kind {k t f l : Int} {m : Nat} (h : codeV k t f l m = 0) : k = 1 ∨ k = 2 := by
 by_cases h1 : k = 1
 ·exact .inl h1
 ·by_cases h2 : k = 2
  ·exact .inr h2
  ·unfold codeV at h; rw [if_neg h1, if_neg h2] at h; cases h
theorem src1_c (k t f l : Int) (A : Option Addr) (m c : Nat) (hk : k = 1) (w : World) : Calls Tryz.prog 68 #[.agg ([int .i64 k, int .i64 t, int .i64 f, int .i64 l, slice A m c]).toArray] w fun e w' => e = .returned (.tuple #[.agg ([int .i64 f, int .i64 l]).toArray, .bool true]) ∧ St w [] w' := by
 subst hk; exact source1 t f l A m c w
theorem src2_c (k t f l : Int) (A : Option Addr) (m c : Nat) (hk : k = 2) (w : World) : Calls Tryz.prog 68 #[.agg ([int .i64 k, int .i64 t, int .i64 f, int .i64 l, slice A m c]).toArray] w fun e w' => e = .returned (.tuple #[.agg ([int .i64 0, int .i64 0]).toArray, .bool false]) ∧ St w [] w' := by
 subst hk; exact source2 t f l A m c w
theorem fault_zero {o n : Int} {Cs : List CV} (h : (faultI o n Cs).1 = 0) : (faultI o n Cs).2 = 0 := by
 obtain ⟨h1, h2, h3, h4⟩ := faultI_valid h
 rw [faultI_gap h1 h2 h3, if_neg (by omega)]
theorem sg_bad (o n : Int) (H1 H2 : List Int) (hH1 : H1.length = 32) (hH2 : H2.length = 32) (A : Option Addr) (m c : Nat) (Cs : List CV) (x : CV) (hok : okLen o n) (hn : NumC x) (hv : ¬ codeV x.k x.t x.f x.l x.m = 0) (w : World) : Calls Tryz.prog 32 #[.agg (dV o n H1 H2 (slice A m c)).toArray, .agg ([int .i64 x.k, int .i64 x.t, int .i64 x.f, int .i64 x.l, slice x.A x.m x.c]).toArray] w fun e w' => e = .returned (.int .i64 (singleV o n x)) ∧ St w [] w' := by
 have hnx := hn
 unfold NumC at hnx
 have hlb := lenV_bd (k := x.k) (l := x.l) (m := x.m) (by omega) (by omega)
 have hok2 := hok
 unfold okLen at hok2
 refine qL (args := [.agg (dV o n H1 H2 (slice A m c)).toArray, .agg ([int .i64 x.k, int .i64 x.t, int .i64 x.f, int .i64 x.l, slice x.A x.m x.c]).toArray]) Tryz.func32 rfl Tryz.ntmps32 (by simp) ?_
 refine qC [0, 1] ?_
 iterate 2 refine gx ?_
 refine zQ (qA rfl) rfl rfl rfl (cs := dV o n H1 H2 (slice A m c)) (by simp [Value.cells]) (tot := 67) (by simp [hH1, hH2]) (fun g1 hg1 => ?_)
 refine qv (fun g2 hg2 => ?_)
 iterate 7 refine gx ?_
 refine qM (qA rfl) rfl enters67 rfl rfl (v := .int .i64 (codeV x.k x.t x.f x.l x.m)) (fun w hs => check_c x.k x.t x.f x.l x.A x.m x.c (by omega) (by omega) (by omega) (by omega) w) ?_
 iterate 6 refine gx ?_
 refine qB (qA rfl) rfl (qP (qs rfl rfl rfl) hv) ?_
 iterate 2 refine gx ?_
 refine qC [2, 3, 4, 5, 11] ?_
 refine qd rfl ?_
 iterate 8 refine gx ?_
 exact qK rfl rfl (fun w hs => ⟨ret_i (by unfold singleV; (try unfold inside_ at *); (repeat' split) <;> first | rfl | (exfalso; omega)), ((hs.drop (by assumption)).drop (by assumption))⟩)
theorem sg_one (o n : Int) (H1 H2 : List Int) (hH1 : H1.length = 32) (hH2 : H2.length = 32) (A : Option Addr) (m c : Nat) (Cs : List CV) (x : CV) (hok : okLen o n) (hn : NumC x) (hv : codeV x.k x.t x.f x.l x.m = 0) (hk : x.k = 1) (w : World) : Calls Tryz.prog 32 #[.agg (dV o n H1 H2 (slice A m c)).toArray, .agg ([int .i64 x.k, int .i64 x.t, int .i64 x.f, int .i64 x.l, slice x.A x.m x.c]).toArray] w fun e w' => e = .returned (.int .i64 (singleV o n x)) ∧ St w [] w' := by
 have hnx := hn
 unfold NumC at hnx
 have hlb := lenV_bd (k := x.k) (l := x.l) (m := x.m) (by omega) (by omega)
 have hok2 := hok
 unfold okLen at hok2
 have hcv := codeV_facts hv
 unfold vld at hcv
 have hcf := hcv.2.2 hk
 refine qL (args := [.agg (dV o n H1 H2 (slice A m c)).toArray, .agg ([int .i64 x.k, int .i64 x.t, int .i64 x.f, int .i64 x.l, slice x.A x.m x.c]).toArray]) Tryz.func32 rfl Tryz.ntmps32 (by simp) ?_
 refine qC [0, 1] ?_
 iterate 2 refine gx ?_
 refine zQ (qA rfl) rfl rfl rfl (cs := dV o n H1 H2 (slice A m c)) (by simp [Value.cells]) (tot := 67) (by simp [hH1, hH2]) (fun g1 hg1 => ?_)
 refine qv (fun g2 hg2 => ?_)
 iterate 7 refine gx ?_
 refine qM (qA rfl) rfl enters67 rfl rfl (v := .int .i64 (codeV x.k x.t x.f x.l x.m)) (fun w hs => check_c x.k x.t x.f x.l x.A x.m x.c (by omega) (by omega) (by omega) (by omega) w) ?_
 iterate 6 refine gx ?_
 refine qB (qA rfl) rfl (qU (qs rfl rfl rfl) (fun h => h hv)) ?_
 iterate 2 refine gx ?_
 refine qC [2, 3, 4, 5, 11] ?_
 refine qW rfl ?_
 iterate 6 refine gx ?_
 refine qM (qA rfl) rfl enters68 rfl rfl (v := .tuple #[.agg ([int .i64 x.f, int .i64 x.l]).toArray, .bool true]) (fun w hs => src1_c x.k x.t x.f x.l x.A x.m x.c hk w) ?_
 iterate 3 refine gx ?_
 refine qc (fun g3 hg3 => ?_)
 iterate 4 refine gx ?_
 refine qC [2, 3, 4, 6, 7] ?_
 refine gx ?_
 refine TC.mixS [⟨g3, 70, [int .i64 x.f, int .i64 x.l], 2⟩, ⟨g2, 61, [int .i64 x.k, int .i64 x.t, int .i64 x.f, int .i64 x.l, slice x.A x.m x.c], 5⟩, ⟨g1, 27, dV o n H1 H2 (slice A m c), 67⟩] [] (by kernel_rfl) [0, 0, 0, 1, 1, 1, 3, 1, 0, 0] [0, 1, 2, 3, 4, 5, 6, 7, 8, 9] [fun _ _ => True, fun _ _ => True, fun _ _ => True, fun _ _ => True, fun _ _ => True, fun _ _ => True, fun v d => ∃ g, v = .slice (some ⟨g, 0, none⟩) 1 1 ∧ d = [⟨g, 70, [.int .i64 x.f, .int .i64 x.l], 2⟩], fun _ _ => True, fun _ _ => True, fun _ _ => True] (by kernel_rfl) (by kernel_rfl) (perm_pick (p := [0, 1, 2]) (by kernel_rfl) rfl) zA ?_
 iterate 4 refine gx ?_
 refine zL (qJ rfl rfl rfl) rfl enters31 rfl rfl (v := .agg ([int .i64 0, int .i64 o]).toArray) (fun Z w hZ hs => file_c o w) ?_
 refine gx ?_
 refine ze (qJ rfl rfl rfl) rfl rfl Tryz.underlying151 size70 zero70 rfl (by decide) (by decide) (cells := #[.int .i64 x.f, .int .i64 x.l]) (tot := 2) (by kernel_rfl) (cs := [.int .i64 x.f, .int .i64 x.l]) rfl rfl (fun g4 hg4 => ?_)
 refine zL (qJ rfl rfl rfl) rfl enters69 rfl rfl (v := .bool (decide (inside_ 0 o x.f x.l))) (fun Z w hZ hs => contains1 0 o x.f x.l (by omega) (by omega) g4 (hs.has (⟨g4, 70, [int .i64 x.f, int .i64 x.l], 2⟩) (by simp)).lt (lies_row0 (hs.has (⟨g4, 70, [int .i64 x.f, int .i64 x.l], 2⟩) (by simp)))) ?_
 iterate 4 refine gx ?_
 refine qC [2, 3, 4, 27] ?_
 refine qX rfl (fun hq1 => ?_) (fun hq1 => ?_)
 ·iterate 7 refine gx ?_
  exact qK rfl rfl (fun w hs => ⟨ret_i (by unfold singleV; (try unfold inside_ at *); (repeat' split) <;> first | rfl | (exfalso; omega)), ((((hs.drop (by assumption)).drop (by assumption)).drop (by assumption)).drop (by assumption))⟩)
 ·iterate 4 refine gx ?_
  refine TC.mixS [⟨g3, 70, [int .i64 x.f, int .i64 x.l], 2⟩, ⟨g2, 61, [int .i64 x.k, int .i64 x.t, int .i64 x.f, int .i64 x.l, slice x.A x.m x.c], 5⟩, ⟨g1, 27, dV o n H1 H2 (slice A m c), 67⟩, ⟨g4, 70, [int .i64 x.f, int .i64 x.l], 2⟩] [] (by kernel_rfl) [0, 1, 1, 1, 1, 3, 1, 0] [0, 1, 2, 3, 4, 5, 6, 7] [fun _ _ => True, fun _ _ => True, fun _ _ => True, fun _ _ => True, fun _ _ => True, fun v d => ∃ g, v = .slice (some ⟨g, 0, none⟩) 1 1 ∧ d = [⟨g, 70, [.int .i64 x.t, .int .i64 (lenV x.k x.l x.m)], 2⟩], fun _ _ => True, fun _ _ => True] (by kernel_rfl) (by kernel_rfl) (perm_pick (p := [0, 1, 2, 3]) (by kernel_rfl) rfl) zA ?_
  iterate 2 refine gx ?_
  refine zL (qA rfl) rfl enters31 rfl rfl (v := .agg ([int .i64 0, int .i64 n]).toArray) (fun Z w hZ hs => file_c n w) ?_
  refine gx ?_
  refine zL (qA rfl) rfl enters70 rfl rfl (v := .agg ([int .i64 x.t, int .i64 (lenV x.k x.l x.m)]).toArray) (fun Z w hZ hs => tgt_c x.k x.t x.f x.l x.A x.m x.c (.inl hk) w) ?_
  refine ze (qA rfl) rfl rfl Tryz.underlying151 size70 zero70 rfl (by decide) (by decide) (cells := #[.int .i64 x.t, .int .i64 (lenV x.k x.l x.m)]) (tot := 2) (by kernel_rfl) (cs := [.int .i64 x.t, .int .i64 (lenV x.k x.l x.m)]) rfl rfl (fun g5 hg5 => ?_)
  refine zL (qA rfl) rfl enters69 rfl rfl (v := .bool (decide (inside_ 0 n x.t (lenV x.k x.l x.m)))) (fun Z w hZ hs => contains1 0 n x.t (lenV x.k x.l x.m) (by omega) (by omega) g5 (hs.has (⟨g5, 70, [int .i64 x.t, int .i64 (lenV x.k x.l x.m)], 2⟩) (by simp)).lt (lies_row0 (hs.has (⟨g5, 70, [int .i64 x.t, int .i64 (lenV x.k x.l x.m)], 2⟩) (by simp)))) ?_
  iterate 3 refine gx ?_
  refine qC [4, 35] ?_
  refine qX rfl (fun hq2 => ?_) (fun hq2 => ?_)
  ·iterate 7 refine gx ?_
   exact qK rfl rfl (fun w hs => ⟨ret_i (by unfold singleV; (try unfold inside_ at *); (repeat' split) <;> first | rfl | (exfalso; omega)), (((((hs.drop (by assumption)).drop (by assumption)).drop (by assumption)).drop (by assumption)).drop (by assumption))⟩)
  ·iterate 8 refine gx ?_
   exact qK rfl rfl (fun w hs => ⟨ret_i (by unfold singleV; (try unfold inside_ at *); (repeat' split) <;> first | rfl | (exfalso; omega)), (((((hs.drop (by assumption)).drop (by assumption)).drop (by assumption)).drop (by assumption)).drop (by assumption))⟩)
theorem sg_two (o n : Int) (H1 H2 : List Int) (hH1 : H1.length = 32) (hH2 : H2.length = 32) (A : Option Addr) (m c : Nat) (Cs : List CV) (x : CV) (hok : okLen o n) (hn : NumC x) (hv : codeV x.k x.t x.f x.l x.m = 0) (hk : x.k = 2) (w : World) : Calls Tryz.prog 32 #[.agg (dV o n H1 H2 (slice A m c)).toArray, .agg ([int .i64 x.k, int .i64 x.t, int .i64 x.f, int .i64 x.l, slice x.A x.m x.c]).toArray] w fun e w' => e = .returned (.int .i64 (singleV o n x)) ∧ St w [] w' := by
 have hnx := hn
 unfold NumC at hnx
 have hlb := lenV_bd (k := x.k) (l := x.l) (m := x.m) (by omega) (by omega)
 have hok2 := hok
 unfold okLen at hok2
 have hcv := codeV_facts hv
 unfold vld at hcv
 refine qL (args := [.agg (dV o n H1 H2 (slice A m c)).toArray, .agg ([int .i64 x.k, int .i64 x.t, int .i64 x.f, int .i64 x.l, slice x.A x.m x.c]).toArray]) Tryz.func32 rfl Tryz.ntmps32 (by simp) ?_
 refine qC [0, 1] ?_
 iterate 2 refine gx ?_
 refine zQ (qA rfl) rfl rfl rfl (cs := dV o n H1 H2 (slice A m c)) (by simp [Value.cells]) (tot := 67) (by simp [hH1, hH2]) (fun g1 hg1 => ?_)
 refine qv (fun g2 hg2 => ?_)
 iterate 7 refine gx ?_
 refine qM (qA rfl) rfl enters67 rfl rfl (v := .int .i64 (codeV x.k x.t x.f x.l x.m)) (fun w hs => check_c x.k x.t x.f x.l x.A x.m x.c (by omega) (by omega) (by omega) (by omega) w) ?_
 iterate 6 refine gx ?_
 refine qB (qA rfl) rfl (qU (qs rfl rfl rfl) (fun h => h hv)) ?_
 iterate 2 refine gx ?_
 refine qC [2, 3, 4, 5, 11] ?_
 refine qW rfl ?_
 iterate 6 refine gx ?_
 refine qM (qA rfl) rfl enters68 rfl rfl (v := .tuple #[.agg ([int .i64 0, int .i64 0]).toArray, .bool false]) (fun w hs => src2_c x.k x.t x.f x.l x.A x.m x.c hk w) ?_
 iterate 3 refine gx ?_
 refine qc (fun g3 hg3 => ?_)
 iterate 4 refine gx ?_
 refine qC [2, 3, 4, 6, 7] ?_
 refine gx ?_
 refine TC.mixS [⟨g3, 70, [int .i64 0, int .i64 0], 2⟩, ⟨g2, 61, [int .i64 x.k, int .i64 x.t, int .i64 x.f, int .i64 x.l, slice x.A x.m x.c], 5⟩, ⟨g1, 27, dV o n H1 H2 (slice A m c), 67⟩] [] (by kernel_rfl) [0, 0, 0, 0, 0, 0, 0, 0, 0, 0] [0, 1, 2, 3, 4, 5, 6, 7, 8, 9] [fun _ _ => True, fun _ _ => True, fun _ _ => True, fun _ _ => True, fun _ _ => True, fun _ _ => True, fun _ _ => True, fun _ _ => True, fun _ _ => True, fun _ _ => True] (by kernel_rfl) (by kernel_rfl) (perm_pick (p := [0, 1, 2]) (by kernel_rfl) rfl) zA ?_
 iterate 2 refine gx ?_
 refine TR.pass rfl rfl rfl rfl rfl ?_
 refine TR.pass rfl rfl rfl rfl rfl ?_
 refine TR.pass rfl rfl rfl rfl rfl ?_
 refine TR.pass rfl rfl rfl rfl rfl ?_
 refine TR.pass rfl rfl rfl rfl rfl ?_
 refine TR.pass rfl rfl rfl rfl rfl ?_
 refine TR.pass rfl rfl rfl rfl rfl ?_
 iterate 3 refine gx ?_
 refine qC [2, 3, 4, 27] ?_
 refine qW rfl ?_
 iterate 4 refine gx ?_
 refine TC.mixS [⟨g3, 70, [int .i64 0, int .i64 0], 2⟩, ⟨g2, 61, [int .i64 x.k, int .i64 x.t, int .i64 x.f, int .i64 x.l, slice x.A x.m x.c], 5⟩, ⟨g1, 27, dV o n H1 H2 (slice A m c), 67⟩] [] (by kernel_rfl) [0, 1, 1, 1, 1, 3, 1, 0] [0, 1, 2, 3, 4, 5, 6, 7] [fun _ _ => True, fun _ _ => True, fun _ _ => True, fun _ _ => True, fun _ _ => True, fun v d => ∃ g, v = .slice (some ⟨g, 0, none⟩) 1 1 ∧ d = [⟨g, 70, [.int .i64 x.t, .int .i64 (lenV x.k x.l x.m)], 2⟩], fun _ _ => True, fun _ _ => True] (by kernel_rfl) (by kernel_rfl) (perm_pick (p := [0, 1, 2]) (by kernel_rfl) rfl) zA ?_
 iterate 2 refine gx ?_
 refine zL (qA rfl) rfl enters31 rfl rfl (v := .agg ([int .i64 0, int .i64 n]).toArray) (fun Z w hZ hs => file_c n w) ?_
 refine gx ?_
 refine zL (qA rfl) rfl enters70 rfl rfl (v := .agg ([int .i64 x.t, int .i64 (lenV x.k x.l x.m)]).toArray) (fun Z w hZ hs => tgt_c x.k x.t x.f x.l x.A x.m x.c (.inr hk) w) ?_
 refine ze (qA rfl) rfl rfl Tryz.underlying151 size70 zero70 rfl (by decide) (by decide) (cells := #[.int .i64 x.t, .int .i64 (lenV x.k x.l x.m)]) (tot := 2) (by kernel_rfl) (cs := [.int .i64 x.t, .int .i64 (lenV x.k x.l x.m)]) rfl rfl (fun g4 hg4 => ?_)
 refine zL (qA rfl) rfl enters69 rfl rfl (v := .bool (decide (inside_ 0 n x.t (lenV x.k x.l x.m)))) (fun Z w hZ hs => contains1 0 n x.t (lenV x.k x.l x.m) (by omega) (by omega) g4 (hs.has (⟨g4, 70, [int .i64 x.t, int .i64 (lenV x.k x.l x.m)], 2⟩) (by simp)).lt (lies_row0 (hs.has (⟨g4, 70, [int .i64 x.t, int .i64 (lenV x.k x.l x.m)], 2⟩) (by simp)))) ?_
 iterate 3 refine gx ?_
 refine qC [4, 35] ?_
 refine qX rfl (fun hq2 => ?_) (fun hq2 => ?_)
 ·iterate 7 refine gx ?_
  exact qK rfl rfl (fun w hs => ⟨ret_i (by unfold singleV; (try unfold inside_ at *); (repeat' split) <;> first | rfl | (exfalso; omega)), ((((hs.drop (by assumption)).drop (by assumption)).drop (by assumption)).drop (by assumption))⟩)
 ·iterate 8 refine gx ?_
  exact qK rfl rfl (fun w hs => ⟨ret_i (by unfold singleV; (try unfold inside_ at *); (repeat' split) <;> first | rfl | (exfalso; omega)), ((((hs.drop (by assumption)).drop (by assumption)).drop (by assumption)).drop (by assumption))⟩)
theorem sg_c (o n : Int) (H1 H2 : List Int) (hH1 : H1.length = 32) (hH2 : H2.length = 32) (A : Option Addr) (m c : Nat) (Cs : List CV) (x : CV) (hok : okLen o n) (hn : NumC x) (w : World) : Calls Tryz.prog 32 #[.agg (dV o n H1 H2 (slice A m c)).toArray, .agg ([int .i64 x.k, int .i64 x.t, int .i64 x.f, int .i64 x.l, slice x.A x.m x.c]).toArray] w fun e w' => e = .returned (.int .i64 (singleV o n x)) ∧ St w [] w' := by
 by_cases hv : codeV x.k x.t x.f x.l x.m = 0
 ·rcases code_kind hv with hk | hk
  ·exact sg_one o n H1 H2 hH1 hH2 A m c Cs x hok hn hv hk w
  ·exact sg_two o n H1 H2 hH1 hH2 A m c Cs x hok hn hv hk w
 ·exact sg_bad o n H1 H2 hH1 hH2 A m c Cs x hok hn hv w
theorem dcheck_c (o n : Int) (H1 H2 : List Int) (hH1 : H1.length = 32) (hH2 : H2.length = 32) (A : Option Addr) (m c : Nat) (Cs : List CV) (hmm : m ≤ 1000000000) (hN : NumsC Cs) (w : World) (hC : SrcC w A m Cs) (hD : DatC w Cs) (bo : -9223372036854775808 ≤ o ∧ o ≤ 9223372036854775807) (bn : -9223372036854775808 ≤ n ∧ n ≤ 9223372036854775807)  : Calls Tryz.prog 14 #[.agg (dV o n H1 H2 (slice A m c)).toArray] w fun e w' => e = .returned (.agg ([int .i64 ((faultI o n Cs).1), int .i64 ((faultI o n Cs).2)]).toArray) ∧ St w [] w' := by
 refine qL (args := [.agg (dV o n H1 H2 (slice A m c)).toArray]) Tryz.func14 rfl Tryz.ntmps14 (by simp) ?_
 refine qC [0] ?_
 iterate 2 refine gx ?_
 refine zQ (qA rfl) rfl rfl rfl (cs := dV o n H1 H2 (slice A m c)) (by simp [Value.cells]) (tot := 67) (by simp [hH1, hH2]) (fun g1 hg1 => ?_)
 refine qc (fun g2 hg2 => ?_)
 iterate 7 refine gx ?_
 refine qM (qA rfl) rfl enters31 rfl rfl (v := .agg ([int .i64 0, int .i64 o]).toArray) (fun w hs => file_c o w) ?_
 refine qM (qA rfl) rfl enters30 rfl rfl (v := .bool (decide (vld 0 o))) (fun w hs => valid_c 0 o (by omega) (by omega) w) ?_
 refine gx ?_
 by_cases c1 : ¬ (vld 0 o)
 ·have hno : ¬ okLen o n := by unfold okLen; unfold vld at c1; omega
  refine qB (qA rfl) rfl (qP (qp rfl rfl) c1) ?_
  iterate 8 refine gx ?_
  refine qC [1, 2, 17] ?_
  refine qd rfl ?_
  iterate 2 refine gx ?_
  refine qB (qA rfl) rfl (qm rfl (vs := [(0, int .i64 2), (1, int .i64 (-1))]) rfl (fun w => by first | rfl | kernel_rfl) (v := .agg ([int .i64 2, int .i64 (-1)]).toArray)) ?_
  iterate 5 refine gx ?_
  exact qu rfl agg30 size30 rfl (vs := [int .i64 2, int .i64 (-1)]) rfl (qQ (i := 0) (ent := ⟨g2, 30, [int .i64 2, int .i64 (-1)], 2⟩) rfl rfl rfl) (fun w hs => ⟨by rw [faultI_len hno], ((hs.drop (by assumption)).drop (by assumption))⟩)
 ·refine qB (qA rfl) rfl (qU (qp rfl rfl) c1) ?_
  iterate 2 refine gx ?_
  refine qM (qJ rfl rfl rfl) rfl enters31 rfl rfl (v := .agg ([int .i64 0, int .i64 n]).toArray) (fun w hs => file_c n w) ?_
  refine qM (qJ rfl rfl rfl) rfl enters30 rfl rfl (v := .bool (decide (vld 0 n))) (fun w hs => valid_c 0 n (by omega) (by omega) w) ?_
  iterate 4 refine gx ?_
  refine qC [1, 2, 17] ?_
  refine qX rfl (fun hq0 => ?_) (fun hq0 => ?_)
  ·have hno : ¬ okLen o n := by unfold okLen; unfold vld at hq0; omega
   iterate 2 refine gx ?_
   refine qB (qA rfl) rfl (qm rfl (vs := [(0, int .i64 2), (1, int .i64 (-1))]) rfl (fun w => by first | rfl | kernel_rfl) (v := .agg ([int .i64 2, int .i64 (-1)]).toArray)) ?_
   iterate 5 refine gx ?_
   exact qu rfl agg30 size30 rfl (vs := [int .i64 2, int .i64 (-1)]) rfl (qQ (i := 0) (ent := ⟨g2, 30, [int .i64 2, int .i64 (-1)], 2⟩) rfl rfl rfl) (fun w hs => ⟨by rw [faultI_len hno], ((hs.drop (by assumption)).drop (by assumption))⟩)
  ·have hok : okLen o n := by unfold okLen; unfold vld at c1 hq0; omega
   iterate 12 refine gx ?_
   refine qr (ι := Nat) (fun i => [(1, .pointer (some ⟨g1, 0, none⟩)), (2, .pointer (some ⟨g2, 0, none⟩)), (20, .slice A m c), (21, .int .i64 (m : Int)), (22, .int .i64 (i : Int))]) (fun i => [⟨g2, 30, [int .i64 0, int .i64 0], 2⟩, ⟨g1, 27, dV o n H1 H2 (slice A m c), 67⟩]) (fun i => m - i) (fun i => i ≤ m ∧ ∀ (j : Nat) (y : CV), j < i → Cs[j]? = some y → singleV o n y = 0) 0 ⟨Nat.zero_le _, fun j y h => absurd h (Nat.not_lt_zero j)⟩ (qI (i := 1) rfl (qI (i := 2) rfl (qT (i := 20) rfl rfl (by first | omega | (dsimp only; omega) | rfl) (by first | omega | (dsimp only; omega) | rfl) (qH (i := 21) rfl (by first | omega | rfl) (qH (i := 22) rfl (by first | omega | rfl) (qN)))))) (fun w h => h) (fun i hC0 => ?_)
   obtain ⟨hC0, hC1⟩ := hC0
   iterate 6 refine gx ?_
   refine qX rfl (fun hq1 => ?_) (fun hq1 => ?_)
   ·obtain ⟨b, off, hAe, hb, hrw⟩ := hC.some_ (i := i) (by omega)
    subst hAe
    obtain ⟨x, hx⟩ := hC.get (i := i) (by omega)
    have hnx := hN i x hx
    unfold NumC at hnx
    have hlbx := lenV_bd (k := x.k) (l := x.l) (m := x.m) (by omega) (by omega)
    iterate 7 refine gx ?_
    refine qB (qA rfl) rfl (ql rfl Tryz.underlying25 size61 rfl rfl (i := i) (by omega) (by omega) (off' := (off + 5 * i)) (by omega)) ?_
    refine qB (qA rfl) rfl (qg rfl agg61 size61 rfl rfl (zS (fun jj u h => hrw i x hx jj u h) hb (qE (by show g2 ≠ b; omega) (qE (by show g1 ≠ b; omega) qF)))) ?_
    refine qc (fun g3 hg3 => ?_)
    iterate 4 refine gx ?_
    refine qC [1, 2, 3, 4, 20, 21, 22] ?_
    iterate 4 refine gx ?_
    refine qM (qA rfl) rfl enters32 rfl rfl (v := .int .i64 (singleV o n x)) (fun w hs => sg_c o n H1 H2 hH1 hH2 (some ⟨b, off, none⟩) m c Cs x hok (hN _ x hx) w) ?_
    iterate 3 refine gx ?_
    refine qC [1, 2, 3, 5, 20, 21, 22] ?_
    iterate 6 refine gx ?_
    refine qC [1, 2, 3, 5, 20, 21, 22, 31] ?_
    refine qX rfl (fun hq2 => ?_) (fun hq2 => ?_)
    ·iterate 4 refine gx ?_
     refine qB (qA rfl) rfl (qm rfl (vs := [(0, int .i64 (singleV o n x)), (1, int .i64 (i : Int))]) rfl (fun w => by first | rfl | kernel_rfl) (v := .agg ([int .i64 (singleV o n x), int .i64 (i : Int)]).toArray)) ?_
     iterate 9 refine gx ?_
     exact qu rfl agg30 size30 rfl (vs := [int .i64 (singleV o n x), int .i64 (i : Int)]) rfl (qQ (i := 1) (ent := ⟨g2, 30, [int .i64 (singleV o n x), int .i64 (i : Int)], 2⟩) rfl rfl rfl) (fun w hs => ⟨by rw [faultI_single hok hx hq2 hC1], (((hs.drop (by assumption)).drop (by assumption)).drop (by assumption))⟩)
    ·iterate 4 refine gx ?_
     refine qB (qA rfl) rfl (qR rfl rfl rfl (r := ((i : Int) + 1)) (w64 (by omega) (by omega))) ?_
     iterate 2 refine gx ?_
     exact qj (i + 1) (by omega) ⟨by omega, all_succ hC1 hx (by omega)⟩ (qI (i := 1) rfl (qI (i := 2) rfl (qT (i := 20) rfl (by first | rfl | (congr 2; omega)) (by first | omega | (dsimp only; omega) | rfl) (by first | omega | (dsimp only; omega) | rfl) (qH (i := 21) rfl (by first | omega | rfl) (qH (i := 22) rfl (by first | omega | rfl) (qN)))))) (fun w h => (h.erase (i := 0) rfl (by assumption)))
   ·have hall := all_of (m := m) (by have := hC.1; omega) (fun j y hj => hC1 j y (by omega))
    iterate 8 refine gx ?_
    refine qM (qA rfl) rfl enters33 rfl rfl (v := .agg ([int .i64 ((faultI o n Cs).1), int .i64 ((faultI o n Cs).2)]).toArray) (fun w hs => ct_c o n H1 H2 hH1 hH2 A m c Cs (fun i x hx => code_kind (single_vld (hall i x hx)).2.2.2.1) hok hall hmm hN w (hC.at_ hs (fun b hb => (qE (by show g2 ≠ b; omega) (qE (by show g1 ≠ b; omega) qF))))) ?_
    iterate 4 refine gx ?_
    exact qu rfl agg30 size30 rfl (vs := [int .i64 ((faultI o n Cs).1), int .i64 ((faultI o n Cs).2)]) rfl (qQ (i := 0) (ent := ⟨g2, 30, [int .i64 ((faultI o n Cs).1), int .i64 ((faultI o n Cs).2)], 2⟩) rfl rfl rfl) (fun w hs => ⟨rfl, ((hs.drop (by assumption)).drop (by assumption))⟩)
theorem dvalid_c (o n : Int) (H1 H2 : List Int) (hH1 : H1.length = 32) (hH2 : H2.length = 32) (A : Option Addr) (m c : Nat) (Cs : List CV) (hmm : m ≤ 1000000000) (hN : NumsC Cs) (w : World) (hC : SrcC w A m Cs) (hD : DatC w Cs) (bo : -9223372036854775808 ≤ o ∧ o ≤ 9223372036854775807) (bn : -9223372036854775808 ≤ n ∧ n ≤ 9223372036854775807)  : Calls Tryz.prog 8 #[.agg (dV o n H1 H2 (slice A m c)).toArray] w fun e w' => e = .returned (.bool (decide ((faultI o n Cs).1 = 0))) ∧ St w [] w' := by
 refine qL (args := [.agg (dV o n H1 H2 (slice A m c)).toArray]) Tryz.func8 rfl Tryz.ntmps8 (by simp) ?_
 refine qC [0] ?_
 iterate 2 refine gx ?_
 refine zQ (qA rfl) rfl rfl rfl (cs := dV o n H1 H2 (slice A m c)) (by simp [Value.cells]) (tot := 67) (by simp [hH1, hH2]) (fun g1 hg1 => ?_)
 iterate 6 refine gx ?_
 refine qM (qA rfl) rfl enters14 rfl rfl (v := .agg ([int .i64 ((faultI o n Cs).1), int .i64 ((faultI o n Cs).2)]).toArray) (fun w hs => dcheck_c o n H1 H2 hH1 hH2 A m c Cs hmm hN w (hC.at_ hs (fun b hb => (qE (by show g1 ≠ b; omega) qF))) (hD.at_ hs (fun b hb => (qE (by show g1 ≠ b; omega) qF))) bo bn) ?_
 refine qB (qA rfl) rfl (qm rfl (vs := []) rfl (fun w => by first | rfl | kernel_rfl) (v := .agg ([int .i64 0, int .i64 0]).toArray)) ?_
 refine qB (qA rfl) rfl (Gets.pairEq rfl Tryz.underlying30 (by decide) (by decide) rfl rfl Tryz.underlying28 Tryz.underlying3 sih30 geq30 rfl rfl) ?_
 iterate 4 refine gx ?_
 exact qK rfl rfl (fun w hs => ⟨dec_iff (⟨fun h => h.1, fun h => ⟨h, fault_zero h⟩⟩), (hs.drop (by assumption))⟩)
def inR (x : Int) : Prop := 0 ≤ x ∧ x ≤ 4611686018427387903
instance (x : Int) : Decidable (inR x) := by unfold inR; infer_instance
structure CM where
 k : Int
 t : Int
 f : Int
 l : Int
 B : List Int
def okC (c : CM) : Prop := inR c.t ∧ ((c.k = 1 ∧ inR c.f ∧ inR c.l ∧ c.B = []) ∨ (c.k = 2 ∧ c.f = 0 ∧ c.l = 0))
def encC (c : CM) : List Int := beV c.k 1 ++ (beV c.t 8 ++ (if c.k = 1 then beV c.f 8 ++ beV c.l 8 else beV (c.B.length : Int) 8 ++ c.B))
def encCs : List CM → List Int
 | [] => []
 | c :: l => encC c ++ encCs l
def magicB : List Int := [71, 82, 70, 84]
def encD (o n : Int) (h1 h2 : List Int) (Cs : List CM) : List Int :=
 magicB ++ (beV 1 1 ++ (beV o 8 ++ (beV n 8 ++ (h1 ++ (h2 ++ (beV (Cs.length : Int) 4 ++ encCs Cs))))))
structure RS where
 k : Nat
 co : Int
 po : Int
def rFail (s : RS) (c p : Int) : RS := if s.co = 0 ∧ c ≠ 0 then ⟨s.k, c, p⟩ else s
def rUint (B : List Int) (s : RS) (n : Nat) : Int × RS :=
 if s.co = 0 then (if B.length < s.k + n then (0, ⟨s.k, 8, B.length⟩) else (valB ((B.drop s.k).take n), ⟨s.k + n, 0, s.po⟩)) else (0, s)
def rLen (B : List Int) (s : RS) : Int × RS :=
 if 4611686018427387903 < (rUint B s 8).1 then (0, rFail (rUint B s 8).2 2 s.k) else rUint B s 8
def rBytes (B : List Int) (s : RS) (n : Nat) : List Int × RS :=
 if s.co = 0 then (if B.length < s.k + n then ([], ⟨s.k, 8, B.length⟩) else ((B.drop s.k).take n, ⟨s.k + n, 0, s.po⟩)) else ([], s)
def rExp (B : List Int) (s : RS) (D : List Int) (code : Int) : Bool × RS :=
 if s.co = 0 then (if (B.drop s.k).take D.length = D then (true, ⟨s.k + D.length, 0, s.po⟩) else if D.take (B.length - s.k) = B.drop s.k then (false, ⟨s.k, 8, B.length⟩) else (false, rFail s code s.k)) else (false, s)
def kindF (s1 : RS) (kk : Int) (at_ : Nat) : RS := if s1.co = 0 ∧ kk ≠ 1 ∧ kk ≠ 2 then rFail s1 11 at_ else s1
def rCmd (B : List Int) (s : RS) : CM × RS :=
 let a := rUint B s 1
 let s2 := kindF a.2 a.1 s.k
 let t := rLen B s2
 if a.1 = 1 then
  let f := rLen B t.2
  let l := rLen B f.2
  (⟨a.1, t.1, f.1, l.1, []⟩, l.2)
 else
  let m := rLen B t.2
  let D := rBytes B m.2 m.1.toNat
  (⟨a.1, t.1, 0, 0, D.1⟩, D.2)
def rIter (B : List Int) (s : RS) : Nat → List CM × RS
 | 0 => ([], s)
 | i + 1 => if (rIter B s i).2.co = 0 then ((rIter B s i).1 ++ [(rCmd B (rIter B s i).2).1], (rCmd B (rIter B s i).2).2) else rIter B s i
def versF (s : RS) (v : Int) : RS := if s.co = 0 ∧ v ≠ 1 then rFail s 10 4 else s
def extraF (B : List Int) (s : RS) : RS := if s.co = 0 ∧ s.k < B.length then rFail s 12 s.k else s
structure DR where
 o : Int
 n : Int
 h1 : List Int
 h2 : List Int
 Cs : List CM
 s : RS
def rDec (B : List Int) : DR :=
 let e := rExp B ⟨0, 0, 0⟩ magicB 9
 let v := rUint B e.2 1
 let o := rLen B (versF v.2 v.1)
 let n := rLen B o.2
 let x := rBytes B n.2 32
 let y := rBytes B x.2 32
 let c := rUint B y.2 4
 let l := rIter B c.2 c.1.toNat
 ⟨o.1, n.1, x.1, y.1, l.1, extraF B l.2⟩
theorem rFail_dead {s : RS} {c p : Int} (h : s.co ≠ 0) : rFail s c p = s := by unfold rFail; rw [if_neg (fun x => h x.1)]
theorem rUint_dead {B : List Int} {s : RS} {n : Nat} (h : s.co ≠ 0) : rUint B s n = (0, s) := by unfold rUint; rw [if_neg h]
theorem rLen_dead {B : List Int} {s : RS} (h : s.co ≠ 0) : rLen B s = (0, s) := by unfold rLen; rw [rUint_dead h]; rw [if_neg (show ¬ (4611686018427387903 : Int) < 0 by decide)]
theorem rBytes_dead {B : List Int} {s : RS} {n : Nat} (h : s.co ≠ 0) : rBytes B s n = ([], s) := by unfold rBytes; rw [if_neg h]
theorem kindF_dead {s : RS} {kk : Int} {a : Nat} (h : s.co ≠ 0) : kindF s kk a = s := by unfold kindF; rw [if_neg (fun x => h x.1)]
theorem versF_dead {s : RS} {v : Int} (h : s.co ≠ 0) : versF s v = s := by unfold versF; rw [if_neg (fun x => h x.1)]
theorem extraF_dead {B : List Int} {s : RS} (h : s.co ≠ 0) : extraF B s = s := by unfold extraF; rw [if_neg (fun x => h x.1)]
theorem rCmd_dead {B : List Int} {s : RS} (h : s.co ≠ 0) : rCmd B s = (⟨0, 0, 0, 0, []⟩, s) := by
 unfold rCmd
 simp only [rUint_dead h, kindF_dead h, rLen_dead h, rBytes_dead h]
 rw [if_neg (by decide)]
theorem rIter_dead {B : List Int} {s : RS} (h : s.co ≠ 0) : ∀ n, rIter B s n = ([], s)
 | 0 => rfl
 | n + 1 => by unfold rIter; rw [rIter_dead h n]; rw [if_neg h]
theorem rIter_stop {B : List Int} {s : RS} {i : Nat} (h : (rIter B s i).2.co ≠ 0) : ∀ n, rIter B s (i + n) = rIter B s i
 | 0 => rfl
 | n + 1 => by
  have ih := rIter_stop h n
  show (if (rIter B s (i + n)).2.co = 0 then ((rIter B s (i + n)).1 ++ [(rCmd B (rIter B s (i + n)).2).1], (rCmd B (rIter B s (i + n)).2).2) else rIter B s (i + n)) = _
  rw [ih, if_neg h]
def RdAt (B E : List Int) (s : RS) (R : List Int) : Prop := s.co = 0 ∧ s.k ≤ B.length ∧ E.drop s.k = R
theorem rd_take {B E : List Int} (hB : B <+: E) {s : RS} {X R : List Int} (h : RdAt B E s (X ++ R)) (hn : s.k + X.length ≤ B.length) : (B.drop s.k).take X.length = X := by
 obtain ⟨T, rfl⟩ := hB
 have h1 := h.2.2
 rw [List.drop_append_of_le_length h.2.1] at h1
 have h2 := congrArg (List.take X.length) h1
 rw [List.take_left, List.take_append_of_le_length (by rw [List.length_drop]; omega)] at h2
 exact h2
theorem rd_next {B E : List Int} {s : RS} {X R : List Int} (h : RdAt B E s (X ++ R)) (hn : s.k + X.length ≤ B.length) (po : Int) : RdAt B E ⟨s.k + X.length, 0, po⟩ R := by
 refine ⟨rfl, hn, ?_⟩
 show E.drop (s.k + X.length) = R
 rw [← List.drop_drop, h.2.2, List.drop_left]
def Short (B : List Int) (s : RS) : Prop := s.co = 8 ∧ s.po = B.length
theorem Short.dead {B : List Int} {s : RS} (h : Short B s) : s.co ≠ 0 := by rw [h.1]; decide
theorem rUint_at {B E : List Int} (hB : B <+: E) {s : RS} {X R : List Int} {n : Nat} (h : RdAt B E s (X ++ R)) (hn : X.length = n) :
  (rUint B s n = (valB X, ⟨s.k + n, 0, s.po⟩) ∧ RdAt B E ⟨s.k + n, 0, s.po⟩ R) ∨ (B.length < s.k + n ∧ rUint B s n = (0, ⟨s.k, 8, B.length⟩)) := by
 subst hn
 unfold rUint
 rw [if_pos h.1]
 by_cases hl : B.length < s.k + X.length
 ·rw [if_pos hl]; exact .inr ⟨hl, rfl⟩
 ·rw [if_neg hl, rd_take hB h (by omega)]; exact .inl ⟨rfl, rd_next h (by omega) _⟩
theorem rBytes_at {B E : List Int} (hB : B <+: E) {s : RS} {X R : List Int} {n : Nat} (h : RdAt B E s (X ++ R)) (hn : X.length = n) :
  (rBytes B s n = (X, ⟨s.k + n, 0, s.po⟩) ∧ RdAt B E ⟨s.k + n, 0, s.po⟩ R) ∨ (B.length < s.k + n ∧ rBytes B s n = ([], ⟨s.k, 8, B.length⟩)) := by
 subst hn
 unfold rBytes
 rw [if_pos h.1]
 by_cases hl : B.length < s.k + X.length
 ·rw [if_pos hl]; exact .inr ⟨hl, rfl⟩
 ·rw [if_neg hl, rd_take hB h (by omega)]; exact .inl ⟨rfl, rd_next h (by omega) _⟩
theorem be8_len (x : Int) : (beV x 8).length = 8 := beV_len x 8
theorem fit8 {x : Int} (h : inR x) : fitV x 8 := ⟨by decide, by decide, .inl rfl⟩
theorem val8 {x : Int} (h : inR x) : valB (beV x 8) = x := val_beV ⟨h.1, by unfold inR at h; omega⟩ (fit8 h)
theorem rLen_at {B E : List Int} (hB : B <+: E) {s : RS} {x : Int} {R : List Int} (hx : inR x) (h : RdAt B E s (beV x 8 ++ R)) :
  (rLen B s = (x, ⟨s.k + 8, 0, s.po⟩) ∧ RdAt B E ⟨s.k + 8, 0, s.po⟩ R) ∨ (B.length < s.k + 8 ∧ rLen B s = (0, ⟨s.k, 8, B.length⟩)) := by
 unfold rLen
 rcases rUint_at hB h (be8_len x) with ⟨h1, h2⟩ | ⟨h1, h2⟩
 ·rw [h1, val8 hx]
  unfold inR at hx
  rw [if_neg (by show ¬ 4611686018427387903 < x; omega)]
  exact .inl ⟨rfl, h2⟩
 ·rw [h2, if_neg (show ¬ (4611686018427387903 : Int) < 0 by decide)]; exact .inr ⟨h1, rfl⟩
theorem eight (a : Nat) (p : Int) : (⟨a, 8, p⟩ : RS).co ≠ 0 := by show (8 : Int) ≠ 0; decide
theorem val1 {k : Int} (h : k = 1 ∨ k = 2) : valB (beV k 1) = k := by rcases h with rfl | rfl <;> decide +kernel
theorem be1_len (x : Int) : (beV x 1).length = 1 := beV_len x 1
theorem rCmd_at {B E : List Int} (hB : B <+: E) {s : RS} {c : CM} {R : List Int} (hc : okC c) (hl : (c.B.length : Int) ≤ 4611686018427387903) (h : RdAt B E s (encC c ++ R)) :
  (∃ s', rCmd B s = (c, s') ∧ RdAt B E s' R ∧ s'.po = s.po ∧ s'.k = s.k + (encC c).length) ∨ (B.length < s.k + (encC c).length ∧ Short B (rCmd B s).2) := by
 obtain ⟨ck, ct, cf, cl, D⟩ := c
 unfold okC encC at *
 dsimp only at *
 obtain ⟨hct, hc2⟩ := hc
 have hk : ck = 1 ∨ ck = 2 := by rcases hc2 with h | h; exact .inl h.1; exact .inr h.1
 rw [List.append_assoc, List.append_assoc] at h
 have hlen : (beV ck 1 ++ (beV ct 8 ++ (if ck = 1 then beV cf 8 ++ beV cl 8 else beV (D.length : Int) 8 ++ D))).length = 9 + (if ck = 1 then beV cf 8 ++ beV cl 8 else beV (D.length : Int) 8 ++ D).length := by
  rw [List.length_append, List.length_append, be1_len, be8_len]; omega
 rw [hlen]
 unfold rCmd
 rcases rUint_at hB h (be1_len ck) with ⟨h1, h2⟩ | ⟨h1, h2⟩
 ·have hkf : kindF ⟨s.k + 1, 0, s.po⟩ ck s.k = ⟨s.k + 1, 0, s.po⟩ := by
   unfold kindF; rw [if_neg (fun x => by rcases hk with h | h; exact x.2.1 h; exact x.2.2 h)]
  simp only [h1, val1 hk, hkf]
  rcases rLen_at hB hct h2 with ⟨h3, h4⟩ | ⟨h3, h4⟩
  ·simp only [h3]
   dsimp only at h4
   rcases hc2 with ⟨k1, kf, kl, kB⟩ | ⟨k2, kf, kl⟩
   ·subst k1; subst kB
    rw [if_pos rfl] at h4 ⊢
    rw [if_pos rfl, List.length_append, be8_len, be8_len]
    rw [List.append_assoc] at h4
    rcases rLen_at hB kf h4 with ⟨h5, h6⟩ | ⟨h5, h6⟩
    ·dsimp only at h6
     rcases rLen_at hB kl h6 with ⟨h7, h8⟩ | ⟨h7, h8⟩
     ·simp only [h5, h7]
      exact .inl ⟨_, rfl, h8, rfl, by (try dsimp only) <;> omega⟩
     ·simp only [h5, h8]
      dsimp only at h7
      exact .inr ⟨by omega, rfl, rfl⟩
    ·simp only [h6, rLen_dead (eight _ _)]
     dsimp only at h5
     exact .inr ⟨by omega, rfl, rfl⟩
   ·subst k2; subst kf; subst kl
    rw [if_neg (by decide)] at h4 ⊢
    rw [if_neg (by decide), List.length_append, be8_len]
    rw [List.append_assoc] at h4
    rcases rLen_at hB (x := (D.length : Int)) ⟨by omega, hl⟩ h4 with ⟨h5, h6⟩ | ⟨h5, h6⟩
    ·dsimp only at h6
     simp only [h5, Int.toNat_natCast]
     rcases rBytes_at hB h6 rfl with ⟨h7, h8⟩ | ⟨h7, h8⟩
     ·simp only [h7]
      exact .inl ⟨_, rfl, h8, rfl, by (try dsimp only) <;> omega⟩
     ·simp only [h8]
      dsimp only at h7
      exact .inr ⟨by omega, rfl, rfl⟩
    ·simp only [h6, rBytes_dead (eight _ _)]
     dsimp only at h5
     exact .inr ⟨by omega, rfl, rfl⟩
  ·simp only [h4, rLen_dead (eight _ _), rBytes_dead (eight _ _)]
   dsimp only at h3
   refine .inr ⟨by omega, ?_⟩
   split <;> exact ⟨rfl, rfl⟩
 ·simp only [h2, kindF_dead (eight _ _), rLen_dead (eight _ _), rBytes_dead (eight _ _)]
  refine .inr ⟨by omega, ?_⟩
  split <;> exact ⟨rfl, rfl⟩
theorem encCs_app (l r : List CM) : encCs (l ++ r) = encCs l ++ encCs r := by
 induction l with
 | nil => rfl
 | cons c l ih => show encC c ++ encCs (l ++ r) = _; rw [ih, ← List.append_assoc]; rfl
theorem encC_pos (c : CM) : 17 ≤ (encC c).length := by
 unfold encC
 rw [List.length_append, List.length_append, be1_len, be8_len]
 split
 ·rw [List.length_append, be8_len]; omega
 ·rw [List.length_append, be8_len]; omega
theorem encCs_le (l : List CM) : l.length ≤ (encCs l).length := by
 induction l with
 | nil => exact Nat.le_refl _
 | cons c l ih => show l.length + 1 ≤ (encC c ++ encCs l).length; rw [List.length_append]; have := encC_pos c; omega
theorem rIter_succ_ok {B : List Int} {s : RS} {i : Nat} (h : (rIter B s i).2.co = 0) : rIter B s (i + 1) = ((rIter B s i).1 ++ [(rCmd B (rIter B s i).2).1], (rCmd B (rIter B s i).2).2) := by
 show (if (rIter B s i).2.co = 0 then _ else _) = _; rw [if_pos h]
theorem rIter_succ_no {B : List Int} {s : RS} {i : Nat} (h : (rIter B s i).2.co ≠ 0) : rIter B s (i + 1) = rIter B s i := rIter_stop h 1
theorem rIter_at {B E : List Int} (hB : B <+: E) {s : RS} {Cs : List CM} {R : List Int} (hok : ∀ c ∈ Cs, okC c ∧ (c.B.length : Int) ≤ 4611686018427387903) (h : RdAt B E s (encCs Cs ++ R)) : ∀ i, i ≤ Cs.length →
  (∃ s', rIter B s i = (Cs.take i, s') ∧ RdAt B E s' (encCs (Cs.drop i) ++ R) ∧ s'.po = s.po ∧ s'.k = s.k + (encCs (Cs.take i)).length) ∨ (B.length < s.k + (encCs Cs).length ∧ Short B (rIter B s i).2)
 | 0, _ => .inl ⟨s, rfl, h, rfl, rfl⟩
 | i + 1, hi => by
  rcases rIter_at hB hok h i (by omega) with ⟨s', h1, h2, h3, h4⟩ | ⟨h1, h2⟩
  ·have hx : Cs[i]? = some Cs[i] := List.getElem?_eq_getElem (by omega)
   have hd : Cs.drop i = Cs[i] :: Cs.drop (i + 1) := List.drop_eq_getElem_cons (by omega)
   have ht : Cs.take (i + 1) = Cs.take i ++ [Cs[i]] := take_one hx
   have hsp : encCs Cs = encCs (Cs.take i) ++ (encC Cs[i] ++ encCs (Cs.drop (i + 1))) := by
    conv => lhs; rw [← List.take_append_drop i Cs]
    rw [encCs_app, hd]; rfl
   rw [hd] at h2
   have h2' : RdAt B E s' (encC Cs[i] ++ (encCs (Cs.drop (i + 1)) ++ R)) := by rw [← List.append_assoc]; exact h2
   have hco : (rIter B s i).2.co = 0 := by rw [h1]; exact h2.1
   rw [rIter_succ_ok hco, h1]
   have hm := hok Cs[i] (List.getElem_mem (by omega))
   rcases rCmd_at hB hm.1 hm.2 h2' with ⟨s2, h5, h6, h7, h8⟩ | ⟨h5, h6⟩
   ·refine .inl ⟨s2, by dsimp only; rw [h5, ht], h6, h7.trans h3, ?_⟩
    rw [ht, encCs_app, List.length_append, h8, h4]
    show _ = _ + (_ + (encC Cs[i] ++ []).length)
    rw [List.append_nil]; omega
   ·refine .inr ⟨?_, h6⟩
    rw [hsp, List.length_append, List.length_append]; omega
  ·refine .inr ⟨h1, ?_⟩
   rw [rIter_succ_no h2.dead]; exact h2
theorem rExp_at {B E : List Int} (hB : B <+: E) {s : RS} {D R : List Int} {code : Int} (h : RdAt B E s (D ++ R)) :
  (rExp B s D code = (true, ⟨s.k + D.length, 0, s.po⟩) ∧ RdAt B E ⟨s.k + D.length, 0, s.po⟩ R) ∨ (B.length < s.k + D.length ∧ rExp B s D code = (false, ⟨s.k, 8, B.length⟩)) := by
 unfold rExp
 rw [if_pos h.1]
 by_cases hl : s.k + D.length ≤ B.length
 ·rw [if_pos (rd_take hB h hl)]; exact .inl ⟨rfl, rd_next h hl _⟩
 ·have h1 : ¬ (B.drop s.k).take D.length = D := fun e => by
   have := congrArg List.length e
   rw [List.length_take, List.length_drop] at this
   have := h.2.1
   omega
  rw [if_neg h1]
  have h2 : D.take (B.length - s.k) = B.drop s.k := by
   obtain ⟨T, rfl⟩ := hB
   have h3 := h.2.2
   rw [List.drop_append_of_le_length h.2.1] at h3
   have h4 := congrArg (List.take (B.length - s.k)) h3
   rw [List.take_left' (by rw [List.length_drop]), List.take_append_of_le_length (by omega)] at h4
   exact h4.symm
  rw [if_pos h2]; exact .inr ⟨by omega, rfl⟩
theorem be4_len (x : Int) : (beV x 4).length = 4 := beV_len x 4
theorem val4 {m : Nat} (h : m < 4294967296) : valB (beV (m : Int) 4) = (m : Int) := val_beV ⟨by omega, by omega⟩ ⟨by decide, by decide, .inr (by
 rw [show (8 * (4 : Int)) = ((32 : Nat) : Int) from rfl, shr_nat (by decide), Nat.div_eq_of_lt (by rw [show (2 : Nat) ^ 32 = 4294967296 by decide]; exact h)]; rfl)⟩
theorem rDec_at {B E : List Int} (hB : B <+: E) {o n : Int} {h1 h2 : List Int} {Cs : List CM} {R : List Int} (ho : inR o) (hn : inR n) (hl1 : h1.length = 32) (hl2 : h2.length = 32) (hc : Cs.length < 4294967296)
  (hok : ∀ c ∈ Cs, okC c ∧ (c.B.length : Int) ≤ 4611686018427387903) (hE : E = encD o n h1 h2 Cs ++ R) :
  (∃ s, rDec B = ⟨o, n, h1, h2, Cs, extraF B s⟩ ∧ s.co = 0 ∧ s.po = 0 ∧ s.k = (encD o n h1 h2 Cs).length ∧ s.k ≤ B.length) ∨ (B.length < (encD o n h1 h2 Cs).length ∧ Short B (rDec B).s) := by
 have hlen : (encD o n h1 h2 Cs).length = 89 + (encCs Cs).length := by
  unfold encD magicB
  simp only [List.length_append, be1_len, be8_len, be4_len, hl1, hl2, List.length_cons, List.length_nil]; omega
 rw [hlen]
 unfold encD at hE
 simp only [List.append_assoc] at hE
 have h0 : RdAt B E ⟨0, 0, 0⟩ (magicB ++ (beV 1 1 ++ (beV o 8 ++ (beV n 8 ++ (h1 ++ (h2 ++ (beV (Cs.length : Int) 4 ++ (encCs Cs ++ R)))))))) := ⟨rfl, Nat.zero_le _, by rw [List.drop_zero]; exact hE⟩
 have key : ∀ s : RS, Short B s → Short B (extraF B s) := fun s h => by rw [extraF_dead h.dead]; exact h
 unfold rDec
 rcases rExp_at (code := 9) hB h0 with ⟨e1, a1⟩ | ⟨e1, e2⟩
 rotate_left
 ·simp only [e2, rUint_dead (eight _ _), versF_dead (eight _ _), rLen_dead (eight _ _), rBytes_dead (eight _ _), rIter_dead (eight _ _)]
  exact .inr ⟨by unfold magicB at e1; dsimp only [List.length_cons, List.length_nil] at e1; omega, key _ ⟨rfl, rfl⟩⟩
 have m4 : magicB.length = 4 := rfl
 simp only [e1, m4, Nat.zero_add]
 rw [m4] at a1; dsimp only [Nat.zero_add] at a1
 rcases rUint_at hB a1 (be1_len 1) with ⟨e1, a1⟩ | ⟨e1, e2⟩
 rotate_left
 ·simp only [e2, versF_dead (eight _ _), rLen_dead (eight _ _), rUint_dead (eight _ _), rBytes_dead (eight _ _), rIter_dead (eight _ _)]
  exact .inr ⟨by dsimp only at e1; omega, key _ ⟨rfl, rfl⟩⟩
 have hv : versF ⟨4 + 1, 0, 0⟩ (valB (beV 1 1)) = ⟨4 + 1, 0, 0⟩ := by unfold versF; rw [val1 (.inl rfl), if_neg (fun h => h.2 rfl)]
 simp only [e1, hv]
 dsimp only at a1
 rcases rLen_at hB ho a1 with ⟨e1, a1⟩ | ⟨e1, e2⟩
 rotate_left
 ·simp only [e2, rLen_dead (eight _ _), rUint_dead (eight _ _), rBytes_dead (eight _ _), rIter_dead (eight _ _)]
  exact .inr ⟨by dsimp only at e1; omega, key _ ⟨rfl, rfl⟩⟩
 simp only [e1]
 dsimp only at a1
 rcases rLen_at hB hn a1 with ⟨e1, a1⟩ | ⟨e1, e2⟩
 rotate_left
 ·simp only [e2, rUint_dead (eight _ _), rBytes_dead (eight _ _), rIter_dead (eight _ _)]
  exact .inr ⟨by dsimp only at e1; omega, key _ ⟨rfl, rfl⟩⟩
 simp only [e1]
 dsimp only at a1
 rcases rBytes_at hB a1 hl1 with ⟨e1, a1⟩ | ⟨e1, e2⟩
 rotate_left
 ·simp only [e2, rUint_dead (eight _ _), rBytes_dead (eight _ _), rIter_dead (eight _ _)]
  exact .inr ⟨by dsimp only at e1; omega, key _ ⟨rfl, rfl⟩⟩
 simp only [e1]
 dsimp only at a1
 rcases rBytes_at hB a1 hl2 with ⟨e1, a1⟩ | ⟨e1, e2⟩
 rotate_left
 ·simp only [e2, rUint_dead (eight _ _), rIter_dead (eight _ _)]
  exact .inr ⟨by dsimp only at e1; omega, key _ ⟨rfl, rfl⟩⟩
 simp only [e1]
 dsimp only at a1
 rcases rUint_at hB a1 (be4_len _) with ⟨e1, a1⟩ | ⟨e1, e2⟩
 rotate_left
 ·simp only [e2, rIter_dead (eight _ _)]
  exact .inr ⟨by dsimp only at e1; omega, key _ ⟨rfl, rfl⟩⟩
 simp only [e1, val4 hc, Int.toNat_natCast]
 dsimp only at a1
 rcases rIter_at hB hok a1 Cs.length (Nat.le_refl _) with ⟨s', e1, a2, a3, a4⟩ | ⟨e1, e2⟩
 ·rw [List.take_length] at e1 a4
  rw [e1]
  dsimp only at a3 a4 ⊢
  exact .inl ⟨s', rfl, a2.1, a3, by omega, a2.2.1⟩
 ·dsimp only at e1
  exact .inr ⟨by omega, key _ e2⟩
theorem rDec_inv {o n : Int} {h1 h2 : List Int} {Cs : List CM} (ho : inR o) (hn : inR n) (hl1 : h1.length = 32) (hl2 : h2.length = 32) (hc : Cs.length < 4294967296) (hok : ∀ c ∈ Cs, okC c ∧ (c.B.length : Int) ≤ 4611686018427387903) :
  rDec (encD o n h1 h2 Cs) = ⟨o, n, h1, h2, Cs, ⟨(encD o n h1 h2 Cs).length, 0, 0⟩⟩ := by
 rcases rDec_at (R := []) (List.prefix_refl (encD o n h1 h2 Cs)) ho hn hl1 hl2 hc hok (List.append_nil _).symm with ⟨s, e1, e2, e3, e4, e5⟩ | ⟨e1, _⟩
 ·rw [e1]
  have : extraF (encD o n h1 h2 Cs) s = ⟨(encD o n h1 h2 Cs).length, 0, 0⟩ := by
   unfold extraF; rw [if_neg (fun h => by have := h.2; omega)]
   obtain ⟨k, co, po⟩ := s
   dsimp only at e2 e3 e4
   rw [e2, e3, e4]
  rw [this]
 ·omega
end Go.Proofs.YtclmgfcdnokaiaaGreatDoor
