/-
  The reader of layer 6: its position, its fault.
-/
import Derived.Test.YtdllgfkcakhoeaaWcB
import Derived.Test.YtdllgfkcakhoeaaAuto
namespace Go.Proofs.Ytdllgfkcakhoeaa
set_option linter.unusedVariables false
set_option linter.unusedSimpArgs false
open Go Go.RowKit
theorem agg22 : (isAgg 22).run Try.prog = fun w => .ok false w := isAgg_no Try.underlying22 rfl
theorem agg39 : (isAgg 39).run Try.prog = fun w => .ok false w := isAgg_no Try.underlying39 rfl
theorem agg41 : (isAgg 41).run Try.prog = fun w => .ok true w := isAgg_yes Try.underlying41 rfl
theorem enters15 : Enters Try.prog 15 := ⟨_, Try.func15, by kernel_rfl, by kernel_rfl⟩
theorem enters28 : Enters Try.prog 28 := ⟨_, Try.func28, by kernel_rfl, by kernel_rfl⟩
theorem enters29 : Enters Try.prog 29 := ⟨_, Try.func29, by kernel_rfl, by kernel_rfl⟩
theorem size22 : (Try.prog.info? 22).map (·.size) = some 1 := by kernel_rfl
theorem size41 : (Try.prog.info? 41).map (·.size) = some 2 := by kernel_rfl
theorem size61 : (Try.prog.info? 61).map (·.size) = some 2 := by kernel_rfl
theorem zero41 : (Try.prog.info? 41).bind (·.zero) = some (.agg #[.int .i64 0, .int .i64 0]) := by kernel_rfl
instance : AgN Try.prog 22 := ⟨agg22⟩
instance : Fld Try.prog 61 0 0 := ⟨⟨_, _, _, Try.underlying61, rfl, size22, rfl⟩⟩
instance : Fld Try.prog 61 1 1 := ⟨⟨_, _, _, Try.underlying61, rfl, size3, rfl⟩⟩
instance : Fld Try.prog 63 0 0 := ⟨⟨_, _, _, Try.underlying63, rfl, size61, rfl⟩⟩
instance : Fld Try.prog 63 1 2 := ⟨⟨_, _, _, Try.underlying63, rfl, size41, rfl⟩⟩
instance : Siz Try.prog 41 2 := ⟨size41⟩
instance : Zer Try.prog 41 [Value.int .i64 0, Value.int .i64 0] := ⟨⟨_, zero41, rfl⟩⟩
set_option maxRecDepth 100000 in
set_option maxHeartbeats 400000 in
theorem left_c (g : Nat) (A : Option Addr) (m c k : Nat) (co po : Int) (w : World) (hl : Ent.lies ⟨g, 63, rdC A m c k co po, rdN⟩ w) (hk : k ≤ m) (hmc : m ≤ c) (hcm : c ≤ 9223372036854775807)  : Calls Try.prog 28 #[.pointer (some ⟨g, 0, none⟩)] w fun e w' => e = .returned (.slice (cutA A c k 1) (m - k) (c - k)) ∧ St w [] w' := by
  refine calls_from (args := [.pointer (some ⟨g, 0, none⟩)]) Try.func28 rfl Try.ntmps28 (by simp) ?_
  refine TC.pr [0] ?_
  refine TC.heap (H' := [⟨g, 63, [Value.slice A m c, Value.int .i64 (k : Int), Value.int .i64 co, Value.int .i64 po], 4⟩]) (fun w hs => hs.take hl ne_nil) ?_
  iterate 6 refine gx ?_
  refine TC.mix (by kernel_rfl) [0, 0, 0, 1, 0, 0, 0, 1, 0, 0] rfl (by kernel_rfl) ?_
  refine gx ?_
  refine TM.free (Wants.none rfl) rfl (fun _ => Gets.nilCheck rfl rfl) ?_
  iterate 3 refine gx ?_
  refine TM.free (Wants.none rfl) rfl (fun _ => Gets.nilCheck rfl rfl) ?_
  iterate 2 refine gx ?_
  refine TM.free (Wants.none rfl) rfl (fun _ => Gets.sliceS rfl Try.underlying22 size5 rfl (bnd.at_ (l := k) rfl (by omega)) bnd.dflt (by omega) (by omega) rfl (ln := (m - k)) (cp := (c - k)) (by omega) (by omega)) ?_
  iterate 4 refine gx ?_
  exact TE.ret1 rfl rfl (fun w hs => ⟨rfl, (hs.same hl rfl)⟩)

set_option maxRecDepth 100000 in
set_option maxHeartbeats 400000 in
theorem end_c (g : Nat) (A : Option Addr) (m c k : Nat) (co po : Int) (w : World) (hl : Ent.lies ⟨g, 63, rdC A m c k co po, rdN⟩ w) (hk : k ≤ m) (hmc : m ≤ c) (hcm : c ≤ 9223372036854775807)  : Calls Try.prog 33 #[.pointer (some ⟨g, 0, none⟩)] w fun e w' => e = .returned (.int .i64 (m : Int)) ∧ St w [] w' := by
  refine calls_from (args := [.pointer (some ⟨g, 0, none⟩)]) Try.func33 rfl Try.ntmps33 (by simp) ?_
  refine TC.pr [0] ?_
  refine TC.heap (H' := [⟨g, 63, [Value.slice A m c, Value.int .i64 (k : Int), Value.int .i64 co, Value.int .i64 po], 4⟩]) (fun w hs => hs.take hl ne_nil) ?_
  iterate 8 refine gx ?_
  refine TL.gets (Wants.none rfl) rfl (Gets.nilCheck rfl rfl) ?_
  iterate 7 refine gx ?_
  exact TE.ret1 rfl rfl (fun w hs => ⟨rfl, (hs.same hl rfl)⟩)

set_option maxRecDepth 100000 in
set_option maxHeartbeats 400000 in
theorem pass_c (g : Nat) (A : Option Addr) (m c k : Nat) (n : Nat) (hn : k + n ≤ m) (co po : Int) (w : World) (hl : Ent.lies ⟨g, 63, rdC A m c k co po, rdN⟩ w) (hk : k ≤ m) (hmc : m ≤ c) (hcm : c ≤ 9223372036854775807)  : Calls Try.prog 32 #[.pointer (some ⟨g, 0, none⟩), .int .i64 (n : Int)] w fun e w' => e = .returned (.slice (cutA A c k 1) n (c - k)) ∧ St w [⟨g, 63, rdC A m c (k + n) co po, rdN⟩] w' := by
  refine calls_from (args := [.pointer (some ⟨g, 0, none⟩), .int .i64 (n : Int)]) Try.func32 rfl Try.ntmps32 (by simp) ?_
  refine TC.pr [0, 1] ?_
  refine TC.heap (H' := [⟨g, 63, [Value.slice A m c, Value.int .i64 (k : Int), Value.int .i64 co, Value.int .i64 po], 4⟩]) (fun w hs => hs.take hl ne_nil) ?_
  iterate 8 refine gx ?_
  refine TL.call0 (Wants.none rfl) rfl enters28 rfl rfl (v := .slice (cutA A c k 1) (m - k) (c - k)) (fun w hs => left_c g A m c k co po w (hs.has (⟨g, 63, [Value.slice A m c, Value.int .i64 (k : Int), Value.int .i64 co, Value.int .i64 po], 4⟩) (by simp)) (by omega) (by omega) (by omega)) ?_
  refine gx ?_
  refine TL.gets (Wants.none rfl) rfl (Gets.sliceS rfl Try.underlying22 size5 rfl bnd.dflt (bnd.at_ (l := n) rfl (by omega)) (by omega) (by omega) (cutA_zero _ _ _) (ln := n) (cp := (c - k)) (by omega) (by omega)) ?_
  iterate 6 refine gx ?_
  refine TL.gets (Wants.none rfl) rfl (Gets.nilCheck rfl rfl) ?_
  iterate 3 refine gx ?_
  refine TL.gets (Wants.none rfl) rfl (Gets.add rfl rfl rfl (r := ((k : Int) + (n : Int))) (w64 (by omega) (by omega))) ?_
  refine TL.gets (Wants.none rfl) rfl (Gets.nilCheck rfl rfl) ?_
  refine gx ?_
  refine TL.store1 (Wants.none rfl) rfl rfl size3 rfl rfl rfl (i := 0) rfl rfl (by simp [] <;> omega) (cs' := [Value.slice A m c, Value.int .i64 ((k : Int) + (n : Int)), Value.int .i64 co, Value.int .i64 po]) (rfl) (H' := [⟨g, 63, [Value.slice A m c, Value.int .i64 ((k : Int) + (n : Int)), Value.int .i64 co, Value.int .i64 po], 4⟩]) rfl ?_
  iterate 2 refine gx ?_
  refine TC.pr [4, 5] ?_
  iterate 7 refine gx ?_
  exact TE.ret1 rfl rfl (fun w hs => ⟨rfl, hs⟩)

set_option maxRecDepth 100000 in
set_option maxHeartbeats 400000 in
theorem fault_c (g : Nat) (A : Option Addr) (m c k : Nat) (co po : Int) (w : World) (hl : Ent.lies ⟨g, 63, rdC A m c k co po, rdN⟩ w)  : Calls Try.prog 15 #[.pointer (some ⟨g, 0, none⟩)] w fun e w' => e = .returned (.agg ([Value.int .i64 co, Value.int .i64 po]).toArray) ∧ St w [] w' := by
  refine calls_from (args := [.pointer (some ⟨g, 0, none⟩)]) Try.func15 rfl Try.ntmps15 (by simp) ?_
  refine TC.pr [0] ?_
  refine TC.heap (H' := [⟨g, 63, [Value.slice A m c, Value.int .i64 (k : Int), Value.int .i64 co, Value.int .i64 po], 4⟩]) (fun w hs => hs.take hl ne_nil) ?_
  iterate 2 refine gx ?_
  refine TL.al (fun g1 hg1 => ?_)
  iterate 6 refine gx ?_
  refine TL.gets (Wants.none rfl) rfl (Gets.ptrNil rfl Try.underlying32 rfl rfl) ?_
  iterate 2 refine gx ?_
  refine TC.no rfl ?_
  iterate 5 refine gx ?_
  refine TL.gets (Wants.none rfl) rfl (Gets.nilCheck rfl rfl) ?_
  refine gx ?_
  refine TL.gets (Wants.none rfl) rfl (Gets.loadN rfl agg41 size41 rfl (vs := [Value.int .i64 co, Value.int .i64 po]) rfl (Row.part (i := 1) (ent := ⟨g, 63, [Value.slice A m c, Value.int .i64 (k : Int), Value.int .i64 co, Value.int .i64 po], 4⟩) rfl rfl rfl)) ?_
  iterate 4 refine gx ?_
  exact TE.retC rfl agg41 size41 rfl (vs := [Value.int .i64 co, Value.int .i64 po]) rfl (Row.all (i := 0) (ent := ⟨g1, 41, [Value.int .i64 co, Value.int .i64 po], 2⟩) rfl rfl rfl) (fun w hs => ⟨rfl, ((hs.drop (by assumption)).same hl rfl)⟩)

set_option maxRecDepth 100000 in
set_option maxHeartbeats 400000 in
theorem fault_nil (w : World) : Calls Try.prog 15 #[.pointer none] w fun e w' => e = .returned (.agg ([Value.int .i64 1, Value.int .i64 0]).toArray) ∧ St w [] w' := by
  refine calls_from (args := [.pointer none]) Try.func15 rfl Try.ntmps15 (by simp) ?_
  refine TC.pr [0] ?_
  iterate 2 refine gx ?_
  refine TL.al (fun g1 hg1 => ?_)
  iterate 6 refine gx ?_
  refine TL.gets (Wants.none rfl) rfl (Gets.nilNil rfl Try.underlying32 rfl rfl) ?_
  iterate 2 refine gx ?_
  refine TC.yes rfl ?_
  iterate 2 refine gx ?_
  refine TL.gets (Wants.none rfl) rfl (Gets.build rfl (vs := [(0, Value.int .i64 1)]) rfl (fun w => by first | rfl | kernel_rfl) (v := .agg ([Value.int .i64 1, Value.int .i64 0]).toArray)) ?_
  iterate 5 refine gx ?_
  exact TE.retC rfl agg41 size41 rfl (vs := [Value.int .i64 1, Value.int .i64 0]) rfl (Row.all (i := 0) (ent := ⟨g1, 41, [Value.int .i64 1, Value.int .i64 0], 2⟩) rfl rfl rfl) (fun w hs => ⟨rfl, (hs.drop (by assumption))⟩)

set_option maxRecDepth 100000 in
set_option maxHeartbeats 400000 in
theorem ready_c (g : Nat) (A : Option Addr) (m c k : Nat) (co po : Int) (w : World) (hl : Ent.lies ⟨g, 63, rdC A m c k co po, rdN⟩ w)  : Calls Try.prog 29 #[.pointer (some ⟨g, 0, none⟩)] w fun e w' => e = .returned (.bool (decide (co = 0))) ∧ St w [] w' := by
  refine calls_from (args := [.pointer (some ⟨g, 0, none⟩)]) Try.func29 rfl Try.ntmps29 (by simp) ?_
  refine TC.pr [0] ?_
  refine TC.heap (H' := [⟨g, 63, [Value.slice A m c, Value.int .i64 (k : Int), Value.int .i64 co, Value.int .i64 po], 4⟩]) (fun w hs => hs.take hl ne_nil) ?_
  iterate 8 refine gx ?_
  refine TL.call0 (Wants.none rfl) rfl enters15 rfl rfl (v := .agg ([Value.int .i64 co, Value.int .i64 po]).toArray) (fun w hs => fault_c g A m c k co po w (hs.has (⟨g, 63, [Value.slice A m c, Value.int .i64 (k : Int), Value.int .i64 co, Value.int .i64 po], 4⟩) (by simp))) ?_
  refine TL.gets (Wants.none rfl) rfl (Gets.field1 rfl Try.underlying41 rfl rfl agg39 rfl) ?_
  iterate 5 refine gx ?_
  exact TE.ret1 rfl rfl (fun w hs => ⟨rfl, (hs.same hl rfl)⟩)

set_option maxRecDepth 100000 in
set_option maxHeartbeats 400000 in
theorem ready_nil (w : World) : Calls Try.prog 29 #[.pointer none] w fun e w' => e = .returned (.bool false) ∧ St w [] w' := by
  refine calls_from (args := [.pointer none]) Try.func29 rfl Try.ntmps29 (by simp) ?_
  refine TC.pr [0] ?_
  iterate 8 refine gx ?_
  refine TL.call0 (Wants.none rfl) rfl enters15 rfl rfl (v := .agg ([Value.int .i64 1, Value.int .i64 0]).toArray) (fun w hs => fault_nil w) ?_
  refine TL.gets (Wants.none rfl) rfl (Gets.field1 rfl Try.underlying41 rfl rfl agg39 rfl) ?_
  refine TL.gets (Wants.none rfl) rfl (Gets.isFalse (Gets.eql rfl rfl rfl) (by decide)) ?_
  iterate 4 refine gx ?_
  exact TE.ret1 rfl rfl (fun w hs => ⟨rfl, hs⟩)

set_option maxRecDepth 100000 in
set_option maxHeartbeats 400000 in
theorem at_c (g : Nat) (A : Option Addr) (m c k : Nat) (co po : Int) (w : World) (hl : Ent.lies ⟨g, 63, rdC A m c k co po, rdN⟩ w)  : Calls Try.prog 14 #[.pointer (some ⟨g, 0, none⟩)] w fun e w' => e = .returned (.int .i64 (k : Int)) ∧ St w [] w' := by
  refine calls_from (args := [.pointer (some ⟨g, 0, none⟩)]) Try.func14 rfl Try.ntmps14 (by simp) ?_
  refine TC.pr [0] ?_
  refine TC.heap (H' := [⟨g, 63, [Value.slice A m c, Value.int .i64 (k : Int), Value.int .i64 co, Value.int .i64 po], 4⟩]) (fun w hs => hs.take hl ne_nil) ?_
  iterate 9 refine gx ?_
  refine TL.gets (Wants.none rfl) rfl (Gets.ptrNil rfl Try.underlying32 rfl rfl) ?_
  iterate 2 refine gx ?_
  refine TC.no rfl ?_
  iterate 5 refine gx ?_
  refine TL.gets (Wants.none rfl) rfl (Gets.nilCheck rfl rfl) ?_
  iterate 7 refine gx ?_
  exact TE.ret1 rfl rfl (fun w hs => ⟨rfl, (hs.same hl rfl)⟩)

set_option maxRecDepth 100000 in
set_option maxHeartbeats 400000 in
theorem at_nil (w : World) : Calls Try.prog 14 #[.pointer none] w fun e w' => e = .returned (.int .i64 0) ∧ St w [] w' := by
  refine calls_from (args := [.pointer none]) Try.func14 rfl Try.ntmps14 (by simp) ?_
  refine TC.pr [0] ?_
  iterate 9 refine gx ?_
  refine TL.gets (Wants.none rfl) rfl (Gets.nilNil rfl Try.underlying32 rfl rfl) ?_
  iterate 2 refine gx ?_
  refine TC.yes rfl ?_
  iterate 7 refine gx ?_
  exact TE.ret1 rfl rfl (fun w hs => ⟨rfl, hs⟩)

set_option maxRecDepth 100000 in
set_option maxHeartbeats 400000 in
theorem rest_c (g : Nat) (A : Option Addr) (m c k : Nat) (co po : Int) (w : World) (hl : Ent.lies ⟨g, 63, rdC A m c k co po, rdN⟩ w) (hk : k ≤ m) (hmc : m ≤ c) (hcm : c ≤ 9223372036854775807)  : Calls Try.prog 13 #[.pointer (some ⟨g, 0, none⟩)] w fun e w' => e = .returned (.int .i64 ((m : Int) - (k : Int))) ∧ St w [] w' := by
  refine calls_from (args := [.pointer (some ⟨g, 0, none⟩)]) Try.func13 rfl Try.ntmps13 (by simp) ?_
  refine TC.pr [0] ?_
  refine TC.heap (H' := [⟨g, 63, [Value.slice A m c, Value.int .i64 (k : Int), Value.int .i64 co, Value.int .i64 po], 4⟩]) (fun w hs => hs.take hl ne_nil) ?_
  iterate 9 refine gx ?_
  refine TL.gets (Wants.none rfl) rfl (Gets.ptrNil rfl Try.underlying32 rfl rfl) ?_
  iterate 2 refine gx ?_
  refine TC.no rfl ?_
  iterate 5 refine gx ?_
  refine TL.gets (Wants.none rfl) rfl (Gets.nilCheck rfl rfl) ?_
  refine gx ?_
  refine TL.call0 (Wants.none rfl) rfl enters28 rfl rfl (v := .slice (cutA A c k 1) (m - k) (c - k)) (fun w hs => left_c g A m c k co po w (hs.has (⟨g, 63, [Value.slice A m c, Value.int .i64 (k : Int), Value.int .i64 co, Value.int .i64 po], 4⟩) (by simp)) (by omega) (by omega) (by omega)) ?_
  iterate 5 refine gx ?_
  exact TE.ret1 rfl rfl (fun w hs => ⟨ret_i (by omega), (hs.same hl rfl)⟩)

set_option maxRecDepth 100000 in
set_option maxHeartbeats 400000 in
theorem rest_nil (w : World) : Calls Try.prog 13 #[.pointer none] w fun e w' => e = .returned (.int .i64 0) ∧ St w [] w' := by
  refine calls_from (args := [.pointer none]) Try.func13 rfl Try.ntmps13 (by simp) ?_
  refine TC.pr [0] ?_
  iterate 9 refine gx ?_
  refine TL.gets (Wants.none rfl) rfl (Gets.nilNil rfl Try.underlying32 rfl rfl) ?_
  iterate 2 refine gx ?_
  refine TC.yes rfl ?_
  iterate 7 refine gx ?_
  exact TE.ret1 rfl rfl (fun w hs => ⟨rfl, hs⟩)

set_option maxRecDepth 100000 in
set_option maxHeartbeats 400000 in
theorem fail_set (g : Nat) (A : Option Addr) (m c k : Nat) (po d n : Int) (hd : d ≠ 0) (w : World) (hl : Ent.lies ⟨g, 63, rdC A m c k 0 po, rdN⟩ w)  : Calls Try.prog 17 #[.pointer (some ⟨g, 0, none⟩), .int .i64 d, .int .i64 n] w fun e w' => e = .returned (.tuple #[]) ∧ St w [⟨g, 63, rdC A m c k d n, rdN⟩] w' := by
  refine calls_from (args := [.pointer (some ⟨g, 0, none⟩), .int .i64 d, .int .i64 n]) Try.func17 rfl Try.ntmps17 (by simp) ?_
  refine TC.pr [0, 1, 2] ?_
  refine TC.heap (H' := [⟨g, 63, [Value.slice A m c, Value.int .i64 (k : Int), Value.int .i64 0, Value.int .i64 po], 4⟩]) (fun w hs => hs.take hl ne_nil) ?_
  iterate 3 refine gx ?_
  refine TL.call0 (Wants.none rfl) rfl enters29 rfl rfl (v := .bool true) (fun w hs => calls_yes rfl (ready_c g A m c k 0 po w (hs.has (⟨g, 63, [Value.slice A m c, Value.int .i64 (k : Int), Value.int .i64 0, Value.int .i64 po], 4⟩) (by simp)))) ?_
  iterate 2 refine gx ?_
  refine TL.gets (Wants.yes rfl rfl rfl) rfl (Gets.isTrue (Gets.neq rfl rfl rfl) hd) ?_
  iterate 3 refine gx ?_
  refine TC.pr [0, 1, 2, 11] ?_
  refine TC.yes rfl ?_
  iterate 4 refine gx ?_
  refine TL.gets (Wants.none rfl) rfl (Gets.build rfl (vs := [(0, Value.int .i64 d), (1, Value.int .i64 n)]) rfl (fun w => by first | rfl | kernel_rfl) (v := .agg ([Value.int .i64 d, Value.int .i64 n]).toArray)) ?_
  refine TL.gets (Wants.none rfl) rfl (Gets.nilCheck rfl rfl) ?_
  refine gx ?_
  refine TL.storeN (Wants.none rfl) rfl rfl size41 rfl (vs := [Value.int .i64 d, Value.int .i64 n]) rfl rfl (by simp [Value.oneCell']) (i := 0) (ent := ⟨g, 63, [Value.slice A m c, Value.int .i64 (k : Int), Value.int .i64 0, Value.int .i64 po], 4⟩) rfl rfl (by simp) (cs' := [Value.slice A m c, Value.int .i64 (k : Int), Value.int .i64 d, Value.int .i64 n]) rfl (H' := [⟨g, 63, [Value.slice A m c, Value.int .i64 (k : Int), Value.int .i64 d, Value.int .i64 n], 4⟩]) rfl ?_
  refine gx ?_
  exact TE.end0 rfl (fun w hs => ⟨rfl, hs⟩)

set_option maxRecDepth 100000 in
set_option maxHeartbeats 400000 in
theorem fail_ok (g : Nat) (A : Option Addr) (m c k : Nat) (po n : Int) (w : World) (hl : Ent.lies ⟨g, 63, rdC A m c k 0 po, rdN⟩ w)  : Calls Try.prog 17 #[.pointer (some ⟨g, 0, none⟩), .int .i64 0, .int .i64 n] w fun e w' => e = .returned (.tuple #[]) ∧ St w [] w' := by
  refine calls_from (args := [.pointer (some ⟨g, 0, none⟩), .int .i64 0, .int .i64 n]) Try.func17 rfl Try.ntmps17 (by simp) ?_
  refine TC.pr [0, 1, 2] ?_
  refine TC.heap (H' := [⟨g, 63, [Value.slice A m c, Value.int .i64 (k : Int), Value.int .i64 0, Value.int .i64 po], 4⟩]) (fun w hs => hs.take hl ne_nil) ?_
  iterate 3 refine gx ?_
  refine TL.call0 (Wants.none rfl) rfl enters29 rfl rfl (v := .bool true) (fun w hs => calls_yes rfl (ready_c g A m c k 0 po w (hs.has (⟨g, 63, [Value.slice A m c, Value.int .i64 (k : Int), Value.int .i64 0, Value.int .i64 po], 4⟩) (by simp)))) ?_
  iterate 2 refine gx ?_
  refine TL.gets (Wants.yes rfl rfl rfl) rfl (Gets.isFalse (Gets.neq rfl rfl rfl) (fun h => h rfl)) ?_
  iterate 3 refine gx ?_
  refine TC.pr [0, 1, 2, 11] ?_
  refine TC.no rfl ?_
  refine gx ?_
  exact TE.end0 rfl (fun w hs => ⟨rfl, (hs.same hl rfl)⟩)

set_option maxRecDepth 100000 in
set_option maxHeartbeats 400000 in
theorem fail_dead (g : Nat) (A : Option Addr) (m c k : Nat) (co po d n : Int) (hco : co ≠ 0) (w : World) (hl : Ent.lies ⟨g, 63, rdC A m c k co po, rdN⟩ w)  : Calls Try.prog 17 #[.pointer (some ⟨g, 0, none⟩), .int .i64 d, .int .i64 n] w fun e w' => e = .returned (.tuple #[]) ∧ St w [] w' := by
  refine calls_from (args := [.pointer (some ⟨g, 0, none⟩), .int .i64 d, .int .i64 n]) Try.func17 rfl Try.ntmps17 (by simp) ?_
  refine TC.pr [0, 1, 2] ?_
  refine TC.heap (H' := [⟨g, 63, [Value.slice A m c, Value.int .i64 (k : Int), Value.int .i64 co, Value.int .i64 po], 4⟩]) (fun w hs => hs.take hl ne_nil) ?_
  iterate 3 refine gx ?_
  refine TL.call0 (Wants.none rfl) rfl enters29 rfl rfl (v := .bool false) (fun w hs => calls_no hco (ready_c g A m c k co po w (hs.has (⟨g, 63, [Value.slice A m c, Value.int .i64 (k : Int), Value.int .i64 co, Value.int .i64 po], 4⟩) (by simp)))) ?_
  iterate 6 refine gx ?_
  refine TC.pr [0, 1, 2, 11] ?_
  refine TC.no rfl ?_
  refine gx ?_
  exact TE.end0 rfl (fun w hs => ⟨rfl, (hs.same hl rfl)⟩)

set_option maxRecDepth 100000 in
set_option maxHeartbeats 400000 in
theorem fail_nil (d n : Int) (w : World) : Calls Try.prog 17 #[.pointer none, .int .i64 d, .int .i64 n] w fun e w' => e = .returned (.tuple #[]) ∧ St w [] w' := by
  refine calls_from (args := [.pointer none, .int .i64 d, .int .i64 n]) Try.func17 rfl Try.ntmps17 (by simp) ?_
  refine TC.pr [0, 1, 2] ?_
  iterate 3 refine gx ?_
  refine TL.call0 (Wants.none rfl) rfl enters29 rfl rfl (v := .bool false) (fun w hs => ready_nil w) ?_
  iterate 6 refine gx ?_
  refine TC.pr [0, 1, 2, 11] ?_
  refine TC.no rfl ?_
  refine gx ?_
  exact TE.end0 rfl (fun w hs => ⟨rfl, hs⟩)
end Go.Proofs.Ytdllgfkcakhoeaa
