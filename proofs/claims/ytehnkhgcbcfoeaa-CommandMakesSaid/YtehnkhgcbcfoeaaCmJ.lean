/-
  CommandParts: the walk.
-/
import Derived.Test.YtehnkhgcbcfoeaaCmI
namespace Go.Proofs.Ytehnkhgcbcfoeaa
set_option linter.unusedVariables false
set_option linter.unusedSimpArgs false
open Go Go.RowKit
theorem enters23 : Enters Try.prog 23 := ⟨_, Try.func23, by kernel_rfl, by kernel_rfl⟩
set_option maxRecDepth 100000 in
set_option maxHeartbeats 1000000 in
theorem parts_bad (k t f l : Int) (A : Option Addr) (m c : Nat) (p n : Int) (hmr : m ≤ 9223372036854775807) (bt : -9223372036854775808 ≤ t ∧ t ≤ 9223372036854775807) (bf : -9223372036854775808 ≤ f ∧ f ≤ 9223372036854775807) (bl : -9223372036854775808 ≤ l ∧ l ≤ 9223372036854775807) (hv : ¬ codeV k t f l m = 0) (w : World) : Calls Try.prog 6 #[.agg ([Value.int .i64 k, Value.int .i64 t, Value.int .i64 f, Value.int .i64 l, Value.slice A m c]).toArray, .agg ([Value.int .i64 p, Value.int .i64 n]).toArray] w fun e w' => e = .returned (.bool true) ∧ St w [] w' := by
  refine calls_from (args := [.agg ([Value.int .i64 k, Value.int .i64 t, Value.int .i64 f, Value.int .i64 l, Value.slice A m c]).toArray, .agg ([Value.int .i64 p, Value.int .i64 n]).toArray]) Try.func6 rfl Try.ntmps6 (by simp) ?_
  refine TC.sub (Sub.cons (i := 0) rfl (Sub.cons (i := 1) rfl (Sub.nil))) ?_
  refine TC.seq ?_
  refine TC.regionL ?_
  refine TL.box (Wants.none rfl) rfl rfl rfl (cs := [Value.int .i64 k, Value.int .i64 t, Value.int .i64 f, Value.int .i64 l, Value.slice A m c]) (by simp [Value.cells]) (tot := 5) (by simp []) (fun g1 hg1 => ?_)
  refine TL.box (Wants.none rfl) rfl rfl rfl (cs := [Value.int .i64 p, Value.int .i64 n]) (by simp [Value.cells]) (tot := 2) (by simp []) (fun g2 hg2 => ?_)
  refine TL.gets (Wants.none rfl) rfl (Gets.assign rfl rfl) ?_
  refine TL.nil ?_
  refine TE.then ?_
  refine TC.seq ?_
  refine TC.seq ?_
  refine TC.regionL ?_
  refine TL.gets (Wants.none rfl) rfl (Gets.loadN rfl agg27 size27 rfl (vs := [Value.int .i64 k, Value.int .i64 t, Value.int .i64 f, Value.int .i64 l, Value.slice A m c]) (by simp []) (Row.all (i := 1) (ent := ⟨g1, 27, [Value.int .i64 k, Value.int .i64 t, Value.int .i64 f, Value.int .i64 l, Value.slice A m c], 5⟩) rfl rfl rfl)) ?_
  refine TL.call0 (Wants.none rfl) rfl enters14 rfl rfl (v := .int .i64 (codeV k t f l m)) (fun w hs => rcheck_c k t f l A m c (by omega) (by omega) (by omega) (by omega) w) ?_
  refine TL.gets (Wants.none rfl) rfl (Gets.isTrue (Gets.neq rfl rfl rfl) hv) ?_
  refine TL.gets (Wants.none rfl) rfl (Gets.move rfl rfl) ?_
  refine TL.pass rfl rfl rfl rfl rfl ?_
  refine TL.pass rfl rfl rfl rfl rfl ?_
  refine TL.pass rfl rfl rfl rfl rfl ?_
  refine TL.gets (Wants.none rfl) rfl (Gets.pickT rfl rfl rfl) ?_
  refine TL.nil ?_
  refine TE.then ?_
  refine TC.sub (Sub.cons (i := 2) rfl (Sub.cons (i := 3) rfl (Sub.cons (i := 4) rfl (Sub.cons (i := 15) rfl (Sub.nil))))) ?_
  refine TC.yes rfl ?_
  refine TC.seq ?_
  refine TC.regionL ?_
  refine TL.call0 (Wants.none rfl) rfl enters9 rfl rfl (v := .bool true) (fun w hs => alive_c w) ?_
  refine TL.gets (Wants.none rfl) rfl (Gets.assign rfl rfl) ?_
  refine TL.nil ?_
  refine TE.then ?_
  refine TC.ret ?_
  refine TE.thenR ?_
  exact TE.ret1 rfl rfl (fun w hs => ⟨rfl, ((hs.drop (by assumption)).drop (by assumption))⟩)

set_option maxRecDepth 100000 in
set_option maxHeartbeats 1000000 in
theorem parts_ext (k t f l : Int) (A : Option Addr) (m c : Nat) (p n : Int) (hmr : m ≤ 9223372036854775807) (bt : -9223372036854775808 ≤ t ∧ t ≤ 9223372036854775807) (bf : -9223372036854775808 ≤ f ∧ f ≤ 9223372036854775807) (bl : -9223372036854775808 ≤ l ∧ l ≤ 9223372036854775807) (bp : -9223372036854775808 ≤ p ∧ p ≤ 9223372036854775807) (bn : -9223372036854775808 ≤ n ∧ n ≤ 9223372036854775807) (hv : codeV k t f l m = 0) (hp : ¬ vld p n) (w : World) : Calls Try.prog 6 #[.agg ([Value.int .i64 k, Value.int .i64 t, Value.int .i64 f, Value.int .i64 l, Value.slice A m c]).toArray, .agg ([Value.int .i64 p, Value.int .i64 n]).toArray] w fun e w' => e = .returned (.bool true) ∧ St w [] w' := by
  refine calls_from (args := [.agg ([Value.int .i64 k, Value.int .i64 t, Value.int .i64 f, Value.int .i64 l, Value.slice A m c]).toArray, .agg ([Value.int .i64 p, Value.int .i64 n]).toArray]) Try.func6 rfl Try.ntmps6 (by simp) ?_
  refine TC.sub (Sub.cons (i := 0) rfl (Sub.cons (i := 1) rfl (Sub.nil))) ?_
  refine TC.seq ?_
  refine TC.regionL ?_
  refine TL.box (Wants.none rfl) rfl rfl rfl (cs := [Value.int .i64 k, Value.int .i64 t, Value.int .i64 f, Value.int .i64 l, Value.slice A m c]) (by simp [Value.cells]) (tot := 5) (by simp []) (fun g1 hg1 => ?_)
  refine TL.box (Wants.none rfl) rfl rfl rfl (cs := [Value.int .i64 p, Value.int .i64 n]) (by simp [Value.cells]) (tot := 2) (by simp []) (fun g2 hg2 => ?_)
  refine TL.gets (Wants.none rfl) rfl (Gets.assign rfl rfl) ?_
  refine TL.nil ?_
  refine TE.then ?_
  refine TC.seq ?_
  refine TC.seq ?_
  refine TC.regionL ?_
  refine TL.gets (Wants.none rfl) rfl (Gets.loadN rfl agg27 size27 rfl (vs := [Value.int .i64 k, Value.int .i64 t, Value.int .i64 f, Value.int .i64 l, Value.slice A m c]) (by simp []) (Row.all (i := 1) (ent := ⟨g1, 27, [Value.int .i64 k, Value.int .i64 t, Value.int .i64 f, Value.int .i64 l, Value.slice A m c], 5⟩) rfl rfl rfl)) ?_
  refine TL.call0 (Wants.none rfl) rfl enters14 rfl rfl (v := .int .i64 0) (fun w hs => (rcheck_c k t f l A m c (by omega) (by omega) (by omega) (by omega) w).mono fun e w' h => by rw [hv] at h; exact h) ?_
  refine TL.gets (Wants.none rfl) rfl (Gets.isFalse (Gets.neq rfl rfl rfl) (by decide)) ?_
  refine TL.gets (Wants.none rfl) rfl (Gets.move rfl rfl) ?_
  refine TL.gets (Wants.yes rfl rfl rfl) rfl (Gets.loadN rfl agg37 size37 rfl (vs := [Value.int .i64 p, Value.int .i64 n]) (by simp []) (Row.all (i := 0) (ent := ⟨g2, 37, [Value.int .i64 p, Value.int .i64 n], 2⟩) rfl rfl rfl)) ?_
  refine TL.call0 (Wants.yes rfl rfl rfl) rfl enters21 rfl rfl (v := .bool false) (fun w hs => (rvalid_c p n (by omega) (by omega) w).mono fun e w' h => by rw [decide_eq_false (p := vld p n) hp] at h; exact h) ?_
  refine TL.gets (Wants.yes rfl rfl rfl) rfl (Gets.not rfl rfl) ?_
  refine TL.gets (Wants.none rfl) rfl (Gets.pickF rfl rfl rfl) ?_
  refine TL.nil ?_
  refine TE.then ?_
  refine TC.sub (Sub.cons (i := 2) rfl (Sub.cons (i := 3) rfl (Sub.cons (i := 4) rfl (Sub.cons (i := 15) rfl (Sub.nil))))) ?_
  refine TC.yes rfl ?_
  refine TC.seq ?_
  refine TC.regionL ?_
  refine TL.call0 (Wants.none rfl) rfl enters9 rfl rfl (v := .bool true) (fun w hs => alive_c w) ?_
  refine TL.gets (Wants.none rfl) rfl (Gets.assign rfl rfl) ?_
  refine TL.nil ?_
  refine TE.then ?_
  refine TC.ret ?_
  refine TE.thenR ?_
  exact TE.ret1 rfl rfl (fun w hs => ⟨rfl, ((hs.drop (by assumption)).drop (by assumption))⟩)

set_option maxRecDepth 100000 in
set_option maxHeartbeats 1000000 in
theorem parts_zero1 (t f l : Int) (A : Option Addr) (m c : Nat) (p n : Int) (hp : vld p n) (hl : 1 ≤ l) (hm : m = 0) (ht : vld t l) (hf : vld f l) (hn : n = 0) (w : World) : Calls Try.prog 6 #[.agg ([Value.int .i64 1, Value.int .i64 t, Value.int .i64 f, Value.int .i64 l, Value.slice A m c]).toArray, .agg ([Value.int .i64 p, Value.int .i64 n]).toArray] w fun e w' => e = .returned (.bool true) ∧ St w [] w' := by
  refine calls_from (args := [.agg ([Value.int .i64 1, Value.int .i64 t, Value.int .i64 f, Value.int .i64 l, Value.slice A m c]).toArray, .agg ([Value.int .i64 p, Value.int .i64 n]).toArray]) Try.func6 rfl Try.ntmps6 (by simp) ?_
  refine TC.sub (Sub.cons (i := 0) rfl (Sub.cons (i := 1) rfl (Sub.nil))) ?_
  refine TC.seq ?_
  have ht2 := ht
  have hf2 := hf
  have hp2 := hp
  unfold vld at ht2 hf2 hp2
  refine TC.regionL ?_
  refine TL.box (Wants.none rfl) rfl rfl rfl (cs := [Value.int .i64 1, Value.int .i64 t, Value.int .i64 f, Value.int .i64 l, Value.slice A m c]) (by simp [Value.cells]) (tot := 5) (by simp []) (fun g1 hg1 => ?_)
  refine TL.box (Wants.none rfl) rfl rfl rfl (cs := [Value.int .i64 p, Value.int .i64 n]) (by simp [Value.cells]) (tot := 2) (by simp []) (fun g2 hg2 => ?_)
  refine TL.gets (Wants.none rfl) rfl (Gets.assign rfl rfl) ?_
  refine TL.nil ?_
  refine TE.then ?_
  refine TC.seq ?_
  refine TC.seq ?_
  refine TC.regionL ?_
  refine TL.gets (Wants.none rfl) rfl (Gets.loadN rfl agg27 size27 rfl (vs := [Value.int .i64 1, Value.int .i64 t, Value.int .i64 f, Value.int .i64 l, Value.slice A m c]) (by simp []) (Row.all (i := 1) (ent := ⟨g1, 27, [Value.int .i64 1, Value.int .i64 t, Value.int .i64 f, Value.int .i64 l, Value.slice A m c], 5⟩) rfl rfl rfl)) ?_
  refine TL.call0 (Wants.none rfl) rfl enters14 rfl rfl (v := .int .i64 0) (fun w hs => (rcheck_c 1 t f l A m c (by omega) (by omega) (by omega) (by omega) w).mono fun e w' h => by rw [(codeV1.2 ⟨by omega, hm, ht, hf⟩)] at h; exact h) ?_
  refine TL.gets (Wants.none rfl) rfl (Gets.isFalse (Gets.neq rfl rfl rfl) (by decide)) ?_
  refine TL.gets (Wants.none rfl) rfl (Gets.move rfl rfl) ?_
  refine TL.gets (Wants.yes rfl rfl rfl) rfl (Gets.loadN rfl agg37 size37 rfl (vs := [Value.int .i64 p, Value.int .i64 n]) (by simp []) (Row.all (i := 0) (ent := ⟨g2, 37, [Value.int .i64 p, Value.int .i64 n], 2⟩) rfl rfl rfl)) ?_
  refine TL.call0 (Wants.yes rfl rfl rfl) rfl enters21 rfl rfl (v := .bool true) (fun w hs => (rvalid_c p n (by omega) (by omega) w).mono fun e w' h => by rw [decide_eq_true (p := vld p n) hp] at h; exact h) ?_
  refine TL.gets (Wants.yes rfl rfl rfl) rfl (Gets.not rfl rfl) ?_
  refine TL.gets (Wants.none rfl) rfl (Gets.pickF rfl rfl rfl) ?_
  refine TL.nil ?_
  refine TE.then ?_
  refine TC.sub (Sub.cons (i := 2) rfl (Sub.cons (i := 3) rfl (Sub.cons (i := 4) rfl (Sub.cons (i := 15) rfl (Sub.nil))))) ?_
  refine TC.no rfl ?_
  refine TC.skip ?_
  refine TE.then ?_
  refine TC.seq ?_
  refine TC.regionL ?_
  refine TL.gets (Wants.none rfl) rfl (Gets.loadN rfl agg27 size27 rfl (vs := [Value.int .i64 1, Value.int .i64 t, Value.int .i64 f, Value.int .i64 l, Value.slice A m c]) (by simp []) (Row.all (i := 1) (ent := ⟨g1, 27, [Value.int .i64 1, Value.int .i64 t, Value.int .i64 f, Value.int .i64 l, Value.slice A m c], 5⟩) rfl rfl rfl)) ?_
  refine TL.gets (Wants.none rfl) rfl (Gets.loadN rfl agg37 size37 rfl (vs := [Value.int .i64 p, Value.int .i64 n]) (by simp []) (Row.all (i := 0) (ent := ⟨g2, 37, [Value.int .i64 p, Value.int .i64 n], 2⟩) rfl rfl rfl)) ?_
  refine TL.call0 (Wants.none rfl) rfl enters22 rfl rfl (v := .tuple #[.agg ([Value.int .i64 0, Value.int .i64 0, Value.int .i64 0, Value.int .i64 0, Value.slice none 0 0]).toArray, .bool false]) (fun w hs => part_zero1 t f l A m c p n hp hl hm ht hf hn w) ?_
  refine TL.gets (Wants.none rfl) rfl (Gets.move rfl rfl) ?_
  refine TL.gets (Wants.none rfl) rfl (Gets.extract rfl rfl rfl) ?_
  refine TL.gets (Wants.none rfl) rfl (Gets.extract rfl rfl rfl) ?_
  refine TL.alloc (Wants.none rfl) rfl rfl zero27 (cs := [Value.int .i64 0, Value.int .i64 0, Value.int .i64 0, Value.int .i64 0, Value.slice none 0 0]) rfl (tot := 5) (by simp) (fun g3 hg3 => ?_)
  refine TL.storeW (Wants.none rfl) rfl rfl size27 rfl (vs := [Value.int .i64 0, Value.int .i64 0, Value.int .i64 0, Value.int .i64 0, Value.slice none 0 0]) rfl (by simp []) (by simp [Value.oneCell']) (i := 0) (ent := ⟨g3, 27, [Value.int .i64 0, Value.int .i64 0, Value.int .i64 0, Value.int .i64 0, Value.slice none 0 0], 5⟩) rfl rfl (by simp []) (H' := [⟨g3, 27, [Value.int .i64 0, Value.int .i64 0, Value.int .i64 0, Value.int .i64 0, Value.slice none 0 0], 5⟩, ⟨g2, 37, [Value.int .i64 p, Value.int .i64 n], 2⟩, ⟨g1, 27, [Value.int .i64 1, Value.int .i64 t, Value.int .i64 f, Value.int .i64 l, Value.slice A m c], 5⟩]) rfl ?_
  refine TL.gets (Wants.none rfl) rfl (Gets.assign rfl rfl) ?_
  refine TL.nil ?_
  refine TE.then ?_
  refine TC.sub (Sub.cons (i := 2) rfl (Sub.cons (i := 3) rfl (Sub.cons (i := 4) rfl (Sub.cons (i := 5) rfl (Sub.cons (i := 6) rfl (Sub.nil)))))) ?_
  refine TC.seq ?_
  refine TC.regionL ?_
  refine TL.gets (Wants.none rfl) rfl (Gets.loadN rfl agg27 size27 rfl (vs := [Value.int .i64 1, Value.int .i64 t, Value.int .i64 f, Value.int .i64 l, Value.slice A m c]) (by simp []) (Row.all (i := 2) (ent := ⟨g1, 27, [Value.int .i64 1, Value.int .i64 t, Value.int .i64 f, Value.int .i64 l, Value.slice A m c], 5⟩) rfl rfl rfl)) ?_
  refine TL.call0 (Wants.none rfl) rfl enters18 rfl rfl (v := .agg ([Value.int .i64 t, Value.int .i64 l]).toArray) (fun w hs => rtarget1 t f l A m c w) ?_
  refine TL.alloc (Wants.none rfl) rfl rfl zero37 (cs := [Value.int .i64 0, Value.int .i64 0]) rfl (tot := 2) (by simp) (fun g4 hg4 => ?_)
  refine TL.storeW (Wants.none rfl) rfl rfl size37 rfl (vs := [Value.int .i64 t, Value.int .i64 l]) rfl (by simp []) (by simp [Value.oneCell']) (i := 0) (ent := ⟨g4, 37, [Value.int .i64 0, Value.int .i64 0], 2⟩) rfl rfl (by simp []) (H' := [⟨g4, 37, [Value.int .i64 t, Value.int .i64 l], 2⟩, ⟨g3, 27, [Value.int .i64 0, Value.int .i64 0, Value.int .i64 0, Value.int .i64 0, Value.slice none 0 0], 5⟩, ⟨g2, 37, [Value.int .i64 p, Value.int .i64 n], 2⟩, ⟨g1, 27, [Value.int .i64 1, Value.int .i64 t, Value.int .i64 f, Value.int .i64 l, Value.slice A m c], 5⟩]) rfl ?_
  refine TL.nil ?_
  refine TE.then ?_
  refine TC.seq ?_
  refine TC.seq ?_
  refine TC.regionL ?_
  refine TL.gets (Wants.none rfl) rfl (Gets.fieldAddr rfl Try.underlying37 rfl size3 rfl (off' := 1) (by first | rfl | omega)) ?_
  refine TL.gets (Wants.none rfl) rfl (Gets.load1 rfl agg3 rfl (At.ent (i := 2) (ent := ⟨g2, 37, [Value.int .i64 p, Value.int .i64 n], 2⟩) (off := 1) rfl rfl (by exact rfl))) ?_
  refine TL.gets (Wants.none rfl) rfl (Gets.isTrue (Gets.eql rfl rfl rfl) hn) ?_
  refine TL.gets (Wants.none rfl) rfl (Gets.move rfl rfl) ?_
  refine TL.pass rfl rfl rfl rfl rfl ?_
  refine TL.pass rfl rfl rfl rfl rfl ?_
  refine TL.pass rfl rfl rfl rfl rfl ?_
  refine TL.pass rfl rfl rfl rfl rfl ?_
  refine TL.pass rfl rfl rfl rfl rfl ?_
  refine TL.gets (Wants.none rfl) rfl (Gets.pickT rfl rfl rfl) ?_
  refine TL.gets (Wants.none rfl) rfl (Gets.move rfl rfl) ?_
  refine TL.pass rfl rfl rfl rfl rfl ?_
  refine TL.pass rfl rfl rfl rfl rfl ?_
  refine TL.pass rfl rfl rfl rfl rfl ?_
  refine TL.pass rfl rfl rfl rfl rfl ?_
  refine TL.pass rfl rfl rfl rfl rfl ?_
  refine TL.pass rfl rfl rfl rfl rfl ?_
  refine TL.pass rfl rfl rfl rfl rfl ?_
  refine TL.pass rfl rfl rfl rfl rfl ?_
  refine TL.pass rfl rfl rfl rfl rfl ?_
  refine TL.pass rfl rfl rfl rfl rfl ?_
  refine TL.pass rfl rfl rfl rfl rfl ?_
  refine TL.gets (Wants.none rfl) rfl (Gets.pickT rfl rfl rfl) ?_
  refine TL.nil ?_
  refine TE.then ?_
  refine TC.sub (Sub.cons (i := 2) rfl (Sub.cons (i := 3) rfl (Sub.cons (i := 4) rfl (Sub.cons (i := 5) rfl (Sub.cons (i := 6) rfl (Sub.cons (i := 47) rfl (Sub.nil))))))) ?_
  refine TC.yes rfl ?_
  refine TC.seq ?_
  refine TC.regionL ?_
  refine TL.call0 (Wants.none rfl) rfl enters9 rfl rfl (v := .bool true) (fun w hs => alive_c w) ?_
  refine TL.gets (Wants.none rfl) rfl (Gets.move rfl rfl) ?_
  refine TL.gets (Wants.yes rfl rfl rfl) rfl (Gets.move rfl rfl) ?_
  refine TL.gets (Wants.yes rfl rfl rfl) rfl (Gets.not rfl rfl) ?_
  refine TL.gets (Wants.none rfl) rfl (Gets.pickT rfl rfl rfl) ?_
  refine TL.gets (Wants.none rfl) rfl (Gets.move rfl rfl) ?_
  refine TL.gets (Wants.yes rfl rfl rfl) rfl (Gets.loadN rfl agg27 size27 rfl (vs := [Value.int .i64 0, Value.int .i64 0, Value.int .i64 0, Value.int .i64 0, Value.slice none 0 0]) (by simp []) (Row.all (i := 1) (ent := ⟨g3, 27, [Value.int .i64 0, Value.int .i64 0, Value.int .i64 0, Value.int .i64 0, Value.slice none 0 0], 5⟩) rfl rfl rfl)) ?_
  refine TL.gets (Wants.yes rfl rfl rfl) rfl (Gets.build rfl (vs := []) rfl (fun w => by first | rfl | kernel_rfl) (v := .agg ([Value.int .i64 0, Value.int .i64 0, Value.int .i64 0, Value.int .i64 0, Value.slice none 0 0]).toArray)) ?_
  refine TL.call0 (Wants.yes rfl rfl rfl) rfl enters12 rfl rfl (v := .bool true) (fun w hs => (rsame_c 0 0 0 0 0 0 0 0 none none 0 0 0 0 ([] : List Int) ([] : List Int) bytes_no bytes_no w src_no src_no).mono fun e w' h => by rw [decide_eq_true (p := sameP 0 0 0 0 0 0 0 0 ([] : List Int) ([] : List Int)) (⟨rfl, rfl, rfl, rfl, rfl⟩)] at h; exact h) ?_
  refine TL.gets (Wants.none rfl) rfl (Gets.pickT rfl rfl rfl) ?_
  refine TL.gets (Wants.none rfl) rfl (Gets.assign rfl rfl) ?_
  refine TL.nil ?_
  refine TE.then ?_
  refine TC.ret ?_
  refine TE.thenR ?_
  exact TE.ret1 rfl rfl (fun w hs => ⟨rfl, ((((hs.drop (by assumption)).drop (by assumption)).drop (by assumption)).drop (by assumption))⟩)

set_option maxRecDepth 100000 in
set_option maxHeartbeats 1000000 in
theorem parts_out1 (t f l : Int) (A : Option Addr) (m c : Nat) (p n : Int) (hp : vld p n) (hl : 1 ≤ l) (hm : m = 0) (ht : vld t l) (hf : vld f l) (hn : ¬ n = 0) (hi : ¬ inside_ t l p n) (w : World) : Calls Try.prog 6 #[.agg ([Value.int .i64 1, Value.int .i64 t, Value.int .i64 f, Value.int .i64 l, Value.slice A m c]).toArray, .agg ([Value.int .i64 p, Value.int .i64 n]).toArray] w fun e w' => e = .returned (.bool true) ∧ St w [] w' := by
  refine calls_from (args := [.agg ([Value.int .i64 1, Value.int .i64 t, Value.int .i64 f, Value.int .i64 l, Value.slice A m c]).toArray, .agg ([Value.int .i64 p, Value.int .i64 n]).toArray]) Try.func6 rfl Try.ntmps6 (by simp) ?_
  refine TC.sub (Sub.cons (i := 0) rfl (Sub.cons (i := 1) rfl (Sub.nil))) ?_
  refine TC.seq ?_
  have ht2 := ht
  have hf2 := hf
  have hp2 := hp
  unfold vld at ht2 hf2 hp2
  refine TC.regionL ?_
  refine TL.box (Wants.none rfl) rfl rfl rfl (cs := [Value.int .i64 1, Value.int .i64 t, Value.int .i64 f, Value.int .i64 l, Value.slice A m c]) (by simp [Value.cells]) (tot := 5) (by simp []) (fun g1 hg1 => ?_)
  refine TL.box (Wants.none rfl) rfl rfl rfl (cs := [Value.int .i64 p, Value.int .i64 n]) (by simp [Value.cells]) (tot := 2) (by simp []) (fun g2 hg2 => ?_)
  refine TL.gets (Wants.none rfl) rfl (Gets.assign rfl rfl) ?_
  refine TL.nil ?_
  refine TE.then ?_
  refine TC.seq ?_
  refine TC.seq ?_
  refine TC.regionL ?_
  refine TL.gets (Wants.none rfl) rfl (Gets.loadN rfl agg27 size27 rfl (vs := [Value.int .i64 1, Value.int .i64 t, Value.int .i64 f, Value.int .i64 l, Value.slice A m c]) (by simp []) (Row.all (i := 1) (ent := ⟨g1, 27, [Value.int .i64 1, Value.int .i64 t, Value.int .i64 f, Value.int .i64 l, Value.slice A m c], 5⟩) rfl rfl rfl)) ?_
  refine TL.call0 (Wants.none rfl) rfl enters14 rfl rfl (v := .int .i64 0) (fun w hs => (rcheck_c 1 t f l A m c (by omega) (by omega) (by omega) (by omega) w).mono fun e w' h => by rw [(codeV1.2 ⟨by omega, hm, ht, hf⟩)] at h; exact h) ?_
  refine TL.gets (Wants.none rfl) rfl (Gets.isFalse (Gets.neq rfl rfl rfl) (by decide)) ?_
  refine TL.gets (Wants.none rfl) rfl (Gets.move rfl rfl) ?_
  refine TL.gets (Wants.yes rfl rfl rfl) rfl (Gets.loadN rfl agg37 size37 rfl (vs := [Value.int .i64 p, Value.int .i64 n]) (by simp []) (Row.all (i := 0) (ent := ⟨g2, 37, [Value.int .i64 p, Value.int .i64 n], 2⟩) rfl rfl rfl)) ?_
  refine TL.call0 (Wants.yes rfl rfl rfl) rfl enters21 rfl rfl (v := .bool true) (fun w hs => (rvalid_c p n (by omega) (by omega) w).mono fun e w' h => by rw [decide_eq_true (p := vld p n) hp] at h; exact h) ?_
  refine TL.gets (Wants.yes rfl rfl rfl) rfl (Gets.not rfl rfl) ?_
  refine TL.gets (Wants.none rfl) rfl (Gets.pickF rfl rfl rfl) ?_
  refine TL.nil ?_
  refine TE.then ?_
  refine TC.sub (Sub.cons (i := 2) rfl (Sub.cons (i := 3) rfl (Sub.cons (i := 4) rfl (Sub.cons (i := 15) rfl (Sub.nil))))) ?_
  refine TC.no rfl ?_
  refine TC.skip ?_
  refine TE.then ?_
  refine TC.seq ?_
  refine TC.regionL ?_
  refine TL.gets (Wants.none rfl) rfl (Gets.loadN rfl agg27 size27 rfl (vs := [Value.int .i64 1, Value.int .i64 t, Value.int .i64 f, Value.int .i64 l, Value.slice A m c]) (by simp []) (Row.all (i := 1) (ent := ⟨g1, 27, [Value.int .i64 1, Value.int .i64 t, Value.int .i64 f, Value.int .i64 l, Value.slice A m c], 5⟩) rfl rfl rfl)) ?_
  refine TL.gets (Wants.none rfl) rfl (Gets.loadN rfl agg37 size37 rfl (vs := [Value.int .i64 p, Value.int .i64 n]) (by simp []) (Row.all (i := 0) (ent := ⟨g2, 37, [Value.int .i64 p, Value.int .i64 n], 2⟩) rfl rfl rfl)) ?_
  refine TL.call0 (Wants.none rfl) rfl enters22 rfl rfl (v := .tuple #[.agg ([Value.int .i64 0, Value.int .i64 0, Value.int .i64 0, Value.int .i64 0, Value.slice none 0 0]).toArray, .bool false]) (fun w hs => part_out1 t f l A m c p n hp hl hm ht hf hn hi w) ?_
  refine TL.gets (Wants.none rfl) rfl (Gets.move rfl rfl) ?_
  refine TL.gets (Wants.none rfl) rfl (Gets.extract rfl rfl rfl) ?_
  refine TL.gets (Wants.none rfl) rfl (Gets.extract rfl rfl rfl) ?_
  refine TL.alloc (Wants.none rfl) rfl rfl zero27 (cs := [Value.int .i64 0, Value.int .i64 0, Value.int .i64 0, Value.int .i64 0, Value.slice none 0 0]) rfl (tot := 5) (by simp) (fun g3 hg3 => ?_)
  refine TL.storeW (Wants.none rfl) rfl rfl size27 rfl (vs := [Value.int .i64 0, Value.int .i64 0, Value.int .i64 0, Value.int .i64 0, Value.slice none 0 0]) rfl (by simp []) (by simp [Value.oneCell']) (i := 0) (ent := ⟨g3, 27, [Value.int .i64 0, Value.int .i64 0, Value.int .i64 0, Value.int .i64 0, Value.slice none 0 0], 5⟩) rfl rfl (by simp []) (H' := [⟨g3, 27, [Value.int .i64 0, Value.int .i64 0, Value.int .i64 0, Value.int .i64 0, Value.slice none 0 0], 5⟩, ⟨g2, 37, [Value.int .i64 p, Value.int .i64 n], 2⟩, ⟨g1, 27, [Value.int .i64 1, Value.int .i64 t, Value.int .i64 f, Value.int .i64 l, Value.slice A m c], 5⟩]) rfl ?_
  refine TL.gets (Wants.none rfl) rfl (Gets.assign rfl rfl) ?_
  refine TL.nil ?_
  refine TE.then ?_
  refine TC.sub (Sub.cons (i := 2) rfl (Sub.cons (i := 3) rfl (Sub.cons (i := 4) rfl (Sub.cons (i := 5) rfl (Sub.cons (i := 6) rfl (Sub.nil)))))) ?_
  refine TC.seq ?_
  refine TC.regionL ?_
  refine TL.gets (Wants.none rfl) rfl (Gets.loadN rfl agg27 size27 rfl (vs := [Value.int .i64 1, Value.int .i64 t, Value.int .i64 f, Value.int .i64 l, Value.slice A m c]) (by simp []) (Row.all (i := 2) (ent := ⟨g1, 27, [Value.int .i64 1, Value.int .i64 t, Value.int .i64 f, Value.int .i64 l, Value.slice A m c], 5⟩) rfl rfl rfl)) ?_
  refine TL.call0 (Wants.none rfl) rfl enters18 rfl rfl (v := .agg ([Value.int .i64 t, Value.int .i64 l]).toArray) (fun w hs => rtarget1 t f l A m c w) ?_
  refine TL.alloc (Wants.none rfl) rfl rfl zero37 (cs := [Value.int .i64 0, Value.int .i64 0]) rfl (tot := 2) (by simp) (fun g4 hg4 => ?_)
  refine TL.storeW (Wants.none rfl) rfl rfl size37 rfl (vs := [Value.int .i64 t, Value.int .i64 l]) rfl (by simp []) (by simp [Value.oneCell']) (i := 0) (ent := ⟨g4, 37, [Value.int .i64 0, Value.int .i64 0], 2⟩) rfl rfl (by simp []) (H' := [⟨g4, 37, [Value.int .i64 t, Value.int .i64 l], 2⟩, ⟨g3, 27, [Value.int .i64 0, Value.int .i64 0, Value.int .i64 0, Value.int .i64 0, Value.slice none 0 0], 5⟩, ⟨g2, 37, [Value.int .i64 p, Value.int .i64 n], 2⟩, ⟨g1, 27, [Value.int .i64 1, Value.int .i64 t, Value.int .i64 f, Value.int .i64 l, Value.slice A m c], 5⟩]) rfl ?_
  refine TL.nil ?_
  refine TE.then ?_
  refine TC.seq ?_
  refine TC.seq ?_
  refine TC.regionL ?_
  refine TL.gets (Wants.none rfl) rfl (Gets.fieldAddr rfl Try.underlying37 rfl size3 rfl (off' := 1) (by first | rfl | omega)) ?_
  refine TL.gets (Wants.none rfl) rfl (Gets.load1 rfl agg3 rfl (At.ent (i := 2) (ent := ⟨g2, 37, [Value.int .i64 p, Value.int .i64 n], 2⟩) (off := 1) rfl rfl (by exact rfl))) ?_
  refine TL.gets (Wants.none rfl) rfl (Gets.isFalse (Gets.eql rfl rfl rfl) hn) ?_
  refine TL.gets (Wants.none rfl) rfl (Gets.move rfl rfl) ?_
  refine TL.gets (Wants.yes rfl rfl rfl) rfl (Gets.fieldAddr rfl Try.underlying37 rfl size3 rfl (off' := 0) (by first | rfl | omega)) ?_
  refine TL.gets (Wants.yes rfl rfl rfl) rfl (Gets.load1 rfl agg3 rfl (At.ent (i := 2) (ent := ⟨g2, 37, [Value.int .i64 p, Value.int .i64 n], 2⟩) (off := 0) rfl rfl (by exact rfl))) ?_
  refine TL.gets (Wants.yes rfl rfl rfl) rfl (Gets.fieldAddr rfl Try.underlying37 rfl size3 rfl (off' := 0) (by first | rfl | omega)) ?_
  refine TL.gets (Wants.yes rfl rfl rfl) rfl (Gets.load1 rfl agg3 rfl (At.ent (i := 0) (ent := ⟨g4, 37, [Value.int .i64 t, Value.int .i64 l], 2⟩) (off := 0) rfl rfl (by exact rfl))) ?_
  by_cases x1 : p < t
  · refine TL.gets (Wants.yes rfl rfl rfl) rfl (Gets.isTrue (Gets.lss rfl rfl rfl) x1) ?_
    refine TL.gets (Wants.none rfl) rfl (Gets.pickF rfl rfl rfl) ?_
    refine TL.gets (Wants.none rfl) rfl (Gets.move rfl rfl) ?_
    refine TL.pass rfl rfl rfl rfl rfl ?_
    refine TL.pass rfl rfl rfl rfl rfl ?_
    refine TL.pass rfl rfl rfl rfl rfl ?_
    refine TL.pass rfl rfl rfl rfl rfl ?_
    refine TL.pass rfl rfl rfl rfl rfl ?_
    refine TL.pass rfl rfl rfl rfl rfl ?_
    refine TL.pass rfl rfl rfl rfl rfl ?_
    refine TL.pass rfl rfl rfl rfl rfl ?_
    refine TL.pass rfl rfl rfl rfl rfl ?_
    refine TL.pass rfl rfl rfl rfl rfl ?_
    refine TL.pass rfl rfl rfl rfl rfl ?_
    refine TL.gets (Wants.none rfl) rfl (Gets.pickT rfl rfl rfl) ?_
    refine TL.nil ?_
    refine TE.then ?_
    refine TC.sub (Sub.cons (i := 2) rfl (Sub.cons (i := 3) rfl (Sub.cons (i := 4) rfl (Sub.cons (i := 5) rfl (Sub.cons (i := 6) rfl (Sub.cons (i := 47) rfl (Sub.nil))))))) ?_
    refine TC.yes rfl ?_
    refine TC.seq ?_
    refine TC.regionL ?_
    refine TL.call0 (Wants.none rfl) rfl enters9 rfl rfl (v := .bool true) (fun w hs => alive_c w) ?_
    refine TL.gets (Wants.none rfl) rfl (Gets.move rfl rfl) ?_
    refine TL.gets (Wants.yes rfl rfl rfl) rfl (Gets.move rfl rfl) ?_
    refine TL.gets (Wants.yes rfl rfl rfl) rfl (Gets.not rfl rfl) ?_
    refine TL.gets (Wants.none rfl) rfl (Gets.pickT rfl rfl rfl) ?_
    refine TL.gets (Wants.none rfl) rfl (Gets.move rfl rfl) ?_
    refine TL.gets (Wants.yes rfl rfl rfl) rfl (Gets.loadN rfl agg27 size27 rfl (vs := [Value.int .i64 0, Value.int .i64 0, Value.int .i64 0, Value.int .i64 0, Value.slice none 0 0]) (by simp []) (Row.all (i := 1) (ent := ⟨g3, 27, [Value.int .i64 0, Value.int .i64 0, Value.int .i64 0, Value.int .i64 0, Value.slice none 0 0], 5⟩) rfl rfl rfl)) ?_
    refine TL.gets (Wants.yes rfl rfl rfl) rfl (Gets.build rfl (vs := []) rfl (fun w => by first | rfl | kernel_rfl) (v := .agg ([Value.int .i64 0, Value.int .i64 0, Value.int .i64 0, Value.int .i64 0, Value.slice none 0 0]).toArray)) ?_
    refine TL.call0 (Wants.yes rfl rfl rfl) rfl enters12 rfl rfl (v := .bool true) (fun w hs => (rsame_c 0 0 0 0 0 0 0 0 none none 0 0 0 0 ([] : List Int) ([] : List Int) bytes_no bytes_no w src_no src_no).mono fun e w' h => by rw [decide_eq_true (p := sameP 0 0 0 0 0 0 0 0 ([] : List Int) ([] : List Int)) (⟨rfl, rfl, rfl, rfl, rfl⟩)] at h; exact h) ?_
    refine TL.gets (Wants.none rfl) rfl (Gets.pickT rfl rfl rfl) ?_
    refine TL.gets (Wants.none rfl) rfl (Gets.assign rfl rfl) ?_
    refine TL.nil ?_
    refine TE.then ?_
    refine TC.ret ?_
    refine TE.thenR ?_
    exact TE.ret1 rfl rfl (fun w hs => ⟨rfl, ((((hs.drop (by assumption)).drop (by assumption)).drop (by assumption)).drop (by assumption))⟩)
  · refine TL.gets (Wants.yes rfl rfl rfl) rfl (Gets.isFalse (Gets.lss rfl rfl rfl) x1) ?_
    refine TL.gets (Wants.none rfl) rfl (Gets.pickF rfl rfl rfl) ?_
    refine TL.gets (Wants.none rfl) rfl (Gets.move rfl rfl) ?_
    refine TL.gets (Wants.yes rfl rfl rfl) rfl (Gets.fieldAddr rfl Try.underlying37 rfl size3 rfl (off' := 0) (by first | rfl | omega)) ?_
    refine TL.gets (Wants.yes rfl rfl rfl) rfl (Gets.load1 rfl agg3 rfl (At.ent (i := 2) (ent := ⟨g2, 37, [Value.int .i64 p, Value.int .i64 n], 2⟩) (off := 0) rfl rfl (by exact rfl))) ?_
    refine TL.gets (Wants.yes rfl rfl rfl) rfl (Gets.fieldAddr rfl Try.underlying37 rfl size3 rfl (off' := 1) (by first | rfl | omega)) ?_
    refine TL.gets (Wants.yes rfl rfl rfl) rfl (Gets.load1 rfl agg3 rfl (At.ent (i := 2) (ent := ⟨g2, 37, [Value.int .i64 p, Value.int .i64 n], 2⟩) (off := 1) rfl rfl (by exact rfl))) ?_
    refine TL.gets (Wants.yes rfl rfl rfl) rfl (Gets.add rfl rfl rfl (r := (p + n)) (w64 (by omega) (by omega))) ?_
    refine TL.gets (Wants.yes rfl rfl rfl) rfl (Gets.fieldAddr rfl Try.underlying37 rfl size3 rfl (off' := 0) (by first | rfl | omega)) ?_
    refine TL.gets (Wants.yes rfl rfl rfl) rfl (Gets.load1 rfl agg3 rfl (At.ent (i := 0) (ent := ⟨g4, 37, [Value.int .i64 t, Value.int .i64 l], 2⟩) (off := 0) rfl rfl (by exact rfl))) ?_
    refine TL.gets (Wants.yes rfl rfl rfl) rfl (Gets.fieldAddr rfl Try.underlying37 rfl size3 rfl (off' := 1) (by first | rfl | omega)) ?_
    refine TL.gets (Wants.yes rfl rfl rfl) rfl (Gets.load1 rfl agg3 rfl (At.ent (i := 0) (ent := ⟨g4, 37, [Value.int .i64 t, Value.int .i64 l], 2⟩) (off := 1) rfl rfl (by exact rfl))) ?_
    refine TL.gets (Wants.yes rfl rfl rfl) rfl (Gets.add rfl rfl rfl (r := (t + l)) (w64 (by omega) (by omega))) ?_
    by_cases x2 : (t + l) < (p + n)
    · refine TL.gets (Wants.yes rfl rfl rfl) rfl (Gets.isTrue (Gets.gtr rfl rfl rfl) x2) ?_
      refine TL.gets (Wants.none rfl) rfl (Gets.pickF rfl rfl rfl) ?_
      refine TL.nil ?_
      refine TE.then ?_
      refine TC.sub (Sub.cons (i := 2) rfl (Sub.cons (i := 3) rfl (Sub.cons (i := 4) rfl (Sub.cons (i := 5) rfl (Sub.cons (i := 6) rfl (Sub.cons (i := 47) rfl (Sub.nil))))))) ?_
      refine TC.yes rfl ?_
      refine TC.seq ?_
      refine TC.regionL ?_
      refine TL.call0 (Wants.none rfl) rfl enters9 rfl rfl (v := .bool true) (fun w hs => alive_c w) ?_
      refine TL.gets (Wants.none rfl) rfl (Gets.move rfl rfl) ?_
      refine TL.gets (Wants.yes rfl rfl rfl) rfl (Gets.move rfl rfl) ?_
      refine TL.gets (Wants.yes rfl rfl rfl) rfl (Gets.not rfl rfl) ?_
      refine TL.gets (Wants.none rfl) rfl (Gets.pickT rfl rfl rfl) ?_
      refine TL.gets (Wants.none rfl) rfl (Gets.move rfl rfl) ?_
      refine TL.gets (Wants.yes rfl rfl rfl) rfl (Gets.loadN rfl agg27 size27 rfl (vs := [Value.int .i64 0, Value.int .i64 0, Value.int .i64 0, Value.int .i64 0, Value.slice none 0 0]) (by simp []) (Row.all (i := 1) (ent := ⟨g3, 27, [Value.int .i64 0, Value.int .i64 0, Value.int .i64 0, Value.int .i64 0, Value.slice none 0 0], 5⟩) rfl rfl rfl)) ?_
      refine TL.gets (Wants.yes rfl rfl rfl) rfl (Gets.build rfl (vs := []) rfl (fun w => by first | rfl | kernel_rfl) (v := .agg ([Value.int .i64 0, Value.int .i64 0, Value.int .i64 0, Value.int .i64 0, Value.slice none 0 0]).toArray)) ?_
      refine TL.call0 (Wants.yes rfl rfl rfl) rfl enters12 rfl rfl (v := .bool true) (fun w hs => (rsame_c 0 0 0 0 0 0 0 0 none none 0 0 0 0 ([] : List Int) ([] : List Int) bytes_no bytes_no w src_no src_no).mono fun e w' h => by rw [decide_eq_true (p := sameP 0 0 0 0 0 0 0 0 ([] : List Int) ([] : List Int)) (⟨rfl, rfl, rfl, rfl, rfl⟩)] at h; exact h) ?_
      refine TL.gets (Wants.none rfl) rfl (Gets.pickT rfl rfl rfl) ?_
      refine TL.gets (Wants.none rfl) rfl (Gets.assign rfl rfl) ?_
      refine TL.nil ?_
      refine TE.then ?_
      refine TC.ret ?_
      refine TE.thenR ?_
      exact TE.ret1 rfl rfl (fun w hs => ⟨rfl, ((((hs.drop (by assumption)).drop (by assumption)).drop (by assumption)).drop (by assumption))⟩)
    · refine TL.gets (Wants.yes rfl rfl rfl) rfl (Gets.isFalse (Gets.gtr rfl rfl rfl) x2) ?_
      refine TL.gets (Wants.none rfl) rfl (Gets.pickF rfl rfl rfl) ?_
      refine TL.nil ?_
      refine TE.then ?_
      refine TC.sub (Sub.cons (i := 2) rfl (Sub.cons (i := 3) rfl (Sub.cons (i := 4) rfl (Sub.cons (i := 5) rfl (Sub.cons (i := 6) rfl (Sub.cons (i := 47) rfl (Sub.nil))))))) ?_
      refine TC.no rfl ?_
      refine TC.skip ?_
      refine TE.then ?_
      refine TC.seq ?_
      exfalso; unfold inside_ at hi; omega

set_option maxRecDepth 100000 in
set_option maxHeartbeats 1000000 in
theorem parts_zero2 (t : Int) (A : Option Addr) (m c : Nat) (p n : Int) (hp : vld p n) (h0 : 0 < m) (ht : vld t m) (hmr : m ≤ 9223372036854775807) (hn : n = 0) (w : World) : Calls Try.prog 6 #[.agg ([Value.int .i64 2, Value.int .i64 t, Value.int .i64 0, Value.int .i64 0, Value.slice A m c]).toArray, .agg ([Value.int .i64 p, Value.int .i64 n]).toArray] w fun e w' => e = .returned (.bool true) ∧ St w [] w' := by
  refine calls_from (args := [.agg ([Value.int .i64 2, Value.int .i64 t, Value.int .i64 0, Value.int .i64 0, Value.slice A m c]).toArray, .agg ([Value.int .i64 p, Value.int .i64 n]).toArray]) Try.func6 rfl Try.ntmps6 (by simp) ?_
  refine TC.sub (Sub.cons (i := 0) rfl (Sub.cons (i := 1) rfl (Sub.nil))) ?_
  refine TC.seq ?_
  have ht2 := ht
  have hp2 := hp
  unfold vld at ht2 hp2
  refine TC.regionL ?_
  refine TL.box (Wants.none rfl) rfl rfl rfl (cs := [Value.int .i64 2, Value.int .i64 t, Value.int .i64 0, Value.int .i64 0, Value.slice A m c]) (by simp [Value.cells]) (tot := 5) (by simp []) (fun g1 hg1 => ?_)
  refine TL.box (Wants.none rfl) rfl rfl rfl (cs := [Value.int .i64 p, Value.int .i64 n]) (by simp [Value.cells]) (tot := 2) (by simp []) (fun g2 hg2 => ?_)
  refine TL.gets (Wants.none rfl) rfl (Gets.assign rfl rfl) ?_
  refine TL.nil ?_
  refine TE.then ?_
  refine TC.seq ?_
  refine TC.seq ?_
  refine TC.regionL ?_
  refine TL.gets (Wants.none rfl) rfl (Gets.loadN rfl agg27 size27 rfl (vs := [Value.int .i64 2, Value.int .i64 t, Value.int .i64 0, Value.int .i64 0, Value.slice A m c]) (by simp []) (Row.all (i := 1) (ent := ⟨g1, 27, [Value.int .i64 2, Value.int .i64 t, Value.int .i64 0, Value.int .i64 0, Value.slice A m c], 5⟩) rfl rfl rfl)) ?_
  refine TL.call0 (Wants.none rfl) rfl enters14 rfl rfl (v := .int .i64 0) (fun w hs => (rcheck_c 2 t 0 0 A m c (by omega) (by omega) (by omega) (by omega) w).mono fun e w' h => by rw [(codeV2.2 ⟨by omega, rfl, rfl, ht⟩)] at h; exact h) ?_
  refine TL.gets (Wants.none rfl) rfl (Gets.isFalse (Gets.neq rfl rfl rfl) (by decide)) ?_
  refine TL.gets (Wants.none rfl) rfl (Gets.move rfl rfl) ?_
  refine TL.gets (Wants.yes rfl rfl rfl) rfl (Gets.loadN rfl agg37 size37 rfl (vs := [Value.int .i64 p, Value.int .i64 n]) (by simp []) (Row.all (i := 0) (ent := ⟨g2, 37, [Value.int .i64 p, Value.int .i64 n], 2⟩) rfl rfl rfl)) ?_
  refine TL.call0 (Wants.yes rfl rfl rfl) rfl enters21 rfl rfl (v := .bool true) (fun w hs => (rvalid_c p n (by omega) (by omega) w).mono fun e w' h => by rw [decide_eq_true (p := vld p n) hp] at h; exact h) ?_
  refine TL.gets (Wants.yes rfl rfl rfl) rfl (Gets.not rfl rfl) ?_
  refine TL.gets (Wants.none rfl) rfl (Gets.pickF rfl rfl rfl) ?_
  refine TL.nil ?_
  refine TE.then ?_
  refine TC.sub (Sub.cons (i := 2) rfl (Sub.cons (i := 3) rfl (Sub.cons (i := 4) rfl (Sub.cons (i := 15) rfl (Sub.nil))))) ?_
  refine TC.no rfl ?_
  refine TC.skip ?_
  refine TE.then ?_
  refine TC.seq ?_
  refine TC.regionL ?_
  refine TL.gets (Wants.none rfl) rfl (Gets.loadN rfl agg27 size27 rfl (vs := [Value.int .i64 2, Value.int .i64 t, Value.int .i64 0, Value.int .i64 0, Value.slice A m c]) (by simp []) (Row.all (i := 1) (ent := ⟨g1, 27, [Value.int .i64 2, Value.int .i64 t, Value.int .i64 0, Value.int .i64 0, Value.slice A m c], 5⟩) rfl rfl rfl)) ?_
  refine TL.gets (Wants.none rfl) rfl (Gets.loadN rfl agg37 size37 rfl (vs := [Value.int .i64 p, Value.int .i64 n]) (by simp []) (Row.all (i := 0) (ent := ⟨g2, 37, [Value.int .i64 p, Value.int .i64 n], 2⟩) rfl rfl rfl)) ?_
  refine TL.call0 (Wants.none rfl) rfl enters22 rfl rfl (v := .tuple #[.agg ([Value.int .i64 0, Value.int .i64 0, Value.int .i64 0, Value.int .i64 0, Value.slice none 0 0]).toArray, .bool false]) (fun w hs => part_zero2 t A m c p n hp h0 ht hmr hn w) ?_
  refine TL.gets (Wants.none rfl) rfl (Gets.move rfl rfl) ?_
  refine TL.gets (Wants.none rfl) rfl (Gets.extract rfl rfl rfl) ?_
  refine TL.gets (Wants.none rfl) rfl (Gets.extract rfl rfl rfl) ?_
  refine TL.alloc (Wants.none rfl) rfl rfl zero27 (cs := [Value.int .i64 0, Value.int .i64 0, Value.int .i64 0, Value.int .i64 0, Value.slice none 0 0]) rfl (tot := 5) (by simp) (fun g3 hg3 => ?_)
  refine TL.storeW (Wants.none rfl) rfl rfl size27 rfl (vs := [Value.int .i64 0, Value.int .i64 0, Value.int .i64 0, Value.int .i64 0, Value.slice none 0 0]) rfl (by simp []) (by simp [Value.oneCell']) (i := 0) (ent := ⟨g3, 27, [Value.int .i64 0, Value.int .i64 0, Value.int .i64 0, Value.int .i64 0, Value.slice none 0 0], 5⟩) rfl rfl (by simp []) (H' := [⟨g3, 27, [Value.int .i64 0, Value.int .i64 0, Value.int .i64 0, Value.int .i64 0, Value.slice none 0 0], 5⟩, ⟨g2, 37, [Value.int .i64 p, Value.int .i64 n], 2⟩, ⟨g1, 27, [Value.int .i64 2, Value.int .i64 t, Value.int .i64 0, Value.int .i64 0, Value.slice A m c], 5⟩]) rfl ?_
  refine TL.gets (Wants.none rfl) rfl (Gets.assign rfl rfl) ?_
  refine TL.nil ?_
  refine TE.then ?_
  refine TC.sub (Sub.cons (i := 2) rfl (Sub.cons (i := 3) rfl (Sub.cons (i := 4) rfl (Sub.cons (i := 5) rfl (Sub.cons (i := 6) rfl (Sub.nil)))))) ?_
  refine TC.seq ?_
  refine TC.regionL ?_
  refine TL.gets (Wants.none rfl) rfl (Gets.loadN rfl agg27 size27 rfl (vs := [Value.int .i64 2, Value.int .i64 t, Value.int .i64 0, Value.int .i64 0, Value.slice A m c]) (by simp []) (Row.all (i := 2) (ent := ⟨g1, 27, [Value.int .i64 2, Value.int .i64 t, Value.int .i64 0, Value.int .i64 0, Value.slice A m c], 5⟩) rfl rfl rfl)) ?_
  refine TL.call0 (Wants.none rfl) rfl enters18 rfl rfl (v := .agg ([Value.int .i64 t, Value.int .i64 (m : Int)]).toArray) (fun w hs => rtarget2 2 t 0 0 A m c (by omega) w) ?_
  refine TL.alloc (Wants.none rfl) rfl rfl zero37 (cs := [Value.int .i64 0, Value.int .i64 0]) rfl (tot := 2) (by simp) (fun g4 hg4 => ?_)
  refine TL.storeW (Wants.none rfl) rfl rfl size37 rfl (vs := [Value.int .i64 t, Value.int .i64 (m : Int)]) rfl (by simp []) (by simp [Value.oneCell']) (i := 0) (ent := ⟨g4, 37, [Value.int .i64 0, Value.int .i64 0], 2⟩) rfl rfl (by simp []) (H' := [⟨g4, 37, [Value.int .i64 t, Value.int .i64 (m : Int)], 2⟩, ⟨g3, 27, [Value.int .i64 0, Value.int .i64 0, Value.int .i64 0, Value.int .i64 0, Value.slice none 0 0], 5⟩, ⟨g2, 37, [Value.int .i64 p, Value.int .i64 n], 2⟩, ⟨g1, 27, [Value.int .i64 2, Value.int .i64 t, Value.int .i64 0, Value.int .i64 0, Value.slice A m c], 5⟩]) rfl ?_
  refine TL.nil ?_
  refine TE.then ?_
  refine TC.seq ?_
  refine TC.seq ?_
  refine TC.regionL ?_
  refine TL.gets (Wants.none rfl) rfl (Gets.fieldAddr rfl Try.underlying37 rfl size3 rfl (off' := 1) (by first | rfl | omega)) ?_
  refine TL.gets (Wants.none rfl) rfl (Gets.load1 rfl agg3 rfl (At.ent (i := 2) (ent := ⟨g2, 37, [Value.int .i64 p, Value.int .i64 n], 2⟩) (off := 1) rfl rfl (by exact rfl))) ?_
  refine TL.gets (Wants.none rfl) rfl (Gets.isTrue (Gets.eql rfl rfl rfl) hn) ?_
  refine TL.gets (Wants.none rfl) rfl (Gets.move rfl rfl) ?_
  refine TL.pass rfl rfl rfl rfl rfl ?_
  refine TL.pass rfl rfl rfl rfl rfl ?_
  refine TL.pass rfl rfl rfl rfl rfl ?_
  refine TL.pass rfl rfl rfl rfl rfl ?_
  refine TL.pass rfl rfl rfl rfl rfl ?_
  refine TL.gets (Wants.none rfl) rfl (Gets.pickT rfl rfl rfl) ?_
  refine TL.gets (Wants.none rfl) rfl (Gets.move rfl rfl) ?_
  refine TL.pass rfl rfl rfl rfl rfl ?_
  refine TL.pass rfl rfl rfl rfl rfl ?_
  refine TL.pass rfl rfl rfl rfl rfl ?_
  refine TL.pass rfl rfl rfl rfl rfl ?_
  refine TL.pass rfl rfl rfl rfl rfl ?_
  refine TL.pass rfl rfl rfl rfl rfl ?_
  refine TL.pass rfl rfl rfl rfl rfl ?_
  refine TL.pass rfl rfl rfl rfl rfl ?_
  refine TL.pass rfl rfl rfl rfl rfl ?_
  refine TL.pass rfl rfl rfl rfl rfl ?_
  refine TL.pass rfl rfl rfl rfl rfl ?_
  refine TL.gets (Wants.none rfl) rfl (Gets.pickT rfl rfl rfl) ?_
  refine TL.nil ?_
  refine TE.then ?_
  refine TC.sub (Sub.cons (i := 2) rfl (Sub.cons (i := 3) rfl (Sub.cons (i := 4) rfl (Sub.cons (i := 5) rfl (Sub.cons (i := 6) rfl (Sub.cons (i := 47) rfl (Sub.nil))))))) ?_
  refine TC.yes rfl ?_
  refine TC.seq ?_
  refine TC.regionL ?_
  refine TL.call0 (Wants.none rfl) rfl enters9 rfl rfl (v := .bool true) (fun w hs => alive_c w) ?_
  refine TL.gets (Wants.none rfl) rfl (Gets.move rfl rfl) ?_
  refine TL.gets (Wants.yes rfl rfl rfl) rfl (Gets.move rfl rfl) ?_
  refine TL.gets (Wants.yes rfl rfl rfl) rfl (Gets.not rfl rfl) ?_
  refine TL.gets (Wants.none rfl) rfl (Gets.pickT rfl rfl rfl) ?_
  refine TL.gets (Wants.none rfl) rfl (Gets.move rfl rfl) ?_
  refine TL.gets (Wants.yes rfl rfl rfl) rfl (Gets.loadN rfl agg27 size27 rfl (vs := [Value.int .i64 0, Value.int .i64 0, Value.int .i64 0, Value.int .i64 0, Value.slice none 0 0]) (by simp []) (Row.all (i := 1) (ent := ⟨g3, 27, [Value.int .i64 0, Value.int .i64 0, Value.int .i64 0, Value.int .i64 0, Value.slice none 0 0], 5⟩) rfl rfl rfl)) ?_
  refine TL.gets (Wants.yes rfl rfl rfl) rfl (Gets.build rfl (vs := []) rfl (fun w => by first | rfl | kernel_rfl) (v := .agg ([Value.int .i64 0, Value.int .i64 0, Value.int .i64 0, Value.int .i64 0, Value.slice none 0 0]).toArray)) ?_
  refine TL.call0 (Wants.yes rfl rfl rfl) rfl enters12 rfl rfl (v := .bool true) (fun w hs => (rsame_c 0 0 0 0 0 0 0 0 none none 0 0 0 0 ([] : List Int) ([] : List Int) bytes_no bytes_no w src_no src_no).mono fun e w' h => by rw [decide_eq_true (p := sameP 0 0 0 0 0 0 0 0 ([] : List Int) ([] : List Int)) (⟨rfl, rfl, rfl, rfl, rfl⟩)] at h; exact h) ?_
  refine TL.gets (Wants.none rfl) rfl (Gets.pickT rfl rfl rfl) ?_
  refine TL.gets (Wants.none rfl) rfl (Gets.assign rfl rfl) ?_
  refine TL.nil ?_
  refine TE.then ?_
  refine TC.ret ?_
  refine TE.thenR ?_
  exact TE.ret1 rfl rfl (fun w hs => ⟨rfl, ((((hs.drop (by assumption)).drop (by assumption)).drop (by assumption)).drop (by assumption))⟩)

set_option maxRecDepth 100000 in
set_option maxHeartbeats 1000000 in
theorem parts_out2 (t : Int) (A : Option Addr) (m c : Nat) (p n : Int) (hp : vld p n) (h0 : 0 < m) (ht : vld t m) (hmr : m ≤ 9223372036854775807) (hn : ¬ n = 0) (hi : ¬ inside_ t (m : Int) p n) (w : World) : Calls Try.prog 6 #[.agg ([Value.int .i64 2, Value.int .i64 t, Value.int .i64 0, Value.int .i64 0, Value.slice A m c]).toArray, .agg ([Value.int .i64 p, Value.int .i64 n]).toArray] w fun e w' => e = .returned (.bool true) ∧ St w [] w' := by
  refine calls_from (args := [.agg ([Value.int .i64 2, Value.int .i64 t, Value.int .i64 0, Value.int .i64 0, Value.slice A m c]).toArray, .agg ([Value.int .i64 p, Value.int .i64 n]).toArray]) Try.func6 rfl Try.ntmps6 (by simp) ?_
  refine TC.sub (Sub.cons (i := 0) rfl (Sub.cons (i := 1) rfl (Sub.nil))) ?_
  refine TC.seq ?_
  have ht2 := ht
  have hp2 := hp
  unfold vld at ht2 hp2
  refine TC.regionL ?_
  refine TL.box (Wants.none rfl) rfl rfl rfl (cs := [Value.int .i64 2, Value.int .i64 t, Value.int .i64 0, Value.int .i64 0, Value.slice A m c]) (by simp [Value.cells]) (tot := 5) (by simp []) (fun g1 hg1 => ?_)
  refine TL.box (Wants.none rfl) rfl rfl rfl (cs := [Value.int .i64 p, Value.int .i64 n]) (by simp [Value.cells]) (tot := 2) (by simp []) (fun g2 hg2 => ?_)
  refine TL.gets (Wants.none rfl) rfl (Gets.assign rfl rfl) ?_
  refine TL.nil ?_
  refine TE.then ?_
  refine TC.seq ?_
  refine TC.seq ?_
  refine TC.regionL ?_
  refine TL.gets (Wants.none rfl) rfl (Gets.loadN rfl agg27 size27 rfl (vs := [Value.int .i64 2, Value.int .i64 t, Value.int .i64 0, Value.int .i64 0, Value.slice A m c]) (by simp []) (Row.all (i := 1) (ent := ⟨g1, 27, [Value.int .i64 2, Value.int .i64 t, Value.int .i64 0, Value.int .i64 0, Value.slice A m c], 5⟩) rfl rfl rfl)) ?_
  refine TL.call0 (Wants.none rfl) rfl enters14 rfl rfl (v := .int .i64 0) (fun w hs => (rcheck_c 2 t 0 0 A m c (by omega) (by omega) (by omega) (by omega) w).mono fun e w' h => by rw [(codeV2.2 ⟨by omega, rfl, rfl, ht⟩)] at h; exact h) ?_
  refine TL.gets (Wants.none rfl) rfl (Gets.isFalse (Gets.neq rfl rfl rfl) (by decide)) ?_
  refine TL.gets (Wants.none rfl) rfl (Gets.move rfl rfl) ?_
  refine TL.gets (Wants.yes rfl rfl rfl) rfl (Gets.loadN rfl agg37 size37 rfl (vs := [Value.int .i64 p, Value.int .i64 n]) (by simp []) (Row.all (i := 0) (ent := ⟨g2, 37, [Value.int .i64 p, Value.int .i64 n], 2⟩) rfl rfl rfl)) ?_
  refine TL.call0 (Wants.yes rfl rfl rfl) rfl enters21 rfl rfl (v := .bool true) (fun w hs => (rvalid_c p n (by omega) (by omega) w).mono fun e w' h => by rw [decide_eq_true (p := vld p n) hp] at h; exact h) ?_
  refine TL.gets (Wants.yes rfl rfl rfl) rfl (Gets.not rfl rfl) ?_
  refine TL.gets (Wants.none rfl) rfl (Gets.pickF rfl rfl rfl) ?_
  refine TL.nil ?_
  refine TE.then ?_
  refine TC.sub (Sub.cons (i := 2) rfl (Sub.cons (i := 3) rfl (Sub.cons (i := 4) rfl (Sub.cons (i := 15) rfl (Sub.nil))))) ?_
  refine TC.no rfl ?_
  refine TC.skip ?_
  refine TE.then ?_
  refine TC.seq ?_
  refine TC.regionL ?_
  refine TL.gets (Wants.none rfl) rfl (Gets.loadN rfl agg27 size27 rfl (vs := [Value.int .i64 2, Value.int .i64 t, Value.int .i64 0, Value.int .i64 0, Value.slice A m c]) (by simp []) (Row.all (i := 1) (ent := ⟨g1, 27, [Value.int .i64 2, Value.int .i64 t, Value.int .i64 0, Value.int .i64 0, Value.slice A m c], 5⟩) rfl rfl rfl)) ?_
  refine TL.gets (Wants.none rfl) rfl (Gets.loadN rfl agg37 size37 rfl (vs := [Value.int .i64 p, Value.int .i64 n]) (by simp []) (Row.all (i := 0) (ent := ⟨g2, 37, [Value.int .i64 p, Value.int .i64 n], 2⟩) rfl rfl rfl)) ?_
  refine TL.call0 (Wants.none rfl) rfl enters22 rfl rfl (v := .tuple #[.agg ([Value.int .i64 0, Value.int .i64 0, Value.int .i64 0, Value.int .i64 0, Value.slice none 0 0]).toArray, .bool false]) (fun w hs => part_out2 t A m c p n hp h0 ht hmr hn hi w) ?_
  refine TL.gets (Wants.none rfl) rfl (Gets.move rfl rfl) ?_
  refine TL.gets (Wants.none rfl) rfl (Gets.extract rfl rfl rfl) ?_
  refine TL.gets (Wants.none rfl) rfl (Gets.extract rfl rfl rfl) ?_
  refine TL.alloc (Wants.none rfl) rfl rfl zero27 (cs := [Value.int .i64 0, Value.int .i64 0, Value.int .i64 0, Value.int .i64 0, Value.slice none 0 0]) rfl (tot := 5) (by simp) (fun g3 hg3 => ?_)
  refine TL.storeW (Wants.none rfl) rfl rfl size27 rfl (vs := [Value.int .i64 0, Value.int .i64 0, Value.int .i64 0, Value.int .i64 0, Value.slice none 0 0]) rfl (by simp []) (by simp [Value.oneCell']) (i := 0) (ent := ⟨g3, 27, [Value.int .i64 0, Value.int .i64 0, Value.int .i64 0, Value.int .i64 0, Value.slice none 0 0], 5⟩) rfl rfl (by simp []) (H' := [⟨g3, 27, [Value.int .i64 0, Value.int .i64 0, Value.int .i64 0, Value.int .i64 0, Value.slice none 0 0], 5⟩, ⟨g2, 37, [Value.int .i64 p, Value.int .i64 n], 2⟩, ⟨g1, 27, [Value.int .i64 2, Value.int .i64 t, Value.int .i64 0, Value.int .i64 0, Value.slice A m c], 5⟩]) rfl ?_
  refine TL.gets (Wants.none rfl) rfl (Gets.assign rfl rfl) ?_
  refine TL.nil ?_
  refine TE.then ?_
  refine TC.sub (Sub.cons (i := 2) rfl (Sub.cons (i := 3) rfl (Sub.cons (i := 4) rfl (Sub.cons (i := 5) rfl (Sub.cons (i := 6) rfl (Sub.nil)))))) ?_
  refine TC.seq ?_
  refine TC.regionL ?_
  refine TL.gets (Wants.none rfl) rfl (Gets.loadN rfl agg27 size27 rfl (vs := [Value.int .i64 2, Value.int .i64 t, Value.int .i64 0, Value.int .i64 0, Value.slice A m c]) (by simp []) (Row.all (i := 2) (ent := ⟨g1, 27, [Value.int .i64 2, Value.int .i64 t, Value.int .i64 0, Value.int .i64 0, Value.slice A m c], 5⟩) rfl rfl rfl)) ?_
  refine TL.call0 (Wants.none rfl) rfl enters18 rfl rfl (v := .agg ([Value.int .i64 t, Value.int .i64 (m : Int)]).toArray) (fun w hs => rtarget2 2 t 0 0 A m c (by omega) w) ?_
  refine TL.alloc (Wants.none rfl) rfl rfl zero37 (cs := [Value.int .i64 0, Value.int .i64 0]) rfl (tot := 2) (by simp) (fun g4 hg4 => ?_)
  refine TL.storeW (Wants.none rfl) rfl rfl size37 rfl (vs := [Value.int .i64 t, Value.int .i64 (m : Int)]) rfl (by simp []) (by simp [Value.oneCell']) (i := 0) (ent := ⟨g4, 37, [Value.int .i64 0, Value.int .i64 0], 2⟩) rfl rfl (by simp []) (H' := [⟨g4, 37, [Value.int .i64 t, Value.int .i64 (m : Int)], 2⟩, ⟨g3, 27, [Value.int .i64 0, Value.int .i64 0, Value.int .i64 0, Value.int .i64 0, Value.slice none 0 0], 5⟩, ⟨g2, 37, [Value.int .i64 p, Value.int .i64 n], 2⟩, ⟨g1, 27, [Value.int .i64 2, Value.int .i64 t, Value.int .i64 0, Value.int .i64 0, Value.slice A m c], 5⟩]) rfl ?_
  refine TL.nil ?_
  refine TE.then ?_
  refine TC.seq ?_
  refine TC.seq ?_
  refine TC.regionL ?_
  refine TL.gets (Wants.none rfl) rfl (Gets.fieldAddr rfl Try.underlying37 rfl size3 rfl (off' := 1) (by first | rfl | omega)) ?_
  refine TL.gets (Wants.none rfl) rfl (Gets.load1 rfl agg3 rfl (At.ent (i := 2) (ent := ⟨g2, 37, [Value.int .i64 p, Value.int .i64 n], 2⟩) (off := 1) rfl rfl (by exact rfl))) ?_
  refine TL.gets (Wants.none rfl) rfl (Gets.isFalse (Gets.eql rfl rfl rfl) hn) ?_
  refine TL.gets (Wants.none rfl) rfl (Gets.move rfl rfl) ?_
  refine TL.gets (Wants.yes rfl rfl rfl) rfl (Gets.fieldAddr rfl Try.underlying37 rfl size3 rfl (off' := 0) (by first | rfl | omega)) ?_
  refine TL.gets (Wants.yes rfl rfl rfl) rfl (Gets.load1 rfl agg3 rfl (At.ent (i := 2) (ent := ⟨g2, 37, [Value.int .i64 p, Value.int .i64 n], 2⟩) (off := 0) rfl rfl (by exact rfl))) ?_
  refine TL.gets (Wants.yes rfl rfl rfl) rfl (Gets.fieldAddr rfl Try.underlying37 rfl size3 rfl (off' := 0) (by first | rfl | omega)) ?_
  refine TL.gets (Wants.yes rfl rfl rfl) rfl (Gets.load1 rfl agg3 rfl (At.ent (i := 0) (ent := ⟨g4, 37, [Value.int .i64 t, Value.int .i64 (m : Int)], 2⟩) (off := 0) rfl rfl (by exact rfl))) ?_
  by_cases x1 : p < t
  · refine TL.gets (Wants.yes rfl rfl rfl) rfl (Gets.isTrue (Gets.lss rfl rfl rfl) x1) ?_
    refine TL.gets (Wants.none rfl) rfl (Gets.pickF rfl rfl rfl) ?_
    refine TL.gets (Wants.none rfl) rfl (Gets.move rfl rfl) ?_
    refine TL.pass rfl rfl rfl rfl rfl ?_
    refine TL.pass rfl rfl rfl rfl rfl ?_
    refine TL.pass rfl rfl rfl rfl rfl ?_
    refine TL.pass rfl rfl rfl rfl rfl ?_
    refine TL.pass rfl rfl rfl rfl rfl ?_
    refine TL.pass rfl rfl rfl rfl rfl ?_
    refine TL.pass rfl rfl rfl rfl rfl ?_
    refine TL.pass rfl rfl rfl rfl rfl ?_
    refine TL.pass rfl rfl rfl rfl rfl ?_
    refine TL.pass rfl rfl rfl rfl rfl ?_
    refine TL.pass rfl rfl rfl rfl rfl ?_
    refine TL.gets (Wants.none rfl) rfl (Gets.pickT rfl rfl rfl) ?_
    refine TL.nil ?_
    refine TE.then ?_
    refine TC.sub (Sub.cons (i := 2) rfl (Sub.cons (i := 3) rfl (Sub.cons (i := 4) rfl (Sub.cons (i := 5) rfl (Sub.cons (i := 6) rfl (Sub.cons (i := 47) rfl (Sub.nil))))))) ?_
    refine TC.yes rfl ?_
    refine TC.seq ?_
    refine TC.regionL ?_
    refine TL.call0 (Wants.none rfl) rfl enters9 rfl rfl (v := .bool true) (fun w hs => alive_c w) ?_
    refine TL.gets (Wants.none rfl) rfl (Gets.move rfl rfl) ?_
    refine TL.gets (Wants.yes rfl rfl rfl) rfl (Gets.move rfl rfl) ?_
    refine TL.gets (Wants.yes rfl rfl rfl) rfl (Gets.not rfl rfl) ?_
    refine TL.gets (Wants.none rfl) rfl (Gets.pickT rfl rfl rfl) ?_
    refine TL.gets (Wants.none rfl) rfl (Gets.move rfl rfl) ?_
    refine TL.gets (Wants.yes rfl rfl rfl) rfl (Gets.loadN rfl agg27 size27 rfl (vs := [Value.int .i64 0, Value.int .i64 0, Value.int .i64 0, Value.int .i64 0, Value.slice none 0 0]) (by simp []) (Row.all (i := 1) (ent := ⟨g3, 27, [Value.int .i64 0, Value.int .i64 0, Value.int .i64 0, Value.int .i64 0, Value.slice none 0 0], 5⟩) rfl rfl rfl)) ?_
    refine TL.gets (Wants.yes rfl rfl rfl) rfl (Gets.build rfl (vs := []) rfl (fun w => by first | rfl | kernel_rfl) (v := .agg ([Value.int .i64 0, Value.int .i64 0, Value.int .i64 0, Value.int .i64 0, Value.slice none 0 0]).toArray)) ?_
    refine TL.call0 (Wants.yes rfl rfl rfl) rfl enters12 rfl rfl (v := .bool true) (fun w hs => (rsame_c 0 0 0 0 0 0 0 0 none none 0 0 0 0 ([] : List Int) ([] : List Int) bytes_no bytes_no w src_no src_no).mono fun e w' h => by rw [decide_eq_true (p := sameP 0 0 0 0 0 0 0 0 ([] : List Int) ([] : List Int)) (⟨rfl, rfl, rfl, rfl, rfl⟩)] at h; exact h) ?_
    refine TL.gets (Wants.none rfl) rfl (Gets.pickT rfl rfl rfl) ?_
    refine TL.gets (Wants.none rfl) rfl (Gets.assign rfl rfl) ?_
    refine TL.nil ?_
    refine TE.then ?_
    refine TC.ret ?_
    refine TE.thenR ?_
    exact TE.ret1 rfl rfl (fun w hs => ⟨rfl, ((((hs.drop (by assumption)).drop (by assumption)).drop (by assumption)).drop (by assumption))⟩)
  · refine TL.gets (Wants.yes rfl rfl rfl) rfl (Gets.isFalse (Gets.lss rfl rfl rfl) x1) ?_
    refine TL.gets (Wants.none rfl) rfl (Gets.pickF rfl rfl rfl) ?_
    refine TL.gets (Wants.none rfl) rfl (Gets.move rfl rfl) ?_
    refine TL.gets (Wants.yes rfl rfl rfl) rfl (Gets.fieldAddr rfl Try.underlying37 rfl size3 rfl (off' := 0) (by first | rfl | omega)) ?_
    refine TL.gets (Wants.yes rfl rfl rfl) rfl (Gets.load1 rfl agg3 rfl (At.ent (i := 2) (ent := ⟨g2, 37, [Value.int .i64 p, Value.int .i64 n], 2⟩) (off := 0) rfl rfl (by exact rfl))) ?_
    refine TL.gets (Wants.yes rfl rfl rfl) rfl (Gets.fieldAddr rfl Try.underlying37 rfl size3 rfl (off' := 1) (by first | rfl | omega)) ?_
    refine TL.gets (Wants.yes rfl rfl rfl) rfl (Gets.load1 rfl agg3 rfl (At.ent (i := 2) (ent := ⟨g2, 37, [Value.int .i64 p, Value.int .i64 n], 2⟩) (off := 1) rfl rfl (by exact rfl))) ?_
    refine TL.gets (Wants.yes rfl rfl rfl) rfl (Gets.add rfl rfl rfl (r := (p + n)) (w64 (by omega) (by omega))) ?_
    refine TL.gets (Wants.yes rfl rfl rfl) rfl (Gets.fieldAddr rfl Try.underlying37 rfl size3 rfl (off' := 0) (by first | rfl | omega)) ?_
    refine TL.gets (Wants.yes rfl rfl rfl) rfl (Gets.load1 rfl agg3 rfl (At.ent (i := 0) (ent := ⟨g4, 37, [Value.int .i64 t, Value.int .i64 (m : Int)], 2⟩) (off := 0) rfl rfl (by exact rfl))) ?_
    refine TL.gets (Wants.yes rfl rfl rfl) rfl (Gets.fieldAddr rfl Try.underlying37 rfl size3 rfl (off' := 1) (by first | rfl | omega)) ?_
    refine TL.gets (Wants.yes rfl rfl rfl) rfl (Gets.load1 rfl agg3 rfl (At.ent (i := 0) (ent := ⟨g4, 37, [Value.int .i64 t, Value.int .i64 (m : Int)], 2⟩) (off := 1) rfl rfl (by exact rfl))) ?_
    refine TL.gets (Wants.yes rfl rfl rfl) rfl (Gets.add rfl rfl rfl (r := (t + (m : Int))) (w64 (by omega) (by omega))) ?_
    by_cases x2 : (t + (m : Int)) < (p + n)
    · refine TL.gets (Wants.yes rfl rfl rfl) rfl (Gets.isTrue (Gets.gtr rfl rfl rfl) x2) ?_
      refine TL.gets (Wants.none rfl) rfl (Gets.pickF rfl rfl rfl) ?_
      refine TL.nil ?_
      refine TE.then ?_
      refine TC.sub (Sub.cons (i := 2) rfl (Sub.cons (i := 3) rfl (Sub.cons (i := 4) rfl (Sub.cons (i := 5) rfl (Sub.cons (i := 6) rfl (Sub.cons (i := 47) rfl (Sub.nil))))))) ?_
      refine TC.yes rfl ?_
      refine TC.seq ?_
      refine TC.regionL ?_
      refine TL.call0 (Wants.none rfl) rfl enters9 rfl rfl (v := .bool true) (fun w hs => alive_c w) ?_
      refine TL.gets (Wants.none rfl) rfl (Gets.move rfl rfl) ?_
      refine TL.gets (Wants.yes rfl rfl rfl) rfl (Gets.move rfl rfl) ?_
      refine TL.gets (Wants.yes rfl rfl rfl) rfl (Gets.not rfl rfl) ?_
      refine TL.gets (Wants.none rfl) rfl (Gets.pickT rfl rfl rfl) ?_
      refine TL.gets (Wants.none rfl) rfl (Gets.move rfl rfl) ?_
      refine TL.gets (Wants.yes rfl rfl rfl) rfl (Gets.loadN rfl agg27 size27 rfl (vs := [Value.int .i64 0, Value.int .i64 0, Value.int .i64 0, Value.int .i64 0, Value.slice none 0 0]) (by simp []) (Row.all (i := 1) (ent := ⟨g3, 27, [Value.int .i64 0, Value.int .i64 0, Value.int .i64 0, Value.int .i64 0, Value.slice none 0 0], 5⟩) rfl rfl rfl)) ?_
      refine TL.gets (Wants.yes rfl rfl rfl) rfl (Gets.build rfl (vs := []) rfl (fun w => by first | rfl | kernel_rfl) (v := .agg ([Value.int .i64 0, Value.int .i64 0, Value.int .i64 0, Value.int .i64 0, Value.slice none 0 0]).toArray)) ?_
      refine TL.call0 (Wants.yes rfl rfl rfl) rfl enters12 rfl rfl (v := .bool true) (fun w hs => (rsame_c 0 0 0 0 0 0 0 0 none none 0 0 0 0 ([] : List Int) ([] : List Int) bytes_no bytes_no w src_no src_no).mono fun e w' h => by rw [decide_eq_true (p := sameP 0 0 0 0 0 0 0 0 ([] : List Int) ([] : List Int)) (⟨rfl, rfl, rfl, rfl, rfl⟩)] at h; exact h) ?_
      refine TL.gets (Wants.none rfl) rfl (Gets.pickT rfl rfl rfl) ?_
      refine TL.gets (Wants.none rfl) rfl (Gets.assign rfl rfl) ?_
      refine TL.nil ?_
      refine TE.then ?_
      refine TC.ret ?_
      refine TE.thenR ?_
      exact TE.ret1 rfl rfl (fun w hs => ⟨rfl, ((((hs.drop (by assumption)).drop (by assumption)).drop (by assumption)).drop (by assumption))⟩)
    · refine TL.gets (Wants.yes rfl rfl rfl) rfl (Gets.isFalse (Gets.gtr rfl rfl rfl) x2) ?_
      refine TL.gets (Wants.none rfl) rfl (Gets.pickF rfl rfl rfl) ?_
      refine TL.nil ?_
      refine TE.then ?_
      refine TC.sub (Sub.cons (i := 2) rfl (Sub.cons (i := 3) rfl (Sub.cons (i := 4) rfl (Sub.cons (i := 5) rfl (Sub.cons (i := 6) rfl (Sub.cons (i := 47) rfl (Sub.nil))))))) ?_
      refine TC.no rfl ?_
      refine TC.skip ?_
      refine TE.then ?_
      refine TC.seq ?_
      exfalso; unfold inside_ at hi; omega

set_option maxRecDepth 100000 in
set_option maxHeartbeats 1000000 in
theorem parts_in1 (t f l : Int) (A : Option Addr) (m c : Nat) (p n : Int) (hp : vld p n) (hl : 1 ≤ l) (hm : m = 0) (ht : vld t l) (hf : vld f l) (hn : 1 ≤ n) (hi : inside_ t l p n) (w : World) : Calls Try.prog 6 #[.agg ([Value.int .i64 1, Value.int .i64 t, Value.int .i64 f, Value.int .i64 l, Value.slice A m c]).toArray, .agg ([Value.int .i64 p, Value.int .i64 n]).toArray] w fun e w' => e = .returned (.bool true) ∧ St w [] w' := by
  refine calls_from (args := [.agg ([Value.int .i64 1, Value.int .i64 t, Value.int .i64 f, Value.int .i64 l, Value.slice A m c]).toArray, .agg ([Value.int .i64 p, Value.int .i64 n]).toArray]) Try.func6 rfl Try.ntmps6 (by simp) ?_
  refine TC.sub (Sub.cons (i := 0) rfl (Sub.cons (i := 1) rfl (Sub.nil))) ?_
  refine TC.seq ?_
  have ht2 := ht
  have hf2 := hf
  have hp2 := hp
  unfold vld at ht2 hf2 hp2
  have hi2 := hi
  unfold inside_ at hi2
  refine TC.regionL ?_
  refine TL.box (Wants.none rfl) rfl rfl rfl (cs := [Value.int .i64 1, Value.int .i64 t, Value.int .i64 f, Value.int .i64 l, Value.slice A m c]) (by simp [Value.cells]) (tot := 5) (by simp []) (fun g1 hg1 => ?_)
  refine TL.box (Wants.none rfl) rfl rfl rfl (cs := [Value.int .i64 p, Value.int .i64 n]) (by simp [Value.cells]) (tot := 2) (by simp []) (fun g2 hg2 => ?_)
  refine TL.gets (Wants.none rfl) rfl (Gets.assign rfl rfl) ?_
  refine TL.nil ?_
  refine TE.then ?_
  refine TC.seq ?_
  refine TC.seq ?_
  refine TC.regionL ?_
  refine TL.gets (Wants.none rfl) rfl (Gets.loadN rfl agg27 size27 rfl (vs := [Value.int .i64 1, Value.int .i64 t, Value.int .i64 f, Value.int .i64 l, Value.slice A m c]) (by simp []) (Row.all (i := 1) (ent := ⟨g1, 27, [Value.int .i64 1, Value.int .i64 t, Value.int .i64 f, Value.int .i64 l, Value.slice A m c], 5⟩) rfl rfl rfl)) ?_
  refine TL.call0 (Wants.none rfl) rfl enters14 rfl rfl (v := .int .i64 0) (fun w hs => (rcheck_c 1 t f l A m c (by omega) (by omega) (by omega) (by omega) w).mono fun e w' h => by rw [(codeV1.2 ⟨by omega, hm, ht, hf⟩)] at h; exact h) ?_
  refine TL.gets (Wants.none rfl) rfl (Gets.isFalse (Gets.neq rfl rfl rfl) (by decide)) ?_
  refine TL.gets (Wants.none rfl) rfl (Gets.move rfl rfl) ?_
  refine TL.gets (Wants.yes rfl rfl rfl) rfl (Gets.loadN rfl agg37 size37 rfl (vs := [Value.int .i64 p, Value.int .i64 n]) (by simp []) (Row.all (i := 0) (ent := ⟨g2, 37, [Value.int .i64 p, Value.int .i64 n], 2⟩) rfl rfl rfl)) ?_
  refine TL.call0 (Wants.yes rfl rfl rfl) rfl enters21 rfl rfl (v := .bool true) (fun w hs => (rvalid_c p n (by omega) (by omega) w).mono fun e w' h => by rw [decide_eq_true (p := vld p n) hp] at h; exact h) ?_
  refine TL.gets (Wants.yes rfl rfl rfl) rfl (Gets.not rfl rfl) ?_
  refine TL.gets (Wants.none rfl) rfl (Gets.pickF rfl rfl rfl) ?_
  refine TL.nil ?_
  refine TE.then ?_
  refine TC.sub (Sub.cons (i := 2) rfl (Sub.cons (i := 3) rfl (Sub.cons (i := 4) rfl (Sub.cons (i := 15) rfl (Sub.nil))))) ?_
  refine TC.no rfl ?_
  refine TC.skip ?_
  refine TE.then ?_
  refine TC.seq ?_
  refine TC.regionL ?_
  refine TL.gets (Wants.none rfl) rfl (Gets.loadN rfl agg27 size27 rfl (vs := [Value.int .i64 1, Value.int .i64 t, Value.int .i64 f, Value.int .i64 l, Value.slice A m c]) (by simp []) (Row.all (i := 1) (ent := ⟨g1, 27, [Value.int .i64 1, Value.int .i64 t, Value.int .i64 f, Value.int .i64 l, Value.slice A m c], 5⟩) rfl rfl rfl)) ?_
  refine TL.gets (Wants.none rfl) rfl (Gets.loadN rfl agg37 size37 rfl (vs := [Value.int .i64 p, Value.int .i64 n]) (by simp []) (Row.all (i := 0) (ent := ⟨g2, 37, [Value.int .i64 p, Value.int .i64 n], 2⟩) rfl rfl rfl)) ?_
  refine TL.call0 (Wants.none rfl) rfl enters22 rfl rfl (v := .tuple #[.agg ([Value.int .i64 1, Value.int .i64 p, Value.int .i64 (f + p - t), Value.int .i64 n, Value.slice none 0 0]).toArray, .bool true]) (fun w hs => part1 t f l A m c p n hp hl hm ht hf hn hi w) ?_
  refine TL.gets (Wants.none rfl) rfl (Gets.move rfl rfl) ?_
  refine TL.gets (Wants.none rfl) rfl (Gets.extract rfl rfl rfl) ?_
  refine TL.gets (Wants.none rfl) rfl (Gets.extract rfl rfl rfl) ?_
  refine TL.alloc (Wants.none rfl) rfl rfl zero27 (cs := [Value.int .i64 0, Value.int .i64 0, Value.int .i64 0, Value.int .i64 0, Value.slice none 0 0]) rfl (tot := 5) (by simp) (fun g3 hg3 => ?_)
  refine TL.storeW (Wants.none rfl) rfl rfl size27 rfl (vs := [Value.int .i64 1, Value.int .i64 p, Value.int .i64 (f + p - t), Value.int .i64 n, Value.slice none 0 0]) rfl (by simp []) (by simp [Value.oneCell']) (i := 0) (ent := ⟨g3, 27, [Value.int .i64 0, Value.int .i64 0, Value.int .i64 0, Value.int .i64 0, Value.slice none 0 0], 5⟩) rfl rfl (by simp []) (H' := [⟨g3, 27, [Value.int .i64 1, Value.int .i64 p, Value.int .i64 (f + p - t), Value.int .i64 n, Value.slice none 0 0], 5⟩, ⟨g2, 37, [Value.int .i64 p, Value.int .i64 n], 2⟩, ⟨g1, 27, [Value.int .i64 1, Value.int .i64 t, Value.int .i64 f, Value.int .i64 l, Value.slice A m c], 5⟩]) rfl ?_
  refine TL.gets (Wants.none rfl) rfl (Gets.assign rfl rfl) ?_
  refine TL.nil ?_
  refine TE.then ?_
  refine TC.sub (Sub.cons (i := 2) rfl (Sub.cons (i := 3) rfl (Sub.cons (i := 4) rfl (Sub.cons (i := 5) rfl (Sub.cons (i := 6) rfl (Sub.nil)))))) ?_
  refine TC.seq ?_
  refine TC.regionL ?_
  refine TL.gets (Wants.none rfl) rfl (Gets.loadN rfl agg27 size27 rfl (vs := [Value.int .i64 1, Value.int .i64 t, Value.int .i64 f, Value.int .i64 l, Value.slice A m c]) (by simp []) (Row.all (i := 2) (ent := ⟨g1, 27, [Value.int .i64 1, Value.int .i64 t, Value.int .i64 f, Value.int .i64 l, Value.slice A m c], 5⟩) rfl rfl rfl)) ?_
  refine TL.call0 (Wants.none rfl) rfl enters18 rfl rfl (v := .agg ([Value.int .i64 t, Value.int .i64 l]).toArray) (fun w hs => rtarget1 t f l A m c w) ?_
  refine TL.alloc (Wants.none rfl) rfl rfl zero37 (cs := [Value.int .i64 0, Value.int .i64 0]) rfl (tot := 2) (by simp) (fun g4 hg4 => ?_)
  refine TL.storeW (Wants.none rfl) rfl rfl size37 rfl (vs := [Value.int .i64 t, Value.int .i64 l]) rfl (by simp []) (by simp [Value.oneCell']) (i := 0) (ent := ⟨g4, 37, [Value.int .i64 0, Value.int .i64 0], 2⟩) rfl rfl (by simp []) (H' := [⟨g4, 37, [Value.int .i64 t, Value.int .i64 l], 2⟩, ⟨g3, 27, [Value.int .i64 1, Value.int .i64 p, Value.int .i64 (f + p - t), Value.int .i64 n, Value.slice none 0 0], 5⟩, ⟨g2, 37, [Value.int .i64 p, Value.int .i64 n], 2⟩, ⟨g1, 27, [Value.int .i64 1, Value.int .i64 t, Value.int .i64 f, Value.int .i64 l, Value.slice A m c], 5⟩]) rfl ?_
  refine TL.nil ?_
  refine TE.then ?_
  refine TC.seq ?_
  refine TC.seq ?_
  refine TC.regionL ?_
  refine TL.gets (Wants.none rfl) rfl (Gets.fieldAddr rfl Try.underlying37 rfl size3 rfl (off' := 1) (by first | rfl | omega)) ?_
  refine TL.gets (Wants.none rfl) rfl (Gets.load1 rfl agg3 rfl (At.ent (i := 2) (ent := ⟨g2, 37, [Value.int .i64 p, Value.int .i64 n], 2⟩) (off := 1) rfl rfl (by exact rfl))) ?_
  refine TL.gets (Wants.none rfl) rfl (Gets.isFalse (Gets.eql rfl rfl rfl) (by omega)) ?_
  refine TL.gets (Wants.none rfl) rfl (Gets.move rfl rfl) ?_
  refine TL.gets (Wants.yes rfl rfl rfl) rfl (Gets.fieldAddr rfl Try.underlying37 rfl size3 rfl (off' := 0) (by first | rfl | omega)) ?_
  refine TL.gets (Wants.yes rfl rfl rfl) rfl (Gets.load1 rfl agg3 rfl (At.ent (i := 2) (ent := ⟨g2, 37, [Value.int .i64 p, Value.int .i64 n], 2⟩) (off := 0) rfl rfl (by exact rfl))) ?_
  refine TL.gets (Wants.yes rfl rfl rfl) rfl (Gets.fieldAddr rfl Try.underlying37 rfl size3 rfl (off' := 0) (by first | rfl | omega)) ?_
  refine TL.gets (Wants.yes rfl rfl rfl) rfl (Gets.load1 rfl agg3 rfl (At.ent (i := 0) (ent := ⟨g4, 37, [Value.int .i64 t, Value.int .i64 l], 2⟩) (off := 0) rfl rfl (by exact rfl))) ?_
  refine TL.gets (Wants.yes rfl rfl rfl) rfl (Gets.isFalse (Gets.lss rfl rfl rfl) (by omega)) ?_
  refine TL.gets (Wants.none rfl) rfl (Gets.pickF rfl rfl rfl) ?_
  refine TL.gets (Wants.none rfl) rfl (Gets.move rfl rfl) ?_
  refine TL.gets (Wants.yes rfl rfl rfl) rfl (Gets.fieldAddr rfl Try.underlying37 rfl size3 rfl (off' := 0) (by first | rfl | omega)) ?_
  refine TL.gets (Wants.yes rfl rfl rfl) rfl (Gets.load1 rfl agg3 rfl (At.ent (i := 2) (ent := ⟨g2, 37, [Value.int .i64 p, Value.int .i64 n], 2⟩) (off := 0) rfl rfl (by exact rfl))) ?_
  refine TL.gets (Wants.yes rfl rfl rfl) rfl (Gets.fieldAddr rfl Try.underlying37 rfl size3 rfl (off' := 1) (by first | rfl | omega)) ?_
  refine TL.gets (Wants.yes rfl rfl rfl) rfl (Gets.load1 rfl agg3 rfl (At.ent (i := 2) (ent := ⟨g2, 37, [Value.int .i64 p, Value.int .i64 n], 2⟩) (off := 1) rfl rfl (by exact rfl))) ?_
  refine TL.gets (Wants.yes rfl rfl rfl) rfl (Gets.add rfl rfl rfl (r := (p + n)) (w64 (by omega) (by omega))) ?_
  refine TL.gets (Wants.yes rfl rfl rfl) rfl (Gets.fieldAddr rfl Try.underlying37 rfl size3 rfl (off' := 0) (by first | rfl | omega)) ?_
  refine TL.gets (Wants.yes rfl rfl rfl) rfl (Gets.load1 rfl agg3 rfl (At.ent (i := 0) (ent := ⟨g4, 37, [Value.int .i64 t, Value.int .i64 l], 2⟩) (off := 0) rfl rfl (by exact rfl))) ?_
  refine TL.gets (Wants.yes rfl rfl rfl) rfl (Gets.fieldAddr rfl Try.underlying37 rfl size3 rfl (off' := 1) (by first | rfl | omega)) ?_
  refine TL.gets (Wants.yes rfl rfl rfl) rfl (Gets.load1 rfl agg3 rfl (At.ent (i := 0) (ent := ⟨g4, 37, [Value.int .i64 t, Value.int .i64 l], 2⟩) (off := 1) rfl rfl (by exact rfl))) ?_
  refine TL.gets (Wants.yes rfl rfl rfl) rfl (Gets.add rfl rfl rfl (r := (t + l)) (w64 (by omega) (by omega))) ?_
  refine TL.gets (Wants.yes rfl rfl rfl) rfl (Gets.isFalse (Gets.gtr rfl rfl rfl) (by omega)) ?_
  refine TL.gets (Wants.none rfl) rfl (Gets.pickF rfl rfl rfl) ?_
  refine TL.nil ?_
  refine TE.then ?_
  refine TC.sub (Sub.cons (i := 2) rfl (Sub.cons (i := 3) rfl (Sub.cons (i := 4) rfl (Sub.cons (i := 5) rfl (Sub.cons (i := 6) rfl (Sub.cons (i := 47) rfl (Sub.nil))))))) ?_
  refine TC.no rfl ?_
  refine TC.skip ?_
  refine TE.then ?_
  refine TC.seq ?_
  refine TC.mix (by kernel_rfl) [1, 0, 0, 0, 0, 1, 1, 1, 1, 1, 0, 0, 1, 1, 0, 0, 0, 1, 1, 1, 0, 0, 0] rfl (by kernel_rfl) ?_
  refine TM.call0 (Wants.none rfl) rfl enters9 rfl rfl (v := .bool true) (fun w hs => alive_c w) ?_
  refine TM.free (Wants.none rfl) rfl (fun _ => Gets.move rfl rfl) ?_
  refine TM.free (Wants.yes rfl rfl rfl) rfl (fun _ => Gets.move rfl rfl) ?_
  refine TM.free (Wants.none rfl) rfl (fun _ => Gets.pickT rfl rfl rfl) ?_
  refine TM.free (Wants.none rfl) rfl (fun _ => Gets.move rfl rfl) ?_
  refine TM.gets (Wants.yes rfl rfl rfl) rfl (Gets.loadN rfl agg27 size27 rfl (vs := [Value.int .i64 1, Value.int .i64 p, Value.int .i64 (f + p - t), Value.int .i64 n, Value.slice none 0 0]) (by simp []) (Row.all (i := 1) (ent := ⟨g3, 27, [Value.int .i64 1, Value.int .i64 p, Value.int .i64 (f + p - t), Value.int .i64 n, Value.slice none 0 0], 5⟩) rfl rfl rfl)) ?_
  refine TM.gets (Wants.yes rfl rfl rfl) rfl (Gets.loadN rfl agg27 size27 rfl (vs := [Value.int .i64 1, Value.int .i64 t, Value.int .i64 f, Value.int .i64 l, Value.slice A m c]) (by simp []) (Row.all (i := 3) (ent := ⟨g1, 27, [Value.int .i64 1, Value.int .i64 t, Value.int .i64 f, Value.int .i64 l, Value.slice A m c], 5⟩) rfl rfl rfl)) ?_
  refine TM.gets (Wants.yes rfl rfl rfl) rfl (Gets.loadN rfl agg37 size37 rfl (vs := [Value.int .i64 p, Value.int .i64 n]) (by simp []) (Row.all (i := 2) (ent := ⟨g2, 37, [Value.int .i64 p, Value.int .i64 n], 2⟩) rfl rfl rfl)) ?_
  refine TM.call0 (Wants.yes rfl rfl rfl) rfl enters23 rfl rfl (v := .agg ([Value.int .i64 1, Value.int .i64 p, Value.int .i64 (f + p - t), Value.int .i64 n, Value.slice none 0 0]).toArray) (fun w hs => rpart1 t f l A m c p n hl ht hf hn hi w) ?_
  refine TM.call0 (Wants.yes rfl rfl rfl) rfl enters12 rfl rfl (v := .bool true) (fun w hs => (rsame_c 1 p (f + p - t) n 1 p (f + p - t) n none none 0 0 0 0 ([] : List Int) ([] : List Int) bytes_no bytes_no w src_no src_no).mono fun e w' h => by rw [decide_eq_true (p := sameP 1 p (f + p - t) n 1 p (f + p - t) n ([] : List Int) ([] : List Int)) (⟨rfl, rfl, rfl, rfl, rfl⟩)] at h; exact h) ?_
  refine TM.free (Wants.none rfl) rfl (fun _ => Gets.pickT rfl rfl rfl) ?_
  refine TM.free (Wants.none rfl) rfl (fun _ => Gets.move rfl rfl) ?_
  refine TM.gets (Wants.yes rfl rfl rfl) rfl (Gets.loadN rfl agg27 size27 rfl (vs := [Value.int .i64 1, Value.int .i64 p, Value.int .i64 (f + p - t), Value.int .i64 n, Value.slice none 0 0]) (by simp []) (Row.all (i := 1) (ent := ⟨g3, 27, [Value.int .i64 1, Value.int .i64 p, Value.int .i64 (f + p - t), Value.int .i64 n, Value.slice none 0 0], 5⟩) rfl rfl rfl)) ?_
  refine TM.call0 (Wants.yes rfl rfl rfl) rfl enters13 rfl rfl (v := .int .i64 0) (fun w hs => (check_c 1 p (f + p - t) n none 0 0 (by omega) (by omega) (by omega) (by omega) w).mono fun e w' h => by rw [(codeV1.2 (by unfold vld; omega))] at h; exact h) ?_
  refine TM.free (Wants.yes rfl rfl rfl) rfl (fun _ => Gets.isTrue (Gets.eql rfl rfl rfl) rfl) ?_
  refine TM.free (Wants.none rfl) rfl (fun _ => Gets.pickT rfl rfl rfl) ?_
  refine TM.free (Wants.none rfl) rfl (fun _ => Gets.move rfl rfl) ?_
  refine TM.gets (Wants.yes rfl rfl rfl) rfl (Gets.loadN rfl agg27 size27 rfl (vs := [Value.int .i64 1, Value.int .i64 p, Value.int .i64 (f + p - t), Value.int .i64 n, Value.slice none 0 0]) (by simp []) (Row.all (i := 1) (ent := ⟨g3, 27, [Value.int .i64 1, Value.int .i64 p, Value.int .i64 (f + p - t), Value.int .i64 n, Value.slice none 0 0], 5⟩) rfl rfl rfl)) ?_
  refine TM.call0 (Wants.yes rfl rfl rfl) rfl enters17 rfl rfl (v := .agg ([Value.int .i64 p, Value.int .i64 n]).toArray) (fun w hs => target1 p (f + p - t) n none 0 0 w) ?_
  refine TM.gets (Wants.yes rfl rfl rfl) rfl (Gets.loadN rfl agg37 size37 rfl (vs := [Value.int .i64 p, Value.int .i64 n]) (by simp []) (Row.all (i := 2) (ent := ⟨g2, 37, [Value.int .i64 p, Value.int .i64 n], 2⟩) rfl rfl rfl)) ?_
  refine TM.free (Wants.yes rfl rfl rfl) rfl (fun _ => Gets.isTrue (Gets.pairEq rfl Try.underlying37 (by decide) (by decide) rfl rfl Try.underlying3 Try.underlying3 sih37 geq37 rfl rfl) ⟨rfl, rfl⟩) ?_
  refine TM.free (Wants.none rfl) rfl (fun _ => Gets.pickT rfl rfl rfl) ?_
  refine TM.free (Wants.none rfl) rfl (fun _ => Gets.assign rfl rfl) ?_
  refine TM.nil ?_
  refine TE.then ?_
  refine TC.ret ?_
  exact TE.ret1 rfl rfl (fun w hs => ⟨rfl, ((((hs.drop (by assumption)).drop (by assumption)).drop (by assumption)).drop (by assumption))⟩)

set_option maxRecDepth 100000 in
set_option maxHeartbeats 1000000 in
theorem parts_in2 (t : Int) (B : List Int) (b off m c q n : Nat) (hmc : m ≤ c) (hcm : c ≤ 140737488355328) (hn : 1 ≤ n) (hq : q + n ≤ m) (ht : vld t m) (hB : Bytes B) (w : World) (hsA : Src w (some ⟨b, off, none⟩) m .u8 B) : Calls Try.prog 6 #[.agg ([Value.int .i64 2, Value.int .i64 t, Value.int .i64 0, Value.int .i64 0, Value.slice (some ⟨b, off, none⟩) m c]).toArray, .agg ([Value.int .i64 (t + (q : Int)), Value.int .i64 (n : Int)]).toArray] w fun e w' => e = .returned (.bool true) ∧ St w [] w' := by
  refine calls_from (args := [.agg ([Value.int .i64 2, Value.int .i64 t, Value.int .i64 0, Value.int .i64 0, Value.slice (some ⟨b, off, none⟩) m c]).toArray, .agg ([Value.int .i64 (t + (q : Int)), Value.int .i64 (n : Int)]).toArray]) Try.func6 rfl Try.ntmps6 (by simp) ?_
  refine TC.sub (Sub.cons (i := 0) rfl (Sub.cons (i := 1) rfl (Sub.nil))) ?_
  refine TC.seq ?_
  have h0 : 0 < m := by omega
  have ht2 := ht
  unfold vld at ht2
  have hlq : ((B.drop q).take n).length = n := by rw [List.length_take, List.length_drop, hsA.1]; omega
  have hp : vld (t + (q : Int)) (n : Int) := by unfold vld; omega
  have hi : inside_ t (m : Int) (t + (q : Int)) (n : Int) := by unfold inside_; omega
  refine TC.regionL ?_
  refine TL.box (Wants.none rfl) rfl rfl rfl (cs := [Value.int .i64 2, Value.int .i64 t, Value.int .i64 0, Value.int .i64 0, Value.slice (some ⟨b, off, none⟩) m c]) (by simp [Value.cells]) (tot := 5) (by simp []) (fun g1 hg1 => ?_)
  refine TL.box (Wants.none rfl) rfl rfl rfl (cs := [Value.int .i64 (t + (q : Int)), Value.int .i64 (n : Int)]) (by simp [Value.cells]) (tot := 2) (by simp []) (fun g2 hg2 => ?_)
  refine TL.gets (Wants.none rfl) rfl (Gets.assign rfl rfl) ?_
  refine TL.nil ?_
  refine TE.then ?_
  refine TC.seq ?_
  refine TC.seq ?_
  refine TC.regionL ?_
  refine TL.gets (Wants.none rfl) rfl (Gets.loadN rfl agg27 size27 rfl (vs := [Value.int .i64 2, Value.int .i64 t, Value.int .i64 0, Value.int .i64 0, Value.slice (some ⟨b, off, none⟩) m c]) (by simp []) (Row.all (i := 1) (ent := ⟨g1, 27, [Value.int .i64 2, Value.int .i64 t, Value.int .i64 0, Value.int .i64 0, Value.slice (some ⟨b, off, none⟩) m c], 5⟩) rfl rfl rfl)) ?_
  refine TL.call0 (Wants.none rfl) rfl enters14 rfl rfl (v := .int .i64 0) (fun w hs => (rcheck_c 2 t 0 0 (some ⟨b, off, none⟩) m c (by omega) (by omega) (by omega) (by omega) w).mono fun e w' h => by rw [(codeV2.2 ⟨by omega, rfl, rfl, ht⟩)] at h; exact h) ?_
  refine TL.gets (Wants.none rfl) rfl (Gets.isFalse (Gets.neq rfl rfl rfl) (by decide)) ?_
  refine TL.gets (Wants.none rfl) rfl (Gets.move rfl rfl) ?_
  refine TL.gets (Wants.yes rfl rfl rfl) rfl (Gets.loadN rfl agg37 size37 rfl (vs := [Value.int .i64 (t + (q : Int)), Value.int .i64 (n : Int)]) (by simp []) (Row.all (i := 0) (ent := ⟨g2, 37, [Value.int .i64 (t + (q : Int)), Value.int .i64 (n : Int)], 2⟩) rfl rfl rfl)) ?_
  refine TL.call0 (Wants.yes rfl rfl rfl) rfl enters21 rfl rfl (v := .bool true) (fun w hs => (rvalid_c (t + (q : Int)) (n : Int) (by omega) (by omega) w).mono fun e w' h => by rw [decide_eq_true (p := vld (t + (q : Int)) (n : Int)) hp] at h; exact h) ?_
  refine TL.gets (Wants.yes rfl rfl rfl) rfl (Gets.not rfl rfl) ?_
  refine TL.gets (Wants.none rfl) rfl (Gets.pickF rfl rfl rfl) ?_
  refine TL.nil ?_
  refine TE.then ?_
  refine TC.sub (Sub.cons (i := 2) rfl (Sub.cons (i := 3) rfl (Sub.cons (i := 4) rfl (Sub.cons (i := 15) rfl (Sub.nil))))) ?_
  refine TC.no rfl ?_
  refine TC.skip ?_
  refine TE.then ?_
  refine TC.seq ?_
  refine TC.regionL ?_
  refine TL.gets (Wants.none rfl) rfl (Gets.loadN rfl agg27 size27 rfl (vs := [Value.int .i64 2, Value.int .i64 t, Value.int .i64 0, Value.int .i64 0, Value.slice (some ⟨b, off, none⟩) m c]) (by simp []) (Row.all (i := 1) (ent := ⟨g1, 27, [Value.int .i64 2, Value.int .i64 t, Value.int .i64 0, Value.int .i64 0, Value.slice (some ⟨b, off, none⟩) m c], 5⟩) rfl rfl rfl)) ?_
  refine TL.gets (Wants.none rfl) rfl (Gets.loadN rfl agg37 size37 rfl (vs := [Value.int .i64 (t + (q : Int)), Value.int .i64 (n : Int)]) (by simp []) (Row.all (i := 0) (ent := ⟨g2, 37, [Value.int .i64 (t + (q : Int)), Value.int .i64 (n : Int)], 2⟩) rfl rfl rfl)) ?_
  refine TL.call (ι := Nat × Nat) (V := fun yk => .tuple #[.agg ([Value.int .i64 2, Value.int .i64 (t + (q : Int)), Value.int .i64 0, Value.int .i64 0, Value.slice (some ⟨yk.1, 0, none⟩) n yk.2]).toArray, .bool true]) (R := fun yk => (n ≤ yk.2 ∧ yk.2 ≤ maxLen) ∧ w.heap.size ≤ (⟨yk.1, 5, ((B.drop q).take n).map (Value.int .u8), yk.2⟩ : Ent).g) (H' := fun yk => [⟨yk.1, 5, ((B.drop q).take n).map (Value.int .u8), yk.2⟩, ⟨g2, 37, [Value.int .i64 (t + (q : Int)), Value.int .i64 (n : Int)], 2⟩, ⟨g1, 27, [Value.int .i64 2, Value.int .i64 t, Value.int .i64 0, Value.int .i64 0, Value.slice (some ⟨b, off, none⟩) m c], 5⟩]) (Wants.none rfl) rfl enters22 rfl rfl (fun w hs => (show Calls Try.prog 22 #[.agg ([Value.int .i64 2, Value.int .i64 t, Value.int .i64 0, Value.int .i64 0, Value.slice (some ⟨b, off, none⟩) m c]).toArray, .agg ([Value.int .i64 (t + (q : Int)), Value.int .i64 (n : Int)]).toArray] w (fun e w' => ∃ yk : Nat × Nat, e = .returned (.tuple #[.agg ([Value.int .i64 2, Value.int .i64 (t + (q : Int)), Value.int .i64 0, Value.int .i64 0, Value.slice (some ⟨yk.1, 0, none⟩) n yk.2]).toArray, .bool true]) ∧ (n ≤ yk.2 ∧ yk.2 ≤ maxLen) ∧ w.heap.size ≤ (⟨yk.1, 5, ((B.drop q).take n).map (Value.int .u8), yk.2⟩ : Ent).g ∧ St w [⟨yk.1, 5, ((B.drop q).take n).map (Value.int .u8), yk.2⟩] w') from (part2 t B b off m c q n hmc hcm hn hq ht w (hsA.at_ hs (fun b hb => (ne_cons (by show g2 ≠ b; omega) (ne_cons (by show g1 ≠ b; omega) ne_nil))))).mono fun e w' ⟨gv, cv, he, hgv, hcv, hmv, hw⟩ => ⟨(gv, cv), he, ⟨hcv, hmv⟩, hgv, hw⟩).mono fun e w' ⟨x, he, hR, hE, hw⟩ => ⟨x, he, ⟨hR, Nat.le_trans hs.size hE⟩, hs.made hw hE⟩) (fun yk ⟨hRk, hEk⟩ => ?_)
  obtain ⟨gk, ck⟩ := yk
  dsimp only at hRk hEk ⊢
  obtain ⟨hck, hmk⟩ := hRk
  unfold maxLen at hmk
  refine TL.gets (Wants.none rfl) rfl (Gets.move rfl rfl) ?_
  refine TL.gets (Wants.none rfl) rfl (Gets.extract rfl rfl rfl) ?_
  refine TL.gets (Wants.none rfl) rfl (Gets.extract rfl rfl rfl) ?_
  refine TL.alloc (Wants.none rfl) rfl rfl zero27 (cs := [Value.int .i64 0, Value.int .i64 0, Value.int .i64 0, Value.int .i64 0, Value.slice none 0 0]) rfl (tot := 5) (by simp) (fun g3 hg3 => ?_)
  refine TL.storeW (Wants.none rfl) rfl rfl size27 rfl (vs := [Value.int .i64 2, Value.int .i64 (t + (q : Int)), Value.int .i64 0, Value.int .i64 0, Value.slice (some ⟨gk, 0, none⟩) n ck]) rfl (by simp []) (by simp [Value.oneCell']) (i := 0) (ent := ⟨g3, 27, [Value.int .i64 0, Value.int .i64 0, Value.int .i64 0, Value.int .i64 0, Value.slice none 0 0], 5⟩) rfl rfl (by simp []) (H' := [⟨g3, 27, [Value.int .i64 2, Value.int .i64 (t + (q : Int)), Value.int .i64 0, Value.int .i64 0, Value.slice (some ⟨gk, 0, none⟩) n ck], 5⟩, ⟨gk, 5, ((B.drop q).take n).map (Value.int .u8), ck⟩, ⟨g2, 37, [Value.int .i64 (t + (q : Int)), Value.int .i64 (n : Int)], 2⟩, ⟨g1, 27, [Value.int .i64 2, Value.int .i64 t, Value.int .i64 0, Value.int .i64 0, Value.slice (some ⟨b, off, none⟩) m c], 5⟩]) rfl ?_
  refine TL.gets (Wants.none rfl) rfl (Gets.assign rfl rfl) ?_
  refine TL.nil ?_
  refine TE.then ?_
  refine TC.sub (Sub.cons (i := 2) rfl (Sub.cons (i := 3) rfl (Sub.cons (i := 4) rfl (Sub.cons (i := 5) rfl (Sub.cons (i := 6) rfl (Sub.nil)))))) ?_
  refine TC.seq ?_
  refine TC.regionL ?_
  refine TL.gets (Wants.none rfl) rfl (Gets.loadN rfl agg27 size27 rfl (vs := [Value.int .i64 2, Value.int .i64 t, Value.int .i64 0, Value.int .i64 0, Value.slice (some ⟨b, off, none⟩) m c]) (by simp []) (Row.all (i := 3) (ent := ⟨g1, 27, [Value.int .i64 2, Value.int .i64 t, Value.int .i64 0, Value.int .i64 0, Value.slice (some ⟨b, off, none⟩) m c], 5⟩) rfl rfl rfl)) ?_
  refine TL.call0 (Wants.none rfl) rfl enters18 rfl rfl (v := .agg ([Value.int .i64 t, Value.int .i64 (m : Int)]).toArray) (fun w hs => rtarget2 2 t 0 0 (some ⟨b, off, none⟩) m c (by omega) w) ?_
  refine TL.alloc (Wants.none rfl) rfl rfl zero37 (cs := [Value.int .i64 0, Value.int .i64 0]) rfl (tot := 2) (by simp) (fun g4 hg4 => ?_)
  refine TL.storeW (Wants.none rfl) rfl rfl size37 rfl (vs := [Value.int .i64 t, Value.int .i64 (m : Int)]) rfl (by simp []) (by simp [Value.oneCell']) (i := 0) (ent := ⟨g4, 37, [Value.int .i64 0, Value.int .i64 0], 2⟩) rfl rfl (by simp []) (H' := [⟨g4, 37, [Value.int .i64 t, Value.int .i64 (m : Int)], 2⟩, ⟨g3, 27, [Value.int .i64 2, Value.int .i64 (t + (q : Int)), Value.int .i64 0, Value.int .i64 0, Value.slice (some ⟨gk, 0, none⟩) n ck], 5⟩, ⟨gk, 5, ((B.drop q).take n).map (Value.int .u8), ck⟩, ⟨g2, 37, [Value.int .i64 (t + (q : Int)), Value.int .i64 (n : Int)], 2⟩, ⟨g1, 27, [Value.int .i64 2, Value.int .i64 t, Value.int .i64 0, Value.int .i64 0, Value.slice (some ⟨b, off, none⟩) m c], 5⟩]) rfl ?_
  refine TL.nil ?_
  refine TE.then ?_
  refine TC.seq ?_
  refine TC.seq ?_
  refine TC.regionL ?_
  refine TL.gets (Wants.none rfl) rfl (Gets.fieldAddr rfl Try.underlying37 rfl size3 rfl (off' := 1) (by first | rfl | omega)) ?_
  refine TL.gets (Wants.none rfl) rfl (Gets.load1 rfl agg3 rfl (At.ent (i := 3) (ent := ⟨g2, 37, [Value.int .i64 (t + (q : Int)), Value.int .i64 (n : Int)], 2⟩) (off := 1) rfl rfl (by exact rfl))) ?_
  refine TL.gets (Wants.none rfl) rfl (Gets.isFalse (Gets.eql rfl rfl rfl) (by omega)) ?_
  refine TL.gets (Wants.none rfl) rfl (Gets.move rfl rfl) ?_
  refine TL.gets (Wants.yes rfl rfl rfl) rfl (Gets.fieldAddr rfl Try.underlying37 rfl size3 rfl (off' := 0) (by first | rfl | omega)) ?_
  refine TL.gets (Wants.yes rfl rfl rfl) rfl (Gets.load1 rfl agg3 rfl (At.ent (i := 3) (ent := ⟨g2, 37, [Value.int .i64 (t + (q : Int)), Value.int .i64 (n : Int)], 2⟩) (off := 0) rfl rfl (by exact rfl))) ?_
  refine TL.gets (Wants.yes rfl rfl rfl) rfl (Gets.fieldAddr rfl Try.underlying37 rfl size3 rfl (off' := 0) (by first | rfl | omega)) ?_
  refine TL.gets (Wants.yes rfl rfl rfl) rfl (Gets.load1 rfl agg3 rfl (At.ent (i := 0) (ent := ⟨g4, 37, [Value.int .i64 t, Value.int .i64 (m : Int)], 2⟩) (off := 0) rfl rfl (by exact rfl))) ?_
  refine TL.gets (Wants.yes rfl rfl rfl) rfl (Gets.isFalse (Gets.lss rfl rfl rfl) (by omega)) ?_
  refine TL.gets (Wants.none rfl) rfl (Gets.pickF rfl rfl rfl) ?_
  refine TL.gets (Wants.none rfl) rfl (Gets.move rfl rfl) ?_
  refine TL.gets (Wants.yes rfl rfl rfl) rfl (Gets.fieldAddr rfl Try.underlying37 rfl size3 rfl (off' := 0) (by first | rfl | omega)) ?_
  refine TL.gets (Wants.yes rfl rfl rfl) rfl (Gets.load1 rfl agg3 rfl (At.ent (i := 3) (ent := ⟨g2, 37, [Value.int .i64 (t + (q : Int)), Value.int .i64 (n : Int)], 2⟩) (off := 0) rfl rfl (by exact rfl))) ?_
  refine TL.gets (Wants.yes rfl rfl rfl) rfl (Gets.fieldAddr rfl Try.underlying37 rfl size3 rfl (off' := 1) (by first | rfl | omega)) ?_
  refine TL.gets (Wants.yes rfl rfl rfl) rfl (Gets.load1 rfl agg3 rfl (At.ent (i := 3) (ent := ⟨g2, 37, [Value.int .i64 (t + (q : Int)), Value.int .i64 (n : Int)], 2⟩) (off := 1) rfl rfl (by exact rfl))) ?_
  refine TL.gets (Wants.yes rfl rfl rfl) rfl (Gets.add rfl rfl rfl (r := (t + (q : Int) + (n : Int))) (w64 (by omega) (by omega))) ?_
  refine TL.gets (Wants.yes rfl rfl rfl) rfl (Gets.fieldAddr rfl Try.underlying37 rfl size3 rfl (off' := 0) (by first | rfl | omega)) ?_
  refine TL.gets (Wants.yes rfl rfl rfl) rfl (Gets.load1 rfl agg3 rfl (At.ent (i := 0) (ent := ⟨g4, 37, [Value.int .i64 t, Value.int .i64 (m : Int)], 2⟩) (off := 0) rfl rfl (by exact rfl))) ?_
  refine TL.gets (Wants.yes rfl rfl rfl) rfl (Gets.fieldAddr rfl Try.underlying37 rfl size3 rfl (off' := 1) (by first | rfl | omega)) ?_
  refine TL.gets (Wants.yes rfl rfl rfl) rfl (Gets.load1 rfl agg3 rfl (At.ent (i := 0) (ent := ⟨g4, 37, [Value.int .i64 t, Value.int .i64 (m : Int)], 2⟩) (off := 1) rfl rfl (by exact rfl))) ?_
  refine TL.gets (Wants.yes rfl rfl rfl) rfl (Gets.add rfl rfl rfl (r := (t + (m : Int))) (w64 (by omega) (by omega))) ?_
  refine TL.gets (Wants.yes rfl rfl rfl) rfl (Gets.isFalse (Gets.gtr rfl rfl rfl) (by omega)) ?_
  refine TL.gets (Wants.none rfl) rfl (Gets.pickF rfl rfl rfl) ?_
  refine TL.nil ?_
  refine TE.then ?_
  refine TC.sub (Sub.cons (i := 2) rfl (Sub.cons (i := 3) rfl (Sub.cons (i := 4) rfl (Sub.cons (i := 5) rfl (Sub.cons (i := 6) rfl (Sub.cons (i := 47) rfl (Sub.nil))))))) ?_
  refine TC.no rfl ?_
  refine TC.skip ?_
  refine TE.then ?_
  refine TC.seq ?_
  refine TC.mixS [⟨g4, 37, [Value.int .i64 t, Value.int .i64 (m : Int)], 2⟩, ⟨g3, 27, [Value.int .i64 2, Value.int .i64 (t + (q : Int)), Value.int .i64 0, Value.int .i64 0, Value.slice (some ⟨gk, 0, none⟩) n ck], 5⟩, ⟨gk, 5, ((B.drop q).take n).map (Value.int .u8), ck⟩, ⟨g2, 37, [Value.int .i64 (t + (q : Int)), Value.int .i64 (n : Int)], 2⟩, ⟨g1, 27, [Value.int .i64 2, Value.int .i64 t, Value.int .i64 0, Value.int .i64 0, Value.slice (some ⟨b, off, none⟩) m c], 5⟩] [] (by kernel_rfl) [1, 0, 0, 0, 0, 1, 1, 1, 6, 1, 0, 0, 1, 1, 0, 0, 0, 1, 1, 1, 0, 0, 0] [0, 1, 2, 3, 4, 5, 6, 7, 8, 9, 10, 11, 12, 13, 14, 15, 16, 17, 18, 19, 20, 21, 22] [fun _ _ => True, fun _ _ => True, fun _ _ => True, fun _ _ => True, fun _ _ => True, fun _ _ => True, fun _ _ => True, fun _ _ => True, fun v e => ∃ yr : Nat × Nat, (n ≤ yr.2 ∧ yr.2 ≤ maxLen) ∧ v = .agg ([Value.int .i64 2, Value.int .i64 (t + (q : Int)), Value.int .i64 0, Value.int .i64 0, Value.slice (some ⟨yr.1, 0, none⟩) n yr.2]).toArray ∧ e = [⟨yr.1, 5, ((B.drop q).take n).map (Value.int .u8), yr.2⟩], fun _ _ => True, fun _ _ => True, fun _ _ => True, fun _ _ => True, fun _ _ => True, fun _ _ => True, fun _ _ => True, fun _ _ => True, fun _ _ => True, fun _ _ => True, fun _ _ => True, fun _ _ => True, fun _ _ => True, fun _ _ => True] (by kernel_rfl) (by kernel_rfl) (perm_pick (p := [0, 1, 2, 3, 4]) (by kernel_rfl) rfl) Fresh.nil ?_
  refine TR.call0 (Wants.none rfl) rfl enters9 rfl rfl (v := .bool true) (fun Z w hZ hs => alive_c w) ?_
  refine TR.free (Wants.none rfl) rfl (fun _ => Gets.move rfl rfl) ?_
  refine TR.free (Wants.yes rfl rfl rfl) rfl (fun _ => Gets.move rfl rfl) ?_
  refine TR.free (Wants.none rfl) rfl (fun _ => Gets.pickT rfl rfl rfl) ?_
  refine TR.free (Wants.none rfl) rfl (fun _ => Gets.move rfl rfl) ?_
  refine TR.gets (Wants.yes rfl rfl rfl) rfl (fun Z hZ => Gets.loadN rfl agg27 size27 rfl (vs := [Value.int .i64 2, Value.int .i64 (t + (q : Int)), Value.int .i64 0, Value.int .i64 0, Value.slice (some ⟨gk, 0, none⟩) n ck]) (by simp []) (Row.all (i := 1) (ent := ⟨g3, 27, [Value.int .i64 2, Value.int .i64 (t + (q : Int)), Value.int .i64 0, Value.int .i64 0, Value.slice (some ⟨gk, 0, none⟩) n ck], 5⟩) rfl rfl rfl)) ?_
  refine TR.gets (Wants.yes rfl rfl rfl) rfl (fun Z hZ => Gets.loadN rfl agg27 size27 rfl (vs := [Value.int .i64 2, Value.int .i64 t, Value.int .i64 0, Value.int .i64 0, Value.slice (some ⟨b, off, none⟩) m c]) (by simp []) (Row.all (i := 4) (ent := ⟨g1, 27, [Value.int .i64 2, Value.int .i64 t, Value.int .i64 0, Value.int .i64 0, Value.slice (some ⟨b, off, none⟩) m c], 5⟩) rfl rfl rfl)) ?_
  refine TR.gets (Wants.yes rfl rfl rfl) rfl (fun Z hZ => Gets.loadN rfl agg37 size37 rfl (vs := [Value.int .i64 (t + (q : Int)), Value.int .i64 (n : Int)]) (by simp []) (Row.all (i := 3) (ent := ⟨g2, 37, [Value.int .i64 (t + (q : Int)), Value.int .i64 (n : Int)], 2⟩) rfl rfl rfl)) ?_
  refine TR.call6 (ι := Nat × Nat) (V := fun yr => .agg ([Value.int .i64 2, Value.int .i64 (t + (q : Int)), Value.int .i64 0, Value.int .i64 0, Value.slice (some ⟨yr.1, 0, none⟩) n yr.2]).toArray) (R := fun yr => n ≤ yr.2 ∧ yr.2 ≤ maxLen) (E := fun yr => [⟨yr.1, 5, ((B.drop q).take n).map (Value.int .u8), yr.2⟩]) (Wants.yes rfl rfl rfl) rfl enters23 rfl rfl (fun Z w hZ hs => (show Calls Try.prog 23 #[.agg ([Value.int .i64 2, Value.int .i64 t, Value.int .i64 0, Value.int .i64 0, Value.slice (some ⟨b, off, none⟩) m c]).toArray, .agg ([Value.int .i64 (t + (q : Int)), Value.int .i64 (n : Int)]).toArray] w (fun e w' => ∃ yr : Nat × Nat, e = .returned (.agg ([Value.int .i64 2, Value.int .i64 (t + (q : Int)), Value.int .i64 0, Value.int .i64 0, Value.slice (some ⟨yr.1, 0, none⟩) n yr.2]).toArray) ∧ (n ≤ yr.2 ∧ yr.2 ≤ maxLen) ∧ w.heap.size ≤ (⟨yr.1, 5, ((B.drop q).take n).map (Value.int .u8), yr.2⟩ : Ent).g ∧ St w [⟨yr.1, 5, ((B.drop q).take n).map (Value.int .u8), yr.2⟩] w') from (rpart2 t B b off m c q n hmc hcm hn hq ht w (hsA.at_ hs (fun b hb => (ne_app (ne_cons (by show g4 ≠ b; omega) (ne_cons (by show g3 ≠ b; omega) (ne_cons (by show gk ≠ b; omega) (ne_cons (by show g2 ≠ b; omega) (ne_cons (by show g1 ≠ b; omega) ne_nil))))) (ne_app ne_nil (hZ.ne hb)))))).mono fun e w' ⟨gv, cv, he, hgv, hcv, hmv, hw⟩ => ⟨(gv, cv), he, ⟨hcv, hmv⟩, hgv, hw⟩).mono fun e w' ⟨x, he, hR, hE, hw⟩ => ⟨x, he, hR, fresh_one hE, hw⟩) (fun yr hRr hEr => ?_)
  have hEr := fresh_head hEr
  obtain ⟨gr, cr⟩ := yr
  dsimp only at hRr hEr ⊢
  obtain ⟨hcr, hmr⟩ := hRr
  unfold maxLen at hmr
  refine TR.call0 (Wants.yes rfl rfl rfl) rfl enters12 rfl rfl (v := .bool true) (fun Z w hZ hs => (rsame_c 2 (t + (q : Int)) 0 0 2 (t + (q : Int)) 0 0 (some ⟨gk, 0, none⟩) (some ⟨gr, 0, none⟩) n ck n cr ((B.drop q).take n) ((B.drop q).take n) ((hB.drop q).take n) ((hB.drop q).take n) w (src_ent (hs.has (⟨gk, 5, ((B.drop q).take n).map (Value.int .u8), ck⟩) (by simp)) hlq) (src_ent (hs.has (⟨gr, 5, ((B.drop q).take n).map (Value.int .u8), cr⟩) (by simp)) hlq)).mono fun e w' h => by rw [decide_eq_true (p := sameP 2 (t + (q : Int)) 0 0 2 (t + (q : Int)) 0 0 ((B.drop q).take n) ((B.drop q).take n)) (⟨rfl, rfl, rfl, rfl, rfl⟩)] at h; exact h) ?_
  refine TR.free (Wants.none rfl) rfl (fun _ => Gets.pickT rfl rfl rfl) ?_
  refine TR.free (Wants.none rfl) rfl (fun _ => Gets.move rfl rfl) ?_
  refine TR.gets (Wants.yes rfl rfl rfl) rfl (fun Z hZ => Gets.loadN rfl agg27 size27 rfl (vs := [Value.int .i64 2, Value.int .i64 (t + (q : Int)), Value.int .i64 0, Value.int .i64 0, Value.slice (some ⟨gk, 0, none⟩) n ck]) (by simp []) (Row.all (i := 1) (ent := ⟨g3, 27, [Value.int .i64 2, Value.int .i64 (t + (q : Int)), Value.int .i64 0, Value.int .i64 0, Value.slice (some ⟨gk, 0, none⟩) n ck], 5⟩) rfl rfl rfl)) ?_
  refine TR.call0 (Wants.yes rfl rfl rfl) rfl enters13 rfl rfl (v := .int .i64 0) (fun Z w hZ hs => (check_c 2 (t + (q : Int)) 0 0 (some ⟨gk, 0, none⟩) n ck (by omega) (by omega) (by omega) (by omega) w).mono fun e w' h => by rw [(codeV2.2 ⟨by omega, rfl, rfl, hp⟩)] at h; exact h) ?_
  refine TR.free (Wants.yes rfl rfl rfl) rfl (fun _ => Gets.isTrue (Gets.eql rfl rfl rfl) rfl) ?_
  refine TR.free (Wants.none rfl) rfl (fun _ => Gets.pickT rfl rfl rfl) ?_
  refine TR.free (Wants.none rfl) rfl (fun _ => Gets.move rfl rfl) ?_
  refine TR.gets (Wants.yes rfl rfl rfl) rfl (fun Z hZ => Gets.loadN rfl agg27 size27 rfl (vs := [Value.int .i64 2, Value.int .i64 (t + (q : Int)), Value.int .i64 0, Value.int .i64 0, Value.slice (some ⟨gk, 0, none⟩) n ck]) (by simp []) (Row.all (i := 1) (ent := ⟨g3, 27, [Value.int .i64 2, Value.int .i64 (t + (q : Int)), Value.int .i64 0, Value.int .i64 0, Value.slice (some ⟨gk, 0, none⟩) n ck], 5⟩) rfl rfl rfl)) ?_
  refine TR.call0 (Wants.yes rfl rfl rfl) rfl enters17 rfl rfl (v := .agg ([Value.int .i64 (t + (q : Int)), Value.int .i64 (n : Int)]).toArray) (fun Z w hZ hs => target2 (t + (q : Int)) 0 0 (some ⟨gk, 0, none⟩) n ck w) ?_
  refine TR.gets (Wants.yes rfl rfl rfl) rfl (fun Z hZ => Gets.loadN rfl agg37 size37 rfl (vs := [Value.int .i64 (t + (q : Int)), Value.int .i64 (n : Int)]) (by simp []) (Row.all (i := 3) (ent := ⟨g2, 37, [Value.int .i64 (t + (q : Int)), Value.int .i64 (n : Int)], 2⟩) rfl rfl rfl)) ?_
  refine TR.free (Wants.yes rfl rfl rfl) rfl (fun _ => Gets.isTrue (Gets.pairEq rfl Try.underlying37 (by decide) (by decide) rfl rfl Try.underlying3 Try.underlying3 sih37 geq37 rfl rfl) ⟨rfl, rfl⟩) ?_
  refine TR.free (Wants.none rfl) rfl (fun _ => Gets.pickT rfl rfl rfl) ?_
  refine TR.free (Wants.none rfl) rfl (fun _ => Gets.assign rfl rfl) ?_
  refine TR.nil ?_
  refine TE.then ?_
  refine TC.ret ?_
  exact TE.ret1 rfl rfl (fun w hs => ⟨rfl, ((((((hs.drop (by assumption)).drop (by assumption)).drop (by assumption)).drop (by assumption)).drop (by assumption)).drop (by assumption))⟩)


theorem commandParts_walk (k t f l : Int) (A : Option Addr) (m c : Nat) (B : List Int) (p n : Int) (w : World) (bk : -9223372036854775808 ≤ k ∧ k ≤ 9223372036854775807) (bt : -9223372036854775808 ≤ t ∧ t ≤ 9223372036854775807) (bf : -9223372036854775808 ≤ f ∧ f ≤ 9223372036854775807) (bl : -9223372036854775808 ≤ l ∧ l ≤ 9223372036854775807) (hmc : m ≤ c) (hcm : c ≤ 140737488355327) (hB : Bytes B) (hsA : Src w A m .u8 B) (bp : -9223372036854775808 ≤ p ∧ p ≤ 9223372036854775807) (bn : -9223372036854775808 ≤ n ∧ n ≤ 9223372036854775807) :
    Calls Try.prog 6 #[.agg ([Value.int .i64 k, Value.int .i64 t, Value.int .i64 f, Value.int .i64 l, Value.slice A m c]).toArray, .agg ([Value.int .i64 p, Value.int .i64 n]).toArray] w fun e w' => e = .returned (.bool true) ∧ St w [] w' := by
  by_cases hv : codeV k t f l m = 0
  · by_cases hp : vld p n
    · by_cases hn : n = 0
      · rcases codeV0 hv with rfl | rfl
        · obtain ⟨h1, h2, h3, h4⟩ := codeV1.1 hv
          exact parts_zero1 t f l A m c p n hp (by unfold vld at h3; omega) h2 h3 h4 hn w
        · obtain ⟨h1, rfl, rfl, h4⟩ := codeV2.1 hv
          exact parts_zero2 t A m c p n hp (by omega) h4 (by omega) hn w
      · rcases codeV0 hv with rfl | rfl
        · obtain ⟨h1, h2, h3, h4⟩ := codeV1.1 hv
          by_cases hi : inside_ t l p n
          · exact parts_in1 t f l A m c p n hp (by unfold vld at h3; omega) h2 h3 h4 (by unfold vld at hp; omega) hi w
          · exact parts_out1 t f l A m c p n hp (by unfold vld at h3; omega) h2 h3 h4 hn hi w
        · obtain ⟨h1, rfl, rfl, h4⟩ := codeV2.1 hv
          by_cases hi : inside_ t m p n
          · unfold vld at hp
            unfold inside_ at hi
            obtain ⟨q, rfl⟩ : ∃ q : Nat, p = t + q := ⟨(p - t).toNat, by omega⟩
            obtain ⟨r, rfl⟩ : ∃ r : Nat, n = r := ⟨n.toNat, by omega⟩
            obtain ⟨b, off, rfl, hb2, hr⟩ := hsA.2.resolve_left h1
            exact parts_in2 t B b off m c q r hmc (by omega) (by omega) (by omega) h4 hB w hsA
          · exact parts_out2 t A m c p n hp (by omega) h4 (by omega) hn hi w
    · exact parts_ext k t f l A m c p n (by omega) bt bf bl bp bn hv hp w
  · exact parts_bad k t f l A m c p n (by omega) bt bf bl hv w
end Go.Proofs.Ytehnkhgcbcfoeaa
