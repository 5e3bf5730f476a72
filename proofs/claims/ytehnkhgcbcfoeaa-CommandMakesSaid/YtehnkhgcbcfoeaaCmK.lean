/-
  CommandDivides: the walk.
-/
import Derived.Test.YtehnkhgcbcfoeaaCmJ
namespace Go.Proofs.Ytehnkhgcbcfoeaa
set_option linter.unusedVariables false
set_option linter.unusedSimpArgs false
open Go Go.RowKit


theorem part2x (t p n : Int) (B : List Int) (b off m c q nn : Nat) (hmc : m ≤ c) (hcm : c ≤ 140737488355328) (hn : 1 ≤ nn) (hq : q + nn ≤ m) (ht : vld t m) (e1 : p = t + (q : Int)) (e2 : n = (nn : Int)) (w : World) (hsA : Src w (some ⟨b, off, none⟩) m .u8 B) :
    Calls Try.prog 22 #[.agg ([Value.int .i64 2, Value.int .i64 t, Value.int .i64 0, Value.int .i64 0, Value.slice (some ⟨b, off, none⟩) m c]).toArray, .agg ([Value.int .i64 p, Value.int .i64 n]).toArray] w fun e w' => ∃ g c', e = .returned (.tuple #[.agg ([Value.int .i64 2, Value.int .i64 p, Value.int .i64 0, Value.int .i64 0, Value.slice (some ⟨g, 0, none⟩) nn c']).toArray, .bool true]) ∧ w.heap.size ≤ g ∧ nn ≤ c' ∧ c' ≤ maxLen ∧ St w [⟨g, 5, ((B.drop q).take nn).map (Value.int .u8), c'⟩] w' := by
  subst e1; subst e2
  exact part2 t B b off m c q nn hmc hcm hn hq ht w hsA
theorem cut_len {B : List Int} {m q n : Nat} (h : B.length = m) (hq : q + n ≤ m) : ((B.drop q).take n).length = n := by rw [List.length_take, List.length_drop, h]; omega
theorem cut_two {B : List Int} {q r : Nat} (h : B.length = q + r) : (B.drop 0).take q ++ (B.drop q).take r = B := by
  rw [List.drop_zero, List.take_of_length_le (l := B.drop q) (by rw [List.length_drop]; omega), List.take_append_drop]

set_option maxRecDepth 100000 in
set_option maxHeartbeats 1000000 in
theorem div_bad (k t f l : Int) (A : Option Addr) (m c : Nat) (z : Int) (hmr : m ≤ 9223372036854775807) (bt : -9223372036854775808 ≤ t ∧ t ≤ 9223372036854775807) (bf : -9223372036854775808 ≤ f ∧ f ≤ 9223372036854775807) (bl : -9223372036854775808 ≤ l ∧ l ≤ 9223372036854775807) (hv : ¬ codeV k t f l m = 0) (w : World) : Calls Try.prog 7 #[.agg ([Value.int .i64 k, Value.int .i64 t, Value.int .i64 f, Value.int .i64 l, Value.slice A m c]).toArray, .int .i64 z] w fun e w' => e = .returned (.bool true) ∧ St w [] w' := by
  refine calls_from (args := [.agg ([Value.int .i64 k, Value.int .i64 t, Value.int .i64 f, Value.int .i64 l, Value.slice A m c]).toArray, .int .i64 z]) Try.func7 rfl Try.ntmps7 (by simp) ?_
  refine TC.sub (Sub.cons (i := 0) rfl (Sub.cons (i := 1) rfl (Sub.nil))) ?_
  refine TC.seq ?_
  refine TC.regionL ?_
  refine TL.box (Wants.none rfl) rfl rfl rfl (cs := [Value.int .i64 k, Value.int .i64 t, Value.int .i64 f, Value.int .i64 l, Value.slice A m c]) (by simp [Value.cells]) (tot := 5) (by simp []) (fun g1 hg1 => ?_)
  refine TL.gets (Wants.none rfl) rfl (Gets.assign rfl rfl) ?_
  refine TL.nil ?_
  refine TE.then ?_
  refine TC.seq ?_
  refine TC.seq ?_
  refine TC.regionL ?_
  refine TL.gets (Wants.none rfl) rfl (Gets.loadN rfl agg27 size27 rfl (vs := [Value.int .i64 k, Value.int .i64 t, Value.int .i64 f, Value.int .i64 l, Value.slice A m c]) (by simp []) (Row.all (i := 0) (ent := ⟨g1, 27, [Value.int .i64 k, Value.int .i64 t, Value.int .i64 f, Value.int .i64 l, Value.slice A m c], 5⟩) rfl rfl rfl)) ?_
  refine TL.call0 (Wants.none rfl) rfl enters14 rfl rfl (v := .int .i64 (codeV k t f l m)) (fun w hs => rcheck_c k t f l A m c (by omega) (by omega) (by omega) (by omega) w) ?_
  refine TL.gets (Wants.none rfl) rfl (Gets.isTrue (Gets.neq rfl rfl rfl) hv) ?_
  refine TL.nil ?_
  refine TE.then ?_
  refine TC.yes rfl ?_
  refine TC.seq ?_
  refine TC.regionL ?_
  refine TL.call0 (Wants.none rfl) rfl enters9 rfl rfl (v := .bool true) (fun w hs => alive_c w) ?_
  refine TL.gets (Wants.none rfl) rfl (Gets.assign rfl rfl) ?_
  refine TL.nil ?_
  refine TE.then ?_
  refine TC.ret ?_
  refine TE.thenR ?_
  exact TE.ret1 rfl rfl (fun w hs => ⟨rfl, (hs.drop (by assumption))⟩)

set_option maxRecDepth 100000 in
set_option maxHeartbeats 1000000 in
theorem div_out1 (t f l : Int) (A : Option Addr) (m c : Nat) (z : Int) (hl : 1 ≤ l) (hm : m = 0) (ht : vld t l) (hf : vld f l) (hz : z ≤ t ∨ t + l ≤ z) (w : World) : Calls Try.prog 7 #[.agg ([Value.int .i64 1, Value.int .i64 t, Value.int .i64 f, Value.int .i64 l, Value.slice A m c]).toArray, .int .i64 z] w fun e w' => e = .returned (.bool true) ∧ St w [] w' := by
  refine calls_from (args := [.agg ([Value.int .i64 1, Value.int .i64 t, Value.int .i64 f, Value.int .i64 l, Value.slice A m c]).toArray, .int .i64 z]) Try.func7 rfl Try.ntmps7 (by simp) ?_
  refine TC.sub (Sub.cons (i := 0) rfl (Sub.cons (i := 1) rfl (Sub.nil))) ?_
  refine TC.seq ?_
  have ht2 := ht
  have hf2 := hf
  unfold vld at ht2 hf2
  refine TC.regionL ?_
  refine TL.box (Wants.none rfl) rfl rfl rfl (cs := [Value.int .i64 1, Value.int .i64 t, Value.int .i64 f, Value.int .i64 l, Value.slice A m c]) (by simp [Value.cells]) (tot := 5) (by simp []) (fun g1 hg1 => ?_)
  refine TL.gets (Wants.none rfl) rfl (Gets.assign rfl rfl) ?_
  refine TL.nil ?_
  refine TE.then ?_
  refine TC.seq ?_
  refine TC.seq ?_
  refine TC.regionL ?_
  refine TL.gets (Wants.none rfl) rfl (Gets.loadN rfl agg27 size27 rfl (vs := [Value.int .i64 1, Value.int .i64 t, Value.int .i64 f, Value.int .i64 l, Value.slice A m c]) (by simp []) (Row.all (i := 0) (ent := ⟨g1, 27, [Value.int .i64 1, Value.int .i64 t, Value.int .i64 f, Value.int .i64 l, Value.slice A m c], 5⟩) rfl rfl rfl)) ?_
  refine TL.call0 (Wants.none rfl) rfl enters14 rfl rfl (v := .int .i64 0) (fun w hs => (rcheck_c 1 t f l A m c (by omega) (by omega) (by omega) (by omega) w).mono fun e w' h => by rw [(codeV1.2 ⟨by omega, hm, ht, hf⟩)] at h; exact h) ?_
  refine TL.gets (Wants.none rfl) rfl (Gets.isFalse (Gets.neq rfl rfl rfl) (by decide)) ?_
  refine TL.nil ?_
  refine TE.then ?_
  refine TC.no rfl ?_
  refine TC.skip ?_
  refine TE.then ?_
  refine TC.seq ?_
  refine TC.regionL ?_
  refine TL.gets (Wants.none rfl) rfl (Gets.loadN rfl agg27 size27 rfl (vs := [Value.int .i64 1, Value.int .i64 t, Value.int .i64 f, Value.int .i64 l, Value.slice A m c]) (by simp []) (Row.all (i := 0) (ent := ⟨g1, 27, [Value.int .i64 1, Value.int .i64 t, Value.int .i64 f, Value.int .i64 l, Value.slice A m c], 5⟩) rfl rfl rfl)) ?_
  refine TL.call0 (Wants.none rfl) rfl enters18 rfl rfl (v := .agg ([Value.int .i64 t, Value.int .i64 l]).toArray) (fun w hs => rtarget1 t f l A m c w) ?_
  refine TL.alloc (Wants.none rfl) rfl rfl zero37 (cs := [Value.int .i64 0, Value.int .i64 0]) rfl (tot := 2) (by simp) (fun g2 hg2 => ?_)
  refine TL.storeW (Wants.none rfl) rfl rfl size37 rfl (vs := [Value.int .i64 t, Value.int .i64 l]) rfl (by simp []) (by simp [Value.oneCell']) (i := 0) (ent := ⟨g2, 37, [Value.int .i64 0, Value.int .i64 0], 2⟩) rfl rfl (by simp []) (H' := [⟨g2, 37, [Value.int .i64 t, Value.int .i64 l], 2⟩, ⟨g1, 27, [Value.int .i64 1, Value.int .i64 t, Value.int .i64 f, Value.int .i64 l, Value.slice A m c], 5⟩]) rfl ?_
  refine TL.nil ?_
  refine TE.then ?_
  refine TC.sub (Sub.cons (i := 1) rfl (Sub.cons (i := 2) rfl (Sub.cons (i := 4) rfl (Sub.cons (i := 5) rfl (Sub.nil))))) ?_
  refine TC.seq ?_
  refine TC.seq ?_
  refine TC.regionL ?_
  refine TL.gets (Wants.none rfl) rfl (Gets.move rfl rfl) ?_
  refine TL.gets (Wants.none rfl) rfl (Gets.fieldAddr rfl Try.underlying37 rfl size3 rfl (off' := 0) (by first | rfl | omega)) ?_
  refine TL.gets (Wants.none rfl) rfl (Gets.load1 rfl agg3 rfl (At.ent (i := 0) (ent := ⟨g2, 37, [Value.int .i64 t, Value.int .i64 l], 2⟩) (off := 0) rfl rfl (by exact rfl))) ?_
  by_cases x1 : z ≤ t
  · refine TL.gets (Wants.none rfl) rfl (Gets.isTrue (Gets.leq rfl rfl rfl) x1) ?_
    refine TL.gets (Wants.none rfl) rfl (Gets.move rfl rfl) ?_
    refine TL.pass rfl rfl rfl rfl rfl ?_
    refine TL.pass rfl rfl rfl rfl rfl ?_
    refine TL.pass rfl rfl rfl rfl rfl ?_
    refine TL.pass rfl rfl rfl rfl rfl ?_
    refine TL.pass rfl rfl rfl rfl rfl ?_
    refine TL.pass rfl rfl rfl rfl rfl ?_
    refine TL.pass rfl rfl rfl rfl rfl ?_
    refine TL.gets (Wants.none rfl) rfl (Gets.pickT rfl rfl rfl) ?_
    refine TL.nil ?_
    refine TE.then ?_
    refine TC.sub (Sub.cons (i := 1) rfl (Sub.cons (i := 2) rfl (Sub.cons (i := 4) rfl (Sub.cons (i := 5) rfl (Sub.cons (i := 28) rfl (Sub.nil)))))) ?_
    refine TC.yes rfl ?_
    refine TC.seq ?_
    refine TC.regionL ?_
    refine TL.call0 (Wants.none rfl) rfl enters9 rfl rfl (v := .bool true) (fun w hs => alive_c w) ?_
    refine TL.gets (Wants.none rfl) rfl (Gets.assign rfl rfl) ?_
    refine TL.nil ?_
    refine TE.then ?_
    refine TC.ret ?_
    refine TE.thenR ?_
    exact TE.ret1 rfl rfl (fun w hs => ⟨rfl, ((hs.drop (by assumption)).drop (by assumption))⟩)
  · refine TL.gets (Wants.none rfl) rfl (Gets.isFalse (Gets.leq rfl rfl rfl) x1) ?_
    refine TL.gets (Wants.none rfl) rfl (Gets.move rfl rfl) ?_
    refine TL.gets (Wants.yes rfl rfl rfl) rfl (Gets.move rfl rfl) ?_
    refine TL.gets (Wants.yes rfl rfl rfl) rfl (Gets.fieldAddr rfl Try.underlying37 rfl size3 rfl (off' := 0) (by first | rfl | omega)) ?_
    refine TL.gets (Wants.yes rfl rfl rfl) rfl (Gets.load1 rfl agg3 rfl (At.ent (i := 0) (ent := ⟨g2, 37, [Value.int .i64 t, Value.int .i64 l], 2⟩) (off := 0) rfl rfl (by exact rfl))) ?_
    refine TL.gets (Wants.yes rfl rfl rfl) rfl (Gets.fieldAddr rfl Try.underlying37 rfl size3 rfl (off' := 1) (by first | rfl | omega)) ?_
    refine TL.gets (Wants.yes rfl rfl rfl) rfl (Gets.load1 rfl agg3 rfl (At.ent (i := 0) (ent := ⟨g2, 37, [Value.int .i64 t, Value.int .i64 l], 2⟩) (off := 1) rfl rfl (by exact rfl))) ?_
    refine TL.gets (Wants.yes rfl rfl rfl) rfl (Gets.add rfl rfl rfl (r := (t + l)) (w64 (by omega) (by omega))) ?_
    by_cases x2 : (t + l) ≤ z
    · refine TL.gets (Wants.yes rfl rfl rfl) rfl (Gets.isTrue (Gets.geq rfl rfl rfl) x2) ?_
      refine TL.gets (Wants.none rfl) rfl (Gets.pickF rfl rfl rfl) ?_
      refine TL.nil ?_
      refine TE.then ?_
      refine TC.sub (Sub.cons (i := 1) rfl (Sub.cons (i := 2) rfl (Sub.cons (i := 4) rfl (Sub.cons (i := 5) rfl (Sub.cons (i := 28) rfl (Sub.nil)))))) ?_
      refine TC.yes rfl ?_
      refine TC.seq ?_
      refine TC.regionL ?_
      refine TL.call0 (Wants.none rfl) rfl enters9 rfl rfl (v := .bool true) (fun w hs => alive_c w) ?_
      refine TL.gets (Wants.none rfl) rfl (Gets.assign rfl rfl) ?_
      refine TL.nil ?_
      refine TE.then ?_
      refine TC.ret ?_
      refine TE.thenR ?_
      exact TE.ret1 rfl rfl (fun w hs => ⟨rfl, ((hs.drop (by assumption)).drop (by assumption))⟩)
    · refine TL.gets (Wants.yes rfl rfl rfl) rfl (Gets.isFalse (Gets.geq rfl rfl rfl) x2) ?_
      refine TL.gets (Wants.none rfl) rfl (Gets.pickF rfl rfl rfl) ?_
      refine TL.nil ?_
      refine TE.then ?_
      refine TC.sub (Sub.cons (i := 1) rfl (Sub.cons (i := 2) rfl (Sub.cons (i := 4) rfl (Sub.cons (i := 5) rfl (Sub.cons (i := 28) rfl (Sub.nil)))))) ?_
      refine TC.no rfl ?_
      refine TC.skip ?_
      refine TE.then ?_
      refine TC.seq ?_
      exfalso; omega

set_option maxRecDepth 100000 in
set_option maxHeartbeats 1000000 in
theorem div_out2 (t : Int) (A : Option Addr) (m c : Nat) (z : Int) (h0 : 0 < m) (ht : vld t m) (hmr : m ≤ 9223372036854775807) (hz : z ≤ t ∨ t + (m : Int) ≤ z) (w : World) : Calls Try.prog 7 #[.agg ([Value.int .i64 2, Value.int .i64 t, Value.int .i64 0, Value.int .i64 0, Value.slice A m c]).toArray, .int .i64 z] w fun e w' => e = .returned (.bool true) ∧ St w [] w' := by
  refine calls_from (args := [.agg ([Value.int .i64 2, Value.int .i64 t, Value.int .i64 0, Value.int .i64 0, Value.slice A m c]).toArray, .int .i64 z]) Try.func7 rfl Try.ntmps7 (by simp) ?_
  refine TC.sub (Sub.cons (i := 0) rfl (Sub.cons (i := 1) rfl (Sub.nil))) ?_
  refine TC.seq ?_
  have ht2 := ht
  unfold vld at ht2
  refine TC.regionL ?_
  refine TL.box (Wants.none rfl) rfl rfl rfl (cs := [Value.int .i64 2, Value.int .i64 t, Value.int .i64 0, Value.int .i64 0, Value.slice A m c]) (by simp [Value.cells]) (tot := 5) (by simp []) (fun g1 hg1 => ?_)
  refine TL.gets (Wants.none rfl) rfl (Gets.assign rfl rfl) ?_
  refine TL.nil ?_
  refine TE.then ?_
  refine TC.seq ?_
  refine TC.seq ?_
  refine TC.regionL ?_
  refine TL.gets (Wants.none rfl) rfl (Gets.loadN rfl agg27 size27 rfl (vs := [Value.int .i64 2, Value.int .i64 t, Value.int .i64 0, Value.int .i64 0, Value.slice A m c]) (by simp []) (Row.all (i := 0) (ent := ⟨g1, 27, [Value.int .i64 2, Value.int .i64 t, Value.int .i64 0, Value.int .i64 0, Value.slice A m c], 5⟩) rfl rfl rfl)) ?_
  refine TL.call0 (Wants.none rfl) rfl enters14 rfl rfl (v := .int .i64 0) (fun w hs => (rcheck_c 2 t 0 0 A m c (by omega) (by omega) (by omega) (by omega) w).mono fun e w' h => by rw [(codeV2.2 ⟨by omega, rfl, rfl, ht⟩)] at h; exact h) ?_
  refine TL.gets (Wants.none rfl) rfl (Gets.isFalse (Gets.neq rfl rfl rfl) (by decide)) ?_
  refine TL.nil ?_
  refine TE.then ?_
  refine TC.no rfl ?_
  refine TC.skip ?_
  refine TE.then ?_
  refine TC.seq ?_
  refine TC.regionL ?_
  refine TL.gets (Wants.none rfl) rfl (Gets.loadN rfl agg27 size27 rfl (vs := [Value.int .i64 2, Value.int .i64 t, Value.int .i64 0, Value.int .i64 0, Value.slice A m c]) (by simp []) (Row.all (i := 0) (ent := ⟨g1, 27, [Value.int .i64 2, Value.int .i64 t, Value.int .i64 0, Value.int .i64 0, Value.slice A m c], 5⟩) rfl rfl rfl)) ?_
  refine TL.call0 (Wants.none rfl) rfl enters18 rfl rfl (v := .agg ([Value.int .i64 t, Value.int .i64 (m : Int)]).toArray) (fun w hs => rtarget2 2 t 0 0 A m c (by omega) w) ?_
  refine TL.alloc (Wants.none rfl) rfl rfl zero37 (cs := [Value.int .i64 0, Value.int .i64 0]) rfl (tot := 2) (by simp) (fun g2 hg2 => ?_)
  refine TL.storeW (Wants.none rfl) rfl rfl size37 rfl (vs := [Value.int .i64 t, Value.int .i64 (m : Int)]) rfl (by simp []) (by simp [Value.oneCell']) (i := 0) (ent := ⟨g2, 37, [Value.int .i64 0, Value.int .i64 0], 2⟩) rfl rfl (by simp []) (H' := [⟨g2, 37, [Value.int .i64 t, Value.int .i64 (m : Int)], 2⟩, ⟨g1, 27, [Value.int .i64 2, Value.int .i64 t, Value.int .i64 0, Value.int .i64 0, Value.slice A m c], 5⟩]) rfl ?_
  refine TL.nil ?_
  refine TE.then ?_
  refine TC.sub (Sub.cons (i := 1) rfl (Sub.cons (i := 2) rfl (Sub.cons (i := 4) rfl (Sub.cons (i := 5) rfl (Sub.nil))))) ?_
  refine TC.seq ?_
  refine TC.seq ?_
  refine TC.regionL ?_
  refine TL.gets (Wants.none rfl) rfl (Gets.move rfl rfl) ?_
  refine TL.gets (Wants.none rfl) rfl (Gets.fieldAddr rfl Try.underlying37 rfl size3 rfl (off' := 0) (by first | rfl | omega)) ?_
  refine TL.gets (Wants.none rfl) rfl (Gets.load1 rfl agg3 rfl (At.ent (i := 0) (ent := ⟨g2, 37, [Value.int .i64 t, Value.int .i64 (m : Int)], 2⟩) (off := 0) rfl rfl (by exact rfl))) ?_
  by_cases x1 : z ≤ t
  · refine TL.gets (Wants.none rfl) rfl (Gets.isTrue (Gets.leq rfl rfl rfl) x1) ?_
    refine TL.gets (Wants.none rfl) rfl (Gets.move rfl rfl) ?_
    refine TL.pass rfl rfl rfl rfl rfl ?_
    refine TL.pass rfl rfl rfl rfl rfl ?_
    refine TL.pass rfl rfl rfl rfl rfl ?_
    refine TL.pass rfl rfl rfl rfl rfl ?_
    refine TL.pass rfl rfl rfl rfl rfl ?_
    refine TL.pass rfl rfl rfl rfl rfl ?_
    refine TL.pass rfl rfl rfl rfl rfl ?_
    refine TL.gets (Wants.none rfl) rfl (Gets.pickT rfl rfl rfl) ?_
    refine TL.nil ?_
    refine TE.then ?_
    refine TC.sub (Sub.cons (i := 1) rfl (Sub.cons (i := 2) rfl (Sub.cons (i := 4) rfl (Sub.cons (i := 5) rfl (Sub.cons (i := 28) rfl (Sub.nil)))))) ?_
    refine TC.yes rfl ?_
    refine TC.seq ?_
    refine TC.regionL ?_
    refine TL.call0 (Wants.none rfl) rfl enters9 rfl rfl (v := .bool true) (fun w hs => alive_c w) ?_
    refine TL.gets (Wants.none rfl) rfl (Gets.assign rfl rfl) ?_
    refine TL.nil ?_
    refine TE.then ?_
    refine TC.ret ?_
    refine TE.thenR ?_
    exact TE.ret1 rfl rfl (fun w hs => ⟨rfl, ((hs.drop (by assumption)).drop (by assumption))⟩)
  · refine TL.gets (Wants.none rfl) rfl (Gets.isFalse (Gets.leq rfl rfl rfl) x1) ?_
    refine TL.gets (Wants.none rfl) rfl (Gets.move rfl rfl) ?_
    refine TL.gets (Wants.yes rfl rfl rfl) rfl (Gets.move rfl rfl) ?_
    refine TL.gets (Wants.yes rfl rfl rfl) rfl (Gets.fieldAddr rfl Try.underlying37 rfl size3 rfl (off' := 0) (by first | rfl | omega)) ?_
    refine TL.gets (Wants.yes rfl rfl rfl) rfl (Gets.load1 rfl agg3 rfl (At.ent (i := 0) (ent := ⟨g2, 37, [Value.int .i64 t, Value.int .i64 (m : Int)], 2⟩) (off := 0) rfl rfl (by exact rfl))) ?_
    refine TL.gets (Wants.yes rfl rfl rfl) rfl (Gets.fieldAddr rfl Try.underlying37 rfl size3 rfl (off' := 1) (by first | rfl | omega)) ?_
    refine TL.gets (Wants.yes rfl rfl rfl) rfl (Gets.load1 rfl agg3 rfl (At.ent (i := 0) (ent := ⟨g2, 37, [Value.int .i64 t, Value.int .i64 (m : Int)], 2⟩) (off := 1) rfl rfl (by exact rfl))) ?_
    refine TL.gets (Wants.yes rfl rfl rfl) rfl (Gets.add rfl rfl rfl (r := (t + (m : Int))) (w64 (by omega) (by omega))) ?_
    by_cases x2 : (t + (m : Int)) ≤ z
    · refine TL.gets (Wants.yes rfl rfl rfl) rfl (Gets.isTrue (Gets.geq rfl rfl rfl) x2) ?_
      refine TL.gets (Wants.none rfl) rfl (Gets.pickF rfl rfl rfl) ?_
      refine TL.nil ?_
      refine TE.then ?_
      refine TC.sub (Sub.cons (i := 1) rfl (Sub.cons (i := 2) rfl (Sub.cons (i := 4) rfl (Sub.cons (i := 5) rfl (Sub.cons (i := 28) rfl (Sub.nil)))))) ?_
      refine TC.yes rfl ?_
      refine TC.seq ?_
      refine TC.regionL ?_
      refine TL.call0 (Wants.none rfl) rfl enters9 rfl rfl (v := .bool true) (fun w hs => alive_c w) ?_
      refine TL.gets (Wants.none rfl) rfl (Gets.assign rfl rfl) ?_
      refine TL.nil ?_
      refine TE.then ?_
      refine TC.ret ?_
      refine TE.thenR ?_
      exact TE.ret1 rfl rfl (fun w hs => ⟨rfl, ((hs.drop (by assumption)).drop (by assumption))⟩)
    · refine TL.gets (Wants.yes rfl rfl rfl) rfl (Gets.isFalse (Gets.geq rfl rfl rfl) x2) ?_
      refine TL.gets (Wants.none rfl) rfl (Gets.pickF rfl rfl rfl) ?_
      refine TL.nil ?_
      refine TE.then ?_
      refine TC.sub (Sub.cons (i := 1) rfl (Sub.cons (i := 2) rfl (Sub.cons (i := 4) rfl (Sub.cons (i := 5) rfl (Sub.cons (i := 28) rfl (Sub.nil)))))) ?_
      refine TC.no rfl ?_
      refine TC.skip ?_
      refine TE.then ?_
      refine TC.seq ?_
      exfalso; omega

set_option maxRecDepth 100000 in
set_option maxHeartbeats 1000000 in
theorem div_in1 (t f l : Int) (A : Option Addr) (m c : Nat) (z : Int) (hl : 1 ≤ l) (hm : m = 0) (ht : vld t l) (hf : vld f l) (h1 : t < z) (h2 : z < t + l) (w : World) : Calls Try.prog 7 #[.agg ([Value.int .i64 1, Value.int .i64 t, Value.int .i64 f, Value.int .i64 l, Value.slice A m c]).toArray, .int .i64 z] w fun e w' => e = .returned (.bool true) ∧ St w [] w' := by
  refine calls_from (args := [.agg ([Value.int .i64 1, Value.int .i64 t, Value.int .i64 f, Value.int .i64 l, Value.slice A m c]).toArray, .int .i64 z]) Try.func7 rfl Try.ntmps7 (by simp) ?_
  refine TC.sub (Sub.cons (i := 0) rfl (Sub.cons (i := 1) rfl (Sub.nil))) ?_
  refine TC.seq ?_
  have ht2 := ht
  have hf2 := hf
  unfold vld at ht2 hf2
  refine TC.regionL ?_
  refine TL.box (Wants.none rfl) rfl rfl rfl (cs := [Value.int .i64 1, Value.int .i64 t, Value.int .i64 f, Value.int .i64 l, Value.slice A m c]) (by simp [Value.cells]) (tot := 5) (by simp []) (fun g1 hg1 => ?_)
  refine TL.gets (Wants.none rfl) rfl (Gets.assign rfl rfl) ?_
  refine TL.nil ?_
  refine TE.then ?_
  refine TC.seq ?_
  refine TC.seq ?_
  refine TC.regionL ?_
  refine TL.gets (Wants.none rfl) rfl (Gets.loadN rfl agg27 size27 rfl (vs := [Value.int .i64 1, Value.int .i64 t, Value.int .i64 f, Value.int .i64 l, Value.slice A m c]) (by simp []) (Row.all (i := 0) (ent := ⟨g1, 27, [Value.int .i64 1, Value.int .i64 t, Value.int .i64 f, Value.int .i64 l, Value.slice A m c], 5⟩) rfl rfl rfl)) ?_
  refine TL.call0 (Wants.none rfl) rfl enters14 rfl rfl (v := .int .i64 0) (fun w hs => (rcheck_c 1 t f l A m c (by omega) (by omega) (by omega) (by omega) w).mono fun e w' h => by rw [(codeV1.2 ⟨by omega, hm, ht, hf⟩)] at h; exact h) ?_
  refine TL.gets (Wants.none rfl) rfl (Gets.isFalse (Gets.neq rfl rfl rfl) (by decide)) ?_
  refine TL.nil ?_
  refine TE.then ?_
  refine TC.no rfl ?_
  refine TC.skip ?_
  refine TE.then ?_
  refine TC.seq ?_
  refine TC.regionL ?_
  refine TL.gets (Wants.none rfl) rfl (Gets.loadN rfl agg27 size27 rfl (vs := [Value.int .i64 1, Value.int .i64 t, Value.int .i64 f, Value.int .i64 l, Value.slice A m c]) (by simp []) (Row.all (i := 0) (ent := ⟨g1, 27, [Value.int .i64 1, Value.int .i64 t, Value.int .i64 f, Value.int .i64 l, Value.slice A m c], 5⟩) rfl rfl rfl)) ?_
  refine TL.call0 (Wants.none rfl) rfl enters18 rfl rfl (v := .agg ([Value.int .i64 t, Value.int .i64 l]).toArray) (fun w hs => rtarget1 t f l A m c w) ?_
  refine TL.alloc (Wants.none rfl) rfl rfl zero37 (cs := [Value.int .i64 0, Value.int .i64 0]) rfl (tot := 2) (by simp) (fun g2 hg2 => ?_)
  refine TL.storeW (Wants.none rfl) rfl rfl size37 rfl (vs := [Value.int .i64 t, Value.int .i64 l]) rfl (by simp []) (by simp [Value.oneCell']) (i := 0) (ent := ⟨g2, 37, [Value.int .i64 0, Value.int .i64 0], 2⟩) rfl rfl (by simp []) (H' := [⟨g2, 37, [Value.int .i64 t, Value.int .i64 l], 2⟩, ⟨g1, 27, [Value.int .i64 1, Value.int .i64 t, Value.int .i64 f, Value.int .i64 l, Value.slice A m c], 5⟩]) rfl ?_
  refine TL.nil ?_
  refine TE.then ?_
  refine TC.sub (Sub.cons (i := 1) rfl (Sub.cons (i := 2) rfl (Sub.cons (i := 4) rfl (Sub.cons (i := 5) rfl (Sub.nil))))) ?_
  refine TC.seq ?_
  refine TC.seq ?_
  refine TC.regionL ?_
  refine TL.gets (Wants.none rfl) rfl (Gets.move rfl rfl) ?_
  refine TL.gets (Wants.none rfl) rfl (Gets.fieldAddr rfl Try.underlying37 rfl size3 rfl (off' := 0) (by first | rfl | omega)) ?_
  refine TL.gets (Wants.none rfl) rfl (Gets.load1 rfl agg3 rfl (At.ent (i := 0) (ent := ⟨g2, 37, [Value.int .i64 t, Value.int .i64 l], 2⟩) (off := 0) rfl rfl (by exact rfl))) ?_
  refine TL.gets (Wants.none rfl) rfl (Gets.isFalse (Gets.leq rfl rfl rfl) (by omega)) ?_
  refine TL.gets (Wants.none rfl) rfl (Gets.move rfl rfl) ?_
  refine TL.gets (Wants.yes rfl rfl rfl) rfl (Gets.move rfl rfl) ?_
  refine TL.gets (Wants.yes rfl rfl rfl) rfl (Gets.fieldAddr rfl Try.underlying37 rfl size3 rfl (off' := 0) (by first | rfl | omega)) ?_
  refine TL.gets (Wants.yes rfl rfl rfl) rfl (Gets.load1 rfl agg3 rfl (At.ent (i := 0) (ent := ⟨g2, 37, [Value.int .i64 t, Value.int .i64 l], 2⟩) (off := 0) rfl rfl (by exact rfl))) ?_
  refine TL.gets (Wants.yes rfl rfl rfl) rfl (Gets.fieldAddr rfl Try.underlying37 rfl size3 rfl (off' := 1) (by first | rfl | omega)) ?_
  refine TL.gets (Wants.yes rfl rfl rfl) rfl (Gets.load1 rfl agg3 rfl (At.ent (i := 0) (ent := ⟨g2, 37, [Value.int .i64 t, Value.int .i64 l], 2⟩) (off := 1) rfl rfl (by exact rfl))) ?_
  refine TL.gets (Wants.yes rfl rfl rfl) rfl (Gets.add rfl rfl rfl (r := (t + l)) (w64 (by omega) (by omega))) ?_
  refine TL.gets (Wants.yes rfl rfl rfl) rfl (Gets.isFalse (Gets.geq rfl rfl rfl) (by omega)) ?_
  refine TL.gets (Wants.none rfl) rfl (Gets.pickF rfl rfl rfl) ?_
  refine TL.nil ?_
  refine TE.then ?_
  refine TC.sub (Sub.cons (i := 1) rfl (Sub.cons (i := 2) rfl (Sub.cons (i := 4) rfl (Sub.cons (i := 5) rfl (Sub.cons (i := 28) rfl (Sub.nil)))))) ?_
  refine TC.no rfl ?_
  refine TC.skip ?_
  refine TE.then ?_
  refine TC.seq ?_
  refine TC.regionL ?_
  refine TL.gets (Wants.none rfl) rfl (Gets.loadN rfl agg27 size27 rfl (vs := [Value.int .i64 1, Value.int .i64 t, Value.int .i64 f, Value.int .i64 l, Value.slice A m c]) (by simp []) (Row.all (i := 1) (ent := ⟨g1, 27, [Value.int .i64 1, Value.int .i64 t, Value.int .i64 f, Value.int .i64 l, Value.slice A m c], 5⟩) rfl rfl rfl)) ?_
  refine TL.gets (Wants.none rfl) rfl (Gets.fieldAddr rfl Try.underlying37 rfl size3 rfl (off' := 0) (by first | rfl | omega)) ?_
  refine TL.gets (Wants.none rfl) rfl (Gets.load1 rfl agg3 rfl (At.ent (i := 0) (ent := ⟨g2, 37, [Value.int .i64 t, Value.int .i64 l], 2⟩) (off := 0) rfl rfl (by exact rfl))) ?_
  refine TL.gets (Wants.none rfl) rfl (Gets.move rfl rfl) ?_
  refine TL.gets (Wants.none rfl) rfl (Gets.fieldAddr rfl Try.underlying37 rfl size3 rfl (off' := 0) (by first | rfl | omega)) ?_
  refine TL.gets (Wants.none rfl) rfl (Gets.load1 rfl agg3 rfl (At.ent (i := 0) (ent := ⟨g2, 37, [Value.int .i64 t, Value.int .i64 l], 2⟩) (off := 0) rfl rfl (by exact rfl))) ?_
  refine TL.gets (Wants.none rfl) rfl (Gets.sub rfl rfl rfl (r := (z - t)) (w64 (by omega) (by omega))) ?_
  refine TL.gets (Wants.none rfl) rfl (Gets.build rfl (vs := [(0, Value.int .i64 t), (1, Value.int .i64 (z - t))]) rfl (fun w => by first | rfl | kernel_rfl) (v := .agg ([Value.int .i64 t, Value.int .i64 (z - t)]).toArray)) ?_
  refine TL.call0 (Wants.none rfl) rfl enters22 rfl rfl (v := .tuple #[.agg ([Value.int .i64 1, Value.int .i64 t, Value.int .i64 (f + t - t), Value.int .i64 (z - t), Value.slice none 0 0]).toArray, .bool true]) (fun w hs => part1 t f l A m c t (z - t) (by unfold vld; omega) hl hm ht hf (by omega) (by unfold inside_; omega) w) ?_
  refine TL.gets (Wants.none rfl) rfl (Gets.move rfl rfl) ?_
  refine TL.gets (Wants.none rfl) rfl (Gets.extract rfl rfl rfl) ?_
  refine TL.gets (Wants.none rfl) rfl (Gets.extract rfl rfl rfl) ?_
  refine TL.alloc (Wants.none rfl) rfl rfl zero27 (cs := [Value.int .i64 0, Value.int .i64 0, Value.int .i64 0, Value.int .i64 0, Value.slice none 0 0]) rfl (tot := 5) (by simp) (fun g3 hg3 => ?_)
  refine TL.storeW (Wants.none rfl) rfl rfl size27 rfl (vs := [Value.int .i64 1, Value.int .i64 t, Value.int .i64 (f + t - t), Value.int .i64 (z - t), Value.slice none 0 0]) rfl (by simp []) (by simp [Value.oneCell']) (i := 0) (ent := ⟨g3, 27, [Value.int .i64 0, Value.int .i64 0, Value.int .i64 0, Value.int .i64 0, Value.slice none 0 0], 5⟩) rfl rfl (by simp []) (H' := [⟨g3, 27, [Value.int .i64 1, Value.int .i64 t, Value.int .i64 (f + t - t), Value.int .i64 (z - t), Value.slice none 0 0], 5⟩, ⟨g2, 37, [Value.int .i64 t, Value.int .i64 l], 2⟩, ⟨g1, 27, [Value.int .i64 1, Value.int .i64 t, Value.int .i64 f, Value.int .i64 l, Value.slice A m c], 5⟩]) rfl ?_
  refine TL.gets (Wants.none rfl) rfl (Gets.assign rfl rfl) ?_
  refine TL.nil ?_
  refine TE.then ?_
  refine TC.sub (Sub.cons (i := 1) rfl (Sub.cons (i := 2) rfl (Sub.cons (i := 4) rfl (Sub.cons (i := 5) rfl (Sub.cons (i := 6) rfl (Sub.cons (i := 7) rfl (Sub.nil))))))) ?_
  refine TC.seq ?_
  refine TC.regionL ?_
  refine TL.gets (Wants.none rfl) rfl (Gets.loadN rfl agg27 size27 rfl (vs := [Value.int .i64 1, Value.int .i64 t, Value.int .i64 f, Value.int .i64 l, Value.slice A m c]) (by simp []) (Row.all (i := 2) (ent := ⟨g1, 27, [Value.int .i64 1, Value.int .i64 t, Value.int .i64 f, Value.int .i64 l, Value.slice A m c], 5⟩) rfl rfl rfl)) ?_
  refine TL.gets (Wants.none rfl) rfl (Gets.move rfl rfl) ?_
  refine TL.gets (Wants.none rfl) rfl (Gets.fieldAddr rfl Try.underlying37 rfl size3 rfl (off' := 0) (by first | rfl | omega)) ?_
  refine TL.gets (Wants.none rfl) rfl (Gets.load1 rfl agg3 rfl (At.ent (i := 1) (ent := ⟨g2, 37, [Value.int .i64 t, Value.int .i64 l], 2⟩) (off := 0) rfl rfl (by exact rfl))) ?_
  refine TL.gets (Wants.none rfl) rfl (Gets.fieldAddr rfl Try.underlying37 rfl size3 rfl (off' := 1) (by first | rfl | omega)) ?_
  refine TL.gets (Wants.none rfl) rfl (Gets.load1 rfl agg3 rfl (At.ent (i := 1) (ent := ⟨g2, 37, [Value.int .i64 t, Value.int .i64 l], 2⟩) (off := 1) rfl rfl (by exact rfl))) ?_
  refine TL.gets (Wants.none rfl) rfl (Gets.add rfl rfl rfl (r := (t + l)) (w64 (by omega) (by omega))) ?_
  refine TL.gets (Wants.none rfl) rfl (Gets.move rfl rfl) ?_
  refine TL.gets (Wants.none rfl) rfl (Gets.sub rfl rfl rfl (r := (t + l - z)) (w64 (by omega) (by omega))) ?_
  refine TL.gets (Wants.none rfl) rfl (Gets.build rfl (vs := [(0, Value.int .i64 z), (1, Value.int .i64 (t + l - z))]) rfl (fun w => by first | rfl | kernel_rfl) (v := .agg ([Value.int .i64 z, Value.int .i64 (t + l - z)]).toArray)) ?_
  refine TL.call0 (Wants.none rfl) rfl enters22 rfl rfl (v := .tuple #[.agg ([Value.int .i64 1, Value.int .i64 z, Value.int .i64 (f + z - t), Value.int .i64 (t + l - z), Value.slice none 0 0]).toArray, .bool true]) (fun w hs => part1 t f l A m c z (t + l - z) (by unfold vld; omega) hl hm ht hf (by omega) (by unfold inside_; omega) w) ?_
  refine TL.gets (Wants.none rfl) rfl (Gets.move rfl rfl) ?_
  refine TL.gets (Wants.none rfl) rfl (Gets.extract rfl rfl rfl) ?_
  refine TL.gets (Wants.none rfl) rfl (Gets.extract rfl rfl rfl) ?_
  refine TL.alloc (Wants.none rfl) rfl rfl zero27 (cs := [Value.int .i64 0, Value.int .i64 0, Value.int .i64 0, Value.int .i64 0, Value.slice none 0 0]) rfl (tot := 5) (by simp) (fun g4 hg4 => ?_)
  refine TL.storeW (Wants.none rfl) rfl rfl size27 rfl (vs := [Value.int .i64 1, Value.int .i64 z, Value.int .i64 (f + z - t), Value.int .i64 (t + l - z), Value.slice none 0 0]) rfl (by simp []) (by simp [Value.oneCell']) (i := 0) (ent := ⟨g4, 27, [Value.int .i64 0, Value.int .i64 0, Value.int .i64 0, Value.int .i64 0, Value.slice none 0 0], 5⟩) rfl rfl (by simp []) (H' := [⟨g4, 27, [Value.int .i64 1, Value.int .i64 z, Value.int .i64 (f + z - t), Value.int .i64 (t + l - z), Value.slice none 0 0], 5⟩, ⟨g3, 27, [Value.int .i64 1, Value.int .i64 t, Value.int .i64 (f + t - t), Value.int .i64 (z - t), Value.slice none 0 0], 5⟩, ⟨g2, 37, [Value.int .i64 t, Value.int .i64 l], 2⟩, ⟨g1, 27, [Value.int .i64 1, Value.int .i64 t, Value.int .i64 f, Value.int .i64 l, Value.slice A m c], 5⟩]) rfl ?_
  refine TL.gets (Wants.none rfl) rfl (Gets.assign rfl rfl) ?_
  refine TL.nil ?_
  refine TE.then ?_
  refine TC.sub (Sub.cons (i := 2) rfl (Sub.cons (i := 4) rfl (Sub.cons (i := 6) rfl (Sub.cons (i := 7) rfl (Sub.cons (i := 8) rfl (Sub.cons (i := 9) rfl (Sub.nil))))))) ?_
  refine TC.seq ?_
  refine TC.seq ?_
  refine TC.regionL ?_
  refine TL.gets (Wants.none rfl) rfl (Gets.move rfl rfl) ?_
  refine TL.gets (Wants.none rfl) rfl (Gets.not rfl rfl) ?_
  refine TL.gets (Wants.none rfl) rfl (Gets.move rfl rfl) ?_
  refine TL.gets (Wants.yes rfl rfl rfl) rfl (Gets.move rfl rfl) ?_
  refine TL.gets (Wants.yes rfl rfl rfl) rfl (Gets.not rfl rfl) ?_
  refine TL.gets (Wants.none rfl) rfl (Gets.pickF rfl rfl rfl) ?_
  refine TL.nil ?_
  refine TE.then ?_
  refine TC.sub (Sub.cons (i := 2) rfl (Sub.cons (i := 4) rfl (Sub.cons (i := 6) rfl (Sub.cons (i := 8) rfl (Sub.cons (i := 61) rfl (Sub.nil)))))) ?_
  refine TC.no rfl ?_
  refine TC.skip ?_
  refine TE.then ?_
  refine TC.seq ?_
  refine TC.seq ?_
  refine TC.regionL ?_
  refine TL.gets (Wants.none rfl) rfl (Gets.fieldAddr rfl Try.underlying27 rfl size3 rfl (off' := 0) (by first | rfl | omega)) ?_
  refine TL.gets (Wants.none rfl) rfl (Gets.load1 rfl agg3 rfl (At.ent (i := 3) (ent := ⟨g1, 27, [Value.int .i64 1, Value.int .i64 t, Value.int .i64 f, Value.int .i64 l, Value.slice A m c], 5⟩) (off := 0) rfl rfl (by exact rfl))) ?_
  refine TL.gets (Wants.none rfl) rfl (Gets.isTrue (Gets.eql rfl rfl rfl) rfl) ?_
  refine TL.nil ?_
  refine TE.then ?_
  refine TC.yes rfl ?_
  refine TC.seq ?_
  refine TC.regionL ?_
  refine TL.call0 (Wants.none rfl) rfl enters9 rfl rfl (v := .bool true) (fun w hs => alive_c w) ?_
  refine TL.gets (Wants.none rfl) rfl (Gets.move rfl rfl) ?_
  refine TL.gets (Wants.yes rfl rfl rfl) rfl (Gets.fieldAddr rfl Try.underlying27 rfl size3 rfl (off' := 2) (by first | rfl | omega)) ?_
  refine TL.gets (Wants.yes rfl rfl rfl) rfl (Gets.load1 rfl agg3 rfl (At.ent (i := 1) (ent := ⟨g3, 27, [Value.int .i64 1, Value.int .i64 t, Value.int .i64 (f + t - t), Value.int .i64 (z - t), Value.slice none 0 0], 5⟩) (off := 2) rfl rfl (by exact rfl))) ?_
  refine TL.gets (Wants.yes rfl rfl rfl) rfl (Gets.fieldAddr rfl Try.underlying27 rfl size3 rfl (off' := 2) (by first | rfl | omega)) ?_
  refine TL.gets (Wants.yes rfl rfl rfl) rfl (Gets.load1 rfl agg3 rfl (At.ent (i := 3) (ent := ⟨g1, 27, [Value.int .i64 1, Value.int .i64 t, Value.int .i64 f, Value.int .i64 l, Value.slice A m c], 5⟩) (off := 2) rfl rfl (by exact rfl))) ?_
  refine TL.gets (Wants.yes rfl rfl rfl) rfl (Gets.isTrue (Gets.eql rfl rfl rfl) (by omega)) ?_
  refine TL.gets (Wants.none rfl) rfl (Gets.pickT rfl rfl rfl) ?_
  refine TL.gets (Wants.none rfl) rfl (Gets.move rfl rfl) ?_
  refine TL.gets (Wants.yes rfl rfl rfl) rfl (Gets.fieldAddr rfl Try.underlying27 rfl size3 rfl (off' := 3) (by first | rfl | omega)) ?_
  refine TL.gets (Wants.yes rfl rfl rfl) rfl (Gets.load1 rfl agg3 rfl (At.ent (i := 1) (ent := ⟨g3, 27, [Value.int .i64 1, Value.int .i64 t, Value.int .i64 (f + t - t), Value.int .i64 (z - t), Value.slice none 0 0], 5⟩) (off := 3) rfl rfl (by exact rfl))) ?_
  refine TL.gets (Wants.yes rfl rfl rfl) rfl (Gets.fieldAddr rfl Try.underlying27 rfl size3 rfl (off' := 3) (by first | rfl | omega)) ?_
  refine TL.gets (Wants.yes rfl rfl rfl) rfl (Gets.load1 rfl agg3 rfl (At.ent (i := 0) (ent := ⟨g4, 27, [Value.int .i64 1, Value.int .i64 z, Value.int .i64 (f + z - t), Value.int .i64 (t + l - z), Value.slice none 0 0], 5⟩) (off := 3) rfl rfl (by exact rfl))) ?_
  refine TL.gets (Wants.yes rfl rfl rfl) rfl (Gets.add rfl rfl rfl (r := l) (w64 (by omega) (by omega))) ?_
  refine TL.gets (Wants.yes rfl rfl rfl) rfl (Gets.fieldAddr rfl Try.underlying27 rfl size3 rfl (off' := 3) (by first | rfl | omega)) ?_
  refine TL.gets (Wants.yes rfl rfl rfl) rfl (Gets.load1 rfl agg3 rfl (At.ent (i := 3) (ent := ⟨g1, 27, [Value.int .i64 1, Value.int .i64 t, Value.int .i64 f, Value.int .i64 l, Value.slice A m c], 5⟩) (off := 3) rfl rfl (by exact rfl))) ?_
  refine TL.gets (Wants.yes rfl rfl rfl) rfl (Gets.isTrue (Gets.eql rfl rfl rfl) (by omega)) ?_
  refine TL.gets (Wants.none rfl) rfl (Gets.pickT rfl rfl rfl) ?_
  refine TL.gets (Wants.none rfl) rfl (Gets.move rfl rfl) ?_
  refine TL.gets (Wants.yes rfl rfl rfl) rfl (Gets.fieldAddr rfl Try.underlying27 rfl size3 rfl (off' := 2) (by first | rfl | omega)) ?_
  refine TL.gets (Wants.yes rfl rfl rfl) rfl (Gets.load1 rfl agg3 rfl (At.ent (i := 0) (ent := ⟨g4, 27, [Value.int .i64 1, Value.int .i64 z, Value.int .i64 (f + z - t), Value.int .i64 (t + l - z), Value.slice none 0 0], 5⟩) (off := 2) rfl rfl (by exact rfl))) ?_
  refine TL.gets (Wants.yes rfl rfl rfl) rfl (Gets.fieldAddr rfl Try.underlying27 rfl size3 rfl (off' := 2) (by first | rfl | omega)) ?_
  refine TL.gets (Wants.yes rfl rfl rfl) rfl (Gets.load1 rfl agg3 rfl (At.ent (i := 1) (ent := ⟨g3, 27, [Value.int .i64 1, Value.int .i64 t, Value.int .i64 (f + t - t), Value.int .i64 (z - t), Value.slice none 0 0], 5⟩) (off := 2) rfl rfl (by exact rfl))) ?_
  refine TL.gets (Wants.yes rfl rfl rfl) rfl (Gets.fieldAddr rfl Try.underlying27 rfl size3 rfl (off' := 3) (by first | rfl | omega)) ?_
  refine TL.gets (Wants.yes rfl rfl rfl) rfl (Gets.load1 rfl agg3 rfl (At.ent (i := 1) (ent := ⟨g3, 27, [Value.int .i64 1, Value.int .i64 t, Value.int .i64 (f + t - t), Value.int .i64 (z - t), Value.slice none 0 0], 5⟩) (off := 3) rfl rfl (by exact rfl))) ?_
  refine TL.gets (Wants.yes rfl rfl rfl) rfl (Gets.add rfl rfl rfl (r := ((f + t - t) + z - t)) (w64 (by omega) (by omega))) ?_
  refine TL.gets (Wants.yes rfl rfl rfl) rfl (Gets.isTrue (Gets.eql rfl rfl rfl) (by omega)) ?_
  refine TL.gets (Wants.none rfl) rfl (Gets.pickT rfl rfl rfl) ?_
  refine TL.gets (Wants.none rfl) rfl (Gets.assign rfl rfl) ?_
  refine TL.nil ?_
  refine TE.then ?_
  refine TC.ret ?_
  refine TE.thenR ?_
  exact TE.ret1 rfl rfl (fun w hs => ⟨rfl, ((((hs.drop (by assumption)).drop (by assumption)).drop (by assumption)).drop (by assumption))⟩)

set_option maxRecDepth 100000 in
set_option maxHeartbeats 1000000 in
theorem div_in2 (t z : Int) (B : List Int) (b off m c q r : Nat) (hmc : m ≤ c) (hcm : c ≤ 140737488355328) (h1 : 1 ≤ q) (h2 : 1 ≤ r) (hm : m = q + r) (hz : z = t + (q : Int)) (ht : vld t m) (hB : Bytes B) (w : World) (hsA : Src w (some ⟨b, off, none⟩) m .u8 B) : Calls Try.prog 7 #[.agg ([Value.int .i64 2, Value.int .i64 t, Value.int .i64 0, Value.int .i64 0, Value.slice (some ⟨b, off, none⟩) m c]).toArray, .int .i64 z] w fun e w' => e = .returned (.bool true) ∧ St w [] w' := by
  refine calls_from (args := [.agg ([Value.int .i64 2, Value.int .i64 t, Value.int .i64 0, Value.int .i64 0, Value.slice (some ⟨b, off, none⟩) m c]).toArray, .int .i64 z]) Try.func7 rfl Try.ntmps7 (by simp) ?_
  refine TC.sub (Sub.cons (i := 0) rfl (Sub.cons (i := 1) rfl (Sub.nil))) ?_
  refine TC.seq ?_
  have ht2 := ht
  unfold vld at ht2
  refine TC.regionL ?_
  refine TL.box (Wants.none rfl) rfl rfl rfl (cs := [Value.int .i64 2, Value.int .i64 t, Value.int .i64 0, Value.int .i64 0, Value.slice (some ⟨b, off, none⟩) m c]) (by simp [Value.cells]) (tot := 5) (by simp []) (fun g1 hg1 => ?_)
  refine TL.gets (Wants.none rfl) rfl (Gets.assign rfl rfl) ?_
  refine TL.nil ?_
  refine TE.then ?_
  refine TC.seq ?_
  refine TC.seq ?_
  refine TC.regionL ?_
  refine TL.gets (Wants.none rfl) rfl (Gets.loadN rfl agg27 size27 rfl (vs := [Value.int .i64 2, Value.int .i64 t, Value.int .i64 0, Value.int .i64 0, Value.slice (some ⟨b, off, none⟩) m c]) (by simp []) (Row.all (i := 0) (ent := ⟨g1, 27, [Value.int .i64 2, Value.int .i64 t, Value.int .i64 0, Value.int .i64 0, Value.slice (some ⟨b, off, none⟩) m c], 5⟩) rfl rfl rfl)) ?_
  refine TL.call0 (Wants.none rfl) rfl enters14 rfl rfl (v := .int .i64 0) (fun w hs => (rcheck_c 2 t 0 0 (some ⟨b, off, none⟩) m c (by omega) (by omega) (by omega) (by omega) w).mono fun e w' h => by rw [(codeV2.2 ⟨by omega, rfl, rfl, ht⟩)] at h; exact h) ?_
  refine TL.gets (Wants.none rfl) rfl (Gets.isFalse (Gets.neq rfl rfl rfl) (by decide)) ?_
  refine TL.nil ?_
  refine TE.then ?_
  refine TC.no rfl ?_
  refine TC.skip ?_
  refine TE.then ?_
  refine TC.seq ?_
  refine TC.regionL ?_
  refine TL.gets (Wants.none rfl) rfl (Gets.loadN rfl agg27 size27 rfl (vs := [Value.int .i64 2, Value.int .i64 t, Value.int .i64 0, Value.int .i64 0, Value.slice (some ⟨b, off, none⟩) m c]) (by simp []) (Row.all (i := 0) (ent := ⟨g1, 27, [Value.int .i64 2, Value.int .i64 t, Value.int .i64 0, Value.int .i64 0, Value.slice (some ⟨b, off, none⟩) m c], 5⟩) rfl rfl rfl)) ?_
  refine TL.call0 (Wants.none rfl) rfl enters18 rfl rfl (v := .agg ([Value.int .i64 t, Value.int .i64 (m : Int)]).toArray) (fun w hs => rtarget2 2 t 0 0 (some ⟨b, off, none⟩) m c (by omega) w) ?_
  refine TL.alloc (Wants.none rfl) rfl rfl zero37 (cs := [Value.int .i64 0, Value.int .i64 0]) rfl (tot := 2) (by simp) (fun g2 hg2 => ?_)
  refine TL.storeW (Wants.none rfl) rfl rfl size37 rfl (vs := [Value.int .i64 t, Value.int .i64 (m : Int)]) rfl (by simp []) (by simp [Value.oneCell']) (i := 0) (ent := ⟨g2, 37, [Value.int .i64 0, Value.int .i64 0], 2⟩) rfl rfl (by simp []) (H' := [⟨g2, 37, [Value.int .i64 t, Value.int .i64 (m : Int)], 2⟩, ⟨g1, 27, [Value.int .i64 2, Value.int .i64 t, Value.int .i64 0, Value.int .i64 0, Value.slice (some ⟨b, off, none⟩) m c], 5⟩]) rfl ?_
  refine TL.nil ?_
  refine TE.then ?_
  refine TC.sub (Sub.cons (i := 1) rfl (Sub.cons (i := 2) rfl (Sub.cons (i := 4) rfl (Sub.cons (i := 5) rfl (Sub.nil))))) ?_
  refine TC.seq ?_
  refine TC.seq ?_
  refine TC.regionL ?_
  refine TL.gets (Wants.none rfl) rfl (Gets.move rfl rfl) ?_
  refine TL.gets (Wants.none rfl) rfl (Gets.fieldAddr rfl Try.underlying37 rfl size3 rfl (off' := 0) (by first | rfl | omega)) ?_
  refine TL.gets (Wants.none rfl) rfl (Gets.load1 rfl agg3 rfl (At.ent (i := 0) (ent := ⟨g2, 37, [Value.int .i64 t, Value.int .i64 (m : Int)], 2⟩) (off := 0) rfl rfl (by exact rfl))) ?_
  refine TL.gets (Wants.none rfl) rfl (Gets.isFalse (Gets.leq rfl rfl rfl) (by omega)) ?_
  refine TL.gets (Wants.none rfl) rfl (Gets.move rfl rfl) ?_
  refine TL.gets (Wants.yes rfl rfl rfl) rfl (Gets.move rfl rfl) ?_
  refine TL.gets (Wants.yes rfl rfl rfl) rfl (Gets.fieldAddr rfl Try.underlying37 rfl size3 rfl (off' := 0) (by first | rfl | omega)) ?_
  refine TL.gets (Wants.yes rfl rfl rfl) rfl (Gets.load1 rfl agg3 rfl (At.ent (i := 0) (ent := ⟨g2, 37, [Value.int .i64 t, Value.int .i64 (m : Int)], 2⟩) (off := 0) rfl rfl (by exact rfl))) ?_
  refine TL.gets (Wants.yes rfl rfl rfl) rfl (Gets.fieldAddr rfl Try.underlying37 rfl size3 rfl (off' := 1) (by first | rfl | omega)) ?_
  refine TL.gets (Wants.yes rfl rfl rfl) rfl (Gets.load1 rfl agg3 rfl (At.ent (i := 0) (ent := ⟨g2, 37, [Value.int .i64 t, Value.int .i64 (m : Int)], 2⟩) (off := 1) rfl rfl (by exact rfl))) ?_
  refine TL.gets (Wants.yes rfl rfl rfl) rfl (Gets.add rfl rfl rfl (r := (t + (m : Int))) (w64 (by omega) (by omega))) ?_
  refine TL.gets (Wants.yes rfl rfl rfl) rfl (Gets.isFalse (Gets.geq rfl rfl rfl) (by omega)) ?_
  refine TL.gets (Wants.none rfl) rfl (Gets.pickF rfl rfl rfl) ?_
  refine TL.nil ?_
  refine TE.then ?_
  refine TC.sub (Sub.cons (i := 1) rfl (Sub.cons (i := 2) rfl (Sub.cons (i := 4) rfl (Sub.cons (i := 5) rfl (Sub.cons (i := 28) rfl (Sub.nil)))))) ?_
  refine TC.no rfl ?_
  refine TC.skip ?_
  refine TE.then ?_
  refine TC.seq ?_
  refine TC.regionL ?_
  refine TL.gets (Wants.none rfl) rfl (Gets.loadN rfl agg27 size27 rfl (vs := [Value.int .i64 2, Value.int .i64 t, Value.int .i64 0, Value.int .i64 0, Value.slice (some ⟨b, off, none⟩) m c]) (by simp []) (Row.all (i := 1) (ent := ⟨g1, 27, [Value.int .i64 2, Value.int .i64 t, Value.int .i64 0, Value.int .i64 0, Value.slice (some ⟨b, off, none⟩) m c], 5⟩) rfl rfl rfl)) ?_
  refine TL.gets (Wants.none rfl) rfl (Gets.fieldAddr rfl Try.underlying37 rfl size3 rfl (off' := 0) (by first | rfl | omega)) ?_
  refine TL.gets (Wants.none rfl) rfl (Gets.load1 rfl agg3 rfl (At.ent (i := 0) (ent := ⟨g2, 37, [Value.int .i64 t, Value.int .i64 (m : Int)], 2⟩) (off := 0) rfl rfl (by exact rfl))) ?_
  refine TL.gets (Wants.none rfl) rfl (Gets.move rfl rfl) ?_
  refine TL.gets (Wants.none rfl) rfl (Gets.fieldAddr rfl Try.underlying37 rfl size3 rfl (off' := 0) (by first | rfl | omega)) ?_
  refine TL.gets (Wants.none rfl) rfl (Gets.load1 rfl agg3 rfl (At.ent (i := 0) (ent := ⟨g2, 37, [Value.int .i64 t, Value.int .i64 (m : Int)], 2⟩) (off := 0) rfl rfl (by exact rfl))) ?_
  refine TL.gets (Wants.none rfl) rfl (Gets.sub rfl rfl rfl (r := (z - t)) (w64 (by omega) (by omega))) ?_
  refine TL.gets (Wants.none rfl) rfl (Gets.build rfl (vs := [(0, Value.int .i64 t), (1, Value.int .i64 (z - t))]) rfl (fun w => by first | rfl | kernel_rfl) (v := .agg ([Value.int .i64 t, Value.int .i64 (z - t)]).toArray)) ?_
  refine TL.call (ι := Nat × Nat) (V := fun yk => .tuple #[.agg ([Value.int .i64 2, Value.int .i64 t, Value.int .i64 0, Value.int .i64 0, Value.slice (some ⟨yk.1, 0, none⟩) q yk.2]).toArray, .bool true]) (R := fun yk => (q ≤ yk.2 ∧ yk.2 ≤ maxLen) ∧ w.heap.size ≤ (⟨yk.1, 5, ((B.drop 0).take q).map (Value.int .u8), yk.2⟩ : Ent).g) (H' := fun yk => [⟨yk.1, 5, ((B.drop 0).take q).map (Value.int .u8), yk.2⟩, ⟨g2, 37, [Value.int .i64 t, Value.int .i64 (m : Int)], 2⟩, ⟨g1, 27, [Value.int .i64 2, Value.int .i64 t, Value.int .i64 0, Value.int .i64 0, Value.slice (some ⟨b, off, none⟩) m c], 5⟩]) (Wants.none rfl) rfl enters22 rfl rfl (fun w hs => (show Calls Try.prog 22 #[.agg ([Value.int .i64 2, Value.int .i64 t, Value.int .i64 0, Value.int .i64 0, Value.slice (some ⟨b, off, none⟩) m c]).toArray, .agg ([Value.int .i64 t, Value.int .i64 (z - t)]).toArray] w (fun e w' => ∃ yk : Nat × Nat, e = .returned (.tuple #[.agg ([Value.int .i64 2, Value.int .i64 t, Value.int .i64 0, Value.int .i64 0, Value.slice (some ⟨yk.1, 0, none⟩) q yk.2]).toArray, .bool true]) ∧ (q ≤ yk.2 ∧ yk.2 ≤ maxLen) ∧ w.heap.size ≤ (⟨yk.1, 5, ((B.drop 0).take q).map (Value.int .u8), yk.2⟩ : Ent).g ∧ St w [⟨yk.1, 5, ((B.drop 0).take q).map (Value.int .u8), yk.2⟩] w') from (part2x t t (z - t) B b off m c 0 q hmc hcm (by omega) (by omega) ht (by omega) (by omega) w (hsA.at_ hs (fun b hb => (ne_cons (by show g2 ≠ b; omega) (ne_cons (by show g1 ≠ b; omega) ne_nil))))).mono fun e w' ⟨gv, cv, he, hgv, hcv, hmv, hw⟩ => ⟨(gv, cv), he, ⟨hcv, hmv⟩, hgv, hw⟩).mono fun e w' ⟨x, he, hR, hE, hw⟩ => ⟨x, he, ⟨hR, Nat.le_trans hs.size hE⟩, hs.made hw hE⟩) (fun yk ⟨hRk, hEk⟩ => ?_)
  obtain ⟨gk, ck⟩ := yk
  dsimp only at hRk hEk ⊢
  obtain ⟨hck, hmk⟩ := hRk
  unfold maxLen at hmk
  refine TL.gets (Wants.none rfl) rfl (Gets.move rfl rfl) ?_
  refine TL.gets (Wants.none rfl) rfl (Gets.extract rfl rfl rfl) ?_
  refine TL.gets (Wants.none rfl) rfl (Gets.extract rfl rfl rfl) ?_
  refine TL.alloc (Wants.none rfl) rfl rfl zero27 (cs := [Value.int .i64 0, Value.int .i64 0, Value.int .i64 0, Value.int .i64 0, Value.slice none 0 0]) rfl (tot := 5) (by simp) (fun g3 hg3 => ?_)
  refine TL.storeW (Wants.none rfl) rfl rfl size27 rfl (vs := [Value.int .i64 2, Value.int .i64 t, Value.int .i64 0, Value.int .i64 0, Value.slice (some ⟨gk, 0, none⟩) q ck]) rfl (by simp []) (by simp [Value.oneCell']) (i := 0) (ent := ⟨g3, 27, [Value.int .i64 0, Value.int .i64 0, Value.int .i64 0, Value.int .i64 0, Value.slice none 0 0], 5⟩) rfl rfl (by simp []) (H' := [⟨g3, 27, [Value.int .i64 2, Value.int .i64 t, Value.int .i64 0, Value.int .i64 0, Value.slice (some ⟨gk, 0, none⟩) q ck], 5⟩, ⟨gk, 5, ((B.drop 0).take q).map (Value.int .u8), ck⟩, ⟨g2, 37, [Value.int .i64 t, Value.int .i64 (m : Int)], 2⟩, ⟨g1, 27, [Value.int .i64 2, Value.int .i64 t, Value.int .i64 0, Value.int .i64 0, Value.slice (some ⟨b, off, none⟩) m c], 5⟩]) rfl ?_
  refine TL.gets (Wants.none rfl) rfl (Gets.assign rfl rfl) ?_
  refine TL.nil ?_
  refine TE.then ?_
  refine TC.sub (Sub.cons (i := 1) rfl (Sub.cons (i := 2) rfl (Sub.cons (i := 4) rfl (Sub.cons (i := 5) rfl (Sub.cons (i := 6) rfl (Sub.cons (i := 7) rfl (Sub.nil))))))) ?_
  refine TC.seq ?_
  refine TC.regionL ?_
  refine TL.gets (Wants.none rfl) rfl (Gets.loadN rfl agg27 size27 rfl (vs := [Value.int .i64 2, Value.int .i64 t, Value.int .i64 0, Value.int .i64 0, Value.slice (some ⟨b, off, none⟩) m c]) (by simp []) (Row.all (i := 3) (ent := ⟨g1, 27, [Value.int .i64 2, Value.int .i64 t, Value.int .i64 0, Value.int .i64 0, Value.slice (some ⟨b, off, none⟩) m c], 5⟩) rfl rfl rfl)) ?_
  refine TL.gets (Wants.none rfl) rfl (Gets.move rfl rfl) ?_
  refine TL.gets (Wants.none rfl) rfl (Gets.fieldAddr rfl Try.underlying37 rfl size3 rfl (off' := 0) (by first | rfl | omega)) ?_
  refine TL.gets (Wants.none rfl) rfl (Gets.load1 rfl agg3 rfl (At.ent (i := 2) (ent := ⟨g2, 37, [Value.int .i64 t, Value.int .i64 (m : Int)], 2⟩) (off := 0) rfl rfl (by exact rfl))) ?_
  refine TL.gets (Wants.none rfl) rfl (Gets.fieldAddr rfl Try.underlying37 rfl size3 rfl (off' := 1) (by first | rfl | omega)) ?_
  refine TL.gets (Wants.none rfl) rfl (Gets.load1 rfl agg3 rfl (At.ent (i := 2) (ent := ⟨g2, 37, [Value.int .i64 t, Value.int .i64 (m : Int)], 2⟩) (off := 1) rfl rfl (by exact rfl))) ?_
  refine TL.gets (Wants.none rfl) rfl (Gets.add rfl rfl rfl (r := (t + (m : Int))) (w64 (by omega) (by omega))) ?_
  refine TL.gets (Wants.none rfl) rfl (Gets.move rfl rfl) ?_
  refine TL.gets (Wants.none rfl) rfl (Gets.sub rfl rfl rfl (r := (t + (m : Int) - z)) (w64 (by omega) (by omega))) ?_
  refine TL.gets (Wants.none rfl) rfl (Gets.build rfl (vs := [(0, Value.int .i64 z), (1, Value.int .i64 (t + (m : Int) - z))]) rfl (fun w => by first | rfl | kernel_rfl) (v := .agg ([Value.int .i64 z, Value.int .i64 (t + (m : Int) - z)]).toArray)) ?_
  refine TL.call (ι := Nat × Nat) (V := fun yj => .tuple #[.agg ([Value.int .i64 2, Value.int .i64 z, Value.int .i64 0, Value.int .i64 0, Value.slice (some ⟨yj.1, 0, none⟩) r yj.2]).toArray, .bool true]) (R := fun yj => (r ≤ yj.2 ∧ yj.2 ≤ maxLen) ∧ w.heap.size ≤ (⟨yj.1, 5, ((B.drop q).take r).map (Value.int .u8), yj.2⟩ : Ent).g) (H' := fun yj => [⟨yj.1, 5, ((B.drop q).take r).map (Value.int .u8), yj.2⟩, ⟨g3, 27, [Value.int .i64 2, Value.int .i64 t, Value.int .i64 0, Value.int .i64 0, Value.slice (some ⟨gk, 0, none⟩) q ck], 5⟩, ⟨gk, 5, ((B.drop 0).take q).map (Value.int .u8), ck⟩, ⟨g2, 37, [Value.int .i64 t, Value.int .i64 (m : Int)], 2⟩, ⟨g1, 27, [Value.int .i64 2, Value.int .i64 t, Value.int .i64 0, Value.int .i64 0, Value.slice (some ⟨b, off, none⟩) m c], 5⟩]) (Wants.none rfl) rfl enters22 rfl rfl (fun w hs => (show Calls Try.prog 22 #[.agg ([Value.int .i64 2, Value.int .i64 t, Value.int .i64 0, Value.int .i64 0, Value.slice (some ⟨b, off, none⟩) m c]).toArray, .agg ([Value.int .i64 z, Value.int .i64 (t + (m : Int) - z)]).toArray] w (fun e w' => ∃ yj : Nat × Nat, e = .returned (.tuple #[.agg ([Value.int .i64 2, Value.int .i64 z, Value.int .i64 0, Value.int .i64 0, Value.slice (some ⟨yj.1, 0, none⟩) r yj.2]).toArray, .bool true]) ∧ (r ≤ yj.2 ∧ yj.2 ≤ maxLen) ∧ w.heap.size ≤ (⟨yj.1, 5, ((B.drop q).take r).map (Value.int .u8), yj.2⟩ : Ent).g ∧ St w [⟨yj.1, 5, ((B.drop q).take r).map (Value.int .u8), yj.2⟩] w') from (part2x t z (t + (m : Int) - z) B b off m c q r hmc hcm (by omega) (by omega) ht (by omega) (by omega) w (hsA.at_ hs (fun b hb => (ne_cons (by show g3 ≠ b; omega) (ne_cons (by show gk ≠ b; omega) (ne_cons (by show g2 ≠ b; omega) (ne_cons (by show g1 ≠ b; omega) ne_nil))))))).mono fun e w' ⟨gv, cv, he, hgv, hcv, hmv, hw⟩ => ⟨(gv, cv), he, ⟨hcv, hmv⟩, hgv, hw⟩).mono fun e w' ⟨x, he, hR, hE, hw⟩ => ⟨x, he, ⟨hR, Nat.le_trans hs.size hE⟩, hs.made hw hE⟩) (fun yj ⟨hRj, hEj⟩ => ?_)
  obtain ⟨gj, cj⟩ := yj
  dsimp only at hRj hEj ⊢
  obtain ⟨hcj, hmj⟩ := hRj
  unfold maxLen at hmj
  refine TL.gets (Wants.none rfl) rfl (Gets.move rfl rfl) ?_
  refine TL.gets (Wants.none rfl) rfl (Gets.extract rfl rfl rfl) ?_
  refine TL.gets (Wants.none rfl) rfl (Gets.extract rfl rfl rfl) ?_
  refine TL.alloc (Wants.none rfl) rfl rfl zero27 (cs := [Value.int .i64 0, Value.int .i64 0, Value.int .i64 0, Value.int .i64 0, Value.slice none 0 0]) rfl (tot := 5) (by simp) (fun g4 hg4 => ?_)
  refine TL.storeW (Wants.none rfl) rfl rfl size27 rfl (vs := [Value.int .i64 2, Value.int .i64 z, Value.int .i64 0, Value.int .i64 0, Value.slice (some ⟨gj, 0, none⟩) r cj]) rfl (by simp []) (by simp [Value.oneCell']) (i := 0) (ent := ⟨g4, 27, [Value.int .i64 0, Value.int .i64 0, Value.int .i64 0, Value.int .i64 0, Value.slice none 0 0], 5⟩) rfl rfl (by simp []) (H' := [⟨g4, 27, [Value.int .i64 2, Value.int .i64 z, Value.int .i64 0, Value.int .i64 0, Value.slice (some ⟨gj, 0, none⟩) r cj], 5⟩, ⟨gj, 5, ((B.drop q).take r).map (Value.int .u8), cj⟩, ⟨g3, 27, [Value.int .i64 2, Value.int .i64 t, Value.int .i64 0, Value.int .i64 0, Value.slice (some ⟨gk, 0, none⟩) q ck], 5⟩, ⟨gk, 5, ((B.drop 0).take q).map (Value.int .u8), ck⟩, ⟨g2, 37, [Value.int .i64 t, Value.int .i64 (m : Int)], 2⟩, ⟨g1, 27, [Value.int .i64 2, Value.int .i64 t, Value.int .i64 0, Value.int .i64 0, Value.slice (some ⟨b, off, none⟩) m c], 5⟩]) rfl ?_
  refine TL.gets (Wants.none rfl) rfl (Gets.assign rfl rfl) ?_
  refine TL.nil ?_
  refine TE.then ?_
  refine TC.sub (Sub.cons (i := 2) rfl (Sub.cons (i := 4) rfl (Sub.cons (i := 6) rfl (Sub.cons (i := 7) rfl (Sub.cons (i := 8) rfl (Sub.cons (i := 9) rfl (Sub.nil))))))) ?_
  refine TC.seq ?_
  refine TC.seq ?_
  refine TC.regionL ?_
  refine TL.gets (Wants.none rfl) rfl (Gets.move rfl rfl) ?_
  refine TL.gets (Wants.none rfl) rfl (Gets.not rfl rfl) ?_
  refine TL.gets (Wants.none rfl) rfl (Gets.move rfl rfl) ?_
  refine TL.gets (Wants.yes rfl rfl rfl) rfl (Gets.move rfl rfl) ?_
  refine TL.gets (Wants.yes rfl rfl rfl) rfl (Gets.not rfl rfl) ?_
  refine TL.gets (Wants.none rfl) rfl (Gets.pickF rfl rfl rfl) ?_
  refine TL.nil ?_
  refine TE.then ?_
  refine TC.sub (Sub.cons (i := 2) rfl (Sub.cons (i := 4) rfl (Sub.cons (i := 6) rfl (Sub.cons (i := 8) rfl (Sub.cons (i := 61) rfl (Sub.nil)))))) ?_
  refine TC.no rfl ?_
  refine TC.skip ?_
  refine TE.then ?_
  refine TC.seq ?_
  refine TC.seq ?_
  refine TC.regionL ?_
  refine TL.gets (Wants.none rfl) rfl (Gets.fieldAddr rfl Try.underlying27 rfl size3 rfl (off' := 0) (by first | rfl | omega)) ?_
  refine TL.gets (Wants.none rfl) rfl (Gets.load1 rfl agg3 rfl (At.ent (i := 5) (ent := ⟨g1, 27, [Value.int .i64 2, Value.int .i64 t, Value.int .i64 0, Value.int .i64 0, Value.slice (some ⟨b, off, none⟩) m c], 5⟩) (off := 0) rfl rfl (by exact rfl))) ?_
  refine TL.gets (Wants.none rfl) rfl (Gets.isFalse (Gets.eql rfl rfl rfl) (by decide)) ?_
  refine TL.nil ?_
  refine TE.then ?_
  refine TC.no rfl ?_
  refine TC.skip ?_
  refine TE.then ?_
  refine TC.seq ?_
  refine TC.regionL ?_
  refine TL.call0 (Wants.none rfl) rfl enters9 rfl rfl (v := .bool true) (fun w hs => alive_c w) ?_
  refine TL.gets (Wants.none rfl) rfl (Gets.move rfl rfl) ?_
  refine TL.gets (Wants.yes rfl rfl rfl) rfl (Gets.fieldAddr rfl Try.underlying27 rfl size25 rfl (off' := 4) (by first | rfl | omega)) ?_
  refine TL.gets (Wants.yes rfl rfl rfl) rfl (Gets.load1 rfl agg25 rfl (At.ent (i := 2) (ent := ⟨g3, 27, [Value.int .i64 2, Value.int .i64 t, Value.int .i64 0, Value.int .i64 0, Value.slice (some ⟨gk, 0, none⟩) q ck], 5⟩) (off := 4) rfl rfl (by exact rfl))) ?_
  refine TL.gets (Wants.yes rfl rfl rfl) rfl (Gets.b2s rfl Try.underlying25 Try.underlying9 Try.underlying5 rfl (fun w hs => (src_ent (hs.has (⟨gk, 5, ((B.drop 0).take q).map (Value.int .u8), ck⟩) (by simp)) (cut_len hsA.1 (q := 0) (n := q) (by omega))))) ?_
  refine TL.gets (Wants.yes rfl rfl rfl) rfl (Gets.fieldAddr rfl Try.underlying27 rfl size25 rfl (off' := 4) (by first | rfl | omega)) ?_
  refine TL.gets (Wants.yes rfl rfl rfl) rfl (Gets.load1 rfl agg25 rfl (At.ent (i := 0) (ent := ⟨g4, 27, [Value.int .i64 2, Value.int .i64 z, Value.int .i64 0, Value.int .i64 0, Value.slice (some ⟨gj, 0, none⟩) r cj], 5⟩) (off := 4) rfl rfl (by exact rfl))) ?_
  refine TL.gets (Wants.yes rfl rfl rfl) rfl (Gets.b2s rfl Try.underlying25 Try.underlying9 Try.underlying5 rfl (fun w hs => (src_ent (hs.has (⟨gj, 5, ((B.drop q).take r).map (Value.int .u8), cj⟩) (by simp)) (cut_len hsA.1 (q := q) (n := r) (by omega))))) ?_
  refine TL.gets (Wants.yes rfl rfl rfl) rfl (Gets.strAdd rfl rfl rfl (by rw [bs_size, bs_size, cut_len hsA.1 (q := 0) (n := q) (by omega), cut_len hsA.1 (q := q) (n := r) (by omega)]; omega) (bs_app _ _)) ?_
  refine TL.gets (Wants.yes rfl rfl rfl) rfl (Gets.fieldAddr rfl Try.underlying27 rfl size25 rfl (off' := 4) (by first | rfl | omega)) ?_
  refine TL.gets (Wants.yes rfl rfl rfl) rfl (Gets.load1 rfl agg25 rfl (At.ent (i := 5) (ent := ⟨g1, 27, [Value.int .i64 2, Value.int .i64 t, Value.int .i64 0, Value.int .i64 0, Value.slice (some ⟨b, off, none⟩) m c], 5⟩) (off := 4) rfl rfl (by exact rfl))) ?_
  refine TL.gets (Wants.yes rfl rfl rfl) rfl (Gets.b2s rfl Try.underlying25 Try.underlying9 Try.underlying5 rfl (fun w hs => (hsA.at_ hs (fun b hb => (ne_cons (by show g4 ≠ b; omega) (ne_cons (by show gj ≠ b; omega) (ne_cons (by show g3 ≠ b; omega) (ne_cons (by show gk ≠ b; omega) (ne_cons (by show g2 ≠ b; omega) (ne_cons (by show g1 ≠ b; omega) ne_nil)))))))))) ?_
  refine TL.gets (Wants.yes rfl rfl rfl) rfl (Gets.isTrue (Gets.bytesEq rfl rfl rfl (((hB.drop 0).take q).app ((hB.drop q).take r)) hB) (cut_two (by rw [hsA.1, hm]))) ?_
  refine TL.gets (Wants.none rfl) rfl (Gets.pickT rfl rfl rfl) ?_
  refine TL.gets (Wants.none rfl) rfl (Gets.assign rfl rfl) ?_
  refine TL.nil ?_
  refine TE.then ?_
  refine TC.ret ?_
  exact TE.ret1 rfl rfl (fun w hs => ⟨rfl, ((((((hs.drop (by assumption)).drop (by assumption)).drop (by assumption)).drop (by assumption)).drop (by assumption)).drop (by assumption))⟩)


theorem commandDivides_walk (k t f l : Int) (A : Option Addr) (m c : Nat) (B : List Int) (z : Int) (w : World) (bk : -9223372036854775808 ≤ k ∧ k ≤ 9223372036854775807) (bt : -9223372036854775808 ≤ t ∧ t ≤ 9223372036854775807) (bf : -9223372036854775808 ≤ f ∧ f ≤ 9223372036854775807) (bl : -9223372036854775808 ≤ l ∧ l ≤ 9223372036854775807) (hmc : m ≤ c) (hcm : c ≤ 140737488355327) (hB : Bytes B) (hsA : Src w A m .u8 B) (bz : -9223372036854775808 ≤ z ∧ z ≤ 9223372036854775807) :
    Calls Try.prog 7 #[.agg ([Value.int .i64 k, Value.int .i64 t, Value.int .i64 f, Value.int .i64 l, Value.slice A m c]).toArray, .int .i64 z] w fun e w' => e = .returned (.bool true) ∧ St w [] w' := by
  by_cases hv : codeV k t f l m = 0
  · rcases codeV0 hv with rfl | rfl
    · obtain ⟨h1, h2, h3, h4⟩ := codeV1.1 hv
      by_cases hz : z ≤ t ∨ t + l ≤ z
      · exact div_out1 t f l A m c z (by unfold vld at h3; omega) h2 h3 h4 hz w
      · exact div_in1 t f l A m c z (by unfold vld at h3; omega) h2 h3 h4 (by omega) (by omega) w
    · obtain ⟨h1, rfl, rfl, h4⟩ := codeV2.1 hv
      by_cases hz : z ≤ t ∨ t + (m : Int) ≤ z
      · exact div_out2 t A m c z (by omega) h4 (by omega) hz w
      · obtain ⟨b, off, rfl, hb2, hr⟩ := hsA.2.resolve_left h1
        exact div_in2 t z B b off m c (z - t).toNat (m - (z - t).toNat) hmc (by omega) (by omega) (by omega) (by omega) (by omega) h4 hB w hsA
  · exact div_bad k t f l A m c z (by omega) bt bf bl hv w
end Go.Proofs.Ytehnkhgcbcfoeaa
