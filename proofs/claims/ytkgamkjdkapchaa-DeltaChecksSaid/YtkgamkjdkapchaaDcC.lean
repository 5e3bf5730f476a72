/-
  The code of layer 5: checkTargets.
-/
import Derived.Test.YtkgamkjdkapchaaDcB
namespace Go.Proofs.Ytkgamkjdkapchaa
set_option linter.unusedVariables false
set_option linter.unusedSimpArgs false
open Go Go.RowKit
theorem agg32 : (isAgg 32).run Try.prog = fun w => .ok true w := isAgg_yes Try.underlying32 rfl
theorem enters35 : Enters Try.prog 35 := ⟨_, Try.func35, by kernel_rfl, by kernel_rfl⟩
theorem enters48 : Enters Try.prog 48 := ⟨_, Try.func48, by kernel_rfl, by kernel_rfl⟩
theorem enters52 : Enters Try.prog 52 := ⟨_, Try.func52, by kernel_rfl, by kernel_rfl⟩
theorem size32 : (Try.prog.info? 32).map (·.size) = some 2 := by kernel_rfl
theorem size56 : (Try.prog.info? 56).map (·.size) = some 1 := by kernel_rfl
theorem zero32 : (Try.prog.info? 32).bind (·.zero) = some (.agg #[.int .i64 0, .int .i64 0]) := by kernel_rfl
theorem zero56 : (Try.prog.info? 56).bind (·.zero) = some (.slice none 0 0) := by kernel_rfl
set_option maxRecDepth 100000 in
set_option maxHeartbeats 1000000 in
theorem ct_c (o n : Int) (H1 H2 : List Int) (hH1 : H1.length = 32) (hH2 : H2.length = 32) (A : Option Addr) (m c : Nat) (Cs : List CV) (hk12 : ∀ (i : Nat) (x : CV), Cs[i]? = some x → x.k = 1 ∨ x.k = 2) (hok : okLen o n) (h1 : ∀ (i : Nat) (x : CV), Cs[i]? = some x → singleV o n x = 0) (hmm : m ≤ 1000000000) (hN : NumsC Cs) (w : World) (hC : SrcC w A m Cs)  : Calls Try.prog 33 #[.agg ([Value.int .i64 o, Value.int .i64 n] ++ (H1.map (Value.int .u8) ++ (H2.map (Value.int .u8) ++ ([Value.slice A m c])))).toArray] w fun e w' => e = .returned (.agg ([Value.int .i64 ((faultI o n Cs).1), Value.int .i64 ((faultI o n Cs).2)]).toArray) ∧ St w [] w' := by
  refine calls_from (args := [.agg ([Value.int .i64 o, Value.int .i64 n] ++ (H1.map (Value.int .u8) ++ (H2.map (Value.int .u8) ++ ([Value.slice A m c])))).toArray]) Try.func33 rfl Try.ntmps33 (by simp) ?_
  refine TC.sub (Sub.cons (i := 0) rfl (Sub.nil)) ?_
  refine TC.seq ?_
  refine TC.regionL ?_
  refine TL.box (Wants.none rfl) rfl rfl rfl (cs := [Value.int .i64 o, Value.int .i64 n] ++ (H1.map (Value.int .u8) ++ (H2.map (Value.int .u8) ++ ([Value.slice A m c])))) (by simp [Value.cells]) (tot := 67) (by simp [hH1, hH2]) (fun g1 hg1 => ?_)
  refine TL.alloc (Wants.none rfl) rfl rfl zero32 (cs := [Value.int .i64 0, Value.int .i64 0]) rfl (tot := 2) (by simp) (fun g2 hg2 => ?_)
  refine TL.nil ?_
  refine TE.then ?_
  refine TC.seq ?_
  refine TC.regionL ?_
  refine TL.gets (Wants.none rfl) rfl (Gets.fieldAddr rfl Try.underlying25 rfl size23 rfl (off' := 66) (by first | rfl | omega)) ?_
  refine TL.gets (Wants.none rfl) rfl (Gets.load1 rfl agg23 rfl (At.ent (i := 1) (ent := ⟨g1, 25, [Value.int .i64 o, Value.int .i64 n] ++ (H1.map (Value.int .u8) ++ (H2.map (Value.int .u8) ++ ([Value.slice A m c]))), 67⟩) (off := 66) rfl rfl (by exact app_right (a := 2) (i := 64) (rfl) (app_right (a := 32) (i := 32) (ints_len hH1) (app_right (a := 32) (i := 0) (ints_len hH2) (rfl)))))) ?_
  refine TL.call (ι := Nat × List TV) (V := fun y => .slice (some ⟨y.1, 0, none⟩) m m) (R := fun y => (y.2.Perm (tvOf Cs) ∧ y.2.Pairwise leT) ∧ w.heap.size ≤ y.1) (H' := fun y => [⟨g2, 32, [Value.int .i64 0, Value.int .i64 0], 2⟩, ⟨g1, 25, [Value.int .i64 o, Value.int .i64 n] ++ (H1.map (Value.int .u8) ++ (H2.map (Value.int .u8) ++ ([Value.slice A m c]))), 67⟩, ⟨y.1, 59, flatT y.2, (m * 3)⟩]) (Wants.none rfl) rfl enters35 rfl rfl (fun w hs => (asc_c A m c Cs hk12 (by omega) hN w (hC.at_ hs (fun b hb => (ne_cons (by show g2 ≠ b; omega) (ne_cons (by show g1 ≠ b; omega) ne_nil))))).mono fun e w' ⟨y, he, hR, hg, hw⟩ => ⟨y, he, ⟨hR, Nat.le_trans hs.size hg⟩, st_call hs hw (fun e he => by rw [List.mem_singleton.1 he]; exact hg)⟩) (fun y hR => ?_)
  obtain ⟨gt, Ts⟩ := y
  obtain ⟨⟨hTp, hTs⟩, hgt⟩ := hR
  dsimp only at hTp hTs hgt ⊢
  have hA : AscT o n Cs Ts := ⟨hTp, hTs, hok, h1⟩
  have hm8 : Cs.length ≤ 1000000000 := by have := hC.1; omega
  have hm9 : m ≤ 1000000000 := hmm
  have hlT : Ts.length = m := hA.len.trans hC.1
  have hls := lowI_spec (fun q : Nat => ovF (upF Ts (q : Int))) m
  have hlow := hls.2
  have hn0 := hA.n0
  refine TL.alloc (Wants.none rfl) rfl rfl zero56 (cs := [Value.slice none 0 0]) rfl (tot := 1) (by simp) (fun g3 hg3 => ?_)
  refine TL.store1 (Wants.none rfl) rfl rfl size56 rfl rfl rfl (i := 0) rfl rfl (by simp [] <;> omega) (cs' := [Value.slice (some ⟨gt, 0, none⟩) m m]) (rfl) (H' := [⟨g3, 56, [Value.slice (some ⟨gt, 0, none⟩) m m], 1⟩, ⟨g2, 32, [Value.int .i64 0, Value.int .i64 0], 2⟩, ⟨g1, 25, [Value.int .i64 o, Value.int .i64 n] ++ (H1.map (Value.int .u8) ++ (H2.map (Value.int .u8) ++ ([Value.slice A m c]))), 67⟩, ⟨gt, 59, flatT Ts, (m * 3)⟩]) rfl ?_
  refine TL.nil ?_
  refine TE.then ?_
  refine TC.seq ?_
  refine TC.regionL ?_
  refine TL.gets (Wants.none rfl) rfl (Gets.load1 rfl agg56 rfl (At.ent (i := 0) (ent := ⟨g3, 56, [Value.slice (some ⟨gt, 0, none⟩) m m], 1⟩) (off := 0) rfl rfl (by exact rfl))) ?_
  refine TL.gets (Wants.none rfl) rfl (Gets.lenSlice rfl Try.underlying56 rfl) ?_
  refine TL.gets (Wants.none rfl) rfl (Gets.makeFunc rfl rfl rfl) ?_
  refine TL.call0 (Wants.none rfl) rfl enters48 rfl rfl (v := .int .i64 ((lowI (fun q : Nat => ovF (upF Ts (q : Int))) m) : Int)) (fun w hs => search_c (fun q : Nat => ovF (upF Ts (q : Int))) m g3 (by omega) w (fun i W hi hW => over1_c g3 gt m i o n Cs Ts hA hm9 hm8 hlT (by omega) W ((lies_call (hs.has (⟨g3, 56, [Value.slice (some ⟨gt, 0, none⟩) m m], 1⟩) (by simp)) hW).cell rfl) (lies_rowsT (lies_call (hs.has (⟨gt, 59, flatT Ts, (m * 3)⟩) (by simp)) hW)) (lies_call (hs.has (⟨g3, 56, [Value.slice (some ⟨gt, 0, none⟩) m m], 1⟩) (by simp)) hW).lt (lies_call (hs.has (⟨gt, 59, flatT Ts, (m * 3)⟩) (by simp)) hW).lt) (fun a b hab _ ha => hA.mono hab ha)) ?_
  refine TL.gets (Wants.none rfl) rfl (Gets.assign rfl rfl) ?_
  refine TL.nil ?_
  refine TE.then ?_
  refine TC.sub (Sub.cons (i := 1) rfl (Sub.cons (i := 2) rfl (Sub.cons (i := 3) rfl (Sub.cons (i := 4) rfl (Sub.nil))))) ?_
  refine TC.seq ?_
  refine TC.seq ?_
  refine TC.regionL ?_
  refine TL.gets (Wants.none rfl) rfl (Gets.move rfl rfl) ?_
  refine TL.gets (Wants.none rfl) rfl (Gets.load1 rfl agg56 rfl (At.ent (i := 0) (ent := ⟨g3, 56, [Value.slice (some ⟨gt, 0, none⟩) m m], 1⟩) (off := 0) rfl rfl (by exact rfl))) ?_
  refine TL.gets (Wants.none rfl) rfl (Gets.lenSlice rfl Try.underlying56 rfl) ?_
  refine TL.gets (Wants.none rfl) rfl (Gets.lss rfl rfl rfl) ?_
  refine TL.nil ?_
  refine TE.then ?_
  refine TC.split rfl (fun hq0 => ?_) (fun hq0 => ?_)
  · have hov : ovF (upF Ts ((lowI (fun q : Nat => ovF (upF Ts (q : Int))) m : Nat) : Int)) := by rcases hls.1 with h | h; exact h.2; omega
    refine TC.seq ?_
    refine TC.regionL ?_
    refine TL.gets (Wants.none rfl) rfl (Gets.move rfl rfl) ?_
    refine TL.gets (Wants.none rfl) rfl (Gets.build rfl (vs := [(0, Value.int .i64 4), (1, Value.int .i64 ((lowI (fun q : Nat => ovF (upF Ts (q : Int))) m) : Int))]) rfl (fun w => by first | rfl | kernel_rfl) (v := .agg ([Value.int .i64 4, Value.int .i64 ((lowI (fun q : Nat => ovF (upF Ts (q : Int))) m) : Int)]).toArray)) ?_
    refine TL.storeW (Wants.none rfl) rfl rfl size32 rfl (vs := [Value.int .i64 4, Value.int .i64 ((lowI (fun q : Nat => ovF (upF Ts (q : Int))) m) : Int)]) rfl (by simp []) (by simp [Value.oneCell']) (i := 1) (ent := ⟨g2, 32, [Value.int .i64 0, Value.int .i64 0], 2⟩) rfl rfl (by simp []) (H' := [⟨g3, 56, [Value.slice (some ⟨gt, 0, none⟩) m m], 1⟩, ⟨g2, 32, [Value.int .i64 4, Value.int .i64 ((lowI (fun q : Nat => ovF (upF Ts (q : Int))) m) : Int)], 2⟩, ⟨g1, 25, [Value.int .i64 o, Value.int .i64 n] ++ (H1.map (Value.int .u8) ++ (H2.map (Value.int .u8) ++ ([Value.slice A m c]))), 67⟩, ⟨gt, 59, flatT Ts, (m * 3)⟩]) rfl ?_
    refine TL.nil ?_
    refine TE.then ?_
    refine TC.ret ?_
    refine TE.thenR ?_
    exact TE.retC rfl agg32 size32 rfl (vs := [Value.int .i64 4, Value.int .i64 ((lowI (fun q : Nat => ovF (upF Ts (q : Int))) m) : Int)]) rfl (Row.all (i := 1) (ent := ⟨g2, 32, [Value.int .i64 4, Value.int .i64 ((lowI (fun q : Nat => ovF (upF Ts (q : Int))) m) : Int)], 2⟩) rfl rfl rfl) (fun w hs => ⟨by rw [hA.over (k := lowI (fun q : Nat => ovF (upF Ts (q : Int))) m) hov (fun j hj => hlow j hj (by omega))], ((((hs.drop (by assumption)).drop (by assumption)).drop (by assumption)).drop (by assumption))⟩)
  · have hnb : ∀ j : Nat, j < m → ¬ ovF (upF Ts (j : Int)) := by rcases hls.1 with h | h; omega; exact fun j hj => hlow j (by omega) hj
    refine TC.skip ?_
    refine TE.then ?_
    refine TC.seq ?_
    refine TC.seq ?_
    refine TC.regionL ?_
    refine TL.gets (Wants.none rfl) rfl (Gets.load1 rfl agg56 rfl (At.ent (i := 0) (ent := ⟨g3, 56, [Value.slice (some ⟨gt, 0, none⟩) m m], 1⟩) (off := 0) rfl rfl (by exact rfl))) ?_
    refine TL.gets (Wants.none rfl) rfl (Gets.load1 rfl agg56 rfl (At.ent (i := 0) (ent := ⟨g3, 56, [Value.slice (some ⟨gt, 0, none⟩) m m], 1⟩) (off := 0) rfl rfl (by exact rfl))) ?_
    refine TL.gets (Wants.none rfl) rfl (Gets.lenSlice rfl Try.underlying56 rfl) ?_
    refine TL.call (ι := Nat × Nat) (V := fun y => .func (.func 64) #[] #[.pointer (some ⟨y.1, 0, none⟩), .pointer (some ⟨y.2, 0, none⟩)]) (R := fun y => w.heap.size ≤ y.1 ∧ w.heap.size ≤ y.2) (H' := fun y => [⟨g3, 56, [Value.slice (some ⟨gt, 0, none⟩) m m], 1⟩, ⟨g2, 32, [Value.int .i64 0, Value.int .i64 0], 2⟩, ⟨g1, 25, [Value.int .i64 o, Value.int .i64 n] ++ (H1.map (Value.int .u8) ++ (H2.map (Value.int .u8) ++ ([Value.slice A m c]))), 67⟩, ⟨gt, 59, flatT Ts, (m * 3)⟩, ⟨y.1, 56, [Value.slice (some ⟨gt, 0, none⟩) m m], 1⟩, ⟨y.2, 3, [Value.int .i64 (m : Int)], 1⟩]) (Wants.none rfl) rfl enters51 rfl rfl (fun w hs => (upTo_c gt m (m : Int) w).mono fun e w' ⟨y, he, hR, hw⟩ => ⟨y, he, ⟨Nat.le_trans hs.size hR.1, Nat.le_trans hs.size hR.2⟩, st_call hs hw (fun e he => by rcases List.mem_cons.1 he with rfl | he; exact hR.1; rw [List.mem_singleton.1 he]; exact hR.2)⟩) (fun y hR => ?_)
    obtain ⟨u1, v1⟩ := y
    obtain ⟨hu1, hv1⟩ := hR
    dsimp only at hu1 hv1 ⊢
    refine TL.call (ι := Int) (V := fun z => .int .i64 z) (R := fun z => gapR (upF Ts (m : Int)) z) (H' := fun _ => [⟨g3, 56, [Value.slice (some ⟨gt, 0, none⟩) m m], 1⟩, ⟨g2, 32, [Value.int .i64 0, Value.int .i64 0], 2⟩, ⟨g1, 25, [Value.int .i64 o, Value.int .i64 n] ++ (H1.map (Value.int .u8) ++ (H2.map (Value.int .u8) ++ ([Value.slice A m c]))), 67⟩, ⟨gt, 59, flatT Ts, (m * 3)⟩, ⟨u1, 56, [Value.slice (some ⟨gt, 0, none⟩) m m], 1⟩, ⟨v1, 3, [Value.int .i64 (m : Int)], 1⟩]) (Wants.none rfl) rfl enters52 rfl rfl (fun w hs => (gap_c u1 v1 gt m Ts (m : Int) (by omega) hm9 (hA.nums hm8) n hA.n0 (hA.pos _) (hA.ends _) w (capT_of (hs.has (⟨u1, 56, [Value.slice (some ⟨gt, 0, none⟩) m m], 1⟩) (by simp)) (hs.has (⟨v1, 3, [Value.int .i64 (m : Int)], 1⟩) (by simp)) (lies_rowsT (hs.has (⟨gt, 59, flatT Ts, (m * 3)⟩) (by simp))) hlT (hs.has (⟨gt, 59, flatT Ts, (m * 3)⟩) (by simp)).lt)).mono fun e w' ⟨y, he, hR, hw⟩ => ⟨y, he, hR, hs.call' hw⟩) (fun z hz => ?_)
    refine TL.gets (Wants.none rfl) rfl (Gets.assign rfl rfl) ?_
    refine TL.nil ?_
    refine TE.then ?_
    refine TC.sub (Sub.cons (i := 1) rfl (Sub.cons (i := 2) rfl (Sub.cons (i := 5) rfl (Sub.nil)))) ?_
    refine TC.seq ?_
    refine TC.regionL ?_
    refine TL.gets (Wants.none rfl) rfl (Gets.move rfl rfl) ?_
    refine TL.gets (Wants.none rfl) rfl (Gets.fieldAddr rfl Try.underlying25 rfl size3 rfl (off' := 1) (by first | rfl | omega)) ?_
    refine TL.gets (Wants.none rfl) rfl (Gets.load1 rfl agg3 rfl (At.ent (i := 2) (ent := ⟨g1, 25, [Value.int .i64 o, Value.int .i64 n] ++ (H1.map (Value.int .u8) ++ (H2.map (Value.int .u8) ++ ([Value.slice A m c]))), 67⟩) (off := 1) rfl rfl (by exact app_left (i := 1) (B := H1.map (Value.int .u8) ++ (H2.map (Value.int .u8) ++ ([Value.slice A m c]))) (rfl)))) ?_
    refine TL.gets (Wants.none rfl) rfl (Gets.lss rfl rfl rfl) ?_
    refine TL.nil ?_
    refine TE.then ?_
    refine TC.split rfl (fun hq1 => ?_) (fun hq1 => ?_)
    · refine TC.seq ?_
      refine TC.regionL ?_
      refine TL.gets (Wants.none rfl) rfl (Gets.move rfl rfl) ?_
      refine TL.gets (Wants.none rfl) rfl (Gets.build rfl (vs := [(0, Value.int .i64 3), (1, Value.int .i64 z)]) rfl (fun w => by first | rfl | kernel_rfl) (v := .agg ([Value.int .i64 3, Value.int .i64 z]).toArray)) ?_
      refine TL.storeW (Wants.none rfl) rfl rfl size32 rfl (vs := [Value.int .i64 3, Value.int .i64 z]) rfl (by simp []) (by simp [Value.oneCell']) (i := 1) (ent := ⟨g2, 32, [Value.int .i64 0, Value.int .i64 0], 2⟩) rfl rfl (by simp []) (H' := [⟨g3, 56, [Value.slice (some ⟨gt, 0, none⟩) m m], 1⟩, ⟨g2, 32, [Value.int .i64 3, Value.int .i64 z], 2⟩, ⟨g1, 25, [Value.int .i64 o, Value.int .i64 n] ++ (H1.map (Value.int .u8) ++ (H2.map (Value.int .u8) ++ ([Value.slice A m c]))), 67⟩, ⟨gt, 59, flatT Ts, (m * 3)⟩, ⟨u1, 56, [Value.slice (some ⟨gt, 0, none⟩) m m], 1⟩, ⟨v1, 3, [Value.int .i64 (m : Int)], 1⟩]) rfl ?_
      refine TL.nil ?_
      refine TE.then ?_
      refine TC.ret ?_
      refine TE.thenR ?_
      exact TE.retC rfl agg32 size32 rfl (vs := [Value.int .i64 3, Value.int .i64 z]) rfl (Row.all (i := 1) (ent := ⟨g2, 32, [Value.int .i64 3, Value.int .i64 z], 2⟩) rfl rfl rfl) (fun w hs => ⟨by rw [hA.gap hC.1 hnb hz hq1], ((((((hs.drop (by assumption)).drop (by assumption)).drop (by assumption)).drop (by assumption)).drop (by assumption)).drop (by assumption))⟩)
    · refine TC.skip ?_
      refine TE.then ?_
      refine TC.seq ?_
      refine TC.regionL ?_
      refine TL.gets (Wants.none rfl) rfl (Gets.build rfl (vs := []) rfl (fun w => by first | rfl | kernel_rfl) (v := .agg ([Value.int .i64 0, Value.int .i64 0]).toArray)) ?_
      refine TL.storeW (Wants.none rfl) rfl rfl size32 rfl (vs := [Value.int .i64 0, Value.int .i64 0]) rfl (by simp []) (by simp [Value.oneCell']) (i := 1) (ent := ⟨g2, 32, [Value.int .i64 0, Value.int .i64 0], 2⟩) rfl rfl (by simp []) (H' := [⟨g3, 56, [Value.slice (some ⟨gt, 0, none⟩) m m], 1⟩, ⟨g2, 32, [Value.int .i64 0, Value.int .i64 0], 2⟩, ⟨g1, 25, [Value.int .i64 o, Value.int .i64 n] ++ (H1.map (Value.int .u8) ++ (H2.map (Value.int .u8) ++ ([Value.slice A m c]))), 67⟩, ⟨gt, 59, flatT Ts, (m * 3)⟩, ⟨u1, 56, [Value.slice (some ⟨gt, 0, none⟩) m m], 1⟩, ⟨v1, 3, [Value.int .i64 (m : Int)], 1⟩]) rfl ?_
      refine TL.nil ?_
      refine TE.then ?_
      refine TC.ret ?_
      exact TE.retC rfl agg32 size32 rfl (vs := [Value.int .i64 0, Value.int .i64 0]) rfl (Row.all (i := 1) (ent := ⟨g2, 32, [Value.int .i64 0, Value.int .i64 0], 2⟩) rfl rfl rfl) (fun w hs => ⟨by rw [hA.none hC.1 hnb hz hq1], ((((((hs.drop (by assumption)).drop (by assumption)).drop (by assumption)).drop (by assumption)).drop (by assumption)).drop (by assumption))⟩)
end Go.Proofs.Ytkgamkjdkapchaa
