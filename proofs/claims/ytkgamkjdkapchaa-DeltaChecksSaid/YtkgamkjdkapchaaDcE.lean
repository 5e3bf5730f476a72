/-
  The code of layer 5: Totals, Find, Same.
-/
import Derived.Test.YtkgamkjdkapchaaDcD
namespace Go.Proofs.Ytkgamkjdkapchaa
set_option linter.unusedVariables false
set_option linter.unusedSimpArgs false
open Go Go.RowKit
theorem enters37 : Enters Try.prog 37 := ⟨_, Try.func37, by kernel_rfl, by kernel_rfl⟩
theorem enters38 : Enters Try.prog 38 := ⟨_, Try.func38, by kernel_rfl, by kernel_rfl⟩
theorem enters40 : Enters Try.prog 40 := ⟨_, Try.func40, by kernel_rfl, by kernel_rfl⟩
theorem enters41 : Enters Try.prog 41 := ⟨_, Try.func41, by kernel_rfl, by kernel_rfl⟩
set_option maxRecDepth 100000 in
set_option maxHeartbeats 400000 in
theorem dtotals_c (o n : Int) (H1 H2 : List Int) (hH1 : H1.length = 32) (hH2 : H2.length = 32) (A : Option Addr) (m c : Nat) (Cs : List CV) (hmm : m ≤ 1000000000) (hN : NumsC Cs) (w : World) (hC : SrcC w A m Cs) (hD : DatC w Cs) (hf : fewQ Cs) (hVC : ValidC o n Cs)  : Calls Try.prog 14 #[.agg ([Value.int .i64 o, Value.int .i64 n] ++ (H1.map (Value.int .u8) ++ (H2.map (Value.int .u8) ++ ([Value.slice A m c])))).toArray] w fun e w' => e = .returned (.tuple #[.int .i64 ((Cs.map cpV).sum), .int .i64 ((Cs.map ltV).sum)]) ∧ St w [] w' := by
  refine calls_from (args := [.agg ([Value.int .i64 o, Value.int .i64 n] ++ (H1.map (Value.int .u8) ++ (H2.map (Value.int .u8) ++ ([Value.slice A m c])))).toArray]) Try.func14 rfl Try.ntmps14 (by simp) ?_
  refine TC.sub (Sub.cons (i := 0) rfl (Sub.nil)) ?_
  refine TC.seq ?_
  refine TC.regionL ?_
  refine TL.box (Wants.none rfl) rfl rfl rfl (cs := [Value.int .i64 o, Value.int .i64 n] ++ (H1.map (Value.int .u8) ++ (H2.map (Value.int .u8) ++ ([Value.slice A m c])))) (by simp [Value.cells]) (tot := 67) (by simp [hH1, hH2]) (fun g1 hg1 => ?_)
  refine TL.gets (Wants.none rfl) rfl (Gets.assign rfl rfl) ?_
  refine TL.gets (Wants.none rfl) rfl (Gets.assign rfl rfl) ?_
  refine TL.nil ?_
  refine TE.then ?_
  refine TC.seq ?_
  refine TC.regionL ?_
  refine TL.gets (Wants.none rfl) rfl (Gets.assign rfl rfl) ?_
  refine TL.gets (Wants.none rfl) rfl (Gets.assign rfl rfl) ?_
  refine TL.nil ?_
  refine TE.then ?_
  refine TC.seq ?_
  refine TC.seq ?_
  refine TC.regionL ?_
  refine TL.gets (Wants.none rfl) rfl (Gets.fieldAddr rfl Try.underlying25 rfl size23 rfl (off' := 66) (by first | rfl | omega)) ?_
  refine TL.gets (Wants.none rfl) rfl (Gets.load1 rfl agg23 rfl (At.ent (i := 0) (ent := ⟨g1, 25, [Value.int .i64 o, Value.int .i64 n] ++ (H1.map (Value.int .u8) ++ (H2.map (Value.int .u8) ++ ([Value.slice A m c]))), 67⟩) (off := 66) rfl rfl (by exact app_right (a := 2) (i := 64) (rfl) (app_right (a := 32) (i := 32) (ints_len hH1) (app_right (a := 32) (i := 0) (ints_len hH2) (rfl)))))) ?_
  refine TL.gets (Wants.none rfl) rfl (Gets.lenSlice rfl Try.underlying23 rfl) ?_
  refine TL.gets (Wants.none rfl) rfl (Gets.move rfl rfl) ?_
  refine TL.nil ?_
  refine TE.then ?_
  refine TC.sub (Sub.cons (i := 2) rfl (Sub.cons (i := 3) rfl (Sub.cons (i := 4) rfl (Sub.cons (i := 5) rfl (Sub.cons (i := 10) rfl (Sub.cons (i := 11) rfl (Sub.cons (i := 12) rfl (Sub.nil)))))))) ?_
  refine TC.block ?_
  refine TC.loop (ι := Nat) (fun i => [(4, .int .i64 (totI cpV Cs i)), (5, .int .i64 (totI ltV Cs i)), (10, .slice A m c), (11, .int .i64 (m : Int)), (12, .int .i64 (i : Int))]) (fun i => [⟨g1, 25, [Value.int .i64 o, Value.int .i64 n] ++ (H1.map (Value.int .u8) ++ (H2.map (Value.int .u8) ++ ([Value.slice A m c]))), 67⟩]) (fun i => m - i) (fun i => i ≤ m) 0 (Nat.zero_le _) (Sub.int (i := 4) rfl ((totI_zero _ _).symm) (Sub.int (i := 5) rfl ((totI_zero _ _).symm) (Sub.slice (i := 10) rfl rfl (by first | omega | (dsimp only; omega) | rfl) (by first | omega | (dsimp only; omega) | rfl) (Sub.int (i := 11) rfl (by first | omega | rfl) (Sub.int (i := 12) rfl (by first | omega | rfl) (Sub.nil)))))) (fun w h => h) (fun i hC0 => ?_)
  refine TC.seq ?_
  refine TC.regionL ?_
  refine TL.gets (Wants.none rfl) rfl (Gets.lss rfl rfl rfl) ?_
  refine TL.nil ?_
  refine TE.then ?_
  refine TC.seq ?_
  refine TC.split rfl (fun hq0 => ?_) (fun hq0 => ?_)
  · obtain ⟨b, off, hAe, hb, hrw⟩ := hC.some_ (i := i) (by omega)
    subst hAe
    obtain ⟨x, hx⟩ := hC.get (i := i) (by omega)
    have hnx := hN i x hx
    unfold NumC at hnx
    have hlbx := lenV_bd (k := x.k) (l := x.l) (m := x.m) (by omega) (by omega)
    have ht4 := totI_succ (f := cpV) hx
    have ht5 := totI_succ (f := ltV) hx
    have hbd0 := hVC.tot i
    have hbd1 := hVC.tot (i + 1)
    have hvx := hVC.vld i x hx
    unfold vld at hvx
    refine TC.skip ?_
    refine TE.then ?_
    refine TC.seq ?_
    refine TC.block ?_
    refine TC.seq ?_
    refine TC.regionL ?_
    refine TL.gets (Wants.none rfl) rfl (Gets.idxSlice rfl Try.underlying23 size40 rfl rfl (i := i) (by omega) (by omega) (off' := (off + 5 * i)) (by omega)) ?_
    refine TL.gets (Wants.none rfl) rfl (Gets.loadN rfl agg40 size40 rfl rfl (Row.old (fun jj u h => hrw i x hx jj u h) hb (ne_cons (by show g1 ≠ b; omega) ne_nil))) ?_
    refine TL.alloc (Wants.none rfl) rfl rfl zero40 (cs := [Value.int .i64 0, Value.int .i64 0, Value.int .i64 0, Value.int .i64 0, Value.slice none 0 0]) rfl (tot := 5) (by simp) (fun g2 hg2 => ?_)
    refine TL.storeW (Wants.none rfl) rfl rfl size40 rfl (vs := [Value.int .i64 x.k, Value.int .i64 x.t, Value.int .i64 x.f, Value.int .i64 x.l, Value.slice x.A x.m x.c]) rfl (by simp []) (by simp [Value.oneCell']) (i := 0) (ent := ⟨g2, 40, [Value.int .i64 0, Value.int .i64 0, Value.int .i64 0, Value.int .i64 0, Value.slice none 0 0], 5⟩) rfl rfl (by simp []) (H' := [⟨g2, 40, [Value.int .i64 x.k, Value.int .i64 x.t, Value.int .i64 x.f, Value.int .i64 x.l, Value.slice x.A x.m x.c], 5⟩, ⟨g1, 25, [Value.int .i64 o, Value.int .i64 n] ++ (H1.map (Value.int .u8) ++ (H2.map (Value.int .u8) ++ ([Value.slice (some ⟨b, off, none⟩) m c]))), 67⟩]) rfl ?_
    refine TL.nil ?_
    refine TE.then ?_
    refine TC.sub (Sub.cons (i := 4) rfl (Sub.cons (i := 5) rfl (Sub.cons (i := 7) rfl (Sub.cons (i := 10) rfl (Sub.cons (i := 11) rfl (Sub.cons (i := 12) rfl (Sub.nil))))))) ?_
    refine TC.seq ?_
    refine TC.regionL ?_
    refine TL.gets (Wants.none rfl) rfl (Gets.loadN rfl agg40 size40 rfl (vs := [Value.int .i64 x.k, Value.int .i64 x.t, Value.int .i64 x.f, Value.int .i64 x.l, Value.slice x.A x.m x.c]) (by simp []) (Row.all (i := 0) (ent := ⟨g2, 40, [Value.int .i64 x.k, Value.int .i64 x.t, Value.int .i64 x.f, Value.int .i64 x.l, Value.slice x.A x.m x.c], 5⟩) rfl rfl rfl)) ?_
    refine TL.call0 (Wants.none rfl) rfl enters34 rfl rfl (v := .agg ([Value.int .i64 x.t, Value.int .i64 (lenV x.k x.l x.m)]).toArray) (fun w hs => tgt_c x.k x.t x.f x.l x.A x.m x.c (code_kind (single_vld (hVC.single i x hx)).2.2.2.1) w) ?_
    refine TL.gets (Wants.none rfl) rfl (Gets.field1 rfl Try.underlying49 rfl rfl agg3 rfl) ?_
    refine TL.gets (Wants.none rfl) rfl (Gets.assign rfl rfl) ?_
    refine TL.nil ?_
    refine TE.then ?_
    refine TC.sub (Sub.cons (i := 4) rfl (Sub.cons (i := 5) rfl (Sub.cons (i := 7) rfl (Sub.cons (i := 8) rfl (Sub.cons (i := 10) rfl (Sub.cons (i := 11) rfl (Sub.cons (i := 12) rfl (Sub.nil)))))))) ?_
    refine TC.seq ?_
    refine TC.regionL ?_
    refine TL.gets (Wants.none rfl) rfl (Gets.fieldAddr rfl Try.underlying40 rfl size3 rfl (off' := 0) (by first | rfl | omega)) ?_
    refine TL.gets (Wants.none rfl) rfl (Gets.load1 rfl agg3 rfl (At.ent (i := 0) (ent := ⟨g2, 40, [Value.int .i64 x.k, Value.int .i64 x.t, Value.int .i64 x.f, Value.int .i64 x.l, Value.slice x.A x.m x.c], 5⟩) (off := 0) rfl rfl (by exact rfl))) ?_
    refine TL.gets (Wants.none rfl) rfl (Gets.eql rfl rfl rfl) ?_
    refine TL.nil ?_
    refine TE.then ?_
    refine TC.sub (Sub.cons (i := 4) rfl (Sub.cons (i := 5) rfl (Sub.cons (i := 8) rfl (Sub.cons (i := 10) rfl (Sub.cons (i := 11) rfl (Sub.cons (i := 12) rfl (Sub.cons (i := 21) rfl (Sub.nil)))))))) ?_
    refine TC.split rfl (fun hq1 => ?_) (fun hq1 => ?_)
    · rw [cpV1 hq1] at ht4
      rw [ltV1 hq1] at ht5
      have hle : lenV x.k x.l x.m = x.l := by unfold lenV; rw [if_pos hq1]
      refine TC.regionL ?_
      refine TL.gets (Wants.none rfl) rfl (Gets.move rfl rfl) ?_
      refine TL.gets (Wants.none rfl) rfl (Gets.move rfl rfl) ?_
      refine TL.gets (Wants.none rfl) rfl (Gets.add rfl rfl rfl (r := ((totI cpV Cs i) + (lenV x.k x.l x.m))) (w64 (by omega) (by omega))) ?_
      refine TL.gets (Wants.none rfl) rfl (Gets.assign rfl rfl) ?_
      refine TL.nil ?_
      refine TE.blockN ?_
      refine TE.then ?_
      refine TC.sub (Sub.cons (i := 4) rfl (Sub.cons (i := 5) rfl (Sub.cons (i := 10) rfl (Sub.cons (i := 11) rfl (Sub.cons (i := 12) rfl (Sub.nil)))))) ?_
      refine TC.regionL ?_
      refine TL.gets (Wants.none rfl) rfl (Gets.add rfl rfl rfl (r := ((i : Int) + 1)) (w64 (by omega) (by omega))) ?_
      refine TL.gets (Wants.none rfl) rfl (Gets.move rfl rfl) ?_
      refine TL.nil ?_
      exact TE.back (i + 1) (by omega) (by omega) (Sub.int (i := 4) rfl (by omega) (Sub.int (i := 5) rfl (by omega) (Sub.slice (i := 10) rfl (by first | rfl | (congr 2; omega)) (by first | omega | (dsimp only; omega) | rfl) (by first | omega | (dsimp only; omega) | rfl) (Sub.int (i := 11) rfl (by first | omega | rfl) (Sub.int (i := 12) rfl (by first | omega | rfl) (Sub.nil)))))) (fun w h => (h.erase (i := 0) rfl (by assumption)))
    · rw [cpV2 hq1] at ht4
      rw [ltV2 hq1] at ht5
      have hle : lenV x.k x.l x.m = (x.m : Int) := by unfold lenV; rw [if_neg hq1]
      refine TC.regionL ?_
      refine TL.gets (Wants.none rfl) rfl (Gets.move rfl rfl) ?_
      refine TL.gets (Wants.none rfl) rfl (Gets.move rfl rfl) ?_
      refine TL.gets (Wants.none rfl) rfl (Gets.add rfl rfl rfl (r := ((totI ltV Cs i) + (lenV x.k x.l x.m))) (w64 (by omega) (by omega))) ?_
      refine TL.gets (Wants.none rfl) rfl (Gets.assign rfl rfl) ?_
      refine TL.nil ?_
      refine TE.blockN ?_
      refine TE.then ?_
      refine TC.sub (Sub.cons (i := 4) rfl (Sub.cons (i := 5) rfl (Sub.cons (i := 10) rfl (Sub.cons (i := 11) rfl (Sub.cons (i := 12) rfl (Sub.nil)))))) ?_
      refine TC.regionL ?_
      refine TL.gets (Wants.none rfl) rfl (Gets.add rfl rfl rfl (r := ((i : Int) + 1)) (w64 (by omega) (by omega))) ?_
      refine TL.gets (Wants.none rfl) rfl (Gets.move rfl rfl) ?_
      refine TL.nil ?_
      exact TE.back (i + 1) (by omega) (by omega) (Sub.int (i := 4) rfl (by omega) (Sub.int (i := 5) rfl (by omega) (Sub.slice (i := 10) rfl (by first | rfl | (congr 2; omega)) (by first | omega | (dsimp only; omega) | rfl) (by first | omega | (dsimp only; omega) | rfl) (Sub.int (i := 11) rfl (by first | omega | rfl) (Sub.int (i := 12) rfl (by first | omega | rfl) (Sub.nil)))))) (fun w h => (h.erase (i := 0) rfl (by assumption)))
  · refine TC.exit ?_
    refine TE.thenX ?_
    refine TE.thenX ?_
    refine TE.blockX ?_
    refine TE.then ?_
    refine TC.seq ?_
    refine TC.regionL ?_
    refine TL.gets (Wants.none rfl) rfl (Gets.move rfl rfl) ?_
    refine TL.gets (Wants.none rfl) rfl (Gets.move rfl rfl) ?_
    refine TL.gets (Wants.none rfl) rfl (Gets.assign rfl rfl) ?_
    refine TL.gets (Wants.none rfl) rfl (Gets.assign rfl rfl) ?_
    refine TL.nil ?_
    refine TE.then ?_
    refine TC.ret ?_
    exact TE.ret2 rfl rfl rfl (fun w hs => ⟨(by obtain rfl : i = m := (by omega); rw [totI_all hC.1, totI_all hC.1]), (hs.drop (by assumption))⟩)

set_option maxRecDepth 100000 in
set_option maxHeartbeats 400000 in
theorem find1_c (x : CV) (p : Int) (bp : Nat) (hk : x.k = 1 ∨ x.k = 2) (hv : vld x.t (lenV x.k x.l x.m)) (w : World) (hbp : w.cell? ⟨bp, 0, none⟩ = some (.int .i64 p)) (hbl : bp < w.heap.size) : Calls Try.prog 41 #[.agg ([Value.int .i64 x.k, Value.int .i64 x.t, Value.int .i64 x.f, Value.int .i64 x.l, Value.slice x.A x.m x.c]).toArray, .pointer (some ⟨bp, 0, none⟩)] w fun e w' => e = .returned (.bool (decide (hasB (tg x) p))) ∧ St w [] w' := by
  have hv2 := hv
  unfold vld at hv2
  refine calls_from (args := [.agg ([Value.int .i64 x.k, Value.int .i64 x.t, Value.int .i64 x.f, Value.int .i64 x.l, Value.slice x.A x.m x.c]).toArray, .pointer (some ⟨bp, 0, none⟩)]) Try.func41 rfl Try.ntmps41 (by simp) ?_
  refine TC.sub (Sub.cons (i := 0) rfl (Sub.cons (i := 1) rfl (Sub.nil))) ?_
  refine TC.seq ?_
  refine TC.regionL ?_
  refine TL.box (Wants.none rfl) rfl rfl rfl (cs := [Value.int .i64 x.k, Value.int .i64 x.t, Value.int .i64 x.f, Value.int .i64 x.l, Value.slice x.A x.m x.c]) (by simp [Value.cells]) (tot := 5) (by simp []) (fun g1 hg1 => ?_)
  refine TL.gets (Wants.none rfl) rfl (Gets.assign rfl rfl) ?_
  refine TL.nil ?_
  refine TE.then ?_
  refine TC.seq ?_
  refine TC.regionL ?_
  refine TL.gets (Wants.none rfl) rfl (Gets.loadN rfl agg40 size40 rfl (vs := [Value.int .i64 x.k, Value.int .i64 x.t, Value.int .i64 x.f, Value.int .i64 x.l, Value.slice x.A x.m x.c]) (by simp []) (Row.all (i := 0) (ent := ⟨g1, 40, [Value.int .i64 x.k, Value.int .i64 x.t, Value.int .i64 x.f, Value.int .i64 x.l, Value.slice x.A x.m x.c], 5⟩) rfl rfl rfl)) ?_
  refine TL.call0 (Wants.none rfl) rfl enters34 rfl rfl (v := .agg ([Value.int .i64 x.t, Value.int .i64 (lenV x.k x.l x.m)]).toArray) (fun w hs => tgt_c x.k x.t x.f x.l x.A x.m x.c hk w) ?_
  refine TL.alloc (Wants.none rfl) rfl rfl zero49 (cs := [Value.int .i64 0, Value.int .i64 0]) rfl (tot := 2) (by simp) (fun g2 hg2 => ?_)
  refine TL.storeW (Wants.none rfl) rfl rfl size49 rfl (vs := [Value.int .i64 x.t, Value.int .i64 (lenV x.k x.l x.m)]) rfl (by simp []) (by simp [Value.oneCell']) (i := 0) (ent := ⟨g2, 49, [Value.int .i64 0, Value.int .i64 0], 2⟩) rfl rfl (by simp []) (H' := [⟨g2, 49, [Value.int .i64 x.t, Value.int .i64 (lenV x.k x.l x.m)], 2⟩, ⟨g1, 40, [Value.int .i64 x.k, Value.int .i64 x.t, Value.int .i64 x.f, Value.int .i64 x.l, Value.slice x.A x.m x.c], 5⟩]) rfl ?_
  refine TL.nil ?_
  refine TE.then ?_
  refine TC.seq ?_
  refine TC.mix (by kernel_rfl) [1, 0, 1, 0, 0, 1, 1, 1, 0, 0, 0] rfl (by kernel_rfl) ?_
  refine TM.gets (Wants.none rfl) rfl (Gets.load1 rfl agg3 rfl (At.old hbp hbl (ne_cons (by show g2 ≠ bp; omega) (ne_cons (by show g1 ≠ bp; omega) ne_nil)))) ?_
  refine TM.free (Wants.none rfl) rfl (fun _ => Gets.fieldAddr rfl Try.underlying49 rfl size3 rfl (off' := 0) (by first | rfl | omega)) ?_
  refine TM.gets (Wants.none rfl) rfl (Gets.load1 rfl agg3 rfl (At.ent (i := 0) (ent := ⟨g2, 49, [Value.int .i64 x.t, Value.int .i64 (lenV x.k x.l x.m)], 2⟩) (off := 0) rfl rfl (by exact rfl))) ?_
  refine TM.free (Wants.none rfl) rfl (fun _ => Gets.geq rfl rfl rfl) ?_
  by_cases c1 : x.t ≤ p
  · refine TM.free (Wants.none rfl) rfl (fun _ => Gets.isTrue (Gets.move rfl rfl) c1) ?_
    refine TM.gets (Wants.yes rfl rfl rfl) rfl (Gets.load1 rfl agg3 rfl (At.old hbp hbl (ne_cons (by show g2 ≠ bp; omega) (ne_cons (by show g1 ≠ bp; omega) ne_nil)))) ?_
    refine TM.gets (Wants.yes rfl rfl rfl) rfl (Gets.loadN rfl agg49 size49 rfl (vs := [Value.int .i64 x.t, Value.int .i64 (lenV x.k x.l x.m)]) (by simp []) (Row.all (i := 0) (ent := ⟨g2, 49, [Value.int .i64 x.t, Value.int .i64 (lenV x.k x.l x.m)], 2⟩) rfl rfl rfl)) ?_
    refine TM.call0 (Wants.yes rfl rfl rfl) rfl enters42 rfl rfl (v := .int .i64 (x.t + (lenV x.k x.l x.m))) (fun w hs => end_c x.t (lenV x.k x.l x.m) (by omega) w) ?_
    refine TM.free (Wants.yes rfl rfl rfl) rfl (fun _ => Gets.lss rfl rfl rfl) ?_
    refine TM.free (Wants.none rfl) rfl (fun _ => Gets.pickT rfl rfl rfl) ?_
    refine TM.free (Wants.none rfl) rfl (fun _ => Gets.assign rfl rfl) ?_
    refine TM.nil ?_
    refine TE.then ?_
    refine TC.ret ?_
    exact TE.ret1 rfl rfl (fun w hs => ⟨dec_iff (by unfold hasB tg; dsimp only; omega), ((hs.drop (by assumption)).drop (by assumption))⟩)
  · refine TM.free (Wants.none rfl) rfl (fun _ => Gets.isFalse (Gets.move rfl rfl) c1) ?_
    refine TM.pass1 rfl rfl rfl rfl rfl ?_
    refine TM.pass1 rfl rfl rfl rfl rfl ?_
    refine TM.pass1 rfl rfl rfl rfl rfl ?_
    refine TM.pass rfl rfl rfl rfl rfl ?_
    refine TM.free (Wants.none rfl) rfl (fun _ => Gets.pickF rfl rfl rfl) ?_
    refine TM.free (Wants.none rfl) rfl (fun _ => Gets.assign rfl rfl) ?_
    refine TM.nil ?_
    refine TE.then ?_
    refine TC.ret ?_
    exact TE.ret1 rfl rfl (fun w hs => ⟨dec_f (by unfold hasB tg; dsimp only; omega), ((hs.drop (by assumption)).drop (by assumption))⟩)

set_option maxRecDepth 100000 in
set_option maxHeartbeats 400000 in
theorem index_c (o n : Int) (A : Option Addr) (m c : Nat) (Cs : List CV) (p : Int) (bp : Nat) (hVC : ValidC o n Cs) (hmm : m ≤ 1000000000) (hN : NumsC Cs) (w : World) (hC : SrcC w A m Cs) (hbp : w.cell? ⟨bp, 0, none⟩ = some (.int .i64 p)) (hbl : bp < w.heap.size) : Calls Try.prog 40 #[.slice A m c, .func (.func 41) #[] #[.pointer (some ⟨bp, 0, none⟩)]] w fun e w' => e = .returned (.int .i64 (findI Cs p)) ∧ St w [] w' := by
  refine calls_from (args := [.slice A m c, .func (.func 41) #[] #[.pointer (some ⟨bp, 0, none⟩)]]) Try.func40 rfl Try.ntmps40 (by simp) ?_
  refine TC.sub (Sub.cons (i := 0) rfl (Sub.cons (i := 1) rfl (Sub.nil))) ?_
  refine TC.seq ?_
  refine TC.regionL ?_
  refine TL.gets (Wants.none rfl) rfl (Gets.assign rfl rfl) ?_
  refine TL.nil ?_
  refine TE.then ?_
  refine TC.seq ?_
  refine TC.seq ?_
  refine TC.regionL ?_
  refine TL.gets (Wants.none rfl) rfl (Gets.move rfl rfl) ?_
  refine TL.gets (Wants.none rfl) rfl (Gets.lenSlice rfl Try.underlying23 rfl) ?_
  refine TL.gets (Wants.none rfl) rfl (Gets.move rfl rfl) ?_
  refine TL.nil ?_
  refine TE.then ?_
  refine TC.block ?_
  refine TC.loop (ι := Nat) (fun i => [(0, .slice A m c), (1, .func (.func 41) #[] #[.pointer (some ⟨bp, 0, none⟩)]), (7, .int .i64 (m : Int)), (8, .int .i64 (i : Int))]) (fun i => []) (fun i => m - i) (fun i => i ≤ m ∧ ∀ (j : Nat) (y : CV), j < i → Cs[j]? = some y → ¬ hasB (tg y) p) 0 ⟨Nat.zero_le _, fun j y h => absurd h (Nat.not_lt_zero j)⟩ (Sub.slice (i := 0) rfl rfl (by first | omega | (dsimp only; omega) | rfl) (by first | omega | (dsimp only; omega) | rfl) (Sub.cons (i := 1) rfl (Sub.int (i := 7) rfl (by first | omega | rfl) (Sub.int (i := 8) rfl (by first | omega | rfl) (Sub.nil))))) (fun w h => h) (fun i hC0 => ?_)
  obtain ⟨hC0, hC1⟩ := hC0
  refine TC.seq ?_
  refine TC.regionL ?_
  refine TL.gets (Wants.none rfl) rfl (Gets.lss rfl rfl rfl) ?_
  refine TL.nil ?_
  refine TE.then ?_
  refine TC.seq ?_
  refine TC.split rfl (fun hq0 => ?_) (fun hq0 => ?_)
  · obtain ⟨b, off, hAe, hb, hrw⟩ := hC.some_ (i := i) (by omega)
    subst hAe
    obtain ⟨x, hx⟩ := hC.get (i := i) (by omega)
    have hnx := hN i x hx
    unfold NumC at hnx
    have hlbx := lenV_bd (k := x.k) (l := x.l) (m := x.m) (by omega) (by omega)
    refine TC.skip ?_
    refine TE.then ?_
    refine TC.seq ?_
    refine TC.block ?_
    refine TC.seq ?_
    refine TC.regionL ?_
    refine TL.gets (Wants.none rfl) rfl (Gets.move rfl rfl) ?_
    refine TL.gets (Wants.none rfl) rfl (Gets.assign rfl rfl) ?_
    refine TL.nil ?_
    refine TE.then ?_
    refine TC.seq ?_
    refine TC.regionL ?_
    refine TL.gets (Wants.none rfl) rfl (Gets.move rfl rfl) ?_
    refine TL.gets (Wants.none rfl) rfl (Gets.move rfl rfl) ?_
    refine TL.gets (Wants.none rfl) rfl (Gets.move rfl rfl) ?_
    refine TL.gets (Wants.none rfl) rfl (Gets.idxSlice rfl Try.underlying23 size40 rfl rfl (i := i) (by omega) (by omega) (off' := (off + 5 * i)) (by omega)) ?_
    refine TL.gets (Wants.none rfl) rfl (Gets.loadN rfl agg40 size40 rfl rfl (Row.old (fun jj u h => hrw i x hx jj u h) hb ne_nil)) ?_
    refine TL.call0F (Wants.none rfl) rfl enters41 rfl rfl rfl (u := .bool (decide (hasB (tg x) p))) (fun w hs => find1_c x p bp (code_kind (single_vld (hVC.single i x hx)).2.2.2.1) (hVC.vld i x hx) w ((hs.old_cell (ad := ⟨bp, 0, none⟩) hbl ne_nil).trans hbp) (Nat.lt_of_lt_of_le hbl hs.size)) ?_
    refine TL.nil ?_
    refine TE.then ?_
    refine TC.sub (Sub.cons (i := 0) rfl (Sub.cons (i := 1) rfl (Sub.cons (i := 5) rfl (Sub.cons (i := 7) rfl (Sub.cons (i := 8) rfl (Sub.cons (i := 16) rfl (Sub.nil))))))) ?_
    refine TC.split rfl (fun hq1 => ?_) (fun hq1 => ?_)
    · refine TC.seq ?_
      refine TC.regionL ?_
      refine TL.gets (Wants.none rfl) rfl (Gets.move rfl rfl) ?_
      refine TL.gets (Wants.none rfl) rfl (Gets.assign rfl rfl) ?_
      refine TL.nil ?_
      refine TE.then ?_
      refine TC.ret ?_
      refine TE.blockR ?_
      refine TE.thenR ?_
      refine TE.thenR ?_
      refine TE.blockR ?_
      refine TE.thenR ?_
      exact TE.ret1 rfl rfl (fun w hs => ⟨ret_i ((findI_is (.inr ⟨i, x, rfl, hx, hq1, hC1⟩)).symm), hs⟩)
    · refine TC.skip ?_
      refine TE.blockN ?_
      refine TE.then ?_
      refine TC.regionL ?_
      refine TL.gets (Wants.none rfl) rfl (Gets.add rfl rfl rfl (r := ((i : Int) + 1)) (w64 (by omega) (by omega))) ?_
      refine TL.gets (Wants.none rfl) rfl (Gets.move rfl rfl) ?_
      refine TL.nil ?_
      exact TE.back (i + 1) (by omega) ⟨by omega, all_succ hC1 hx hq1⟩ (Sub.slice (i := 0) rfl (by first | rfl | (congr 2; omega)) (by first | omega | (dsimp only; omega) | rfl) (by first | omega | (dsimp only; omega) | rfl) (Sub.cons (i := 1) rfl (Sub.int (i := 7) rfl (by first | omega | rfl) (Sub.int (i := 8) rfl (by first | omega | rfl) (Sub.nil))))) (fun w h => h)
  · refine TC.exit ?_
    refine TE.thenX ?_
    refine TE.thenX ?_
    refine TE.blockX ?_
    refine TE.then ?_
    refine TC.seq ?_
    refine TC.regionL ?_
    refine TL.gets (Wants.none rfl) rfl (Gets.assign rfl rfl) ?_
    refine TL.nil ?_
    refine TE.then ?_
    refine TC.ret ?_
    exact TE.ret1 rfl rfl (fun w hs => ⟨ret_i ((findI_is (.inl ⟨rfl, all_of (m := m) (by have := hC.1; omega) (fun j y hj => hC1 j y (by omega))⟩)).symm), hs⟩)

set_option maxRecDepth 100000 in
set_option maxHeartbeats 400000 in
theorem dfind_c (o n : Int) (H1 H2 : List Int) (hH1 : H1.length = 32) (hH2 : H2.length = 32) (A : Option Addr) (m c : Nat) (Cs : List CV) (hmm : m ≤ 1000000000) (hN : NumsC Cs) (w : World) (hC : SrcC w A m Cs) (hD : DatC w Cs) (hf : fewQ Cs) (hVC : ValidC o n Cs) (p : Int)  : Calls Try.prog 24 #[.agg ([Value.int .i64 o, Value.int .i64 n] ++ (H1.map (Value.int .u8) ++ (H2.map (Value.int .u8) ++ ([Value.slice A m c])))).toArray, .int .i64 p] w fun e w' => e = .returned (.int .i64 (findI Cs p)) ∧ St w [] w' := by
  refine calls_from (args := [.agg ([Value.int .i64 o, Value.int .i64 n] ++ (H1.map (Value.int .u8) ++ (H2.map (Value.int .u8) ++ ([Value.slice A m c])))).toArray, .int .i64 p]) Try.func24 rfl Try.ntmps24 (by simp) ?_
  refine TC.sub (Sub.cons (i := 0) rfl (Sub.cons (i := 1) rfl (Sub.nil))) ?_
  refine TC.seq ?_
  refine TC.regionL ?_
  refine TL.box (Wants.none rfl) rfl rfl rfl (cs := [Value.int .i64 o, Value.int .i64 n] ++ (H1.map (Value.int .u8) ++ (H2.map (Value.int .u8) ++ ([Value.slice A m c])))) (by simp [Value.cells]) (tot := 67) (by simp [hH1, hH2]) (fun g1 hg1 => ?_)
  refine TL.box (Wants.none rfl) rfl rfl rfl (cs := [Value.int .i64 p]) rfl (tot := 1) (by simp []) (fun g2 hg2 => ?_)
  refine TL.gets (Wants.none rfl) rfl (Gets.assign rfl rfl) ?_
  refine TL.nil ?_
  refine TE.then ?_
  refine TC.seq ?_
  refine TC.regionL ?_
  refine TL.gets (Wants.none rfl) rfl (Gets.fieldAddr rfl Try.underlying25 rfl size23 rfl (off' := 66) (by first | rfl | omega)) ?_
  refine TL.gets (Wants.none rfl) rfl (Gets.load1 rfl agg23 rfl (At.ent (i := 1) (ent := ⟨g1, 25, [Value.int .i64 o, Value.int .i64 n] ++ (H1.map (Value.int .u8) ++ (H2.map (Value.int .u8) ++ ([Value.slice A m c]))), 67⟩) (off := 66) rfl rfl (by exact app_right (a := 2) (i := 64) (rfl) (app_right (a := 32) (i := 32) (ints_len hH1) (app_right (a := 32) (i := 0) (ints_len hH2) (rfl)))))) ?_
  refine TL.gets (Wants.none rfl) rfl (Gets.makeFunc rfl rfl rfl) ?_
  refine TL.call0 (Wants.none rfl) rfl enters40 rfl rfl (v := .int .i64 (findI Cs p)) (fun w hs => index_c o n A m c Cs p g2 hVC hmm hN w (hC.at_ hs (fun b hb => (ne_cons (by show g2 ≠ b; omega) (ne_cons (by show g1 ≠ b; omega) ne_nil)))) ((hs.has (⟨g2, 3, [Value.int .i64 p], 1⟩) (by simp)).cell rfl) (hs.has (⟨g2, 3, [Value.int .i64 p], 1⟩) (by simp)).lt) ?_
  refine TL.gets (Wants.none rfl) rfl (Gets.assign rfl rfl) ?_
  refine TL.nil ?_
  refine TE.then ?_
  refine TC.ret ?_
  exact TE.ret1 rfl rfl (fun w hs => ⟨ret_i (rfl), ((hs.drop (by assumption)).drop (by assumption))⟩)

set_option maxRecDepth 100000 in
set_option maxHeartbeats 400000 in
theorem equal_c (A A2 : Option Addr) (m c m2 c2 : Nat) (Cs Es : List CV) (hmm : m ≤ 1000000000) (hmm2 : m2 ≤ 1000000000) (hN : NumsC Cs) (w : World) (hC : SrcC w A m Cs) (hC2 : SrcC w A2 m2 Es) (hD : DatC w Cs) (hE : DatC w Es) : Calls Try.prog 37 #[.slice A m c, .slice A2 m2 c2, .func (.func 38) #[] #[]] w fun e w' => e = .returned (.bool (decide (sameC Cs Es))) ∧ St w [] w' := by
  refine calls_from (args := [.slice A m c, .slice A2 m2 c2, .func (.func 38) #[] #[]]) Try.func37 rfl Try.ntmps37 (by simp) ?_
  refine TC.sub (Sub.cons (i := 0) rfl (Sub.cons (i := 1) rfl (Sub.cons (i := 2) rfl (Sub.nil)))) ?_
  refine TC.seq ?_
  refine TC.regionL ?_
  refine TL.gets (Wants.none rfl) rfl (Gets.assign rfl rfl) ?_
  refine TL.nil ?_
  refine TE.then ?_
  refine TC.seq ?_
  refine TC.seq ?_
  refine TC.regionL ?_
  refine TL.gets (Wants.none rfl) rfl (Gets.move rfl rfl) ?_
  refine TL.gets (Wants.none rfl) rfl (Gets.lenSlice rfl Try.underlying23 rfl) ?_
  refine TL.gets (Wants.none rfl) rfl (Gets.move rfl rfl) ?_
  refine TL.gets (Wants.none rfl) rfl (Gets.lenSlice rfl Try.underlying23 rfl) ?_
  refine TL.gets (Wants.none rfl) rfl (Gets.neq rfl rfl rfl) ?_
  refine TL.nil ?_
  refine TE.then ?_
  refine TC.sub (Sub.cons (i := 0) rfl (Sub.cons (i := 1) rfl (Sub.cons (i := 2) rfl (Sub.cons (i := 6) rfl (Sub.cons (i := 14) rfl (Sub.nil)))))) ?_
  refine TC.split rfl (fun hq0 => ?_) (fun hq0 => ?_)
  · refine TC.seq ?_
    refine TC.regionL ?_
    refine TL.gets (Wants.none rfl) rfl (Gets.assign rfl rfl) ?_
    refine TL.nil ?_
    refine TE.then ?_
    refine TC.ret ?_
    refine TE.thenR ?_
    exact TE.ret1 rfl rfl (fun w hs => ⟨dec_f (fun h => by first | exact hq2 (sameC_at h hx hy) | (have h1 := sameC_len h; have h2 := hC.1; have h3 := hC2.1; omega)), hs⟩)
  · refine TC.skip ?_
    refine TE.then ?_
    refine TC.seq ?_
    refine TC.seq ?_
    refine TC.regionL ?_
    refine TL.gets (Wants.none rfl) rfl (Gets.move rfl rfl) ?_
    refine TL.gets (Wants.none rfl) rfl (Gets.lenSlice rfl Try.underlying23 rfl) ?_
    refine TL.gets (Wants.none rfl) rfl (Gets.move rfl rfl) ?_
    refine TL.nil ?_
    refine TE.then ?_
    refine TC.block ?_
    refine TC.loop (ι := Nat) (fun i => [(1, .slice A2 m2 c2), (2, .func (.func 38) #[] #[]), (15, .slice A m c), (16, .int .i64 (m : Int)), (17, .int .i64 (i : Int))]) (fun i => []) (fun i => m - i) (fun i => i ≤ m ∧ ∀ (j : Nat) (x y : CV), j < i → Cs[j]? = some x → Es[j]? = some y → sameV x y) 0 ⟨Nat.zero_le _, fun j x y h => absurd h (Nat.not_lt_zero j)⟩ (Sub.slice (i := 1) rfl rfl (by first | omega | (dsimp only; omega) | rfl) (by first | omega | (dsimp only; omega) | rfl) (Sub.cons (i := 2) rfl (Sub.slice (i := 15) rfl rfl (by first | omega | (dsimp only; omega) | rfl) (by first | omega | (dsimp only; omega) | rfl) (Sub.int (i := 16) rfl (by first | omega | rfl) (Sub.int (i := 17) rfl (by first | omega | rfl) (Sub.nil)))))) (fun w h => h) (fun i hC0 => ?_)
    obtain ⟨hC0, hj⟩ := hC0
    refine TC.seq ?_
    refine TC.regionL ?_
    refine TL.gets (Wants.none rfl) rfl (Gets.lss rfl rfl rfl) ?_
    refine TL.nil ?_
    refine TE.then ?_
    refine TC.seq ?_
    refine TC.split rfl (fun hq1 => ?_) (fun hq1 => ?_)
    · obtain ⟨b, off, hAe, hb, hrw⟩ := hC.some_ (i := i) (by omega)
      subst hAe
      obtain ⟨x, hx⟩ := hC.get (i := i) (by omega)
      have hnx := hN i x hx
      unfold NumC at hnx
      have hlbx := lenV_bd (k := x.k) (l := x.l) (m := x.m) (by omega) (by omega)
      obtain ⟨b2, off2, hAe2, hb2, hrw2⟩ := hC2.some_ (i := i) (by omega)
      subst hAe2
      obtain ⟨y, hy⟩ := hC2.get (i := i) (by omega)
      refine TC.skip ?_
      refine TE.then ?_
      refine TC.seq ?_
      refine TC.block ?_
      refine TC.seq ?_
      refine TC.regionL ?_
      refine TL.gets (Wants.none rfl) rfl (Gets.move rfl rfl) ?_
      refine TL.gets (Wants.none rfl) rfl (Gets.idxSlice rfl Try.underlying23 size40 rfl rfl (i := i) (by omega) (by omega) (off' := (off + 5 * i)) (by omega)) ?_
      refine TL.gets (Wants.none rfl) rfl (Gets.loadN rfl agg40 size40 rfl rfl (Row.old (fun jj u h => hrw i x hx jj u h) hb ne_nil)) ?_
      refine TL.alloc (Wants.none rfl) rfl rfl zero40 (cs := [Value.int .i64 0, Value.int .i64 0, Value.int .i64 0, Value.int .i64 0, Value.slice none 0 0]) rfl (tot := 5) (by simp) (fun g1 hg1 => ?_)
      refine TL.gets (Wants.none rfl) rfl (Gets.assign rfl rfl) ?_
      refine TL.storeW (Wants.none rfl) rfl rfl size40 rfl (vs := [Value.int .i64 x.k, Value.int .i64 x.t, Value.int .i64 x.f, Value.int .i64 x.l, Value.slice x.A x.m x.c]) rfl (by simp []) (by simp [Value.oneCell']) (i := 0) (ent := ⟨g1, 40, [Value.int .i64 0, Value.int .i64 0, Value.int .i64 0, Value.int .i64 0, Value.slice none 0 0], 5⟩) rfl rfl (by simp []) (H' := [⟨g1, 40, [Value.int .i64 x.k, Value.int .i64 x.t, Value.int .i64 x.f, Value.int .i64 x.l, Value.slice x.A x.m x.c], 5⟩]) rfl ?_
      refine TL.nil ?_
      refine TE.then ?_
      refine TC.sub (Sub.cons (i := 1) rfl (Sub.cons (i := 2) rfl (Sub.cons (i := 7) rfl (Sub.cons (i := 8) rfl (Sub.cons (i := 15) rfl (Sub.cons (i := 16) rfl (Sub.cons (i := 17) rfl (Sub.nil)))))))) ?_
      refine TC.seq ?_
      refine TC.regionL ?_
      refine TL.gets (Wants.none rfl) rfl (Gets.move rfl rfl) ?_
      refine TL.gets (Wants.none rfl) rfl (Gets.move rfl rfl) ?_
      refine TL.gets (Wants.none rfl) rfl (Gets.idxSlice rfl Try.underlying23 size40 rfl rfl (i := i) (by omega) (by omega) (off' := (off2 + 5 * i)) (by omega)) ?_
      refine TL.gets (Wants.none rfl) rfl (Gets.loadN rfl agg40 size40 rfl rfl (Row.old (fun jj u h => hrw2 i y hy jj u h) hb2 (ne_cons (by show g1 ≠ b2; omega) ne_nil))) ?_
      refine TL.alloc (Wants.none rfl) rfl rfl zero40 (cs := [Value.int .i64 0, Value.int .i64 0, Value.int .i64 0, Value.int .i64 0, Value.slice none 0 0]) rfl (tot := 5) (by simp) (fun g2 hg2 => ?_)
      refine TL.storeW (Wants.none rfl) rfl rfl size40 rfl (vs := [Value.int .i64 y.k, Value.int .i64 y.t, Value.int .i64 y.f, Value.int .i64 y.l, Value.slice y.A y.m y.c]) rfl (by simp []) (by simp [Value.oneCell']) (i := 0) (ent := ⟨g2, 40, [Value.int .i64 0, Value.int .i64 0, Value.int .i64 0, Value.int .i64 0, Value.slice none 0 0], 5⟩) rfl rfl (by simp []) (H' := [⟨g2, 40, [Value.int .i64 y.k, Value.int .i64 y.t, Value.int .i64 y.f, Value.int .i64 y.l, Value.slice y.A y.m y.c], 5⟩, ⟨g1, 40, [Value.int .i64 x.k, Value.int .i64 x.t, Value.int .i64 x.f, Value.int .i64 x.l, Value.slice x.A x.m x.c], 5⟩]) rfl ?_
      refine TL.nil ?_
      refine TE.then ?_
      refine TC.sub (Sub.cons (i := 1) rfl (Sub.cons (i := 2) rfl (Sub.cons (i := 8) rfl (Sub.cons (i := 9) rfl (Sub.cons (i := 15) rfl (Sub.cons (i := 16) rfl (Sub.cons (i := 17) rfl (Sub.nil)))))))) ?_
      refine TC.seq ?_
      refine TC.regionL ?_
      refine TL.gets (Wants.none rfl) rfl (Gets.move rfl rfl) ?_
      refine TL.gets (Wants.none rfl) rfl (Gets.loadN rfl agg40 size40 rfl (vs := [Value.int .i64 x.k, Value.int .i64 x.t, Value.int .i64 x.f, Value.int .i64 x.l, Value.slice x.A x.m x.c]) (by simp []) (Row.all (i := 1) (ent := ⟨g1, 40, [Value.int .i64 x.k, Value.int .i64 x.t, Value.int .i64 x.f, Value.int .i64 x.l, Value.slice x.A x.m x.c], 5⟩) rfl rfl rfl)) ?_
      refine TL.gets (Wants.none rfl) rfl (Gets.loadN rfl agg40 size40 rfl (vs := [Value.int .i64 y.k, Value.int .i64 y.t, Value.int .i64 y.f, Value.int .i64 y.l, Value.slice y.A y.m y.c]) (by simp []) (Row.all (i := 0) (ent := ⟨g2, 40, [Value.int .i64 y.k, Value.int .i64 y.t, Value.int .i64 y.f, Value.int .i64 y.l, Value.slice y.A y.m y.c], 5⟩) rfl rfl rfl)) ?_
      refine TL.call0F (Wants.none rfl) rfl enters38 rfl rfl rfl (u := .bool (decide (sameP x.k x.t x.f x.l y.k y.t y.f y.l x.B y.B))) (fun w hs => same_c x.k x.t x.f x.l y.k y.t y.f y.l x.A y.A x.m x.c y.m y.c x.B y.B (hD i x hx).2 (hE i y hy).2 w ((hD i x hx).1.at_ hs (fun b hb => (ne_cons (by show g2 ≠ b; omega) (ne_cons (by show g1 ≠ b; omega) ne_nil)))) ((hE i y hy).1.at_ hs (fun b hb => (ne_cons (by show g2 ≠ b; omega) (ne_cons (by show g1 ≠ b; omega) ne_nil))))) ?_
      refine TL.gets (Wants.none rfl) rfl (Gets.notP rfl rfl) ?_
      refine TL.nil ?_
      refine TE.then ?_
      refine TC.sub (Sub.cons (i := 1) rfl (Sub.cons (i := 2) rfl (Sub.cons (i := 15) rfl (Sub.cons (i := 16) rfl (Sub.cons (i := 17) rfl (Sub.cons (i := 30) rfl (Sub.nil))))))) ?_
      refine TC.split rfl (fun hq2 => ?_) (fun hq2 => ?_)
      · refine TC.seq ?_
        refine TC.regionL ?_
        refine TL.gets (Wants.none rfl) rfl (Gets.assign rfl rfl) ?_
        refine TL.nil ?_
        refine TE.then ?_
        refine TC.ret ?_
        refine TE.blockR ?_
        refine TE.thenR ?_
        refine TE.thenR ?_
        refine TE.blockR ?_
        refine TE.thenR ?_
        exact TE.ret1 rfl rfl (fun w hs => ⟨dec_f (fun h => by first | exact hq2 (sameC_at h hx hy) | (have h1 := sameC_len h; have h2 := hC.1; have h3 := hC2.1; omega)), ((hs.drop (by assumption)).drop (by assumption))⟩)
      · refine TC.skip ?_
        refine TE.blockN ?_
        refine TE.then ?_
        refine TC.regionL ?_
        refine TL.gets (Wants.none rfl) rfl (Gets.add rfl rfl rfl (r := ((i : Int) + 1)) (w64 (by omega) (by omega))) ?_
        refine TL.gets (Wants.none rfl) rfl (Gets.move rfl rfl) ?_
        refine TL.nil ?_
        exact TE.back (i + 1) (by omega) ⟨by omega, sameC_succ hj hx hy (Decidable.not_not.1 hq2)⟩ (Sub.slice (i := 1) rfl (by first | rfl | (congr 2; omega)) (by first | omega | (dsimp only; omega) | rfl) (by first | omega | (dsimp only; omega) | rfl) (Sub.cons (i := 2) rfl (Sub.slice (i := 15) rfl (by first | rfl | (congr 2; omega)) (by first | omega | (dsimp only; omega) | rfl) (by first | omega | (dsimp only; omega) | rfl) (Sub.int (i := 16) rfl (by first | omega | rfl) (Sub.int (i := 17) rfl (by first | omega | rfl) (Sub.nil)))))) (fun w h => ((h.erase (i := 1) rfl (by assumption)).erase (i := 0) rfl (by assumption)))
    · refine TC.exit ?_
      refine TE.thenX ?_
      refine TE.thenX ?_
      refine TE.blockX ?_
      refine TE.then ?_
      refine TC.seq ?_
      refine TC.regionL ?_
      refine TL.gets (Wants.none rfl) rfl (Gets.assign rfl rfl) ?_
      refine TL.nil ?_
      refine TE.then ?_
      refine TC.ret ?_
      exact TE.ret1 rfl rfl (fun w hs => ⟨dec_t (sameC_of (by have := hC.1; have := hC2.1; omega) fun i' x y hx hy => hj i' x y (by have := (List.getElem?_eq_some_iff.1 hx).1; have := hC.1; omega) hx hy), hs⟩)

set_option maxRecDepth 100000 in
set_option maxHeartbeats 400000 in
theorem dsame_c (o n : Int) (H1 H2 : List Int) (hH1 : H1.length = 32) (hH2 : H2.length = 32) (A : Option Addr) (m c : Nat) (Cs : List CV) (o2 n2 : Int) (G1 G2 : List Int) (hG1 : G1.length = 32) (hG2 : G2.length = 32) (A2 : Option Addr) (m2 c2 : Nat) (Es : List CV) (hmm : m ≤ 1000000000) (hmm2 : m2 ≤ 1000000000) (hN : NumsC Cs) (w : World) (hC : SrcC w A m Cs) (hC2 : SrcC w A2 m2 Es) (hD : DatC w Cs) (hE : DatC w Es) (hf : fewQ Cs) (hf2 : fewQ Es) : Calls Try.prog 22 #[.agg ([Value.int .i64 o, Value.int .i64 n] ++ (H1.map (Value.int .u8) ++ (H2.map (Value.int .u8) ++ ([Value.slice A m c])))).toArray, .agg ([Value.int .i64 o2, Value.int .i64 n2] ++ (G1.map (Value.int .u8) ++ (G2.map (Value.int .u8) ++ ([Value.slice A2 m2 c2])))).toArray] w fun e w' => e = .returned (.bool (decide (sameD o n H1 H2 Cs o2 n2 G1 G2 Es))) ∧ St w [] w' := by
  refine calls_from (args := [.agg ([Value.int .i64 o, Value.int .i64 n] ++ (H1.map (Value.int .u8) ++ (H2.map (Value.int .u8) ++ ([Value.slice A m c])))).toArray, .agg ([Value.int .i64 o2, Value.int .i64 n2] ++ (G1.map (Value.int .u8) ++ (G2.map (Value.int .u8) ++ ([Value.slice A2 m2 c2])))).toArray]) Try.func22 rfl Try.ntmps22 (by simp) ?_
  refine TC.sub (Sub.cons (i := 0) rfl (Sub.cons (i := 1) rfl (Sub.nil))) ?_
  refine TC.seq ?_
  refine TC.regionL ?_
  refine TL.box (Wants.none rfl) rfl rfl rfl (cs := [Value.int .i64 o, Value.int .i64 n] ++ (H1.map (Value.int .u8) ++ (H2.map (Value.int .u8) ++ ([Value.slice A m c])))) (by simp [Value.cells]) (tot := 67) (by simp [hH1, hH2]) (fun g1 hg1 => ?_)
  refine TL.box (Wants.none rfl) rfl rfl rfl (cs := [Value.int .i64 o2, Value.int .i64 n2] ++ (G1.map (Value.int .u8) ++ (G2.map (Value.int .u8) ++ ([Value.slice A2 m2 c2])))) (by simp [Value.cells]) (tot := 67) (by simp [hG1, hG2]) (fun g2 hg2 => ?_)
  refine TL.gets (Wants.none rfl) rfl (Gets.assign rfl rfl) ?_
  refine TL.nil ?_
  refine TE.then ?_
  refine TC.seq ?_
  refine TC.regionL ?_
  refine TL.gets (Wants.none rfl) rfl (Gets.fieldAddr rfl Try.underlying25 rfl size3 rfl (off' := 0) (by first | rfl | omega)) ?_
  refine TL.gets (Wants.none rfl) rfl (Gets.load1 rfl agg3 rfl (At.ent (i := 1) (ent := ⟨g1, 25, [Value.int .i64 o, Value.int .i64 n] ++ (H1.map (Value.int .u8) ++ (H2.map (Value.int .u8) ++ ([Value.slice A m c]))), 67⟩) (off := 0) rfl rfl (by exact app_left (i := 0) (B := H1.map (Value.int .u8) ++ (H2.map (Value.int .u8) ++ ([Value.slice A m c]))) (rfl)))) ?_
  refine TL.gets (Wants.none rfl) rfl (Gets.fieldAddr rfl Try.underlying25 rfl size3 rfl (off' := 0) (by first | rfl | omega)) ?_
  refine TL.gets (Wants.none rfl) rfl (Gets.load1 rfl agg3 rfl (At.ent (i := 0) (ent := ⟨g2, 25, [Value.int .i64 o2, Value.int .i64 n2] ++ (G1.map (Value.int .u8) ++ (G2.map (Value.int .u8) ++ ([Value.slice A2 m2 c2]))), 67⟩) (off := 0) rfl rfl (by exact app_left (i := 0) (B := G1.map (Value.int .u8) ++ (G2.map (Value.int .u8) ++ ([Value.slice A2 m2 c2]))) (rfl)))) ?_
  refine TL.gets (Wants.none rfl) rfl (Gets.eql rfl rfl rfl) ?_
  by_cases q1 : o = o2
  · refine TL.gets (Wants.none rfl) rfl (Gets.isTrue (Gets.move rfl rfl) q1) ?_
    refine TL.gets (Wants.yes rfl rfl rfl) rfl (Gets.fieldAddr rfl Try.underlying25 rfl size3 rfl (off' := 1) (by first | rfl | omega)) ?_
    refine TL.gets (Wants.yes rfl rfl rfl) rfl (Gets.load1 rfl agg3 rfl (At.ent (i := 1) (ent := ⟨g1, 25, [Value.int .i64 o, Value.int .i64 n] ++ (H1.map (Value.int .u8) ++ (H2.map (Value.int .u8) ++ ([Value.slice A m c]))), 67⟩) (off := 1) rfl rfl (by exact app_left (i := 1) (B := H1.map (Value.int .u8) ++ (H2.map (Value.int .u8) ++ ([Value.slice A m c]))) (rfl)))) ?_
    refine TL.gets (Wants.yes rfl rfl rfl) rfl (Gets.fieldAddr rfl Try.underlying25 rfl size3 rfl (off' := 1) (by first | rfl | omega)) ?_
    refine TL.gets (Wants.yes rfl rfl rfl) rfl (Gets.load1 rfl agg3 rfl (At.ent (i := 0) (ent := ⟨g2, 25, [Value.int .i64 o2, Value.int .i64 n2] ++ (G1.map (Value.int .u8) ++ (G2.map (Value.int .u8) ++ ([Value.slice A2 m2 c2]))), 67⟩) (off := 1) rfl rfl (by exact app_left (i := 1) (B := G1.map (Value.int .u8) ++ (G2.map (Value.int .u8) ++ ([Value.slice A2 m2 c2]))) (rfl)))) ?_
    refine TL.gets (Wants.yes rfl rfl rfl) rfl (Gets.eql rfl rfl rfl) ?_
    refine TL.gets (Wants.none rfl) rfl (Gets.pickT rfl rfl rfl) ?_
    by_cases q2 : n = n2
    · refine TL.gets (Wants.none rfl) rfl (Gets.isTrue (Gets.move rfl rfl) q2) ?_
      refine TL.gets (Wants.yes rfl rfl rfl) rfl (Gets.fieldAddr rfl Try.underlying25 rfl size22 rfl (off' := 2) (by first | rfl | omega)) ?_
      refine TL.gets (Wants.yes rfl rfl rfl) rfl (Gets.loadN rfl agg22 size22 rfl (vs := H1.map (Value.int .u8)) (by simp [hH1]) (Row.part (i := 1) (ent := ⟨g1, 25, [Value.int .i64 o, Value.int .i64 n] ++ (H1.map (Value.int .u8) ++ (H2.map (Value.int .u8) ++ ([Value.slice A m c]))), 67⟩) rfl rfl (by exact seg_mid (by simp [])))) ?_
      refine TL.gets (Wants.yes rfl rfl rfl) rfl (Gets.fieldAddr rfl Try.underlying25 rfl size22 rfl (off' := 2) (by first | rfl | omega)) ?_
      refine TL.gets (Wants.yes rfl rfl rfl) rfl (Gets.loadN rfl agg22 size22 rfl (vs := G1.map (Value.int .u8)) (by simp [hG1]) (Row.part (i := 0) (ent := ⟨g2, 25, [Value.int .i64 o2, Value.int .i64 n2] ++ (G1.map (Value.int .u8) ++ (G2.map (Value.int .u8) ++ ([Value.slice A2 m2 c2]))), 67⟩) rfl rfl (by exact seg_mid (by simp [])))) ?_
      refine TL.gets (Wants.yes rfl rfl rfl) rfl (Gets.arrEq rfl Try.underlying22 Try.underlying5 size5 geq22 rfl rfl hH1 hG1) ?_
      refine TL.gets (Wants.none rfl) rfl (Gets.pickT rfl rfl rfl) ?_
      by_cases q3 : H1 = G1
      · refine TL.gets (Wants.none rfl) rfl (Gets.isTrue (Gets.move rfl rfl) q3) ?_
        refine TL.gets (Wants.yes rfl rfl rfl) rfl (Gets.fieldAddr rfl Try.underlying25 rfl size22 rfl (off' := 34) (by first | rfl | omega)) ?_
        refine TL.gets (Wants.yes rfl rfl rfl) rfl (Gets.loadN rfl agg22 size22 rfl (vs := H2.map (Value.int .u8)) (by simp [hH2]) (Row.part (i := 1) (ent := ⟨g1, 25, [Value.int .i64 o, Value.int .i64 n] ++ (H1.map (Value.int .u8) ++ (H2.map (Value.int .u8) ++ ([Value.slice A m c]))), 67⟩) rfl rfl (by rw [← List.append_assoc]; exact seg_mid (by simp [hH1])))) ?_
        refine TL.gets (Wants.yes rfl rfl rfl) rfl (Gets.fieldAddr rfl Try.underlying25 rfl size22 rfl (off' := 34) (by first | rfl | omega)) ?_
        refine TL.gets (Wants.yes rfl rfl rfl) rfl (Gets.loadN rfl agg22 size22 rfl (vs := G2.map (Value.int .u8)) (by simp [hG2]) (Row.part (i := 0) (ent := ⟨g2, 25, [Value.int .i64 o2, Value.int .i64 n2] ++ (G1.map (Value.int .u8) ++ (G2.map (Value.int .u8) ++ ([Value.slice A2 m2 c2]))), 67⟩) rfl rfl (by rw [← List.append_assoc]; exact seg_mid (by simp [hG1])))) ?_
        refine TL.gets (Wants.yes rfl rfl rfl) rfl (Gets.arrEq rfl Try.underlying22 Try.underlying5 size5 geq22 rfl rfl hH2 hG2) ?_
        refine TL.gets (Wants.none rfl) rfl (Gets.pickT rfl rfl rfl) ?_
        by_cases q4 : H2 = G2
        · refine TL.gets (Wants.none rfl) rfl (Gets.isTrue (Gets.move rfl rfl) q4) ?_
          refine TL.gets (Wants.yes rfl rfl rfl) rfl (Gets.fieldAddr rfl Try.underlying25 rfl size23 rfl (off' := 66) (by first | rfl | omega)) ?_
          refine TL.gets (Wants.yes rfl rfl rfl) rfl (Gets.load1 rfl agg23 rfl (At.ent (i := 1) (ent := ⟨g1, 25, [Value.int .i64 o, Value.int .i64 n] ++ (H1.map (Value.int .u8) ++ (H2.map (Value.int .u8) ++ ([Value.slice A m c]))), 67⟩) (off := 66) rfl rfl (by exact app_right (a := 2) (i := 64) (rfl) (app_right (a := 32) (i := 32) (ints_len hH1) (app_right (a := 32) (i := 0) (ints_len hH2) (rfl)))))) ?_
          refine TL.gets (Wants.yes rfl rfl rfl) rfl (Gets.fieldAddr rfl Try.underlying25 rfl size23 rfl (off' := 66) (by first | rfl | omega)) ?_
          refine TL.gets (Wants.yes rfl rfl rfl) rfl (Gets.load1 rfl agg23 rfl (At.ent (i := 0) (ent := ⟨g2, 25, [Value.int .i64 o2, Value.int .i64 n2] ++ (G1.map (Value.int .u8) ++ (G2.map (Value.int .u8) ++ ([Value.slice A2 m2 c2]))), 67⟩) (off := 66) rfl rfl (by exact app_right (a := 2) (i := 64) (rfl) (app_right (a := 32) (i := 32) (ints_len hG1) (app_right (a := 32) (i := 0) (ints_len hG2) (rfl)))))) ?_
          refine TL.call0 (Wants.yes rfl rfl rfl) rfl enters37 rfl rfl (v := .bool (decide (sameC Cs Es))) (fun w hs => equal_c A A2 m c m2 c2 Cs Es hmm hmm2 hN w (hC.at_ hs (fun b hb => (ne_cons (by show g2 ≠ b; omega) (ne_cons (by show g1 ≠ b; omega) ne_nil)))) (hC2.at_ hs (fun b hb => (ne_cons (by show g2 ≠ b; omega) (ne_cons (by show g1 ≠ b; omega) ne_nil)))) (hD.at_ hs (fun b hb => (ne_cons (by show g2 ≠ b; omega) (ne_cons (by show g1 ≠ b; omega) ne_nil)))) (hE.at_ hs (fun b hb => (ne_cons (by show g2 ≠ b; omega) (ne_cons (by show g1 ≠ b; omega) ne_nil))))) ?_
          refine TL.gets (Wants.none rfl) rfl (Gets.pickT rfl rfl rfl) ?_
          refine TL.gets (Wants.none rfl) rfl (Gets.assign rfl rfl) ?_
          refine TL.nil ?_
          refine TE.then ?_
          refine TC.ret ?_
          exact TE.ret1 rfl rfl (fun w hs => ⟨dec_iff (by unfold sameD; simp [*]), ((hs.drop (by assumption)).drop (by assumption))⟩)
        · refine TL.gets (Wants.none rfl) rfl (Gets.isFalse (Gets.move rfl rfl) q4) ?_
          refine TL.pass rfl rfl rfl rfl rfl ?_
          refine TL.pass rfl rfl rfl rfl rfl ?_
          refine TL.pass rfl rfl rfl rfl rfl ?_
          refine TL.pass rfl rfl rfl rfl rfl ?_
          refine TL.pass rfl rfl rfl rfl rfl ?_
          refine TL.gets (Wants.none rfl) rfl (Gets.pickF rfl rfl rfl) ?_
          refine TL.gets (Wants.none rfl) rfl (Gets.assign rfl rfl) ?_
          refine TL.nil ?_
          refine TE.then ?_
          refine TC.ret ?_
          exact TE.ret1 rfl rfl (fun w hs => ⟨dec_f (by unfold sameD; simp [*]), ((hs.drop (by assumption)).drop (by assumption))⟩)
      · refine TL.gets (Wants.none rfl) rfl (Gets.isFalse (Gets.move rfl rfl) q3) ?_
        refine TL.pass rfl rfl rfl rfl rfl ?_
        refine TL.pass rfl rfl rfl rfl rfl ?_
        refine TL.pass rfl rfl rfl rfl rfl ?_
        refine TL.pass rfl rfl rfl rfl rfl ?_
        refine TL.pass rfl rfl rfl rfl rfl ?_
        refine TL.gets (Wants.none rfl) rfl (Gets.pickF rfl rfl rfl) ?_
        refine TL.gets (Wants.none rfl) rfl (Gets.move rfl rfl) ?_
        refine TL.pass rfl rfl rfl rfl rfl ?_
        refine TL.pass rfl rfl rfl rfl rfl ?_
        refine TL.pass rfl rfl rfl rfl rfl ?_
        refine TL.pass rfl rfl rfl rfl rfl ?_
        refine TL.pass rfl rfl rfl rfl rfl ?_
        refine TL.gets (Wants.none rfl) rfl (Gets.pickF rfl rfl rfl) ?_
        refine TL.gets (Wants.none rfl) rfl (Gets.assign rfl rfl) ?_
        refine TL.nil ?_
        refine TE.then ?_
        refine TC.ret ?_
        exact TE.ret1 rfl rfl (fun w hs => ⟨dec_f (by unfold sameD; simp [*]), ((hs.drop (by assumption)).drop (by assumption))⟩)
    · refine TL.gets (Wants.none rfl) rfl (Gets.isFalse (Gets.move rfl rfl) q2) ?_
      refine TL.pass rfl rfl rfl rfl rfl ?_
      refine TL.pass rfl rfl rfl rfl rfl ?_
      refine TL.pass rfl rfl rfl rfl rfl ?_
      refine TL.pass rfl rfl rfl rfl rfl ?_
      refine TL.pass rfl rfl rfl rfl rfl ?_
      refine TL.gets (Wants.none rfl) rfl (Gets.pickF rfl rfl rfl) ?_
      refine TL.gets (Wants.none rfl) rfl (Gets.move rfl rfl) ?_
      refine TL.pass rfl rfl rfl rfl rfl ?_
      refine TL.pass rfl rfl rfl rfl rfl ?_
      refine TL.pass rfl rfl rfl rfl rfl ?_
      refine TL.pass rfl rfl rfl rfl rfl ?_
      refine TL.pass rfl rfl rfl rfl rfl ?_
      refine TL.gets (Wants.none rfl) rfl (Gets.pickF rfl rfl rfl) ?_
      refine TL.gets (Wants.none rfl) rfl (Gets.move rfl rfl) ?_
      refine TL.pass rfl rfl rfl rfl rfl ?_
      refine TL.pass rfl rfl rfl rfl rfl ?_
      refine TL.pass rfl rfl rfl rfl rfl ?_
      refine TL.pass rfl rfl rfl rfl rfl ?_
      refine TL.pass rfl rfl rfl rfl rfl ?_
      refine TL.gets (Wants.none rfl) rfl (Gets.pickF rfl rfl rfl) ?_
      refine TL.gets (Wants.none rfl) rfl (Gets.assign rfl rfl) ?_
      refine TL.nil ?_
      refine TE.then ?_
      refine TC.ret ?_
      exact TE.ret1 rfl rfl (fun w hs => ⟨dec_f (by unfold sameD; simp [*]), ((hs.drop (by assumption)).drop (by assumption))⟩)
  · refine TL.gets (Wants.none rfl) rfl (Gets.isFalse (Gets.move rfl rfl) q1) ?_
    refine TL.pass rfl rfl rfl rfl rfl ?_
    refine TL.pass rfl rfl rfl rfl rfl ?_
    refine TL.pass rfl rfl rfl rfl rfl ?_
    refine TL.pass rfl rfl rfl rfl rfl ?_
    refine TL.pass rfl rfl rfl rfl rfl ?_
    refine TL.gets (Wants.none rfl) rfl (Gets.pickF rfl rfl rfl) ?_
    refine TL.gets (Wants.none rfl) rfl (Gets.move rfl rfl) ?_
    refine TL.pass rfl rfl rfl rfl rfl ?_
    refine TL.pass rfl rfl rfl rfl rfl ?_
    refine TL.pass rfl rfl rfl rfl rfl ?_
    refine TL.pass rfl rfl rfl rfl rfl ?_
    refine TL.pass rfl rfl rfl rfl rfl ?_
    refine TL.gets (Wants.none rfl) rfl (Gets.pickF rfl rfl rfl) ?_
    refine TL.gets (Wants.none rfl) rfl (Gets.move rfl rfl) ?_
    refine TL.pass rfl rfl rfl rfl rfl ?_
    refine TL.pass rfl rfl rfl rfl rfl ?_
    refine TL.pass rfl rfl rfl rfl rfl ?_
    refine TL.pass rfl rfl rfl rfl rfl ?_
    refine TL.pass rfl rfl rfl rfl rfl ?_
    refine TL.gets (Wants.none rfl) rfl (Gets.pickF rfl rfl rfl) ?_
    refine TL.gets (Wants.none rfl) rfl (Gets.move rfl rfl) ?_
    refine TL.pass rfl rfl rfl rfl rfl ?_
    refine TL.pass rfl rfl rfl rfl rfl ?_
    refine TL.pass rfl rfl rfl rfl rfl ?_
    refine TL.pass rfl rfl rfl rfl rfl ?_
    refine TL.pass rfl rfl rfl rfl rfl ?_
    refine TL.gets (Wants.none rfl) rfl (Gets.pickF rfl rfl rfl) ?_
    refine TL.gets (Wants.none rfl) rfl (Gets.assign rfl rfl) ?_
    refine TL.nil ?_
    refine TE.then ?_
    refine TC.ret ?_
    exact TE.ret1 rfl rfl (fun w hs => ⟨dec_f (by unfold sameD; simp [*]), ((hs.drop (by assumption)).drop (by assumption))⟩)
end Go.Proofs.Ytkgamkjdkapchaa
