/-
  The reference of layer 5: gap, Check, Valid.
-/
import Derived.Test.YtkgamkjdkapchaaDlA
namespace Go.Proofs.Ytkgamkjdkapchaa
set_option linter.unusedVariables false
set_option linter.unusedSimpArgs false
open Go Go.RowKit
theorem agg25 : (isAgg 25).run Try.prog = fun w => .ok true w := isAgg_yes Try.underlying25 rfl
theorem enters10 : Enters Try.prog 10 := ⟨_, Try.func10, by kernel_rfl, by kernel_rfl⟩
theorem enters26 : Enters Try.prog 26 := ⟨_, Try.func26, by kernel_rfl, by kernel_rfl⟩
theorem enters27 : Enters Try.prog 27 := ⟨_, Try.func27, by kernel_rfl, by kernel_rfl⟩
theorem enters29 : Enters Try.prog 29 := ⟨_, Try.func29, by kernel_rfl, by kernel_rfl⟩
theorem enters44 : Enters Try.prog 44 := ⟨_, Try.func44, by kernel_rfl, by kernel_rfl⟩
theorem size25 : (Try.prog.info? 25).map (·.size) = some 67 := by kernel_rfl
set_option maxRecDepth 100000 in
set_option maxHeartbeats 400000 in
theorem rgap_c (o n : Int) (H1 H2 : List Int) (hH1 : H1.length = 32) (hH2 : H2.length = 32) (A : Option Addr) (m c : Nat) (Cs : List CV) (hV : ∀ (i : Nat) (x : CV), Cs[i]? = some x → vld x.t (lenV x.k x.l x.m)) (hmm : m ≤ 1000000000) (hN : NumsC Cs) (w : World) (hC : SrcC w A m Cs)  : Calls Try.prog 29 #[.agg ([Value.int .i64 o, Value.int .i64 n] ++ (H1.map (Value.int .u8) ++ (H2.map (Value.int .u8) ++ ([Value.slice A m c])))).toArray] w fun e w' => e = .returned (.int .i64 (gapI n Cs)) ∧ St w [] w' := by
  refine calls_from (args := [.agg ([Value.int .i64 o, Value.int .i64 n] ++ (H1.map (Value.int .u8) ++ (H2.map (Value.int .u8) ++ ([Value.slice A m c])))).toArray]) Try.func29 rfl Try.ntmps29 (by simp) ?_
  refine TC.sub (Sub.cons (i := 0) rfl (Sub.nil)) ?_
  refine TC.seq ?_
  refine TC.regionL ?_
  refine TL.box (Wants.none rfl) rfl rfl rfl (cs := [Value.int .i64 o, Value.int .i64 n] ++ (H1.map (Value.int .u8) ++ (H2.map (Value.int .u8) ++ ([Value.slice A m c])))) (by simp [Value.cells]) (tot := 67) (by simp [hH1, hH2]) (fun g1 hg1 => ?_)
  refine TL.gets (Wants.none rfl) rfl (Gets.assign rfl rfl) ?_
  refine TL.nil ?_
  refine TE.then ?_
  refine TC.seq ?_
  refine TC.regionL ?_
  refine TL.gets (Wants.none rfl) rfl (Gets.assign rfl rfl) ?_
  refine TL.nil ?_
  refine TE.then ?_
  refine TC.seq ?_
  refine TC.seq ?_
  refine TC.regionL ?_
  refine TL.gets (Wants.none rfl) rfl (Gets.assign rfl rfl) ?_
  refine TL.nil ?_
  refine TE.then ?_
  refine TC.block ?_
  refine TC.loop (ι := Nat × Int) (fun y => [(1, .pointer (some ⟨g1, 0, none⟩)), (3, .int .i64 y.2), (4, .int .i64 ((y.1 : Int) - 1))]) (fun y => [⟨g1, 25, [Value.int .i64 o, Value.int .i64 n] ++ (H1.map (Value.int .u8) ++ (H2.map (Value.int .u8) ++ ([Value.slice A m c]))), 67⟩]) (fun y => m + 1 - y.1) (fun y => y.1 ≤ m + 1 ∧ gapQ n Cs y.1 y.2) ((0, -1) : Nat × Int) ⟨Nat.zero_le _, gapQ_zero n Cs⟩ (Sub.cons (i := 1) rfl (Sub.int (i := 3) rfl rfl (Sub.int (i := 4) rfl rfl (Sub.nil)))) (fun w h => h) (fun y hC0 => ?_)
  obtain ⟨i, q⟩ := y
  obtain ⟨hC0, hQ⟩ := hC0
  dsimp only at hC0 hQ ⊢
  refine TC.seq ?_
  refine TC.seq ?_
  refine TC.regionL ?_
  refine TL.gets (Wants.none rfl) rfl (Gets.move rfl rfl) ?_
  refine TL.gets (Wants.none rfl) rfl (Gets.fieldAddr rfl Try.underlying25 rfl size23 rfl (off' := 66) (by first | rfl | omega)) ?_
  refine TL.gets (Wants.none rfl) rfl (Gets.load1 rfl agg23 rfl (At.ent (i := 0) (ent := ⟨g1, 25, [Value.int .i64 o, Value.int .i64 n] ++ (H1.map (Value.int .u8) ++ (H2.map (Value.int .u8) ++ ([Value.slice A m c]))), 67⟩) (off := 66) rfl rfl (by exact app_right (a := 2) (i := 64) (rfl) (app_right (a := 32) (i := 32) (ints_len hH1) (app_right (a := 32) (i := 0) (ints_len hH2) (rfl)))))) ?_
  refine TL.gets (Wants.none rfl) rfl (Gets.lenSlice rfl Try.underlying23 rfl) ?_
  refine TL.gets (Wants.none rfl) rfl (Gets.lss rfl rfl rfl) ?_
  refine TL.nil ?_
  refine TE.then ?_
  refine TC.split rfl (fun hq0 => ?_) (fun hq0 => ?_)
  · refine TC.skip ?_
    refine TE.then ?_
    refine TC.seq ?_
    refine TC.block ?_
    refine TC.seq ?_
    refine TC.regionL ?_
    refine TL.gets (Wants.none rfl) rfl (Gets.assign rfl rfl) ?_
    refine TL.nil ?_
    refine TE.then ?_
    refine TC.sub (Sub.cons (i := 1) rfl (Sub.cons (i := 3) rfl (Sub.cons (i := 4) rfl (Sub.cons (i := 5) rfl (Sub.nil))))) ?_
    refine TC.seq ?_
    refine TC.seq ?_
    refine TC.regionL ?_
    refine TL.gets (Wants.none rfl) rfl (Gets.move rfl rfl) ?_
    refine TL.gets (Wants.none rfl) rfl (Gets.geq rfl rfl rfl) ?_
    refine TL.nil ?_
    refine TE.then ?_
    refine TC.split rfl (fun hq1 => ?_) (fun hq1 => ?_)
    · obtain ⟨i1, rfl⟩ : ∃ i1, i = i1 + 1 := ⟨i - 1, by omega⟩
      obtain ⟨b, off, hAe, hb, hrw⟩ := hC.some_ (i := i1) (by omega)
      subst hAe
      obtain ⟨x, hx⟩ := hC.get (i := i1) (by omega)
      have hnx := hN i1 x hx
      unfold NumC at hnx
      have hlbx := lenV_bd (k := x.k) (l := x.l) (m := x.m) (by omega) (by omega)
      have hvx := hV i1 x hx
      unfold vld at hvx
      refine TC.mix (by kernel_rfl) [0, 1, 0, 0, 0, 1, 0, 1, 0, 0, 1, 1, 0, 0] rfl (by kernel_rfl) ?_
      refine TM.free (Wants.none rfl) rfl (fun _ => Gets.fieldAddr rfl Try.underlying25 rfl size23 rfl (off' := 66) (by first | rfl | omega)) ?_
      refine TM.gets (Wants.none rfl) rfl (Gets.load1 rfl agg23 rfl (At.ent (i := 0) (ent := ⟨g1, 25, [Value.int .i64 o, Value.int .i64 n] ++ (H1.map (Value.int .u8) ++ (H2.map (Value.int .u8) ++ ([Value.slice (some ⟨b, off, none⟩) m c]))), 67⟩) (off := 66) rfl rfl (by exact app_right (a := 2) (i := 64) (rfl) (app_right (a := 32) (i := 32) (ints_len hH1) (app_right (a := 32) (i := 0) (ints_len hH2) (rfl)))))) ?_
      refine TM.free (Wants.none rfl) rfl (fun _ => Gets.move rfl rfl) ?_
      refine TM.free (Wants.none rfl) rfl (fun _ => Gets.idxSlice rfl Try.underlying23 size40 rfl rfl (i := i1) (by omega) (by omega) (off' := (off + 5 * i1)) (by omega)) ?_
      refine TM.free (Wants.none rfl) rfl (fun _ => Gets.fieldAddr rfl Try.underlying40 rfl size3 rfl (off' := (off + 5 * i1 + 1)) (by first | rfl | omega)) ?_
      refine TM.gets (Wants.none rfl) rfl (Gets.load1 rfl agg3 rfl (At.old (hrw i1 x hx 1 _ rfl) hb (ne_cons (by show g1 ≠ b; omega) ne_nil))) ?_
      refine TM.free (Wants.none rfl) rfl (fun _ => Gets.fieldAddr rfl Try.underlying25 rfl size23 rfl (off' := 66) (by first | rfl | omega)) ?_
      refine TM.gets (Wants.none rfl) rfl (Gets.load1 rfl agg23 rfl (At.ent (i := 0) (ent := ⟨g1, 25, [Value.int .i64 o, Value.int .i64 n] ++ (H1.map (Value.int .u8) ++ (H2.map (Value.int .u8) ++ ([Value.slice (some ⟨b, off, none⟩) m c]))), 67⟩) (off := 66) rfl rfl (by exact app_right (a := 2) (i := 64) (rfl) (app_right (a := 32) (i := 32) (ints_len hH1) (app_right (a := 32) (i := 0) (ints_len hH2) (rfl)))))) ?_
      refine TM.free (Wants.none rfl) rfl (fun _ => Gets.move rfl rfl) ?_
      refine TM.free (Wants.none rfl) rfl (fun _ => Gets.idxSlice rfl Try.underlying23 size40 rfl rfl (i := i1) (by omega) (by omega) (off' := (off + 5 * i1)) (by omega)) ?_
      refine TM.gets (Wants.none rfl) rfl (Gets.loadN rfl agg40 size40 rfl rfl (Row.old (fun jj u h => hrw i1 x hx jj u h) hb (ne_cons (by show g1 ≠ b; omega) ne_nil))) ?_
      refine TM.call0 (Wants.none rfl) rfl enters20 rfl rfl (v := .int .i64 (lenV x.k x.l x.m)) (fun w hs => rlen_c x.k x.t x.f x.l x.A x.m x.c w) ?_
      refine TM.free (Wants.none rfl) rfl (fun _ => Gets.add rfl rfl rfl (r := (x.t + (lenV x.k x.l x.m))) (w64 (by omega) (by omega))) ?_
      refine TM.free (Wants.none rfl) rfl (fun _ => Gets.assign rfl rfl) ?_
      refine TM.nil ?_
      refine TE.then ?_
      refine TC.sub (Sub.cons (i := 1) rfl (Sub.cons (i := 3) rfl (Sub.cons (i := 4) rfl (Sub.cons (i := 5) rfl (Sub.nil))))) ?_
      refine TC.seq ?_
      refine TC.regionL ?_
      refine TL.gets (Wants.none rfl) rfl (Gets.move rfl rfl) ?_
      refine TL.gets (Wants.none rfl) rfl (Gets.fieldAddr rfl Try.underlying25 rfl size3 rfl (off' := 1) (by first | rfl | omega)) ?_
      refine TL.gets (Wants.none rfl) rfl (Gets.load1 rfl agg3 rfl (At.ent (i := 0) (ent := ⟨g1, 25, [Value.int .i64 o, Value.int .i64 n] ++ (H1.map (Value.int .u8) ++ (H2.map (Value.int .u8) ++ ([Value.slice (some ⟨b, off, none⟩) m c]))), 67⟩) (off := 1) rfl rfl (by exact app_left (i := 1) (B := H1.map (Value.int .u8) ++ (H2.map (Value.int .u8) ++ ([Value.slice (some ⟨b, off, none⟩) m c]))) (rfl)))) ?_
      by_cases u1 : (x.t + (lenV x.k x.l x.m)) < n
      · refine TL.gets (Wants.none rfl) rfl (Gets.isTrue (Gets.lss rfl rfl rfl) u1) ?_
        refine TL.gets (Wants.none rfl) rfl (Gets.move rfl rfl) ?_
        refine TL.gets (Wants.yes rfl rfl rfl) rfl (Gets.loadN rfl agg25 size25 rfl (vs := [Value.int .i64 o, Value.int .i64 n] ++ (H1.map (Value.int .u8) ++ (H2.map (Value.int .u8) ++ ([Value.slice (some ⟨b, off, none⟩) m c])))) (by simp [hH1, hH2]) (Row.all (i := 0) (ent := ⟨g1, 25, [Value.int .i64 o, Value.int .i64 n] ++ (H1.map (Value.int .u8) ++ (H2.map (Value.int .u8) ++ ([Value.slice (some ⟨b, off, none⟩) m c]))), 67⟩) rfl rfl rfl)) ?_
        refine TL.gets (Wants.yes rfl rfl rfl) rfl (Gets.move rfl rfl) ?_
        refine TL.call0 (Wants.yes rfl rfl rfl) rfl enters44 rfl rfl (v := .int .i64 (findI Cs (x.t + (lenV x.k x.l x.m)))) (fun w hs => rfind_c o n H1 H2 hH1 hH2 (some ⟨b, off, none⟩) m c Cs (x.t + (lenV x.k x.l x.m)) hV hmm hN w (hC.at_ hs (fun b hb => (ne_cons (by show g1 ≠ b; omega) ne_nil)))) ?_
        by_cases u2 : (findI Cs (x.t + (lenV x.k x.l x.m))) < 0
        · refine TL.gets (Wants.yes rfl rfl rfl) rfl (Gets.isTrue (Gets.lss rfl rfl rfl) u2) ?_
          refine TL.gets (Wants.none rfl) rfl (Gets.pickT rfl rfl rfl) ?_
          refine TL.gets (Wants.none rfl) rfl (Gets.move rfl rfl) ?_
          refine TL.gets (Wants.yes rfl rfl rfl) rfl (Gets.move rfl rfl) ?_
          by_cases u3 : q < 0
          · refine TL.gets (Wants.yes rfl rfl rfl) rfl (Gets.isTrue (Gets.lss rfl rfl rfl) u3) ?_
            refine TL.gets (Wants.yes rfl rfl rfl) rfl (Gets.move rfl rfl) ?_
            refine TL.pass rfl rfl rfl rfl rfl ?_
            refine TL.pass rfl rfl rfl rfl rfl ?_
            refine TL.pass rfl rfl rfl rfl rfl ?_
            refine TL.gets (Wants.yes rfl rfl rfl) rfl (Gets.pickT rfl rfl rfl) ?_
            refine TL.gets (Wants.none rfl) rfl (Gets.pickT rfl rfl rfl) ?_
            refine TL.nil ?_
            refine TE.then ?_
            refine TC.sub (Sub.cons (i := 1) rfl (Sub.cons (i := 3) rfl (Sub.cons (i := 4) rfl (Sub.cons (i := 5) rfl (Sub.cons (i := 46) rfl (Sub.nil)))))) ?_
            refine TC.yes rfl ?_
            refine TC.regionL ?_
            refine TL.gets (Wants.none rfl) rfl (Gets.move rfl rfl) ?_
            refine TL.gets (Wants.none rfl) rfl (Gets.assign rfl rfl) ?_
            refine TL.nil ?_
            refine TE.blockN ?_
            refine TE.then ?_
            refine TC.regionL ?_
            refine TL.gets (Wants.none rfl) rfl (Gets.move rfl rfl) ?_
            refine TL.gets (Wants.none rfl) rfl (Gets.add rfl rfl rfl (r := ((i1 : Int) + 1)) (w64 (by omega) (by omega))) ?_
            refine TL.gets (Wants.none rfl) rfl (Gets.assign rfl rfl) ?_
            refine TL.nil ?_
            exact TE.back (((i1 + 2), (x.t + (lenV x.k x.l x.m))) : Nat × Int) (by dsimp only; omega) ⟨by show (i1 + 1) + 1 ≤ m + 1; omega, gapQ_step (d := (x.t + lenV x.k x.l x.m)) hQ (by omega) (candI_succ hx) (by have hfi := findI_free (Cs := Cs) (off := (x.t + lenV x.k x.l x.m)); first | exact .inl ⟨by omega, hfi.1 (by omega), by omega, rfl⟩ | exact .inr ⟨fun h => by have h2 := hfi.2 h.2.1; have h3 := h.1; have h4 := h.2.2; omega, rfl⟩)⟩ (Sub.cons (i := 1) rfl (Sub.int (i := 3) rfl rfl (Sub.int (i := 4) rfl (by dsimp only; omega) (Sub.nil)))) (fun w h => h)
          · refine TL.gets (Wants.yes rfl rfl rfl) rfl (Gets.isFalse (Gets.lss rfl rfl rfl) u3) ?_
            refine TL.gets (Wants.yes rfl rfl rfl) rfl (Gets.move rfl rfl) ?_
            refine TL.gets (Wants.yes rfl rfl rfl) rfl (Gets.move rfl rfl) ?_
            refine TL.gets (Wants.yes rfl rfl rfl) rfl (Gets.move rfl rfl) ?_
            by_cases u4 : (x.t + (lenV x.k x.l x.m)) < q
            · refine TL.gets (Wants.yes rfl rfl rfl) rfl (Gets.isTrue (Gets.lss rfl rfl rfl) u4) ?_
              refine TL.gets (Wants.yes rfl rfl rfl) rfl (Gets.pickF rfl rfl rfl) ?_
              refine TL.gets (Wants.none rfl) rfl (Gets.pickT rfl rfl rfl) ?_
              refine TL.nil ?_
              refine TE.then ?_
              refine TC.sub (Sub.cons (i := 1) rfl (Sub.cons (i := 3) rfl (Sub.cons (i := 4) rfl (Sub.cons (i := 5) rfl (Sub.cons (i := 46) rfl (Sub.nil)))))) ?_
              refine TC.yes rfl ?_
              refine TC.regionL ?_
              refine TL.gets (Wants.none rfl) rfl (Gets.move rfl rfl) ?_
              refine TL.gets (Wants.none rfl) rfl (Gets.assign rfl rfl) ?_
              refine TL.nil ?_
              refine TE.blockN ?_
              refine TE.then ?_
              refine TC.regionL ?_
              refine TL.gets (Wants.none rfl) rfl (Gets.move rfl rfl) ?_
              refine TL.gets (Wants.none rfl) rfl (Gets.add rfl rfl rfl (r := ((i1 : Int) + 1)) (w64 (by omega) (by omega))) ?_
              refine TL.gets (Wants.none rfl) rfl (Gets.assign rfl rfl) ?_
              refine TL.nil ?_
              exact TE.back (((i1 + 2), (x.t + (lenV x.k x.l x.m))) : Nat × Int) (by dsimp only; omega) ⟨by show (i1 + 1) + 1 ≤ m + 1; omega, gapQ_step (d := (x.t + lenV x.k x.l x.m)) hQ (by omega) (candI_succ hx) (by have hfi := findI_free (Cs := Cs) (off := (x.t + lenV x.k x.l x.m)); first | exact .inl ⟨by omega, hfi.1 (by omega), by omega, rfl⟩ | exact .inr ⟨fun h => by have h2 := hfi.2 h.2.1; have h3 := h.1; have h4 := h.2.2; omega, rfl⟩)⟩ (Sub.cons (i := 1) rfl (Sub.int (i := 3) rfl rfl (Sub.int (i := 4) rfl (by dsimp only; omega) (Sub.nil)))) (fun w h => h)
            · refine TL.gets (Wants.yes rfl rfl rfl) rfl (Gets.isFalse (Gets.lss rfl rfl rfl) u4) ?_
              refine TL.gets (Wants.yes rfl rfl rfl) rfl (Gets.pickF rfl rfl rfl) ?_
              refine TL.gets (Wants.none rfl) rfl (Gets.pickT rfl rfl rfl) ?_
              refine TL.nil ?_
              refine TE.then ?_
              refine TC.sub (Sub.cons (i := 1) rfl (Sub.cons (i := 3) rfl (Sub.cons (i := 4) rfl (Sub.cons (i := 5) rfl (Sub.cons (i := 46) rfl (Sub.nil)))))) ?_
              refine TC.no rfl ?_
              refine TC.skip ?_
              refine TE.blockN ?_
              refine TE.then ?_
              refine TC.regionL ?_
              refine TL.gets (Wants.none rfl) rfl (Gets.move rfl rfl) ?_
              refine TL.gets (Wants.none rfl) rfl (Gets.add rfl rfl rfl (r := ((i1 : Int) + 1)) (w64 (by omega) (by omega))) ?_
              refine TL.gets (Wants.none rfl) rfl (Gets.assign rfl rfl) ?_
              refine TL.nil ?_
              exact TE.back (((i1 + 2), q) : Nat × Int) (by dsimp only; omega) ⟨by show (i1 + 1) + 1 ≤ m + 1; omega, gapQ_step (d := (x.t + lenV x.k x.l x.m)) hQ (by omega) (candI_succ hx) (by have hfi := findI_free (Cs := Cs) (off := (x.t + lenV x.k x.l x.m)); first | exact .inl ⟨by omega, hfi.1 (by omega), by omega, rfl⟩ | exact .inr ⟨fun h => by have h2 := hfi.2 h.2.1; have h3 := h.1; have h4 := h.2.2; omega, rfl⟩)⟩ (Sub.cons (i := 1) rfl (Sub.int (i := 3) rfl rfl (Sub.int (i := 4) rfl (by dsimp only; omega) (Sub.nil)))) (fun w h => h)
        · refine TL.gets (Wants.yes rfl rfl rfl) rfl (Gets.isFalse (Gets.lss rfl rfl rfl) u2) ?_
          refine TL.gets (Wants.none rfl) rfl (Gets.pickT rfl rfl rfl) ?_
          refine TL.gets (Wants.none rfl) rfl (Gets.move rfl rfl) ?_
          refine TL.pass rfl rfl rfl rfl rfl ?_
          refine TL.pass rfl rfl rfl rfl rfl ?_
          refine TL.pass rfl rfl rfl rfl rfl ?_
          refine TL.passU rfl rfl rfl rfl ?_
          refine TL.passU rfl rfl rfl rfl ?_
          refine TL.passU rfl rfl rfl rfl ?_
          refine TL.pass rfl rfl rfl rfl rfl ?_
          refine TL.gets (Wants.none rfl) rfl (Gets.pickF rfl rfl rfl) ?_
          refine TL.nil ?_
          refine TE.then ?_
          refine TC.sub (Sub.cons (i := 1) rfl (Sub.cons (i := 3) rfl (Sub.cons (i := 4) rfl (Sub.cons (i := 5) rfl (Sub.cons (i := 46) rfl (Sub.nil)))))) ?_
          refine TC.no rfl ?_
          refine TC.skip ?_
          refine TE.blockN ?_
          refine TE.then ?_
          refine TC.regionL ?_
          refine TL.gets (Wants.none rfl) rfl (Gets.move rfl rfl) ?_
          refine TL.gets (Wants.none rfl) rfl (Gets.add rfl rfl rfl (r := ((i1 : Int) + 1)) (w64 (by omega) (by omega))) ?_
          refine TL.gets (Wants.none rfl) rfl (Gets.assign rfl rfl) ?_
          refine TL.nil ?_
          exact TE.back (((i1 + 2), q) : Nat × Int) (by dsimp only; omega) ⟨by show (i1 + 1) + 1 ≤ m + 1; omega, gapQ_step (d := (x.t + lenV x.k x.l x.m)) hQ (by omega) (candI_succ hx) (by have hfi := findI_free (Cs := Cs) (off := (x.t + lenV x.k x.l x.m)); first | exact .inl ⟨by omega, hfi.1 (by omega), by omega, rfl⟩ | exact .inr ⟨fun h => by have h2 := hfi.2 h.2.1; have h3 := h.1; have h4 := h.2.2; omega, rfl⟩)⟩ (Sub.cons (i := 1) rfl (Sub.int (i := 3) rfl rfl (Sub.int (i := 4) rfl (by dsimp only; omega) (Sub.nil)))) (fun w h => h)
      · refine TL.gets (Wants.none rfl) rfl (Gets.isFalse (Gets.lss rfl rfl rfl) u1) ?_
        refine TL.gets (Wants.none rfl) rfl (Gets.move rfl rfl) ?_
        refine TL.pass rfl rfl rfl rfl rfl ?_
        refine TL.pass rfl rfl rfl rfl rfl ?_
        refine TL.pass rfl rfl rfl rfl rfl ?_
        refine TL.pass rfl rfl rfl rfl rfl ?_
        refine TL.gets (Wants.none rfl) rfl (Gets.pickF rfl rfl rfl) ?_
        refine TL.gets (Wants.none rfl) rfl (Gets.move rfl rfl) ?_
        refine TL.pass rfl rfl rfl rfl rfl ?_
        refine TL.pass rfl rfl rfl rfl rfl ?_
        refine TL.pass rfl rfl rfl rfl rfl ?_
        refine TL.passU rfl rfl rfl rfl ?_
        refine TL.passU rfl rfl rfl rfl ?_
        refine TL.passU rfl rfl rfl rfl ?_
        refine TL.pass rfl rfl rfl rfl rfl ?_
        refine TL.gets (Wants.none rfl) rfl (Gets.pickF rfl rfl rfl) ?_
        refine TL.nil ?_
        refine TE.then ?_
        refine TC.sub (Sub.cons (i := 1) rfl (Sub.cons (i := 3) rfl (Sub.cons (i := 4) rfl (Sub.cons (i := 5) rfl (Sub.cons (i := 46) rfl (Sub.nil)))))) ?_
        refine TC.no rfl ?_
        refine TC.skip ?_
        refine TE.blockN ?_
        refine TE.then ?_
        refine TC.regionL ?_
        refine TL.gets (Wants.none rfl) rfl (Gets.move rfl rfl) ?_
        refine TL.gets (Wants.none rfl) rfl (Gets.add rfl rfl rfl (r := ((i1 : Int) + 1)) (w64 (by omega) (by omega))) ?_
        refine TL.gets (Wants.none rfl) rfl (Gets.assign rfl rfl) ?_
        refine TL.nil ?_
        exact TE.back (((i1 + 2), q) : Nat × Int) (by dsimp only; omega) ⟨by show (i1 + 1) + 1 ≤ m + 1; omega, gapQ_step (d := (x.t + lenV x.k x.l x.m)) hQ (by omega) (candI_succ hx) (by have hfi := findI_free (Cs := Cs) (off := (x.t + lenV x.k x.l x.m)); first | exact .inl ⟨by omega, hfi.1 (by omega), by omega, rfl⟩ | exact .inr ⟨fun h => by have h2 := hfi.2 h.2.1; have h3 := h.1; have h4 := h.2.2; omega, rfl⟩)⟩ (Sub.cons (i := 1) rfl (Sub.int (i := 3) rfl rfl (Sub.int (i := 4) rfl (by dsimp only; omega) (Sub.nil)))) (fun w h => h)
    · obtain rfl : i = 0 := by omega
      refine TC.skip ?_
      refine TE.then ?_
      refine TC.seq ?_
      refine TC.regionL ?_
      refine TL.gets (Wants.none rfl) rfl (Gets.move rfl rfl) ?_
      refine TL.gets (Wants.none rfl) rfl (Gets.fieldAddr rfl Try.underlying25 rfl size3 rfl (off' := 1) (by first | rfl | omega)) ?_
      refine TL.gets (Wants.none rfl) rfl (Gets.load1 rfl agg3 rfl (At.ent (i := 0) (ent := ⟨g1, 25, [Value.int .i64 o, Value.int .i64 n] ++ (H1.map (Value.int .u8) ++ (H2.map (Value.int .u8) ++ ([Value.slice A m c]))), 67⟩) (off := 1) rfl rfl (by exact app_left (i := 1) (B := H1.map (Value.int .u8) ++ (H2.map (Value.int .u8) ++ ([Value.slice A m c]))) (rfl)))) ?_
      by_cases u1 : (0 : Int) < n
      · refine TL.gets (Wants.none rfl) rfl (Gets.isTrue (Gets.lss rfl rfl rfl) u1) ?_
        refine TL.gets (Wants.none rfl) rfl (Gets.move rfl rfl) ?_
        refine TL.gets (Wants.yes rfl rfl rfl) rfl (Gets.loadN rfl agg25 size25 rfl (vs := [Value.int .i64 o, Value.int .i64 n] ++ (H1.map (Value.int .u8) ++ (H2.map (Value.int .u8) ++ ([Value.slice A m c])))) (by simp [hH1, hH2]) (Row.all (i := 0) (ent := ⟨g1, 25, [Value.int .i64 o, Value.int .i64 n] ++ (H1.map (Value.int .u8) ++ (H2.map (Value.int .u8) ++ ([Value.slice A m c]))), 67⟩) rfl rfl rfl)) ?_
        refine TL.gets (Wants.yes rfl rfl rfl) rfl (Gets.move rfl rfl) ?_
        refine TL.call0 (Wants.yes rfl rfl rfl) rfl enters44 rfl rfl (v := .int .i64 (findI Cs 0)) (fun w hs => rfind_c o n H1 H2 hH1 hH2 A m c Cs 0 hV hmm hN w (hC.at_ hs (fun b hb => (ne_cons (by show g1 ≠ b; omega) ne_nil)))) ?_
        by_cases u2 : (findI Cs 0) < 0
        · refine TL.gets (Wants.yes rfl rfl rfl) rfl (Gets.isTrue (Gets.lss rfl rfl rfl) u2) ?_
          refine TL.gets (Wants.none rfl) rfl (Gets.pickT rfl rfl rfl) ?_
          refine TL.gets (Wants.none rfl) rfl (Gets.move rfl rfl) ?_
          refine TL.gets (Wants.yes rfl rfl rfl) rfl (Gets.move rfl rfl) ?_
          by_cases u3 : q < 0
          · refine TL.gets (Wants.yes rfl rfl rfl) rfl (Gets.isTrue (Gets.lss rfl rfl rfl) u3) ?_
            refine TL.gets (Wants.yes rfl rfl rfl) rfl (Gets.move rfl rfl) ?_
            refine TL.pass rfl rfl rfl rfl rfl ?_
            refine TL.pass rfl rfl rfl rfl rfl ?_
            refine TL.pass rfl rfl rfl rfl rfl ?_
            refine TL.gets (Wants.yes rfl rfl rfl) rfl (Gets.pickT rfl rfl rfl) ?_
            refine TL.gets (Wants.none rfl) rfl (Gets.pickT rfl rfl rfl) ?_
            refine TL.nil ?_
            refine TE.then ?_
            refine TC.sub (Sub.cons (i := 1) rfl (Sub.cons (i := 3) rfl (Sub.cons (i := 4) rfl (Sub.cons (i := 5) rfl (Sub.cons (i := 46) rfl (Sub.nil)))))) ?_
            refine TC.yes rfl ?_
            refine TC.regionL ?_
            refine TL.gets (Wants.none rfl) rfl (Gets.move rfl rfl) ?_
            refine TL.gets (Wants.none rfl) rfl (Gets.assign rfl rfl) ?_
            refine TL.nil ?_
            refine TE.blockN ?_
            refine TE.then ?_
            refine TC.regionL ?_
            refine TL.gets (Wants.none rfl) rfl (Gets.move rfl rfl) ?_
            refine TL.gets (Wants.none rfl) rfl (Gets.add rfl rfl rfl (r := 0) (w64 (by omega) (by omega))) ?_
            refine TL.gets (Wants.none rfl) rfl (Gets.assign rfl rfl) ?_
            refine TL.nil ?_
            exact TE.back ((1, 0) : Nat × Int) (by dsimp only; omega) ⟨by show 0 + 1 ≤ m + 1; omega, gapQ_step (d := 0) hQ (by omega) (candI_zero) (by have hfi := findI_free (Cs := Cs) (off := 0); first | exact .inl ⟨by omega, hfi.1 (by omega), by omega, rfl⟩ | exact .inr ⟨fun h => by have h2 := hfi.2 h.2.1; have h3 := h.1; have h4 := h.2.2; omega, rfl⟩)⟩ (Sub.cons (i := 1) rfl (Sub.int (i := 3) rfl rfl (Sub.int (i := 4) rfl (by dsimp only; omega) (Sub.nil)))) (fun w h => h)
          · refine TL.gets (Wants.yes rfl rfl rfl) rfl (Gets.isFalse (Gets.lss rfl rfl rfl) u3) ?_
            refine TL.gets (Wants.yes rfl rfl rfl) rfl (Gets.move rfl rfl) ?_
            refine TL.gets (Wants.yes rfl rfl rfl) rfl (Gets.move rfl rfl) ?_
            refine TL.gets (Wants.yes rfl rfl rfl) rfl (Gets.move rfl rfl) ?_
            by_cases u4 : (0 : Int) < q
            · refine TL.gets (Wants.yes rfl rfl rfl) rfl (Gets.isTrue (Gets.lss rfl rfl rfl) u4) ?_
              refine TL.gets (Wants.yes rfl rfl rfl) rfl (Gets.pickF rfl rfl rfl) ?_
              refine TL.gets (Wants.none rfl) rfl (Gets.pickT rfl rfl rfl) ?_
              refine TL.nil ?_
              refine TE.then ?_
              refine TC.sub (Sub.cons (i := 1) rfl (Sub.cons (i := 3) rfl (Sub.cons (i := 4) rfl (Sub.cons (i := 5) rfl (Sub.cons (i := 46) rfl (Sub.nil)))))) ?_
              refine TC.yes rfl ?_
              refine TC.regionL ?_
              refine TL.gets (Wants.none rfl) rfl (Gets.move rfl rfl) ?_
              refine TL.gets (Wants.none rfl) rfl (Gets.assign rfl rfl) ?_
              refine TL.nil ?_
              refine TE.blockN ?_
              refine TE.then ?_
              refine TC.regionL ?_
              refine TL.gets (Wants.none rfl) rfl (Gets.move rfl rfl) ?_
              refine TL.gets (Wants.none rfl) rfl (Gets.add rfl rfl rfl (r := 0) (w64 (by omega) (by omega))) ?_
              refine TL.gets (Wants.none rfl) rfl (Gets.assign rfl rfl) ?_
              refine TL.nil ?_
              exact TE.back ((1, 0) : Nat × Int) (by dsimp only; omega) ⟨by show 0 + 1 ≤ m + 1; omega, gapQ_step (d := 0) hQ (by omega) (candI_zero) (by have hfi := findI_free (Cs := Cs) (off := 0); first | exact .inl ⟨by omega, hfi.1 (by omega), by omega, rfl⟩ | exact .inr ⟨fun h => by have h2 := hfi.2 h.2.1; have h3 := h.1; have h4 := h.2.2; omega, rfl⟩)⟩ (Sub.cons (i := 1) rfl (Sub.int (i := 3) rfl rfl (Sub.int (i := 4) rfl (by dsimp only; omega) (Sub.nil)))) (fun w h => h)
            · refine TL.gets (Wants.yes rfl rfl rfl) rfl (Gets.isFalse (Gets.lss rfl rfl rfl) u4) ?_
              refine TL.gets (Wants.yes rfl rfl rfl) rfl (Gets.pickF rfl rfl rfl) ?_
              refine TL.gets (Wants.none rfl) rfl (Gets.pickT rfl rfl rfl) ?_
              refine TL.nil ?_
              refine TE.then ?_
              refine TC.sub (Sub.cons (i := 1) rfl (Sub.cons (i := 3) rfl (Sub.cons (i := 4) rfl (Sub.cons (i := 5) rfl (Sub.cons (i := 46) rfl (Sub.nil)))))) ?_
              refine TC.no rfl ?_
              refine TC.skip ?_
              refine TE.blockN ?_
              refine TE.then ?_
              refine TC.regionL ?_
              refine TL.gets (Wants.none rfl) rfl (Gets.move rfl rfl) ?_
              refine TL.gets (Wants.none rfl) rfl (Gets.add rfl rfl rfl (r := 0) (w64 (by omega) (by omega))) ?_
              refine TL.gets (Wants.none rfl) rfl (Gets.assign rfl rfl) ?_
              refine TL.nil ?_
              exact TE.back ((1, q) : Nat × Int) (by dsimp only; omega) ⟨by show 0 + 1 ≤ m + 1; omega, gapQ_step (d := 0) hQ (by omega) (candI_zero) (by have hfi := findI_free (Cs := Cs) (off := 0); first | exact .inl ⟨by omega, hfi.1 (by omega), by omega, rfl⟩ | exact .inr ⟨fun h => by have h2 := hfi.2 h.2.1; have h3 := h.1; have h4 := h.2.2; omega, rfl⟩)⟩ (Sub.cons (i := 1) rfl (Sub.int (i := 3) rfl rfl (Sub.int (i := 4) rfl (by dsimp only; omega) (Sub.nil)))) (fun w h => h)
        · refine TL.gets (Wants.yes rfl rfl rfl) rfl (Gets.isFalse (Gets.lss rfl rfl rfl) u2) ?_
          refine TL.gets (Wants.none rfl) rfl (Gets.pickT rfl rfl rfl) ?_
          refine TL.gets (Wants.none rfl) rfl (Gets.move rfl rfl) ?_
          refine TL.pass rfl rfl rfl rfl rfl ?_
          refine TL.pass rfl rfl rfl rfl rfl ?_
          refine TL.pass rfl rfl rfl rfl rfl ?_
          refine TL.passU rfl rfl rfl rfl ?_
          refine TL.passU rfl rfl rfl rfl ?_
          refine TL.passU rfl rfl rfl rfl ?_
          refine TL.pass rfl rfl rfl rfl rfl ?_
          refine TL.gets (Wants.none rfl) rfl (Gets.pickF rfl rfl rfl) ?_
          refine TL.nil ?_
          refine TE.then ?_
          refine TC.sub (Sub.cons (i := 1) rfl (Sub.cons (i := 3) rfl (Sub.cons (i := 4) rfl (Sub.cons (i := 5) rfl (Sub.cons (i := 46) rfl (Sub.nil)))))) ?_
          refine TC.no rfl ?_
          refine TC.skip ?_
          refine TE.blockN ?_
          refine TE.then ?_
          refine TC.regionL ?_
          refine TL.gets (Wants.none rfl) rfl (Gets.move rfl rfl) ?_
          refine TL.gets (Wants.none rfl) rfl (Gets.add rfl rfl rfl (r := 0) (w64 (by omega) (by omega))) ?_
          refine TL.gets (Wants.none rfl) rfl (Gets.assign rfl rfl) ?_
          refine TL.nil ?_
          exact TE.back ((1, q) : Nat × Int) (by dsimp only; omega) ⟨by show 0 + 1 ≤ m + 1; omega, gapQ_step (d := 0) hQ (by omega) (candI_zero) (by have hfi := findI_free (Cs := Cs) (off := 0); first | exact .inl ⟨by omega, hfi.1 (by omega), by omega, rfl⟩ | exact .inr ⟨fun h => by have h2 := hfi.2 h.2.1; have h3 := h.1; have h4 := h.2.2; omega, rfl⟩)⟩ (Sub.cons (i := 1) rfl (Sub.int (i := 3) rfl rfl (Sub.int (i := 4) rfl (by dsimp only; omega) (Sub.nil)))) (fun w h => h)
      · refine TL.gets (Wants.none rfl) rfl (Gets.isFalse (Gets.lss rfl rfl rfl) u1) ?_
        refine TL.gets (Wants.none rfl) rfl (Gets.move rfl rfl) ?_
        refine TL.pass rfl rfl rfl rfl rfl ?_
        refine TL.pass rfl rfl rfl rfl rfl ?_
        refine TL.pass rfl rfl rfl rfl rfl ?_
        refine TL.pass rfl rfl rfl rfl rfl ?_
        refine TL.gets (Wants.none rfl) rfl (Gets.pickF rfl rfl rfl) ?_
        refine TL.gets (Wants.none rfl) rfl (Gets.move rfl rfl) ?_
        refine TL.pass rfl rfl rfl rfl rfl ?_
        refine TL.pass rfl rfl rfl rfl rfl ?_
        refine TL.pass rfl rfl rfl rfl rfl ?_
        refine TL.passU rfl rfl rfl rfl ?_
        refine TL.passU rfl rfl rfl rfl ?_
        refine TL.passU rfl rfl rfl rfl ?_
        refine TL.pass rfl rfl rfl rfl rfl ?_
        refine TL.gets (Wants.none rfl) rfl (Gets.pickF rfl rfl rfl) ?_
        refine TL.nil ?_
        refine TE.then ?_
        refine TC.sub (Sub.cons (i := 1) rfl (Sub.cons (i := 3) rfl (Sub.cons (i := 4) rfl (Sub.cons (i := 5) rfl (Sub.cons (i := 46) rfl (Sub.nil)))))) ?_
        refine TC.no rfl ?_
        refine TC.skip ?_
        refine TE.blockN ?_
        refine TE.then ?_
        refine TC.regionL ?_
        refine TL.gets (Wants.none rfl) rfl (Gets.move rfl rfl) ?_
        refine TL.gets (Wants.none rfl) rfl (Gets.add rfl rfl rfl (r := 0) (w64 (by omega) (by omega))) ?_
        refine TL.gets (Wants.none rfl) rfl (Gets.assign rfl rfl) ?_
        refine TL.nil ?_
        exact TE.back ((1, q) : Nat × Int) (by dsimp only; omega) ⟨by show 0 + 1 ≤ m + 1; omega, gapQ_step (d := 0) hQ (by omega) (candI_zero) (by have hfi := findI_free (Cs := Cs) (off := 0); first | exact .inl ⟨by omega, hfi.1 (by omega), by omega, rfl⟩ | exact .inr ⟨fun h => by have h2 := hfi.2 h.2.1; have h3 := h.1; have h4 := h.2.2; omega, rfl⟩)⟩ (Sub.cons (i := 1) rfl (Sub.int (i := 3) rfl rfl (Sub.int (i := 4) rfl (by dsimp only; omega) (Sub.nil)))) (fun w h => h)
  · obtain rfl : i = m + 1 := by omega
    refine TC.exit ?_
    refine TE.thenX ?_
    refine TE.thenX ?_
    refine TE.blockX ?_
    refine TE.then ?_
    refine TC.seq ?_
    refine TC.regionL ?_
    refine TL.gets (Wants.none rfl) rfl (Gets.move rfl rfl) ?_
    refine TL.gets (Wants.none rfl) rfl (Gets.assign rfl rfl) ?_
    refine TL.nil ?_
    refine TE.then ?_
    refine TC.ret ?_
    exact TE.ret1 rfl rfl (fun w hs => ⟨ret_i ((gap_end hC.1 hQ).symm), (hs.drop (by assumption))⟩)


theorem roverlap_g (o l p n : Int) (ho : -9223372036854775808 ≤ o + l ∧ o + l ≤ 9223372036854775807) (hp : -9223372036854775808 ≤ p + n ∧ p + n ≤ 9223372036854775807) (bo : 0 ≤ o) (bp : 0 ≤ p) (w : World) : Calls Try.prog 27 #[.agg ([Value.int .i64 o, Value.int .i64 l]).toArray, .agg ([Value.int .i64 p, Value.int .i64 n]).toArray] w fun e w' => e = .returned (.agg ([Value.int .i64 (ovO o l p n), Value.int .i64 (ovL o l p n)]).toArray) ∧ St w [] w' := by
  unfold ovO ovL
  by_cases hc : min (o + l) (p + n) ≤ max o p
  · rw [if_pos hc, if_pos hc]; exact roverlap_no o l p n ho hp hc w
  · rw [if_neg hc, if_neg hc]; exact roverlap_yes o l p n ho hp hc bo bp w

set_option maxRecDepth 100000 in
set_option maxHeartbeats 1000000 in
theorem rdcheck_c (o n : Int) (H1 H2 : List Int) (hH1 : H1.length = 32) (hH2 : H2.length = 32) (A : Option Addr) (m c : Nat) (Cs : List CV) (hmm : m ≤ 1000000000) (hN : NumsC Cs) (w : World) (hC : SrcC w A m Cs)  : Calls Try.prog 10 #[.agg ([Value.int .i64 o, Value.int .i64 n] ++ (H1.map (Value.int .u8) ++ (H2.map (Value.int .u8) ++ ([Value.slice A m c])))).toArray] w fun e w' => e = .returned (.tuple #[.int .i64 (faultI o n Cs).1, .int .i64 (faultI o n Cs).2]) ∧ St w [] w' := by
  refine calls_from (args := [.agg ([Value.int .i64 o, Value.int .i64 n] ++ (H1.map (Value.int .u8) ++ (H2.map (Value.int .u8) ++ ([Value.slice A m c])))).toArray]) Try.func10 rfl Try.ntmps10 (by simp) ?_
  refine TC.sub (Sub.cons (i := 0) rfl (Sub.nil)) ?_
  refine TC.seq ?_
  refine TC.regionL ?_
  refine TL.box (Wants.none rfl) rfl rfl rfl (cs := [Value.int .i64 o, Value.int .i64 n] ++ (H1.map (Value.int .u8) ++ (H2.map (Value.int .u8) ++ ([Value.slice A m c])))) (by simp [Value.cells]) (tot := 67) (by simp [hH1, hH2]) (fun g1 hg1 => ?_)
  refine TL.gets (Wants.none rfl) rfl (Gets.assign rfl rfl) ?_
  refine TL.gets (Wants.none rfl) rfl (Gets.assign rfl rfl) ?_
  refine TL.nil ?_
  refine TE.then ?_
  refine TC.seq ?_
  refine TC.seq ?_
  refine TC.mix (by kernel_rfl) [0, 1, 0, 0, 0, 1, 0, 0, 0, 0, 1, 1, 0, 0, 0, 0, 1, 1, 0, 0] rfl (by kernel_rfl) ?_
  refine TM.free (Wants.none rfl) rfl (fun _ => Gets.fieldAddr rfl Try.underlying25 rfl size3 rfl (off' := 0) (by first | rfl | omega)) ?_
  refine TM.gets (Wants.none rfl) rfl (Gets.load1 rfl agg3 rfl (At.ent (i := 0) (ent := ⟨g1, 25, [Value.int .i64 o, Value.int .i64 n] ++ (H1.map (Value.int .u8) ++ (H2.map (Value.int .u8) ++ ([Value.slice A m c]))), 67⟩) (off := 0) rfl rfl (by exact app_left (i := 0) (B := H1.map (Value.int .u8) ++ (H2.map (Value.int .u8) ++ ([Value.slice A m c]))) (rfl)))) ?_
  by_cases u1 : o < 0
  · refine TM.free (Wants.none rfl) rfl (fun _ => Gets.isTrue (Gets.lss rfl rfl rfl) u1) ?_
    refine TM.free (Wants.none rfl) rfl (fun _ => Gets.move rfl rfl) ?_
    refine TM.pass rfl rfl rfl rfl rfl ?_
    refine TM.pass1 rfl rfl rfl rfl rfl ?_
    refine TM.pass rfl rfl rfl rfl rfl ?_
    refine TM.free (Wants.none rfl) rfl (fun _ => Gets.pickT rfl rfl rfl) ?_
    refine TM.free (Wants.none rfl) rfl (fun _ => Gets.move rfl rfl) ?_
    refine TM.pass rfl rfl rfl rfl rfl ?_
    refine TM.pass1 rfl rfl rfl rfl rfl ?_
    refine TM.pass1 rfl rfl rfl rfl rfl ?_
    refine TM.pass rfl rfl rfl rfl rfl ?_
    refine TM.free (Wants.none rfl) rfl (fun _ => Gets.pickT rfl rfl rfl) ?_
    refine TM.free (Wants.none rfl) rfl (fun _ => Gets.move rfl rfl) ?_
    refine TM.pass rfl rfl rfl rfl rfl ?_
    refine TM.pass1 rfl rfl rfl rfl rfl ?_
    refine TM.pass1 rfl rfl rfl rfl rfl ?_
    refine TM.pass rfl rfl rfl rfl rfl ?_
    refine TM.free (Wants.none rfl) rfl (fun _ => Gets.pickT rfl rfl rfl) ?_
    refine TM.nil ?_
    refine TE.then ?_
    refine TC.sub (Sub.cons (i := 1) rfl (Sub.cons (i := 2) rfl (Sub.cons (i := 3) rfl (Sub.cons (i := 28) rfl (Sub.nil))))) ?_
    refine TC.yes rfl ?_
    refine TC.seq ?_
    refine TC.regionL ?_
    refine TL.gets (Wants.none rfl) rfl (Gets.assign rfl rfl) ?_
    refine TL.gets (Wants.none rfl) rfl (Gets.assign rfl rfl) ?_
    refine TL.nil ?_
    refine TE.then ?_
    refine TC.ret ?_
    refine TE.thenR ?_
    exact TE.ret2 rfl rfl rfl (fun w hs => ⟨by have hf := faultI_len (o := o) (n := n) (Cs := Cs) (by unfold okLen; omega); rw [hf], (hs.drop (by assumption))⟩)
  · refine TM.free (Wants.none rfl) rfl (fun _ => Gets.isFalse (Gets.lss rfl rfl rfl) u1) ?_
    refine TM.free (Wants.none rfl) rfl (fun _ => Gets.move rfl rfl) ?_
    refine TM.free (Wants.yes rfl rfl rfl) rfl (fun _ => Gets.fieldAddr rfl Try.underlying25 rfl size3 rfl (off' := 1) (by first | rfl | omega)) ?_
    refine TM.gets (Wants.yes rfl rfl rfl) rfl (Gets.load1 rfl agg3 rfl (At.ent (i := 0) (ent := ⟨g1, 25, [Value.int .i64 o, Value.int .i64 n] ++ (H1.map (Value.int .u8) ++ (H2.map (Value.int .u8) ++ ([Value.slice A m c]))), 67⟩) (off := 1) rfl rfl (by exact app_left (i := 1) (B := H1.map (Value.int .u8) ++ (H2.map (Value.int .u8) ++ ([Value.slice A m c]))) (rfl)))) ?_
    by_cases u2 : n < 0
    · refine TM.free (Wants.yes rfl rfl rfl) rfl (fun _ => Gets.isTrue (Gets.lss rfl rfl rfl) u2) ?_
      refine TM.free (Wants.none rfl) rfl (fun _ => Gets.pickF rfl rfl rfl) ?_
      refine TM.free (Wants.none rfl) rfl (fun _ => Gets.move rfl rfl) ?_
      refine TM.pass rfl rfl rfl rfl rfl ?_
      refine TM.pass1 rfl rfl rfl rfl rfl ?_
      refine TM.pass1 rfl rfl rfl rfl rfl ?_
      refine TM.pass rfl rfl rfl rfl rfl ?_
      refine TM.free (Wants.none rfl) rfl (fun _ => Gets.pickT rfl rfl rfl) ?_
      refine TM.free (Wants.none rfl) rfl (fun _ => Gets.move rfl rfl) ?_
      refine TM.pass rfl rfl rfl rfl rfl ?_
      refine TM.pass1 rfl rfl rfl rfl rfl ?_
      refine TM.pass1 rfl rfl rfl rfl rfl ?_
      refine TM.pass rfl rfl rfl rfl rfl ?_
      refine TM.free (Wants.none rfl) rfl (fun _ => Gets.pickT rfl rfl rfl) ?_
      refine TM.nil ?_
      refine TE.then ?_
      refine TC.sub (Sub.cons (i := 1) rfl (Sub.cons (i := 2) rfl (Sub.cons (i := 3) rfl (Sub.cons (i := 28) rfl (Sub.nil))))) ?_
      refine TC.yes rfl ?_
      refine TC.seq ?_
      refine TC.regionL ?_
      refine TL.gets (Wants.none rfl) rfl (Gets.assign rfl rfl) ?_
      refine TL.gets (Wants.none rfl) rfl (Gets.assign rfl rfl) ?_
      refine TL.nil ?_
      refine TE.then ?_
      refine TC.ret ?_
      refine TE.thenR ?_
      exact TE.ret2 rfl rfl rfl (fun w hs => ⟨by have hf := faultI_len (o := o) (n := n) (Cs := Cs) (by unfold okLen; omega); rw [hf], (hs.drop (by assumption))⟩)
    · refine TM.free (Wants.yes rfl rfl rfl) rfl (fun _ => Gets.isFalse (Gets.lss rfl rfl rfl) u2) ?_
      refine TM.free (Wants.none rfl) rfl (fun _ => Gets.pickF rfl rfl rfl) ?_
      refine TM.free (Wants.none rfl) rfl (fun _ => Gets.move rfl rfl) ?_
      refine TM.free (Wants.yes rfl rfl rfl) rfl (fun _ => Gets.fieldAddr rfl Try.underlying25 rfl size3 rfl (off' := 0) (by first | rfl | omega)) ?_
      refine TM.gets (Wants.yes rfl rfl rfl) rfl (Gets.load1 rfl agg3 rfl (At.ent (i := 0) (ent := ⟨g1, 25, [Value.int .i64 o, Value.int .i64 n] ++ (H1.map (Value.int .u8) ++ (H2.map (Value.int .u8) ++ ([Value.slice A m c]))), 67⟩) (off := 0) rfl rfl (by exact app_left (i := 0) (B := H1.map (Value.int .u8) ++ (H2.map (Value.int .u8) ++ ([Value.slice A m c]))) (rfl)))) ?_
      refine TM.call0 (Wants.yes rfl rfl rfl) rfl enters25 rfl rfl (v := .int .i64 4611686018427387903) (fun w hs => max_c w) ?_
      by_cases u3 : 4611686018427387903 < o
      · refine TM.free (Wants.yes rfl rfl rfl) rfl (fun _ => Gets.isTrue (Gets.gtr rfl rfl rfl) u3) ?_
        refine TM.free (Wants.none rfl) rfl (fun _ => Gets.pickF rfl rfl rfl) ?_
        refine TM.free (Wants.none rfl) rfl (fun _ => Gets.move rfl rfl) ?_
        refine TM.pass rfl rfl rfl rfl rfl ?_
        refine TM.pass1 rfl rfl rfl rfl rfl ?_
        refine TM.pass1 rfl rfl rfl rfl rfl ?_
        refine TM.pass rfl rfl rfl rfl rfl ?_
        refine TM.free (Wants.none rfl) rfl (fun _ => Gets.pickT rfl rfl rfl) ?_
        refine TM.nil ?_
        refine TE.then ?_
        refine TC.sub (Sub.cons (i := 1) rfl (Sub.cons (i := 2) rfl (Sub.cons (i := 3) rfl (Sub.cons (i := 28) rfl (Sub.nil))))) ?_
        refine TC.yes rfl ?_
        refine TC.seq ?_
        refine TC.regionL ?_
        refine TL.gets (Wants.none rfl) rfl (Gets.assign rfl rfl) ?_
        refine TL.gets (Wants.none rfl) rfl (Gets.assign rfl rfl) ?_
        refine TL.nil ?_
        refine TE.then ?_
        refine TC.ret ?_
        refine TE.thenR ?_
        exact TE.ret2 rfl rfl rfl (fun w hs => ⟨by have hf := faultI_len (o := o) (n := n) (Cs := Cs) (by unfold okLen; omega); rw [hf], (hs.drop (by assumption))⟩)
      · refine TM.free (Wants.yes rfl rfl rfl) rfl (fun _ => Gets.isFalse (Gets.gtr rfl rfl rfl) u3) ?_
        refine TM.free (Wants.none rfl) rfl (fun _ => Gets.pickF rfl rfl rfl) ?_
        refine TM.free (Wants.none rfl) rfl (fun _ => Gets.move rfl rfl) ?_
        refine TM.free (Wants.yes rfl rfl rfl) rfl (fun _ => Gets.fieldAddr rfl Try.underlying25 rfl size3 rfl (off' := 1) (by first | rfl | omega)) ?_
        refine TM.gets (Wants.yes rfl rfl rfl) rfl (Gets.load1 rfl agg3 rfl (At.ent (i := 0) (ent := ⟨g1, 25, [Value.int .i64 o, Value.int .i64 n] ++ (H1.map (Value.int .u8) ++ (H2.map (Value.int .u8) ++ ([Value.slice A m c]))), 67⟩) (off := 1) rfl rfl (by exact app_left (i := 1) (B := H1.map (Value.int .u8) ++ (H2.map (Value.int .u8) ++ ([Value.slice A m c]))) (rfl)))) ?_
        refine TM.call0 (Wants.yes rfl rfl rfl) rfl enters25 rfl rfl (v := .int .i64 4611686018427387903) (fun w hs => max_c w) ?_
        by_cases u4 : 4611686018427387903 < n
        · refine TM.free (Wants.yes rfl rfl rfl) rfl (fun _ => Gets.isTrue (Gets.gtr rfl rfl rfl) u4) ?_
          refine TM.free (Wants.none rfl) rfl (fun _ => Gets.pickF rfl rfl rfl) ?_
          refine TM.nil ?_
          refine TE.then ?_
          refine TC.sub (Sub.cons (i := 1) rfl (Sub.cons (i := 2) rfl (Sub.cons (i := 3) rfl (Sub.cons (i := 28) rfl (Sub.nil))))) ?_
          refine TC.yes rfl ?_
          refine TC.seq ?_
          refine TC.regionL ?_
          refine TL.gets (Wants.none rfl) rfl (Gets.assign rfl rfl) ?_
          refine TL.gets (Wants.none rfl) rfl (Gets.assign rfl rfl) ?_
          refine TL.nil ?_
          refine TE.then ?_
          refine TC.ret ?_
          refine TE.thenR ?_
          exact TE.ret2 rfl rfl rfl (fun w hs => ⟨by have hf := faultI_len (o := o) (n := n) (Cs := Cs) (by unfold okLen; omega); rw [hf], (hs.drop (by assumption))⟩)
        · refine TM.free (Wants.yes rfl rfl rfl) rfl (fun _ => Gets.isFalse (Gets.gtr rfl rfl rfl) u4) ?_
          refine TM.free (Wants.none rfl) rfl (fun _ => Gets.pickF rfl rfl rfl) ?_
          refine TM.nil ?_
          refine TE.then ?_
          refine TC.sub (Sub.cons (i := 1) rfl (Sub.cons (i := 2) rfl (Sub.cons (i := 3) rfl (Sub.cons (i := 28) rfl (Sub.nil))))) ?_
          refine TC.no rfl ?_
          refine TC.skip ?_
          refine TE.then ?_
          refine TC.seq ?_
          refine TC.seq ?_
          refine TC.regionL ?_
          refine TL.gets (Wants.none rfl) rfl (Gets.assign rfl rfl) ?_
          refine TL.nil ?_
          refine TE.then ?_
          refine TC.block ?_
          refine TC.loop (ι := Nat) (fun i => [(1, .pointer (some ⟨g1, 0, none⟩)), (4, .int .i64 (i : Int))]) (fun i => [⟨g1, 25, [Value.int .i64 o, Value.int .i64 n] ++ (H1.map (Value.int .u8) ++ (H2.map (Value.int .u8) ++ ([Value.slice A m c]))), 67⟩]) (fun i => m - i) (fun i => i ≤ m ∧ ∀ (j : Nat) (y : CV), j < i → Cs[j]? = some y → singleV o n y = 0) 0 ⟨Nat.zero_le _, fun j y h => absurd h (Nat.not_lt_zero j)⟩ (Sub.cons (i := 1) rfl (Sub.int (i := 4) rfl (by first | omega | rfl) (Sub.nil))) (fun w h => h) (fun i hC0 => ?_)
          obtain ⟨hC0, hA1⟩ := hC0
          refine TC.seq ?_
          refine TC.seq ?_
          refine TC.regionL ?_
          refine TL.gets (Wants.none rfl) rfl (Gets.move rfl rfl) ?_
          refine TL.gets (Wants.none rfl) rfl (Gets.fieldAddr rfl Try.underlying25 rfl size23 rfl (off' := 66) (by first | rfl | omega)) ?_
          refine TL.gets (Wants.none rfl) rfl (Gets.load1 rfl agg23 rfl (At.ent (i := 0) (ent := ⟨g1, 25, [Value.int .i64 o, Value.int .i64 n] ++ (H1.map (Value.int .u8) ++ (H2.map (Value.int .u8) ++ ([Value.slice A m c]))), 67⟩) (off := 66) rfl rfl (by exact app_right (a := 2) (i := 64) (rfl) (app_right (a := 32) (i := 32) (ints_len hH1) (app_right (a := 32) (i := 0) (ints_len hH2) (rfl)))))) ?_
          refine TL.gets (Wants.none rfl) rfl (Gets.lenSlice rfl Try.underlying23 rfl) ?_
          refine TL.gets (Wants.none rfl) rfl (Gets.lss rfl rfl rfl) ?_
          refine TL.nil ?_
          refine TE.then ?_
          refine TC.split rfl (fun hq1 => ?_) (fun hq1 => ?_)
          · obtain ⟨b, off, hAe, hb, hrw⟩ := hC.some_ (i := i) (by omega)
            subst hAe
            obtain ⟨x, hx⟩ := hC.get (i := i) (by omega)
            have hnx := hN i x hx
            unfold NumC at hnx
            have hlbx := lenV_bd (k := x.k) (l := x.l) (m := x.m) (by omega) (by omega)
            refine TC.skip ?_
            refine TE.then ?_
            refine TC.seq ?_
            refine TC.block ?_
            refine TC.seq ?_
            refine TC.mix (by kernel_rfl) [1, 0, 1, 0, 0, 1, 1, 0] rfl (by kernel_rfl) ?_
            refine TM.gets (Wants.none rfl) rfl (Gets.loadN rfl agg25 size25 rfl (vs := [Value.int .i64 o, Value.int .i64 n] ++ (H1.map (Value.int .u8) ++ (H2.map (Value.int .u8) ++ ([Value.slice (some ⟨b, off, none⟩) m c])))) (by simp [hH1, hH2]) (Row.all (i := 0) (ent := ⟨g1, 25, [Value.int .i64 o, Value.int .i64 n] ++ (H1.map (Value.int .u8) ++ (H2.map (Value.int .u8) ++ ([Value.slice (some ⟨b, off, none⟩) m c]))), 67⟩) rfl rfl rfl)) ?_
            refine TM.free (Wants.none rfl) rfl (fun _ => Gets.fieldAddr rfl Try.underlying25 rfl size23 rfl (off' := 66) (by first | rfl | omega)) ?_
            refine TM.gets (Wants.none rfl) rfl (Gets.load1 rfl agg23 rfl (At.ent (i := 0) (ent := ⟨g1, 25, [Value.int .i64 o, Value.int .i64 n] ++ (H1.map (Value.int .u8) ++ (H2.map (Value.int .u8) ++ ([Value.slice (some ⟨b, off, none⟩) m c]))), 67⟩) (off := 66) rfl rfl (by exact app_right (a := 2) (i := 64) (rfl) (app_right (a := 32) (i := 32) (ints_len hH1) (app_right (a := 32) (i := 0) (ints_len hH2) (rfl)))))) ?_
            refine TM.free (Wants.none rfl) rfl (fun _ => Gets.move rfl rfl) ?_
            refine TM.free (Wants.none rfl) rfl (fun _ => Gets.idxSlice rfl Try.underlying23 size40 rfl rfl (i := i) (by omega) (by omega) (off' := (off + 5 * i)) (by omega)) ?_
            refine TM.gets (Wants.none rfl) rfl (Gets.loadN rfl agg40 size40 rfl rfl (Row.old (fun jj u h => hrw i x hx jj u h) hb (ne_cons (by show g1 ≠ b; omega) ne_nil))) ?_
            refine TM.call0 (Wants.none rfl) rfl enters26 rfl rfl (v := .int .i64 (singleV o n x)) (fun w hs => single_c o n H1 H2 hH1 hH2 (some ⟨b, off, none⟩) m c Cs x (hN _ x hx) w) ?_
            refine TM.free (Wants.none rfl) rfl (fun _ => Gets.assign rfl rfl) ?_
            refine TM.nil ?_
            refine TE.then ?_
            refine TC.sub (Sub.cons (i := 1) rfl (Sub.cons (i := 4) rfl (Sub.cons (i := 5) rfl (Sub.nil)))) ?_
            refine TC.seq ?_
            refine TC.regionL ?_
            refine TL.gets (Wants.none rfl) rfl (Gets.move rfl rfl) ?_
            refine TL.gets (Wants.none rfl) rfl (Gets.neq rfl rfl rfl) ?_
            refine TL.nil ?_
            refine TE.then ?_
            refine TC.split rfl (fun hq2 => ?_) (fun hq2 => ?_)
            · refine TC.seq ?_
              refine TC.regionL ?_
              refine TL.gets (Wants.none rfl) rfl (Gets.move rfl rfl) ?_
              refine TL.gets (Wants.none rfl) rfl (Gets.move rfl rfl) ?_
              refine TL.gets (Wants.none rfl) rfl (Gets.assign rfl rfl) ?_
              refine TL.gets (Wants.none rfl) rfl (Gets.assign rfl rfl) ?_
              refine TL.nil ?_
              refine TE.then ?_
              refine TC.ret ?_
              refine TE.blockR ?_
              refine TE.thenR ?_
              refine TE.thenR ?_
              refine TE.blockR ?_
              refine TE.thenR ?_
              exact TE.ret2 rfl rfl rfl (fun w hs => ⟨by have hf := faultI_single (show okLen o n by unfold okLen; omega) hx (by omega) hA1; rw [hf], (hs.drop (by assumption))⟩)
            · refine TC.skip ?_
              refine TE.blockN ?_
              refine TE.then ?_
              refine TC.regionL ?_
              refine TL.gets (Wants.none rfl) rfl (Gets.move rfl rfl) ?_
              refine TL.gets (Wants.none rfl) rfl (Gets.add rfl rfl rfl (r := ((i : Int) + 1)) (w64 (by omega) (by omega))) ?_
              refine TL.gets (Wants.none rfl) rfl (Gets.assign rfl rfl) ?_
              refine TL.nil ?_
              exact TE.back (i + 1) (by omega) ⟨by omega, all_succ hA1 hx (by omega)⟩ (Sub.cons (i := 1) rfl (Sub.int (i := 4) rfl (by first | omega | rfl) (Sub.nil))) (fun w h => h)
          · have hS : ∀ (i : Nat) (x : CV), Cs[i]? = some x → singleV o n x = 0 := all_of (m := m) (by have := hC.1; omega) (fun j y hj => hA1 j y (by omega))
            have hV : ∀ (i : Nat) (x : CV), Cs[i]? = some x → vld x.t (lenV x.k x.l x.m) := fun i x hx => (single_vld (hS i x hx)).1
            refine TC.exit ?_
            refine TE.thenX ?_
            refine TE.thenX ?_
            refine TE.blockX ?_
            refine TE.then ?_
            refine TC.seq ?_
            refine TC.seq ?_
            refine TC.regionL ?_
            refine TL.gets (Wants.none rfl) rfl (Gets.assign rfl rfl) ?_
            refine TL.nil ?_
            refine TE.then ?_
            refine TC.block ?_
            refine TC.loop (ι := Nat) (fun i => [(1, .pointer (some ⟨g1, 0, none⟩)), (6, .int .i64 (i : Int))]) (fun i => [⟨g1, 25, [Value.int .i64 o, Value.int .i64 n] ++ (H1.map (Value.int .u8) ++ (H2.map (Value.int .u8) ++ ([Value.slice A m c]))), 67⟩]) (fun i => m - i) (fun i => i ≤ m ∧ ∀ i', i' < i → ¬ bad2 Cs i') 0 ⟨Nat.zero_le _, fun i h => absurd h (Nat.not_lt_zero i)⟩ (Sub.cons (i := 1) rfl (Sub.int (i := 6) rfl (by first | omega | rfl) (Sub.nil))) (fun w h => h) (fun i hC1 => ?_)
            obtain ⟨hC1, hB1⟩ := hC1
            refine TC.seq ?_
            refine TC.seq ?_
            refine TC.regionL ?_
            refine TL.gets (Wants.none rfl) rfl (Gets.move rfl rfl) ?_
            refine TL.gets (Wants.none rfl) rfl (Gets.fieldAddr rfl Try.underlying25 rfl size23 rfl (off' := 66) (by first | rfl | omega)) ?_
            refine TL.gets (Wants.none rfl) rfl (Gets.load1 rfl agg23 rfl (At.ent (i := 0) (ent := ⟨g1, 25, [Value.int .i64 o, Value.int .i64 n] ++ (H1.map (Value.int .u8) ++ (H2.map (Value.int .u8) ++ ([Value.slice A m c]))), 67⟩) (off := 66) rfl rfl (by exact app_right (a := 2) (i := 64) (rfl) (app_right (a := 32) (i := 32) (ints_len hH1) (app_right (a := 32) (i := 0) (ints_len hH2) (rfl)))))) ?_
            refine TL.gets (Wants.none rfl) rfl (Gets.lenSlice rfl Try.underlying23 rfl) ?_
            refine TL.gets (Wants.none rfl) rfl (Gets.lss rfl rfl rfl) ?_
            refine TL.nil ?_
            refine TE.then ?_
            refine TC.split rfl (fun hq3 => ?_) (fun hq3 => ?_)
            · obtain ⟨b, off, hAe, hb, hrw⟩ := hC.some_ (i := i) (by omega)
              subst hAe
              obtain ⟨x, hx⟩ := hC.get (i := i) (by omega)
              have hnx := hN i x hx
              unfold NumC at hnx
              have hlbx := lenV_bd (k := x.k) (l := x.l) (m := x.m) (by omega) (by omega)
              have hvx := single_vld (hS i x hx)
              unfold vld at hvx
              refine TC.skip ?_
              refine TE.then ?_
              refine TC.seq ?_
              refine TC.block ?_
              refine TC.seq ?_
              refine TC.regionL ?_
              refine TL.gets (Wants.none rfl) rfl (Gets.assign rfl rfl) ?_
              refine TL.nil ?_
              refine TE.then ?_
              refine TC.block ?_
              refine TC.loop (ι := Nat) (fun j => [(1, .pointer (some ⟨g1, 0, none⟩)), (6, .int .i64 (i : Int)), (7, .int .i64 (j : Int))]) (fun j => [⟨g1, 25, [Value.int .i64 o, Value.int .i64 n] ++ (H1.map (Value.int .u8) ++ (H2.map (Value.int .u8) ++ ([Value.slice (some ⟨b, off, none⟩) m c]))), 67⟩]) (fun j => i - j) (fun j => j ≤ i ∧ ∀ (j' : Nat) (y : CV), j' < j → Cs[j']? = some y → ¬ meets (tg x).1 (tg x).2 (tg y).1 (tg y).2) 0 ⟨Nat.zero_le _, fun j y h => absurd h (Nat.not_lt_zero j)⟩ (Sub.cons (i := 1) rfl (Sub.int (i := 6) rfl (by first | omega | rfl) (Sub.int (i := 7) rfl (by first | omega | rfl) (Sub.nil)))) (fun w h => h) (fun j hC2 => ?_)
              obtain ⟨hC2, hj2⟩ := hC2
              refine TC.seq ?_
              refine TC.seq ?_
              refine TC.regionL ?_
              refine TL.gets (Wants.none rfl) rfl (Gets.move rfl rfl) ?_
              refine TL.gets (Wants.none rfl) rfl (Gets.move rfl rfl) ?_
              refine TL.gets (Wants.none rfl) rfl (Gets.lss rfl rfl rfl) ?_
              refine TL.nil ?_
              refine TE.then ?_
              refine TC.split rfl (fun hq4 => ?_) (fun hq4 => ?_)
              · obtain ⟨y, hy⟩ := hC.get (i := j) (by omega)
                have hny := hN j y hy
                unfold NumC at hny
                have hvy := (single_vld (hS j y hy))
                unfold vld at hvy
                have hq4n : j < i := by omega
                refine TC.skip ?_
                refine TE.then ?_
                refine TC.seq ?_
                refine TC.block ?_
                refine TC.seq ?_
                refine TC.mix (by kernel_rfl) [0, 1, 0, 0, 1, 1, 0, 1, 0, 0, 1, 1, 1, 0, 0] rfl (by kernel_rfl) ?_
                refine TM.free (Wants.none rfl) rfl (fun _ => Gets.fieldAddr rfl Try.underlying25 rfl size23 rfl (off' := 66) (by first | rfl | omega)) ?_
                refine TM.gets (Wants.none rfl) rfl (Gets.load1 rfl agg23 rfl (At.ent (i := 0) (ent := ⟨g1, 25, [Value.int .i64 o, Value.int .i64 n] ++ (H1.map (Value.int .u8) ++ (H2.map (Value.int .u8) ++ ([Value.slice (some ⟨b, off, none⟩) m c]))), 67⟩) (off := 66) rfl rfl (by exact app_right (a := 2) (i := 64) (rfl) (app_right (a := 32) (i := 32) (ints_len hH1) (app_right (a := 32) (i := 0) (ints_len hH2) (rfl)))))) ?_
                refine TM.free (Wants.none rfl) rfl (fun _ => Gets.move rfl rfl) ?_
                refine TM.free (Wants.none rfl) rfl (fun _ => Gets.idxSlice rfl Try.underlying23 size40 rfl rfl (i := i) (by omega) (by omega) (off' := (off + 5 * i)) (by omega)) ?_
                refine TM.gets (Wants.none rfl) rfl (Gets.loadN rfl agg40 size40 rfl rfl (Row.old (fun jj u h => hrw i x hx jj u h) hb (ne_cons (by show g1 ≠ b; omega) ne_nil))) ?_
                refine TM.call0 (Wants.none rfl) rfl enters28 rfl rfl (v := .agg ([Value.int .i64 x.t, Value.int .i64 (lenV x.k x.l x.m)]).toArray) (fun w hs => rtarget_c x.k x.t x.f x.l x.A x.m x.c w) ?_
                refine TM.free (Wants.none rfl) rfl (fun _ => Gets.fieldAddr rfl Try.underlying25 rfl size23 rfl (off' := 66) (by first | rfl | omega)) ?_
                refine TM.gets (Wants.none rfl) rfl (Gets.load1 rfl agg23 rfl (At.ent (i := 0) (ent := ⟨g1, 25, [Value.int .i64 o, Value.int .i64 n] ++ (H1.map (Value.int .u8) ++ (H2.map (Value.int .u8) ++ ([Value.slice (some ⟨b, off, none⟩) m c]))), 67⟩) (off := 66) rfl rfl (by exact app_right (a := 2) (i := 64) (rfl) (app_right (a := 32) (i := 32) (ints_len hH1) (app_right (a := 32) (i := 0) (ints_len hH2) (rfl)))))) ?_
                refine TM.free (Wants.none rfl) rfl (fun _ => Gets.move rfl rfl) ?_
                refine TM.free (Wants.none rfl) rfl (fun _ => Gets.idxSlice rfl Try.underlying23 size40 rfl rfl (i := j) (by omega) (by omega) (off' := (off + 5 * j)) (by omega)) ?_
                refine TM.gets (Wants.none rfl) rfl (Gets.loadN rfl agg40 size40 rfl rfl (Row.old (fun jj u h => hrw j y hy jj u h) hb (ne_cons (by show g1 ≠ b; omega) ne_nil))) ?_
                refine TM.call0 (Wants.none rfl) rfl enters28 rfl rfl (v := .agg ([Value.int .i64 y.t, Value.int .i64 (lenV y.k y.l y.m)]).toArray) (fun w hs => rtarget_c y.k y.t y.f y.l y.A y.m y.c w) ?_
                refine TM.call0 (Wants.none rfl) rfl enters27 rfl rfl (v := .agg ([Value.int .i64 (ovO x.t (lenV x.k x.l x.m) y.t (lenV y.k y.l y.m)), Value.int .i64 (ovL x.t (lenV x.k x.l x.m) y.t (lenV y.k y.l y.m))]).toArray) (fun w hs => roverlap_g x.t (lenV x.k x.l x.m) y.t (lenV y.k y.l y.m) (by omega) (by omega) (by omega) (by omega) w) ?_
                refine TM.free (Wants.none rfl) rfl (fun _ => Gets.field1 rfl Try.underlying49 rfl rfl agg3 rfl) ?_
                refine TM.free (Wants.none rfl) rfl (fun _ => Gets.gtr rfl rfl rfl) ?_
                refine TM.nil ?_
                refine TE.then ?_
                refine TC.sub (Sub.cons (i := 1) rfl (Sub.cons (i := 6) rfl (Sub.cons (i := 7) rfl (Sub.cons (i := 73) rfl (Sub.nil))))) ?_
                refine TC.split rfl (fun hq5 => ?_) (fun hq5 => ?_)
                · refine TC.seq ?_
                  refine TC.regionL ?_
                  refine TL.gets (Wants.none rfl) rfl (Gets.move rfl rfl) ?_
                  refine TL.gets (Wants.none rfl) rfl (Gets.assign rfl rfl) ?_
                  refine TL.gets (Wants.none rfl) rfl (Gets.assign rfl rfl) ?_
                  refine TL.nil ?_
                  refine TE.then ?_
                  refine TC.ret ?_
                  refine TE.blockR ?_
                  refine TE.thenR ?_
                  refine TE.thenR ?_
                  refine TE.blockR ?_
                  refine TE.blockR ?_
                  refine TE.thenR ?_
                  refine TE.thenR ?_
                  refine TE.blockR ?_
                  refine TE.thenR ?_
                  exact TE.ret2 rfl rfl rfl (fun w hs => ⟨by have hf := faultI_over (show okLen o n by unfold okLen; omega) hS hx hq4n hy ((ovL_meets _ _ _ _).1 hq5) hB1; rw [hf], (hs.drop (by assumption))⟩)
                · refine TC.skip ?_
                  refine TE.blockN ?_
                  refine TE.then ?_
                  refine TC.regionL ?_
                  refine TL.gets (Wants.none rfl) rfl (Gets.move rfl rfl) ?_
                  refine TL.gets (Wants.none rfl) rfl (Gets.add rfl rfl rfl (r := ((j : Int) + 1)) (w64 (by omega) (by omega))) ?_
                  refine TL.gets (Wants.none rfl) rfl (Gets.assign rfl rfl) ?_
                  refine TL.nil ?_
                  exact TE.back (j + 1) (by omega) ⟨by omega, all_succ hj2 hy (fun hm => hq5 ((ovL_meets _ _ _ _).2 hm))⟩ (Sub.cons (i := 1) rfl (Sub.int (i := 6) rfl (by first | omega | rfl) (Sub.int (i := 7) rfl (by first | omega | rfl) (Sub.nil)))) (fun w h => h)
              · refine TC.exit ?_
                refine TE.thenX ?_
                refine TE.thenX ?_
                refine TE.blockX ?_
                refine TE.blockN ?_
                refine TE.then ?_
                refine TC.regionL ?_
                refine TL.gets (Wants.none rfl) rfl (Gets.move rfl rfl) ?_
                refine TL.gets (Wants.none rfl) rfl (Gets.add rfl rfl rfl (r := ((i : Int) + 1)) (w64 (by omega) (by omega))) ?_
                refine TL.gets (Wants.none rfl) rfl (Gets.assign rfl rfl) ?_
                refine TL.nil ?_
                exact TE.back (i + 1) (by omega) ⟨by omega, bad2_succ hB1 hx (fun j' y' hj' => hj2 j' y' (by omega))⟩ (Sub.cons (i := 1) rfl (Sub.int (i := 6) rfl (by first | omega | rfl) (Sub.nil))) (fun w h => h)
            · have hB2 : ∀ i, ¬ bad2 Cs i := bad2_all (m := m) (by have := hC.1; omega) (fun i' hi => hB1 i' (by omega))
              refine TC.exit ?_
              refine TE.thenX ?_
              refine TE.thenX ?_
              refine TE.blockX ?_
              refine TE.then ?_
              refine TC.seq ?_
              refine TC.regionL ?_
              refine TL.gets (Wants.none rfl) rfl (Gets.loadN rfl agg25 size25 rfl (vs := [Value.int .i64 o, Value.int .i64 n] ++ (H1.map (Value.int .u8) ++ (H2.map (Value.int .u8) ++ ([Value.slice A m c])))) (by simp [hH1, hH2]) (Row.all (i := 0) (ent := ⟨g1, 25, [Value.int .i64 o, Value.int .i64 n] ++ (H1.map (Value.int .u8) ++ (H2.map (Value.int .u8) ++ ([Value.slice A m c]))), 67⟩) rfl rfl rfl)) ?_
              refine TL.call0 (Wants.none rfl) rfl enters29 rfl rfl (v := .int .i64 (gapI n Cs)) (fun w hs => rgap_c o n H1 H2 hH1 hH2 A m c Cs hV hmm hN w (hC.at_ hs (fun b hb => (ne_cons (by show g1 ≠ b; omega) ne_nil)))) ?_
              refine TL.gets (Wants.none rfl) rfl (Gets.assign rfl rfl) ?_
              refine TL.nil ?_
              refine TE.then ?_
              refine TC.sub (Sub.cons (i := 8) rfl (Sub.nil)) ?_
              refine TC.seq ?_
              refine TC.seq ?_
              refine TC.regionL ?_
              refine TL.gets (Wants.none rfl) rfl (Gets.move rfl rfl) ?_
              refine TL.gets (Wants.none rfl) rfl (Gets.geq rfl rfl rfl) ?_
              refine TL.nil ?_
              refine TE.then ?_
              refine TC.split rfl (fun hq6 => ?_) (fun hq6 => ?_)
              · refine TC.seq ?_
                refine TC.regionL ?_
                refine TL.gets (Wants.none rfl) rfl (Gets.move rfl rfl) ?_
                refine TL.gets (Wants.none rfl) rfl (Gets.assign rfl rfl) ?_
                refine TL.gets (Wants.none rfl) rfl (Gets.assign rfl rfl) ?_
                refine TL.nil ?_
                refine TE.then ?_
                refine TC.ret ?_
                refine TE.thenR ?_
                exact TE.ret2 rfl rfl rfl (fun w hs => ⟨by have hf := (faultI_gap (show okLen o n by unfold okLen; omega) hS hB2).trans (if_pos hq6); rw [hf], (hs.drop (by assumption))⟩)
              · refine TC.skip ?_
                refine TE.then ?_
                refine TC.seq ?_
                refine TC.regionL ?_
                refine TL.gets (Wants.none rfl) rfl (Gets.assign rfl rfl) ?_
                refine TL.gets (Wants.none rfl) rfl (Gets.assign rfl rfl) ?_
                refine TL.nil ?_
                refine TE.then ?_
                refine TC.ret ?_
                exact TE.ret2 rfl rfl rfl (fun w hs => ⟨by have hf := (faultI_gap (show okLen o n by unfold okLen; omega) hS hB2).trans (if_neg hq6); rw [hf], (hs.drop (by assumption))⟩)

set_option maxRecDepth 100000 in
set_option maxHeartbeats 400000 in
theorem rdvalid_c (o n : Int) (H1 H2 : List Int) (hH1 : H1.length = 32) (hH2 : H2.length = 32) (A : Option Addr) (m c : Nat) (Cs : List CV) (hmm : m ≤ 1000000000) (hN : NumsC Cs) (w : World) (hC : SrcC w A m Cs)  : Calls Try.prog 13 #[.agg ([Value.int .i64 o, Value.int .i64 n] ++ (H1.map (Value.int .u8) ++ (H2.map (Value.int .u8) ++ ([Value.slice A m c])))).toArray] w fun e w' => e = .returned (.bool (decide ((faultI o n Cs).1 = 0))) ∧ St w [] w' := by
  refine calls_from (args := [.agg ([Value.int .i64 o, Value.int .i64 n] ++ (H1.map (Value.int .u8) ++ (H2.map (Value.int .u8) ++ ([Value.slice A m c])))).toArray]) Try.func13 rfl Try.ntmps13 (by simp) ?_
  refine TC.sub (Sub.cons (i := 0) rfl (Sub.nil)) ?_
  refine TC.seq ?_
  refine TC.regionL ?_
  refine TL.box (Wants.none rfl) rfl rfl rfl (cs := [Value.int .i64 o, Value.int .i64 n] ++ (H1.map (Value.int .u8) ++ (H2.map (Value.int .u8) ++ ([Value.slice A m c])))) (by simp [Value.cells]) (tot := 67) (by simp [hH1, hH2]) (fun g1 hg1 => ?_)
  refine TL.gets (Wants.none rfl) rfl (Gets.assign rfl rfl) ?_
  refine TL.nil ?_
  refine TE.then ?_
  refine TC.seq ?_
  refine TC.regionL ?_
  refine TL.gets (Wants.none rfl) rfl (Gets.loadN rfl agg25 size25 rfl (vs := [Value.int .i64 o, Value.int .i64 n] ++ (H1.map (Value.int .u8) ++ (H2.map (Value.int .u8) ++ ([Value.slice A m c])))) (by simp [hH1, hH2]) (Row.all (i := 0) (ent := ⟨g1, 25, [Value.int .i64 o, Value.int .i64 n] ++ (H1.map (Value.int .u8) ++ (H2.map (Value.int .u8) ++ ([Value.slice A m c]))), 67⟩) rfl rfl rfl)) ?_
  refine TL.call0 (Wants.none rfl) rfl enters10 rfl rfl (v := .tuple #[.int .i64 ((faultI o n Cs).1), .int .i64 ((faultI o n Cs).2)]) (fun w hs => rdcheck_c o n H1 H2 hH1 hH2 A m c Cs hmm hN w (hC.at_ hs (fun b hb => (ne_cons (by show g1 ≠ b; omega) ne_nil)))) ?_
  refine TL.gets (Wants.none rfl) rfl (Gets.move rfl rfl) ?_
  refine TL.gets (Wants.none rfl) rfl (Gets.extract rfl rfl rfl) ?_
  refine TL.gets (Wants.none rfl) rfl (Gets.extract rfl rfl rfl) ?_
  refine TL.gets (Wants.none rfl) rfl (Gets.assign rfl rfl) ?_
  refine TL.gets (Wants.none rfl) rfl (Gets.assign rfl rfl) ?_
  refine TL.nil ?_
  refine TE.then ?_
  refine TC.sub (Sub.cons (i := 2) rfl (Sub.cons (i := 3) rfl (Sub.nil))) ?_
  refine TC.seq ?_
  refine TC.regionL ?_
  refine TL.gets (Wants.none rfl) rfl (Gets.move rfl rfl) ?_
  refine TL.gets (Wants.none rfl) rfl (Gets.eql rfl rfl rfl) ?_
  refine TL.gets (Wants.none rfl) rfl (Gets.assign rfl rfl) ?_
  refine TL.nil ?_
  refine TE.then ?_
  refine TC.ret ?_
  exact TE.ret1 rfl rfl (fun w hs => ⟨dec_iff (Iff.rfl), (hs.drop (by assumption))⟩)
end Go.Proofs.Ytkgamkjdkapchaa
