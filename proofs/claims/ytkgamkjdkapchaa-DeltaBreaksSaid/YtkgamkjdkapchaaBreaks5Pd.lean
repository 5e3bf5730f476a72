/-
  The code of layer 5: checkTargets.
-/
import Derived.Test.YtkgamkjdkapchaaBreaks5Pc
import Derived.Test.YtkgamkjdkapchaaBreaks5Pb
import Derived.Shelf.SlSortCmp.WholeK
import Derived.Shelf.SlicesG.Cmp
import Derived.Ground.SlsfProg
import Derived.Ground.SlgcProg
import Derived.WalkKit
/-
  The reference of layer 5: gap, Check, Valid.
-/
namespace Go.Proofs.Ytkgamkjdkapchaa
set_option linter.unusedVariables false
set_option linter.unusedSimpArgs false
open Go Go.RowKit
theorem agg25 : (isAgg 25).run Try.prog = fun w => .ok true w := isAgg_yes Try.underlying25 rfl
theorem enters10 : Enters Try.prog 10 := ⟨_, Try.func10, by kernel_rfl, by kernel_rfl⟩
theorem enters26 : Enters Try.prog 26 := ⟨_, Try.func26, by kernel_rfl, by kernel_rfl⟩
theorem enters27 : Enters Try.prog 27 := ⟨_, Try.func27, by kernel_rfl, by kernel_rfl⟩
theorem enters29 : Enters Try.prog 29 := ⟨_, Try.func29, by kernel_rfl, by kernel_rfl⟩
theorem enters44 : Enters Try.prog 44 := ⟨_, Try.func44, by kernel_rfl, by kernel_rfl⟩
theorem size25 : (Try.prog.info? 25).map (·.size) = some 67 := by kernel_rfl
set_option maxRecDepth 100000 in
set_option maxHeartbeats 400000 in
theorem rgap_c (o n : Int) (H1 H2 : List Int) (hH1 : H1.length = 32) (hH2 : H2.length = 32) (A : Option Addr) (m c : Nat) (Cs : List CV) (hV : ∀ (i : Nat) (x : CV), Cs[i]? = some x → vld x.t (lenV x.k x.l x.m)) (hmm : m ≤ 1000000000) (hN : NumsC Cs) (w : World) (hC : SrcC w A m Cs)  : Calls Try.prog 29 #[.agg ([Value.int .i64 o, Value.int .i64 n] ++ (H1.map (Value.int .u8) ++ (H2.map (Value.int .u8) ++ ([Value.slice A m c])))).toArray] w fun e w' => e = .returned (.int .i64 (gapI n Cs)) ∧ St w [] w' := by
  refine calls_from (args := [.agg ([Value.int .i64 o, Value.int .i64 n] ++ (H1.map (Value.int .u8) ++ (H2.map (Value.int .u8) ++ ([Value.slice A m c])))).toArray]) Try.func29 rfl Try.ntmps29 (by simp) ?_
  refine TC.sub (Sub.cons (i := 0) rfl (Sub.nil)) ?_
  refine TC.seq ?_
  refine TC.regionL ?_
  refine TL.box (Wants.none rfl) rfl rfl rfl (cs := [Value.int .i64 o, Value.int .i64 n] ++ (H1.map (Value.int .u8) ++ (H2.map (Value.int .u8) ++ ([Value.slice A m c])))) (by simp [Value.cells]) (tot := 67) (by simp [hH1, hH2]) (fun g1 hg1 => ?_)
  refine TL.gets (Wants.none rfl) rfl (Gets.assign rfl rfl) ?_
  refine TL.nil ?_
  refine TE.then ?_
  refine TC.seq ?_
  refine TC.regionL ?_
  refine TL.gets (Wants.none rfl) rfl (Gets.assign rfl rfl) ?_
  refine TL.nil ?_
  refine TE.then ?_
  refine TC.seq ?_
  refine TC.seq ?_
  refine TC.regionL ?_
  refine TL.gets (Wants.none rfl) rfl (Gets.assign rfl rfl) ?_
  refine TL.nil ?_
  refine TE.then ?_
  refine TC.block ?_
  refine TC.loop (ι := Nat × Int) (fun y => [(1, .pointer (some ⟨g1, 0, none⟩)), (3, .int .i64 y.2), (4, .int .i64 ((y.1 : Int) - 1))]) (fun y => [⟨g1, 25, [Value.int .i64 o, Value.int .i64 n] ++ (H1.map (Value.int .u8) ++ (H2.map (Value.int .u8) ++ ([Value.slice A m c]))), 67⟩]) (fun y => m + 1 - y.1) (fun y => y.1 ≤ m + 1 ∧ gapQ n Cs y.1 y.2) ((0, -1) : Nat × Int) ⟨Nat.zero_le _, gapQ_zero n Cs⟩ (Sub.cons (i := 1) rfl (Sub.int (i := 3) rfl rfl (Sub.int (i := 4) rfl rfl (Sub.nil)))) (fun w h => h) (fun y hC0 => ?_)
  obtain ⟨i, q⟩ := y
  obtain ⟨hC0, hQ⟩ := hC0
  dsimp only at hC0 hQ ⊢
  refine TC.seq ?_
  refine TC.seq ?_
  refine TC.regionL ?_
  refine TL.gets (Wants.none rfl) rfl (Gets.move rfl rfl) ?_
  refine TL.gets (Wants.none rfl) rfl (Gets.fieldAddr rfl Try.underlying25 rfl size23 rfl (off' := 66) (by first | rfl | omega)) ?_
  refine TL.gets (Wants.none rfl) rfl (Gets.load1 rfl agg23 rfl (At.ent (i := 0) (ent := ⟨g1, 25, [Value.int .i64 o, Value.int .i64 n] ++ (H1.map (Value.int .u8) ++ (H2.map (Value.int .u8) ++ ([Value.slice A m c]))), 67⟩) (off := 66) rfl rfl (by exact app_right (a := 2) (i := 64) (rfl) (app_right (a := 32) (i := 32) (ints_len hH1) (app_right (a := 32) (i := 0) (ints_len hH2) (rfl)))))) ?_
  refine TL.gets (Wants.none rfl) rfl (Gets.lenSlice rfl Try.underlying23 rfl) ?_
  refine TL.gets (Wants.none rfl) rfl (Gets.lss rfl rfl rfl) ?_
  refine TL.nil ?_
  refine TE.then ?_
  refine TC.split rfl (fun hq0 => ?_) (fun hq0 => ?_)
  · refine TC.skip ?_
    refine TE.then ?_
    refine TC.seq ?_
    refine TC.block ?_
    refine TC.seq ?_
    refine TC.regionL ?_
    refine TL.gets (Wants.none rfl) rfl (Gets.assign rfl rfl) ?_
    refine TL.nil ?_
    refine TE.then ?_
    refine TC.sub (Sub.cons (i := 1) rfl (Sub.cons (i := 3) rfl (Sub.cons (i := 4) rfl (Sub.cons (i := 5) rfl (Sub.nil))))) ?_
    refine TC.seq ?_
    refine TC.seq ?_
    refine TC.regionL ?_
    refine TL.gets (Wants.none rfl) rfl (Gets.move rfl rfl) ?_
    refine TL.gets (Wants.none rfl) rfl (Gets.geq rfl rfl rfl) ?_
    refine TL.nil ?_
    refine TE.then ?_
    refine TC.split rfl (fun hq1 => ?_) (fun hq1 => ?_)
    · obtain ⟨i1, rfl⟩ : ∃ i1, i = i1 + 1 := ⟨i - 1, by omega⟩
      obtain ⟨b, off, hAe, hb, hrw⟩ := hC.some_ (i := i1) (by omega)
      subst hAe
      obtain ⟨x, hx⟩ := hC.get (i := i1) (by omega)
      have hnx := hN i1 x hx
      unfold NumC at hnx
      have hlbx := lenV_bd (k := x.k) (l := x.l) (m := x.m) (by omega) (by omega)
      have hvx := hV i1 x hx
      unfold vld at hvx
      refine TC.mix (by kernel_rfl) [0, 1, 0, 0, 0, 1, 0, 1, 0, 0, 1, 1, 0, 0] rfl (by kernel_rfl) ?_
      refine TM.free (Wants.none rfl) rfl (fun _ => Gets.fieldAddr rfl Try.underlying25 rfl size23 rfl (off' := 66) (by first | rfl | omega)) ?_
      refine TM.gets (Wants.none rfl) rfl (Gets.load1 rfl agg23 rfl (At.ent (i := 0) (ent := ⟨g1, 25, [Value.int .i64 o, Value.int .i64 n] ++ (H1.map (Value.int .u8) ++ (H2.map (Value.int .u8) ++ ([Value.slice (some ⟨b, off, none⟩) m c]))), 67⟩) (off := 66) rfl rfl (by exact app_right (a := 2) (i := 64) (rfl) (app_right (a := 32) (i := 32) (ints_len hH1) (app_right (a := 32) (i := 0) (ints_len hH2) (rfl)))))) ?_
      refine TM.free (Wants.none rfl) rfl (fun _ => Gets.move rfl rfl) ?_
      refine TM.free (Wants.none rfl) rfl (fun _ => Gets.idxSlice rfl Try.underlying23 size40 rfl rfl (i := i1) (by omega) (by omega) (off' := (off + 5 * i1)) (by omega)) ?_
      refine TM.free (Wants.none rfl) rfl (fun _ => Gets.fieldAddr rfl Try.underlying40 rfl size3 rfl (off' := (off + 5 * i1 + 1)) (by first | rfl | omega)) ?_
      refine TM.gets (Wants.none rfl) rfl (Gets.load1 rfl agg3 rfl (At.old (hrw i1 x hx 1 _ rfl) hb (ne_cons (by show g1 ≠ b; omega) ne_nil))) ?_
      refine TM.free (Wants.none rfl) rfl (fun _ => Gets.fieldAddr rfl Try.underlying25 rfl size23 rfl (off' := 66) (by first | rfl | omega)) ?_
      refine TM.gets (Wants.none rfl) rfl (Gets.load1 rfl agg23 rfl (At.ent (i := 0) (ent := ⟨g1, 25, [Value.int .i64 o, Value.int .i64 n] ++ (H1.map (Value.int .u8) ++ (H2.map (Value.int .u8) ++ ([Value.slice (some ⟨b, off, none⟩) m c]))), 67⟩) (off := 66) rfl rfl (by exact app_right (a := 2) (i := 64) (rfl) (app_right (a := 32) (i := 32) (ints_len hH1) (app_right (a := 32) (i := 0) (ints_len hH2) (rfl)))))) ?_
      refine TM.free (Wants.none rfl) rfl (fun _ => Gets.move rfl rfl) ?_
      refine TM.free (Wants.none rfl) rfl (fun _ => Gets.idxSlice rfl Try.underlying23 size40 rfl rfl (i := i1) (by omega) (by omega) (off' := (off + 5 * i1)) (by omega)) ?_
      refine TM.gets (Wants.none rfl) rfl (Gets.loadN rfl agg40 size40 rfl rfl (Row.old (fun jj u h => hrw i1 x hx jj u h) hb (ne_cons (by show g1 ≠ b; omega) ne_nil))) ?_
      refine TM.call0 (Wants.none rfl) rfl enters20 rfl rfl (v := .int .i64 (lenV x.k x.l x.m)) (fun w hs => rlen_c x.k x.t x.f x.l x.A x.m x.c w) ?_
      refine TM.free (Wants.none rfl) rfl (fun _ => Gets.add rfl rfl rfl (r := (x.t + (lenV x.k x.l x.m))) (w64 (by omega) (by omega))) ?_
      refine TM.free (Wants.none rfl) rfl (fun _ => Gets.assign rfl rfl) ?_
      refine TM.nil ?_
      refine TE.then ?_
      refine TC.sub (Sub.cons (i := 1) rfl (Sub.cons (i := 3) rfl (Sub.cons (i := 4) rfl (Sub.cons (i := 5) rfl (Sub.nil))))) ?_
      refine TC.seq ?_
      refine TC.regionL ?_
      refine TL.gets (Wants.none rfl) rfl (Gets.move rfl rfl) ?_
      refine TL.gets (Wants.none rfl) rfl (Gets.fieldAddr rfl Try.underlying25 rfl size3 rfl (off' := 1) (by first | rfl | omega)) ?_
      refine TL.gets (Wants.none rfl) rfl (Gets.load1 rfl agg3 rfl (At.ent (i := 0) (ent := ⟨g1, 25, [Value.int .i64 o, Value.int .i64 n] ++ (H1.map (Value.int .u8) ++ (H2.map (Value.int .u8) ++ ([Value.slice (some ⟨b, off, none⟩) m c]))), 67⟩) (off := 1) rfl rfl (by exact app_left (i := 1) (B := H1.map (Value.int .u8) ++ (H2.map (Value.int .u8) ++ ([Value.slice (some ⟨b, off, none⟩) m c]))) (rfl)))) ?_
      by_cases u1 : (x.t + (lenV x.k x.l x.m)) < n
      · refine TL.gets (Wants.none rfl) rfl (Gets.isTrue (Gets.lss rfl rfl rfl) u1) ?_
        refine TL.gets (Wants.none rfl) rfl (Gets.move rfl rfl) ?_
        refine TL.gets (Wants.yes rfl rfl rfl) rfl (Gets.loadN rfl agg25 size25 rfl (vs := [Value.int .i64 o, Value.int .i64 n] ++ (H1.map (Value.int .u8) ++ (H2.map (Value.int .u8) ++ ([Value.slice (some ⟨b, off, none⟩) m c])))) (by simp [hH1, hH2]) (Row.all (i := 0) (ent := ⟨g1, 25, [Value.int .i64 o, Value.int .i64 n] ++ (H1.map (Value.int .u8) ++ (H2.map (Value.int .u8) ++ ([Value.slice (some ⟨b, off, none⟩) m c]))), 67⟩) rfl rfl rfl)) ?_
        refine TL.gets (Wants.yes rfl rfl rfl) rfl (Gets.move rfl rfl) ?_
        refine TL.call0 (Wants.yes rfl rfl rfl) rfl enters44 rfl rfl (v := .int .i64 (findI Cs (x.t + (lenV x.k x.l x.m)))) (fun w hs => rfind_c o n H1 H2 hH1 hH2 (some ⟨b, off, none⟩) m c Cs (x.t + (lenV x.k x.l x.m)) hV hmm hN w (hC.at_ hs (fun b hb => (ne_cons (by show g1 ≠ b; omega) ne_nil)))) ?_
        by_cases u2 : (findI Cs (x.t + (lenV x.k x.l x.m))) < 0
        · refine TL.gets (Wants.yes rfl rfl rfl) rfl (Gets.isTrue (Gets.lss rfl rfl rfl) u2) ?_
          refine TL.gets (Wants.none rfl) rfl (Gets.pickT rfl rfl rfl) ?_
          refine TL.gets (Wants.none rfl) rfl (Gets.move rfl rfl) ?_
          refine TL.gets (Wants.yes rfl rfl rfl) rfl (Gets.move rfl rfl) ?_
          by_cases u3 : q < 0
          · refine TL.gets (Wants.yes rfl rfl rfl) rfl (Gets.isTrue (Gets.lss rfl rfl rfl) u3) ?_
            refine TL.gets (Wants.yes rfl rfl rfl) rfl (Gets.move rfl rfl) ?_
            refine TL.pass rfl rfl rfl rfl rfl ?_
            refine TL.pass rfl rfl rfl rfl rfl ?_
            refine TL.pass rfl rfl rfl rfl rfl ?_
            refine TL.gets (Wants.yes rfl rfl rfl) rfl (Gets.pickT rfl rfl rfl) ?_
            refine TL.gets (Wants.none rfl) rfl (Gets.pickT rfl rfl rfl) ?_
            refine TL.nil ?_
            refine TE.then ?_
            refine TC.sub (Sub.cons (i := 1) rfl (Sub.cons (i := 3) rfl (Sub.cons (i := 4) rfl (Sub.cons (i := 5) rfl (Sub.cons (i := 46) rfl (Sub.nil)))))) ?_
            refine TC.yes rfl ?_
            refine TC.regionL ?_
            refine TL.gets (Wants.none rfl) rfl (Gets.move rfl rfl) ?_
            refine TL.gets (Wants.none rfl) rfl (Gets.assign rfl rfl) ?_
            refine TL.nil ?_
            refine TE.blockN ?_
            refine TE.then ?_
            refine TC.regionL ?_
            refine TL.gets (Wants.none rfl) rfl (Gets.move rfl rfl) ?_
            refine TL.gets (Wants.none rfl) rfl (Gets.add rfl rfl rfl (r := ((i1 : Int) + 1)) (w64 (by omega) (by omega))) ?_
            refine TL.gets (Wants.none rfl) rfl (Gets.assign rfl rfl) ?_
            refine TL.nil ?_
            exact TE.back (((i1 + 2), (x.t + (lenV x.k x.l x.m))) : Nat × Int) (by dsimp only; omega) ⟨by show (i1 + 1) + 1 ≤ m + 1; omega, gapQ_step (d := (x.t + lenV x.k x.l x.m)) hQ (by omega) (candI_succ hx) (by have hfi := findI_free (Cs := Cs) (off := (x.t + lenV x.k x.l x.m)); first | exact .inl ⟨by omega, hfi.1 (by omega), by omega, rfl⟩ | exact .inr ⟨fun h => by have h2 := hfi.2 h.2.1; have h3 := h.1; have h4 := h.2.2; omega, rfl⟩)⟩ (Sub.cons (i := 1) rfl (Sub.int (i := 3) rfl rfl (Sub.int (i := 4) rfl (by dsimp only; omega) (Sub.nil)))) (fun w h => h)
          · refine TL.gets (Wants.yes rfl rfl rfl) rfl (Gets.isFalse (Gets.lss rfl rfl rfl) u3) ?_
            refine TL.gets (Wants.yes rfl rfl rfl) rfl (Gets.move rfl rfl) ?_
            refine TL.gets (Wants.yes rfl rfl rfl) rfl (Gets.move rfl rfl) ?_
            refine TL.gets (Wants.yes rfl rfl rfl) rfl (Gets.move rfl rfl) ?_
            by_cases u4 : (x.t + (lenV x.k x.l x.m)) < q
            · refine TL.gets (Wants.yes rfl rfl rfl) rfl (Gets.isTrue (Gets.lss rfl rfl rfl) u4) ?_
              refine TL.gets (Wants.yes rfl rfl rfl) rfl (Gets.pickF rfl rfl rfl) ?_
              refine TL.gets (Wants.none rfl) rfl (Gets.pickT rfl rfl rfl) ?_
              refine TL.nil ?_
              refine TE.then ?_
              refine TC.sub (Sub.cons (i := 1) rfl (Sub.cons (i := 3) rfl (Sub.cons (i := 4) rfl (Sub.cons (i := 5) rfl (Sub.cons (i := 46) rfl (Sub.nil)))))) ?_
              refine TC.yes rfl ?_
              refine TC.regionL ?_
              refine TL.gets (Wants.none rfl) rfl (Gets.move rfl rfl) ?_
              refine TL.gets (Wants.none rfl) rfl (Gets.assign rfl rfl) ?_
              refine TL.nil ?_
              refine TE.blockN ?_
              refine TE.then ?_
              refine TC.regionL ?_
              refine TL.gets (Wants.none rfl) rfl (Gets.move rfl rfl) ?_
              refine TL.gets (Wants.none rfl) rfl (Gets.add rfl rfl rfl (r := ((i1 : Int) + 1)) (w64 (by omega) (by omega))) ?_
              refine TL.gets (Wants.none rfl) rfl (Gets.assign rfl rfl) ?_
              refine TL.nil ?_
              exact TE.back (((i1 + 2), (x.t + (lenV x.k x.l x.m))) : Nat × Int) (by dsimp only; omega) ⟨by show (i1 + 1) + 1 ≤ m + 1; omega, gapQ_step (d := (x.t + lenV x.k x.l x.m)) hQ (by omega) (candI_succ hx) (by have hfi := findI_free (Cs := Cs) (off := (x.t + lenV x.k x.l x.m)); first | exact .inl ⟨by omega, hfi.1 (by omega), by omega, rfl⟩ | exact .inr ⟨fun h => by have h2 := hfi.2 h.2.1; have h3 := h.1; have h4 := h.2.2; omega, rfl⟩)⟩ (Sub.cons (i := 1) rfl (Sub.int (i := 3) rfl rfl (Sub.int (i := 4) rfl (by dsimp only; omega) (Sub.nil)))) (fun w h => h)
            · refine TL.gets (Wants.yes rfl rfl rfl) rfl (Gets.isFalse (Gets.lss rfl rfl rfl) u4) ?_
              refine TL.gets (Wants.yes rfl rfl rfl) rfl (Gets.pickF rfl rfl rfl) ?_
              refine TL.gets (Wants.none rfl) rfl (Gets.pickT rfl rfl rfl) ?_
              refine TL.nil ?_
              refine TE.then ?_
              refine TC.sub (Sub.cons (i := 1) rfl (Sub.cons (i := 3) rfl (Sub.cons (i := 4) rfl (Sub.cons (i := 5) rfl (Sub.cons (i := 46) rfl (Sub.nil)))))) ?_
              refine TC.no rfl ?_
              refine TC.skip ?_
              refine TE.blockN ?_
              refine TE.then ?_
              refine TC.regionL ?_
              refine TL.gets (Wants.none rfl) rfl (Gets.move rfl rfl) ?_
              refine TL.gets (Wants.none rfl) rfl (Gets.add rfl rfl rfl (r := ((i1 : Int) + 1)) (w64 (by omega) (by omega))) ?_
              refine TL.gets (Wants.none rfl) rfl (Gets.assign rfl rfl) ?_
              refine TL.nil ?_
              exact TE.back (((i1 + 2), q) : Nat × Int) (by dsimp only; omega) ⟨by show (i1 + 1) + 1 ≤ m + 1; omega, gapQ_step (d := (x.t + lenV x.k x.l x.m)) hQ (by omega) (candI_succ hx) (by have hfi := findI_free (Cs := Cs) (off := (x.t + lenV x.k x.l x.m)); first | exact .inl ⟨by omega, hfi.1 (by omega), by omega, rfl⟩ | exact .inr ⟨fun h => by have h2 := hfi.2 h.2.1; have h3 := h.1; have h4 := h.2.2; omega, rfl⟩)⟩ (Sub.cons (i := 1) rfl (Sub.int (i := 3) rfl rfl (Sub.int (i := 4) rfl (by dsimp only; omega) (Sub.nil)))) (fun w h => h)
        · refine TL.gets (Wants.yes rfl rfl rfl) rfl (Gets.isFalse (Gets.lss rfl rfl rfl) u2) ?_
          refine TL.gets (Wants.none rfl) rfl (Gets.pickT rfl rfl rfl) ?_
          refine TL.gets (Wants.none rfl) rfl (Gets.move rfl rfl) ?_
          refine TL.pass rfl rfl rfl rfl rfl ?_
          refine TL.pass rfl rfl rfl rfl rfl ?_
          refine TL.pass rfl rfl rfl rfl rfl ?_
          refine TL.passU rfl rfl rfl rfl ?_
          refine TL.passU rfl rfl rfl rfl ?_
          refine TL.passU rfl rfl rfl rfl ?_
          refine TL.pass rfl rfl rfl rfl rfl ?_
          refine TL.gets (Wants.none rfl) rfl (Gets.pickF rfl rfl rfl) ?_
          refine TL.nil ?_
          refine TE.then ?_
          refine TC.sub (Sub.cons (i := 1) rfl (Sub.cons (i := 3) rfl (Sub.cons (i := 4) rfl (Sub.cons (i := 5) rfl (Sub.cons (i := 46) rfl (Sub.nil)))))) ?_
          refine TC.no rfl ?_
          refine TC.skip ?_
          refine TE.blockN ?_
          refine TE.then ?_
          refine TC.regionL ?_
          refine TL.gets (Wants.none rfl) rfl (Gets.move rfl rfl) ?_
          refine TL.gets (Wants.none rfl) rfl (Gets.add rfl rfl rfl (r := ((i1 : Int) + 1)) (w64 (by omega) (by omega))) ?_
          refine TL.gets (Wants.none rfl) rfl (Gets.assign rfl rfl) ?_
          refine TL.nil ?_
          exact TE.back (((i1 + 2), q) : Nat × Int) (by dsimp only; omega) ⟨by show (i1 + 1) + 1 ≤ m + 1; omega, gapQ_step (d := (x.t + lenV x.k x.l x.m)) hQ (by omega) (candI_succ hx) (by have hfi := findI_free (Cs := Cs) (off := (x.t + lenV x.k x.l x.m)); first | exact .inl ⟨by omega, hfi.1 (by omega), by omega, rfl⟩ | exact .inr ⟨fun h => by have h2 := hfi.2 h.2.1; have h3 := h.1; have h4 := h.2.2; omega, rfl⟩)⟩ (Sub.cons (i := 1) rfl (Sub.int (i := 3) rfl rfl (Sub.int (i := 4) rfl (by dsimp only; omega) (Sub.nil)))) (fun w h => h)
      · refine TL.gets (Wants.none rfl) rfl (Gets.isFalse (Gets.lss rfl rfl rfl) u1) ?_
        refine TL.gets (Wants.none rfl) rfl (Gets.move rfl rfl) ?_
        refine TL.pass rfl rfl rfl rfl rfl ?_
        refine TL.pass rfl rfl rfl rfl rfl ?_
        refine TL.pass rfl rfl rfl rfl rfl ?_
        refine TL.pass rfl rfl rfl rfl rfl ?_
        refine TL.gets (Wants.none rfl) rfl (Gets.pickF rfl rfl rfl) ?_
        refine TL.gets (Wants.none rfl) rfl (Gets.move rfl rfl) ?_
        refine TL.pass rfl rfl rfl rfl rfl ?_
        refine TL.pass rfl rfl rfl rfl rfl ?_
        refine TL.pass rfl rfl rfl rfl rfl ?_
        refine TL.passU rfl rfl rfl rfl ?_
        refine TL.passU rfl rfl rfl rfl ?_
        refine TL.passU rfl rfl rfl rfl ?_
        refine TL.pass rfl rfl rfl rfl rfl ?_
        refine TL.gets (Wants.none rfl) rfl (Gets.pickF rfl rfl rfl) ?_
        refine TL.nil ?_
        refine TE.then ?_
        refine TC.sub (Sub.cons (i := 1) rfl (Sub.cons (i := 3) rfl (Sub.cons (i := 4) rfl (Sub.cons (i := 5) rfl (Sub.cons (i := 46) rfl (Sub.nil)))))) ?_
        refine TC.no rfl ?_
        refine TC.skip ?_
        refine TE.blockN ?_
        refine TE.then ?_
        refine TC.regionL ?_
        refine TL.gets (Wants.none rfl) rfl (Gets.move rfl rfl) ?_
        refine TL.gets (Wants.none rfl) rfl (Gets.add rfl rfl rfl (r := ((i1 : Int) + 1)) (w64 (by omega) (by omega))) ?_
        refine TL.gets (Wants.none rfl) rfl (Gets.assign rfl rfl) ?_
        refine TL.nil ?_
        exact TE.back (((i1 + 2), q) : Nat × Int) (by dsimp only; omega) ⟨by show (i1 + 1) + 1 ≤ m + 1; omega, gapQ_step (d := (x.t + lenV x.k x.l x.m)) hQ (by omega) (candI_succ hx) (by have hfi := findI_free (Cs := Cs) (off := (x.t + lenV x.k x.l x.m)); first | exact .inl ⟨by omega, hfi.1 (by omega), by omega, rfl⟩ | exact .inr ⟨fun h => by have h2 := hfi.2 h.2.1; have h3 := h.1; have h4 := h.2.2; omega, rfl⟩)⟩ (Sub.cons (i := 1) rfl (Sub.int (i := 3) rfl rfl (Sub.int (i := 4) rfl (by dsimp only; omega) (Sub.nil)))) (fun w h => h)
    · obtain rfl : i = 0 := by omega
      refine TC.skip ?_
      refine TE.then ?_
      refine TC.seq ?_
      refine TC.regionL ?_
      refine TL.gets (Wants.none rfl) rfl (Gets.move rfl rfl) ?_
      refine TL.gets (Wants.none rfl) rfl (Gets.fieldAddr rfl Try.underlying25 rfl size3 rfl (off' := 1) (by first | rfl | omega)) ?_
      refine TL.gets (Wants.none rfl) rfl (Gets.load1 rfl agg3 rfl (At.ent (i := 0) (ent := ⟨g1, 25, [Value.int .i64 o, Value.int .i64 n] ++ (H1.map (Value.int .u8) ++ (H2.map (Value.int .u8) ++ ([Value.slice A m c]))), 67⟩) (off := 1) rfl rfl (by exact app_left (i := 1) (B := H1.map (Value.int .u8) ++ (H2.map (Value.int .u8) ++ ([Value.slice A m c]))) (rfl)))) ?_
      by_cases u1 : (0 : Int) < n
      · refine TL.gets (Wants.none rfl) rfl (Gets.isTrue (Gets.lss rfl rfl rfl) u1) ?_
        refine TL.gets (Wants.none rfl) rfl (Gets.move rfl rfl) ?_
        refine TL.gets (Wants.yes rfl rfl rfl) rfl (Gets.loadN rfl agg25 size25 rfl (vs := [Value.int .i64 o, Value.int .i64 n] ++ (H1.map (Value.int .u8) ++ (H2.map (Value.int .u8) ++ ([Value.slice A m c])))) (by simp [hH1, hH2]) (Row.all (i := 0) (ent := ⟨g1, 25, [Value.int .i64 o, Value.int .i64 n] ++ (H1.map (Value.int .u8) ++ (H2.map (Value.int .u8) ++ ([Value.slice A m c]))), 67⟩) rfl rfl rfl)) ?_
        refine TL.gets (Wants.yes rfl rfl rfl) rfl (Gets.move rfl rfl) ?_
        refine TL.call0 (Wants.yes rfl rfl rfl) rfl enters44 rfl rfl (v := .int .i64 (findI Cs 0)) (fun w hs => rfind_c o n H1 H2 hH1 hH2 A m c Cs 0 hV hmm hN w (hC.at_ hs (fun b hb => (ne_cons (by show g1 ≠ b; omega) ne_nil)))) ?_
        by_cases u2 : (findI Cs 0) < 0
        · refine TL.gets (Wants.yes rfl rfl rfl) rfl (Gets.isTrue (Gets.lss rfl rfl rfl) u2) ?_
          refine TL.gets (Wants.none rfl) rfl (Gets.pickT rfl rfl rfl) ?_
          refine TL.gets (Wants.none rfl) rfl (Gets.move rfl rfl) ?_
          refine TL.gets (Wants.yes rfl rfl rfl) rfl (Gets.move rfl rfl) ?_
          by_cases u3 : q < 0
          · refine TL.gets (Wants.yes rfl rfl rfl) rfl (Gets.isTrue (Gets.lss rfl rfl rfl) u3) ?_
            refine TL.gets (Wants.yes rfl rfl rfl) rfl (Gets.move rfl rfl) ?_
            refine TL.pass rfl rfl rfl rfl rfl ?_
            refine TL.pass rfl rfl rfl rfl rfl ?_
            refine TL.pass rfl rfl rfl rfl rfl ?_
            refine TL.gets (Wants.yes rfl rfl rfl) rfl (Gets.pickT rfl rfl rfl) ?_
            refine TL.gets (Wants.none rfl) rfl (Gets.pickT rfl rfl rfl) ?_
            refine TL.nil ?_
            refine TE.then ?_
            refine TC.sub (Sub.cons (i := 1) rfl (Sub.cons (i := 3) rfl (Sub.cons (i := 4) rfl (Sub.cons (i := 5) rfl (Sub.cons (i := 46) rfl (Sub.nil)))))) ?_
            refine TC.yes rfl ?_
            refine TC.regionL ?_
            refine TL.gets (Wants.none rfl) rfl (Gets.move rfl rfl) ?_
            refine TL.gets (Wants.none rfl) rfl (Gets.assign rfl rfl) ?_
            refine TL.nil ?_
            refine TE.blockN ?_
            refine TE.then ?_
            refine TC.regionL ?_
            refine TL.gets (Wants.none rfl) rfl (Gets.move rfl rfl) ?_
            refine TL.gets (Wants.none rfl) rfl (Gets.add rfl rfl rfl (r := 0) (w64 (by omega) (by omega))) ?_
            refine TL.gets (Wants.none rfl) rfl (Gets.assign rfl rfl) ?_
            refine TL.nil ?_
            exact TE.back ((1, 0) : Nat × Int) (by dsimp only; omega) ⟨by show 0 + 1 ≤ m + 1; omega, gapQ_step (d := 0) hQ (by omega) (candI_zero) (by have hfi := findI_free (Cs := Cs) (off := 0); first | exact .inl ⟨by omega, hfi.1 (by omega), by omega, rfl⟩ | exact .inr ⟨fun h => by have h2 := hfi.2 h.2.1; have h3 := h.1; have h4 := h.2.2; omega, rfl⟩)⟩ (Sub.cons (i := 1) rfl (Sub.int (i := 3) rfl rfl (Sub.int (i := 4) rfl (by dsimp only; omega) (Sub.nil)))) (fun w h => h)
          · refine TL.gets (Wants.yes rfl rfl rfl) rfl (Gets.isFalse (Gets.lss rfl rfl rfl) u3) ?_
            refine TL.gets (Wants.yes rfl rfl rfl) rfl (Gets.move rfl rfl) ?_
            refine TL.gets (Wants.yes rfl rfl rfl) rfl (Gets.move rfl rfl) ?_
            refine TL.gets (Wants.yes rfl rfl rfl) rfl (Gets.move rfl rfl) ?_
            by_cases u4 : (0 : Int) < q
            · refine TL.gets (Wants.yes rfl rfl rfl) rfl (Gets.isTrue (Gets.lss rfl rfl rfl) u4) ?_
              refine TL.gets (Wants.yes rfl rfl rfl) rfl (Gets.pickF rfl rfl rfl) ?_
              refine TL.gets (Wants.none rfl) rfl (Gets.pickT rfl rfl rfl) ?_
              refine TL.nil ?_
              refine TE.then ?_
              refine TC.sub (Sub.cons (i := 1) rfl (Sub.cons (i := 3) rfl (Sub.cons (i := 4) rfl (Sub.cons (i := 5) rfl (Sub.cons (i := 46) rfl (Sub.nil)))))) ?_
              refine TC.yes rfl ?_
              refine TC.regionL ?_
              refine TL.gets (Wants.none rfl) rfl (Gets.move rfl rfl) ?_
              refine TL.gets (Wants.none rfl) rfl (Gets.assign rfl rfl) ?_
              refine TL.nil ?_
              refine TE.blockN ?_
              refine TE.then ?_
              refine TC.regionL ?_
              refine TL.gets (Wants.none rfl) rfl (Gets.move rfl rfl) ?_
              refine TL.gets (Wants.none rfl) rfl (Gets.add rfl rfl rfl (r := 0) (w64 (by omega) (by omega))) ?_
              refine TL.gets (Wants.none rfl) rfl (Gets.assign rfl rfl) ?_
              refine TL.nil ?_
              exact TE.back ((1, 0) : Nat × Int) (by dsimp only; omega) ⟨by show 0 + 1 ≤ m + 1; omega, gapQ_step (d := 0) hQ (by omega) (candI_zero) (by have hfi := findI_free (Cs := Cs) (off := 0); first | exact .inl ⟨by omega, hfi.1 (by omega), by omega, rfl⟩ | exact .inr ⟨fun h => by have h2 := hfi.2 h.2.1; have h3 := h.1; have h4 := h.2.2; omega, rfl⟩)⟩ (Sub.cons (i := 1) rfl (Sub.int (i := 3) rfl rfl (Sub.int (i := 4) rfl (by dsimp only; omega) (Sub.nil)))) (fun w h => h)
            · refine TL.gets (Wants.yes rfl rfl rfl) rfl (Gets.isFalse (Gets.lss rfl rfl rfl) u4) ?_
              refine TL.gets (Wants.yes rfl rfl rfl) rfl (Gets.pickF rfl rfl rfl) ?_
              refine TL.gets (Wants.none rfl) rfl (Gets.pickT rfl rfl rfl) ?_
              refine TL.nil ?_
              refine TE.then ?_
              refine TC.sub (Sub.cons (i := 1) rfl (Sub.cons (i := 3) rfl (Sub.cons (i := 4) rfl (Sub.cons (i := 5) rfl (Sub.cons (i := 46) rfl (Sub.nil)))))) ?_
              refine TC.no rfl ?_
              refine TC.skip ?_
              refine TE.blockN ?_
              refine TE.then ?_
              refine TC.regionL ?_
              refine TL.gets (Wants.none rfl) rfl (Gets.move rfl rfl) ?_
              refine TL.gets (Wants.none rfl) rfl (Gets.add rfl rfl rfl (r := 0) (w64 (by omega) (by omega))) ?_
              refine TL.gets (Wants.none rfl) rfl (Gets.assign rfl rfl) ?_
              refine TL.nil ?_
              exact TE.back ((1, q) : Nat × Int) (by dsimp only; omega) ⟨by show 0 + 1 ≤ m + 1; omega, gapQ_step (d := 0) hQ (by omega) (candI_zero) (by have hfi := findI_free (Cs := Cs) (off := 0); first | exact .inl ⟨by omega, hfi.1 (by omega), by omega, rfl⟩ | exact .inr ⟨fun h => by have h2 := hfi.2 h.2.1; have h3 := h.1; have h4 := h.2.2; omega, rfl⟩)⟩ (Sub.cons (i := 1) rfl (Sub.int (i := 3) rfl rfl (Sub.int (i := 4) rfl (by dsimp only; omega) (Sub.nil)))) (fun w h => h)
        · refine TL.gets (Wants.yes rfl rfl rfl) rfl (Gets.isFalse (Gets.lss rfl rfl rfl) u2) ?_
          refine TL.gets (Wants.none rfl) rfl (Gets.pickT rfl rfl rfl) ?_
          refine TL.gets (Wants.none rfl) rfl (Gets.move rfl rfl) ?_
          refine TL.pass rfl rfl rfl rfl rfl ?_
          refine TL.pass rfl rfl rfl rfl rfl ?_
          refine TL.pass rfl rfl rfl rfl rfl ?_
          refine TL.passU rfl rfl rfl rfl ?_
          refine TL.passU rfl rfl rfl rfl ?_
          refine TL.passU rfl rfl rfl rfl ?_
          refine TL.pass rfl rfl rfl rfl rfl ?_
          refine TL.gets (Wants.none rfl) rfl (Gets.pickF rfl rfl rfl) ?_
          refine TL.nil ?_
          refine TE.then ?_
          refine TC.sub (Sub.cons (i := 1) rfl (Sub.cons (i := 3) rfl (Sub.cons (i := 4) rfl (Sub.cons (i := 5) rfl (Sub.cons (i := 46) rfl (Sub.nil)))))) ?_
          refine TC.no rfl ?_
          refine TC.skip ?_
          refine TE.blockN ?_
          refine TE.then ?_
          refine TC.regionL ?_
          refine TL.gets (Wants.none rfl) rfl (Gets.move rfl rfl) ?_
          refine TL.gets (Wants.none rfl) rfl (Gets.add rfl rfl rfl (r := 0) (w64 (by omega) (by omega))) ?_
          refine TL.gets (Wants.none rfl) rfl (Gets.assign rfl rfl) ?_
          refine TL.nil ?_
          exact TE.back ((1, q) : Nat × Int) (by dsimp only; omega) ⟨by show 0 + 1 ≤ m + 1; omega, gapQ_step (d := 0) hQ (by omega) (candI_zero) (by have hfi := findI_free (Cs := Cs) (off := 0); first | exact .inl ⟨by omega, hfi.1 (by omega), by omega, rfl⟩ | exact .inr ⟨fun h => by have h2 := hfi.2 h.2.1; have h3 := h.1; have h4 := h.2.2; omega, rfl⟩)⟩ (Sub.cons (i := 1) rfl (Sub.int (i := 3) rfl rfl (Sub.int (i := 4) rfl (by dsimp only; omega) (Sub.nil)))) (fun w h => h)
      · refine TL.gets (Wants.none rfl) rfl (Gets.isFalse (Gets.lss rfl rfl rfl) u1) ?_
        refine TL.gets (Wants.none rfl) rfl (Gets.move rfl rfl) ?_
        refine TL.pass rfl rfl rfl rfl rfl ?_
        refine TL.pass rfl rfl rfl rfl rfl ?_
        refine TL.pass rfl rfl rfl rfl rfl ?_
        refine TL.pass rfl rfl rfl rfl rfl ?_
        refine TL.gets (Wants.none rfl) rfl (Gets.pickF rfl rfl rfl) ?_
        refine TL.gets (Wants.none rfl) rfl (Gets.move rfl rfl) ?_
        refine TL.pass rfl rfl rfl rfl rfl ?_
        refine TL.pass rfl rfl rfl rfl rfl ?_
        refine TL.pass rfl rfl rfl rfl rfl ?_
        refine TL.passU rfl rfl rfl rfl ?_
        refine TL.passU rfl rfl rfl rfl ?_
        refine TL.passU rfl rfl rfl rfl ?_
        refine TL.pass rfl rfl rfl rfl rfl ?_
        refine TL.gets (Wants.none rfl) rfl (Gets.pickF rfl rfl rfl) ?_
        refine TL.nil ?_
        refine TE.then ?_
        refine TC.sub (Sub.cons (i := 1) rfl (Sub.cons (i := 3) rfl (Sub.cons (i := 4) rfl (Sub.cons (i := 5) rfl (Sub.cons (i := 46) rfl (Sub.nil)))))) ?_
        refine TC.no rfl ?_
        refine TC.skip ?_
        refine TE.blockN ?_
        refine TE.then ?_
        refine TC.regionL ?_
        refine TL.gets (Wants.none rfl) rfl (Gets.move rfl rfl) ?_
        refine TL.gets (Wants.none rfl) rfl (Gets.add rfl rfl rfl (r := 0) (w64 (by omega) (by omega))) ?_
        refine TL.gets (Wants.none rfl) rfl (Gets.assign rfl rfl) ?_
        refine TL.nil ?_
        exact TE.back ((1, q) : Nat × Int) (by dsimp only; omega) ⟨by show 0 + 1 ≤ m + 1; omega, gapQ_step (d := 0) hQ (by omega) (candI_zero) (by have hfi := findI_free (Cs := Cs) (off := 0); first | exact .inl ⟨by omega, hfi.1 (by omega), by omega, rfl⟩ | exact .inr ⟨fun h => by have h2 := hfi.2 h.2.1; have h3 := h.1; have h4 := h.2.2; omega, rfl⟩)⟩ (Sub.cons (i := 1) rfl (Sub.int (i := 3) rfl rfl (Sub.int (i := 4) rfl (by dsimp only; omega) (Sub.nil)))) (fun w h => h)
  · obtain rfl : i = m + 1 := by omega
    refine TC.exit ?_
    refine TE.thenX ?_
    refine TE.thenX ?_
    refine TE.blockX ?_
    refine TE.then ?_
    refine TC.seq ?_
    refine TC.regionL ?_
    refine TL.gets (Wants.none rfl) rfl (Gets.move rfl rfl) ?_
    refine TL.gets (Wants.none rfl) rfl (Gets.assign rfl rfl) ?_
    refine TL.nil ?_
    refine TE.then ?_
    refine TC.ret ?_
    exact TE.ret1 rfl rfl (fun w hs => ⟨ret_i ((gap_end hC.1 hQ).symm), (hs.drop (by assumption))⟩)


theorem roverlap_g (o l p n : Int) (ho : -9223372036854775808 ≤ o + l ∧ o + l ≤ 9223372036854775807) (hp : -9223372036854775808 ≤ p + n ∧ p + n ≤ 9223372036854775807) (bo : 0 ≤ o) (bp : 0 ≤ p) (w : World) : Calls Try.prog 27 #[.agg ([Value.int .i64 o, Value.int .i64 l]).toArray, .agg ([Value.int .i64 p, Value.int .i64 n]).toArray] w fun e w' => e = .returned (.agg ([Value.int .i64 (ovO o l p n), Value.int .i64 (ovL o l p n)]).toArray) ∧ St w [] w' := by
  unfold ovO ovL
  by_cases hc : min (o + l) (p + n) ≤ max o p
  · rw [if_pos hc, if_pos hc]; exact roverlap_no o l p n ho hp hc w
  · rw [if_neg hc, if_neg hc]; exact roverlap_yes o l p n ho hp hc bo bp w

set_option maxRecDepth 100000 in
set_option maxHeartbeats 1000000 in
theorem rdcheck_c (o n : Int) (H1 H2 : List Int) (hH1 : H1.length = 32) (hH2 : H2.length = 32) (A : Option Addr) (m c : Nat) (Cs : List CV) (hmm : m ≤ 1000000000) (hN : NumsC Cs) (w : World) (hC : SrcC w A m Cs)  : Calls Try.prog 10 #[.agg ([Value.int .i64 o, Value.int .i64 n] ++ (H1.map (Value.int .u8) ++ (H2.map (Value.int .u8) ++ ([Value.slice A m c])))).toArray] w fun e w' => e = .returned (.tuple #[.int .i64 (faultI o n Cs).1, .int .i64 (faultI o n Cs).2]) ∧ St w [] w' := by
  refine calls_from (args := [.agg ([Value.int .i64 o, Value.int .i64 n] ++ (H1.map (Value.int .u8) ++ (H2.map (Value.int .u8) ++ ([Value.slice A m c])))).toArray]) Try.func10 rfl Try.ntmps10 (by simp) ?_
  refine TC.sub (Sub.cons (i := 0) rfl (Sub.nil)) ?_
  refine TC.seq ?_
  refine TC.regionL ?_
  refine TL.box (Wants.none rfl) rfl rfl rfl (cs := [Value.int .i64 o, Value.int .i64 n] ++ (H1.map (Value.int .u8) ++ (H2.map (Value.int .u8) ++ ([Value.slice A m c])))) (by simp [Value.cells]) (tot := 67) (by simp [hH1, hH2]) (fun g1 hg1 => ?_)
  refine TL.gets (Wants.none rfl) rfl (Gets.assign rfl rfl) ?_
  refine TL.gets (Wants.none rfl) rfl (Gets.assign rfl rfl) ?_
  refine TL.nil ?_
  refine TE.then ?_
  refine TC.seq ?_
  refine TC.seq ?_
  refine TC.mix (by kernel_rfl) [0, 1, 0, 0, 0, 1, 0, 0, 0, 0, 1, 1, 0, 0, 0, 0, 1, 1, 0, 0] rfl (by kernel_rfl) ?_
  refine TM.free (Wants.none rfl) rfl (fun _ => Gets.fieldAddr rfl Try.underlying25 rfl size3 rfl (off' := 0) (by first | rfl | omega)) ?_
  refine TM.gets (Wants.none rfl) rfl (Gets.load1 rfl agg3 rfl (At.ent (i := 0) (ent := ⟨g1, 25, [Value.int .i64 o, Value.int .i64 n] ++ (H1.map (Value.int .u8) ++ (H2.map (Value.int .u8) ++ ([Value.slice A m c]))), 67⟩) (off := 0) rfl rfl (by exact app_left (i := 0) (B := H1.map (Value.int .u8) ++ (H2.map (Value.int .u8) ++ ([Value.slice A m c]))) (rfl)))) ?_
  by_cases u1 : o < 0
  · refine TM.free (Wants.none rfl) rfl (fun _ => Gets.isTrue (Gets.lss rfl rfl rfl) u1) ?_
    refine TM.free (Wants.none rfl) rfl (fun _ => Gets.move rfl rfl) ?_
    refine TM.pass rfl rfl rfl rfl rfl ?_
    refine TM.pass1 rfl rfl rfl rfl rfl ?_
    refine TM.pass rfl rfl rfl rfl rfl ?_
    refine TM.free (Wants.none rfl) rfl (fun _ => Gets.pickT rfl rfl rfl) ?_
    refine TM.free (Wants.none rfl) rfl (fun _ => Gets.move rfl rfl) ?_
    refine TM.pass rfl rfl rfl rfl rfl ?_
    refine TM.pass1 rfl rfl rfl rfl rfl ?_
    refine TM.pass1 rfl rfl rfl rfl rfl ?_
    refine TM.pass rfl rfl rfl rfl rfl ?_
    refine TM.free (Wants.none rfl) rfl (fun _ => Gets.pickT rfl rfl rfl) ?_
    refine TM.free (Wants.none rfl) rfl (fun _ => Gets.move rfl rfl) ?_
    refine TM.pass rfl rfl rfl rfl rfl ?_
    refine TM.pass1 rfl rfl rfl rfl rfl ?_
    refine TM.pass1 rfl rfl rfl rfl rfl ?_
    refine TM.pass rfl rfl rfl rfl rfl ?_
    refine TM.free (Wants.none rfl) rfl (fun _ => Gets.pickT rfl rfl rfl) ?_
    refine TM.nil ?_
    refine TE.then ?_
    refine TC.sub (Sub.cons (i := 1) rfl (Sub.cons (i := 2) rfl (Sub.cons (i := 3) rfl (Sub.cons (i := 28) rfl (Sub.nil))))) ?_
    refine TC.yes rfl ?_
    refine TC.seq ?_
    refine TC.regionL ?_
    refine TL.gets (Wants.none rfl) rfl (Gets.assign rfl rfl) ?_
    refine TL.gets (Wants.none rfl) rfl (Gets.assign rfl rfl) ?_
    refine TL.nil ?_
    refine TE.then ?_
    refine TC.ret ?_
    refine TE.thenR ?_
    exact TE.ret2 rfl rfl rfl (fun w hs => ⟨by have hf := faultI_len (o := o) (n := n) (Cs := Cs) (by unfold okLen; omega); rw [hf], (hs.drop (by assumption))⟩)
  · refine TM.free (Wants.none rfl) rfl (fun _ => Gets.isFalse (Gets.lss rfl rfl rfl) u1) ?_
    refine TM.free (Wants.none rfl) rfl (fun _ => Gets.move rfl rfl) ?_
    refine TM.free (Wants.yes rfl rfl rfl) rfl (fun _ => Gets.fieldAddr rfl Try.underlying25 rfl size3 rfl (off' := 1) (by first | rfl | omega)) ?_
    refine TM.gets (Wants.yes rfl rfl rfl) rfl (Gets.load1 rfl agg3 rfl (At.ent (i := 0) (ent := ⟨g1, 25, [Value.int .i64 o, Value.int .i64 n] ++ (H1.map (Value.int .u8) ++ (H2.map (Value.int .u8) ++ ([Value.slice A m c]))), 67⟩) (off := 1) rfl rfl (by exact app_left (i := 1) (B := H1.map (Value.int .u8) ++ (H2.map (Value.int .u8) ++ ([Value.slice A m c]))) (rfl)))) ?_
    by_cases u2 : n < 0
    · refine TM.free (Wants.yes rfl rfl rfl) rfl (fun _ => Gets.isTrue (Gets.lss rfl rfl rfl) u2) ?_
      refine TM.free (Wants.none rfl) rfl (fun _ => Gets.pickF rfl rfl rfl) ?_
      refine TM.free (Wants.none rfl) rfl (fun _ => Gets.move rfl rfl) ?_
      refine TM.pass rfl rfl rfl rfl rfl ?_
      refine TM.pass1 rfl rfl rfl rfl rfl ?_
      refine TM.pass1 rfl rfl rfl rfl rfl ?_
      refine TM.pass rfl rfl rfl rfl rfl ?_
      refine TM.free (Wants.none rfl) rfl (fun _ => Gets.pickT rfl rfl rfl) ?_
      refine TM.free (Wants.none rfl) rfl (fun _ => Gets.move rfl rfl) ?_
      refine TM.pass rfl rfl rfl rfl rfl ?_
      refine TM.pass1 rfl rfl rfl rfl rfl ?_
      refine TM.pass1 rfl rfl rfl rfl rfl ?_
      refine TM.pass rfl rfl rfl rfl rfl ?_
      refine TM.free (Wants.none rfl) rfl (fun _ => Gets.pickT rfl rfl rfl) ?_
      refine TM.nil ?_
      refine TE.then ?_
      refine TC.sub (Sub.cons (i := 1) rfl (Sub.cons (i := 2) rfl (Sub.cons (i := 3) rfl (Sub.cons (i := 28) rfl (Sub.nil))))) ?_
      refine TC.yes rfl ?_
      refine TC.seq ?_
      refine TC.regionL ?_
      refine TL.gets (Wants.none rfl) rfl (Gets.assign rfl rfl) ?_
      refine TL.gets (Wants.none rfl) rfl (Gets.assign rfl rfl) ?_
      refine TL.nil ?_
      refine TE.then ?_
      refine TC.ret ?_
      refine TE.thenR ?_
      exact TE.ret2 rfl rfl rfl (fun w hs => ⟨by have hf := faultI_len (o := o) (n := n) (Cs := Cs) (by unfold okLen; omega); rw [hf], (hs.drop (by assumption))⟩)
    · refine TM.free (Wants.yes rfl rfl rfl) rfl (fun _ => Gets.isFalse (Gets.lss rfl rfl rfl) u2) ?_
      refine TM.free (Wants.none rfl) rfl (fun _ => Gets.pickF rfl rfl rfl) ?_
      refine TM.free (Wants.none rfl) rfl (fun _ => Gets.move rfl rfl) ?_
      refine TM.free (Wants.yes rfl rfl rfl) rfl (fun _ => Gets.fieldAddr rfl Try.underlying25 rfl size3 rfl (off' := 0) (by first | rfl | omega)) ?_
      refine TM.gets (Wants.yes rfl rfl rfl) rfl (Gets.load1 rfl agg3 rfl (At.ent (i := 0) (ent := ⟨g1, 25, [Value.int .i64 o, Value.int .i64 n] ++ (H1.map (Value.int .u8) ++ (H2.map (Value.int .u8) ++ ([Value.slice A m c]))), 67⟩) (off := 0) rfl rfl (by exact app_left (i := 0) (B := H1.map (Value.int .u8) ++ (H2.map (Value.int .u8) ++ ([Value.slice A m c]))) (rfl)))) ?_
      refine TM.call0 (Wants.yes rfl rfl rfl) rfl enters25 rfl rfl (v := .int .i64 4611686018427387903) (fun w hs => max_c w) ?_
      by_cases u3 : 4611686018427387903 < o
      · refine TM.free (Wants.yes rfl rfl rfl) rfl (fun _ => Gets.isTrue (Gets.gtr rfl rfl rfl) u3) ?_
        refine TM.free (Wants.none rfl) rfl (fun _ => Gets.pickF rfl rfl rfl) ?_
        refine TM.free (Wants.none rfl) rfl (fun _ => Gets.move rfl rfl) ?_
        refine TM.pass rfl rfl rfl rfl rfl ?_
        refine TM.pass1 rfl rfl rfl rfl rfl ?_
        refine TM.pass1 rfl rfl rfl rfl rfl ?_
        refine TM.pass rfl rfl rfl rfl rfl ?_
        refine TM.free (Wants.none rfl) rfl (fun _ => Gets.pickT rfl rfl rfl) ?_
        refine TM.nil ?_
        refine TE.then ?_
        refine TC.sub (Sub.cons (i := 1) rfl (Sub.cons (i := 2) rfl (Sub.cons (i := 3) rfl (Sub.cons (i := 28) rfl (Sub.nil))))) ?_
        refine TC.yes rfl ?_
        refine TC.seq ?_
        refine TC.regionL ?_
        refine TL.gets (Wants.none rfl) rfl (Gets.assign rfl rfl) ?_
        refine TL.gets (Wants.none rfl) rfl (Gets.assign rfl rfl) ?_
        refine TL.nil ?_
        refine TE.then ?_
        refine TC.ret ?_
        refine TE.thenR ?_
        exact TE.ret2 rfl rfl rfl (fun w hs => ⟨by have hf := faultI_len (o := o) (n := n) (Cs := Cs) (by unfold okLen; omega); rw [hf], (hs.drop (by assumption))⟩)
      · refine TM.free (Wants.yes rfl rfl rfl) rfl (fun _ => Gets.isFalse (Gets.gtr rfl rfl rfl) u3) ?_
        refine TM.free (Wants.none rfl) rfl (fun _ => Gets.pickF rfl rfl rfl) ?_
        refine TM.free (Wants.none rfl) rfl (fun _ => Gets.move rfl rfl) ?_
        refine TM.free (Wants.yes rfl rfl rfl) rfl (fun _ => Gets.fieldAddr rfl Try.underlying25 rfl size3 rfl (off' := 1) (by first | rfl | omega)) ?_
        refine TM.gets (Wants.yes rfl rfl rfl) rfl (Gets.load1 rfl agg3 rfl (At.ent (i := 0) (ent := ⟨g1, 25, [Value.int .i64 o, Value.int .i64 n] ++ (H1.map (Value.int .u8) ++ (H2.map (Value.int .u8) ++ ([Value.slice A m c]))), 67⟩) (off := 1) rfl rfl (by exact app_left (i := 1) (B := H1.map (Value.int .u8) ++ (H2.map (Value.int .u8) ++ ([Value.slice A m c]))) (rfl)))) ?_
        refine TM.call0 (Wants.yes rfl rfl rfl) rfl enters25 rfl rfl (v := .int .i64 4611686018427387903) (fun w hs => max_c w) ?_
        by_cases u4 : 4611686018427387903 < n
        · refine TM.free (Wants.yes rfl rfl rfl) rfl (fun _ => Gets.isTrue (Gets.gtr rfl rfl rfl) u4) ?_
          refine TM.free (Wants.none rfl) rfl (fun _ => Gets.pickF rfl rfl rfl) ?_
          refine TM.nil ?_
          refine TE.then ?_
          refine TC.sub (Sub.cons (i := 1) rfl (Sub.cons (i := 2) rfl (Sub.cons (i := 3) rfl (Sub.cons (i := 28) rfl (Sub.nil))))) ?_
          refine TC.yes rfl ?_
          refine TC.seq ?_
          refine TC.regionL ?_
          refine TL.gets (Wants.none rfl) rfl (Gets.assign rfl rfl) ?_
          refine TL.gets (Wants.none rfl) rfl (Gets.assign rfl rfl) ?_
          refine TL.nil ?_
          refine TE.then ?_
          refine TC.ret ?_
          refine TE.thenR ?_
          exact TE.ret2 rfl rfl rfl (fun w hs => ⟨by have hf := faultI_len (o := o) (n := n) (Cs := Cs) (by unfold okLen; omega); rw [hf], (hs.drop (by assumption))⟩)
        · refine TM.free (Wants.yes rfl rfl rfl) rfl (fun _ => Gets.isFalse (Gets.gtr rfl rfl rfl) u4) ?_
          refine TM.free (Wants.none rfl) rfl (fun _ => Gets.pickF rfl rfl rfl) ?_
          refine TM.nil ?_
          refine TE.then ?_
          refine TC.sub (Sub.cons (i := 1) rfl (Sub.cons (i := 2) rfl (Sub.cons (i := 3) rfl (Sub.cons (i := 28) rfl (Sub.nil))))) ?_
          refine TC.no rfl ?_
          refine TC.skip ?_
          refine TE.then ?_
          refine TC.seq ?_
          refine TC.seq ?_
          refine TC.regionL ?_
          refine TL.gets (Wants.none rfl) rfl (Gets.assign rfl rfl) ?_
          refine TL.nil ?_
          refine TE.then ?_
          refine TC.block ?_
          refine TC.loop (ι := Nat) (fun i => [(1, .pointer (some ⟨g1, 0, none⟩)), (4, .int .i64 (i : Int))]) (fun i => [⟨g1, 25, [Value.int .i64 o, Value.int .i64 n] ++ (H1.map (Value.int .u8) ++ (H2.map (Value.int .u8) ++ ([Value.slice A m c]))), 67⟩]) (fun i => m - i) (fun i => i ≤ m ∧ ∀ (j : Nat) (y : CV), j < i → Cs[j]? = some y → singleV o n y = 0) 0 ⟨Nat.zero_le _, fun j y h => absurd h (Nat.not_lt_zero j)⟩ (Sub.cons (i := 1) rfl (Sub.int (i := 4) rfl (by first | omega | rfl) (Sub.nil))) (fun w h => h) (fun i hC0 => ?_)
          obtain ⟨hC0, hA1⟩ := hC0
          refine TC.seq ?_
          refine TC.seq ?_
          refine TC.regionL ?_
          refine TL.gets (Wants.none rfl) rfl (Gets.move rfl rfl) ?_
          refine TL.gets (Wants.none rfl) rfl (Gets.fieldAddr rfl Try.underlying25 rfl size23 rfl (off' := 66) (by first | rfl | omega)) ?_
          refine TL.gets (Wants.none rfl) rfl (Gets.load1 rfl agg23 rfl (At.ent (i := 0) (ent := ⟨g1, 25, [Value.int .i64 o, Value.int .i64 n] ++ (H1.map (Value.int .u8) ++ (H2.map (Value.int .u8) ++ ([Value.slice A m c]))), 67⟩) (off := 66) rfl rfl (by exact app_right (a := 2) (i := 64) (rfl) (app_right (a := 32) (i := 32) (ints_len hH1) (app_right (a := 32) (i := 0) (ints_len hH2) (rfl)))))) ?_
          refine TL.gets (Wants.none rfl) rfl (Gets.lenSlice rfl Try.underlying23 rfl) ?_
          refine TL.gets (Wants.none rfl) rfl (Gets.lss rfl rfl rfl) ?_
          refine TL.nil ?_
          refine TE.then ?_
          refine TC.split rfl (fun hq1 => ?_) (fun hq1 => ?_)
          · obtain ⟨b, off, hAe, hb, hrw⟩ := hC.some_ (i := i) (by omega)
            subst hAe
            obtain ⟨x, hx⟩ := hC.get (i := i) (by omega)
            have hnx := hN i x hx
            unfold NumC at hnx
            have hlbx := lenV_bd (k := x.k) (l := x.l) (m := x.m) (by omega) (by omega)
            refine TC.skip ?_
            refine TE.then ?_
            refine TC.seq ?_
            refine TC.block ?_
            refine TC.seq ?_
            refine TC.mix (by kernel_rfl) [1, 0, 1, 0, 0, 1, 1, 0] rfl (by kernel_rfl) ?_
            refine TM.gets (Wants.none rfl) rfl (Gets.loadN rfl agg25 size25 rfl (vs := [Value.int .i64 o, Value.int .i64 n] ++ (H1.map (Value.int .u8) ++ (H2.map (Value.int .u8) ++ ([Value.slice (some ⟨b, off, none⟩) m c])))) (by simp [hH1, hH2]) (Row.all (i := 0) (ent := ⟨g1, 25, [Value.int .i64 o, Value.int .i64 n] ++ (H1.map (Value.int .u8) ++ (H2.map (Value.int .u8) ++ ([Value.slice (some ⟨b, off, none⟩) m c]))), 67⟩) rfl rfl rfl)) ?_
            refine TM.free (Wants.none rfl) rfl (fun _ => Gets.fieldAddr rfl Try.underlying25 rfl size23 rfl (off' := 66) (by first | rfl | omega)) ?_
            refine TM.gets (Wants.none rfl) rfl (Gets.load1 rfl agg23 rfl (At.ent (i := 0) (ent := ⟨g1, 25, [Value.int .i64 o, Value.int .i64 n] ++ (H1.map (Value.int .u8) ++ (H2.map (Value.int .u8) ++ ([Value.slice (some ⟨b, off, none⟩) m c]))), 67⟩) (off := 66) rfl rfl (by exact app_right (a := 2) (i := 64) (rfl) (app_right (a := 32) (i := 32) (ints_len hH1) (app_right (a := 32) (i := 0) (ints_len hH2) (rfl)))))) ?_
            refine TM.free (Wants.none rfl) rfl (fun _ => Gets.move rfl rfl) ?_
            refine TM.free (Wants.none rfl) rfl (fun _ => Gets.idxSlice rfl Try.underlying23 size40 rfl rfl (i := i) (by omega) (by omega) (off' := (off + 5 * i)) (by omega)) ?_
            refine TM.gets (Wants.none rfl) rfl (Gets.loadN rfl agg40 size40 rfl rfl (Row.old (fun jj u h => hrw i x hx jj u h) hb (ne_cons (by show g1 ≠ b; omega) ne_nil))) ?_
            refine TM.call0 (Wants.none rfl) rfl enters26 rfl rfl (v := .int .i64 (singleV o n x)) (fun w hs => single_c o n H1 H2 hH1 hH2 (some ⟨b, off, none⟩) m c Cs x (hN _ x hx) w) ?_
            refine TM.free (Wants.none rfl) rfl (fun _ => Gets.assign rfl rfl) ?_
            refine TM.nil ?_
            refine TE.then ?_
            refine TC.sub (Sub.cons (i := 1) rfl (Sub.cons (i := 4) rfl (Sub.cons (i := 5) rfl (Sub.nil)))) ?_
            refine TC.seq ?_
            refine TC.regionL ?_
            refine TL.gets (Wants.none rfl) rfl (Gets.move rfl rfl) ?_
            refine TL.gets (Wants.none rfl) rfl (Gets.neq rfl rfl rfl) ?_
            refine TL.nil ?_
            refine TE.then ?_
            refine TC.split rfl (fun hq2 => ?_) (fun hq2 => ?_)
            · refine TC.seq ?_
              refine TC.regionL ?_
              refine TL.gets (Wants.none rfl) rfl (Gets.move rfl rfl) ?_
              refine TL.gets (Wants.none rfl) rfl (Gets.move rfl rfl) ?_
              refine TL.gets (Wants.none rfl) rfl (Gets.assign rfl rfl) ?_
              refine TL.gets (Wants.none rfl) rfl (Gets.assign rfl rfl) ?_
              refine TL.nil ?_
              refine TE.then ?_
              refine TC.ret ?_
              refine TE.blockR ?_
              refine TE.thenR ?_
              refine TE.thenR ?_
              refine TE.blockR ?_
              refine TE.thenR ?_
              exact TE.ret2 rfl rfl rfl (fun w hs => ⟨by have hf := faultI_single (show okLen o n by unfold okLen; omega) hx (by omega) hA1; rw [hf], (hs.drop (by assumption))⟩)
            · refine TC.skip ?_
              refine TE.blockN ?_
              refine TE.then ?_
              refine TC.regionL ?_
              refine TL.gets (Wants.none rfl) rfl (Gets.move rfl rfl) ?_
              refine TL.gets (Wants.none rfl) rfl (Gets.add rfl rfl rfl (r := ((i : Int) + 1)) (w64 (by omega) (by omega))) ?_
              refine TL.gets (Wants.none rfl) rfl (Gets.assign rfl rfl) ?_
              refine TL.nil ?_
              exact TE.back (i + 1) (by omega) ⟨by omega, all_succ hA1 hx (by omega)⟩ (Sub.cons (i := 1) rfl (Sub.int (i := 4) rfl (by first | omega | rfl) (Sub.nil))) (fun w h => h)
          · have hS : ∀ (i : Nat) (x : CV), Cs[i]? = some x → singleV o n x = 0 := all_of (m := m) (by have := hC.1; omega) (fun j y hj => hA1 j y (by omega))
            have hV : ∀ (i : Nat) (x : CV), Cs[i]? = some x → vld x.t (lenV x.k x.l x.m) := fun i x hx => (single_vld (hS i x hx)).1
            refine TC.exit ?_
            refine TE.thenX ?_
            refine TE.thenX ?_
            refine TE.blockX ?_
            refine TE.then ?_
            refine TC.seq ?_
            refine TC.seq ?_
            refine TC.regionL ?_
            refine TL.gets (Wants.none rfl) rfl (Gets.assign rfl rfl) ?_
            refine TL.nil ?_
            refine TE.then ?_
            refine TC.block ?_
            refine TC.loop (ι := Nat) (fun i => [(1, .pointer (some ⟨g1, 0, none⟩)), (6, .int .i64 (i : Int))]) (fun i => [⟨g1, 25, [Value.int .i64 o, Value.int .i64 n] ++ (H1.map (Value.int .u8) ++ (H2.map (Value.int .u8) ++ ([Value.slice A m c]))), 67⟩]) (fun i => m - i) (fun i => i ≤ m ∧ ∀ i', i' < i → ¬ bad2 Cs i') 0 ⟨Nat.zero_le _, fun i h => absurd h (Nat.not_lt_zero i)⟩ (Sub.cons (i := 1) rfl (Sub.int (i := 6) rfl (by first | omega | rfl) (Sub.nil))) (fun w h => h) (fun i hC1 => ?_)
            obtain ⟨hC1, hB1⟩ := hC1
            refine TC.seq ?_
            refine TC.seq ?_
            refine TC.regionL ?_
            refine TL.gets (Wants.none rfl) rfl (Gets.move rfl rfl) ?_
            refine TL.gets (Wants.none rfl) rfl (Gets.fieldAddr rfl Try.underlying25 rfl size23 rfl (off' := 66) (by first | rfl | omega)) ?_
            refine TL.gets (Wants.none rfl) rfl (Gets.load1 rfl agg23 rfl (At.ent (i := 0) (ent := ⟨g1, 25, [Value.int .i64 o, Value.int .i64 n] ++ (H1.map (Value.int .u8) ++ (H2.map (Value.int .u8) ++ ([Value.slice A m c]))), 67⟩) (off := 66) rfl rfl (by exact app_right (a := 2) (i := 64) (rfl) (app_right (a := 32) (i := 32) (ints_len hH1) (app_right (a := 32) (i := 0) (ints_len hH2) (rfl)))))) ?_
            refine TL.gets (Wants.none rfl) rfl (Gets.lenSlice rfl Try.underlying23 rfl) ?_
            refine TL.gets (Wants.none rfl) rfl (Gets.lss rfl rfl rfl) ?_
            refine TL.nil ?_
            refine TE.then ?_
            refine TC.split rfl (fun hq3 => ?_) (fun hq3 => ?_)
            · obtain ⟨b, off, hAe, hb, hrw⟩ := hC.some_ (i := i) (by omega)
              subst hAe
              obtain ⟨x, hx⟩ := hC.get (i := i) (by omega)
              have hnx := hN i x hx
              unfold NumC at hnx
              have hlbx := lenV_bd (k := x.k) (l := x.l) (m := x.m) (by omega) (by omega)
              have hvx := single_vld (hS i x hx)
              unfold vld at hvx
              refine TC.skip ?_
              refine TE.then ?_
              refine TC.seq ?_
              refine TC.block ?_
              refine TC.seq ?_
              refine TC.regionL ?_
              refine TL.gets (Wants.none rfl) rfl (Gets.assign rfl rfl) ?_
              refine TL.nil ?_
              refine TE.then ?_
              refine TC.block ?_
              refine TC.loop (ι := Nat) (fun j => [(1, .pointer (some ⟨g1, 0, none⟩)), (6, .int .i64 (i : Int)), (7, .int .i64 (j : Int))]) (fun j => [⟨g1, 25, [Value.int .i64 o, Value.int .i64 n] ++ (H1.map (Value.int .u8) ++ (H2.map (Value.int .u8) ++ ([Value.slice (some ⟨b, off, none⟩) m c]))), 67⟩]) (fun j => i - j) (fun j => j ≤ i ∧ ∀ (j' : Nat) (y : CV), j' < j → Cs[j']? = some y → ¬ meets (tg x).1 (tg x).2 (tg y).1 (tg y).2) 0 ⟨Nat.zero_le _, fun j y h => absurd h (Nat.not_lt_zero j)⟩ (Sub.cons (i := 1) rfl (Sub.int (i := 6) rfl (by first | omega | rfl) (Sub.int (i := 7) rfl (by first | omega | rfl) (Sub.nil)))) (fun w h => h) (fun j hC2 => ?_)
              obtain ⟨hC2, hj2⟩ := hC2
              refine TC.seq ?_
              refine TC.seq ?_
              refine TC.regionL ?_
              refine TL.gets (Wants.none rfl) rfl (Gets.move rfl rfl) ?_
              refine TL.gets (Wants.none rfl) rfl (Gets.move rfl rfl) ?_
              refine TL.gets (Wants.none rfl) rfl (Gets.lss rfl rfl rfl) ?_
              refine TL.nil ?_
              refine TE.then ?_
              refine TC.split rfl (fun hq4 => ?_) (fun hq4 => ?_)
              · obtain ⟨y, hy⟩ := hC.get (i := j) (by omega)
                have hny := hN j y hy
                unfold NumC at hny
                have hvy := (single_vld (hS j y hy))
                unfold vld at hvy
                have hq4n : j < i := by omega
                refine TC.skip ?_
                refine TE.then ?_
                refine TC.seq ?_
                refine TC.block ?_
                refine TC.seq ?_
                refine TC.mix (by kernel_rfl) [0, 1, 0, 0, 1, 1, 0, 1, 0, 0, 1, 1, 1, 0, 0] rfl (by kernel_rfl) ?_
                refine TM.free (Wants.none rfl) rfl (fun _ => Gets.fieldAddr rfl Try.underlying25 rfl size23 rfl (off' := 66) (by first | rfl | omega)) ?_
                refine TM.gets (Wants.none rfl) rfl (Gets.load1 rfl agg23 rfl (At.ent (i := 0) (ent := ⟨g1, 25, [Value.int .i64 o, Value.int .i64 n] ++ (H1.map (Value.int .u8) ++ (H2.map (Value.int .u8) ++ ([Value.slice (some ⟨b, off, none⟩) m c]))), 67⟩) (off := 66) rfl rfl (by exact app_right (a := 2) (i := 64) (rfl) (app_right (a := 32) (i := 32) (ints_len hH1) (app_right (a := 32) (i := 0) (ints_len hH2) (rfl)))))) ?_
                refine TM.free (Wants.none rfl) rfl (fun _ => Gets.move rfl rfl) ?_
                refine TM.free (Wants.none rfl) rfl (fun _ => Gets.idxSlice rfl Try.underlying23 size40 rfl rfl (i := i) (by omega) (by omega) (off' := (off + 5 * i)) (by omega)) ?_
                refine TM.gets (Wants.none rfl) rfl (Gets.loadN rfl agg40 size40 rfl rfl (Row.old (fun jj u h => hrw i x hx jj u h) hb (ne_cons (by show g1 ≠ b; omega) ne_nil))) ?_
                refine TM.call0 (Wants.none rfl) rfl enters28 rfl rfl (v := .agg ([Value.int .i64 x.t, Value.int .i64 (lenV x.k x.l x.m)]).toArray) (fun w hs => rtarget_c x.k x.t x.f x.l x.A x.m x.c w) ?_
                refine TM.free (Wants.none rfl) rfl (fun _ => Gets.fieldAddr rfl Try.underlying25 rfl size23 rfl (off' := 66) (by first | rfl | omega)) ?_
                refine TM.gets (Wants.none rfl) rfl (Gets.load1 rfl agg23 rfl (At.ent (i := 0) (ent := ⟨g1, 25, [Value.int .i64 o, Value.int .i64 n] ++ (H1.map (Value.int .u8) ++ (H2.map (Value.int .u8) ++ ([Value.slice (some ⟨b, off, none⟩) m c]))), 67⟩) (off := 66) rfl rfl (by exact app_right (a := 2) (i := 64) (rfl) (app_right (a := 32) (i := 32) (ints_len hH1) (app_right (a := 32) (i := 0) (ints_len hH2) (rfl)))))) ?_
                refine TM.free (Wants.none rfl) rfl (fun _ => Gets.move rfl rfl) ?_
                refine TM.free (Wants.none rfl) rfl (fun _ => Gets.idxSlice rfl Try.underlying23 size40 rfl rfl (i := j) (by omega) (by omega) (off' := (off + 5 * j)) (by omega)) ?_
                refine TM.gets (Wants.none rfl) rfl (Gets.loadN rfl agg40 size40 rfl rfl (Row.old (fun jj u h => hrw j y hy jj u h) hb (ne_cons (by show g1 ≠ b; omega) ne_nil))) ?_
                refine TM.call0 (Wants.none rfl) rfl enters28 rfl rfl (v := .agg ([Value.int .i64 y.t, Value.int .i64 (lenV y.k y.l y.m)]).toArray) (fun w hs => rtarget_c y.k y.t y.f y.l y.A y.m y.c w) ?_
                refine TM.call0 (Wants.none rfl) rfl enters27 rfl rfl (v := .agg ([Value.int .i64 (ovO x.t (lenV x.k x.l x.m) y.t (lenV y.k y.l y.m)), Value.int .i64 (ovL x.t (lenV x.k x.l x.m) y.t (lenV y.k y.l y.m))]).toArray) (fun w hs => roverlap_g x.t (lenV x.k x.l x.m) y.t (lenV y.k y.l y.m) (by omega) (by omega) (by omega) (by omega) w) ?_
                refine TM.free (Wants.none rfl) rfl (fun _ => Gets.field1 rfl Try.underlying49 rfl rfl agg3 rfl) ?_
                refine TM.free (Wants.none rfl) rfl (fun _ => Gets.gtr rfl rfl rfl) ?_
                refine TM.nil ?_
                refine TE.then ?_
                refine TC.sub (Sub.cons (i := 1) rfl (Sub.cons (i := 6) rfl (Sub.cons (i := 7) rfl (Sub.cons (i := 73) rfl (Sub.nil))))) ?_
                refine TC.split rfl (fun hq5 => ?_) (fun hq5 => ?_)
                · refine TC.seq ?_
                  refine TC.regionL ?_
                  refine TL.gets (Wants.none rfl) rfl (Gets.move rfl rfl) ?_
                  refine TL.gets (Wants.none rfl) rfl (Gets.assign rfl rfl) ?_
                  refine TL.gets (Wants.none rfl) rfl (Gets.assign rfl rfl) ?_
                  refine TL.nil ?_
                  refine TE.then ?_
                  refine TC.ret ?_
                  refine TE.blockR ?_
                  refine TE.thenR ?_
                  refine TE.thenR ?_
                  refine TE.blockR ?_
                  refine TE.blockR ?_
                  refine TE.thenR ?_
                  refine TE.thenR ?_
                  refine TE.blockR ?_
                  refine TE.thenR ?_
                  exact TE.ret2 rfl rfl rfl (fun w hs => ⟨by have hf := faultI_over (show okLen o n by unfold okLen; omega) hS hx hq4n hy ((ovL_meets _ _ _ _).1 hq5) hB1; rw [hf], (hs.drop (by assumption))⟩)
                · refine TC.skip ?_
                  refine TE.blockN ?_
                  refine TE.then ?_
                  refine TC.regionL ?_
                  refine TL.gets (Wants.none rfl) rfl (Gets.move rfl rfl) ?_
                  refine TL.gets (Wants.none rfl) rfl (Gets.add rfl rfl rfl (r := ((j : Int) + 1)) (w64 (by omega) (by omega))) ?_
                  refine TL.gets (Wants.none rfl) rfl (Gets.assign rfl rfl) ?_
                  refine TL.nil ?_
                  exact TE.back (j + 1) (by omega) ⟨by omega, all_succ hj2 hy (fun hm => hq5 ((ovL_meets _ _ _ _).2 hm))⟩ (Sub.cons (i := 1) rfl (Sub.int (i := 6) rfl (by first | omega | rfl) (Sub.int (i := 7) rfl (by first | omega | rfl) (Sub.nil)))) (fun w h => h)
              · refine TC.exit ?_
                refine TE.thenX ?_
                refine TE.thenX ?_
                refine TE.blockX ?_
                refine TE.blockN ?_
                refine TE.then ?_
                refine TC.regionL ?_
                refine TL.gets (Wants.none rfl) rfl (Gets.move rfl rfl) ?_
                refine TL.gets (Wants.none rfl) rfl (Gets.add rfl rfl rfl (r := ((i : Int) + 1)) (w64 (by omega) (by omega))) ?_
                refine TL.gets (Wants.none rfl) rfl (Gets.assign rfl rfl) ?_
                refine TL.nil ?_
                exact TE.back (i + 1) (by omega) ⟨by omega, bad2_succ hB1 hx (fun j' y' hj' => hj2 j' y' (by omega))⟩ (Sub.cons (i := 1) rfl (Sub.int (i := 6) rfl (by first | omega | rfl) (Sub.nil))) (fun w h => h)
            · have hB2 : ∀ i, ¬ bad2 Cs i := bad2_all (m := m) (by have := hC.1; omega) (fun i' hi => hB1 i' (by omega))
              refine TC.exit ?_
              refine TE.thenX ?_
              refine TE.thenX ?_
              refine TE.blockX ?_
              refine TE.then ?_
              refine TC.seq ?_
              refine TC.regionL ?_
              refine TL.gets (Wants.none rfl) rfl (Gets.loadN rfl agg25 size25 rfl (vs := [Value.int .i64 o, Value.int .i64 n] ++ (H1.map (Value.int .u8) ++ (H2.map (Value.int .u8) ++ ([Value.slice A m c])))) (by simp [hH1, hH2]) (Row.all (i := 0) (ent := ⟨g1, 25, [Value.int .i64 o, Value.int .i64 n] ++ (H1.map (Value.int .u8) ++ (H2.map (Value.int .u8) ++ ([Value.slice A m c]))), 67⟩) rfl rfl rfl)) ?_
              refine TL.call0 (Wants.none rfl) rfl enters29 rfl rfl (v := .int .i64 (gapI n Cs)) (fun w hs => rgap_c o n H1 H2 hH1 hH2 A m c Cs hV hmm hN w (hC.at_ hs (fun b hb => (ne_cons (by show g1 ≠ b; omega) ne_nil)))) ?_
              refine TL.gets (Wants.none rfl) rfl (Gets.assign rfl rfl) ?_
              refine TL.nil ?_
              refine TE.then ?_
              refine TC.sub (Sub.cons (i := 8) rfl (Sub.nil)) ?_
              refine TC.seq ?_
              refine TC.seq ?_
              refine TC.regionL ?_
              refine TL.gets (Wants.none rfl) rfl (Gets.move rfl rfl) ?_
              refine TL.gets (Wants.none rfl) rfl (Gets.geq rfl rfl rfl) ?_
              refine TL.nil ?_
              refine TE.then ?_
              refine TC.split rfl (fun hq6 => ?_) (fun hq6 => ?_)
              · refine TC.seq ?_
                refine TC.regionL ?_
                refine TL.gets (Wants.none rfl) rfl (Gets.move rfl rfl) ?_
                refine TL.gets (Wants.none rfl) rfl (Gets.assign rfl rfl) ?_
                refine TL.gets (Wants.none rfl) rfl (Gets.assign rfl rfl) ?_
                refine TL.nil ?_
                refine TE.then ?_
                refine TC.ret ?_
                refine TE.thenR ?_
                exact TE.ret2 rfl rfl rfl (fun w hs => ⟨by have hf := (faultI_gap (show okLen o n by unfold okLen; omega) hS hB2).trans (if_pos hq6); rw [hf], (hs.drop (by assumption))⟩)
              · refine TC.skip ?_
                refine TE.then ?_
                refine TC.seq ?_
                refine TC.regionL ?_
                refine TL.gets (Wants.none rfl) rfl (Gets.assign rfl rfl) ?_
                refine TL.gets (Wants.none rfl) rfl (Gets.assign rfl rfl) ?_
                refine TL.nil ?_
                refine TE.then ?_
                refine TC.ret ?_
                exact TE.ret2 rfl rfl rfl (fun w hs => ⟨by have hf := (faultI_gap (show okLen o n by unfold okLen; omega) hS hB2).trans (if_neg hq6); rw [hf], (hs.drop (by assumption))⟩)

set_option maxRecDepth 100000 in
set_option maxHeartbeats 400000 in
theorem rdvalid_c (o n : Int) (H1 H2 : List Int) (hH1 : H1.length = 32) (hH2 : H2.length = 32) (A : Option Addr) (m c : Nat) (Cs : List CV) (hmm : m ≤ 1000000000) (hN : NumsC Cs) (w : World) (hC : SrcC w A m Cs)  : Calls Try.prog 13 #[.agg ([Value.int .i64 o, Value.int .i64 n] ++ (H1.map (Value.int .u8) ++ (H2.map (Value.int .u8) ++ ([Value.slice A m c])))).toArray] w fun e w' => e = .returned (.bool (decide ((faultI o n Cs).1 = 0))) ∧ St w [] w' := by
  refine calls_from (args := [.agg ([Value.int .i64 o, Value.int .i64 n] ++ (H1.map (Value.int .u8) ++ (H2.map (Value.int .u8) ++ ([Value.slice A m c])))).toArray]) Try.func13 rfl Try.ntmps13 (by simp) ?_
  refine TC.sub (Sub.cons (i := 0) rfl (Sub.nil)) ?_
  refine TC.seq ?_
  refine TC.regionL ?_
  refine TL.box (Wants.none rfl) rfl rfl rfl (cs := [Value.int .i64 o, Value.int .i64 n] ++ (H1.map (Value.int .u8) ++ (H2.map (Value.int .u8) ++ ([Value.slice A m c])))) (by simp [Value.cells]) (tot := 67) (by simp [hH1, hH2]) (fun g1 hg1 => ?_)
  refine TL.gets (Wants.none rfl) rfl (Gets.assign rfl rfl) ?_
  refine TL.nil ?_
  refine TE.then ?_
  refine TC.seq ?_
  refine TC.regionL ?_
  refine TL.gets (Wants.none rfl) rfl (Gets.loadN rfl agg25 size25 rfl (vs := [Value.int .i64 o, Value.int .i64 n] ++ (H1.map (Value.int .u8) ++ (H2.map (Value.int .u8) ++ ([Value.slice A m c])))) (by simp [hH1, hH2]) (Row.all (i := 0) (ent := ⟨g1, 25, [Value.int .i64 o, Value.int .i64 n] ++ (H1.map (Value.int .u8) ++ (H2.map (Value.int .u8) ++ ([Value.slice A m c]))), 67⟩) rfl rfl rfl)) ?_
  refine TL.call0 (Wants.none rfl) rfl enters10 rfl rfl (v := .tuple #[.int .i64 ((faultI o n Cs).1), .int .i64 ((faultI o n Cs).2)]) (fun w hs => rdcheck_c o n H1 H2 hH1 hH2 A m c Cs hmm hN w (hC.at_ hs (fun b hb => (ne_cons (by show g1 ≠ b; omega) ne_nil)))) ?_
  refine TL.gets (Wants.none rfl) rfl (Gets.move rfl rfl) ?_
  refine TL.gets (Wants.none rfl) rfl (Gets.extract rfl rfl rfl) ?_
  refine TL.gets (Wants.none rfl) rfl (Gets.extract rfl rfl rfl) ?_
  refine TL.gets (Wants.none rfl) rfl (Gets.assign rfl rfl) ?_
  refine TL.gets (Wants.none rfl) rfl (Gets.assign rfl rfl) ?_
  refine TL.nil ?_
  refine TE.then ?_
  refine TC.sub (Sub.cons (i := 2) rfl (Sub.cons (i := 3) rfl (Sub.nil))) ?_
  refine TC.seq ?_
  refine TC.regionL ?_
  refine TL.gets (Wants.none rfl) rfl (Gets.move rfl rfl) ?_
  refine TL.gets (Wants.none rfl) rfl (Gets.eql rfl rfl rfl) ?_
  refine TL.gets (Wants.none rfl) rfl (Gets.assign rfl rfl) ?_
  refine TL.nil ?_
  refine TE.then ?_
  refine TC.ret ?_
  exact TE.ret1 rfl rfl (fun w hs => ⟨dec_iff (Iff.rfl), (hs.drop (by assumption))⟩)
end Go.Proofs.Ytkgamkjdkapchaa
/-
  The reference of layer 5: Totals.
-/
namespace Go.Proofs.Ytkgamkjdkapchaa
set_option linter.unusedVariables false
set_option linter.unusedSimpArgs false
open Go Go.RowKit

set_option maxRecDepth 100000 in
set_option maxHeartbeats 400000 in
theorem rtotals_c (o n : Int) (H1 H2 : List Int) (hH1 : H1.length = 32) (hH2 : H2.length = 32) (A : Option Addr) (m c : Nat) (Cs : List CV) (hVC : ValidC o n Cs) (hmm : m ≤ 1000000000) (hN : NumsC Cs) (w : World) (hC : SrcC w A m Cs)  : Calls Try.prog 15 #[.agg ([Value.int .i64 o, Value.int .i64 n] ++ (H1.map (Value.int .u8) ++ (H2.map (Value.int .u8) ++ ([Value.slice A m c])))).toArray] w fun e w' => e = .returned (.tuple #[.int .i64 ((Cs.map cpV).sum), .int .i64 ((Cs.map ltV).sum)]) ∧ St w [] w' := by
  refine calls_from (args := [.agg ([Value.int .i64 o, Value.int .i64 n] ++ (H1.map (Value.int .u8) ++ (H2.map (Value.int .u8) ++ ([Value.slice A m c])))).toArray]) Try.func15 rfl Try.ntmps15 (by simp) ?_
  refine TC.sub (Sub.cons (i := 0) rfl (Sub.nil)) ?_
  refine TC.seq ?_
  refine TC.regionL ?_
  refine TL.box (Wants.none rfl) rfl rfl rfl (cs := [Value.int .i64 o, Value.int .i64 n] ++ (H1.map (Value.int .u8) ++ (H2.map (Value.int .u8) ++ ([Value.slice A m c])))) (by simp [Value.cells]) (tot := 67) (by simp [hH1, hH2]) (fun g1 hg1 => ?_)
  refine TL.gets (Wants.none rfl) rfl (Gets.assign rfl rfl) ?_
  refine TL.gets (Wants.none rfl) rfl (Gets.assign rfl rfl) ?_
  refine TL.nil ?_
  refine TE.then ?_
  refine TC.seq ?_
  refine TC.regionL ?_
  refine TL.gets (Wants.none rfl) rfl (Gets.assign rfl rfl) ?_
  refine TL.nil ?_
  refine TE.then ?_
  refine TC.seq ?_
  refine TC.regionL ?_
  refine TL.gets (Wants.none rfl) rfl (Gets.assign rfl rfl) ?_
  refine TL.nil ?_
  refine TE.then ?_
  refine TC.seq ?_
  refine TC.seq ?_
  refine TC.regionL ?_
  refine TL.gets (Wants.none rfl) rfl (Gets.assign rfl rfl) ?_
  refine TL.nil ?_
  refine TE.then ?_
  refine TC.block ?_
  refine TC.loop (ι := Nat) (fun i => [(1, .pointer (some ⟨g1, 0, none⟩)), (4, .int .i64 (totI cpV Cs i)), (5, .int .i64 (totI ltV Cs i)), (6, .int .i64 (i : Int))]) (fun i => [⟨g1, 25, [Value.int .i64 o, Value.int .i64 n] ++ (H1.map (Value.int .u8) ++ (H2.map (Value.int .u8) ++ ([Value.slice A m c]))), 67⟩]) (fun i => m - i) (fun i => i ≤ m) 0 (Nat.zero_le _) (Sub.cons (i := 1) rfl (Sub.int (i := 4) rfl ((totI_zero _ _).symm) (Sub.int (i := 5) rfl ((totI_zero _ _).symm) (Sub.int (i := 6) rfl (by first | omega | rfl) (Sub.nil))))) (fun w h => h) (fun i hC0 => ?_)
  refine TC.seq ?_
  refine TC.seq ?_
  refine TC.regionL ?_
  refine TL.gets (Wants.none rfl) rfl (Gets.move rfl rfl) ?_
  refine TL.gets (Wants.none rfl) rfl (Gets.fieldAddr rfl Try.underlying25 rfl size23 rfl (off' := 66) (by first | rfl | omega)) ?_
  refine TL.gets (Wants.none rfl) rfl (Gets.load1 rfl agg23 rfl (At.ent (i := 0) (ent := ⟨g1, 25, [Value.int .i64 o, Value.int .i64 n] ++ (H1.map (Value.int .u8) ++ (H2.map (Value.int .u8) ++ ([Value.slice A m c]))), 67⟩) (off := 66) rfl rfl (by exact app_right (a := 2) (i := 64) (rfl) (app_right (a := 32) (i := 32) (ints_len hH1) (app_right (a := 32) (i := 0) (ints_len hH2) (rfl)))))) ?_
  refine TL.gets (Wants.none rfl) rfl (Gets.lenSlice rfl Try.underlying23 rfl) ?_
  refine TL.gets (Wants.none rfl) rfl (Gets.lss rfl rfl rfl) ?_
  refine TL.nil ?_
  refine TE.then ?_
  refine TC.sub (Sub.cons (i := 1) rfl (Sub.cons (i := 4) rfl (Sub.cons (i := 5) rfl (Sub.cons (i := 6) rfl (Sub.cons (i := 11) rfl (Sub.nil)))))) ?_
  refine TC.split rfl (fun hq0 => ?_) (fun hq0 => ?_)
  · obtain ⟨b, off, hAe, hb, hrw⟩ := hC.some_ (i := i) (by omega)
    subst hAe
    obtain ⟨x, hx⟩ := hC.get (i := i) (by omega)
    have hnx := hN i x hx
    unfold NumC at hnx
    have hlbx := lenV_bd (k := x.k) (l := x.l) (m := x.m) (by omega) (by omega)
    have ht4 := totI_succ (f := cpV) hx
    have ht5 := totI_succ (f := ltV) hx
    have hbd0 := hVC.tot i
    have hbd1 := hVC.tot (i + 1)
    refine TC.skip ?_
    refine TE.then ?_
    refine TC.seq ?_
    refine TC.block ?_
    refine TC.seq ?_
    refine TC.regionL ?_
    refine TL.gets (Wants.none rfl) rfl (Gets.fieldAddr rfl Try.underlying25 rfl size23 rfl (off' := 66) (by first | rfl | omega)) ?_
    refine TL.gets (Wants.none rfl) rfl (Gets.load1 rfl agg23 rfl (At.ent (i := 0) (ent := ⟨g1, 25, [Value.int .i64 o, Value.int .i64 n] ++ (H1.map (Value.int .u8) ++ (H2.map (Value.int .u8) ++ ([Value.slice (some ⟨b, off, none⟩) m c]))), 67⟩) (off := 66) rfl rfl (by exact app_right (a := 2) (i := 64) (rfl) (app_right (a := 32) (i := 32) (ints_len hH1) (app_right (a := 32) (i := 0) (ints_len hH2) (rfl)))))) ?_
    refine TL.gets (Wants.none rfl) rfl (Gets.move rfl rfl) ?_
    refine TL.gets (Wants.none rfl) rfl (Gets.idxSlice rfl Try.underlying23 size40 rfl rfl (i := i) (by omega) (by omega) (off' := (off + 5 * i)) (by omega)) ?_
    refine TL.gets (Wants.none rfl) rfl (Gets.fieldAddr rfl Try.underlying40 rfl size3 rfl (off' := (off + 5 * i)) (by first | rfl | omega)) ?_
    refine TL.gets (Wants.none rfl) rfl (Gets.load1 rfl agg3 rfl (At.old (hrw i x hx 0 _ rfl) hb (ne_cons (by show g1 ≠ b; omega) ne_nil))) ?_
    refine TL.gets (Wants.none rfl) rfl (Gets.eql rfl rfl rfl) ?_
    refine TL.nil ?_
    refine TE.then ?_
    refine TC.sub (Sub.cons (i := 1) rfl (Sub.cons (i := 4) rfl (Sub.cons (i := 5) rfl (Sub.cons (i := 6) rfl (Sub.cons (i := 20) rfl (Sub.nil)))))) ?_
    refine TC.split rfl (fun hq1 => ?_) (fun hq1 => ?_)
    · rw [cpV1 hq1] at ht4
      rw [ltV1 hq1] at ht5
      refine TC.regionL ?_
      refine TL.gets (Wants.none rfl) rfl (Gets.move rfl rfl) ?_
      refine TL.gets (Wants.none rfl) rfl (Gets.fieldAddr rfl Try.underlying25 rfl size23 rfl (off' := 66) (by first | rfl | omega)) ?_
      refine TL.gets (Wants.none rfl) rfl (Gets.load1 rfl agg23 rfl (At.ent (i := 0) (ent := ⟨g1, 25, [Value.int .i64 o, Value.int .i64 n] ++ (H1.map (Value.int .u8) ++ (H2.map (Value.int .u8) ++ ([Value.slice (some ⟨b, off, none⟩) m c]))), 67⟩) (off := 66) rfl rfl (by exact app_right (a := 2) (i := 64) (rfl) (app_right (a := 32) (i := 32) (ints_len hH1) (app_right (a := 32) (i := 0) (ints_len hH2) (rfl)))))) ?_
      refine TL.gets (Wants.none rfl) rfl (Gets.move rfl rfl) ?_
      refine TL.gets (Wants.none rfl) rfl (Gets.idxSlice rfl Try.underlying23 size40 rfl rfl (i := i) (by omega) (by omega) (off' := (off + 5 * i)) (by omega)) ?_
      refine TL.gets (Wants.none rfl) rfl (Gets.fieldAddr rfl Try.underlying40 rfl size3 rfl (off' := (off + 5 * i + 3)) (by first | rfl | omega)) ?_
      refine TL.gets (Wants.none rfl) rfl (Gets.load1 rfl agg3 rfl (At.old (hrw i x hx 3 _ rfl) hb (ne_cons (by show g1 ≠ b; omega) ne_nil))) ?_
      refine TL.gets (Wants.none rfl) rfl (Gets.add rfl rfl rfl (r := ((totI cpV Cs i) + x.l)) (w64 (by omega) (by omega))) ?_
      refine TL.gets (Wants.none rfl) rfl (Gets.assign rfl rfl) ?_
      refine TL.nil ?_
      refine TE.blockN ?_
      refine TE.then ?_
      refine TC.sub (Sub.cons (i := 1) rfl (Sub.cons (i := 4) rfl (Sub.cons (i := 5) rfl (Sub.cons (i := 6) rfl (Sub.nil))))) ?_
      refine TC.regionL ?_
      refine TL.gets (Wants.none rfl) rfl (Gets.move rfl rfl) ?_
      refine TL.gets (Wants.none rfl) rfl (Gets.add rfl rfl rfl (r := ((i : Int) + 1)) (w64 (by omega) (by omega))) ?_
      refine TL.gets (Wants.none rfl) rfl (Gets.assign rfl rfl) ?_
      refine TL.nil ?_
      exact TE.back (i + 1) (by omega) (by omega) (Sub.cons (i := 1) rfl (Sub.int (i := 4) rfl (by omega) (Sub.int (i := 5) rfl (by omega) (Sub.int (i := 6) rfl (by first | omega | rfl) (Sub.nil))))) (fun w h => h)
    · rw [cpV2 hq1] at ht4
      rw [ltV2 hq1] at ht5
      refine TC.regionL ?_
      refine TL.gets (Wants.none rfl) rfl (Gets.move rfl rfl) ?_
      refine TL.gets (Wants.none rfl) rfl (Gets.fieldAddr rfl Try.underlying25 rfl size23 rfl (off' := 66) (by first | rfl | omega)) ?_
      refine TL.gets (Wants.none rfl) rfl (Gets.load1 rfl agg23 rfl (At.ent (i := 0) (ent := ⟨g1, 25, [Value.int .i64 o, Value.int .i64 n] ++ (H1.map (Value.int .u8) ++ (H2.map (Value.int .u8) ++ ([Value.slice (some ⟨b, off, none⟩) m c]))), 67⟩) (off := 66) rfl rfl (by exact app_right (a := 2) (i := 64) (rfl) (app_right (a := 32) (i := 32) (ints_len hH1) (app_right (a := 32) (i := 0) (ints_len hH2) (rfl)))))) ?_
      refine TL.gets (Wants.none rfl) rfl (Gets.move rfl rfl) ?_
      refine TL.gets (Wants.none rfl) rfl (Gets.idxSlice rfl Try.underlying23 size40 rfl rfl (i := i) (by omega) (by omega) (off' := (off + 5 * i)) (by omega)) ?_
      refine TL.gets (Wants.none rfl) rfl (Gets.fieldAddr rfl Try.underlying40 rfl size38 rfl (off' := (off + 5 * i + 4)) (by first | rfl | omega)) ?_
      refine TL.gets (Wants.none rfl) rfl (Gets.load1 rfl agg38 rfl (At.old (hrw i x hx 4 _ rfl) hb (ne_cons (by show g1 ≠ b; omega) ne_nil))) ?_
      refine TL.gets (Wants.none rfl) rfl (Gets.lenSlice rfl Try.underlying38 rfl) ?_
      refine TL.gets (Wants.none rfl) rfl (Gets.add rfl rfl rfl (r := ((totI ltV Cs i) + (x.m : Int))) (w64 (by omega) (by omega))) ?_
      refine TL.gets (Wants.none rfl) rfl (Gets.assign rfl rfl) ?_
      refine TL.nil ?_
      refine TE.blockN ?_
      refine TE.then ?_
      refine TC.sub (Sub.cons (i := 1) rfl (Sub.cons (i := 4) rfl (Sub.cons (i := 5) rfl (Sub.cons (i := 6) rfl (Sub.nil))))) ?_
      refine TC.regionL ?_
      refine TL.gets (Wants.none rfl) rfl (Gets.move rfl rfl) ?_
      refine TL.gets (Wants.none rfl) rfl (Gets.add rfl rfl rfl (r := ((i : Int) + 1)) (w64 (by omega) (by omega))) ?_
      refine TL.gets (Wants.none rfl) rfl (Gets.assign rfl rfl) ?_
      refine TL.nil ?_
      exact TE.back (i + 1) (by omega) (by omega) (Sub.cons (i := 1) rfl (Sub.int (i := 4) rfl (by omega) (Sub.int (i := 5) rfl (by omega) (Sub.int (i := 6) rfl (by first | omega | rfl) (Sub.nil))))) (fun w h => h)
  · refine TC.exit ?_
    refine TE.thenX ?_
    refine TE.thenX ?_
    refine TE.blockX ?_
    refine TE.then ?_
    refine TC.seq ?_
    refine TC.regionL ?_
    refine TL.gets (Wants.none rfl) rfl (Gets.move rfl rfl) ?_
    refine TL.gets (Wants.none rfl) rfl (Gets.move rfl rfl) ?_
    refine TL.gets (Wants.none rfl) rfl (Gets.assign rfl rfl) ?_
    refine TL.gets (Wants.none rfl) rfl (Gets.assign rfl rfl) ?_
    refine TL.nil ?_
    refine TE.then ?_
    refine TC.ret ?_
    exact TE.ret2 rfl rfl rfl (fun w hs => ⟨(by obtain rfl : i = m := (by omega); rw [totI_all hC.1, totI_all hC.1]), (hs.drop (by assumption))⟩)
end Go.Proofs.Ytkgamkjdkapchaa
/-
  Contracts of Clone, Grow and Concat.
-/
namespace Go.Proofs.Ytkgamkjdkapchaa
set_option linter.unusedVariables false
set_option linter.unusedSimpArgs false
open Go Go.RowKit
theorem enters58 : Enters Try.prog 58 := ⟨_, Try.func58, by kernel_rfl, by kernel_rfl⟩
theorem mk5 : (Try.prog.info? 5).map (fun i => (i.zero, i.size, i.bytes)) = some (some (.int .u8 0), 1, 1) := by kernel_rfl
theorem size5 : (Try.prog.info? 5).map (·.size) = some 1 := by kernel_rfl
theorem zero40 : (Try.prog.info? 40).bind (·.zero) = some (.agg #[.int .i64 0, .int .i64 0, .int .i64 0, .int .i64 0, .slice none 0 0]) := by kernel_rfl
set_option maxRecDepth 100000 in
set_option maxHeartbeats 400000 in
theorem bclone_c (M : List Int) (ad : Addr) (m c : Nat) (w : World) (hsM : Src w (some ad) m .u8 M) (hmc : m ≤ c) (hm : m ≤ 140737488355328) : Calls Try.prog 58 #[.slice (some ad) m c] w fun e w' => ∃ g c', e = .returned (.slice (some ⟨g, 0, none⟩) m c') ∧ w.heap.size ≤ g ∧ m ≤ c' ∧ c' ≤ maxLen ∧ St w [⟨g, 5, (M).map (Value.int .u8), c'⟩] w' := by
  refine calls_from (args := [.slice (some ad) m c]) Try.func58 rfl Try.ntmps58 (by simp) ?_
  refine TC.sub (Sub.cons (i := 0) rfl (Sub.nil)) ?_
  refine TC.seq ?_
  refine TC.regionL ?_
  refine TL.gets (Wants.none rfl) rfl (Gets.assign rfl rfl) ?_
  refine TL.nil ?_
  refine TE.then ?_
  refine TC.seq ?_
  refine TC.seq ?_
  refine TC.regionL ?_
  refine TL.gets (Wants.none rfl) rfl (Gets.move rfl rfl) ?_
  refine TL.gets (Wants.none rfl) rfl (Gets.sliceNil (A := some ad) rfl Try.underlying38 rfl rfl) ?_
  refine TL.nil ?_
  refine TE.then ?_
  refine TC.no rfl ?_
  refine TC.skip ?_
  refine TE.then ?_
  refine TC.seq ?_
  refine TC.regionL ?_
  refine TL.emptySlice (Wants.none rfl) rfl rfl Try.underlying38 size5 (fun g1 hg1 => ?_)
  refine TL.gets (Wants.none rfl) rfl (Gets.move rfl rfl) ?_
  refine TL.appendOwn (H := []) (He := [⟨g1, 5, ([] : List Int).map (Value.int .u8), 0⟩]) (Wants.none rfl) rfl rfl Try.underlying38 mk5 rfl rfl rfl (W := []) (B := M) (.inr ⟨g1, 0, rfl, rfl, hg1, Nat.le_refl _, by unfold maxLen; omega⟩) (fun w hs => hsM.at_ hs (fun b hb => ne_app ne_nil (ne_cons (by show g1 ≠ b; omega) ne_nil))) (by simp only [List.length_nil]; omega) (by simp only [List.length_nil]; omega) (fun vo Ho ho hne => ?_)
  rw [List.nil_append] at ho
  obtain ⟨gs, cs, rfl, rfl, hgs, hcs, hms⟩ := own_some ho (hne (by intro h; cases h))
  have hls := hsM.1
  rw [hls] at hcs ⊢
  refine TL.gets (Wants.none rfl) rfl (Gets.assign rfl rfl) ?_
  refine TL.nil ?_
  refine TE.then ?_
  refine TC.ret ?_
  exact TE.ret1 rfl rfl (fun w hs => ⟨gs, cs, rfl, hgs, hcs, hms, hs⟩)

set_option maxRecDepth 100000 in
set_option maxHeartbeats 400000 in
theorem bclone_nil (m c : Nat) (w : World) : Calls Try.prog 58 #[.slice none m c] w fun e w' => e = .returned (.slice none 0 0) ∧ St w [] w' := by
  refine calls_from (args := [.slice none m c]) Try.func58 rfl Try.ntmps58 (by simp) ?_
  refine TC.sub (Sub.cons (i := 0) rfl (Sub.nil)) ?_
  refine TC.seq ?_
  refine TC.regionL ?_
  refine TL.gets (Wants.none rfl) rfl (Gets.assign rfl rfl) ?_
  refine TL.nil ?_
  refine TE.then ?_
  refine TC.seq ?_
  refine TC.seq ?_
  refine TC.regionL ?_
  refine TL.gets (Wants.none rfl) rfl (Gets.move rfl rfl) ?_
  refine TL.gets (Wants.none rfl) rfl (Gets.sliceNil (A := none) rfl Try.underlying38 rfl rfl) ?_
  refine TL.nil ?_
  refine TE.then ?_
  refine TC.yes rfl ?_
  refine TC.seq ?_
  refine TC.regionL ?_
  refine TL.gets (Wants.none rfl) rfl (Gets.assign rfl rfl) ?_
  refine TL.nil ?_
  refine TE.then ?_
  refine TC.ret ?_
  refine TE.thenR ?_
  exact TE.ret1 rfl rfl (fun w hs => ⟨rfl, hs⟩)

set_option maxRecDepth 100000 in
set_option maxHeartbeats 400000 in
theorem clone_nil (k t f l : Int) (m c : Nat) (w : World) : Calls Try.prog 36 #[.agg ([Value.int .i64 k, Value.int .i64 t, Value.int .i64 f, Value.int .i64 l, Value.slice none m c]).toArray] w fun e w' => e = .returned (.agg ([Value.int .i64 k, Value.int .i64 t, Value.int .i64 f, Value.int .i64 l, Value.slice none 0 0]).toArray) ∧ St w [] w' := by
  refine calls_from (args := [.agg ([Value.int .i64 k, Value.int .i64 t, Value.int .i64 f, Value.int .i64 l, Value.slice none m c]).toArray]) Try.func36 rfl Try.ntmps36 (by simp) ?_
  refine TC.sub (Sub.cons (i := 0) rfl (Sub.nil)) ?_
  refine TC.seq ?_
  refine TC.regionL ?_
  refine TL.box (Wants.none rfl) rfl rfl rfl (cs := [Value.int .i64 k, Value.int .i64 t, Value.int .i64 f, Value.int .i64 l, Value.slice none m c]) (by simp [Value.cells]) (tot := 5) (by simp []) (fun g1 hg1 => ?_)
  refine TL.alloc (Wants.none rfl) rfl rfl zero40 (cs := [Value.int .i64 0, Value.int .i64 0, Value.int .i64 0, Value.int .i64 0, Value.slice none 0 0]) rfl (tot := 5) (by simp) (fun g2 hg2 => ?_)
  refine TL.nil ?_
  refine TE.then ?_
  refine TC.seq ?_
  refine TC.regionL ?_
  refine TL.gets (Wants.none rfl) rfl (Gets.fieldAddr rfl Try.underlying40 rfl size38 rfl (off' := 4) (by first | rfl | omega)) ?_
  refine TL.gets (Wants.none rfl) rfl (Gets.load1 rfl agg38 rfl (At.ent (i := 1) (ent := ⟨g1, 40, [Value.int .i64 k, Value.int .i64 t, Value.int .i64 f, Value.int .i64 l, Value.slice none m c], 5⟩) (off := 4) rfl rfl (by exact rfl))) ?_
  refine TL.call0 (Wants.none rfl) rfl enters58 rfl rfl (v := .slice none 0 0) (fun w hs => bclone_nil m c w) ?_
  refine TL.gets (Wants.none rfl) rfl (Gets.fieldAddr rfl Try.underlying40 rfl size38 rfl (off' := 4) (by first | rfl | omega)) ?_
  refine TL.store1 (Wants.none rfl) rfl rfl size38 rfl rfl rfl (i := 1) rfl rfl (by simp [] <;> omega) (cs' := [Value.int .i64 k, Value.int .i64 t, Value.int .i64 f, Value.int .i64 l, Value.slice none 0 0]) (rfl) (H' := [⟨g2, 40, [Value.int .i64 0, Value.int .i64 0, Value.int .i64 0, Value.int .i64 0, Value.slice none 0 0], 5⟩, ⟨g1, 40, [Value.int .i64 k, Value.int .i64 t, Value.int .i64 f, Value.int .i64 l, Value.slice none 0 0], 5⟩]) rfl ?_
  refine TL.nil ?_
  refine TE.then ?_
  refine TC.seq ?_
  refine TC.regionL ?_
  refine TL.gets (Wants.none rfl) rfl (Gets.loadN rfl agg40 size40 rfl (vs := [Value.int .i64 k, Value.int .i64 t, Value.int .i64 f, Value.int .i64 l, Value.slice none 0 0]) (by simp []) (Row.all (i := 1) (ent := ⟨g1, 40, [Value.int .i64 k, Value.int .i64 t, Value.int .i64 f, Value.int .i64 l, Value.slice none 0 0], 5⟩) rfl rfl rfl)) ?_
  refine TL.storeW (Wants.none rfl) rfl rfl size40 rfl (vs := [Value.int .i64 k, Value.int .i64 t, Value.int .i64 f, Value.int .i64 l, Value.slice none 0 0]) rfl (by simp []) (by simp [Value.oneCell']) (i := 0) (ent := ⟨g2, 40, [Value.int .i64 0, Value.int .i64 0, Value.int .i64 0, Value.int .i64 0, Value.slice none 0 0], 5⟩) rfl rfl (by simp []) (H' := [⟨g2, 40, [Value.int .i64 k, Value.int .i64 t, Value.int .i64 f, Value.int .i64 l, Value.slice none 0 0], 5⟩, ⟨g1, 40, [Value.int .i64 k, Value.int .i64 t, Value.int .i64 f, Value.int .i64 l, Value.slice none 0 0], 5⟩]) rfl ?_
  refine TL.nil ?_
  refine TE.then ?_
  refine TC.ret ?_
  exact TE.retC rfl agg40 size40 rfl (vs := [Value.int .i64 k, Value.int .i64 t, Value.int .i64 f, Value.int .i64 l, Value.slice none 0 0]) rfl (Row.all (i := 0) (ent := ⟨g2, 40, [Value.int .i64 k, Value.int .i64 t, Value.int .i64 f, Value.int .i64 l, Value.slice none 0 0], 5⟩) rfl rfl rfl) (fun w hs => ⟨rfl, ((hs.drop (by assumption)).drop (by assumption))⟩)

set_option maxRecDepth 100000 in
set_option maxHeartbeats 400000 in
theorem clone_some (k t f l : Int) (ad : Addr) (m c : Nat) (B : List Int) (w : World) (hsA : Src w (some ad) m .u8 B) (hmc : m ≤ c) (hm : m ≤ 140737488355328) : Calls Try.prog 36 #[.agg ([Value.int .i64 k, Value.int .i64 t, Value.int .i64 f, Value.int .i64 l, Value.slice (some ad) m c]).toArray] w fun e w' => ∃ g c', e = .returned (.agg ([Value.int .i64 k, Value.int .i64 t, Value.int .i64 f, Value.int .i64 l, Value.slice (some ⟨g, 0, none⟩) m c']).toArray) ∧ w.heap.size ≤ g ∧ m ≤ c' ∧ c' ≤ maxLen ∧ St w [⟨g, 5, (B).map (Value.int .u8), c'⟩] w' := by
  refine calls_from (args := [.agg ([Value.int .i64 k, Value.int .i64 t, Value.int .i64 f, Value.int .i64 l, Value.slice (some ad) m c]).toArray]) Try.func36 rfl Try.ntmps36 (by simp) ?_
  refine TC.sub (Sub.cons (i := 0) rfl (Sub.nil)) ?_
  refine TC.seq ?_
  refine TC.regionL ?_
  refine TL.box (Wants.none rfl) rfl rfl rfl (cs := [Value.int .i64 k, Value.int .i64 t, Value.int .i64 f, Value.int .i64 l, Value.slice (some ad) m c]) (by simp [Value.cells]) (tot := 5) (by simp []) (fun g1 hg1 => ?_)
  refine TL.alloc (Wants.none rfl) rfl rfl zero40 (cs := [Value.int .i64 0, Value.int .i64 0, Value.int .i64 0, Value.int .i64 0, Value.slice none 0 0]) rfl (tot := 5) (by simp) (fun g2 hg2 => ?_)
  refine TL.nil ?_
  refine TE.then ?_
  refine TC.seq ?_
  refine TC.regionL ?_
  refine TL.gets (Wants.none rfl) rfl (Gets.fieldAddr rfl Try.underlying40 rfl size38 rfl (off' := 4) (by first | rfl | omega)) ?_
  refine TL.gets (Wants.none rfl) rfl (Gets.load1 rfl agg38 rfl (At.ent (i := 1) (ent := ⟨g1, 40, [Value.int .i64 k, Value.int .i64 t, Value.int .i64 f, Value.int .i64 l, Value.slice (some ad) m c], 5⟩) (off := 4) rfl rfl (by exact rfl))) ?_
  refine TL.call (ι := Nat × Nat) (V := fun yk => .slice (some ⟨yk.1, 0, none⟩) m yk.2) (R := fun yk => (m ≤ yk.2 ∧ yk.2 ≤ maxLen) ∧ w.heap.size ≤ (⟨yk.1, 5, B.map (Value.int .u8), yk.2⟩ : Ent).g) (H' := fun yk => [⟨yk.1, 5, B.map (Value.int .u8), yk.2⟩, ⟨g2, 40, [Value.int .i64 0, Value.int .i64 0, Value.int .i64 0, Value.int .i64 0, Value.slice none 0 0], 5⟩, ⟨g1, 40, [Value.int .i64 k, Value.int .i64 t, Value.int .i64 f, Value.int .i64 l, Value.slice (some ad) m c], 5⟩]) (Wants.none rfl) rfl enters58 rfl rfl (fun w hs => (show Calls Try.prog 58 #[.slice (some ad) m c] w (fun e w' => ∃ yk : Nat × Nat, e = .returned (.slice (some ⟨yk.1, 0, none⟩) m yk.2) ∧ (m ≤ yk.2 ∧ yk.2 ≤ maxLen) ∧ w.heap.size ≤ (⟨yk.1, 5, B.map (Value.int .u8), yk.2⟩ : Ent).g ∧ St w [⟨yk.1, 5, B.map (Value.int .u8), yk.2⟩] w') from (bclone_c B ad m c w (hsA.at_ hs (fun b hb => (ne_cons (by show g2 ≠ b; omega) (ne_cons (by show g1 ≠ b; omega) ne_nil)))) (by omega) (by omega)).mono fun e w' ⟨gv, cv, he, hgv, hcv, hmv, hw⟩ => ⟨(gv, cv), he, ⟨hcv, hmv⟩, hgv, hw⟩).mono fun e w' ⟨x, he, hR, hE, hw⟩ => ⟨x, he, ⟨hR, Nat.le_trans hs.size hE⟩, hs.made hw hE⟩) (fun yk ⟨hRk, hEk⟩ => ?_)
  obtain ⟨gk, ck⟩ := yk
  dsimp only at hRk hEk ⊢
  obtain ⟨hck, hmk⟩ := hRk
  unfold maxLen at hmk
  refine TL.gets (Wants.none rfl) rfl (Gets.fieldAddr rfl Try.underlying40 rfl size38 rfl (off' := 4) (by first | rfl | omega)) ?_
  refine TL.store1 (Wants.none rfl) rfl rfl size38 rfl rfl rfl (i := 2) rfl rfl (by simp [] <;> omega) (cs' := [Value.int .i64 k, Value.int .i64 t, Value.int .i64 f, Value.int .i64 l, Value.slice (some ⟨gk, 0, none⟩) m ck]) (rfl) (H' := [⟨gk, 5, B.map (Value.int .u8), ck⟩, ⟨g2, 40, [Value.int .i64 0, Value.int .i64 0, Value.int .i64 0, Value.int .i64 0, Value.slice none 0 0], 5⟩, ⟨g1, 40, [Value.int .i64 k, Value.int .i64 t, Value.int .i64 f, Value.int .i64 l, Value.slice (some ⟨gk, 0, none⟩) m ck], 5⟩]) rfl ?_
  refine TL.nil ?_
  refine TE.then ?_
  refine TC.seq ?_
  refine TC.regionL ?_
  refine TL.gets (Wants.none rfl) rfl (Gets.loadN rfl agg40 size40 rfl (vs := [Value.int .i64 k, Value.int .i64 t, Value.int .i64 f, Value.int .i64 l, Value.slice (some ⟨gk, 0, none⟩) m ck]) (by simp []) (Row.all (i := 2) (ent := ⟨g1, 40, [Value.int .i64 k, Value.int .i64 t, Value.int .i64 f, Value.int .i64 l, Value.slice (some ⟨gk, 0, none⟩) m ck], 5⟩) rfl rfl rfl)) ?_
  refine TL.storeW (Wants.none rfl) rfl rfl size40 rfl (vs := [Value.int .i64 k, Value.int .i64 t, Value.int .i64 f, Value.int .i64 l, Value.slice (some ⟨gk, 0, none⟩) m ck]) rfl (by simp []) (by simp [Value.oneCell']) (i := 1) (ent := ⟨g2, 40, [Value.int .i64 0, Value.int .i64 0, Value.int .i64 0, Value.int .i64 0, Value.slice none 0 0], 5⟩) rfl rfl (by simp []) (H' := [⟨gk, 5, B.map (Value.int .u8), ck⟩, ⟨g2, 40, [Value.int .i64 k, Value.int .i64 t, Value.int .i64 f, Value.int .i64 l, Value.slice (some ⟨gk, 0, none⟩) m ck], 5⟩, ⟨g1, 40, [Value.int .i64 k, Value.int .i64 t, Value.int .i64 f, Value.int .i64 l, Value.slice (some ⟨gk, 0, none⟩) m ck], 5⟩]) rfl ?_
  refine TL.nil ?_
  refine TE.then ?_
  refine TC.ret ?_
  exact TE.retC rfl agg40 size40 rfl (vs := [Value.int .i64 k, Value.int .i64 t, Value.int .i64 f, Value.int .i64 l, Value.slice (some ⟨gk, 0, none⟩) m ck]) rfl (Row.all (i := 1) (ent := ⟨g2, 40, [Value.int .i64 k, Value.int .i64 t, Value.int .i64 f, Value.int .i64 l, Value.slice (some ⟨gk, 0, none⟩) m ck], 5⟩) rfl rfl rfl) (fun w hs => ⟨gk, ck, rfl, hEk, hck, by unfold maxLen; omega, ((hs.erase (i := 2) rfl (by assumption)).erase (i := 1) rfl (by assumption))⟩)


structure WP where
  k : Nat
  v : Value
  He : List Ent
def totN (Ps : List (List Int)) (i : Nat) : Nat := (Ps.take i).flatten.length
theorem totN_succ {Ps : List (List Int)} {i : Nat} (h : i < Ps.length) : totN Ps (i + 1) = totN Ps i + (Ps.getD i []).length := by
  unfold totN
  have hf := flat_succ (i := i) (Ps := Ps) h []
  simp only [List.nil_append] at hf
  rw [hf, List.length_append]
theorem totN_le (Ps : List (List Int)) (i : Nat) : totN Ps i ≤ Ps.flatten.length := by
  unfold totN
  have := congrArg (fun l => (List.flatten l).length) (List.take_append_drop i Ps)
  simp only [List.flatten_append, List.length_append] at this
  omega
theorem totN_all {Ps : List (List Int)} {m : Nat} (h : Ps.length ≤ m) : totN Ps m = Ps.flatten.length := by
  unfold totN; rw [List.take_of_length_le h]
theorem totN_0 (Ps : List (List Int)) : totN Ps 0 = 0 := rfl
end Go.Proofs.Ytkgamkjdkapchaa
/-
  Contracts of Literal and Part.
-/
namespace Go.Proofs.Ytkgamkjdkapchaa
set_option linter.unusedVariables false
set_option linter.unusedSimpArgs false
open Go Go.RowKit

end Go.Proofs.Ytkgamkjdkapchaa
/-
  The reference of layer 5: All, Same.
-/
namespace Go.Proofs.Ytkgamkjdkapchaa
set_option linter.unusedVariables false
set_option linter.unusedSimpArgs false
open Go Go.RowKit
theorem agg22 : (isAgg 22).run Try.prog = fun w => .ok true w := isAgg_yes Try.underlying22 rfl
theorem enters23 : Enters Try.prog 23 := ⟨_, Try.func23, by kernel_rfl, by kernel_rfl⟩
theorem enters39 : Enters Try.prog 39 := ⟨_, Try.func39, by kernel_rfl, by kernel_rfl⟩
theorem geq22 : Try.prog.eqGuardType Try.prog.depth 22 = false := by kernel_rfl
theorem size22 : (Try.prog.info? 22).map (·.size) = some 32 := by kernel_rfl
set_option maxRecDepth 100000 in
set_option maxHeartbeats 400000 in
theorem rall_c (A A2 : Option Addr) (m c m2 c2 : Nat) (Cs Es : List CV) (hmm : m ≤ 1000000000) (hmm2 : m2 ≤ 1000000000) (hN : NumsC Cs) (w : World) (hC : SrcC w A m Cs) (hC2 : SrcC w A2 m2 Es) (hD : DatC w Cs) (hE : DatC w Es) : Calls Try.prog 23 #[.slice A m c, .slice A2 m2 c2] w fun e w' => e = .returned (.bool (decide (sameC Cs Es))) ∧ St w [] w' := by
  refine calls_from (args := [.slice A m c, .slice A2 m2 c2]) Try.func23 rfl Try.ntmps23 (by simp) ?_
  refine TC.sub (Sub.cons (i := 0) rfl (Sub.cons (i := 1) rfl (Sub.nil))) ?_
  refine TC.seq ?_
  refine TC.regionL ?_
  refine TL.gets (Wants.none rfl) rfl (Gets.assign rfl rfl) ?_
  refine TL.nil ?_
  refine TE.then ?_
  refine TC.seq ?_
  refine TC.seq ?_
  refine TC.regionL ?_
  refine TL.gets (Wants.none rfl) rfl (Gets.move rfl rfl) ?_
  refine TL.gets (Wants.none rfl) rfl (Gets.lenSlice rfl Try.underlying23 rfl) ?_
  refine TL.gets (Wants.none rfl) rfl (Gets.move rfl rfl) ?_
  refine TL.gets (Wants.none rfl) rfl (Gets.lenSlice rfl Try.underlying23 rfl) ?_
  refine TL.gets (Wants.none rfl) rfl (Gets.neq rfl rfl rfl) ?_
  refine TL.nil ?_
  refine TE.then ?_
  refine TC.split rfl (fun hq0 => ?_) (fun hq0 => ?_)
  · refine TC.seq ?_
    refine TC.regionL ?_
    refine TL.gets (Wants.none rfl) rfl (Gets.assign rfl rfl) ?_
    refine TL.nil ?_
    refine TE.then ?_
    refine TC.ret ?_
    refine TE.thenR ?_
    exact TE.ret1 rfl rfl (fun w hs => ⟨dec_f (fun h => by first | exact hq2 (sameC_at h hx hy) | (have h1 := sameC_len h; have h2 := hC.1; have h3 := hC2.1; omega)), hs⟩)
  · refine TC.skip ?_
    refine TE.then ?_
    refine TC.seq ?_
    refine TC.seq ?_
    refine TC.regionL ?_
    refine TL.gets (Wants.none rfl) rfl (Gets.assign rfl rfl) ?_
    refine TL.nil ?_
    refine TE.then ?_
    refine TC.sub (Sub.cons (i := 0) rfl (Sub.cons (i := 1) rfl (Sub.cons (i := 4) rfl (Sub.cons (i := 5) rfl (Sub.nil))))) ?_
    refine TC.block ?_
    refine TC.loop (ι := Nat) (fun i => [(0, .slice A m c), (1, .slice A2 m2 c2), (5, .int .i64 (i : Int))]) (fun i => []) (fun i => m - i) (fun i => i ≤ m ∧ ∀ (j : Nat) (x y : CV), j < i → Cs[j]? = some x → Es[j]? = some y → sameV x y) 0 ⟨Nat.zero_le _, fun j x y h => absurd h (Nat.not_lt_zero j)⟩ (Sub.slice (i := 0) rfl rfl (by first | omega | (dsimp only; omega) | rfl) (by first | omega | (dsimp only; omega) | rfl) (Sub.slice (i := 1) rfl rfl (by first | omega | (dsimp only; omega) | rfl) (by first | omega | (dsimp only; omega) | rfl) (Sub.int (i := 5) rfl (by first | omega | rfl) (Sub.nil)))) (fun w h => h) (fun i hC0 => ?_)
    obtain ⟨hC0, hj⟩ := hC0
    refine TC.seq ?_
    refine TC.seq ?_
    refine TC.regionL ?_
    refine TL.gets (Wants.none rfl) rfl (Gets.move rfl rfl) ?_
    refine TL.gets (Wants.none rfl) rfl (Gets.move rfl rfl) ?_
    refine TL.gets (Wants.none rfl) rfl (Gets.lenSlice rfl Try.underlying23 rfl) ?_
    refine TL.gets (Wants.none rfl) rfl (Gets.lss rfl rfl rfl) ?_
    refine TL.nil ?_
    refine TE.then ?_
    refine TC.split rfl (fun hq1 => ?_) (fun hq1 => ?_)
    · obtain ⟨b, off, hAe, hb, hrw⟩ := hC.some_ (i := i) (by omega)
      subst hAe
      obtain ⟨x, hx⟩ := hC.get (i := i) (by omega)
      have hnx := hN i x hx
      unfold NumC at hnx
      have hlbx := lenV_bd (k := x.k) (l := x.l) (m := x.m) (by omega) (by omega)
      obtain ⟨b2, off2, hAe2, hb2, hrw2⟩ := hC2.some_ (i := i) (by omega)
      subst hAe2
      obtain ⟨y, hy⟩ := hC2.get (i := i) (by omega)
      refine TC.skip ?_
      refine TE.then ?_
      refine TC.seq ?_
      refine TC.block ?_
      refine TC.seq ?_
      refine TC.mix (by kernel_rfl) [0, 0, 0, 1, 0, 0, 0, 1, 1, 0] rfl (by kernel_rfl) ?_
      refine TM.free (Wants.none rfl) rfl (fun _ => Gets.move rfl rfl) ?_
      refine TM.free (Wants.none rfl) rfl (fun _ => Gets.move rfl rfl) ?_
      refine TM.free (Wants.none rfl) rfl (fun _ => Gets.idxSlice rfl Try.underlying23 size40 rfl rfl (i := i) (by omega) (by omega) (off' := (off + 5 * i)) (by omega)) ?_
      refine TM.gets (Wants.none rfl) rfl (Gets.loadN rfl agg40 size40 rfl rfl (Row.old (fun jj u h => hrw i x hx jj u h) hb ne_nil)) ?_
      refine TM.free (Wants.none rfl) rfl (fun _ => Gets.move rfl rfl) ?_
      refine TM.free (Wants.none rfl) rfl (fun _ => Gets.move rfl rfl) ?_
      refine TM.free (Wants.none rfl) rfl (fun _ => Gets.idxSlice rfl Try.underlying23 size40 rfl rfl (i := i) (by omega) (by omega) (off' := (off2 + 5 * i)) (by omega)) ?_
      refine TM.gets (Wants.none rfl) rfl (Gets.loadN rfl agg40 size40 rfl rfl (Row.old (fun jj u h => hrw2 i y hy jj u h) hb2 ne_nil)) ?_
      refine TM.call0 (Wants.none rfl) rfl enters39 rfl rfl (v := .bool (decide (sameP x.k x.t x.f x.l y.k y.t y.f y.l x.B y.B))) (fun w hs => rsame_c x.k x.t x.f x.l y.k y.t y.f y.l x.A y.A x.m x.c y.m y.c x.B y.B (hD i x hx).2 (hE i y hy).2 w ((hD i x hx).1.at_ hs (fun b hb => ne_nil)) ((hE i y hy).1.at_ hs (fun b hb => ne_nil))) ?_
      refine TM.free (Wants.none rfl) rfl (fun _ => Gets.notP rfl rfl) ?_
      refine TM.nil ?_
      refine TE.then ?_
      refine TC.sub (Sub.cons (i := 0) rfl (Sub.cons (i := 1) rfl (Sub.cons (i := 5) rfl (Sub.cons (i := 26) rfl (Sub.nil))))) ?_
      refine TC.split rfl (fun hq2 => ?_) (fun hq2 => ?_)
      · refine TC.seq ?_
        refine TC.regionL ?_
        refine TL.gets (Wants.none rfl) rfl (Gets.assign rfl rfl) ?_
        refine TL.nil ?_
        refine TE.then ?_
        refine TC.ret ?_
        refine TE.blockR ?_
        refine TE.thenR ?_
        refine TE.thenR ?_
        refine TE.blockR ?_
        refine TE.thenR ?_
        exact TE.ret1 rfl rfl (fun w hs => ⟨dec_f (fun h => by first | exact hq2 (sameC_at h hx hy) | (have h1 := sameC_len h; have h2 := hC.1; have h3 := hC2.1; omega)), hs⟩)
      · refine TC.skip ?_
        refine TE.blockN ?_
        refine TE.then ?_
        refine TC.regionL ?_
        refine TL.gets (Wants.none rfl) rfl (Gets.move rfl rfl) ?_
        refine TL.gets (Wants.none rfl) rfl (Gets.add rfl rfl rfl (r := ((i : Int) + 1)) (w64 (by omega) (by omega))) ?_
        refine TL.gets (Wants.none rfl) rfl (Gets.assign rfl rfl) ?_
        refine TL.nil ?_
        exact TE.back (i + 1) (by omega) ⟨by omega, sameC_succ hj hx hy (Decidable.not_not.1 hq2)⟩ (Sub.slice (i := 0) rfl (by first | rfl | (congr 2; omega)) (by first | omega | (dsimp only; omega) | rfl) (by first | omega | (dsimp only; omega) | rfl) (Sub.slice (i := 1) rfl (by first | rfl | (congr 2; omega)) (by first | omega | (dsimp only; omega) | rfl) (by first | omega | (dsimp only; omega) | rfl) (Sub.int (i := 5) rfl (by first | omega | rfl) (Sub.nil)))) (fun w h => h)
    · refine TC.exit ?_
      refine TE.thenX ?_
      refine TE.thenX ?_
      refine TE.blockX ?_
      refine TE.then ?_
      refine TC.seq ?_
      refine TC.regionL ?_
      refine TL.gets (Wants.none rfl) rfl (Gets.assign rfl rfl) ?_
      refine TL.nil ?_
      refine TE.then ?_
      refine TC.ret ?_
      exact TE.ret1 rfl rfl (fun w hs => ⟨dec_t (sameC_of (by have := hC.1; have := hC2.1; omega) fun i' x y hx hy => hj i' x y (by have := (List.getElem?_eq_some_iff.1 hx).1; have := hC.1; omega) hx hy), hs⟩)

set_option maxRecDepth 100000 in
set_option maxHeartbeats 400000 in
theorem rdsame_c (o n : Int) (H1 H2 : List Int) (hH1 : H1.length = 32) (hH2 : H2.length = 32) (A : Option Addr) (m c : Nat) (Cs : List CV) (o2 n2 : Int) (G1 G2 : List Int) (hG1 : G1.length = 32) (hG2 : G2.length = 32) (A2 : Option Addr) (m2 c2 : Nat) (Es : List CV) (hmm : m ≤ 1000000000) (hmm2 : m2 ≤ 1000000000) (hN : NumsC Cs) (w : World) (hC : SrcC w A m Cs) (hC2 : SrcC w A2 m2 Es) (hD : DatC w Cs) (hE : DatC w Es) : Calls Try.prog 17 #[.agg ([Value.int .i64 o, Value.int .i64 n] ++ (H1.map (Value.int .u8) ++ (H2.map (Value.int .u8) ++ ([Value.slice A m c])))).toArray, .agg ([Value.int .i64 o2, Value.int .i64 n2] ++ (G1.map (Value.int .u8) ++ (G2.map (Value.int .u8) ++ ([Value.slice A2 m2 c2])))).toArray] w fun e w' => e = .returned (.bool (decide (sameD o n H1 H2 Cs o2 n2 G1 G2 Es))) ∧ St w [] w' := by
  refine calls_from (args := [.agg ([Value.int .i64 o, Value.int .i64 n] ++ (H1.map (Value.int .u8) ++ (H2.map (Value.int .u8) ++ ([Value.slice A m c])))).toArray, .agg ([Value.int .i64 o2, Value.int .i64 n2] ++ (G1.map (Value.int .u8) ++ (G2.map (Value.int .u8) ++ ([Value.slice A2 m2 c2])))).toArray]) Try.func17 rfl Try.ntmps17 (by simp) ?_
  refine TC.sub (Sub.cons (i := 0) rfl (Sub.cons (i := 1) rfl (Sub.nil))) ?_
  refine TC.seq ?_
  refine TC.regionL ?_
  refine TL.box (Wants.none rfl) rfl rfl rfl (cs := [Value.int .i64 o, Value.int .i64 n] ++ (H1.map (Value.int .u8) ++ (H2.map (Value.int .u8) ++ ([Value.slice A m c])))) (by simp [Value.cells]) (tot := 67) (by simp [hH1, hH2]) (fun g1 hg1 => ?_)
  refine TL.box (Wants.none rfl) rfl rfl rfl (cs := [Value.int .i64 o2, Value.int .i64 n2] ++ (G1.map (Value.int .u8) ++ (G2.map (Value.int .u8) ++ ([Value.slice A2 m2 c2])))) (by simp [Value.cells]) (tot := 67) (by simp [hG1, hG2]) (fun g2 hg2 => ?_)
  refine TL.gets (Wants.none rfl) rfl (Gets.assign rfl rfl) ?_
  refine TL.nil ?_
  refine TE.then ?_
  refine TC.seq ?_
  refine TC.regionL ?_
  refine TL.gets (Wants.none rfl) rfl (Gets.fieldAddr rfl Try.underlying25 rfl size3 rfl (off' := 0) (by first | rfl | omega)) ?_
  refine TL.gets (Wants.none rfl) rfl (Gets.load1 rfl agg3 rfl (At.ent (i := 1) (ent := ⟨g1, 25, [Value.int .i64 o, Value.int .i64 n] ++ (H1.map (Value.int .u8) ++ (H2.map (Value.int .u8) ++ ([Value.slice A m c]))), 67⟩) (off := 0) rfl rfl (by exact app_left (i := 0) (B := H1.map (Value.int .u8) ++ (H2.map (Value.int .u8) ++ ([Value.slice A m c]))) (rfl)))) ?_
  refine TL.gets (Wants.none rfl) rfl (Gets.fieldAddr rfl Try.underlying25 rfl size3 rfl (off' := 0) (by first | rfl | omega)) ?_
  refine TL.gets (Wants.none rfl) rfl (Gets.load1 rfl agg3 rfl (At.ent (i := 0) (ent := ⟨g2, 25, [Value.int .i64 o2, Value.int .i64 n2] ++ (G1.map (Value.int .u8) ++ (G2.map (Value.int .u8) ++ ([Value.slice A2 m2 c2]))), 67⟩) (off := 0) rfl rfl (by exact app_left (i := 0) (B := G1.map (Value.int .u8) ++ (G2.map (Value.int .u8) ++ ([Value.slice A2 m2 c2]))) (rfl)))) ?_
  by_cases q1 : o = o2
  · refine TL.gets (Wants.none rfl) rfl (Gets.isTrue (Gets.eql rfl rfl rfl) q1) ?_
    refine TL.gets (Wants.none rfl) rfl (Gets.move rfl rfl) ?_
    refine TL.gets (Wants.yes rfl rfl rfl) rfl (Gets.fieldAddr rfl Try.underlying25 rfl size3 rfl (off' := 1) (by first | rfl | omega)) ?_
    refine TL.gets (Wants.yes rfl rfl rfl) rfl (Gets.load1 rfl agg3 rfl (At.ent (i := 1) (ent := ⟨g1, 25, [Value.int .i64 o, Value.int .i64 n] ++ (H1.map (Value.int .u8) ++ (H2.map (Value.int .u8) ++ ([Value.slice A m c]))), 67⟩) (off := 1) rfl rfl (by exact app_left (i := 1) (B := H1.map (Value.int .u8) ++ (H2.map (Value.int .u8) ++ ([Value.slice A m c]))) (rfl)))) ?_
    refine TL.gets (Wants.yes rfl rfl rfl) rfl (Gets.fieldAddr rfl Try.underlying25 rfl size3 rfl (off' := 1) (by first | rfl | omega)) ?_
    refine TL.gets (Wants.yes rfl rfl rfl) rfl (Gets.load1 rfl agg3 rfl (At.ent (i := 0) (ent := ⟨g2, 25, [Value.int .i64 o2, Value.int .i64 n2] ++ (G1.map (Value.int .u8) ++ (G2.map (Value.int .u8) ++ ([Value.slice A2 m2 c2]))), 67⟩) (off := 1) rfl rfl (by exact app_left (i := 1) (B := G1.map (Value.int .u8) ++ (G2.map (Value.int .u8) ++ ([Value.slice A2 m2 c2]))) (rfl)))) ?_
    by_cases q2 : n = n2
    · refine TL.gets (Wants.yes rfl rfl rfl) rfl (Gets.isTrue (Gets.eql rfl rfl rfl) q2) ?_
      refine TL.gets (Wants.none rfl) rfl (Gets.pickT rfl rfl rfl) ?_
      refine TL.gets (Wants.none rfl) rfl (Gets.move rfl rfl) ?_
      refine TL.gets (Wants.yes rfl rfl rfl) rfl (Gets.fieldAddr rfl Try.underlying25 rfl size22 rfl (off' := 2) (by first | rfl | omega)) ?_
      refine TL.gets (Wants.yes rfl rfl rfl) rfl (Gets.loadN rfl agg22 size22 rfl (vs := H1.map (Value.int .u8)) (by simp [hH1]) (Row.part (i := 1) (ent := ⟨g1, 25, [Value.int .i64 o, Value.int .i64 n] ++ (H1.map (Value.int .u8) ++ (H2.map (Value.int .u8) ++ ([Value.slice A m c]))), 67⟩) rfl rfl (by exact seg_mid (by simp [])))) ?_
      refine TL.gets (Wants.yes rfl rfl rfl) rfl (Gets.fieldAddr rfl Try.underlying25 rfl size22 rfl (off' := 2) (by first | rfl | omega)) ?_
      refine TL.gets (Wants.yes rfl rfl rfl) rfl (Gets.loadN rfl agg22 size22 rfl (vs := G1.map (Value.int .u8)) (by simp [hG1]) (Row.part (i := 0) (ent := ⟨g2, 25, [Value.int .i64 o2, Value.int .i64 n2] ++ (G1.map (Value.int .u8) ++ (G2.map (Value.int .u8) ++ ([Value.slice A2 m2 c2]))), 67⟩) rfl rfl (by exact seg_mid (by simp [])))) ?_
      by_cases q3 : H1 = G1
      · refine TL.gets (Wants.yes rfl rfl rfl) rfl (Gets.isTrue (Gets.arrEq rfl Try.underlying22 Try.underlying5 size5 geq22 rfl rfl hH1 hG1) q3) ?_
        refine TL.gets (Wants.none rfl) rfl (Gets.pickT rfl rfl rfl) ?_
        refine TL.gets (Wants.none rfl) rfl (Gets.move rfl rfl) ?_
        refine TL.gets (Wants.yes rfl rfl rfl) rfl (Gets.fieldAddr rfl Try.underlying25 rfl size22 rfl (off' := 34) (by first | rfl | omega)) ?_
        refine TL.gets (Wants.yes rfl rfl rfl) rfl (Gets.loadN rfl agg22 size22 rfl (vs := H2.map (Value.int .u8)) (by simp [hH2]) (Row.part (i := 1) (ent := ⟨g1, 25, [Value.int .i64 o, Value.int .i64 n] ++ (H1.map (Value.int .u8) ++ (H2.map (Value.int .u8) ++ ([Value.slice A m c]))), 67⟩) rfl rfl (by rw [← List.append_assoc]; exact seg_mid (by simp [hH1])))) ?_
        refine TL.gets (Wants.yes rfl rfl rfl) rfl (Gets.fieldAddr rfl Try.underlying25 rfl size22 rfl (off' := 34) (by first | rfl | omega)) ?_
        refine TL.gets (Wants.yes rfl rfl rfl) rfl (Gets.loadN rfl agg22 size22 rfl (vs := G2.map (Value.int .u8)) (by simp [hG2]) (Row.part (i := 0) (ent := ⟨g2, 25, [Value.int .i64 o2, Value.int .i64 n2] ++ (G1.map (Value.int .u8) ++ (G2.map (Value.int .u8) ++ ([Value.slice A2 m2 c2]))), 67⟩) rfl rfl (by rw [← List.append_assoc]; exact seg_mid (by simp [hG1])))) ?_
        by_cases q4 : H2 = G2
        · refine TL.gets (Wants.yes rfl rfl rfl) rfl (Gets.isTrue (Gets.arrEq rfl Try.underlying22 Try.underlying5 size5 geq22 rfl rfl hH2 hG2) q4) ?_
          refine TL.gets (Wants.none rfl) rfl (Gets.pickT rfl rfl rfl) ?_
          refine TL.gets (Wants.none rfl) rfl (Gets.move rfl rfl) ?_
          refine TL.gets (Wants.yes rfl rfl rfl) rfl (Gets.fieldAddr rfl Try.underlying25 rfl size23 rfl (off' := 66) (by first | rfl | omega)) ?_
          refine TL.gets (Wants.yes rfl rfl rfl) rfl (Gets.load1 rfl agg23 rfl (At.ent (i := 1) (ent := ⟨g1, 25, [Value.int .i64 o, Value.int .i64 n] ++ (H1.map (Value.int .u8) ++ (H2.map (Value.int .u8) ++ ([Value.slice A m c]))), 67⟩) (off := 66) rfl rfl (by exact app_right (a := 2) (i := 64) (rfl) (app_right (a := 32) (i := 32) (ints_len hH1) (app_right (a := 32) (i := 0) (ints_len hH2) (rfl)))))) ?_
          refine TL.gets (Wants.yes rfl rfl rfl) rfl (Gets.fieldAddr rfl Try.underlying25 rfl size23 rfl (off' := 66) (by first | rfl | omega)) ?_
          refine TL.gets (Wants.yes rfl rfl rfl) rfl (Gets.load1 rfl agg23 rfl (At.ent (i := 0) (ent := ⟨g2, 25, [Value.int .i64 o2, Value.int .i64 n2] ++ (G1.map (Value.int .u8) ++ (G2.map (Value.int .u8) ++ ([Value.slice A2 m2 c2]))), 67⟩) (off := 66) rfl rfl (by exact app_right (a := 2) (i := 64) (rfl) (app_right (a := 32) (i := 32) (ints_len hG1) (app_right (a := 32) (i := 0) (ints_len hG2) (rfl)))))) ?_
          refine TL.call0 (Wants.yes rfl rfl rfl) rfl enters23 rfl rfl (v := .bool (decide (sameC Cs Es))) (fun w hs => rall_c A A2 m c m2 c2 Cs Es hmm hmm2 hN w (hC.at_ hs (fun b hb => (ne_cons (by show g2 ≠ b; omega) (ne_cons (by show g1 ≠ b; omega) ne_nil)))) (hC2.at_ hs (fun b hb => (ne_cons (by show g2 ≠ b; omega) (ne_cons (by show g1 ≠ b; omega) ne_nil)))) (hD.at_ hs (fun b hb => (ne_cons (by show g2 ≠ b; omega) (ne_cons (by show g1 ≠ b; omega) ne_nil)))) (hE.at_ hs (fun b hb => (ne_cons (by show g2 ≠ b; omega) (ne_cons (by show g1 ≠ b; omega) ne_nil))))) ?_
          refine TL.gets (Wants.none rfl) rfl (Gets.pickT rfl rfl rfl) ?_
          refine TL.gets (Wants.none rfl) rfl (Gets.assign rfl rfl) ?_
          refine TL.nil ?_
          refine TE.then ?_
          refine TC.ret ?_
          exact TE.ret1 rfl rfl (fun w hs => ⟨dec_iff (by unfold sameD; simp [*]), ((hs.drop (by assumption)).drop (by assumption))⟩)
        · refine TL.gets (Wants.yes rfl rfl rfl) rfl (Gets.isFalse (Gets.arrEq rfl Try.underlying22 Try.underlying5 size5 geq22 rfl rfl hH2 hG2) q4) ?_
          refine TL.gets (Wants.none rfl) rfl (Gets.pickT rfl rfl rfl) ?_
          refine TL.gets (Wants.none rfl) rfl (Gets.move rfl rfl) ?_
          refine TL.pass rfl rfl rfl rfl rfl ?_
          refine TL.pass rfl rfl rfl rfl rfl ?_
          refine TL.pass rfl rfl rfl rfl rfl ?_
          refine TL.pass rfl rfl rfl rfl rfl ?_
          refine TL.pass rfl rfl rfl rfl rfl ?_
          refine TL.gets (Wants.none rfl) rfl (Gets.pickF rfl rfl rfl) ?_
          refine TL.gets (Wants.none rfl) rfl (Gets.assign rfl rfl) ?_
          refine TL.nil ?_
          refine TE.then ?_
          refine TC.ret ?_
          exact TE.ret1 rfl rfl (fun w hs => ⟨dec_f (by unfold sameD; simp [*]), ((hs.drop (by assumption)).drop (by assumption))⟩)
      · refine TL.gets (Wants.yes rfl rfl rfl) rfl (Gets.isFalse (Gets.arrEq rfl Try.underlying22 Try.underlying5 size5 geq22 rfl rfl hH1 hG1) q3) ?_
        refine TL.gets (Wants.none rfl) rfl (Gets.pickT rfl rfl rfl) ?_
        refine TL.gets (Wants.none rfl) rfl (Gets.move rfl rfl) ?_
        refine TL.pass rfl rfl rfl rfl rfl ?_
        refine TL.pass rfl rfl rfl rfl rfl ?_
        refine TL.pass rfl rfl rfl rfl rfl ?_
        refine TL.pass rfl rfl rfl rfl rfl ?_
        refine TL.pass rfl rfl rfl rfl rfl ?_
        refine TL.gets (Wants.none rfl) rfl (Gets.pickF rfl rfl rfl) ?_
        refine TL.gets (Wants.none rfl) rfl (Gets.move rfl rfl) ?_
        refine TL.pass rfl rfl rfl rfl rfl ?_
        refine TL.pass rfl rfl rfl rfl rfl ?_
        refine TL.pass rfl rfl rfl rfl rfl ?_
        refine TL.pass rfl rfl rfl rfl rfl ?_
        refine TL.pass rfl rfl rfl rfl rfl ?_
        refine TL.gets (Wants.none rfl) rfl (Gets.pickF rfl rfl rfl) ?_
        refine TL.gets (Wants.none rfl) rfl (Gets.assign rfl rfl) ?_
        refine TL.nil ?_
        refine TE.then ?_
        refine TC.ret ?_
        exact TE.ret1 rfl rfl (fun w hs => ⟨dec_f (by unfold sameD; simp [*]), ((hs.drop (by assumption)).drop (by assumption))⟩)
    · refine TL.gets (Wants.yes rfl rfl rfl) rfl (Gets.isFalse (Gets.eql rfl rfl rfl) q2) ?_
      refine TL.gets (Wants.none rfl) rfl (Gets.pickT rfl rfl rfl) ?_
      refine TL.gets (Wants.none rfl) rfl (Gets.move rfl rfl) ?_
      refine TL.pass rfl rfl rfl rfl rfl ?_
      refine TL.pass rfl rfl rfl rfl rfl ?_
      refine TL.pass rfl rfl rfl rfl rfl ?_
      refine TL.pass rfl rfl rfl rfl rfl ?_
      refine TL.pass rfl rfl rfl rfl rfl ?_
      refine TL.gets (Wants.none rfl) rfl (Gets.pickF rfl rfl rfl) ?_
      refine TL.gets (Wants.none rfl) rfl (Gets.move rfl rfl) ?_
      refine TL.pass rfl rfl rfl rfl rfl ?_
      refine TL.pass rfl rfl rfl rfl rfl ?_
      refine TL.pass rfl rfl rfl rfl rfl ?_
      refine TL.pass rfl rfl rfl rfl rfl ?_
      refine TL.pass rfl rfl rfl rfl rfl ?_
      refine TL.gets (Wants.none rfl) rfl (Gets.pickF rfl rfl rfl) ?_
      refine TL.gets (Wants.none rfl) rfl (Gets.move rfl rfl) ?_
      refine TL.pass rfl rfl rfl rfl rfl ?_
      refine TL.pass rfl rfl rfl rfl rfl ?_
      refine TL.pass rfl rfl rfl rfl rfl ?_
      refine TL.pass rfl rfl rfl rfl rfl ?_
      refine TL.pass rfl rfl rfl rfl rfl ?_
      refine TL.gets (Wants.none rfl) rfl (Gets.pickF rfl rfl rfl) ?_
      refine TL.gets (Wants.none rfl) rfl (Gets.assign rfl rfl) ?_
      refine TL.nil ?_
      refine TE.then ?_
      refine TC.ret ?_
      exact TE.ret1 rfl rfl (fun w hs => ⟨dec_f (by unfold sameD; simp [*]), ((hs.drop (by assumption)).drop (by assumption))⟩)
  · refine TL.gets (Wants.none rfl) rfl (Gets.isFalse (Gets.eql rfl rfl rfl) q1) ?_
    refine TL.gets (Wants.none rfl) rfl (Gets.move rfl rfl) ?_
    refine TL.pass rfl rfl rfl rfl rfl ?_
    refine TL.pass rfl rfl rfl rfl rfl ?_
    refine TL.pass rfl rfl rfl rfl rfl ?_
    refine TL.pass rfl rfl rfl rfl rfl ?_
    refine TL.pass rfl rfl rfl rfl rfl ?_
    refine TL.gets (Wants.none rfl) rfl (Gets.pickF rfl rfl rfl) ?_
    refine TL.gets (Wants.none rfl) rfl (Gets.move rfl rfl) ?_
    refine TL.pass rfl rfl rfl rfl rfl ?_
    refine TL.pass rfl rfl rfl rfl rfl ?_
    refine TL.pass rfl rfl rfl rfl rfl ?_
    refine TL.pass rfl rfl rfl rfl rfl ?_
    refine TL.pass rfl rfl rfl rfl rfl ?_
    refine TL.gets (Wants.none rfl) rfl (Gets.pickF rfl rfl rfl) ?_
    refine TL.gets (Wants.none rfl) rfl (Gets.move rfl rfl) ?_
    refine TL.pass rfl rfl rfl rfl rfl ?_
    refine TL.pass rfl rfl rfl rfl rfl ?_
    refine TL.pass rfl rfl rfl rfl rfl ?_
    refine TL.pass rfl rfl rfl rfl rfl ?_
    refine TL.pass rfl rfl rfl rfl rfl ?_
    refine TL.gets (Wants.none rfl) rfl (Gets.pickF rfl rfl rfl) ?_
    refine TL.gets (Wants.none rfl) rfl (Gets.move rfl rfl) ?_
    refine TL.pass rfl rfl rfl rfl rfl ?_
    refine TL.pass rfl rfl rfl rfl rfl ?_
    refine TL.pass rfl rfl rfl rfl rfl ?_
    refine TL.pass rfl rfl rfl rfl rfl ?_
    refine TL.pass rfl rfl rfl rfl rfl ?_
    refine TL.gets (Wants.none rfl) rfl (Gets.pickF rfl rfl rfl) ?_
    refine TL.gets (Wants.none rfl) rfl (Gets.assign rfl rfl) ?_
    refine TL.nil ?_
    refine TE.then ?_
    refine TC.ret ?_
    exact TE.ret1 rfl rfl (fun w hs => ⟨dec_f (by unfold sameD; simp [*]), ((hs.drop (by assumption)).drop (by assumption))⟩)
end Go.Proofs.Ytkgamkjdkapchaa
/-
  A slice of the call's own whose elements are values of one cell each; blocks that a loop has made, one a round; three-number arrays.
-/
namespace Go.Proofs.Ytkgamkjdkapchaa
set_option linter.unusedVariables false
set_option linter.unusedSimpArgs false
set_option linter.unusedVariables false
open Go Go.RowKit
section
variable {P : Program} {ops : Array Oper} {Q : Exit → Act → World → Prop} {n : Sz} {w0 : World} {L L' : List (Nat × Value)} {H : List Ent}
variable {o : Oper} {rest : List Oper} {v u : Value} {x y z : Operand} {k m j : Nat} {t t' e : TypeId} {ks : List Nat} {kd : IntKind}
def OwnV (N : Nat) (t : TypeId) (v : Value) (vs : List Value) (He : List Ent) : Prop :=
  (v = .slice none 0 0 ∧ vs = [] ∧ He = []) ∨ ∃ g cap, v = .slice (some ⟨g, 0, none⟩) vs.length cap ∧ He = [⟨g, t, vs, cap⟩] ∧ N ≤ g ∧ vs.length ≤ cap ∧ cap ≤ maxLen
theorem OwnV.nil (N : Nat) (t : TypeId) : OwnV N t (.slice none 0 0) [] [] := .inl ⟨rfl, rfl, rfl⟩
theorem OwnV.new {N : Nat} {vs : List Value} {He : List Ent} (h : OwnV N t v vs He) : ∀ e ∈ He, N ≤ e.g := by
  rcases h with ⟨_, _, rfl⟩ | ⟨g, cap, _, rfl, hN, _⟩
  · intro e he; cases he
  · intro e he; rw [List.mem_singleton.1 he]; exact hN
theorem OwnV.form {N : Nat} {vs : List Value} {He : List Ent} (h : OwnV N t v vs He) : ∃ A c, v = .slice A vs.length c ∧ vs.length ≤ c ∧ c ≤ 9223372036854775807 := by
  rcases h with ⟨rfl, rfl, rfl⟩ | ⟨g, cap, rfl, rfl, hN, hc, hm⟩
  · exact ⟨none, 0, rfl, Nat.le_refl _, by omega⟩
  · exact ⟨_, cap, rfl, hc, by unfold maxLen at hm; omega⟩
/-- Where its elements lie. -/
theorem OwnV.cell {N m c : Nat} {A : Option Addr} {vs : List Value} {He : List Ent} {w : World} (h : OwnV N t (.slice A m c) vs He) (hs : ∀ e ∈ He, e.lies w) : m = vs.length ∧ (m = 0 ∨ ∃ g, A = some ⟨g, 0, none⟩ ∧ g < w.heap.size ∧ N ≤ g ∧ ∀ i u, vs[i]? = some u → w.cell? ⟨g, i, none⟩ = some u) := by
  rcases h with ⟨h1, rfl, rfl⟩ | ⟨g, cap, h1, rfl, hN, hc, hm⟩
  · cases h1; exact ⟨rfl, .inl rfl⟩
  · cases h1
    have hl := hs _ (List.mem_singleton.2 rfl)
    exact ⟨rfl, .inr ⟨g, rfl, hl.lt, hN, fun i u hu => hl.cell hu⟩⟩
theorem OwnV.row {w : World} {N : Nat} {vs : List Value} {He : List Ent} (h : OwnV N t v vs He) (hs : ∀ e ∈ He, e.lies w) : w.ownsRow N t 1 v vs.length vs := by
  rcases h with ⟨rfl, rfl, rfl⟩ | ⟨g, cap, rfl, rfl, hN, hc, hm⟩
  · exact ⟨by simp, .inl ⟨rfl, rfl⟩⟩
  · obtain ⟨cur, h1, h2, h3⟩ := hs _ (List.mem_singleton.2 rfl)
    refine ⟨by simp, .inr ⟨g, cap, cur, rfl, hN, h1, hc, hm, by simpa using h2, ?_⟩⟩
    apply List.ext_getElem?
    intro i
    simp only [List.getElem?_take, Nat.mul_one]
    by_cases hi : i < vs.length
    · rw [if_pos hi]
      have := h3 i _ (List.getElem?_eq_getElem hi)
      rw [List.getElem?_eq_getElem hi, Array.getElem?_toList]; exact this
    · rw [if_neg hi, List.getElem?_eq_none (by omega)]
theorem ownV_of_row {w : World} {N : Nat} {vs : List Value} (h : w.ownsRow N t 1 v vs.length vs) : ∃ He, OwnV N t v vs He ∧ (He = [] ∨ ∃ e, He = [e] ∧ e.lies w ∧ N ≤ e.g ∧ v.ownBlock = some e.g) := by
  rcases h.2 with ⟨rfl, h0⟩ | ⟨g, cap, cur, rfl, hN, h1, hc, hm, hsz, ht⟩
  · exact ⟨[], .inl ⟨rfl, List.length_eq_zero_iff.1 h0, rfl⟩, .inl rfl⟩
  · refine ⟨[⟨g, t, vs, cap⟩], .inr ⟨g, cap, rfl, rfl, hN, hc, hm⟩, .inr ⟨_, rfl, ⟨cur, h1, by simpa using hsz, ?_⟩, hN, rfl⟩⟩
    intro i u hu
    have hi : i < vs.length := (List.getElem?_eq_some_iff.1 hu).1
    have h2 : (cur.toList.take (vs.length * 1))[i]? = some u := by rw [ht]; exact hu
    simpa [List.getElem?_take, hi] using h2
/-- 'append' of one value onto a slice of the call's own. -/
theorem TL.appendOwnV {bytes g : Nat} {vs : List Value} {He : List Ent} {zv : Value} (hg : Wants n ops L o) (hi' : inside n o.dst = true) (ho : o.op = .call { callee := .builtin .append, args := #[x, y], argTypes := #[t, t] })
    (h1 : P.underlying t = some (.slice e)) (hz : (P.info? e).map (fun i => (i.zero, i.size, i.bytes)) = some (some zv, 1, bytes)) (hzc : zv.cells = #[zv])
    (hx : ev L x = some v) (hy : ev L y = some (.slice (some ⟨g, 0, none⟩) 1 1)) (hown : OwnV w0.heap.size e v vs He) (hsrc : ∀ w, St w0 (H ++ He) w → w.cell? ⟨g, 0, none⟩ = some u) (h1c : u.oneCell' = true)
    (h63 : vs.length + 1 ≤ 9223372036854775807) (hbytes : (vs.length + 1) * bytes ≤ 140737488355328)
    (hr : ∀ v' He', OwnV w0.heap.size e v' (vs ++ [u]) He' → TL P ops Q n w0 rest (put L o.dst v') (H ++ He')) : TL P ops Q n w0 (o :: rest) L (H ++ He) :=
  fun a w hf hs => wpL_wants hg.nd (hg a hf) fun K hK => by
    obtain ⟨i, hi1, hi2⟩ := Option.map_eq_some_iff.1 hz
    simp only [Prod.mk.injEq] at hi2
    obtain ⟨hz1, hz2, hz3⟩ := hi2
    have hrow := hown.row (w := w) hs.right
    have hB := hsrc w hs
    have hlen : (vs ++ [u]).length = vs.length + 1 := by simp
    have hcells : ∀ (j : Nat) (q : Value), [u][j]? = some q → w.cell? ((⟨g, 0, none⟩ : Addr).add j) = some q := by
      intro j q hq
      match j, hq with
      | 0, hq => simp at hq; subst hq; rw [addr_add]; exact hB
    obtain ⟨v', w', hrun, hrow', hgrown, hblk0, h6⟩ := run_append_own_at (P := P) w w0.heap.size t o.type e i zv 1 bytes h1 hi1 hz1 hz2 hz3 (by rw [hzc]; rfl) (by omega) v vs.length vs hrow ⟨g, 0, none⟩ 1 1 [u] rfl hcells
      (by intro q hq; rw [List.mem_singleton.1 hq]; exact h1c) (by unfold maxLen; omega) hbytes hs.size
    have hrun' : (execOp a.eval o).run P w = .ok (.value v') w' := by
      simp only [execOp, ho, resolve, invoke, builtin, Sem.run_bind, Sem.run_pure, Result.andThen_ok, List.map_toArray, List.map_cons, List.map_nil, hf.eval hx, hf.eval hy, hrun]
    unfold Oper.wp; rw [hrun']
    rw [← hlen] at hrow'
    obtain ⟨He', hown', hHe⟩ := ownV_of_row hrow'
    have hblk : v'.ownBlock = v.ownBlock ∨ v'.ownBlock = some w.heap.size := h6
    refine hK _ _ (hr v' He' hown' _ _ (hf.put o.dst _ hi') (St.regrow hs hgrown ?_ ?_ ?_ ?_))
    · rcases hown with ⟨rfl, rfl, rfl⟩ | ⟨g, cap, rfl, rfl, _⟩
      · simp
      · simp [Value.ownBlock]
    · rcases hown with ⟨rfl, rfl, rfl⟩ | ⟨g, cap, rfl, rfl, hN, _⟩
      · simp [Value.ownBlock]
      · simp only [Value.ownBlock]; rintro b hb; cases hb; exact hN
    · rcases hown with ⟨rfl, rfl, rfl⟩ | ⟨g, cap, rfl, rfl, hN, _⟩
      · simp [Value.ownBlock]
      · intro c hc heq
        simp only [Value.ownBlock, Option.some.injEq] at heq
        exact (List.pairwise_append.1 hs.apart).2.2 c hc _ (List.mem_singleton.2 rfl) heq
    · rcases hHe with h | ⟨d, h, hd, hdN, hdv⟩
      · exact .inl h
      · refine .inr ⟨d, h, hd, hdN, ?_⟩
        rcases hblk with hb | hb
        · left; rw [← hdv, hb]
        · right; have := Option.some.inj (hb.symm.trans hdv); omega
/-! ### Blocks that a loop made: their contents, their numbers, their capacities -/

def cellsQ (qs : List (List Int × Nat × Nat)) : List Value := qs.map fun q => .slice (some ⟨q.2.1, 0, none⟩) q.1.length q.2.2
def blkQ (t : TypeId) (qs : List (List Int × Nat × Nat)) : List Ent := qs.map fun q => ⟨q.2.1, t, q.1.map (Value.int .u8), q.2.2⟩
def okQ (N : Nat) (qs : List (List Int × Nat × Nat)) : Prop := ∀ q ∈ qs, N ≤ q.2.1 ∧ q.1.length ≤ q.2.2
theorem okQ.nil (N : Nat) : okQ N [] := fun q h => by cases h
theorem okQ.snoc {N : Nat} {qs : List (List Int × Nat × Nat)} {q : (List Int × Nat × Nat)} (h : okQ N qs) (hq : N ≤ q.2.1 ∧ q.1.length ≤ q.2.2) : okQ N (qs ++ [q]) := fun r hr => by
  rcases List.mem_append.1 hr with hr | hr
  · exact h r hr
  · rw [List.mem_singleton.1 hr]; exact hq
theorem blkQ_fresh {qs : List (List Int × Nat × Nat)} (h : okQ w0.heap.size qs) : Fresh w0 (blkQ t qs) := fun e he => by
  obtain ⟨q, hq, rfl⟩ := List.mem_map.1 he
  exact (h q hq).1
theorem blkQ_snoc (t : TypeId) (qs : List (List Int × Nat × Nat)) (q : (List Int × Nat × Nat)) : blkQ t (qs ++ [q]) = blkQ t qs ++ [⟨q.2.1, t, q.1.map (Value.int .u8), q.2.2⟩] := by simp [blkQ]
theorem cellsQ_snoc (qs : List (List Int × Nat × Nat)) (q : (List Int × Nat × Nat)) : cellsQ (qs ++ [q]) = cellsQ qs ++ [.slice (some ⟨q.2.1, 0, none⟩) q.1.length q.2.2] := by simp [cellsQ]
theorem cellsQ_len (qs : List (List Int × Nat × Nat)) : (cellsQ qs).length = qs.length := by simp [cellsQ]
theorem blkQ_len (t : TypeId) (qs : List (List Int × Nat × Nat)) : (blkQ t qs).length = qs.length := by simp [blkQ]
theorem cellsQ_get {qs : List (List Int × Nat × Nat)} {i : Nat} {q : (List Int × Nat × Nat)} (h : qs[i]? = some q) : (cellsQ qs)[i]? = some (.slice (some ⟨q.2.1, 0, none⟩) q.1.length q.2.2) := by simp [cellsQ, h]
theorem blkQ_get {qs : List (List Int × Nat × Nat)} {i : Nat} {q : (List Int × Nat × Nat)} (h : qs[i]? = some q) : (blkQ t qs)[i]? = some ⟨q.2.1, t, q.1.map (Value.int .u8), q.2.2⟩ := by simp [blkQ, h]
theorem blkQ_set {qs : List (List Int × Nat × Nat)} {i : Nat} {q : (List Int × Nat × Nat)} : (blkQ t qs).set i ⟨q.2.1, t, q.1.map (Value.int .u8), q.2.2⟩ = blkQ t (qs.set i q) := by unfold blkQ; rw [List.map_set]
/-- The blocks as parts. -/
theorem partsQ {w : World} {N m c : Nat} {A : Option Addr} {qs : List (List Int × Nat × Nat)} {He : List Ent} (h : OwnV N e (.slice A m c) (cellsQ qs) He) (hs : ∀ d ∈ He, d.lies w) (hb : ∀ d ∈ blkQ t qs, d.lies w) (hq : okQ N qs) : PartsO w A m (qs.map (·.1)) := by
  obtain ⟨hm, hc⟩ := h.cell hs
  rw [cellsQ_len] at hm
  refine ⟨by rw [List.length_map, hm], ?_⟩
  rcases hc with hc | ⟨g, hA, hg, _, hcell⟩
  · exact .inl hc
  · refine .inr ⟨g, 0, hA, hg, fun i hi => ?_⟩
    have hlt : i < qs.length := by omega
    have hgi : qs[i]? = some qs[i] := List.getElem?_eq_getElem hlt
    have hlies := hb _ (List.mem_of_getElem? (blkQ_get (t := t) hgi))
    refine ⟨_, _, _, by rw [Nat.zero_add]; exact hcell i _ (cellsQ_get hgi), ?_, (hq _ (List.mem_of_getElem? hgi)).2⟩
    have hd : (qs.map (·.1)).getD i [] = qs[i].1 := by simp [List.getD_eq_getElem?_getD, hgi]
    rw [hd]
    exact src_ent hlies rfl
theorem St.none {w : World} (h : St w0 H w) (hF : Fresh w0 H) : St w0 [] w := St.left (H := []) h hF
theorem At.mem {off g : Nat} {ent : Ent} (hm : ent ∈ H) (hg : ent.g = g) (hc : ent.cs[off]? = some v) : At w0 H ⟨g, off, none⟩ v := fun w hs => by
  subst hg; exact (hs.has _ hm).cell hc
end
/-! ### Orders of lists -/
theorem perm_mid {α : Type} (A B C : List α) : (A ++ (B ++ C)).Perm ((A ++ C) ++ B) := by
  rw [List.append_assoc]; exact List.Perm.append_left A List.perm_append_comm
theorem perm_mid2 {α : Type} (A B C D : List α) : (A ++ (B ++ (C ++ D))).Perm ((A ++ (B ++ D)) ++ C) := by
  rw [List.append_assoc, List.append_assoc]
  exact List.Perm.append_left A (List.Perm.append_left B List.perm_append_comm)
theorem perm_end {α : Type} (a x : α) (B C D : List α) : ([a, x] ++ (B ++ (C ++ D))).Perm ([x] ++ (B ++ (C ++ (D ++ [a])))) := by
  have h := List.perm_append_comm (l₁ := [a]) (l₂ := [x] ++ (B ++ (C ++ D)))
  simpa [List.append_assoc] using h
theorem perm_reg {α : Type} (a b x : α) (Ho Ha bl Hl : List α) : (([x] ++ (Ho ++ (Ha ++ bl))) ++ (Hl ++ [a, b])).Perm (([a, b, x] ++ (Hl ++ (Ho ++ Ha))) ++ bl) := by
  have h1 : (([x] ++ (Ho ++ (Ha ++ bl))) ++ (Hl ++ [a, b])).Perm ((Hl ++ [a, b]) ++ ([x] ++ (Ho ++ (Ha ++ bl)))) := List.perm_append_comm
  have h2 : ((Hl ++ [a, b]) ++ ([x] ++ (Ho ++ (Ha ++ bl)))).Perm (([a, b] ++ Hl) ++ ([x] ++ (Ho ++ (Ha ++ bl)))) := List.Perm.append_right _ List.perm_append_comm
  have h3 : ([a, b] ++ ((Hl ++ [x]) ++ (Ho ++ (Ha ++ bl)))).Perm ([a, b] ++ (([x] ++ Hl) ++ (Ho ++ (Ha ++ bl)))) := List.Perm.append_left _ (List.Perm.append_right _ List.perm_append_comm)
  refine h1.trans (h2.trans ?_)
  have e1 : ([a, b] ++ Hl) ++ ([x] ++ (Ho ++ (Ha ++ bl))) = [a, b] ++ ((Hl ++ [x]) ++ (Ho ++ (Ha ++ bl))) := by simp
  have e2 : ([a, b, x] ++ (Hl ++ (Ho ++ Ha))) ++ bl = [a, b] ++ (([x] ++ Hl) ++ (Ho ++ (Ha ++ bl))) := by simp
  rw [e1, e2]; exact h3
theorem st_idx {α : Type} {pre l : List α} {j : Nat} {e : α} (h : l[j]? = some e) : (pre ++ l)[pre.length + j]? = some e := by
  rw [List.getElem?_append_right (by omega)]; simpa using h
theorem st_set {α : Type} {pre l : List α} {j : Nat} {x : α} : (pre ++ l).set (pre.length + j) x = pre ++ l.set j x := by
  rw [List.set_append_right _ _ (by omega)]; simp
theorem set_self {α : Type} {l : List α} {j : Nat} {x : α} (h : l[j]? = some x) : l.set j x = l := by
  obtain ⟨hl, rfl⟩ := List.getElem?_eq_some_iff.1 h
  exact List.set_getElem_self hl
theorem set_get {α : Type} {l : List α} {j : Nat} {x y : α} (h : l[j]? = some x) : (l.set j y)[j]? = some y := by
  obtain ⟨hl, _⟩ := List.getElem?_eq_some_iff.1 h
  simp [hl]
def shapeQ (qs : List (List Int × Nat × Nat)) : List (Nat × Nat × Nat) := qs.map fun q => (q.1.length, q.2)
theorem cellsQ_shape {rs qs : List (List Int × Nat × Nat)} (h : shapeQ rs = shapeQ qs) : cellsQ rs = cellsQ qs := by
  have e : ∀ l : List (List Int × Nat × Nat), cellsQ l = (shapeQ l).map fun s => Value.slice (some ⟨s.2.1, 0, none⟩) s.1 s.2.2 := fun l => by simp [cellsQ, shapeQ]
  rw [e, e, h]
theorem shapeQ_len {rs qs : List (List Int × Nat × Nat)} (h : shapeQ rs = shapeQ qs) : rs.length = qs.length := by
  have := congrArg List.length h
  simpa [shapeQ] using this
theorem shapeQ_set {rs : List (List Int × Nat × Nat)} {j : Nat} {D E : List Int} {g c : Nat} (h : rs[j]? = some (D, g, c)) (hE : E.length = D.length) : shapeQ (rs.set j (E, g, c)) = shapeQ rs := by
  unfold shapeQ
  rw [List.map_set]
  refine set_self ?_
  simp [h, hE]
theorem okQ_shape {N : Nat} {rs qs : List (List Int × Nat × Nat)} (h : shapeQ rs = shapeQ qs) (hq : okQ N qs) : okQ N rs := fun r hr => by
  obtain ⟨i, hi⟩ := List.mem_iff_getElem?.1 hr
  have h2 : (shapeQ rs)[i]? = some (r.1.length, r.2) := by simp [shapeQ, hi]
  rw [h] at h2
  simp only [shapeQ, List.getElem?_map, Option.map_eq_some_iff] at h2
  obtain ⟨q, hq1, hq2⟩ := h2
  simp only [Prod.mk.injEq] at hq2
  have h3 := hq q (List.mem_of_getElem? hq1)
  rw [hq2.2, hq2.1] at h3
  exact h3
theorem OwnV.at0 {N m c : Nat} {t : TypeId} {A : Option Addr} {vs : List Value} {He : List Ent} (h : OwnV N t (.slice A m c) vs He) (hm : 0 < vs.length) : ∃ g, A = some ⟨g, 0, none⟩ ∧ He = [⟨g, t, vs, c⟩] ∧ N ≤ g := by
  rcases h with ⟨_, h2, _⟩ | ⟨g, cap, h1, h2, h3, _⟩
  · rw [h2] at hm; exact absurd hm (by simp)
  · cases h1; exact ⟨g, rfl, h2, h3⟩
theorem flat_take200 {Ps : List (List Int)} : ∀ {k : Nat}, (∀ j, j < k → (Ps.getD j []).length ≤ 200) → (Ps.take k).flatten.length ≤ 200 * k
  | 0, _ => by simp
  | k + 1, h => by
    have ih := flat_take200 (k := k) (fun j hj => h j (by omega))
    have hk := h k (by omega)
    by_cases hl : k < Ps.length
    · have hf := flat_succ (i := k) (Ps := Ps) hl []
      simp only [List.nil_append] at hf
      rw [hf, List.length_append]; omega
    · rw [List.take_of_length_le (by omega)] at ih ⊢; omega
theorem take_snocP {Ps : List (List Int)} {k : Nat} (h : k < Ps.length) : Ps.take (k + 1) = Ps.take k ++ [Ps.getD k []] := by
  rw [List.take_add_one, List.getElem?_eq_getElem h]
  simp [List.getD_eq_getElem?_getD, List.getElem?_eq_getElem h]
theorem small200 {Ps : List (List Int)} {k : Nat} (h : ∀ j, j < k → (Ps.getD j []).length ≤ 200) (h2 : (Ps.getD k []).length ≤ 200) : ∀ j, j < k + 1 → (Ps.getD j []).length ≤ 200 := fun j hj => by
  by_cases hjk : j = k
  · rw [hjk]; exact h2
  · exact h j (by omega)
theorem len200 {qs rs : List (List Int × Nat × Nat)} {Ps : List (List Int)} {j n : Nat} {D : List Int} {g c : Nat} (hqm : qs.map (·.1) = Ps) (hsh : shapeQ rs = shapeQ qs) (hr : rs[j]? = some (D, g, c)) (hs : ∀ i, i < n → (Ps.getD i []).length ≤ 200) (hj : j < n) : D.length ≤ 200 := by
  have h2 : (shapeQ rs)[j]? = some (D.length, g, c) := by simp [shapeQ, hr]
  rw [hsh] at h2
  simp only [shapeQ, List.getElem?_map, Option.map_eq_some_iff] at h2
  obtain ⟨q, hq1, hq2⟩ := h2
  simp only [Prod.mk.injEq] at hq2
  have h3 := hs j hj
  have h4 : Ps.getD j [] = q.1 := by rw [← hqm]; simp [List.getD_eq_getElem?_getD, hq1]
  rw [h4] at h3
  omega
end Go.Proofs.Ytkgamkjdkapchaa
/-
  The reference of layer 5: With, Sort.
-/
namespace Go.Proofs.Ytkgamkjdkapchaa
set_option linter.unusedVariables false
set_option linter.unusedSimpArgs false
open Go Go.RowKit
theorem mk40 : (Try.prog.info? 40).map (fun i => (i.zero, i.size, i.bytes)) = some (some (.agg #[.int .i64 0, .int .i64 0, .int .i64 0, .int .i64 0, .slice none 0 0]), 5, 56) := by kernel_rfl
theorem zero25 : (Try.prog.info? 25).bind (·.zero) = some (.agg #[.int .i64 0, .int .i64 0, .int .u8 0, .int .u8 0, .int .u8 0, .int .u8 0, .int .u8 0, .int .u8 0, .int .u8 0, .int .u8 0, .int .u8 0, .int .u8 0, .int .u8 0, .int .u8 0, .int .u8 0, .int .u8 0, .int .u8 0, .int .u8 0, .int .u8 0, .int .u8 0, .int .u8 0, .int .u8 0, .int .u8 0, .int .u8 0, .int .u8 0, .int .u8 0, .int .u8 0, .int .u8 0, .int .u8 0, .int .u8 0, .int .u8 0, .int .u8 0, .int .u8 0, .int .u8 0, .int .u8 0, .int .u8 0, .int .u8 0, .int .u8 0, .int .u8 0, .int .u8 0, .int .u8 0, .int .u8 0, .int .u8 0, .int .u8 0, .int .u8 0, .int .u8 0, .int .u8 0, .int .u8 0, .int .u8 0, .int .u8 0, .int .u8 0, .int .u8 0, .int .u8 0, .int .u8 0, .int .u8 0, .int .u8 0, .int .u8 0, .int .u8 0, .int .u8 0, .int .u8 0, .int .u8 0, .int .u8 0, .int .u8 0, .int .u8 0, .int .u8 0, .int .u8 0, .slice none 0 0]) := by kernel_rfl
set_option maxRecDepth 100000 in
set_option maxHeartbeats 400000 in
theorem rwith_c (o n : Int) (H1 H2 : List Int) (hH1 : H1.length = 32) (hH2 : H2.length = 32) (A A2 : Option Addr) (m c m2 c2 : Nat) (w : World) : Calls Try.prog 18 #[.agg ([Value.int .i64 o, Value.int .i64 n] ++ (H1.map (Value.int .u8) ++ (H2.map (Value.int .u8) ++ ([Value.slice A m c])))).toArray, .slice A2 m2 c2] w fun e w' => e = .returned (.agg ([Value.int .i64 o, Value.int .i64 n] ++ (H1.map (Value.int .u8) ++ (H2.map (Value.int .u8) ++ ([Value.slice A2 m2 c2])))).toArray) ∧ St w [] w' := by
  refine calls_from (args := [.agg ([Value.int .i64 o, Value.int .i64 n] ++ (H1.map (Value.int .u8) ++ (H2.map (Value.int .u8) ++ ([Value.slice A m c])))).toArray, .slice A2 m2 c2]) Try.func18 rfl Try.ntmps18 (by simp) ?_
  refine TC.sub (Sub.cons (i := 0) rfl (Sub.cons (i := 1) rfl (Sub.nil))) ?_
  refine TC.seq ?_
  refine TC.regionL ?_
  refine TL.box (Wants.none rfl) rfl rfl rfl (cs := [Value.int .i64 o, Value.int .i64 n] ++ (H1.map (Value.int .u8) ++ (H2.map (Value.int .u8) ++ ([Value.slice A m c])))) (by simp [Value.cells]) (tot := 67) (by simp [hH1, hH2]) (fun g1 hg1 => ?_)
  refine TL.alloc (Wants.none rfl) rfl rfl zero25 (cs := [Value.int .i64 0, Value.int .i64 0] ++ ((List.replicate 64 0).map (Value.int .u8) ++ ([Value.slice none 0 0]))) rfl (tot := 67) (by simp) (fun g2 hg2 => ?_)
  refine TL.nil ?_
  refine TE.then ?_
  refine TC.seq ?_
  refine TC.regionL ?_
  refine TL.gets (Wants.none rfl) rfl (Gets.move rfl rfl) ?_
  refine TL.gets (Wants.none rfl) rfl (Gets.fieldAddr rfl Try.underlying25 rfl size23 rfl (off' := 66) (by first | rfl | omega)) ?_
  refine TL.store1 (Wants.none rfl) rfl rfl size23 rfl rfl rfl (i := 1) rfl rfl (by simp [hH1, hH2] <;> omega) (cs' := [Value.int .i64 o, Value.int .i64 n] ++ (H1.map (Value.int .u8) ++ (H2.map (Value.int .u8) ++ ([Value.slice A2 m2 c2])))) (set_right (a := 2) (i := 64) (rfl) (set_right (a := 32) (i := 32) (ints_len hH1) (set_right (a := 32) (i := 0) (ints_len hH2) (rfl)))) (H' := [⟨g2, 25, [Value.int .i64 0, Value.int .i64 0] ++ ((List.replicate 64 0).map (Value.int .u8) ++ ([Value.slice none 0 0])), 67⟩, ⟨g1, 25, [Value.int .i64 o, Value.int .i64 n] ++ (H1.map (Value.int .u8) ++ (H2.map (Value.int .u8) ++ ([Value.slice A2 m2 c2]))), 67⟩]) rfl ?_
  refine TL.nil ?_
  refine TE.then ?_
  refine TC.seq ?_
  refine TC.regionL ?_
  refine TL.gets (Wants.none rfl) rfl (Gets.loadN rfl agg25 size25 rfl (vs := [Value.int .i64 o, Value.int .i64 n] ++ (H1.map (Value.int .u8) ++ (H2.map (Value.int .u8) ++ ([Value.slice A2 m2 c2])))) (by simp [hH1, hH2]) (Row.all (i := 1) (ent := ⟨g1, 25, [Value.int .i64 o, Value.int .i64 n] ++ (H1.map (Value.int .u8) ++ (H2.map (Value.int .u8) ++ ([Value.slice A2 m2 c2]))), 67⟩) rfl rfl rfl)) ?_
  refine TL.storeW (Wants.none rfl) rfl rfl size25 rfl (vs := [Value.int .i64 o, Value.int .i64 n] ++ (H1.map (Value.int .u8) ++ (H2.map (Value.int .u8) ++ ([Value.slice A2 m2 c2])))) rfl (by simp [hH1, hH2]) (ones_app (by simp [Value.oneCell']) (ones_app ints_one (ones_app ints_one (by simp [Value.oneCell'])))) (i := 0) (ent := ⟨g2, 25, [Value.int .i64 0, Value.int .i64 0] ++ ((List.replicate 64 0).map (Value.int .u8) ++ ([Value.slice none 0 0])), 67⟩) rfl rfl (by simp []) (H' := [⟨g2, 25, [Value.int .i64 o, Value.int .i64 n] ++ (H1.map (Value.int .u8) ++ (H2.map (Value.int .u8) ++ ([Value.slice A2 m2 c2]))), 67⟩, ⟨g1, 25, [Value.int .i64 o, Value.int .i64 n] ++ (H1.map (Value.int .u8) ++ (H2.map (Value.int .u8) ++ ([Value.slice A2 m2 c2]))), 67⟩]) rfl ?_
  refine TL.nil ?_
  refine TE.then ?_
  refine TC.ret ?_
  exact TE.retC rfl agg25 size25 rfl (vs := [Value.int .i64 o, Value.int .i64 n] ++ (H1.map (Value.int .u8) ++ (H2.map (Value.int .u8) ++ ([Value.slice A2 m2 c2])))) (by simp [hH1, hH2]) (Row.all (i := 0) (ent := ⟨g2, 25, [Value.int .i64 o, Value.int .i64 n] ++ (H1.map (Value.int .u8) ++ (H2.map (Value.int .u8) ++ ([Value.slice A2 m2 c2]))), 67⟩) rfl rfl rfl) (fun w hs => ⟨rfl, ((hs.drop (by assumption)).drop (by assumption))⟩)

set_option maxRecDepth 100000 in
set_option maxHeartbeats 1000000 in
theorem rsort_c (A : Option Addr) (m c : Nat) (Cs : List CV) (hmm : m ≤ 1000000000) (hN : NumsC Cs) (w : World) (hC : SrcC w A m Cs)  : Calls Try.prog 19 #[.slice A m c] w fun e w' => ∃ v Es He, e = .returned v ∧ OwnS w.heap.size 40 5 v m (flatC Es) He ∧ Es.Perm Cs ∧ Es.Pairwise leC ∧ St w He w' := by
  refine calls_from (args := [.slice A m c]) Try.func19 rfl Try.ntmps19 (by simp) ?_
  refine TC.sub (Sub.cons (i := 0) rfl (Sub.nil)) ?_
  refine TC.seq ?_
  refine TC.regionL ?_
  refine TL.gets (Wants.none rfl) rfl (Gets.assign rfl rfl) ?_
  refine TL.nil ?_
  refine TE.then ?_
  refine TC.seq ?_
  refine TC.regionL ?_
  refine TL.gets (Wants.none rfl) rfl (Gets.assign rfl rfl) ?_
  refine TL.nil ?_
  refine TE.then ?_
  refine TC.seq ?_
  refine TC.seq ?_
  refine TC.regionL ?_
  refine TL.gets (Wants.none rfl) rfl (Gets.assign rfl rfl) ?_
  refine TL.nil ?_
  refine TE.then ?_
  refine TC.block ?_
  refine TC.loop (ι := WS) (fun x0 => [(0, .slice A m c), (3, x0.v), (4, .int .i64 (x0.i : Int))]) (fun x0 => [] ++ x0.He) (fun x0 => m - x0.i) (fun x0 => OwnS w.heap.size 40 5 x0.v x0.i (flatC x0.Es) x0.He ∧ x0.Es.Perm (Cs.take x0.i) ∧ x0.Es.Pairwise leC ∧ x0.i ≤ m) (⟨0, .slice none 0 0, [], []⟩ : WS) ⟨OwnS.nil _ _ _, List.Perm.refl _, .nil, Nat.zero_le _⟩ (Sub.slice (i := 0) rfl rfl (by first | omega | (dsimp only; omega) | rfl) (by first | omega | (dsimp only; omega) | rfl) (Sub.cons (i := 3) rfl (Sub.int (i := 4) rfl (by first | omega | rfl) (Sub.nil)))) (fun w h => h) (fun x0 hC0 => ?_)
  obtain ⟨i, v, Es, He⟩ := x0
  obtain ⟨hown, hEp, hEs, him⟩ := hC0
  dsimp only at hown hEp hEs him ⊢
  have hF : Fresh w He := hown.new
  have hEl : Es.length = i := by have := hown.1; rw [flatC_len] at this; omega
  refine TC.seq ?_
  refine TC.seq ?_
  refine TC.regionL ?_
  refine TL.gets (Wants.none rfl) rfl (Gets.move rfl rfl) ?_
  refine TL.gets (Wants.none rfl) rfl (Gets.move rfl rfl) ?_
  refine TL.gets (Wants.none rfl) rfl (Gets.lenSlice rfl Try.underlying23 rfl) ?_
  refine TL.gets (Wants.none rfl) rfl (Gets.lss rfl rfl rfl) ?_
  refine TL.nil ?_
  refine TE.then ?_
  refine TC.split rfl (fun hq0 => ?_) (fun hq0 => ?_)
  · obtain ⟨Ao, co, rfl, hco, hco2⟩ := hown.form
    obtain ⟨b, off, hAe, hb, hrw⟩ := hC.some_ (i := i) (by omega)
    subst hAe
    obtain ⟨x, hx⟩ := hC.get (i := i) (by omega)
    have hnx := hN i x hx
    unfold NumC at hnx
    have hlbx := lenV_bd (k := x.k) (l := x.l) (m := x.m) (by omega) (by omega)
    refine TC.skip ?_
    refine TE.then ?_
    refine TC.seq ?_
    refine TC.block ?_
    refine TC.seq ?_
    refine TC.regionL ?_
    refine TL.gets (Wants.none rfl) rfl (Gets.move rfl rfl) ?_
    refine TL.gets (Wants.none rfl) rfl (Gets.lenSlice rfl Try.underlying23 rfl) ?_
    refine TL.gets (Wants.none rfl) rfl (Gets.assign rfl rfl) ?_
    refine TL.nil ?_
    refine TE.then ?_
    refine TC.sub (Sub.cons (i := 0) rfl (Sub.cons (i := 3) rfl (Sub.cons (i := 4) rfl (Sub.cons (i := 5) rfl (Sub.nil))))) ?_
    refine TC.seq ?_
    refine TC.block ?_
    refine TC.loop (ι := Nat) (fun q => [(0, .slice (some ⟨b, off, none⟩) m c), (3, .slice Ao i co), (4, .int .i64 (i : Int)), (5, .int .i64 (q : Int))]) (fun q => [] ++ He) (fun q => q) (fun q => q ≤ i ∧ ∀ (j : Nat) (y : CV), q ≤ j → Es[j]? = some y → x.t < y.t) i ⟨Nat.le_refl _, fun j y h hy => by have := (List.getElem?_eq_some_iff.1 hy).1; omega⟩ (Sub.slice (i := 0) rfl rfl (by first | omega | (dsimp only; omega) | rfl) (by first | omega | (dsimp only; omega) | rfl) (Sub.slice (i := 3) rfl rfl (by first | omega | (dsimp only; omega) | rfl) (by first | omega | (dsimp only; omega) | rfl) (Sub.int (i := 4) rfl (by first | omega | rfl) (Sub.int (i := 5) rfl (by first | omega | rfl) (Sub.nil))))) (fun w h => h) (fun q hC1 => ?_)
    obtain ⟨hQ, hgt⟩ := hC1
    refine TC.seq ?_
    refine TC.seq ?_
    refine TC.mix (by kernel_rfl) [0, 0, 0, 0, 0, 0, 0, 0, 1, 0, 0, 0, 0, 1, 0, 0] rfl (by kernel_rfl) ?_
    refine TM.free (Wants.none rfl) rfl (fun _ => Gets.move rfl rfl) ?_
    by_cases c1 : 0 < (q : Int)
    · obtain ⟨q1, rfl⟩ : ∃ q1, q = q1 + 1 := ⟨q - 1, by omega⟩
      obtain ⟨g, hAo, _, hHe, hgN, _⟩ := hown.at0 (by omega)
      subst hAo
      obtain ⟨y, hy⟩ : ∃ y, Es[q1]? = some y := ⟨_, List.getElem?_eq_getElem (by omega)⟩
      refine TM.free (Wants.none rfl) rfl (fun _ => Gets.isTrue (Gets.gtr rfl rfl rfl) (by omega)) ?_
      refine TM.free (Wants.none rfl) rfl (fun _ => Gets.move rfl rfl) ?_
      refine TM.free (Wants.yes rfl rfl rfl) rfl (fun _ => Gets.move rfl rfl) ?_
      refine TM.free (Wants.yes rfl rfl rfl) rfl (fun _ => Gets.move rfl rfl) ?_
      refine TM.free (Wants.yes rfl rfl rfl) rfl (fun _ => Gets.sub rfl rfl rfl (r := (q1 : Int)) (w64 (by omega) (by omega))) ?_
      refine TM.free (Wants.yes rfl rfl rfl) rfl (fun _ => Gets.idxSlice rfl Try.underlying23 size40 rfl rfl (i := q1) (by omega) (by omega) (off' := (5 * q1)) (by omega)) ?_
      refine TM.free (Wants.yes rfl rfl rfl) rfl (fun _ => Gets.fieldAddr rfl Try.underlying40 rfl size3 rfl (off' := (5 * q1 + 1)) (by first | rfl | omega)) ?_
      refine TM.gets (Wants.yes rfl rfl rfl) rfl (Gets.load1 rfl agg3 rfl (At.mem (ent := ⟨g, 40, flatC Es, co * 5⟩) (by simp [hHe]) rfl (flatC_get (j := 1) hy rfl))) ?_
      refine TM.free (Wants.yes rfl rfl rfl) rfl (fun _ => Gets.move rfl rfl) ?_
      refine TM.free (Wants.yes rfl rfl rfl) rfl (fun _ => Gets.move rfl rfl) ?_
      refine TM.free (Wants.yes rfl rfl rfl) rfl (fun _ => Gets.idxSlice rfl Try.underlying23 size40 rfl rfl (i := i) (by omega) (by omega) (off' := (off + 5 * i)) (by omega)) ?_
      refine TM.free (Wants.yes rfl rfl rfl) rfl (fun _ => Gets.fieldAddr rfl Try.underlying40 rfl size3 rfl (off' := (off + 5 * i + 1)) (by first | rfl | omega)) ?_
      refine TM.gets (Wants.yes rfl rfl rfl) rfl (Gets.load1 rfl agg3 rfl (At.old (hrw i x hx 1 _ rfl) hb (ne_app ne_nil (hF.ne hb)))) ?_
      refine TM.free (Wants.yes rfl rfl rfl) rfl (fun _ => Gets.gtr rfl rfl rfl) ?_
      refine TM.free (Wants.none rfl) rfl (fun _ => Gets.pickT rfl rfl rfl) ?_
      refine TM.nil ?_
      refine TE.then ?_
      refine TC.sub (Sub.cons (i := 0) rfl (Sub.cons (i := 3) rfl (Sub.cons (i := 4) rfl (Sub.cons (i := 5) rfl (Sub.cons (i := 29) rfl (Sub.nil)))))) ?_
      refine TC.split rfl (fun hq1 => ?_) (fun hq1 => ?_)
      · refine TC.skip ?_
        refine TE.then ?_
        refine TC.block ?_
        refine TC.regionL ?_
        refine TL.gets (Wants.none rfl) rfl (Gets.move rfl rfl) ?_
        refine TL.gets (Wants.none rfl) rfl (Gets.sub rfl rfl rfl (r := (q1 : Int)) (w64 (by omega) (by omega))) ?_
        refine TL.gets (Wants.none rfl) rfl (Gets.assign rfl rfl) ?_
        refine TL.nil ?_
        refine TE.blockN ?_
        exact TE.back q1 (by omega) ⟨by omega, fun j z hj hz => if e : j = q1 then (by subst e; rw [hy] at hz; cases hz; omega) else hgt j z (by omega) hz⟩ (Sub.slice (i := 0) rfl rfl (by first | omega | (dsimp only; omega) | rfl) (by first | omega | (dsimp only; omega) | rfl) (Sub.slice (i := 3) rfl (by first | rfl | (congr 2; omega)) (by first | omega | (dsimp only; omega) | rfl) (by first | omega | (dsimp only; omega) | rfl) (Sub.int (i := 4) rfl (by first | omega | rfl) (Sub.int (i := 5) rfl (by first | omega | rfl) (Sub.nil))))) (fun w h => h)
      · refine TC.exit ?_
        refine TE.thenX ?_
        refine TE.thenX ?_
        refine TE.blockX ?_
        refine TE.then ?_
        refine TC.mixT ([] ++ He) [] (by kernel_rfl) [3, 0, 0, 0, 7, 0, 0, 0, 0, 3, 7, 0, 0, 0, 7, 0] [1, 2, 3, 5, 6, 7, 8, 11, 12, 13, 0, 4, 9, 10, 14, 15] [fun v d => ∃ g, v = .slice (some ⟨g, 0, none⟩) 0 0 ∧ d = [⟨g, 40, [], 0⟩], fun _ _ => True, fun _ _ => True, fun _ _ => True, fun v' d => OwnS w.heap.size 40 5 v' (0 + q1 + 1) (([] : List Value) ++ flatC (Es.take (q1 + 1))) d, fun _ _ => True, fun _ _ => True, fun _ _ => True, fun _ _ => True, fun v d => ∃ g, v = .slice (some ⟨g, 0, none⟩) 1 1 ∧ d = [⟨g, 40, [Value.int .i64 x.k, Value.int .i64 x.t, Value.int .i64 x.f, Value.int .i64 x.l, Value.slice x.A x.m x.c], 5⟩], fun v' d => OwnS w.heap.size 40 5 v' ((0 + q1 + 1) + 1) (([] ++ flatC (Es.take (q1 + 1))) ++ cellsC x) d, fun _ _ => True, fun _ _ => True, fun _ _ => True, fun v' d => OwnS w.heap.size 40 5 v' ((0 + q1 + 1 + 1) + (i - (q1 + 1))) ((([] ++ flatC (Es.take (q1 + 1))) ++ cellsC x) ++ flatC (Es.drop (q1 + 1))) d, fun _ _ => True] (by kernel_rfl) (by kernel_rfl) (List.Perm.of_eq (List.append_nil _).symm) Fresh.nil ?_
        refine TT.free (Wants.none rfl) rfl (fun Z hZ => Gets.move rfl rfl) ?_
        refine TT.free (Wants.none rfl) rfl (fun Z hZ => Gets.move rfl rfl) ?_
        refine TT.free (Wants.none rfl) rfl (fun Z hZ => Gets.sliceS rfl Try.underlying23 size40 rfl bnd.dflt (bnd.at_ (l := (q1 + 1)) rfl (by omega)) (by omega) (by omega) (cutA_zero _ _ _) (ln := (q1 + 1)) (cp := co) (by omega) (by omega)) ?_
        refine TT.free (Wants.none rfl) rfl (fun Z hZ => Gets.move rfl rfl) ?_
        refine TT.free (Wants.none rfl) rfl (fun Z hZ => Gets.move rfl rfl) ?_
        refine TT.free (Wants.none rfl) rfl (fun Z hZ => Gets.idxSlice rfl Try.underlying23 size40 rfl rfl (i := i) (by omega) (by omega) (off' := (off + 5 * i)) (by omega)) ?_
        refine TT.free (Wants.none rfl) rfl (fun Z hZ => Gets.loadN rfl agg40 size40 rfl rfl (Row.old (fun jj u h => hrw i x hx jj u h) hb (ne_app (ne_app ne_nil (hF.ne hb)) (hZ.ne hb)))) ?_
        refine TT.free (Wants.none rfl) rfl (fun Z hZ => Gets.move rfl rfl) ?_
        refine TT.free (Wants.none rfl) rfl (fun Z hZ => Gets.move rfl rfl) ?_
        refine TT.free (Wants.none rfl) rfl (fun Z hZ => Gets.sliceS rfl Try.underlying23 size40 rfl (bnd.at_ (l := (q1 + 1)) rfl (by omega)) bnd.dflt (by omega) (by omega) rfl (ln := (i - q1 - 1)) (cp := (co - q1 - 1)) (by omega) (by omega)) ?_
        refine TT.emptySlice (Wants.none rfl) rfl rfl Try.underlying23 size40 (fun ge hge => ?_)
        refine TT.appendS (Wants.none rfl) rfl rfl Try.underlying23 mk40 rfl (by decide) rfl rfl (s := 5) (nn := 0) (m := q1 + 1) (cs := ([] : List Value)) (news := flatC (Es.take (q1 + 1))) (OwnS.empty hge rfl) (X0 := []) (List.Perm.refl _) (by rw [flatC_len, List.length_take]; omega) (fun Z w hZ hs => hown.srcHead (fun e he => hs.has e (by simp [he])) (by omega)) (flatC_one' _) (by unfold maxLen; omega) (by omega) (fun v1 Hv1 hv1 => ?_)
        refine TT.buildSlice (Wants.none rfl) rfl rfl Try.underlying23 size40 zero40 rfl (by decide) (by decide) (cells := #[Value.int .i64 x.k, Value.int .i64 x.t, Value.int .i64 x.f, Value.int .i64 x.l, Value.slice x.A x.m x.c]) (tot := 5) (by kernel_rfl) (cs := [Value.int .i64 x.k, Value.int .i64 x.t, Value.int .i64 x.f, Value.int .i64 x.l, Value.slice x.A x.m x.c]) rfl rfl (fun gb hgb => ?_)
        refine TT.appendS (Wants.none rfl) rfl rfl Try.underlying23 mk40 rfl (by decide) rfl rfl (s := 5) (nn := (0 + q1 + 1)) (m := 1) (cs := ([] ++ flatC (Es.take (q1 + 1)))) (news := cellsC x) hv1 (X0 := [⟨gb, 40, [Value.int .i64 x.k, Value.int .i64 x.t, Value.int .i64 x.f, Value.int .i64 x.l, Value.slice x.A x.m x.c], 5⟩]) List.perm_append_comm rfl (fun Z w hZ hs => lies_srcV (hs.has ⟨gb, 40, [Value.int .i64 x.k, Value.int .i64 x.t, Value.int .i64 x.f, Value.int .i64 x.l, Value.slice x.A x.m x.c], 5⟩ (by simp))) (by intro u hu; exact flatC_one' [x] u (by rw [flatC_one]; exact hu)) (by unfold maxLen; omega) (by omega) (fun v2 Hv2 hv2 => ?_)
        refine TT.appendS (Wants.none rfl) rfl rfl Try.underlying23 mk40 rfl (by decide) rfl rfl (s := 5) (nn := (0 + q1 + 1 + 1)) (m := (i - (q1 + 1))) (cs := (([] ++ flatC (Es.take (q1 + 1))) ++ cellsC x)) (news := flatC (Es.drop (q1 + 1))) hv2 (X0 := [⟨gb, 40, [Value.int .i64 x.k, Value.int .i64 x.t, Value.int .i64 x.f, Value.int .i64 x.l, Value.slice x.A x.m x.c], 5⟩]) (List.Perm.refl _) (by rw [flatC_len, List.length_drop]; omega) (fun Z w hZ hs => hown.srcCut (fun e he => hs.has e (by simp [he])) (by omega)) (flatC_one' _) (by unfold maxLen; omega) (by omega) (fun v3 Hv3 hv3 => ?_)
        refine TT.free (Wants.none rfl) rfl (fun Z hZ => Gets.assign rfl rfl) ?_
        refine TT.nil ?_
        refine TE.blockN ?_
        refine TE.then ?_
        refine TC.sub (Sub.cons (i := 0) rfl (Sub.cons (i := 3) rfl (Sub.cons (i := 4) rfl (Sub.nil)))) ?_
        refine TC.regionL ?_
        refine TL.gets (Wants.none rfl) rfl (Gets.move rfl rfl) ?_
        refine TL.gets (Wants.none rfl) rfl (Gets.add rfl rfl rfl (r := ((i : Int) + 1)) (w64 (by omega) (by omega))) ?_
        refine TL.gets (Wants.none rfl) rfl (Gets.assign rfl rfl) ?_
        refine TL.nil ?_
        exact TE.back (⟨i + 1, v3, insC Es (q1 + 1) x, Hv3⟩ : WS) (by show m - (i + 1) < m - i; omega) ⟨ins_own hv3 (by omega), ins_perm hEp hx, insC_sorted hEs (head_le hEs hy (by omega)) hgt, by show i + 1 ≤ m; omega⟩ (Sub.slice (i := 0) rfl (by first | rfl | (congr 2; omega)) (by first | omega | (dsimp only; omega) | rfl) (by first | omega | (dsimp only; omega) | rfl) (Sub.cons (i := 3) rfl (Sub.int (i := 4) rfl (by first | omega | rfl) (Sub.nil)))) (fun w h => st_keep h hF (fresh_one hgb))
    · refine TM.free (Wants.none rfl) rfl (fun _ => Gets.isFalse (Gets.gtr rfl rfl rfl) c1) ?_
      refine TM.free (Wants.none rfl) rfl (fun _ => Gets.move rfl rfl) ?_
      refine TM.pass rfl rfl rfl rfl rfl ?_
      refine TM.pass rfl rfl rfl rfl rfl ?_
      refine TM.pass rfl rfl rfl rfl rfl ?_
      refine TM.pass rfl rfl rfl rfl rfl ?_
      refine TM.pass rfl rfl rfl rfl rfl ?_
      refine TM.pass1 rfl rfl rfl rfl rfl ?_
      refine TM.pass rfl rfl rfl rfl rfl ?_
      refine TM.pass rfl rfl rfl rfl rfl ?_
      refine TM.pass rfl rfl rfl rfl rfl ?_
      refine TM.pass rfl rfl rfl rfl rfl ?_
      refine TM.pass1 rfl rfl rfl rfl rfl ?_
      refine TM.pass rfl rfl rfl rfl rfl ?_
      refine TM.free (Wants.none rfl) rfl (fun _ => Gets.pickF rfl rfl rfl) ?_
      refine TM.nil ?_
      refine TE.then ?_
      refine TC.sub (Sub.cons (i := 0) rfl (Sub.cons (i := 3) rfl (Sub.cons (i := 4) rfl (Sub.cons (i := 5) rfl (Sub.cons (i := 29) rfl (Sub.nil)))))) ?_
      refine TC.no rfl ?_
      refine TC.exit ?_
      refine TE.thenX ?_
      refine TE.thenX ?_
      refine TE.blockX ?_
      refine TE.then ?_
      refine TC.mixT ([] ++ He) [] (by kernel_rfl) [3, 0, 0, 0, 7, 0, 0, 0, 0, 3, 7, 0, 0, 0, 7, 0] [1, 2, 3, 5, 6, 7, 8, 11, 12, 13, 0, 4, 9, 10, 14, 15] [fun v d => ∃ g, v = .slice (some ⟨g, 0, none⟩) 0 0 ∧ d = [⟨g, 40, [], 0⟩], fun _ _ => True, fun _ _ => True, fun _ _ => True, fun v' d => OwnS w.heap.size 40 5 v' (0 + q) (([] : List Value) ++ flatC (Es.take q)) d, fun _ _ => True, fun _ _ => True, fun _ _ => True, fun _ _ => True, fun v d => ∃ g, v = .slice (some ⟨g, 0, none⟩) 1 1 ∧ d = [⟨g, 40, [Value.int .i64 x.k, Value.int .i64 x.t, Value.int .i64 x.f, Value.int .i64 x.l, Value.slice x.A x.m x.c], 5⟩], fun v' d => OwnS w.heap.size 40 5 v' ((0 + q) + 1) (([] ++ flatC (Es.take q)) ++ cellsC x) d, fun _ _ => True, fun _ _ => True, fun _ _ => True, fun v' d => OwnS w.heap.size 40 5 v' ((0 + q + 1) + (i - q)) ((([] ++ flatC (Es.take q)) ++ cellsC x) ++ flatC (Es.drop q)) d, fun _ _ => True] (by kernel_rfl) (by kernel_rfl) (List.Perm.of_eq (List.append_nil _).symm) Fresh.nil ?_
      refine TT.free (Wants.none rfl) rfl (fun Z hZ => Gets.move rfl rfl) ?_
      refine TT.free (Wants.none rfl) rfl (fun Z hZ => Gets.move rfl rfl) ?_
      refine TT.free (Wants.none rfl) rfl (fun Z hZ => Gets.sliceS rfl Try.underlying23 size40 rfl bnd.dflt (bnd.at_ (l := q) rfl (by omega)) (by omega) (by omega) (cutA_zero _ _ _) (ln := q) (cp := co) (by omega) (by omega)) ?_
      refine TT.free (Wants.none rfl) rfl (fun Z hZ => Gets.move rfl rfl) ?_
      refine TT.free (Wants.none rfl) rfl (fun Z hZ => Gets.move rfl rfl) ?_
      refine TT.free (Wants.none rfl) rfl (fun Z hZ => Gets.idxSlice rfl Try.underlying23 size40 rfl rfl (i := i) (by omega) (by omega) (off' := (off + 5 * i)) (by omega)) ?_
      refine TT.free (Wants.none rfl) rfl (fun Z hZ => Gets.loadN rfl agg40 size40 rfl rfl (Row.old (fun jj u h => hrw i x hx jj u h) hb (ne_app (ne_app ne_nil (hF.ne hb)) (hZ.ne hb)))) ?_
      refine TT.free (Wants.none rfl) rfl (fun Z hZ => Gets.move rfl rfl) ?_
      refine TT.free (Wants.none rfl) rfl (fun Z hZ => Gets.move rfl rfl) ?_
      refine TT.free (Wants.none rfl) rfl (fun Z hZ => Gets.sliceS rfl Try.underlying23 size40 rfl (bnd.at_ (l := q) rfl (by omega)) bnd.dflt (by omega) (by omega) rfl (ln := (i - q)) (cp := (co - q)) (by omega) (by omega)) ?_
      refine TT.emptySlice (Wants.none rfl) rfl rfl Try.underlying23 size40 (fun ge hge => ?_)
      refine TT.appendS (Wants.none rfl) rfl rfl Try.underlying23 mk40 rfl (by decide) rfl rfl (s := 5) (nn := 0) (m := q) (cs := ([] : List Value)) (news := flatC (Es.take q)) (OwnS.empty hge rfl) (X0 := []) (List.Perm.refl _) (by rw [flatC_len, List.length_take]; omega) (fun Z w hZ hs => hown.srcHead (fun e he => hs.has e (by simp [he])) (by omega)) (flatC_one' _) (by unfold maxLen; omega) (by omega) (fun v1 Hv1 hv1 => ?_)
      refine TT.buildSlice (Wants.none rfl) rfl rfl Try.underlying23 size40 zero40 rfl (by decide) (by decide) (cells := #[Value.int .i64 x.k, Value.int .i64 x.t, Value.int .i64 x.f, Value.int .i64 x.l, Value.slice x.A x.m x.c]) (tot := 5) (by kernel_rfl) (cs := [Value.int .i64 x.k, Value.int .i64 x.t, Value.int .i64 x.f, Value.int .i64 x.l, Value.slice x.A x.m x.c]) rfl rfl (fun gb hgb => ?_)
      refine TT.appendS (Wants.none rfl) rfl rfl Try.underlying23 mk40 rfl (by decide) rfl rfl (s := 5) (nn := (0 + q)) (m := 1) (cs := ([] ++ flatC (Es.take q))) (news := cellsC x) hv1 (X0 := [⟨gb, 40, [Value.int .i64 x.k, Value.int .i64 x.t, Value.int .i64 x.f, Value.int .i64 x.l, Value.slice x.A x.m x.c], 5⟩]) List.perm_append_comm rfl (fun Z w hZ hs => lies_srcV (hs.has ⟨gb, 40, [Value.int .i64 x.k, Value.int .i64 x.t, Value.int .i64 x.f, Value.int .i64 x.l, Value.slice x.A x.m x.c], 5⟩ (by simp))) (by intro u hu; exact flatC_one' [x] u (by rw [flatC_one]; exact hu)) (by unfold maxLen; omega) (by omega) (fun v2 Hv2 hv2 => ?_)
      refine TT.appendS (Wants.none rfl) rfl rfl Try.underlying23 mk40 rfl (by decide) rfl rfl (s := 5) (nn := (0 + q + 1)) (m := (i - q)) (cs := (([] ++ flatC (Es.take q)) ++ cellsC x)) (news := flatC (Es.drop q)) hv2 (X0 := [⟨gb, 40, [Value.int .i64 x.k, Value.int .i64 x.t, Value.int .i64 x.f, Value.int .i64 x.l, Value.slice x.A x.m x.c], 5⟩]) (List.Perm.refl _) (by rw [flatC_len, List.length_drop]; omega) (fun Z w hZ hs => hown.srcCut (fun e he => hs.has e (by simp [he])) (by omega)) (flatC_one' _) (by unfold maxLen; omega) (by omega) (fun v3 Hv3 hv3 => ?_)
      refine TT.free (Wants.none rfl) rfl (fun Z hZ => Gets.assign rfl rfl) ?_
      refine TT.nil ?_
      refine TE.blockN ?_
      refine TE.then ?_
      refine TC.sub (Sub.cons (i := 0) rfl (Sub.cons (i := 3) rfl (Sub.cons (i := 4) rfl (Sub.nil)))) ?_
      refine TC.regionL ?_
      refine TL.gets (Wants.none rfl) rfl (Gets.move rfl rfl) ?_
      refine TL.gets (Wants.none rfl) rfl (Gets.add rfl rfl rfl (r := ((i : Int) + 1)) (w64 (by omega) (by omega))) ?_
      refine TL.gets (Wants.none rfl) rfl (Gets.assign rfl rfl) ?_
      refine TL.nil ?_
      exact TE.back (⟨i + 1, v3, insC Es q x, Hv3⟩ : WS) (by show m - (i + 1) < m - i; omega) ⟨ins_own hv3 (by omega), ins_perm hEp hx, insC_sorted hEs (fun j z h _ => by omega) hgt, by show i + 1 ≤ m; omega⟩ (Sub.slice (i := 0) rfl (by first | rfl | (congr 2; omega)) (by first | omega | (dsimp only; omega) | rfl) (by first | omega | (dsimp only; omega) | rfl) (Sub.cons (i := 3) rfl (Sub.int (i := 4) rfl (by first | omega | rfl) (Sub.nil)))) (fun w h => st_keep h hF (fresh_one hgb))
  · obtain rfl : i = m := by omega
    rw [List.take_of_length_le (by have := hC.1; omega)] at hEp
    refine TC.exit ?_
    refine TE.thenX ?_
    refine TE.thenX ?_
    refine TE.blockX ?_
    refine TE.then ?_
    refine TC.seq ?_
    refine TC.regionL ?_
    refine TL.gets (Wants.none rfl) rfl (Gets.move rfl rfl) ?_
    refine TL.gets (Wants.none rfl) rfl (Gets.assign rfl rfl) ?_
    refine TL.nil ?_
    refine TE.then ?_
    refine TC.ret ?_
    exact TE.ret1 rfl rfl (fun w hs => ⟨_, _, _, rfl, hown, hEp, hEs, hs⟩)
end Go.Proofs.Ytkgamkjdkapchaa
/-
  The code of layer 5: upTo, its iterator, overlap, gap.
-/
namespace Go.Proofs.Ytkgamkjdkapchaa
set_option linter.unusedVariables false
set_option linter.unusedSimpArgs false
open Go Go.RowKit
theorem agg56 : (isAgg 56).run Try.prog = fun w => .ok false w := isAgg_no Try.underlying56 rfl
theorem agg59 : (isAgg 59).run Try.prog = fun w => .ok true w := isAgg_yes Try.underlying59 rfl
theorem enters64 : Enters Try.prog 64 := ⟨_, Try.func64, by kernel_rfl, by kernel_rfl⟩
theorem size59 : (Try.prog.info? 59).map (·.size) = some 3 := by kernel_rfl
theorem zero3 : (Try.prog.info? 3).bind (·.zero) = some (.int .i64 0) := by kernel_rfl
theorem zero4 : (Try.prog.info? 4).bind (·.zero) = some (.bool false) := by kernel_rfl
theorem zero59 : (Try.prog.info? 59).bind (·.zero) = some (.agg #[.int .i64 0, .int .i64 0, .int .i64 0]) := by kernel_rfl
set_option maxRecDepth 100000 in
set_option maxHeartbeats 1000000 in
theorem upTo_iter (p1 p2 gt m : Nat) (Ts : List TV) (q : Int) (hq : -9223372036854775808 ≤ q ∧ q ≤ 9223372036854775807) (hm : m ≤ 1000000000) (hnum : ∀ t ∈ Ts, (-9223372036854775808 ≤ t.o ∧ t.o ≤ 9223372036854775807) ∧ (-9223372036854775808 ≤ t.l ∧ t.l ≤ 9223372036854775807) ∧ t.x ≤ 9223372036854775807) (w0 : World) (hc0 : CapT w0 p1 p2 gt m Ts q) : IterC Fence.wide 2 Try.prog 64 #[.pointer (some ⟨p1, 0, none⟩), .pointer (some ⟨p2, 0, none⟩)] (fun i => #[encP (upF Ts q) i]) (upF Ts q).length 0 (capK p1 p2 gt) w0 := by
  intro l J Jx W hW hJ hJx hY hJ0
  have hc : CapT W p1 p2 gt m Ts q := hc0.keep (fun k hk => hW.block k (hc0.lt hk)) hW.size
  have hc1 := hc.h1
  have hc2 := hc.h2
  have hc3 := hc.h3
  show CallsIn Fence.wide 2 Try.prog 64 #[.func (.yield l) #[] #[], .pointer (some ⟨p1, 0, none⟩), .pointer (some ⟨p2, 0, none⟩)] W _
  refine callsIn_from (args := [.func (.yield l) #[] #[], .pointer (some ⟨p1, 0, none⟩), .pointer (some ⟨p2, 0, none⟩)]) Try.func64 rfl Try.ntmps64 (by simp) ?_
  refine TC.sub (Sub.cons (i := 0) rfl (Sub.cons (i := 1) rfl (Sub.cons (i := 2) rfl (Sub.nil)))) ?_
  refine TC.seq ?_
  refine TC.regionL ?_
  refine TL.gets (Wants.none rfl) rfl (Gets.load1 rfl agg56 rfl (At.old hc.s hc.h1 ne_nil)) ?_
  refine TL.gets (Wants.none rfl) rfl (Gets.lenSlice rfl Try.underlying56 rfl) ?_
  refine TL.gets (Wants.none rfl) rfl (Gets.move rfl rfl) ?_
  refine TL.nil ?_
  refine TE.then ?_
  refine TC.block ?_
  refine TC.loopW (ι := Nat × World) (fun y => y.2) (fun y => [(0, .func (.yield l) #[] #[]), (1, .pointer (some ⟨p1, 0, none⟩)), (2, .pointer (some ⟨p2, 0, none⟩)), (6, .slice (some ⟨gt, 0, none⟩) m m), (7, .int .i64 (m : Int)), (8, .int .i64 (y.1 : Int))]) (fun y => []) (fun y => m - y.1) (fun y => y.1 ≤ m ∧ J (cntT Ts q y.1) y.2 ∧ CapT y.2 p1 p2 gt m Ts q ∧ W.heap.size ≤ y.2.heap.size) (0, W) ⟨Nat.zero_le _, hJ0, hc, Nat.le_refl _⟩ (Sub.cons (i := 0) rfl (Sub.cons (i := 1) rfl (Sub.cons (i := 2) rfl (Sub.slice (i := 6) rfl rfl (by first | omega | (dsimp only; omega) | rfl) (by first | omega | (dsimp only; omega) | rfl) (Sub.int (i := 7) rfl (by first | omega | rfl) (Sub.int (i := 8) rfl rfl (Sub.nil))))))) (fun w h => h) (fun y hC0 => ?_)
  obtain ⟨k, v⟩ := y
  obtain ⟨hk, hj, hc, hsz⟩ := hC0
  dsimp only at hk hj hc hsz
  change TC _ _ _ v _ _ _
  have hc1 := hc.h1
  have hc2 := hc.h2
  have hc3 := hc.h3
  refine TC.seq ?_
  refine TC.regionL ?_
  refine TL.gets (Wants.none rfl) rfl (Gets.lss rfl rfl rfl) ?_
  refine TL.nil ?_
  refine TE.then ?_
  refine TC.seq ?_
  refine TC.split rfl (fun hq0 => ?_) (fun hq0 => ?_)
  · obtain ⟨x, hkx⟩ : ∃ x, Ts[k]? = some x := ⟨_, List.getElem?_eq_getElem (by have := hc.l; omega)⟩
    have hnx := hnum x (List.mem_of_getElem? hkx)
    refine TC.skip ?_
    refine TE.then ?_
    refine TC.seq ?_
    refine TC.block ?_
    refine TC.seq ?_
    refine TC.regionL ?_
    refine TL.gets (Wants.none rfl) rfl (Gets.idxSlice rfl Try.underlying56 size59 rfl rfl (i := k) (by omega) (by omega) (off' := (3 * k)) (by omega)) ?_
    refine TL.gets (Wants.none rfl) rfl (Gets.loadN rfl agg59 size59 rfl rfl (Row.old (fun jj u h => hc.row hkx h) hc.h3 ne_nil)) ?_
    refine TL.alloc (Wants.none rfl) rfl rfl zero59 (cs := [Value.int .i64 0, Value.int .i64 0, Value.int .i64 0]) rfl (tot := 3) (by simp) (fun g1 hg1 => ?_)
    refine TL.storeW (Wants.none rfl) rfl rfl size59 rfl (vs := [Value.int .i64 x.o, Value.int .i64 x.l, Value.int .i64 (x.x : Int)]) rfl (by simp []) (by simp [Value.oneCell']) (i := 0) (ent := ⟨g1, 59, [Value.int .i64 0, Value.int .i64 0, Value.int .i64 0], 3⟩) rfl rfl (by simp []) (H' := [⟨g1, 59, [Value.int .i64 x.o, Value.int .i64 x.l, Value.int .i64 (x.x : Int)], 3⟩]) rfl ?_
    refine TL.nil ?_
    refine TE.then ?_
    refine TC.sub (Sub.cons (i := 0) rfl (Sub.cons (i := 1) rfl (Sub.cons (i := 2) rfl (Sub.cons (i := 5) rfl (Sub.cons (i := 6) rfl (Sub.cons (i := 7) rfl (Sub.cons (i := 8) rfl (Sub.nil)))))))) ?_
    refine TC.seq ?_
    refine TC.regionL ?_
    refine TL.gets (Wants.none rfl) rfl (Gets.fieldAddr rfl Try.underlying59 rfl size3 rfl (off' := 2) (by first | rfl | omega)) ?_
    refine TL.gets (Wants.none rfl) rfl (Gets.load1 rfl agg3 rfl (At.ent (i := 0) (ent := ⟨g1, 59, [Value.int .i64 x.o, Value.int .i64 x.l, Value.int .i64 (x.x : Int)], 3⟩) (off := 2) rfl rfl (by exact rfl))) ?_
    refine TL.gets (Wants.none rfl) rfl (Gets.load1 rfl agg3 rfl (At.old hc.x hc.h2 (ne_cons (by show g1 ≠ p2; omega) ne_nil))) ?_
    refine TL.gets (Wants.none rfl) rfl (Gets.leq rfl rfl rfl) ?_
    by_cases hx : (x.x : Int) ≤ q
    · refine TL.gets (Wants.none rfl) rfl (Gets.isTrue (Gets.move rfl rfl) hx) ?_
      refine TL.gets (Wants.yes rfl rfl rfl) rfl (Gets.move rfl rfl) ?_
      refine TL.gets (Wants.yes rfl rfl rfl) rfl (Gets.fieldAddr rfl Try.underlying59 rfl size49 rfl (off' := 0) (by first | rfl | omega)) ?_
      refine TL.gets (Wants.yes rfl rfl rfl) rfl (Gets.loadN rfl agg49 size49 rfl (vs := [Value.int .i64 x.o, Value.int .i64 x.l]) rfl (Row.part (i := 0) (ent := ⟨g1, 59, [Value.int .i64 x.o, Value.int .i64 x.l, Value.int .i64 (x.x : Int)], 3⟩) rfl rfl rfl)) ?_
      refine TL.yield rfl (Wants.yes rfl rfl rfl) rfl rfl rfl rfl (T := fun v1 => J (cntT Ts q k + 1) v1 ∧ CapT v1 p1 p2 gt m Ts q ∧ W.heap.size ≤ v1.heap.size) (U := fun v1 => Jx (cntT Ts q k + 1) v1) (fun w hs => up_yield (p := pr x) hJ hY (cntT_lt hkx hx) (cntT_yes hkx hx).2 hj hc hsz hs (by intro e he; rw [List.mem_singleton.1 he]; assumption)) (fun v1 hT => ?_) (fun v1 hU => ?_)
      · obtain ⟨hj, hc, hsz⟩ := hT
        refine TL.gets (Wants.yes rfl rfl rfl) rfl (Gets.not rfl rfl) ?_
        refine TL.gets (Wants.none rfl) rfl (Gets.pickT rfl rfl rfl) ?_
        refine TL.nil ?_
        refine TE.then ?_
        refine TC.sub (Sub.cons (i := 0) rfl (Sub.cons (i := 1) rfl (Sub.cons (i := 2) rfl (Sub.cons (i := 6) rfl (Sub.cons (i := 7) rfl (Sub.cons (i := 8) rfl (Sub.cons (i := 22) rfl (Sub.nil)))))))) ?_
        refine TC.no rfl ?_
        refine TC.skip ?_
        refine TE.blockN ?_
        refine TE.then ?_
        refine TC.regionL ?_
        refine TL.gets (Wants.none rfl) rfl (Gets.add rfl rfl rfl (r := ((k : Int) + 1)) (w64 (by omega) (by omega))) ?_
        refine TL.gets (Wants.none rfl) rfl (Gets.move rfl rfl) ?_
        refine TL.nil ?_
        exact TE.backW (k + 1, v1) (by show m - (k + 1) < m - k; omega) ⟨(by show k + 1 ≤ m; omega), (show J (cntT Ts q (k + 1)) v1 from by rw [(cntT_yes hkx hx).1]; exact hj), hc, hsz⟩ (Sub.cons (i := 0) rfl (Sub.cons (i := 1) rfl (Sub.cons (i := 2) rfl (Sub.slice (i := 6) rfl rfl (by first | omega | (dsimp only; omega) | rfl) (by first | omega | (dsimp only; omega) | rfl) (Sub.int (i := 7) rfl (by first | omega | rfl) (Sub.int (i := 8) rfl rfl (Sub.nil))))))) (fun w h => h)
      · refine TL.gets (Wants.yes rfl rfl rfl) rfl (Gets.not rfl rfl) ?_
        refine TL.gets (Wants.none rfl) rfl (Gets.pickT rfl rfl rfl) ?_
        refine TL.nil ?_
        refine TE.then ?_
        refine TC.sub (Sub.cons (i := 0) rfl (Sub.cons (i := 1) rfl (Sub.cons (i := 2) rfl (Sub.cons (i := 6) rfl (Sub.cons (i := 7) rfl (Sub.cons (i := 8) rfl (Sub.cons (i := 22) rfl (Sub.nil)))))))) ?_
        refine TC.yes rfl ?_
        refine TC.ret ?_
        refine TE.blockR ?_
        refine TE.thenR ?_
        refine TE.thenR ?_
        refine TE.blockR ?_
        exact TE.ret0 rfl (fun w hs => ⟨⟨_, rfl⟩, .inr ⟨cntT Ts q k, cntT_lt hkx hx, hJx _ _ _ hU (St.beside0 hs (by intro e he; cases he))⟩⟩)
    · refine TL.gets (Wants.none rfl) rfl (Gets.isFalse (Gets.move rfl rfl) hx) ?_
      refine TL.pass rfl rfl rfl rfl rfl ?_
      refine TL.pass rfl rfl rfl rfl rfl ?_
      refine TL.pass rfl rfl rfl rfl rfl ?_
      refine TL.pass rfl rfl rfl rfl rfl ?_
      refine TL.pass rfl rfl rfl rfl rfl ?_
      refine TL.gets (Wants.none rfl) rfl (Gets.pickF rfl rfl rfl) ?_
      refine TL.nil ?_
      refine TE.then ?_
      refine TC.sub (Sub.cons (i := 0) rfl (Sub.cons (i := 1) rfl (Sub.cons (i := 2) rfl (Sub.cons (i := 6) rfl (Sub.cons (i := 7) rfl (Sub.cons (i := 8) rfl (Sub.cons (i := 22) rfl (Sub.nil)))))))) ?_
      refine TC.no rfl ?_
      refine TC.skip ?_
      refine TE.blockN ?_
      refine TE.then ?_
      refine TC.regionL ?_
      refine TL.gets (Wants.none rfl) rfl (Gets.add rfl rfl rfl (r := ((k : Int) + 1)) (w64 (by omega) (by omega))) ?_
      refine TL.gets (Wants.none rfl) rfl (Gets.move rfl rfl) ?_
      refine TL.nil ?_
      exact TE.backW (k + 1, v) (by show m - (k + 1) < m - k; omega) ⟨(by show k + 1 ≤ m; omega), (show J (cntT Ts q (k + 1)) v from by rw [cntT_no hkx hx]; exact hj), hc, hsz⟩ (Sub.cons (i := 0) rfl (Sub.cons (i := 1) rfl (Sub.cons (i := 2) rfl (Sub.slice (i := 6) rfl rfl (by first | omega | (dsimp only; omega) | rfl) (by first | omega | (dsimp only; omega) | rfl) (Sub.int (i := 7) rfl (by first | omega | rfl) (Sub.int (i := 8) rfl rfl (Sub.nil))))))) (fun w h => (h.drop (by assumption)))
  · refine TC.exit ?_
    refine TE.thenX ?_
    refine TE.thenX ?_
    refine TE.blockX ?_
    exact TE.end0 rfl (fun w hs => ⟨⟨_, rfl⟩, .inl (hJ _ _ _ (show J (upF Ts q).length v from by rw [← cntT_all (m := k) (by have := hc.l; omega)]; exact hj) (St.beside0 hs (by intro e he; cases he)))⟩)

set_option maxRecDepth 100000 in
set_option maxHeartbeats 400000 in
theorem upTo_c (gt m : Nat) (q : Int) (w : World) : Calls Try.prog 51 #[.slice (some ⟨gt, 0, none⟩) m m, .int .i64 q] w fun e w' => ∃ y : Nat × Nat, e = .returned (.func (.func 64) #[] #[.pointer (some ⟨y.1, 0, none⟩), .pointer (some ⟨y.2, 0, none⟩)]) ∧ (w.heap.size ≤ y.1 ∧ w.heap.size ≤ y.2) ∧ St w [⟨y.1, 56, [Value.slice (some ⟨gt, 0, none⟩) m m], 1⟩, ⟨y.2, 3, [Value.int .i64 q], 1⟩] w' := by
  refine calls_from (args := [.slice (some ⟨gt, 0, none⟩) m m, .int .i64 q]) Try.func51 rfl Try.ntmps51 (by simp) ?_
  refine TC.sub (Sub.cons (i := 0) rfl (Sub.cons (i := 1) rfl (Sub.nil))) ?_
  refine TC.seq ?_
  refine TC.regionL ?_
  refine TL.box (Wants.none rfl) rfl rfl rfl (cs := [Value.slice (some ⟨gt, 0, none⟩) m m]) rfl (tot := 1) (by simp []) (fun g1 hg1 => ?_)
  refine TL.box (Wants.none rfl) rfl rfl rfl (cs := [Value.int .i64 q]) rfl (tot := 1) (by simp []) (fun g2 hg2 => ?_)
  refine TL.gets (Wants.none rfl) rfl (Gets.assign rfl rfl) ?_
  refine TL.nil ?_
  refine TE.then ?_
  refine TC.seq ?_
  refine TC.regionL ?_
  refine TL.gets (Wants.none rfl) rfl (Gets.makeFunc rfl rfl rfl) ?_
  refine TL.gets (Wants.none rfl) rfl (Gets.assign rfl rfl) ?_
  refine TL.nil ?_
  refine TE.then ?_
  refine TC.ret ?_
  exact TE.ret1 rfl rfl (fun w hs => ⟨(g1, g2), rfl, ⟨by assumption, by assumption⟩, hs.perm (List.Perm.swap _ _ _)⟩)

set_option maxRecDepth 100000 in
set_option maxHeartbeats 1000000 in
theorem overlap_c (p1 p2 gt m : Nat) (Ts : List TV) (q : Int) (hq : -9223372036854775808 ≤ q ∧ q ≤ 9223372036854775807) (hm : m ≤ 1000000000) (hnum : ∀ t ∈ Ts, (-9223372036854775808 ≤ t.o ∧ t.o ≤ 9223372036854775807) ∧ (-9223372036854775808 ≤ t.l ∧ t.l ≤ 9223372036854775807) ∧ t.x ≤ 9223372036854775807) (n : Int) (hn0 : 0 ≤ n ∧ n ≤ 4611686018427387903) (hpos : posF (upF Ts q)) (hend : ∀ p ∈ upF Ts q, p.1 + p.2 ≤ n) (w : World) (hc : CapT w p1 p2 gt m Ts q) : Calls Try.prog 50 #[.func (.func 64) #[] #[.pointer (some ⟨p1, 0, none⟩), .pointer (some ⟨p2, 0, none⟩)]] w fun e w' => e = .returned (.bool (decide (ovF (upF Ts q)))) ∧ St w [] w' := by
  have hc1 := hc.h1
  have hc2 := hc.h2
  have hc3 := hc.h3
  refine calls_fromM (args := [.func (.func 64) #[] #[.pointer (some ⟨p1, 0, none⟩), .pointer (some ⟨p2, 0, none⟩)]]) Try.func50 rfl Try.ntmps50 (by simp) ?_
  refine TC.sub (Sub.cons (i := 0) rfl (Sub.nil)) ?_
  refine TC.seq ?_
  refine TC.regionL ?_
  refine TL.alloc (Wants.none rfl) rfl rfl zero4 (cs := [Value.bool false]) rfl (tot := 1) (by simp) (fun g1 hg1 => ?_)
  refine TL.nil ?_
  refine TE.then ?_
  refine TC.seq ?_
  refine TC.regionL ?_
  refine TL.alloc (Wants.none rfl) rfl rfl zero3 (cs := [Value.int .i64 0]) rfl (tot := 1) (by simp) (fun g2 hg2 => ?_)
  refine TL.store1 (Wants.none rfl) rfl rfl size3 rfl rfl rfl (i := 0) rfl rfl (by simp [] <;> omega) (cs' := [Value.int .i64 0]) (rfl) (H' := [⟨g2, 3, [Value.int .i64 0], 1⟩, ⟨g1, 4, [Value.bool false], 1⟩]) rfl ?_
  refine TL.nil ?_
  refine TE.then ?_
  refine TC.seq ?_
  refine TC.seq ?_
  refine TC.regionL ?_
  refine TL.gets (Wants.none rfl) rfl (Gets.move rfl rfl) ?_
  refine TL.nil ?_
  refine TE.then ?_
  refine TC.block ?_
  refine TC.range (V := fun i => .agg ([Value.int .i64 ((eP (upF Ts q) i).1), Value.int .i64 ((eP (upF Ts q) i).2)]).toArray) (N := (upF Ts q).length) (c := 0) (Cap := capK p1 p2 gt) rfl rfl rfl rfl enters64 (fun w hs => upTo_iter p1 p2 gt m Ts q hq hm hnum w (hc.at_ hs (fun b hb => (ne_cons (by show g2 ≠ b; omega) (ne_cons (by show g1 ≠ b; omega) ne_nil))))) (fun i => ∀ j r, j < i → (upF Ts q)[j]? = some r → endF (upF Ts q) j ≤ r.1) (fun i => [⟨g2, 3, [Value.int .i64 (endF (upF Ts q) i)], 1⟩, ⟨g1, 4, [Value.bool false], 1⟩]) [] (fun i y => [(2, .pointer (some ⟨g1, 0, none⟩)), (3, .pointer (some ⟨g2, 0, none⟩)), (4, .pointer (some ⟨y, 0, none⟩))]) (fun i y => [⟨y, 49, [Value.int .i64 ((eP (upF Ts q) i).1), Value.int .i64 ((eP (upF Ts q) i).2)], 2⟩]) (fun i => ovF (upF Ts q)) (fun i => [⟨g2, 3, [Value.int .i64 (endF (upF Ts q) (i - 1))], 1⟩, ⟨g1, 4, [Value.bool true], 1⟩]) 0 (fun i => False) (fun i => [⟨g2, 3, [Value.int .i64 (endF (upF Ts q) i)], 1⟩, ⟨g1, 4, [Value.bool false], 1⟩]) (fun j r h => absurd h (Nat.not_lt_zero j)) (fun w h => h) (fun _ => rfl) (fun _ => rfl) (fun _ => rfl) (fun w hs k hk => ⟨Nat.lt_of_lt_of_le (hc.lt hk) hs.size, (have hb := hc.lt hk; (ne_cons (by show g2 ≠ k; omega) (ne_cons (by show g1 ≠ k; omega) ne_nil)))⟩) (fun i y e he => by rw [List.mem_singleton.1 he]; exact Nat.le_refl _) (fun l i v hiN hC hs0 => ?_) (fun l i y v hiN hC hy hyv hs0 => ?_) (fun D W hC hW hM => ?_) (fun D W i hiN hC hW hM => ?_) (fun D W i hiN hC hW hM => ?_)
  · refine TC.sub (Sub.cons (i := 2) rfl (Sub.cons (i := 3) rfl (Sub.cons (i := 6) rfl (Sub.nil)))) ?_
    refine TC.regionL ?_
    refine TL.alloc (Wants.none rfl) rfl rfl zero49 (cs := [Value.int .i64 0, Value.int .i64 0]) rfl (tot := 2) (by simp) (fun g3 hg3 => ?_)
    refine TL.storeW (Wants.none rfl) rfl rfl size49 rfl (vs := [Value.int .i64 ((eP (upF Ts q) i).1), Value.int .i64 ((eP (upF Ts q) i).2)]) rfl (by simp []) (by simp [Value.oneCell']) (i := 0) (ent := ⟨g3, 49, [Value.int .i64 0, Value.int .i64 0], 2⟩) rfl rfl (by simp []) (H' := [⟨g3, 49, [Value.int .i64 ((eP (upF Ts q) i).1), Value.int .i64 ((eP (upF Ts q) i).2)], 2⟩, ⟨g2, 3, [Value.int .i64 (endF (upF Ts q) i)], 1⟩, ⟨g1, 4, [Value.bool false], 1⟩]) rfl ?_
    refine TL.nil ?_
    exact TE.ax g3 hg3 (fun w hs => Nat.le_of_lt (hs.has _ List.mem_cons_self).lt) (Sub.cons (i := 2) rfl (Sub.cons (i := 3) rfl (Sub.cons (i := 4) rfl (Sub.nil)))) (fun w h => h)
  · have hqq := eP_at hiN
    have hqp := hpos _ (List.mem_of_getElem? hqq)
    have hqn := hend _ (List.mem_of_getElem? hqq)
    have heb := endF_bd hpos hend hn0.1 i
    refine TC.block ?_
    refine TC.seq ?_
    refine TC.seq ?_
    refine TC.regionL ?_
    refine TL.gets (Wants.none rfl) rfl (Gets.fieldAddr rfl Try.underlying49 rfl size3 rfl (off' := 0) (by first | rfl | omega)) ?_
    refine TL.gets (Wants.none rfl) rfl (Gets.load1 rfl agg3 rfl (At.ent (i := 0) (ent := ⟨y, 49, [Value.int .i64 ((eP (upF Ts q) i).1), Value.int .i64 ((eP (upF Ts q) i).2)], 2⟩) (off := 0) rfl rfl (by exact rfl))) ?_
    refine TL.gets (Wants.none rfl) rfl (Gets.load1 rfl agg3 rfl (At.ent (i := 1) (ent := ⟨g2, 3, [Value.int .i64 (endF (upF Ts q) i)], 1⟩) (off := 0) rfl rfl (by exact rfl))) ?_
    refine TL.gets (Wants.none rfl) rfl (Gets.lss rfl rfl rfl) ?_
    refine TL.nil ?_
    refine TE.then ?_
    refine TC.split rfl (fun hq0 => ?_) (fun hq0 => ?_)
    · refine TC.seq ?_
      refine TC.regionL ?_
      refine TL.store1 (Wants.none rfl) rfl rfl size4 rfl rfl rfl (i := 2) rfl rfl (by simp [] <;> omega) (cs' := [Value.bool true]) (rfl) (H' := [⟨y, 49, [Value.int .i64 ((eP (upF Ts q) i).1), Value.int .i64 ((eP (upF Ts q) i).2)], 2⟩, ⟨g2, 3, [Value.int .i64 (endF (upF Ts q) i)], 1⟩, ⟨g1, 4, [Value.bool true], 1⟩]) rfl ?_
      refine TL.nil ?_
      refine TE.then ?_
      refine TC.ret ?_
      refine TE.thenR ?_
      refine TE.blockR ?_
      exact TE.roundR ⟨i, _, hqq, hq0⟩ [⟨y, 49, [Value.int .i64 ((eP (upF Ts q) i).1), Value.int .i64 ((eP (upF Ts q) i).2)], 2⟩] (by intro e he; simp only [List.mem_cons, List.not_mem_nil, or_false] at he; subst he; first | exact Nat.le_refl _ | (dsimp only; omega)) (fun w h => h)
    · refine TC.skip ?_
      refine TE.then ?_
      refine TC.regionL ?_
      refine TL.gets (Wants.none rfl) rfl (Gets.loadN rfl agg49 size49 rfl (vs := [Value.int .i64 ((eP (upF Ts q) i).1), Value.int .i64 ((eP (upF Ts q) i).2)]) (by simp []) (Row.all (i := 0) (ent := ⟨y, 49, [Value.int .i64 ((eP (upF Ts q) i).1), Value.int .i64 ((eP (upF Ts q) i).2)], 2⟩) rfl rfl rfl)) ?_
      refine TL.call0 (Wants.none rfl) rfl enters42 rfl rfl (v := .int .i64 (((eP (upF Ts q) i).1) + ((eP (upF Ts q) i).2))) (fun w hs => end_c ((eP (upF Ts q) i).1) ((eP (upF Ts q) i).2) (by omega) w) ?_
      refine TL.store1 (Wants.none rfl) rfl rfl size3 rfl rfl rfl (i := 1) rfl rfl (by simp [] <;> omega) (cs' := [Value.int .i64 (((eP (upF Ts q) i).1) + ((eP (upF Ts q) i).2))]) (rfl) (H' := [⟨y, 49, [Value.int .i64 ((eP (upF Ts q) i).1), Value.int .i64 ((eP (upF Ts q) i).2)], 2⟩, ⟨g2, 3, [Value.int .i64 (((eP (upF Ts q) i).1) + ((eP (upF Ts q) i).2))], 1⟩, ⟨g1, 4, [Value.bool false], 1⟩]) rfl ?_
      refine TL.nil ?_
      refine TE.blockN ?_
      exact TE.roundN (nov_succ hC hqq hq0) [⟨y, 49, [Value.int .i64 ((eP (upF Ts q) i).1), Value.int .i64 ((eP (upF Ts q) i).2)], 2⟩] (by intro e he; simp only [List.mem_cons, List.not_mem_nil, or_false] at he; subst he; first | exact Nat.le_refl _ | (dsimp only; omega)) (fun w h => by rw [endF_succ hqq]; exact h)
  · have hno := nov_end hC
    refine TE.blockN ?_
    refine TE.then ?_
    refine TC.seq ?_
    refine TC.regionL ?_
    refine TL.store1 (Wants.none rfl) rfl rfl size4 rfl rfl rfl (i := 1) rfl rfl (by simp [] <;> omega) (cs' := [Value.bool false]) (rfl) (H' := [⟨g2, 3, [Value.int .i64 (endF (upF Ts q) ((upF Ts q).length))], 1⟩, ⟨g1, 4, [Value.bool false], 1⟩]) rfl ?_
    refine TL.nil ?_
    refine TE.then ?_
    refine TC.ret ?_
    refine TE.markR hM hW (by intro e he; simp only [List.mem_cons, List.not_mem_nil, or_false, List.cons_append, List.nil_append, List.append_nil] at he; rcases he with rfl | rfl <;> (first | assumption | (dsimp only; omega))) (by intro e he; simp only [List.mem_cons, List.not_mem_nil, or_false, List.cons_append, List.nil_append, List.append_nil] at he; rcases he with rfl | rfl <;> (first | exact .inr (by simp) | exact .inl (by assumption) | exact .inl (by dsimp only; omega))) ?_ (.inl rfl)
    exact TE.retC1 rfl agg4 rfl (At.ent (i := 1) (ent := ⟨g1, 4, [Value.bool false], 1⟩) (off := 0) rfl rfl (by exact rfl)) (fun w hs => ⟨dec_f hno, ((hs.drop (by assumption)).drop (by assumption))⟩) (.inl rfl)
  · refine TE.blockR ?_
    refine TE.thenR ?_
    refine TE.markR hM hW (by intro e he; simp only [List.mem_cons, List.not_mem_nil, or_false, List.cons_append, List.nil_append, List.append_nil] at he; rcases he with rfl | rfl <;> (first | assumption | (dsimp only; omega))) (by intro e he; simp only [List.mem_cons, List.not_mem_nil, or_false, List.cons_append, List.nil_append, List.append_nil] at he; rcases he with rfl | rfl <;> (first | exact .inr (by simp) | exact .inl (by assumption) | exact .inl (by dsimp only; omega))) ?_ (.inl rfl)
    exact TE.retC1 rfl agg4 rfl (At.ent (i := 1) (ent := ⟨g1, 4, [Value.bool true], 1⟩) (off := 0) rfl rfl (by exact rfl)) (fun w hs => ⟨dec_t hC, ((hs.drop (by assumption)).drop (by assumption))⟩) (.inl rfl)
  · exact hC.elim

set_option maxRecDepth 100000 in
set_option maxHeartbeats 1000000 in
theorem gap_c (p1 p2 gt m : Nat) (Ts : List TV) (q : Int) (hq : -9223372036854775808 ≤ q ∧ q ≤ 9223372036854775807) (hm : m ≤ 1000000000) (hnum : ∀ t ∈ Ts, (-9223372036854775808 ≤ t.o ∧ t.o ≤ 9223372036854775807) ∧ (-9223372036854775808 ≤ t.l ∧ t.l ≤ 9223372036854775807) ∧ t.x ≤ 9223372036854775807) (n : Int) (hn0 : 0 ≤ n ∧ n ≤ 4611686018427387903) (hpos : posF (upF Ts q)) (hend : ∀ p ∈ upF Ts q, p.1 + p.2 ≤ n) (w : World) (hc : CapT w p1 p2 gt m Ts q) : Calls Try.prog 52 #[.func (.func 64) #[] #[.pointer (some ⟨p1, 0, none⟩), .pointer (some ⟨p2, 0, none⟩)]] w fun e w' => ∃ z : Int, e = .returned (.int .i64 z) ∧ gapR (upF Ts q) z ∧ St w [] w' := by
  have hc1 := hc.h1
  have hc2 := hc.h2
  have hc3 := hc.h3
  refine calls_fromM (args := [.func (.func 64) #[] #[.pointer (some ⟨p1, 0, none⟩), .pointer (some ⟨p2, 0, none⟩)]]) Try.func52 rfl Try.ntmps52 (by simp) ?_
  refine TC.sub (Sub.cons (i := 0) rfl (Sub.nil)) ?_
  refine TC.seq ?_
  refine TC.regionL ?_
  refine TL.gets (Wants.none rfl) rfl (Gets.assign rfl rfl) ?_
  refine TL.nil ?_
  refine TE.then ?_
  refine TC.seq ?_
  refine TC.regionL ?_
  refine TL.alloc (Wants.none rfl) rfl rfl zero3 (cs := [Value.int .i64 0]) rfl (tot := 1) (by simp) (fun g1 hg1 => ?_)
  refine TL.store1 (Wants.none rfl) rfl rfl size3 rfl rfl rfl (i := 0) rfl rfl (by simp [] <;> omega) (cs' := [Value.int .i64 0]) (rfl) (H' := [⟨g1, 3, [Value.int .i64 0], 1⟩]) rfl ?_
  refine TL.nil ?_
  refine TE.then ?_
  refine TC.seq ?_
  refine TC.seq ?_
  refine TC.regionL ?_
  refine TL.gets (Wants.none rfl) rfl (Gets.move rfl rfl) ?_
  refine TL.nil ?_
  refine TE.then ?_
  refine TC.block ?_
  refine TC.range (V := fun i => .agg ([Value.int .i64 ((eP (upF Ts q) i).1), Value.int .i64 ((eP (upF Ts q) i).2)]).toArray) (N := (upF Ts q).length) (c := 0) (Cap := capK p1 p2 gt) rfl rfl rfl rfl enters64 (fun w hs => upTo_iter p1 p2 gt m Ts q hq hm hnum w (hc.at_ hs (fun b hb => (ne_cons (by show g1 ≠ b; omega) ne_nil)))) (fun i => ∀ j r, j < i → (upF Ts q)[j]? = some r → r.1 ≤ endF (upF Ts q) j) (fun i => [⟨g1, 3, [Value.int .i64 (endF (upF Ts q) i)], 1⟩]) [] (fun i y => [(3, .pointer (some ⟨g1, 0, none⟩)), (4, .pointer (some ⟨y, 0, none⟩))]) (fun i y => [⟨y, 49, [Value.int .i64 ((eP (upF Ts q) i).1), Value.int .i64 ((eP (upF Ts q) i).2)], 2⟩]) (fun i => False) (fun i => [⟨g1, 3, [Value.int .i64 (endF (upF Ts q) i)], 1⟩]) 0 (fun i => gapR (upF Ts q) (endF (upF Ts q) (i - 1))) (fun i => [⟨g1, 3, [Value.int .i64 (endF (upF Ts q) (i - 1))], 1⟩]) (fun j r h => absurd h (Nat.not_lt_zero j)) (fun w h => h) (fun _ => rfl) (fun _ => rfl) (fun _ => rfl) (fun w hs k hk => ⟨Nat.lt_of_lt_of_le (hc.lt hk) hs.size, (have hb := hc.lt hk; (ne_cons (by show g1 ≠ k; omega) ne_nil))⟩) (fun i y e he => by rw [List.mem_singleton.1 he]; exact Nat.le_refl _) (fun l i v hiN hC hs0 => ?_) (fun l i y v hiN hC hy hyv hs0 => ?_) (fun D W hC hW hM => ?_) (fun D W i hiN hC hW hM => ?_) (fun D W i hiN hC hW hM => ?_)
  · refine TC.sub (Sub.cons (i := 3) rfl (Sub.cons (i := 6) rfl (Sub.nil))) ?_
    refine TC.regionL ?_
    refine TL.alloc (Wants.none rfl) rfl rfl zero49 (cs := [Value.int .i64 0, Value.int .i64 0]) rfl (tot := 2) (by simp) (fun g2 hg2 => ?_)
    refine TL.storeW (Wants.none rfl) rfl rfl size49 rfl (vs := [Value.int .i64 ((eP (upF Ts q) i).1), Value.int .i64 ((eP (upF Ts q) i).2)]) rfl (by simp []) (by simp [Value.oneCell']) (i := 0) (ent := ⟨g2, 49, [Value.int .i64 0, Value.int .i64 0], 2⟩) rfl rfl (by simp []) (H' := [⟨g2, 49, [Value.int .i64 ((eP (upF Ts q) i).1), Value.int .i64 ((eP (upF Ts q) i).2)], 2⟩, ⟨g1, 3, [Value.int .i64 (endF (upF Ts q) i)], 1⟩]) rfl ?_
    refine TL.nil ?_
    exact TE.ax g2 hg2 (fun w hs => Nat.le_of_lt (hs.has _ List.mem_cons_self).lt) (Sub.cons (i := 3) rfl (Sub.cons (i := 4) rfl (Sub.nil))) (fun w h => h)
  · have hqq := eP_at hiN
    have hqp := hpos _ (List.mem_of_getElem? hqq)
    have hqn := hend _ (List.mem_of_getElem? hqq)
    have heb := endF_bd hpos hend hn0.1 i
    refine TC.block ?_
    refine TC.seq ?_
    refine TC.seq ?_
    refine TC.regionL ?_
    refine TL.gets (Wants.none rfl) rfl (Gets.fieldAddr rfl Try.underlying49 rfl size3 rfl (off' := 0) (by first | rfl | omega)) ?_
    refine TL.gets (Wants.none rfl) rfl (Gets.load1 rfl agg3 rfl (At.ent (i := 0) (ent := ⟨y, 49, [Value.int .i64 ((eP (upF Ts q) i).1), Value.int .i64 ((eP (upF Ts q) i).2)], 2⟩) (off := 0) rfl rfl (by exact rfl))) ?_
    refine TL.gets (Wants.none rfl) rfl (Gets.load1 rfl agg3 rfl (At.ent (i := 1) (ent := ⟨g1, 3, [Value.int .i64 (endF (upF Ts q) i)], 1⟩) (off := 0) rfl rfl (by exact rfl))) ?_
    refine TL.gets (Wants.none rfl) rfl (Gets.gtr rfl rfl rfl) ?_
    refine TL.nil ?_
    refine TE.then ?_
    refine TC.split rfl (fun hq0 => ?_) (fun hq0 => ?_)
    · refine TC.exit ?_
      refine TE.thenX ?_
      refine TE.blockY rfl ?_
      exact TE.roundB ⟨i, Nat.le_of_lt hiN, rfl, hC, .inr ⟨_, hqq, hq0⟩⟩ [⟨y, 49, [Value.int .i64 ((eP (upF Ts q) i).1), Value.int .i64 ((eP (upF Ts q) i).2)], 2⟩] (by intro e he; simp only [List.mem_cons, List.not_mem_nil, or_false] at he; subst he; first | exact Nat.le_refl _ | (dsimp only; omega)) (fun w h => h)
    · refine TC.skip ?_
      refine TE.then ?_
      refine TC.regionL ?_
      refine TL.gets (Wants.none rfl) rfl (Gets.loadN rfl agg49 size49 rfl (vs := [Value.int .i64 ((eP (upF Ts q) i).1), Value.int .i64 ((eP (upF Ts q) i).2)]) (by simp []) (Row.all (i := 0) (ent := ⟨y, 49, [Value.int .i64 ((eP (upF Ts q) i).1), Value.int .i64 ((eP (upF Ts q) i).2)], 2⟩) rfl rfl rfl)) ?_
      refine TL.call0 (Wants.none rfl) rfl enters42 rfl rfl (v := .int .i64 (((eP (upF Ts q) i).1) + ((eP (upF Ts q) i).2))) (fun w hs => end_c ((eP (upF Ts q) i).1) ((eP (upF Ts q) i).2) (by omega) w) ?_
      refine TL.store1 (Wants.none rfl) rfl rfl size3 rfl rfl rfl (i := 1) rfl rfl (by simp [] <;> omega) (cs' := [Value.int .i64 (((eP (upF Ts q) i).1) + ((eP (upF Ts q) i).2))]) (rfl) (H' := [⟨y, 49, [Value.int .i64 ((eP (upF Ts q) i).1), Value.int .i64 ((eP (upF Ts q) i).2)], 2⟩, ⟨g1, 3, [Value.int .i64 (((eP (upF Ts q) i).1) + ((eP (upF Ts q) i).2))], 1⟩]) rfl ?_
      refine TL.nil ?_
      refine TE.blockN ?_
      exact TE.roundN (ngap_succ hC hqq hq0) [⟨y, 49, [Value.int .i64 ((eP (upF Ts q) i).1), Value.int .i64 ((eP (upF Ts q) i).2)], 2⟩] (by intro e he; simp only [List.mem_cons, List.not_mem_nil, or_false] at he; subst he; first | exact Nat.le_refl _ | (dsimp only; omega)) (fun w h => by rw [endF_succ hqq]; exact h)
  · have hG : gapR (upF Ts q) (endF (upF Ts q) (upF Ts q).length) := ⟨_, Nat.le_refl _, rfl, hC, .inl rfl⟩
    refine TE.blockN ?_
    refine TE.then ?_
    refine TC.seq ?_
    refine TC.regionL ?_
    refine TL.gets (Wants.none rfl) rfl (Gets.load1 rfl agg3 rfl (At.ent (i := 0) (ent := ⟨g1, 3, [Value.int .i64 (endF (upF Ts q) ((upF Ts q).length))], 1⟩) (off := 0) rfl rfl (by exact rfl))) ?_
    refine TL.gets (Wants.none rfl) rfl (Gets.assign rfl rfl) ?_
    refine TL.nil ?_
    refine TE.then ?_
    refine TC.ret ?_
    refine TE.markR hM hW (by intro e he; simp only [List.mem_cons, List.not_mem_nil, or_false, List.cons_append, List.nil_append, List.append_nil] at he; subst he; first | assumption | (dsimp only; omega)) (by intro e he; simp only [List.mem_cons, List.not_mem_nil, or_false, List.cons_append, List.nil_append, List.append_nil] at he; subst he; first | exact .inr (by simp) | exact .inl (by assumption) | exact .inl (by dsimp only; omega)) ?_ (.inl rfl)
    exact TE.ret1 rfl rfl (fun w hs => ⟨_, rfl, hG, (hs.drop (by assumption))⟩)
  · exact hC.elim
  · have hG : gapR (upF Ts q) (endF (upF Ts q) i) := hC
    refine TE.blockX ?_
    refine TE.then ?_
    refine TC.seq ?_
    refine TC.regionL ?_
    refine TL.gets (Wants.none rfl) rfl (Gets.load1 rfl agg3 rfl (At.ent (i := 0) (ent := ⟨g1, 3, [Value.int .i64 (endF (upF Ts q) (i + 1 - 1))], 1⟩) (off := 0) rfl rfl (by exact rfl))) ?_
    refine TL.gets (Wants.none rfl) rfl (Gets.assign rfl rfl) ?_
    refine TL.nil ?_
    refine TE.then ?_
    refine TC.ret ?_
    refine TE.markR hM hW (by intro e he; simp only [List.mem_cons, List.not_mem_nil, or_false, List.cons_append, List.nil_append, List.append_nil] at he; subst he; first | assumption | (dsimp only; omega)) (by intro e he; simp only [List.mem_cons, List.not_mem_nil, or_false, List.cons_append, List.nil_append, List.append_nil] at he; subst he; first | exact .inr (by simp) | exact .inl (by assumption) | exact .inl (by dsimp only; omega)) ?_ (.inl rfl)
    exact TE.ret1 rfl rfl (fun w hs => ⟨_, rfl, hG, (hs.drop (by assumption))⟩)
end Go.Proofs.Ytkgamkjdkapchaa
/-
  slices.SortFunc at targets, over blocks that are known.
-/
namespace Go.Proofs
open Go.Shelf Go.RowKit Go.Lib Go.Sort
def Try.sortT_ren : Go.Shelf.Ren := ⟨fun | 6 => 55 | 15 => 66 | 14 => 65 | 28 => 77 | 29 => 78 | 20 => 69 | 21 => 70 | 22 => 71 | 23 => 72 | 24 => 73 | 25 => 74 | 26 => 75 | 27 => 76 | 46 => 79 | 47 => 80 | 48 => 81 | 49 => 82 | 50 => 83 | 57 => 84 | n => n, fun | 22 => 56 | 24 => 59 | 25 => 85 | 3 => 3 | 39 => 90 | 0 => 0 | 53 => 103 | 55 => 105 | 4 => 4 | 46 => 96 | 45 => 95 | 50 => 100 | 5 => 5 | 9 => 9 | 66 => 106 | 70 => 110 | 76 => 112 | 77 => 28 | n => n, fun | n => n⟩
theorem Try.sortT : Go.Proofs.SlLaysF0.n6 Try.prog Try.sortT_ren := {
  mixed := by kernel_rfl
  f6 := ⟨Try.f55.name, by decide, Try.func55.trans (congrArg some (by kernel_rfl))⟩
  f14 := ⟨Try.f65.name, by decide, Try.func65.trans (congrArg some (by kernel_rfl))⟩
  f15 := Try.func66.trans (congrArg some (by kernel_rfl))
  f20 := ⟨Try.f69.name, by decide, Try.func69.trans (congrArg some (by kernel_rfl))⟩
  f21 := ⟨Try.f70.name, by decide, Try.func70.trans (congrArg some (by kernel_rfl))⟩
  f22 := ⟨Try.f71.name, by decide, Try.func71.trans (congrArg some (by kernel_rfl))⟩
  f23 := ⟨Try.f72.name, by decide, Try.func72.trans (congrArg some (by kernel_rfl))⟩
  f24 := ⟨Try.f73.name, by decide, Try.func73.trans (congrArg some (by kernel_rfl))⟩
  f25 := ⟨Try.f74.name, by decide, Try.func74.trans (congrArg some (by kernel_rfl))⟩
  f26 := ⟨Try.f75.name, by decide, Try.func75.trans (congrArg some (by kernel_rfl))⟩
  f27 := ⟨Try.f76.name, by decide, Try.func76.trans (congrArg some (by kernel_rfl))⟩
  f28 := Try.func77.trans (congrArg some (by kernel_rfl))
  f29 := Try.func78.trans (congrArg some (by kernel_rfl))
  f46 := ⟨Try.f79.name, by decide, Try.func79.trans (congrArg some (by kernel_rfl))⟩
  f47 := Try.func80.trans (congrArg some (by kernel_rfl))
  f48 := Try.func81.trans (congrArg some (by kernel_rfl))
  f49 := ⟨Try.f82.name, by decide, Try.func82.trans (congrArg some (by kernel_rfl))⟩
  f50 := ⟨Try.f83.name, by decide, Try.func83.trans (congrArg some (by kernel_rfl))⟩
  f57 := ⟨Try.f84.name, by decide, Try.func84.trans (congrArg some (by kernel_rfl))⟩
  t0 := Try.underlying0
  a0 := Try.isAgg0
  z0 := Try.sizeOf0
  v0 := Try.zeroValue0
  t3 := Try.underlying3
  a3 := Try.isAgg3
  z3 := Try.sizeOf3
  v3 := Try.zeroValue3
  t4 := Try.underlying4
  a4 := Try.isAgg4
  z4 := Try.sizeOf4
  v4 := Try.zeroValue4
  t5 := Try.underlying5
  a5 := Try.isAgg5
  z5 := Try.sizeOf5
  v5 := Try.zeroValue5
  t9 := Try.underlying9
  a9 := Try.isAgg9
  z9 := Try.sizeOf9
  v9 := Try.zeroValue9
  t22 := Try.underlying56
  a22 := Try.isAgg56
  z22 := Try.sizeOf56
  v22 := Try.zeroValue56
  t25 := Try.underlying85
  a25 := Try.isAgg85
  z25 := Try.sizeOf85
  v25 := Try.zeroValue85
  t39 := Try.underlying90
  a39 := Try.isAgg90
  z39 := Try.sizeOf90
  v39 := Try.zeroValue90
  t45 := Try.underlying95
  a45 := Try.isAgg95
  z45 := Try.sizeOf95
  v45 := Try.zeroValue95
  t46 := Try.underlying96
  a46 := Try.isAgg96
  z46 := Try.sizeOf96
  v46 := Try.zeroValue96
  t50 := Try.underlying100
  a50 := Try.isAgg100
  z50 := Try.sizeOf100
  v50 := Try.zeroValue100
  t53 := Try.underlying103
  a53 := Try.isAgg103
  z53 := Try.sizeOf103
  v53 := Try.zeroValue103
  t55 := Try.underlying105
  a55 := Try.isAgg105
  z55 := Try.sizeOf105
  v55 := Try.zeroValue105
  t66 := Try.underlying106
  a66 := Try.isAgg106
  z66 := Try.sizeOf106
  v66 := Try.zeroValue106
  t70 := Try.underlying110
  a70 := Try.isAgg110
  z70 := Try.sizeOf110
  v70 := Try.zeroValue110
  t76 := Try.underlying112
  a76 := Try.isAgg112
  z76 := Try.sizeOf112
  v76 := Try.zeroValue112
  t77 := Try.underlying28
  a77 := Try.isAgg28
  z77 := Try.sizeOf28
  v77 := Try.zeroValue28 }
def Try.cmpI_ren : Go.Shelf.Ren := ⟨fun | 5 => 57 | 7 => 67 | n => n, fun | 22 => 3 | 3 => 3 | 4 => 4 | n => n, fun | n => n⟩
theorem Try.cmpI : Go.Proofs.SlLaysC2.n5 Try.prog Try.cmpI_ren := {
  mixed := by kernel_rfl
  f5 := ⟨Try.f57.name, by decide, Try.func57.trans (congrArg some (by kernel_rfl))⟩
  f7 := ⟨Try.f67.name, by decide, Try.func67.trans (congrArg some (by kernel_rfl))⟩
  t3 := Try.underlying3
  a3 := Try.isAgg3
  z3 := Try.sizeOf3
  v3 := Try.zeroValue3
  t4 := Try.underlying4
  a4 := Try.isAgg4
  z4 := Try.sizeOf4
  v4 := Try.zeroValue4
  t22 := Try.underlying3
  a22 := Try.isAgg3
  z22 := Try.sizeOf3
  v22 := Try.zeroValue3 }
end Go.Proofs
namespace Go.Proofs.Ytkgamkjdkapchaa
set_option linter.unusedVariables false
set_option linter.unusedSimpArgs false
set_option linter.unusedVariables false
open Go Go.RowKit Go.Shelf Go.Lib Go.Sort
theorem flatK_flatT (Ts : List TV) : (flatK cellsT 3 Ts.toArray).toList = flatT Ts := by
  apply List.ext_getElem?
  intro t
  by_cases ht : t < Ts.length * 3
  · have hi : t / 3 < Ts.length := by omega
    have hr : t % 3 < 3 := Nat.mod_lt _ (by omega)
    have h1 : (flatK cellsT 3 Ts.toArray).toList[t]? = some ((cellsT Ts.toArray[t / 3]!)[t % 3]!) := by
      have := get_flatK cellsT 3 Ts.toArray t (by simpa using ht)
      rw [Array.getElem?_toList, ← this]
      rw [Array.getElem?_eq_getElem (by simpa using ht), getElem!_pos _ _ (by simpa using ht)]
    have h2 : Ts.toArray[t / 3]! = Ts[t / 3] := by
      rw [getElem!_pos _ _ (by simpa using hi)]; simp
    rw [h1, h2]
    have hx : Ts[t / 3]? = some Ts[t / 3] := List.getElem?_eq_getElem hi
    have hu : (cellsT Ts[t / 3])[t % 3]? = some ((cellsT Ts[t / 3])[t % 3]'(by rw [cellsT_len]; exact hr)) := List.getElem?_eq_getElem _
    have h3 := flatT_get hx hu
    rw [show 3 * (t / 3) + t % 3 = t by omega] at h3
    rw [h3, getElem!_pos _ _ (by rw [cellsT_len]; exact hr)]
  · rw [List.getElem?_eq_none (by simp; omega), List.getElem?_eq_none (by rw [flatT_len]; omega)]
theorem holds_entT {w : World} {g t tot : Nat} {Ts : List TV} (h : Ent.lies ⟨g, t, flatT Ts, tot⟩ w) : HoldsK cellsT 3 w g 0 Ts.toArray := fun j hj => by
  obtain ⟨cur, h1, h2, h3⟩ := h
  have hj' : j < (flatK cellsT 3 Ts.toArray).size := hj
  have hfl : (flatT Ts)[j]? = some (flatK cellsT 3 Ts.toArray)[j]! := by
    rw [← flatK_flatT, Array.getElem?_toList, Array.getElem?_eq_getElem hj', getElem!_pos (flatK cellsT 3 Ts.toArray) j hj']
  refine ⟨?_, ?_⟩
  · have := h3 j _ hfl
    simp only [id]
    rw [Nat.zero_add]
    simp [World.cell?, h1, this]
  · simp only [World.frozen?, h1]
    simp
/-- The block, sorted: what is known then. -/
theorem st_sortedT {w0 w : World} {g t tot n : Nat} {Ts Es : List TV} {H : List Ent} {os : Array Obj} (hs : St w0 (⟨g, t, flatT Ts, tot⟩ :: H) w) (hl : Es.length = Ts.length) : St w0 (⟨g, t, flatT Es, tot⟩ :: H) (sortWorldK cellsT 3 w g 0 n Es.toArray os) := by
  obtain ⟨cur, h1, h2, h3⟩ := hs.has _ List.mem_cons_self
  have hg : g < w.heap.size := (Array.getElem?_eq_some_iff.1 h1).1
  let W := sortWorldK cellsT 3 w g 0 n Es.toArray os
  have hheap : W.heap = (w.heap.modify g (onCells (putCells id 0 (flatK cellsT 3 Es.toArray)))) ++ os := rfl
  have hother : ∀ b, b < w.heap.size → b ≠ g → W.heap[b]? = w.heap[b]? := fun b hb hne => by
    rw [hheap, Array.getElem?_append_left (by simpa using hb), Array.getElem?_modify, if_neg (fun h => hne h.symm)]
  have hhere : W.heap[g]? = some (.cells (putCells id 0 (flatK cellsT 3 Es.toArray) cur) t (0, 0)) := by
    rw [hheap, Array.getElem?_append_left (by simpa using hg), Array.getElem?_modify, if_pos rfl, h1]; rfl
  have hap := hs.apart
  refine ⟨hs.os, hs.tape, hs.output, Nat.le_trans hs.size (by show w.heap.size ≤ W.heap.size; rw [hheap]; simp), ?_, ?_, ?_⟩
  · intro e he
    rcases List.mem_cons.1 he with rfl | he
    · refine ⟨_, hhere, by simpa [putCells] using h2, fun j u hu => ?_⟩
      have hj := (List.getElem?_eq_some_iff.1 hu).1
      have hjs : j < (flatK cellsT 3 Es.toArray).size := by rw [size_flatK]; rw [flatT_len] at hj; simpa using hj
      have hjc : j < cur.size := by
        have hjC : j < (flatT Ts).length := by rw [flatT_len, ← hl, ← flatT_len]; exact hj
        have := h3 j _ (List.getElem?_eq_getElem hjC)
        exact (Array.getElem?_eq_some_iff.1 this).1
      rw [← flatK_flatT, Array.getElem?_toList, Array.getElem?_eq_getElem hjs] at hu
      cases hu
      simp only [putCells]
      rw [Array.getElem?_eq_getElem (by simpa using hjc)]
      simp only [Array.getElem_mapIdx]
      rw [if_pos ⟨Nat.zero_le _, by rw [Nat.zero_add]; exact hjs⟩, Nat.sub_zero, getElem!_pos (flatK cellsT 3 Es.toArray) j hjs]; rfl
    · have hne : e.g ≠ g := fun h => (List.pairwise_cons.1 hap).1 e he h.symm
      exact (hs.has e (List.mem_cons_of_mem _ he)).of_block (hother _ (hs.has e (List.mem_cons_of_mem _ he)).lt hne)
  · intro b hb hne
    have hbg : b ≠ g := fun h => hne _ List.mem_cons_self h.symm
    rw [hother b (Nat.lt_of_lt_of_le hb hs.size) hbg]
    exact hs.old b hb (fun e he => by
      rcases List.mem_cons.1 he with rfl | he
      · exact fun h => hbg h.symm
      · exact hne e (List.mem_cons_of_mem _ he))
  · exact .cons (fun e he => (List.pairwise_cons.1 hap).1 e he) (List.pairwise_cons.1 hap).2
theorem ltOf_o (x y : TV) : ltOf (fun x y : TV => Lib.compareInt x.o y.o) x y = decide (x.o < y.o) := by
  unfold ltOf Lib.compareInt
  by_cases h1 : x.o < y.o
  · simp [h1]
  · by_cases h2 : y.o < x.o <;> simp [h1, h2]
theorem sorted_listT {Es : List TV} (h : SortedIn (ltOf fun x y : TV => Lib.compareInt x.o y.o) 0 Es.length Es.toArray) : Es.Pairwise leT := by
  rw [List.pairwise_iff_getElem]
  intro i j hi hj hij
  have h1 := h i j (Nat.zero_le _) hij hj
  rw [getElem!_pos Es.toArray j (by simpa using hj), getElem!_pos Es.toArray i (by simpa using hi)] at h1
  simp only [List.getElem_toArray] at h1
  rw [ltOf_o] at h1
  unfold leT
  have h2 := of_decide_eq_false h1
  omega
theorem swoO : SWO (ltOf fun x y : TV => Lib.compareInt x.o y.o) := by
  have e := ltOf_o
  exact ⟨fun x => by rw [e]; simp, fun x y z h1 h2 => by rw [e] at *; simp at *; omega, fun x y z h1 h2 => by rw [e] at *; simp at *; omega⟩
theorem perm_ofT {Ts : List TV} {d : Array TV} (h : PermIn 0 Ts.toArray.size Ts.toArray d) : d.toList.Perm Ts := by
  obtain ⟨h1, _, h3⟩ := h
  have e1 : d.extract 0 Ts.toArray.size = d := by rw [← h1]; simp
  have e2 : Ts.toArray.extract 0 Ts.toArray.size = Ts.toArray := by simp
  rw [e1, e2] at h3
  simpa using h3
/-- slices.SortFunc, the closure's own contract given. -/
theorem sortT_c {w0 w : World} {g t tot cap fc : Nat} {Ts : List TV} {H : List Ent} (hs : St w0 (⟨g, t, flatT Ts, tot⟩ :: H) w) (hlen : Ts.length < 4611686018427387904)
    (eg : ∀ args w, (callFunc fc args).run Try.prog w = .ok (.enter fc args) w) (hc : ∀ (x y : TV) (W : World), Calls Try.prog fc #[.agg (cellsT x).toArray, .agg (cellsT y).toArray] W fun e w' => e = .returned (.int .i64 (Lib.compareInt x.o y.o)) ∧ ∃ q os', w' = grow (W.drewN q) os') :
    Calls Try.prog 55 #[.slice (some ⟨g, 0, none⟩) Ts.length cap, .func (.func fc) #[] #[]] w fun e w' => e = .returned (.tuple #[]) ∧ ∃ Es : List TV, Es.Perm Ts ∧ Es.Pairwise leT ∧ St w0 (⟨g, t, flatT Es, tot⟩ :: H) w' := by
  have hlt := (hs.has _ List.mem_cons_self).lt
  have hcon := AnyQ.slices_SortFunc Try.sortT 3 (fun w => congrFun agg59 w) (run_size size59) cellsT (fun _ => rfl) (fun x v hv => flatT_one' [x] v (by rw [flatT_one]; exact hv)) (fun x y : TV => Lib.compareInt x.o y.o) swoO fc #[] g 0 cap Ts.toArray w eg (fun _ _ _ _ x y => hc x y _) (holds_entT (hs.has _ List.mem_cons_self)) hlt (by simpa using hlen)
  refine hcon.mono ?_
  rintro e w' ⟨rfl, d, n, os, hp, hq, rfl⟩
  have hsz : d.size = Ts.length := by have := hp.1; simpa using this
  have hperm := perm_ofT hp
  refine ⟨rfl, d.toList, hperm, sorted_listT (by simpa [hsz] using hq), ?_⟩
  have := st_sortedT (n := n) (os := os) (Es := d.toList) hs (by simpa using hsz)
  simpa using this
end Go.Proofs.Ytkgamkjdkapchaa
/-
  The closure that compares targets.
-/
namespace Go.Proofs.Ytkgamkjdkapchaa
set_option linter.unusedVariables false
set_option linter.unusedSimpArgs false
set_option linter.unusedVariables false
open Go Go.RowKit Go.Shelf Go.Lib Go.Sort
set_option maxHeartbeats 1000000 in
theorem closureT_c (x y : TV) (W : World) : Calls Try.prog 56 #[.agg (cellsT x).toArray, .agg (cellsT y).toArray] W fun e w' => e = .returned (.int .i64 (Lib.compareInt x.o y.o)) ∧ ∃ q os', w' = grow (W.drewN q) os' := by
  have hcon := fun W' => AnyG.cmp_Compare_int Try.cmpI x.o y.o W'
  change ∀ W', Calls Try.prog 57 _ _ _ at hcon
  generalize Lib.compareInt x.o y.o = r at hcon ⊢
  show Calls Try.prog 56 #[.agg #[.int .i64 x.o, .int .i64 x.l, .int .i64 x.x], .agg #[.int .i64 y.o, .int .i64 y.l, .int .i64 y.x]] W _
  go_enter Try.func56, Try.ntmps56
  go_wp2_with (go_at_call 57; refine (hcon _).mono ?_; rintro e w' ⟨rfl, rfl⟩)
  go_ret
  exact ⟨rfl, 0, _, by rw [alloc_eq_grow, alloc_eq_grow, grow_grow]; rfl⟩
end Go.Proofs.Ytkgamkjdkapchaa
/-
  A slice of structs is made.
-/
namespace Go.Proofs.Ytkgamkjdkapchaa
set_option linter.unusedVariables false
set_option linter.unusedSimpArgs false
set_option linter.unusedVariables false
open Go Go.RowKit
variable {P : Program} {ops : Array Oper} {Q : Exit → Act → World → Prop} {n : Sz} {w0 : World} {L L' : List (Nat × Value)} {H : List Ent}
variable {o : Oper} {rest : List Oper} {v u : Value} {x y z : Operand} {k m j : Nat} {t t' e : TypeId} {kd kd' : IntKind} {p q r : Int}
theorem rep_get {zs : List Value} {s : Nat} (hs : zs.length = s) : ∀ (c i : Nat), i < c * s → (List.replicate c zs).flatten[i]? = zs[i % s]?
  | 0, i, h => by omega
  | c + 1, i, h => by
    have hs0 : 0 < s := by
      rcases Nat.eq_zero_or_pos s with h0 | h0
      · subst h0; simp at h
      · exact h0
    rw [List.replicate_succ, List.flatten_cons]
    by_cases hi : i < s
    · rw [List.getElem?_append_left (by omega), Nat.mod_eq_of_lt hi]
    · rw [List.getElem?_append_right (by omega), hs, rep_get hs c (i - s) (by rw [Nat.succ_mul] at h; omega), ← Nat.mod_eq_sub_mod (by omega)]
theorem rep_len {zs : List Value} {s : Nat} (hs : zs.length = s) (c : Nat) : (List.replicate c zs).flatten.length = c * s := by
  induction c with
  | zero => simp
  | succ c ih => rw [List.replicate_succ, List.flatten_cons, List.length_append, ih, hs, Nat.succ_mul]; omega
theorem madeCellsS {zs : List Value} {s : Nat} (hs : zs.length = s) (h0 : 0 < s) (c : Nat) : ((Array.range (c * s)).map (fun i => zs.toArray[i % s]!)).toList = (List.replicate c zs).flatten := by
  apply List.ext_getElem?
  intro i
  by_cases h : i < c * s
  · rw [rep_get hs c i h]
    have hm : i % s < zs.length := by rw [hs]; exact Nat.mod_lt _ h0
    simp only [Array.toList_map, List.getElem?_map]
    rw [Array.toList_range, List.getElem?_range h]
    rw [List.getElem?_eq_getElem hm]
    simp [hm]
  · rw [List.getElem?_eq_none (by simp; omega), List.getElem?_eq_none (by rw [rep_len hs]; omega)]
theorem TL.makeSliceS {zv : Value} {zs : List Value} {ln cp bytes s : Nat} (hg : Wants n ops L o) (hi : inside n o.dst = true) (ho : o.op = .makeSlice t x y) (h1 : P.underlying t = some (.slice e))
    (hz : (P.info? e).map (fun i => (i.zero, i.size, i.bytes)) = some (some zv, s, bytes)) (hzc : zv.cells = zs.toArray) (hzl : zs.length = s) (hs0 : 0 < s)
    (hx : ev L x = some (.int kd p)) (hy : ev L y = some (.int kd' q)) (hp : p = (ln : Int)) (hq : q = (cp : Int)) (hle : ln ≤ cp) (hcp : cp ≤ 9223372036854775807) (hb : cp * bytes ≤ 281474976710656)
    {cs : List Value} {tot : Nat} (hcs : (List.replicate cp zs).flatten = cs) (htot : cp * s = tot)
    (hr : ∀ g, w0.heap.size ≤ g → TL P ops Q n w0 rest (put L o.dst (.slice (some ⟨g, 0, none⟩) ln cp)) (⟨g, e, cs, tot⟩ :: H)) : TL P ops Q n w0 (o :: rest) L H :=
  fun a w hf hs => wpL_wants hg.nd (hg a hf) fun K hK => by
    obtain ⟨i, hi1, hi2⟩ := Option.map_eq_some_iff.1 hz
    simp only [Prod.mk.injEq] at hi2
    obtain ⟨hz1, hz2, hz3⟩ := hi2
    subst hp; subst hq; subst hcs; subst htot
    have hrun : ∃ arr : Array Value, arr.toList = (List.replicate cp zs).flatten ∧ (execOp a.eval o).run P w = .ok (.value (.slice (some ⟨w.heap.size, 0, none⟩) ln cp)) (w.alloc (.cells arr e)) := by
      have hlw : IntKind.i64.wrap (ln : Int) = ln := IntWalk.i64_in _ (by omega)
      have hcw : IntKind.i64.wrap (cp : Int) = cp := IntWalk.i64_in _ (by omega)
      have hbytes : ¬ ((i.bytes : Int) * (cp : Int) > 2 ^ 48) := by
        rw [hz3]
        have : (bytes : Int) * (cp : Int) = ((cp * bytes : Nat) : Int) := by rw [Nat.mul_comm]; simp
        rw [this]; omega
      have hroom : ∀ (b : Nat) (ww : World), (askRoom b).run P ww = .ok () ww := by
        intro b ww
        unfold askRoom
        split <;> rfl
      have hsz : zv.cells.size = s := by rw [hzc]; simpa using hzl
      by_cases h0 : cp = 0
      · subst h0
        obtain rfl : ln = 0 := by omega
        refine ⟨#[], by simp, ?_⟩
        simp only [execOp, ho, hf.eval hx, hf.eval hy]
        refine run_value ?_
        have hw0 : IntKind.i64.wrap 0 = 0 := by decide
        have hr0 : Array.range 0 = #[] := rfl
        simp [hr0, Instr.makeSlice, Sem.run_bind, run_under h1, asInt, asIntOf, run_info hi1, hw0, hroom, sizeOf, hz2, newRow, newObj, Sem.run]
      · refine ⟨(Array.range (cp * s)).map (fun i => zs.toArray[i % s]!), madeCellsS hzl hs0 cp, ?_⟩
        simp only [execOp, ho, hf.eval hx, hf.eval hy]
        refine run_value ?_
        have hns : ¬ (cp * s = 0) := fun hc => by rcases Nat.mul_eq_zero.1 hc with h | h <;> omega
        simp [Instr.makeSlice, Sem.run_bind, run_under h1, asInt, asIntOf, run_info hi1, hlw, hcw, hbytes, hroom, sizeOf, hz2, zeroValue, hz1, hzc, hzl, newRow, newObj, Sem.run, hns]
        have e1 : ¬ (cp : Int) < 0 := by omega
        have e2 : ¬ (ln : Int) < 0 := by omega
        have e3 : ¬ (cp : Int) < (ln : Int) := by omega
        have e4 : ¬ ((2 : Int) ^ 48 < (i.bytes : Int) * (cp : Int)) := hbytes
        have e5 : ¬ s = 0 := by omega
        simp [e2, e3, h0, e5, hzc, hzl]
        simp at e4
        try omega
    obtain ⟨arr, ha, hrun⟩ := hrun
    unfold Oper.wp; rw [hrun]
    have hst := hs.alloc e _ arr ha
    rw [rep_len hzl] at hst
    exact hK _ _ (hr _ hs.size _ _ (hf.put o.dst _ hi) hst)
theorem perm_midE {A B : List Ent} {g : Ent} : (A ++ g :: B).Perm ((A ++ B) ++ [g]) := List.perm_middle.trans (List.perm_append_singleton g (A ++ B)).symm
section
variable {HB X D : List Ent} {ks : List Nat} {r' : Value → List Ent → Prop} {rs : List (Value → List Ent → Prop)}
theorem TR.storeN {i g off s : Nat} {ent : Ent} {vs : List Value} (hg : Wants n ops L o) (hd : o.dst = none) (ho : o.op = .store t x y) (hsz : (P.info? t).map (·.size) = some s)
    (hx : ev L x = some (.pointer (some ⟨g, off, none⟩))) (hy : ev L y = some (.agg vs.toArray)) (hl : vs.length = s) (h1 : ∀ u ∈ vs, u.oneCell' = true) (hi : D[i]? = some ent) (he : ent.g = g) (hoff : off + vs.length ≤ ent.cs.length)
    {cs' : List Value} (hcs : ent.cs.take off ++ vs ++ ent.cs.drop (off + vs.length) = cs') {D' : List Ent} (hH : D.set i ⟨ent.g, ent.t, cs', ent.tot⟩ = D') (hF : Fresh w0 D) (hr : TR P ops Q n w0 HB ks rs rest L X D') : TR P ops Q n w0 HB (4 :: ks) (r' :: rs) (o :: rest) L X D :=
  fun a hf => .inr (.inr ⟨rfl, hd, D', ⟨fun Z w hZ hs => by
    subst hcs
    subst hH
    have hlt : i < D.length := (List.getElem?_eq_some_iff.1 hi).1
    have hi2 : (HB ++ (Z ++ D))[HB.length + (Z.length + i)]? = some ent := by
      rw [List.getElem?_append_right (by omega), List.getElem?_append_right (by omega), ← hi]
      congr 1; omega
    obtain ⟨w', hrun, hs'⟩ := run_storeCells (P := P) (i := HB.length + (Z.length + i)) (g := g) (ent := ent) (off := off) vs 0 (HB ++ (Z ++ D)) ent w he hs hi2 h1 (by omega)
    refine ⟨w', ?_, ?_⟩
    · simp only [execOp, ho, hf.eval hx, hf.eval hy]
      refine run_unit ?_
      simp only [Instr.storeAt, Instr.sureAddr, storeVar, Sem.run_bind, Sem.run_pure, Result.andThen_ok, run_size hsz]
      rw [if_neg (fun h => h (by simpa [Value.cells] using hl))]
      simpa [Value.cells] using hrun
    · rw [Nat.add_zero] at hs'
      rwa [List.set_append_right _ _ (by omega), List.set_append_right _ _ (by omega), show HB.length + (Z.length + i) - HB.length - Z.length = i by omega] at hs', hg a hf, by subst hH; exact fresh_set hF hi rfl⟩, hr a hf⟩)
end
end Go.Proofs.Ytkgamkjdkapchaa
/-
  The code of layer 5: the closure of checkTargets, sort.Search, ascending.
-/
namespace Go.Proofs.Ytkgamkjdkapchaa
set_option linter.unusedVariables false
set_option linter.unusedSimpArgs false
open Go Go.RowKit
theorem enters34 : Enters Try.prog 34 := ⟨_, Try.func34, by kernel_rfl, by kernel_rfl⟩
theorem enters49 : Enters Try.prog 49 := ⟨_, Try.func49, by kernel_rfl, by kernel_rfl⟩
theorem enters50 : Enters Try.prog 50 := ⟨_, Try.func50, by kernel_rfl, by kernel_rfl⟩
theorem enters51 : Enters Try.prog 51 := ⟨_, Try.func51, by kernel_rfl, by kernel_rfl⟩
theorem enters55 : Enters Try.prog 55 := ⟨_, Try.func55, by kernel_rfl, by kernel_rfl⟩
theorem enters56 : Enters Try.prog 56 := ⟨_, Try.func56, by kernel_rfl, by kernel_rfl⟩
theorem mk59 : (Try.prog.info? 59).map (fun i => (i.zero, i.size, i.bytes)) = some (some (.agg #[.int .i64 0, .int .i64 0, .int .i64 0]), 3, 24) := by kernel_rfl
set_option maxRecDepth 100000 in
set_option maxHeartbeats 400000 in
theorem over1_c (bt gt m i : Nat) (o n : Int) (Cs : List CV) (Ts : List TV) (hA : AscT o n Cs Ts) (hm9 : m ≤ 1000000000) (hm8 : Cs.length ≤ 1000000000) (hlT : Ts.length = m) (hi : i ≤ 1000000000) (w : World) (hbt : w.cell? ⟨bt, 0, none⟩ = some (.slice (some ⟨gt, 0, none⟩) m m)) (hr : RowsT w gt 0 Ts) (hbl : bt < w.heap.size) (hgl : gt < w.heap.size) : Calls Try.prog 49 #[.int .i64 (i : Int), .pointer (some ⟨bt, 0, none⟩)] w fun e w' => e = .returned (.bool (decide (ovF (upF Ts (i : Int))))) ∧ St w [] w' := by
  refine calls_from (args := [.int .i64 (i : Int), .pointer (some ⟨bt, 0, none⟩)]) Try.func49 rfl Try.ntmps49 (by simp) ?_
  refine TC.sub (Sub.cons (i := 0) rfl (Sub.cons (i := 1) rfl (Sub.nil))) ?_
  refine TC.seq ?_
  refine TC.regionL ?_
  refine TL.gets (Wants.none rfl) rfl (Gets.assign rfl rfl) ?_
  refine TL.nil ?_
  refine TE.then ?_
  refine TC.seq ?_
  refine TC.regionL ?_
  refine TL.gets (Wants.none rfl) rfl (Gets.load1 rfl agg56 rfl (At.old hbt hbl ne_nil)) ?_
  refine TL.gets (Wants.none rfl) rfl (Gets.move rfl rfl) ?_
  refine TL.call (ι := Nat × Nat) (V := fun y => .func (.func 64) #[] #[.pointer (some ⟨y.1, 0, none⟩), .pointer (some ⟨y.2, 0, none⟩)]) (R := fun y => w.heap.size ≤ y.1 ∧ w.heap.size ≤ y.2) (H' := fun y => [⟨y.1, 56, [Value.slice (some ⟨gt, 0, none⟩) m m], 1⟩, ⟨y.2, 3, [Value.int .i64 (i : Int)], 1⟩]) (Wants.none rfl) rfl enters51 rfl rfl (fun w hs => (upTo_c gt m (i : Int) w).mono fun e w' ⟨y, he, hR, hw⟩ => ⟨y, he, ⟨Nat.le_trans hs.size hR.1, Nat.le_trans hs.size hR.2⟩, st_call hs hw (fun e he => by rcases List.mem_cons.1 he with rfl | he; exact hR.1; rw [List.mem_singleton.1 he]; exact hR.2)⟩) (fun y hR => ?_)
  obtain ⟨u1, v1⟩ := y
  obtain ⟨hu1, hv1⟩ := hR
  dsimp only at hu1 hv1 ⊢
  refine TL.call0 (Wants.none rfl) rfl enters50 rfl rfl (v := .bool (decide (ovF (upF Ts (i : Int))))) (fun w hs => overlap_c u1 v1 gt m Ts (i : Int) (by omega) hm9 (hA.nums hm8) n hA.n0 (hA.pos _) (hA.ends _) w (capT_of (hs.has (⟨u1, 56, [Value.slice (some ⟨gt, 0, none⟩) m m], 1⟩) (by simp)) (hs.has (⟨v1, 3, [Value.int .i64 (i : Int)], 1⟩) (by simp)) (hr.of_block (hs.old gt hgl (ne_cons (by show u1 ≠ gt; omega) (ne_cons (by show v1 ≠ gt; omega) ne_nil)))) hlT (Nat.lt_of_lt_of_le hgl hs.size))) ?_
  refine TL.gets (Wants.none rfl) rfl (Gets.assign rfl rfl) ?_
  refine TL.nil ?_
  refine TE.then ?_
  refine TC.ret ?_
  exact TE.ret1 rfl rfl (fun w hs => ⟨dec_iff (Iff.rfl), ((hs.drop (by assumption)).drop (by assumption))⟩)


theorem shr1 {h : Nat} {p : Int} (hh : (h : Int) = p / 2) (hp : 0 ≤ p) : shrI .u64 p 1 = (h : Int) := by
  unfold shrI
  rw [hh, Int.fdiv_eq_ediv_of_nonneg _ (by decide)]
  rfl

set_option maxRecDepth 100000 in
set_option maxHeartbeats 400000 in
theorem search_c (p : Nat → Prop) [DecidablePred p] (m bt : Nat) (hm : m ≤ 1000000000) (w : World) (hf : ∀ (i : Nat) (W : World), i < m → St w [] W → Calls Try.prog 49 #[.int .i64 (i : Int), .pointer (some ⟨bt, 0, none⟩)] W fun e w' => e = .returned (.bool (decide (p i))) ∧ St W [] w') (hmono : ∀ a b, a ≤ b → b < m → p a → p b) : Calls Try.prog 48 #[.int .i64 (m : Int), .func (.func 49) #[] #[.pointer (some ⟨bt, 0, none⟩)]] w fun e w' => e = .returned (.int .i64 ((lowI p m) : Int)) ∧ St w [] w' := by
  refine calls_from (args := [.int .i64 (m : Int), .func (.func 49) #[] #[.pointer (some ⟨bt, 0, none⟩)]]) Try.func48 rfl Try.ntmps48 (by simp) ?_
  refine TC.sub (Sub.cons (i := 0) rfl (Sub.cons (i := 1) rfl (Sub.nil))) ?_
  refine TC.seq ?_
  refine TC.regionL ?_
  refine TL.gets (Wants.none rfl) rfl (Gets.assign rfl rfl) ?_
  refine TL.nil ?_
  refine TE.then ?_
  refine TC.seq ?_
  refine TC.regionL ?_
  refine TL.gets (Wants.none rfl) rfl (Gets.move rfl rfl) ?_
  refine TL.gets (Wants.none rfl) rfl (Gets.assign rfl rfl) ?_
  refine TL.gets (Wants.none rfl) rfl (Gets.assign rfl rfl) ?_
  refine TL.nil ?_
  refine TE.then ?_
  refine TC.seq ?_
  refine TC.block ?_
  refine TC.loop (ι := Nat × Nat) (fun y => [(1, .func (.func 49) #[] #[.pointer (some ⟨bt, 0, none⟩)]), (5, .int .i64 (y.1 : Int)), (6, .int .i64 (y.2 : Int))]) (fun y => []) (fun y => y.2 - y.1) (fun y => (y.1 ≤ y.2 ∧ y.2 ≤ m) ∧ (∀ j, j < y.1 → ¬ p j) ∧ ∀ j, y.2 ≤ j → j < m → p j) (0, m) ⟨⟨Nat.zero_le _, Nat.le_refl _⟩, fun j h => absurd h (Nat.not_lt_zero j), fun j h1 h2 => by omega⟩ (Sub.cons (i := 1) rfl (Sub.int (i := 5) rfl rfl (Sub.int (i := 6) rfl rfl (Sub.nil)))) (fun w h => h) (fun y hC0 => ?_)
  obtain ⟨lo, hi⟩ := y
  obtain ⟨⟨hC0, hC1⟩, hC2, hC3⟩ := hC0
  dsimp only at hC0 hC1 hC2 hC3
  refine TC.seq ?_
  refine TC.seq ?_
  refine TC.regionL ?_
  refine TL.gets (Wants.none rfl) rfl (Gets.move rfl rfl) ?_
  refine TL.gets (Wants.none rfl) rfl (Gets.move rfl rfl) ?_
  refine TL.gets (Wants.none rfl) rfl (Gets.lss rfl rfl rfl) ?_
  refine TL.nil ?_
  refine TE.then ?_
  refine TC.split rfl (fun hq0 => ?_) (fun hq0 => ?_)
  · refine TC.skip ?_
    refine TE.then ?_
    refine TC.block ?_
    refine TC.seq ?_
    refine TC.regionL ?_
    refine TL.gets (Wants.none rfl) rfl (Gets.move rfl rfl) ?_
    refine TL.gets (Wants.none rfl) rfl (Gets.move rfl rfl) ?_
    refine TL.gets (Wants.none rfl) rfl (Gets.add rfl rfl rfl (r := ((lo : Int) + (hi : Int))) (w64 (by omega) (by omega))) ?_
    refine TL.gets (Wants.none rfl) rfl (Gets.conv rfl Try.underlying3 Try.underlying90 rfl (r := ((lo : Int) + (hi : Int))) (wu64 rfl (by omega))) ?_
    obtain ⟨h, hh⟩ : ∃ h : Nat, (h : Int) = ((lo : Int) + (hi : Int)) / 2 := ⟨(lo + hi) / 2, by omega⟩
    refine TL.gets (Wants.none rfl) rfl (Gets.shr rfl rfl rfl (by omega) (r := (h : Int)) (shr1 hh (by omega))) ?_
    refine TL.gets (Wants.none rfl) rfl (Gets.conv rfl Try.underlying90 Try.underlying3 rfl (r := (h : Int)) (w64 rfl (by omega))) ?_
    refine TL.gets (Wants.none rfl) rfl (Gets.assign rfl rfl) ?_
    refine TL.nil ?_
    refine TE.then ?_
    refine TC.sub (Sub.cons (i := 1) rfl (Sub.cons (i := 5) rfl (Sub.cons (i := 6) rfl (Sub.cons (i := 7) rfl (Sub.nil))))) ?_
    refine TC.seq ?_
    refine TC.regionL ?_
    refine TL.gets (Wants.none rfl) rfl (Gets.move rfl rfl) ?_
    refine TL.gets (Wants.none rfl) rfl (Gets.move rfl rfl) ?_
    refine TL.call0F (Wants.none rfl) rfl enters49 rfl rfl rfl (u := .bool (decide (p h))) (fun w hs => hf h w (by omega) hs) ?_
    refine TL.gets (Wants.none rfl) rfl (Gets.notP rfl rfl) ?_
    refine TL.nil ?_
    refine TE.then ?_
    refine TC.split rfl (fun hq1 => ?_) (fun hq1 => ?_)
    · refine TC.regionL ?_
      refine TL.gets (Wants.none rfl) rfl (Gets.move rfl rfl) ?_
      refine TL.gets (Wants.none rfl) rfl (Gets.add rfl rfl rfl (r := ((h : Int) + 1)) (w64 (by omega) (by omega))) ?_
      refine TL.gets (Wants.none rfl) rfl (Gets.assign rfl rfl) ?_
      refine TL.nil ?_
      refine TE.blockN ?_
      exact TE.back (h + 1, hi) (by show hi - (h + 1) < hi - lo; omega) ⟨⟨(by show h + 1 ≤ hi; omega), hC1⟩, fun j hj hp => hq1 (hmono j h (by omega) (by omega) hp), hC3⟩ (Sub.cons (i := 1) rfl (Sub.int (i := 5) rfl (by show _ = _; omega) (Sub.int (i := 6) rfl (by show _ = _; omega) (Sub.nil)))) (fun w h => h)
    · refine TC.regionL ?_
      refine TL.gets (Wants.none rfl) rfl (Gets.move rfl rfl) ?_
      refine TL.gets (Wants.none rfl) rfl (Gets.assign rfl rfl) ?_
      refine TL.nil ?_
      refine TE.blockN ?_
      exact TE.back (lo, h) (by show h - lo < hi - lo; omega) ⟨⟨(by show lo ≤ h; omega), (by show h ≤ m; omega)⟩, hC2, fun j h1 h2 => hmono h j h1 h2 (Classical.byContradiction hq1)⟩ (Sub.cons (i := 1) rfl (Sub.int (i := 5) rfl (by show _ = _; omega) (Sub.int (i := 6) rfl (by show _ = _; omega) (Sub.nil)))) (fun w h => h)
  · refine TC.exit ?_
    refine TE.thenX ?_
    refine TE.thenX ?_
    refine TE.blockX ?_
    refine TE.then ?_
    refine TC.seq ?_
    refine TC.regionL ?_
    refine TL.gets (Wants.none rfl) rfl (Gets.move rfl rfl) ?_
    refine TL.gets (Wants.none rfl) rfl (Gets.assign rfl rfl) ?_
    refine TL.nil ?_
    refine TE.then ?_
    refine TC.ret ?_
    exact TE.ret1 rfl rfl (fun w hs => ⟨ret_i (by rw [lowI_is (k := lo) (by omega) hC2 (by by_cases hmm : lo = m; exact .inl hmm; exact .inr (hC3 lo (by omega) (by omega)))]), hs⟩)


theorem tgt_c (k t f l : Int) (A : Option Addr) (m c : Nat) (hk : k = 1 ∨ k = 2) (w : World) : Calls Try.prog 34 #[.agg ([Value.int .i64 k, Value.int .i64 t, Value.int .i64 f, Value.int .i64 l, Value.slice A m c]).toArray] w fun e w' => e = .returned (.agg ([Value.int .i64 t, Value.int .i64 (lenV k l m)]).toArray) ∧ St w [] w' := by
  unfold lenV
  rcases hk with rfl | rfl
  · rw [if_pos rfl]; exact target1 t f l A m c w
  · rw [if_neg (by decide)]; exact target2 t f l A m c w

set_option maxRecDepth 100000 in
set_option maxHeartbeats 1000000 in
theorem asc_c (A : Option Addr) (m c : Nat) (Cs : List CV) (hk12 : ∀ (i : Nat) (x : CV), Cs[i]? = some x → x.k = 1 ∨ x.k = 2) (hmm : m ≤ 1000000000) (hN : NumsC Cs) (w : World) (hC : SrcC w A m Cs) : Calls Try.prog 35 #[.slice A m c] w fun e w' => ∃ y : Nat × List TV, e = .returned (.slice (some ⟨y.1, 0, none⟩) m m) ∧ (y.2.Perm (tvOf Cs) ∧ y.2.Pairwise leT) ∧ w.heap.size ≤ y.1 ∧ St w [⟨y.1, 59, flatT y.2, (m * 3)⟩] w' := by
  refine calls_from (args := [.slice A m c]) Try.func35 rfl Try.ntmps35 (by simp) ?_
  refine TC.sub (Sub.cons (i := 0) rfl (Sub.nil)) ?_
  refine TC.seq ?_
  refine TC.regionL ?_
  refine TL.gets (Wants.none rfl) rfl (Gets.assign rfl rfl) ?_
  refine TL.nil ?_
  refine TE.then ?_
  refine TC.seq ?_
  refine TC.regionL ?_
  refine TL.gets (Wants.none rfl) rfl (Gets.move rfl rfl) ?_
  refine TL.gets (Wants.none rfl) rfl (Gets.lenSlice rfl Try.underlying23 rfl) ?_
  refine TL.makeSliceS (Wants.none rfl) rfl rfl Try.underlying56 mk59 (zs := [Value.int .i64 0, Value.int .i64 0, Value.int .i64 0]) rfl rfl (by decide) rfl rfl (ln := m) (cp := m) (by omega) (by omega) (by omega) (by omega) (by omega) (cs := flatT (stT Cs m 0)) (tot := m * 3) (stT_rep Cs m) rfl (fun g1 hg1 => ?_)
  refine TL.gets (Wants.none rfl) rfl (Gets.assign rfl rfl) ?_
  refine TL.nil ?_
  refine TE.then ?_
  refine TC.seq ?_
  refine TC.seq ?_
  refine TC.regionL ?_
  refine TL.gets (Wants.none rfl) rfl (Gets.move rfl rfl) ?_
  refine TL.gets (Wants.none rfl) rfl (Gets.lenSlice rfl Try.underlying23 rfl) ?_
  refine TL.gets (Wants.none rfl) rfl (Gets.move rfl rfl) ?_
  refine TL.nil ?_
  refine TE.then ?_
  refine TC.sub (Sub.cons (i := 2) rfl (Sub.cons (i := 3) rfl (Sub.cons (i := 9) rfl (Sub.cons (i := 10) rfl (Sub.cons (i := 11) rfl (Sub.nil)))))) ?_
  refine TC.block ?_
  refine TC.loop (ι := Nat) (fun i => [(3, .slice (some ⟨g1, 0, none⟩) m m), (9, .slice A m c), (10, .int .i64 (m : Int)), (11, .int .i64 (i : Int))]) (fun i => [⟨g1, 59, flatT (stT Cs m i), (m * 3)⟩]) (fun i => m - i) (fun i => i ≤ m) 0 (Nat.zero_le _) (Sub.slice (i := 3) rfl rfl (by first | omega | (dsimp only; omega) | rfl) (by first | omega | (dsimp only; omega) | rfl) (Sub.slice (i := 9) rfl rfl (by first | omega | (dsimp only; omega) | rfl) (by first | omega | (dsimp only; omega) | rfl) (Sub.int (i := 10) rfl (by first | omega | rfl) (Sub.int (i := 11) rfl (by first | omega | rfl) (Sub.nil))))) (fun w h => h) (fun i hC0 => ?_)
  refine TC.seq ?_
  refine TC.regionL ?_
  refine TL.gets (Wants.none rfl) rfl (Gets.lss rfl rfl rfl) ?_
  refine TL.nil ?_
  refine TE.then ?_
  refine TC.seq ?_
  refine TC.split rfl (fun hq0 => ?_) (fun hq0 => ?_)
  · obtain ⟨b, off, hAe, hb, hrw⟩ := hC.some_ (i := i) (by omega)
    subst hAe
    obtain ⟨x, hx⟩ := hC.get (i := i) (by omega)
    have hnx := hN i x hx
    unfold NumC at hnx
    have hlbx := lenV_bd (k := x.k) (l := x.l) (m := x.m) (by omega) (by omega)
    refine TC.skip ?_
    refine TE.then ?_
    refine TC.seq ?_
    refine TC.block ?_
    refine TC.seq ?_
    refine TC.regionL ?_
    refine TL.gets (Wants.none rfl) rfl (Gets.move rfl rfl) ?_
    refine TL.gets (Wants.none rfl) rfl (Gets.idxSlice rfl Try.underlying23 size40 rfl rfl (i := i) (by omega) (by omega) (off' := (off + 5 * i)) (by omega)) ?_
    refine TL.gets (Wants.none rfl) rfl (Gets.loadN rfl agg40 size40 rfl rfl (Row.old (fun jj u h => hrw i x hx jj u h) hb (ne_cons (by show g1 ≠ b; omega) ne_nil))) ?_
    refine TL.alloc (Wants.none rfl) rfl rfl zero40 (cs := [Value.int .i64 0, Value.int .i64 0, Value.int .i64 0, Value.int .i64 0, Value.slice none 0 0]) rfl (tot := 5) (by simp) (fun g2 hg2 => ?_)
    refine TL.gets (Wants.none rfl) rfl (Gets.assign rfl rfl) ?_
    refine TL.storeW (Wants.none rfl) rfl rfl size40 rfl (vs := [Value.int .i64 x.k, Value.int .i64 x.t, Value.int .i64 x.f, Value.int .i64 x.l, Value.slice x.A x.m x.c]) rfl (by simp []) (by simp [Value.oneCell']) (i := 0) (ent := ⟨g2, 40, [Value.int .i64 0, Value.int .i64 0, Value.int .i64 0, Value.int .i64 0, Value.slice none 0 0], 5⟩) rfl rfl (by simp []) (H' := [⟨g2, 40, [Value.int .i64 x.k, Value.int .i64 x.t, Value.int .i64 x.f, Value.int .i64 x.l, Value.slice x.A x.m x.c], 5⟩, ⟨g1, 59, flatT (stT Cs m i), (m * 3)⟩]) rfl ?_
    refine TL.nil ?_
    refine TE.then ?_
    refine TC.sub (Sub.cons (i := 3) rfl (Sub.cons (i := 4) rfl (Sub.cons (i := 5) rfl (Sub.cons (i := 9) rfl (Sub.cons (i := 10) rfl (Sub.cons (i := 11) rfl (Sub.nil))))))) ?_
    refine TC.regionL ?_
    refine TL.gets (Wants.none rfl) rfl (Gets.move rfl rfl) ?_
    refine TL.gets (Wants.none rfl) rfl (Gets.move rfl rfl) ?_
    refine TL.gets (Wants.none rfl) rfl (Gets.loadN rfl agg40 size40 rfl (vs := [Value.int .i64 x.k, Value.int .i64 x.t, Value.int .i64 x.f, Value.int .i64 x.l, Value.slice x.A x.m x.c]) (by simp []) (Row.all (i := 0) (ent := ⟨g2, 40, [Value.int .i64 x.k, Value.int .i64 x.t, Value.int .i64 x.f, Value.int .i64 x.l, Value.slice x.A x.m x.c], 5⟩) rfl rfl rfl)) ?_
    refine TL.call0 (Wants.none rfl) rfl enters34 rfl rfl (v := .agg ([Value.int .i64 x.t, Value.int .i64 (lenV x.k x.l x.m)]).toArray) (fun w hs => tgt_c x.k x.t x.f x.l x.A x.m x.c (hk12 i x hx) w) ?_
    refine TL.gets (Wants.none rfl) rfl (Gets.move rfl rfl) ?_
    refine TL.gets (Wants.none rfl) rfl (Gets.build rfl (vs := [(0, Value.agg ([Value.int .i64 x.t, Value.int .i64 (lenV x.k x.l x.m)]).toArray), (1, Value.int .i64 (i : Int))]) rfl (fun w => by first | rfl | kernel_rfl) (v := .agg ([Value.int .i64 x.t, Value.int .i64 (lenV x.k x.l x.m), Value.int .i64 (i : Int)]).toArray)) ?_
    refine TL.gets (Wants.none rfl) rfl (Gets.idxSlice rfl Try.underlying56 size59 rfl rfl (i := i) (by omega) (by omega) (off' := (3 * i)) (by omega)) ?_
    refine TL.storeN (Wants.none rfl) rfl rfl size59 rfl (vs := [Value.int .i64 x.t, Value.int .i64 (lenV x.k x.l x.m), Value.int .i64 (i : Int)]) rfl rfl (by simp [Value.oneCell']) (i := 1) (ent := ⟨g1, 59, flatT (stT Cs m i), (m * 3)⟩) rfl rfl (by show (3 * i) + 3 ≤ (flatT (stT Cs m i)).length; rw [flatT_len, stT_len hC.1 (by omega)]; omega) (cs' := flatT (stT Cs m (i + 1))) (stT_step hC.1 hx) (H' := [⟨g2, 40, [Value.int .i64 x.k, Value.int .i64 x.t, Value.int .i64 x.f, Value.int .i64 x.l, Value.slice x.A x.m x.c], 5⟩, ⟨g1, 59, flatT (stT Cs m (i + 1)), (m * 3)⟩]) rfl ?_
    refine TL.nil ?_
    refine TE.blockN ?_
    refine TE.then ?_
    refine TC.sub (Sub.cons (i := 3) rfl (Sub.cons (i := 9) rfl (Sub.cons (i := 10) rfl (Sub.cons (i := 11) rfl (Sub.nil))))) ?_
    refine TC.regionL ?_
    refine TL.gets (Wants.none rfl) rfl (Gets.add rfl rfl rfl (r := ((i : Int) + 1)) (w64 (by omega) (by omega))) ?_
    refine TL.gets (Wants.none rfl) rfl (Gets.move rfl rfl) ?_
    refine TL.nil ?_
    exact TE.back (i + 1) (by omega) (by omega) (Sub.slice (i := 3) rfl rfl (by first | omega | (dsimp only; omega) | rfl) (by first | omega | (dsimp only; omega) | rfl) (Sub.slice (i := 9) rfl (by first | rfl | (congr 2; omega)) (by first | omega | (dsimp only; omega) | rfl) (by first | omega | (dsimp only; omega) | rfl) (Sub.int (i := 10) rfl (by first | omega | rfl) (Sub.int (i := 11) rfl (by first | omega | rfl) (Sub.nil))))) (fun w h => (h.erase (i := 0) rfl (by assumption)))
  · have him : i = m := by omega
    refine TC.exit ?_
    refine TE.thenX ?_
    refine TE.thenX ?_
    refine TE.blockX ?_
    refine TE.then ?_
    refine TC.seq ?_
    refine TC.regionL ?_
    refine TL.gets (Wants.none rfl) rfl (Gets.move rfl rfl) ?_
    refine TL.call (ι := List TV) (V := fun Es => .tuple #[]) (R := fun Es => Es.Perm (tvOf Cs) ∧ Es.Pairwise leT) (H' := fun Es => [⟨g1, 59, flatT Es, (m * 3)⟩]) (Wants.none rfl) rfl enters55 rfl rfl (fun w hs => by have hlen := stT_len (i := i) hC.1 (by omega); have h := sortT_c (Ts := stT Cs m i) (cap := m) hs (by omega) (fun args w => run_call enters56 args w) (fun x y W => closureT_c x y W); rw [hlen] at h; exact h.mono fun e w' ⟨he, Es, hp, hq, hw⟩ => ⟨Es, he, ⟨by rw [him, stT_all hC.1] at hp; exact hp, hq⟩, hw⟩) (fun Es hEs => ?_)
    refine TL.nil ?_
    refine TE.then ?_
    refine TC.seq ?_
    refine TC.regionL ?_
    refine TL.gets (Wants.none rfl) rfl (Gets.move rfl rfl) ?_
    refine TL.gets (Wants.none rfl) rfl (Gets.assign rfl rfl) ?_
    refine TL.nil ?_
    refine TE.then ?_
    refine TC.ret ?_
    exact TE.ret1 rfl rfl (fun w hs => ⟨(g1, Es), rfl, hEs, by assumption, hs⟩)
end Go.Proofs.Ytkgamkjdkapchaa
namespace Go.Proofs.Ytkgamkjdkapchaa
set_option linter.unusedVariables false
set_option linter.unusedSimpArgs false
open Go Go.RowKit
theorem agg32 : (isAgg 32).run Try.prog = fun w => .ok true w := isAgg_yes Try.underlying32 rfl
theorem enters35 : Enters Try.prog 35 := ⟨_, Try.func35, by kernel_rfl, by kernel_rfl⟩
theorem enters48 : Enters Try.prog 48 := ⟨_, Try.func48, by kernel_rfl, by kernel_rfl⟩
theorem enters52 : Enters Try.prog 52 := ⟨_, Try.func52, by kernel_rfl, by kernel_rfl⟩
theorem size32 : (Try.prog.info? 32).map (·.size) = some 2 := by kernel_rfl
theorem size56 : (Try.prog.info? 56).map (·.size) = some 1 := by kernel_rfl
theorem zero32 : (Try.prog.info? 32).bind (·.zero) = some (.agg #[.int .i64 0, .int .i64 0]) := by kernel_rfl
theorem zero56 : (Try.prog.info? 56).bind (·.zero) = some (.slice none 0 0) := by kernel_rfl
set_option maxRecDepth 100000 in
set_option maxHeartbeats 1000000 in
theorem ct_c (o n : Int) (H1 H2 : List Int) (hH1 : H1.length = 32) (hH2 : H2.length = 32) (A : Option Addr) (m c : Nat) (Cs : List CV) (hk12 : ∀ (i : Nat) (x : CV), Cs[i]? = some x → x.k = 1 ∨ x.k = 2) (hok : okLen o n) (h1 : ∀ (i : Nat) (x : CV), Cs[i]? = some x → singleV o n x = 0) (hmm : m ≤ 1000000000) (hN : NumsC Cs) (w : World) (hC : SrcC w A m Cs)  : Calls Try.prog 33 #[.agg ([Value.int .i64 o, Value.int .i64 n] ++ (H1.map (Value.int .u8) ++ (H2.map (Value.int .u8) ++ ([Value.slice A m c])))).toArray] w fun e w' => e = .returned (.agg ([Value.int .i64 ((faultI o n Cs).1), Value.int .i64 ((faultI o n Cs).2)]).toArray) ∧ St w [] w' := by
  refine calls_from (args := [.agg ([Value.int .i64 o, Value.int .i64 n] ++ (H1.map (Value.int .u8) ++ (H2.map (Value.int .u8) ++ ([Value.slice A m c])))).toArray]) Try.func33 rfl Try.ntmps33 (by simp) ?_
  refine TC.sub (Sub.cons (i := 0) rfl (Sub.nil)) ?_
  refine TC.seq ?_
  refine TC.regionL ?_
  refine TL.box (Wants.none rfl) rfl rfl rfl (cs := [Value.int .i64 o, Value.int .i64 n] ++ (H1.map (Value.int .u8) ++ (H2.map (Value.int .u8) ++ ([Value.slice A m c])))) (by simp [Value.cells]) (tot := 67) (by simp [hH1, hH2]) (fun g1 hg1 => ?_)
  refine TL.alloc (Wants.none rfl) rfl rfl zero32 (cs := [Value.int .i64 0, Value.int .i64 0]) rfl (tot := 2) (by simp) (fun g2 hg2 => ?_)
  refine TL.nil ?_
  refine TE.then ?_
  refine TC.seq ?_
  refine TC.regionL ?_
  refine TL.gets (Wants.none rfl) rfl (Gets.fieldAddr rfl Try.underlying25 rfl size23 rfl (off' := 66) (by first | rfl | omega)) ?_
  refine TL.gets (Wants.none rfl) rfl (Gets.load1 rfl agg23 rfl (At.ent (i := 1) (ent := ⟨g1, 25, [Value.int .i64 o, Value.int .i64 n] ++ (H1.map (Value.int .u8) ++ (H2.map (Value.int .u8) ++ ([Value.slice A m c]))), 67⟩) (off := 66) rfl rfl (by exact app_right (a := 2) (i := 64) (rfl) (app_right (a := 32) (i := 32) (ints_len hH1) (app_right (a := 32) (i := 0) (ints_len hH2) (rfl)))))) ?_
  refine TL.call (ι := Nat × List TV) (V := fun y => .slice (some ⟨y.1, 0, none⟩) m m) (R := fun y => (y.2.Perm (tvOf Cs) ∧ y.2.Pairwise leT) ∧ w.heap.size ≤ y.1) (H' := fun y => [⟨g2, 32, [Value.int .i64 0, Value.int .i64 0], 2⟩, ⟨g1, 25, [Value.int .i64 o, Value.int .i64 n] ++ (H1.map (Value.int .u8) ++ (H2.map (Value.int .u8) ++ ([Value.slice A m c]))), 67⟩, ⟨y.1, 59, flatT y.2, (m * 3)⟩]) (Wants.none rfl) rfl enters35 rfl rfl (fun w hs => (asc_c A m c Cs hk12 (by omega) hN w (hC.at_ hs (fun b hb => (ne_cons (by show g2 ≠ b; omega) (ne_cons (by show g1 ≠ b; omega) ne_nil))))).mono fun e w' ⟨y, he, hR, hg, hw⟩ => ⟨y, he, ⟨hR, Nat.le_trans hs.size hg⟩, st_call hs hw (fun e he => by rw [List.mem_singleton.1 he]; exact hg)⟩) (fun y hR => ?_)
  obtain ⟨gt, Ts⟩ := y
  obtain ⟨⟨hTp, hTs⟩, hgt⟩ := hR
  dsimp only at hTp hTs hgt ⊢
  have hA : AscT o n Cs Ts := ⟨hTp, hTs, hok, h1⟩
  have hm8 : Cs.length ≤ 1000000000 := by have := hC.1; omega
  have hm9 : m ≤ 1000000000 := hmm
  have hlT : Ts.length = m := hA.len.trans hC.1
  have hls := lowI_spec (fun q : Nat => ovF (upF Ts (q : Int))) m
  have hlow := hls.2
  have hn0 := hA.n0
  refine TL.alloc (Wants.none rfl) rfl rfl zero56 (cs := [Value.slice none 0 0]) rfl (tot := 1) (by simp) (fun g3 hg3 => ?_)
  refine TL.store1 (Wants.none rfl) rfl rfl size56 rfl rfl rfl (i := 0) rfl rfl (by simp [] <;> omega) (cs' := [Value.slice (some ⟨gt, 0, none⟩) m m]) (rfl) (H' := [⟨g3, 56, [Value.slice (some ⟨gt, 0, none⟩) m m], 1⟩, ⟨g2, 32, [Value.int .i64 0, Value.int .i64 0], 2⟩, ⟨g1, 25, [Value.int .i64 o, Value.int .i64 n] ++ (H1.map (Value.int .u8) ++ (H2.map (Value.int .u8) ++ ([Value.slice A m c]))), 67⟩, ⟨gt, 59, flatT Ts, (m * 3)⟩]) rfl ?_
  refine TL.nil ?_
  refine TE.then ?_
  refine TC.seq ?_
  refine TC.regionL ?_
  refine TL.gets (Wants.none rfl) rfl (Gets.load1 rfl agg56 rfl (At.ent (i := 0) (ent := ⟨g3, 56, [Value.slice (some ⟨gt, 0, none⟩) m m], 1⟩) (off := 0) rfl rfl (by exact rfl))) ?_
  refine TL.gets (Wants.none rfl) rfl (Gets.lenSlice rfl Try.underlying56 rfl) ?_
  refine TL.gets (Wants.none rfl) rfl (Gets.makeFunc rfl rfl rfl) ?_
  refine TL.call0 (Wants.none rfl) rfl enters48 rfl rfl (v := .int .i64 ((lowI (fun q : Nat => ovF (upF Ts (q : Int))) m) : Int)) (fun w hs => search_c (fun q : Nat => ovF (upF Ts (q : Int))) m g3 (by omega) w (fun i W hi hW => over1_c g3 gt m i o n Cs Ts hA hm9 hm8 hlT (by omega) W ((lies_call (hs.has (⟨g3, 56, [Value.slice (some ⟨gt, 0, none⟩) m m], 1⟩) (by simp)) hW).cell rfl) (lies_rowsT (lies_call (hs.has (⟨gt, 59, flatT Ts, (m * 3)⟩) (by simp)) hW)) (lies_call (hs.has (⟨g3, 56, [Value.slice (some ⟨gt, 0, none⟩) m m], 1⟩) (by simp)) hW).lt (lies_call (hs.has (⟨gt, 59, flatT Ts, (m * 3)⟩) (by simp)) hW).lt) (fun a b hab _ ha => hA.mono hab ha)) ?_
  refine TL.gets (Wants.none rfl) rfl (Gets.assign rfl rfl) ?_
  refine TL.nil ?_
  refine TE.then ?_
  refine TC.sub (Sub.cons (i := 1) rfl (Sub.cons (i := 2) rfl (Sub.cons (i := 3) rfl (Sub.cons (i := 4) rfl (Sub.nil))))) ?_
  refine TC.seq ?_
  refine TC.seq ?_
  refine TC.regionL ?_
  refine TL.gets (Wants.none rfl) rfl (Gets.move rfl rfl) ?_
  refine TL.gets (Wants.none rfl) rfl (Gets.load1 rfl agg56 rfl (At.ent (i := 0) (ent := ⟨g3, 56, [Value.slice (some ⟨gt, 0, none⟩) m m], 1⟩) (off := 0) rfl rfl (by exact rfl))) ?_
  refine TL.gets (Wants.none rfl) rfl (Gets.lenSlice rfl Try.underlying56 rfl) ?_
  refine TL.gets (Wants.none rfl) rfl (Gets.lss rfl rfl rfl) ?_
  refine TL.nil ?_
  refine TE.then ?_
  refine TC.split rfl (fun hq0 => ?_) (fun hq0 => ?_)
  · have hov : ovF (upF Ts ((lowI (fun q : Nat => ovF (upF Ts (q : Int))) m : Nat) : Int)) := by rcases hls.1 with h | h; exact h.2; omega
    refine TC.seq ?_
    refine TC.regionL ?_
    refine TL.gets (Wants.none rfl) rfl (Gets.move rfl rfl) ?_
    refine TL.gets (Wants.none rfl) rfl (Gets.build rfl (vs := [(0, Value.int .i64 4), (1, Value.int .i64 ((lowI (fun q : Nat => ovF (upF Ts (q : Int))) m) : Int))]) rfl (fun w => by first | rfl | kernel_rfl) (v := .agg ([Value.int .i64 4, Value.int .i64 ((lowI (fun q : Nat => ovF (upF Ts (q : Int))) m) : Int)]).toArray)) ?_
    refine TL.storeW (Wants.none rfl) rfl rfl size32 rfl (vs := [Value.int .i64 4, Value.int .i64 ((lowI (fun q : Nat => ovF (upF Ts (q : Int))) m) : Int)]) rfl (by simp []) (by simp [Value.oneCell']) (i := 1) (ent := ⟨g2, 32, [Value.int .i64 0, Value.int .i64 0], 2⟩) rfl rfl (by simp []) (H' := [⟨g3, 56, [Value.slice (some ⟨gt, 0, none⟩) m m], 1⟩, ⟨g2, 32, [Value.int .i64 4, Value.int .i64 ((lowI (fun q : Nat => ovF (upF Ts (q : Int))) m) : Int)], 2⟩, ⟨g1, 25, [Value.int .i64 o, Value.int .i64 n] ++ (H1.map (Value.int .u8) ++ (H2.map (Value.int .u8) ++ ([Value.slice A m c]))), 67⟩, ⟨gt, 59, flatT Ts, (m * 3)⟩]) rfl ?_
    refine TL.nil ?_
    refine TE.then ?_
    refine TC.ret ?_
    refine TE.thenR ?_
    exact TE.retC rfl agg32 size32 rfl (vs := [Value.int .i64 4, Value.int .i64 ((lowI (fun q : Nat => ovF (upF Ts (q : Int))) m) : Int)]) rfl (Row.all (i := 1) (ent := ⟨g2, 32, [Value.int .i64 4, Value.int .i64 ((lowI (fun q : Nat => ovF (upF Ts (q : Int))) m) : Int)], 2⟩) rfl rfl rfl) (fun w hs => ⟨by rw [hA.over (k := lowI (fun q : Nat => ovF (upF Ts (q : Int))) m) hov (fun j hj => hlow j hj (by omega))], ((((hs.drop (by assumption)).drop (by assumption)).drop (by assumption)).drop (by assumption))⟩)
  · have hnb : ∀ j : Nat, j < m → ¬ ovF (upF Ts (j : Int)) := by rcases hls.1 with h | h; omega; exact fun j hj => hlow j (by omega) hj
    refine TC.skip ?_
    refine TE.then ?_
    refine TC.seq ?_
    refine TC.seq ?_
    refine TC.regionL ?_
    refine TL.gets (Wants.none rfl) rfl (Gets.load1 rfl agg56 rfl (At.ent (i := 0) (ent := ⟨g3, 56, [Value.slice (some ⟨gt, 0, none⟩) m m], 1⟩) (off := 0) rfl rfl (by exact rfl))) ?_
    refine TL.gets (Wants.none rfl) rfl (Gets.load1 rfl agg56 rfl (At.ent (i := 0) (ent := ⟨g3, 56, [Value.slice (some ⟨gt, 0, none⟩) m m], 1⟩) (off := 0) rfl rfl (by exact rfl))) ?_
    refine TL.gets (Wants.none rfl) rfl (Gets.lenSlice rfl Try.underlying56 rfl) ?_
    refine TL.call (ι := Nat × Nat) (V := fun y => .func (.func 64) #[] #[.pointer (some ⟨y.1, 0, none⟩), .pointer (some ⟨y.2, 0, none⟩)]) (R := fun y => w.heap.size ≤ y.1 ∧ w.heap.size ≤ y.2) (H' := fun y => [⟨g3, 56, [Value.slice (some ⟨gt, 0, none⟩) m m], 1⟩, ⟨g2, 32, [Value.int .i64 0, Value.int .i64 0], 2⟩, ⟨g1, 25, [Value.int .i64 o, Value.int .i64 n] ++ (H1.map (Value.int .u8) ++ (H2.map (Value.int .u8) ++ ([Value.slice A m c]))), 67⟩, ⟨gt, 59, flatT Ts, (m * 3)⟩, ⟨y.1, 56, [Value.slice (some ⟨gt, 0, none⟩) m m], 1⟩, ⟨y.2, 3, [Value.int .i64 (m : Int)], 1⟩]) (Wants.none rfl) rfl enters51 rfl rfl (fun w hs => (upTo_c gt m (m : Int) w).mono fun e w' ⟨y, he, hR, hw⟩ => ⟨y, he, ⟨Nat.le_trans hs.size hR.1, Nat.le_trans hs.size hR.2⟩, st_call hs hw (fun e he => by rcases List.mem_cons.1 he with rfl | he; exact hR.1; rw [List.mem_singleton.1 he]; exact hR.2)⟩) (fun y hR => ?_)
    obtain ⟨u1, v1⟩ := y
    obtain ⟨hu1, hv1⟩ := hR
    dsimp only at hu1 hv1 ⊢
    refine TL.call (ι := Int) (V := fun z => .int .i64 z) (R := fun z => gapR (upF Ts (m : Int)) z) (H' := fun _ => [⟨g3, 56, [Value.slice (some ⟨gt, 0, none⟩) m m], 1⟩, ⟨g2, 32, [Value.int .i64 0, Value.int .i64 0], 2⟩, ⟨g1, 25, [Value.int .i64 o, Value.int .i64 n] ++ (H1.map (Value.int .u8) ++ (H2.map (Value.int .u8) ++ ([Value.slice A m c]))), 67⟩, ⟨gt, 59, flatT Ts, (m * 3)⟩, ⟨u1, 56, [Value.slice (some ⟨gt, 0, none⟩) m m], 1⟩, ⟨v1, 3, [Value.int .i64 (m : Int)], 1⟩]) (Wants.none rfl) rfl enters52 rfl rfl (fun w hs => (gap_c u1 v1 gt m Ts (m : Int) (by omega) hm9 (hA.nums hm8) n hA.n0 (hA.pos _) (hA.ends _) w (capT_of (hs.has (⟨u1, 56, [Value.slice (some ⟨gt, 0, none⟩) m m], 1⟩) (by simp)) (hs.has (⟨v1, 3, [Value.int .i64 (m : Int)], 1⟩) (by simp)) (lies_rowsT (hs.has (⟨gt, 59, flatT Ts, (m * 3)⟩) (by simp))) hlT (hs.has (⟨gt, 59, flatT Ts, (m * 3)⟩) (by simp)).lt)).mono fun e w' ⟨y, he, hR, hw⟩ => ⟨y, he, hR, hs.call' hw⟩) (fun z hz => ?_)
    refine TL.gets (Wants.none rfl) rfl (Gets.assign rfl rfl) ?_
    refine TL.nil ?_
    refine TE.then ?_
    refine TC.sub (Sub.cons (i := 1) rfl (Sub.cons (i := 2) rfl (Sub.cons (i := 5) rfl (Sub.nil)))) ?_
    refine TC.seq ?_
    refine TC.regionL ?_
    refine TL.gets (Wants.none rfl) rfl (Gets.move rfl rfl) ?_
    refine TL.gets (Wants.none rfl) rfl (Gets.fieldAddr rfl Try.underlying25 rfl size3 rfl (off' := 1) (by first | rfl | omega)) ?_
    refine TL.gets (Wants.none rfl) rfl (Gets.load1 rfl agg3 rfl (At.ent (i := 2) (ent := ⟨g1, 25, [Value.int .i64 o, Value.int .i64 n] ++ (H1.map (Value.int .u8) ++ (H2.map (Value.int .u8) ++ ([Value.slice A m c]))), 67⟩) (off := 1) rfl rfl (by exact app_left (i := 1) (B := H1.map (Value.int .u8) ++ (H2.map (Value.int .u8) ++ ([Value.slice A m c]))) (rfl)))) ?_
    refine TL.gets (Wants.none rfl) rfl (Gets.lss rfl rfl rfl) ?_
    refine TL.nil ?_
    refine TE.then ?_
    refine TC.split rfl (fun hq1 => ?_) (fun hq1 => ?_)
    · refine TC.seq ?_
      refine TC.regionL ?_
      refine TL.gets (Wants.none rfl) rfl (Gets.move rfl rfl) ?_
      refine TL.gets (Wants.none rfl) rfl (Gets.build rfl (vs := [(0, Value.int .i64 3), (1, Value.int .i64 z)]) rfl (fun w => by first | rfl | kernel_rfl) (v := .agg ([Value.int .i64 3, Value.int .i64 z]).toArray)) ?_
      refine TL.storeW (Wants.none rfl) rfl rfl size32 rfl (vs := [Value.int .i64 3, Value.int .i64 z]) rfl (by simp []) (by simp [Value.oneCell']) (i := 1) (ent := ⟨g2, 32, [Value.int .i64 0, Value.int .i64 0], 2⟩) rfl rfl (by simp []) (H' := [⟨g3, 56, [Value.slice (some ⟨gt, 0, none⟩) m m], 1⟩, ⟨g2, 32, [Value.int .i64 3, Value.int .i64 z], 2⟩, ⟨g1, 25, [Value.int .i64 o, Value.int .i64 n] ++ (H1.map (Value.int .u8) ++ (H2.map (Value.int .u8) ++ ([Value.slice A m c]))), 67⟩, ⟨gt, 59, flatT Ts, (m * 3)⟩, ⟨u1, 56, [Value.slice (some ⟨gt, 0, none⟩) m m], 1⟩, ⟨v1, 3, [Value.int .i64 (m : Int)], 1⟩]) rfl ?_
      refine TL.nil ?_
      refine TE.then ?_
      refine TC.ret ?_
      refine TE.thenR ?_
      exact TE.retC rfl agg32 size32 rfl (vs := [Value.int .i64 3, Value.int .i64 z]) rfl (Row.all (i := 1) (ent := ⟨g2, 32, [Value.int .i64 3, Value.int .i64 z], 2⟩) rfl rfl rfl) (fun w hs => ⟨by rw [hA.gap hC.1 hnb hz hq1], ((((((hs.drop (by assumption)).drop (by assumption)).drop (by assumption)).drop (by assumption)).drop (by assumption)).drop (by assumption))⟩)
    · refine TC.skip ?_
      refine TE.then ?_
      refine TC.seq ?_
      refine TC.regionL ?_
      refine TL.gets (Wants.none rfl) rfl (Gets.build rfl (vs := []) rfl (fun w => by first | rfl | kernel_rfl) (v := .agg ([Value.int .i64 0, Value.int .i64 0]).toArray)) ?_
      refine TL.storeW (Wants.none rfl) rfl rfl size32 rfl (vs := [Value.int .i64 0, Value.int .i64 0]) rfl (by simp []) (by simp [Value.oneCell']) (i := 1) (ent := ⟨g2, 32, [Value.int .i64 0, Value.int .i64 0], 2⟩) rfl rfl (by simp []) (H' := [⟨g3, 56, [Value.slice (some ⟨gt, 0, none⟩) m m], 1⟩, ⟨g2, 32, [Value.int .i64 0, Value.int .i64 0], 2⟩, ⟨g1, 25, [Value.int .i64 o, Value.int .i64 n] ++ (H1.map (Value.int .u8) ++ (H2.map (Value.int .u8) ++ ([Value.slice A m c]))), 67⟩, ⟨gt, 59, flatT Ts, (m * 3)⟩, ⟨u1, 56, [Value.slice (some ⟨gt, 0, none⟩) m m], 1⟩, ⟨v1, 3, [Value.int .i64 (m : Int)], 1⟩]) rfl ?_
      refine TL.nil ?_
      refine TE.then ?_
      refine TC.ret ?_
      exact TE.retC rfl agg32 size32 rfl (vs := [Value.int .i64 0, Value.int .i64 0]) rfl (Row.all (i := 1) (ent := ⟨g2, 32, [Value.int .i64 0, Value.int .i64 0], 2⟩) rfl rfl rfl) (fun w hs => ⟨by rw [hA.none hC.1 hnb hz hq1], ((((((hs.drop (by assumption)).drop (by assumption)).drop (by assumption)).drop (by assumption)).drop (by assumption)).drop (by assumption))⟩)
end Go.Proofs.Ytkgamkjdkapchaa
