/-
  The reference of layer 5: With, Sort.
-/
import Derived.Test.YtkgamkjdkapchaaDlD
import Derived.Test.YtkgamkjdkapchaaSrt
import Derived.Test.YtkgamkjdkapchaaOwnV
namespace Go.Proofs.Ytkgamkjdkapchaa
set_option linter.unusedVariables false
set_option linter.unusedSimpArgs false
open Go Go.RowKit
theorem mk40 : (Try.prog.info? 40).map (fun i => (i.zero, i.size, i.bytes)) = some (some (.agg #[.int .i64 0, .int .i64 0, .int .i64 0, .int .i64 0, .slice none 0 0]), 5, 56) := by kernel_rfl
theorem zero25 : (Try.prog.info? 25).bind (·.zero) = some (.agg #[.int .i64 0, .int .i64 0, .int .u8 0, .int .u8 0, .int .u8 0, .int .u8 0, .int .u8 0, .int .u8 0, .int .u8 0, .int .u8 0, .int .u8 0, .int .u8 0, .int .u8 0, .int .u8 0, .int .u8 0, .int .u8 0, .int .u8 0, .int .u8 0, .int .u8 0, .int .u8 0, .int .u8 0, .int .u8 0, .int .u8 0, .int .u8 0, .int .u8 0, .int .u8 0, .int .u8 0, .int .u8 0, .int .u8 0, .int .u8 0, .int .u8 0, .int .u8 0, .int .u8 0, .int .u8 0, .int .u8 0, .int .u8 0, .int .u8 0, .int .u8 0, .int .u8 0, .int .u8 0, .int .u8 0, .int .u8 0, .int .u8 0, .int .u8 0, .int .u8 0, .int .u8 0, .int .u8 0, .int .u8 0, .int .u8 0, .int .u8 0, .int .u8 0, .int .u8 0, .int .u8 0, .int .u8 0, .int .u8 0, .int .u8 0, .int .u8 0, .int .u8 0, .int .u8 0, .int .u8 0, .int .u8 0, .int .u8 0, .int .u8 0, .int .u8 0, .int .u8 0, .int .u8 0, .slice none 0 0]) := by kernel_rfl
set_option maxRecDepth 100000 in
set_option maxHeartbeats 400000 in
theorem rwith_c (o n : Int) (H1 H2 : List Int) (hH1 : H1.length = 32) (hH2 : H2.length = 32) (A A2 : Option Addr) (m c m2 c2 : Nat) (w : World) : Calls Try.prog 18 #[.agg ([Value.int .i64 o, Value.int .i64 n] ++ (H1.map (Value.int .u8) ++ (H2.map (Value.int .u8) ++ ([Value.slice A m c])))).toArray, .slice A2 m2 c2] w fun e w' => e = .returned (.agg ([Value.int .i64 o, Value.int .i64 n] ++ (H1.map (Value.int .u8) ++ (H2.map (Value.int .u8) ++ ([Value.slice A2 m2 c2])))).toArray) ∧ St w [] w' := by
  refine calls_from (args := [.agg ([Value.int .i64 o, Value.int .i64 n] ++ (H1.map (Value.int .u8) ++ (H2.map (Value.int .u8) ++ ([Value.slice A m c])))).toArray, .slice A2 m2 c2]) Try.func18 rfl Try.ntmps18 (by simp) ?_
  refine TC.sub (Sub.cons (i := 0) rfl (Sub.cons (i := 1) rfl (Sub.nil))) ?_
  refine TC.seq ?_
  refine TC.regionL ?_
  refine TL.box (Wants.none rfl) rfl rfl rfl (cs := [Value.int .i64 o, Value.int .i64 n] ++ (H1.map (Value.int .u8) ++ (H2.map (Value.int .u8) ++ ([Value.slice A m c])))) (by simp [Value.cells]) (tot := 67) (by simp [hH1, hH2]) (fun g1 hg1 => ?_)
  refine TL.alloc (Wants.none rfl) rfl rfl zero25 (cs := [Value.int .i64 0, Value.int .i64 0] ++ ((List.replicate 64 0).map (Value.int .u8) ++ ([Value.slice none 0 0]))) rfl (tot := 67) (by simp) (fun g2 hg2 => ?_)
  refine TL.nil ?_
  refine TE.then ?_
  refine TC.seq ?_
  refine TC.regionL ?_
  refine TL.gets (Wants.none rfl) rfl (Gets.move rfl rfl) ?_
  refine TL.gets (Wants.none rfl) rfl (Gets.fieldAddr rfl Try.underlying25 rfl size23 rfl (off' := 66) (by first | rfl | omega)) ?_
  refine TL.store1 (Wants.none rfl) rfl rfl size23 rfl rfl rfl (i := 1) rfl rfl (by simp [hH1, hH2] <;> omega) (cs' := [Value.int .i64 o, Value.int .i64 n] ++ (H1.map (Value.int .u8) ++ (H2.map (Value.int .u8) ++ ([Value.slice A2 m2 c2])))) (set_right (a := 2) (i := 64) (rfl) (set_right (a := 32) (i := 32) (ints_len hH1) (set_right (a := 32) (i := 0) (ints_len hH2) (rfl)))) (H' := [⟨g2, 25, [Value.int .i64 0, Value.int .i64 0] ++ ((List.replicate 64 0).map (Value.int .u8) ++ ([Value.slice none 0 0])), 67⟩, ⟨g1, 25, [Value.int .i64 o, Value.int .i64 n] ++ (H1.map (Value.int .u8) ++ (H2.map (Value.int .u8) ++ ([Value.slice A2 m2 c2]))), 67⟩]) rfl ?_
  refine TL.nil ?_
  refine TE.then ?_
  refine TC.seq ?_
  refine TC.regionL ?_
  refine TL.gets (Wants.none rfl) rfl (Gets.loadN rfl agg25 size25 rfl (vs := [Value.int .i64 o, Value.int .i64 n] ++ (H1.map (Value.int .u8) ++ (H2.map (Value.int .u8) ++ ([Value.slice A2 m2 c2])))) (by simp [hH1, hH2]) (Row.all (i := 1) (ent := ⟨g1, 25, [Value.int .i64 o, Value.int .i64 n] ++ (H1.map (Value.int .u8) ++ (H2.map (Value.int .u8) ++ ([Value.slice A2 m2 c2]))), 67⟩) rfl rfl rfl)) ?_
  refine TL.storeW (Wants.none rfl) rfl rfl size25 rfl (vs := [Value.int .i64 o, Value.int .i64 n] ++ (H1.map (Value.int .u8) ++ (H2.map (Value.int .u8) ++ ([Value.slice A2 m2 c2])))) rfl (by simp [hH1, hH2]) (ones_app (by simp [Value.oneCell']) (ones_app ints_one (ones_app ints_one (by simp [Value.oneCell'])))) (i := 0) (ent := ⟨g2, 25, [Value.int .i64 0, Value.int .i64 0] ++ ((List.replicate 64 0).map (Value.int .u8) ++ ([Value.slice none 0 0])), 67⟩) rfl rfl (by simp []) (H' := [⟨g2, 25, [Value.int .i64 o, Value.int .i64 n] ++ (H1.map (Value.int .u8) ++ (H2.map (Value.int .u8) ++ ([Value.slice A2 m2 c2]))), 67⟩, ⟨g1, 25, [Value.int .i64 o, Value.int .i64 n] ++ (H1.map (Value.int .u8) ++ (H2.map (Value.int .u8) ++ ([Value.slice A2 m2 c2]))), 67⟩]) rfl ?_
  refine TL.nil ?_
  refine TE.then ?_
  refine TC.ret ?_
  exact TE.retC rfl agg25 size25 rfl (vs := [Value.int .i64 o, Value.int .i64 n] ++ (H1.map (Value.int .u8) ++ (H2.map (Value.int .u8) ++ ([Value.slice A2 m2 c2])))) (by simp [hH1, hH2]) (Row.all (i := 0) (ent := ⟨g2, 25, [Value.int .i64 o, Value.int .i64 n] ++ (H1.map (Value.int .u8) ++ (H2.map (Value.int .u8) ++ ([Value.slice A2 m2 c2]))), 67⟩) rfl rfl rfl) (fun w hs => ⟨rfl, ((hs.drop (by assumption)).drop (by assumption))⟩)

set_option maxRecDepth 100000 in
set_option maxHeartbeats 1000000 in
theorem rsort_c (A : Option Addr) (m c : Nat) (Cs : List CV) (hmm : m ≤ 1000000000) (hN : NumsC Cs) (w : World) (hC : SrcC w A m Cs)  : Calls Try.prog 19 #[.slice A m c] w fun e w' => ∃ v Es He, e = .returned v ∧ OwnS w.heap.size 40 5 v m (flatC Es) He ∧ Es.Perm Cs ∧ Es.Pairwise leC ∧ St w He w' := by
  refine calls_from (args := [.slice A m c]) Try.func19 rfl Try.ntmps19 (by simp) ?_
  refine TC.sub (Sub.cons (i := 0) rfl (Sub.nil)) ?_
  refine TC.seq ?_
  refine TC.regionL ?_
  refine TL.gets (Wants.none rfl) rfl (Gets.assign rfl rfl) ?_
  refine TL.nil ?_
  refine TE.then ?_
  refine TC.seq ?_
  refine TC.regionL ?_
  refine TL.gets (Wants.none rfl) rfl (Gets.assign rfl rfl) ?_
  refine TL.nil ?_
  refine TE.then ?_
  refine TC.seq ?_
  refine TC.seq ?_
  refine TC.regionL ?_
  refine TL.gets (Wants.none rfl) rfl (Gets.assign rfl rfl) ?_
  refine TL.nil ?_
  refine TE.then ?_
  refine TC.block ?_
  refine TC.loop (ι := WS) (fun x0 => [(0, .slice A m c), (3, x0.v), (4, .int .i64 (x0.i : Int))]) (fun x0 => [] ++ x0.He) (fun x0 => m - x0.i) (fun x0 => OwnS w.heap.size 40 5 x0.v x0.i (flatC x0.Es) x0.He ∧ x0.Es.Perm (Cs.take x0.i) ∧ x0.Es.Pairwise leC ∧ x0.i ≤ m) (⟨0, .slice none 0 0, [], []⟩ : WS) ⟨OwnS.nil _ _ _, List.Perm.refl _, .nil, Nat.zero_le _⟩ (Sub.slice (i := 0) rfl rfl (by first | omega | (dsimp only; omega) | rfl) (by first | omega | (dsimp only; omega) | rfl) (Sub.cons (i := 3) rfl (Sub.int (i := 4) rfl (by first | omega | rfl) (Sub.nil)))) (fun w h => h) (fun x0 hC0 => ?_)
  obtain ⟨i, v, Es, He⟩ := x0
  obtain ⟨hown, hEp, hEs, him⟩ := hC0
  dsimp only at hown hEp hEs him ⊢
  have hF : Fresh w He := hown.new
  have hEl : Es.length = i := by have := hown.1; rw [flatC_len] at this; omega
  refine TC.seq ?_
  refine TC.seq ?_
  refine TC.regionL ?_
  refine TL.gets (Wants.none rfl) rfl (Gets.move rfl rfl) ?_
  refine TL.gets (Wants.none rfl) rfl (Gets.move rfl rfl) ?_
  refine TL.gets (Wants.none rfl) rfl (Gets.lenSlice rfl Try.underlying23 rfl) ?_
  refine TL.gets (Wants.none rfl) rfl (Gets.lss rfl rfl rfl) ?_
  refine TL.nil ?_
  refine TE.then ?_
  refine TC.split rfl (fun hq0 => ?_) (fun hq0 => ?_)
  · obtain ⟨Ao, co, rfl, hco, hco2⟩ := hown.form
    obtain ⟨b, off, hAe, hb, hrw⟩ := hC.some_ (i := i) (by omega)
    subst hAe
    obtain ⟨x, hx⟩ := hC.get (i := i) (by omega)
    have hnx := hN i x hx
    unfold NumC at hnx
    have hlbx := lenV_bd (k := x.k) (l := x.l) (m := x.m) (by omega) (by omega)
    refine TC.skip ?_
    refine TE.then ?_
    refine TC.seq ?_
    refine TC.block ?_
    refine TC.seq ?_
    refine TC.regionL ?_
    refine TL.gets (Wants.none rfl) rfl (Gets.move rfl rfl) ?_
    refine TL.gets (Wants.none rfl) rfl (Gets.lenSlice rfl Try.underlying23 rfl) ?_
    refine TL.gets (Wants.none rfl) rfl (Gets.assign rfl rfl) ?_
    refine TL.nil ?_
    refine TE.then ?_
    refine TC.sub (Sub.cons (i := 0) rfl (Sub.cons (i := 3) rfl (Sub.cons (i := 4) rfl (Sub.cons (i := 5) rfl (Sub.nil))))) ?_
    refine TC.seq ?_
    refine TC.block ?_
    refine TC.loop (ι := Nat) (fun q => [(0, .slice (some ⟨b, off, none⟩) m c), (3, .slice Ao i co), (4, .int .i64 (i : Int)), (5, .int .i64 (q : Int))]) (fun q => [] ++ He) (fun q => q) (fun q => q ≤ i ∧ ∀ (j : Nat) (y : CV), q ≤ j → Es[j]? = some y → x.t < y.t) i ⟨Nat.le_refl _, fun j y h hy => by have := (List.getElem?_eq_some_iff.1 hy).1; omega⟩ (Sub.slice (i := 0) rfl rfl (by first | omega | (dsimp only; omega) | rfl) (by first | omega | (dsimp only; omega) | rfl) (Sub.slice (i := 3) rfl rfl (by first | omega | (dsimp only; omega) | rfl) (by first | omega | (dsimp only; omega) | rfl) (Sub.int (i := 4) rfl (by first | omega | rfl) (Sub.int (i := 5) rfl (by first | omega | rfl) (Sub.nil))))) (fun w h => h) (fun q hC1 => ?_)
    obtain ⟨hQ, hgt⟩ := hC1
    refine TC.seq ?_
    refine TC.seq ?_
    refine TC.mix (by kernel_rfl) [0, 0, 0, 0, 0, 0, 0, 0, 1, 0, 0, 0, 0, 1, 0, 0] rfl (by kernel_rfl) ?_
    refine TM.free (Wants.none rfl) rfl (fun _ => Gets.move rfl rfl) ?_
    by_cases c1 : 0 < (q : Int)
    · obtain ⟨q1, rfl⟩ : ∃ q1, q = q1 + 1 := ⟨q - 1, by omega⟩
      obtain ⟨g, hAo, _, hHe, hgN, _⟩ := hown.at0 (by omega)
      subst hAo
      obtain ⟨y, hy⟩ : ∃ y, Es[q1]? = some y := ⟨_, List.getElem?_eq_getElem (by omega)⟩
      refine TM.free (Wants.none rfl) rfl (fun _ => Gets.isTrue (Gets.gtr rfl rfl rfl) (by omega)) ?_
      refine TM.free (Wants.none rfl) rfl (fun _ => Gets.move rfl rfl) ?_
      refine TM.free (Wants.yes rfl rfl rfl) rfl (fun _ => Gets.move rfl rfl) ?_
      refine TM.free (Wants.yes rfl rfl rfl) rfl (fun _ => Gets.move rfl rfl) ?_
      refine TM.free (Wants.yes rfl rfl rfl) rfl (fun _ => Gets.sub rfl rfl rfl (r := (q1 : Int)) (w64 (by omega) (by omega))) ?_
      refine TM.free (Wants.yes rfl rfl rfl) rfl (fun _ => Gets.idxSlice rfl Try.underlying23 size40 rfl rfl (i := q1) (by omega) (by omega) (off' := (5 * q1)) (by omega)) ?_
      refine TM.free (Wants.yes rfl rfl rfl) rfl (fun _ => Gets.fieldAddr rfl Try.underlying40 rfl size3 rfl (off' := (5 * q1 + 1)) (by first | rfl | omega)) ?_
      refine TM.gets (Wants.yes rfl rfl rfl) rfl (Gets.load1 rfl agg3 rfl (At.mem (ent := ⟨g, 40, flatC Es, co * 5⟩) (by simp [hHe]) rfl (flatC_get (j := 1) hy rfl))) ?_
      refine TM.free (Wants.yes rfl rfl rfl) rfl (fun _ => Gets.move rfl rfl) ?_
      refine TM.free (Wants.yes rfl rfl rfl) rfl (fun _ => Gets.move rfl rfl) ?_
      refine TM.free (Wants.yes rfl rfl rfl) rfl (fun _ => Gets.idxSlice rfl Try.underlying23 size40 rfl rfl (i := i) (by omega) (by omega) (off' := (off + 5 * i)) (by omega)) ?_
      refine TM.free (Wants.yes rfl rfl rfl) rfl (fun _ => Gets.fieldAddr rfl Try.underlying40 rfl size3 rfl (off' := (off + 5 * i + 1)) (by first | rfl | omega)) ?_
      refine TM.gets (Wants.yes rfl rfl rfl) rfl (Gets.load1 rfl agg3 rfl (At.old (hrw i x hx 1 _ rfl) hb (ne_app ne_nil (hF.ne hb)))) ?_
      refine TM.free (Wants.yes rfl rfl rfl) rfl (fun _ => Gets.gtr rfl rfl rfl) ?_
      refine TM.free (Wants.none rfl) rfl (fun _ => Gets.pickT rfl rfl rfl) ?_
      refine TM.nil ?_
      refine TE.then ?_
      refine TC.sub (Sub.cons (i := 0) rfl (Sub.cons (i := 3) rfl (Sub.cons (i := 4) rfl (Sub.cons (i := 5) rfl (Sub.cons (i := 29) rfl (Sub.nil)))))) ?_
      refine TC.split rfl (fun hq1 => ?_) (fun hq1 => ?_)
      · refine TC.skip ?_
        refine TE.then ?_
        refine TC.block ?_
        refine TC.regionL ?_
        refine TL.gets (Wants.none rfl) rfl (Gets.move rfl rfl) ?_
        refine TL.gets (Wants.none rfl) rfl (Gets.sub rfl rfl rfl (r := (q1 : Int)) (w64 (by omega) (by omega))) ?_
        refine TL.gets (Wants.none rfl) rfl (Gets.assign rfl rfl) ?_
        refine TL.nil ?_
        refine TE.blockN ?_
        exact TE.back q1 (by omega) ⟨by omega, fun j z hj hz => if e : j = q1 then (by subst e; rw [hy] at hz; cases hz; omega) else hgt j z (by omega) hz⟩ (Sub.slice (i := 0) rfl rfl (by first | omega | (dsimp only; omega) | rfl) (by first | omega | (dsimp only; omega) | rfl) (Sub.slice (i := 3) rfl (by first | rfl | (congr 2; omega)) (by first | omega | (dsimp only; omega) | rfl) (by first | omega | (dsimp only; omega) | rfl) (Sub.int (i := 4) rfl (by first | omega | rfl) (Sub.int (i := 5) rfl (by first | omega | rfl) (Sub.nil))))) (fun w h => h)
      · refine TC.exit ?_
        refine TE.thenX ?_
        refine TE.thenX ?_
        refine TE.blockX ?_
        refine TE.then ?_
        refine TC.mixT ([] ++ He) [] (by kernel_rfl) [3, 0, 0, 0, 7, 0, 0, 0, 0, 3, 7, 0, 0, 0, 7, 0] [1, 2, 3, 5, 6, 7, 8, 11, 12, 13, 0, 4, 9, 10, 14, 15] [fun v d => ∃ g, v = .slice (some ⟨g, 0, none⟩) 0 0 ∧ d = [⟨g, 40, [], 0⟩], fun _ _ => True, fun _ _ => True, fun _ _ => True, fun v' d => OwnS w.heap.size 40 5 v' (0 + q1 + 1) (([] : List Value) ++ flatC (Es.take (q1 + 1))) d, fun _ _ => True, fun _ _ => True, fun _ _ => True, fun _ _ => True, fun v d => ∃ g, v = .slice (some ⟨g, 0, none⟩) 1 1 ∧ d = [⟨g, 40, [Value.int .i64 x.k, Value.int .i64 x.t, Value.int .i64 x.f, Value.int .i64 x.l, Value.slice x.A x.m x.c], 5⟩], fun v' d => OwnS w.heap.size 40 5 v' ((0 + q1 + 1) + 1) (([] ++ flatC (Es.take (q1 + 1))) ++ cellsC x) d, fun _ _ => True, fun _ _ => True, fun _ _ => True, fun v' d => OwnS w.heap.size 40 5 v' ((0 + q1 + 1 + 1) + (i - (q1 + 1))) ((([] ++ flatC (Es.take (q1 + 1))) ++ cellsC x) ++ flatC (Es.drop (q1 + 1))) d, fun _ _ => True] (by kernel_rfl) (by kernel_rfl) (List.Perm.of_eq (List.append_nil _).symm) Fresh.nil ?_
        refine TT.free (Wants.none rfl) rfl (fun Z hZ => Gets.move rfl rfl) ?_
        refine TT.free (Wants.none rfl) rfl (fun Z hZ => Gets.move rfl rfl) ?_
        refine TT.free (Wants.none rfl) rfl (fun Z hZ => Gets.sliceS rfl Try.underlying23 size40 rfl bnd.dflt (bnd.at_ (l := (q1 + 1)) rfl (by omega)) (by omega) (by omega) (cutA_zero _ _ _) (ln := (q1 + 1)) (cp := co) (by omega) (by omega)) ?_
        refine TT.free (Wants.none rfl) rfl (fun Z hZ => Gets.move rfl rfl) ?_
        refine TT.free (Wants.none rfl) rfl (fun Z hZ => Gets.move rfl rfl) ?_
        refine TT.free (Wants.none rfl) rfl (fun Z hZ => Gets.idxSlice rfl Try.underlying23 size40 rfl rfl (i := i) (by omega) (by omega) (off' := (off + 5 * i)) (by omega)) ?_
        refine TT.free (Wants.none rfl) rfl (fun Z hZ => Gets.loadN rfl agg40 size40 rfl rfl (Row.old (fun jj u h => hrw i x hx jj u h) hb (ne_app (ne_app ne_nil (hF.ne hb)) (hZ.ne hb)))) ?_
        refine TT.free (Wants.none rfl) rfl (fun Z hZ => Gets.move rfl rfl) ?_
        refine TT.free (Wants.none rfl) rfl (fun Z hZ => Gets.move rfl rfl) ?_
        refine TT.free (Wants.none rfl) rfl (fun Z hZ => Gets.sliceS rfl Try.underlying23 size40 rfl (bnd.at_ (l := (q1 + 1)) rfl (by omega)) bnd.dflt (by omega) (by omega) rfl (ln := (i - q1 - 1)) (cp := (co - q1 - 1)) (by omega) (by omega)) ?_
        refine TT.emptySlice (Wants.none rfl) rfl rfl Try.underlying23 size40 (fun ge hge => ?_)
        refine TT.appendS (Wants.none rfl) rfl rfl Try.underlying23 mk40 rfl (by decide) rfl rfl (s := 5) (nn := 0) (m := q1 + 1) (cs := ([] : List Value)) (news := flatC (Es.take (q1 + 1))) (OwnS.empty hge rfl) (X0 := []) (List.Perm.refl _) (by rw [flatC_len, List.length_take]; omega) (fun Z w hZ hs => hown.srcHead (fun e he => hs.has e (by simp [he])) (by omega)) (flatC_one' _) (by unfold maxLen; omega) (by omega) (fun v1 Hv1 hv1 => ?_)
        refine TT.buildSlice (Wants.none rfl) rfl rfl Try.underlying23 size40 zero40 rfl (by decide) (by decide) (cells := #[Value.int .i64 x.k, Value.int .i64 x.t, Value.int .i64 x.f, Value.int .i64 x.l, Value.slice x.A x.m x.c]) (tot := 5) (by kernel_rfl) (cs := [Value.int .i64 x.k, Value.int .i64 x.t, Value.int .i64 x.f, Value.int .i64 x.l, Value.slice x.A x.m x.c]) rfl rfl (fun gb hgb => ?_)
        refine TT.appendS (Wants.none rfl) rfl rfl Try.underlying23 mk40 rfl (by decide) rfl rfl (s := 5) (nn := (0 + q1 + 1)) (m := 1) (cs := ([] ++ flatC (Es.take (q1 + 1)))) (news := cellsC x) hv1 (X0 := [⟨gb, 40, [Value.int .i64 x.k, Value.int .i64 x.t, Value.int .i64 x.f, Value.int .i64 x.l, Value.slice x.A x.m x.c], 5⟩]) List.perm_append_comm rfl (fun Z w hZ hs => lies_srcV (hs.has ⟨gb, 40, [Value.int .i64 x.k, Value.int .i64 x.t, Value.int .i64 x.f, Value.int .i64 x.l, Value.slice x.A x.m x.c], 5⟩ (by simp))) (by intro u hu; exact flatC_one' [x] u (by rw [flatC_one]; exact hu)) (by unfold maxLen; omega) (by omega) (fun v2 Hv2 hv2 => ?_)
        refine TT.appendS (Wants.none rfl) rfl rfl Try.underlying23 mk40 rfl (by decide) rfl rfl (s := 5) (nn := (0 + q1 + 1 + 1)) (m := (i - (q1 + 1))) (cs := (([] ++ flatC (Es.take (q1 + 1))) ++ cellsC x)) (news := flatC (Es.drop (q1 + 1))) hv2 (X0 := [⟨gb, 40, [Value.int .i64 x.k, Value.int .i64 x.t, Value.int .i64 x.f, Value.int .i64 x.l, Value.slice x.A x.m x.c], 5⟩]) (List.Perm.refl _) (by rw [flatC_len, List.length_drop]; omega) (fun Z w hZ hs => hown.srcCut (fun e he => hs.has e (by simp [he])) (by omega)) (flatC_one' _) (by unfold maxLen; omega) (by omega) (fun v3 Hv3 hv3 => ?_)
        refine TT.free (Wants.none rfl) rfl (fun Z hZ => Gets.assign rfl rfl) ?_
        refine TT.nil ?_
        refine TE.blockN ?_
        refine TE.then ?_
        refine TC.sub (Sub.cons (i := 0) rfl (Sub.cons (i := 3) rfl (Sub.cons (i := 4) rfl (Sub.nil)))) ?_
        refine TC.regionL ?_
        refine TL.gets (Wants.none rfl) rfl (Gets.move rfl rfl) ?_
        refine TL.gets (Wants.none rfl) rfl (Gets.add rfl rfl rfl (r := ((i : Int) + 1)) (w64 (by omega) (by omega))) ?_
        refine TL.gets (Wants.none rfl) rfl (Gets.assign rfl rfl) ?_
        refine TL.nil ?_
        exact TE.back (⟨i + 1, v3, insC Es (q1 + 1) x, Hv3⟩ : WS) (by show m - (i + 1) < m - i; omega) ⟨ins_own hv3 (by omega), ins_perm hEp hx, insC_sorted hEs (head_le hEs hy (by omega)) hgt, by show i + 1 ≤ m; omega⟩ (Sub.slice (i := 0) rfl (by first | rfl | (congr 2; omega)) (by first | omega | (dsimp only; omega) | rfl) (by first | omega | (dsimp only; omega) | rfl) (Sub.cons (i := 3) rfl (Sub.int (i := 4) rfl (by first | omega | rfl) (Sub.nil)))) (fun w h => st_keep h hF (fresh_one hgb))
    · refine TM.free (Wants.none rfl) rfl (fun _ => Gets.isFalse (Gets.gtr rfl rfl rfl) c1) ?_
      refine TM.free (Wants.none rfl) rfl (fun _ => Gets.move rfl rfl) ?_
      refine TM.pass rfl rfl rfl rfl rfl ?_
      refine TM.pass rfl rfl rfl rfl rfl ?_
      refine TM.pass rfl rfl rfl rfl rfl ?_
      refine TM.pass rfl rfl rfl rfl rfl ?_
      refine TM.pass rfl rfl rfl rfl rfl ?_
      refine TM.pass1 rfl rfl rfl rfl rfl ?_
      refine TM.pass rfl rfl rfl rfl rfl ?_
      refine TM.pass rfl rfl rfl rfl rfl ?_
      refine TM.pass rfl rfl rfl rfl rfl ?_
      refine TM.pass rfl rfl rfl rfl rfl ?_
      refine TM.pass1 rfl rfl rfl rfl rfl ?_
      refine TM.pass rfl rfl rfl rfl rfl ?_
      refine TM.free (Wants.none rfl) rfl (fun _ => Gets.pickF rfl rfl rfl) ?_
      refine TM.nil ?_
      refine TE.then ?_
      refine TC.sub (Sub.cons (i := 0) rfl (Sub.cons (i := 3) rfl (Sub.cons (i := 4) rfl (Sub.cons (i := 5) rfl (Sub.cons (i := 29) rfl (Sub.nil)))))) ?_
      refine TC.no rfl ?_
      refine TC.exit ?_
      refine TE.thenX ?_
      refine TE.thenX ?_
      refine TE.blockX ?_
      refine TE.then ?_
      refine TC.mixT ([] ++ He) [] (by kernel_rfl) [3, 0, 0, 0, 7, 0, 0, 0, 0, 3, 7, 0, 0, 0, 7, 0] [1, 2, 3, 5, 6, 7, 8, 11, 12, 13, 0, 4, 9, 10, 14, 15] [fun v d => ∃ g, v = .slice (some ⟨g, 0, none⟩) 0 0 ∧ d = [⟨g, 40, [], 0⟩], fun _ _ => True, fun _ _ => True, fun _ _ => True, fun v' d => OwnS w.heap.size 40 5 v' (0 + q) (([] : List Value) ++ flatC (Es.take q)) d, fun _ _ => True, fun _ _ => True, fun _ _ => True, fun _ _ => True, fun v d => ∃ g, v = .slice (some ⟨g, 0, none⟩) 1 1 ∧ d = [⟨g, 40, [Value.int .i64 x.k, Value.int .i64 x.t, Value.int .i64 x.f, Value.int .i64 x.l, Value.slice x.A x.m x.c], 5⟩], fun v' d => OwnS w.heap.size 40 5 v' ((0 + q) + 1) (([] ++ flatC (Es.take q)) ++ cellsC x) d, fun _ _ => True, fun _ _ => True, fun _ _ => True, fun v' d => OwnS w.heap.size 40 5 v' ((0 + q + 1) + (i - q)) ((([] ++ flatC (Es.take q)) ++ cellsC x) ++ flatC (Es.drop q)) d, fun _ _ => True] (by kernel_rfl) (by kernel_rfl) (List.Perm.of_eq (List.append_nil _).symm) Fresh.nil ?_
      refine TT.free (Wants.none rfl) rfl (fun Z hZ => Gets.move rfl rfl) ?_
      refine TT.free (Wants.none rfl) rfl (fun Z hZ => Gets.move rfl rfl) ?_
      refine TT.free (Wants.none rfl) rfl (fun Z hZ => Gets.sliceS rfl Try.underlying23 size40 rfl bnd.dflt (bnd.at_ (l := q) rfl (by omega)) (by omega) (by omega) (cutA_zero _ _ _) (ln := q) (cp := co) (by omega) (by omega)) ?_
      refine TT.free (Wants.none rfl) rfl (fun Z hZ => Gets.move rfl rfl) ?_
      refine TT.free (Wants.none rfl) rfl (fun Z hZ => Gets.move rfl rfl) ?_
      refine TT.free (Wants.none rfl) rfl (fun Z hZ => Gets.idxSlice rfl Try.underlying23 size40 rfl rfl (i := i) (by omega) (by omega) (off' := (off + 5 * i)) (by omega)) ?_
      refine TT.free (Wants.none rfl) rfl (fun Z hZ => Gets.loadN rfl agg40 size40 rfl rfl (Row.old (fun jj u h => hrw i x hx jj u h) hb (ne_app (ne_app ne_nil (hF.ne hb)) (hZ.ne hb)))) ?_
      refine TT.free (Wants.none rfl) rfl (fun Z hZ => Gets.move rfl rfl) ?_
      refine TT.free (Wants.none rfl) rfl (fun Z hZ => Gets.move rfl rfl) ?_
      refine TT.free (Wants.none rfl) rfl (fun Z hZ => Gets.sliceS rfl Try.underlying23 size40 rfl (bnd.at_ (l := q) rfl (by omega)) bnd.dflt (by omega) (by omega) rfl (ln := (i - q)) (cp := (co - q)) (by omega) (by omega)) ?_
      refine TT.emptySlice (Wants.none rfl) rfl rfl Try.underlying23 size40 (fun ge hge => ?_)
      refine TT.appendS (Wants.none rfl) rfl rfl Try.underlying23 mk40 rfl (by decide) rfl rfl (s := 5) (nn := 0) (m := q) (cs := ([] : List Value)) (news := flatC (Es.take q)) (OwnS.empty hge rfl) (X0 := []) (List.Perm.refl _) (by rw [flatC_len, List.length_take]; omega) (fun Z w hZ hs => hown.srcHead (fun e he => hs.has e (by simp [he])) (by omega)) (flatC_one' _) (by unfold maxLen; omega) (by omega) (fun v1 Hv1 hv1 => ?_)
      refine TT.buildSlice (Wants.none rfl) rfl rfl Try.underlying23 size40 zero40 rfl (by decide) (by decide) (cells := #[Value.int .i64 x.k, Value.int .i64 x.t, Value.int .i64 x.f, Value.int .i64 x.l, Value.slice x.A x.m x.c]) (tot := 5) (by kernel_rfl) (cs := [Value.int .i64 x.k, Value.int .i64 x.t, Value.int .i64 x.f, Value.int .i64 x.l, Value.slice x.A x.m x.c]) rfl rfl (fun gb hgb => ?_)
      refine TT.appendS (Wants.none rfl) rfl rfl Try.underlying23 mk40 rfl (by decide) rfl rfl (s := 5) (nn := (0 + q)) (m := 1) (cs := ([] ++ flatC (Es.take q))) (news := cellsC x) hv1 (X0 := [⟨gb, 40, [Value.int .i64 x.k, Value.int .i64 x.t, Value.int .i64 x.f, Value.int .i64 x.l, Value.slice x.A x.m x.c], 5⟩]) List.perm_append_comm rfl (fun Z w hZ hs => lies_srcV (hs.has ⟨gb, 40, [Value.int .i64 x.k, Value.int .i64 x.t, Value.int .i64 x.f, Value.int .i64 x.l, Value.slice x.A x.m x.c], 5⟩ (by simp))) (by intro u hu; exact flatC_one' [x] u (by rw [flatC_one]; exact hu)) (by unfold maxLen; omega) (by omega) (fun v2 Hv2 hv2 => ?_)
      refine TT.appendS (Wants.none rfl) rfl rfl Try.underlying23 mk40 rfl (by decide) rfl rfl (s := 5) (nn := (0 + q + 1)) (m := (i - q)) (cs := (([] ++ flatC (Es.take q)) ++ cellsC x)) (news := flatC (Es.drop q)) hv2 (X0 := [⟨gb, 40, [Value.int .i64 x.k, Value.int .i64 x.t, Value.int .i64 x.f, Value.int .i64 x.l, Value.slice x.A x.m x.c], 5⟩]) (List.Perm.refl _) (by rw [flatC_len, List.length_drop]; omega) (fun Z w hZ hs => hown.srcCut (fun e he => hs.has e (by simp [he])) (by omega)) (flatC_one' _) (by unfold maxLen; omega) (by omega) (fun v3 Hv3 hv3 => ?_)
      refine TT.free (Wants.none rfl) rfl (fun Z hZ => Gets.assign rfl rfl) ?_
      refine TT.nil ?_
      refine TE.blockN ?_
      refine TE.then ?_
      refine TC.sub (Sub.cons (i := 0) rfl (Sub.cons (i := 3) rfl (Sub.cons (i := 4) rfl (Sub.nil)))) ?_
      refine TC.regionL ?_
      refine TL.gets (Wants.none rfl) rfl (Gets.move rfl rfl) ?_
      refine TL.gets (Wants.none rfl) rfl (Gets.add rfl rfl rfl (r := ((i : Int) + 1)) (w64 (by omega) (by omega))) ?_
      refine TL.gets (Wants.none rfl) rfl (Gets.assign rfl rfl) ?_
      refine TL.nil ?_
      exact TE.back (⟨i + 1, v3, insC Es q x, Hv3⟩ : WS) (by show m - (i + 1) < m - i; omega) ⟨ins_own hv3 (by omega), ins_perm hEp hx, insC_sorted hEs (fun j z h _ => by omega) hgt, by show i + 1 ≤ m; omega⟩ (Sub.slice (i := 0) rfl (by first | rfl | (congr 2; omega)) (by first | omega | (dsimp only; omega) | rfl) (by first | omega | (dsimp only; omega) | rfl) (Sub.cons (i := 3) rfl (Sub.int (i := 4) rfl (by first | omega | rfl) (Sub.nil)))) (fun w h => st_keep h hF (fresh_one hgb))
  · obtain rfl : i = m := by omega
    rw [List.take_of_length_le (by have := hC.1; omega)] at hEp
    refine TC.exit ?_
    refine TE.thenX ?_
    refine TE.thenX ?_
    refine TE.blockX ?_
    refine TE.then ?_
    refine TC.seq ?_
    refine TC.regionL ?_
    refine TL.gets (Wants.none rfl) rfl (Gets.move rfl rfl) ?_
    refine TL.gets (Wants.none rfl) rfl (Gets.assign rfl rfl) ?_
    refine TL.nil ?_
    refine TE.then ?_
    refine TC.ret ?_
    exact TE.ret1 rfl rfl (fun w hs => ⟨_, _, _, rfl, hown, hEp, hEs, hs⟩)
end Go.Proofs.Ytkgamkjdkapchaa
