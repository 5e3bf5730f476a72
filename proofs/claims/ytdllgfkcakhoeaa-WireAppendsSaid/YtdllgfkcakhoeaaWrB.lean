/-
  The law's fields.
-/
import Derived.Test.YtdllgfkcakhoeaaWrA
import Derived.Test.YtdllgfkcakhoeaaAuto
namespace Go.Proofs.Ytdllgfkcakhoeaa
set_option linter.unusedVariables false
set_option linter.unusedSimpArgs false
open Go Go.RowKit
theorem agg3 : (isAgg 3).run Try.prog = fun w => .ok false w := isAgg_no Try.underlying3 rfl
theorem agg34 : (isAgg 34).run Try.prog = fun w => .ok false w := isAgg_no Try.underlying34 rfl
theorem agg54 : (isAgg 54).run Try.prog = fun w => .ok true w := isAgg_yes Try.underlying54 rfl
theorem enters21 : Enters Try.prog 21 := ⟨_, Try.func21, by kernel_rfl, by kernel_rfl⟩
theorem enters22 : Enters Try.prog 22 := ⟨_, Try.func22, by kernel_rfl, by kernel_rfl⟩
theorem mk36 : (Try.prog.info? 36).map (fun i => (i.zero, i.size, i.bytes)) = some (some (.agg #[.int .u64 0, .int .i64 0]), 2, 16) := by kernel_rfl
theorem size3 : (Try.prog.info? 3).map (·.size) = some 1 := by kernel_rfl
theorem size34 : (Try.prog.info? 34).map (·.size) = some 1 := by kernel_rfl
theorem size36 : (Try.prog.info? 36).map (·.size) = some 2 := by kernel_rfl
theorem size54 : (Try.prog.info? 54).map (·.size) = some 2 := by kernel_rfl
theorem zero36 : (Try.prog.info? 36).bind (·.zero) = some (.agg #[.int .u64 0, .int .i64 0]) := by kernel_rfl
theorem zero54 : (Try.prog.info? 54).bind (·.zero) = some (.agg #[.int .u64 0, .int .i64 0]) := by kernel_rfl
instance : AgN Try.prog 3 := ⟨agg3⟩
instance : AgN Try.prog 34 := ⟨agg34⟩
instance : AgY Try.prog 54 := ⟨agg54⟩
instance : Fld Try.prog 54 0 0 := ⟨⟨_, _, _, Try.underlying54, rfl, size34, rfl⟩⟩
instance : Fld Try.prog 54 1 1 := ⟨⟨_, _, _, Try.underlying54, rfl, size3, rfl⟩⟩
instance : Siz Try.prog 54 2 := ⟨size54⟩
instance : Sli Try.prog 23 54 := ⟨Try.underlying23⟩
instance : Zer Try.prog 54 [Value.int .u64 0, Value.int .i64 0] := ⟨⟨_, zero54, rfl⟩⟩
set_option maxRecDepth 100000 in
set_option maxHeartbeats 400000 in
theorem fields_c (Fs : List FV) (A : Option Addr) (m c : Nat) (w : World) (hS : SrcF w A m Fs) (hmc : m ≤ c) (hm : m ≤ 60) : Calls Try.prog 8 #[.slice A m c] w fun e w' => ∃ v1 H1 v2 W H2, e = .returned (.tuple #[v1, v2, .bool (decide (fitAll Fs))]) ∧ OwnS w.heap.size 36 2 v1 m (flatF Fs) H1 ∧ Own w.heap.size 5 .u8 v2 W H2 ∧ (fitAll Fs → W = encF Fs) ∧ W.length ≤ 8 * m ∧ St w ([] ++ (H2 ++ H1)) w' := by
  refine calls_from (args := [.slice A m c]) Try.func8 rfl Try.ntmps8 (by simp) ?_
  refine TC.pr [0] ?_
  iterate 30 refine gx ?_
  refine TC.pr [2, 3, 4, 5, 6, 7, 10, 11, 12] ?_
  refine gx ?_
  refine TC.loop (ι := WF) (fun x0 => [(5, x0.v1), (6, x0.v2), (7, .bool (decide (fitAll (Fs.take x0.i)))), (10, .slice A m c), (11, .int .i64 (m : Int)), (12, .int .i64 (x0.i : Int))]) (fun x0 => [] ++ (x0.H2 ++ x0.H1)) (fun x0 => m - x0.i) (fun x0 => OwnS w.heap.size 36 2 x0.v1 x0.i (flatF (Fs.take x0.i)) x0.H1 ∧ Own w.heap.size 5 .u8 x0.v2 x0.W x0.H2 ∧ (fitAll (Fs.take x0.i) → x0.W = encF (Fs.take x0.i)) ∧ x0.W.length ≤ 8 * x0.i ∧ x0.i ≤ m) (⟨0, .slice none 0 0, [], .slice none 0 0, [], []⟩ : WF) ⟨OwnS.nil _ _ _, Own.nil _ _ _, fun _ => rfl, Nat.zero_le _, Nat.zero_le _⟩ (Sub.cons (i := 5) rfl (Sub.cons (i := 6) rfl (Sub.cons (i := 7) rfl (Sub.slice (i := 10) rfl rfl (by first | omega | (dsimp only; omega) | rfl) (by first | omega | (dsimp only; omega) | rfl) (Sub.int (i := 11) rfl (by first | omega | rfl) (Sub.int (i := 12) rfl (by first | omega | rfl) (Sub.nil))))))) (fun w h => h) (fun x0 hC0 => ?_)
  obtain ⟨i, v1, H1, v2, W, H2⟩ := x0
  obtain ⟨hv1, hv2, hW, hWl, him⟩ := hC0
  dsimp only at hv1 hv2 hW hWl him ⊢
  have hF1 : Fresh w H1 := hv1.new
  have hF2 : Fresh w H2 := hv2.new
  obtain ⟨Ao, co, rfl, hco, hco2⟩ := hv2.form
  iterate 6 refine gx ?_
  refine TC.split rfl (fun hq0 => ?_) (fun hq0 => ?_)
  · obtain ⟨b, off, hAe, hb, hrw⟩ := hS.some_ (i := i) (by omega)
    subst hAe
    obtain ⟨x, hx⟩ := hS.get (i := i) (by omega)
    iterate 6 refine gx ?_
    refine TL.gets (Wants.none rfl) rfl (Gets.idxSlice rfl Try.underlying23 size54 rfl rfl (i := i) (by omega) (by omega) (off' := (off + 2 * i)) (by omega)) ?_
    refine TL.gets (Wants.none rfl) rfl (Gets.loadN rfl agg54 size54 rfl rfl (Row.old (fun jj u h => hrw i x hx jj u h) hb (ne_app ne_nil ((Fresh.app hF2 hF1).ne hb)))) ?_
    refine TL.al (fun g1 hg1 => ?_)
    refine TL.storeW (Wants.none rfl) rfl rfl size54 rfl (vs := [Value.int .u64 x.x, Value.int .i64 x.n]) rfl (by simp []) (by simp [Value.oneCell']) (i := 0) (ent := ⟨g1, 54, [Value.int .u64 0, Value.int .i64 0], 2⟩) rfl rfl (by simp []) (H' := [⟨g1, 54, [Value.int .u64 x.x, Value.int .i64 x.n], 2⟩] ++ (H2 ++ H1)) rfl ?_
    iterate 2 refine gx ?_
    refine TC.pr [5, 6, 7, 9, 10, 11, 12] ?_
    iterate 4 refine gx ?_
    refine TL.buildSlice (Wants.none rfl) rfl rfl Try.underlying25 size36 zero36 rfl (by decide) (by decide) (cells := #[.int .u64 x.x, .int .i64 x.n]) (tot := 2) (by kernel_rfl) (cs := [.int .u64 x.x, .int .i64 x.n]) rfl rfl (fun g2 hg2 => ?_)
    refine TL.heap (H' := ([⟨g2, 36, [Value.int .u64 x.x, Value.int .i64 x.n], 2⟩, ⟨g1, 54, [Value.int .u64 x.x, Value.int .i64 x.n], 2⟩] ++ H2) ++ H1) (fun w h => by rw [List.append_assoc]; exact h) ?_
    refine TL.appendS (Wants.none rfl) rfl rfl Try.underlying25 mk36 rfl (by decide) rfl rfl (s := 2) (nn := i) (m := 1) (cs := flatF (Fs.take i)) (news := cellsF x) hv1 rfl (fun w hs => lies_srcV (hs.has ⟨g2, 36, [Value.int .u64 x.x, Value.int .i64 x.n], 2⟩ (by simp))) (by intro u hu; exact flatF_one' [x] u (by rw [flatF_one]; exact hu)) (by unfold maxLen; omega) (by omega) (fun v1' H1' hv1' => ?_)
    refine TL.heap (H' := [⟨g2, 36, [Value.int .u64 x.x, Value.int .i64 x.n], 2⟩, ⟨g1, 54, [Value.int .u64 x.x, Value.int .i64 x.n], 2⟩] ++ (H2 ++ H1')) (fun w h => by rw [← List.append_assoc]; exact h) ?_
    iterate 3 refine gx ?_
    refine TC.pr [5, 6, 7, 9, 10, 11, 12] ?_
    iterate 2 refine gx ?_
    by_cases c1 : fitAll (Fs.take i)
    · refine TL.gets (Wants.none rfl) rfl (Gets.isTrue (Gets.move rfl rfl) c1) ?_
      iterate 5 refine gx ?_
      by_cases c2 : fitV x.x x.n
      · refine TL.call0 (Wants.yes rfl rfl rfl) rfl enters21 rfl rfl (v := .bool true) (fun w hs => (rfits_c x.x x.n w).mono fun e w' h => by rw [decide_eq_true (p := fitV x.x x.n) c2] at h; exact h) ?_
        iterate 4 refine gx ?_
        refine TC.pr [5, 6, 7, 9, 10, 11, 12] ?_
        iterate 5 refine gx ?_
        refine TC.yes rfl ?_
        iterate 6 refine gx ?_
        refine TL.call (ι := Value × List Ent) (V := fun y => y.1) (R := fun y => Own w.heap.size 5 .u8 y.1 (W ++ beV x.x x.n) y.2) (H' := fun y => [⟨g2, 36, [Value.int .u64 x.x, Value.int .i64 x.n], 2⟩, ⟨g1, 54, [Value.int .u64 x.x, Value.int .i64 x.n], 2⟩] ++ (H2 ++ H1') ++ y.2) (Wants.none rfl) rfl enters22 rfl rfl (fun w hs => (rapp_c x.x x.n (by have := c2; unfold fitV at this; omega) W Ao W.length co w (hv2.srcOf (fun e he => hs.has e (by simp [he]))) hco (by omega)).mono fun e w' ⟨v, He, he, ho, hw⟩ => ⟨(v, He), he, own_mono ho hs.size, st_call hs hw ho.new⟩) (fun y hR => ?_)
        obtain ⟨v3, H3⟩ := y
        dsimp only at hR ⊢
        refine TL.heap (H' := [⟨g2, 36, [Value.int .u64 x.x, Value.int .i64 x.n], 2⟩, ⟨g1, 54, [Value.int .u64 x.x, Value.int .i64 x.n], 2⟩] ++ ((H2 ++ H1') ++ H3)) (fun w h => by rw [← List.append_assoc]; exact h) ?_
        have hFtH3 := Fresh.app (Fresh.app hF2 hv1'.new) hR.new
        iterate 4 refine gx ?_
        refine TC.pr [5, 6, 7, 10, 11, 12] ?_
        refine gx ?_
        refine TL.gets (Wants.none rfl) rfl (Gets.add rfl rfl rfl (r := ((i : Int) + 1)) (w64 (by omega) (by omega))) ?_
        iterate 2 refine gx ?_
        exact TE.back (⟨i + 1, v1', H1', v3, W ++ beV x.x x.n, H3⟩ : WF) (by show m - (i + 1) < m - i; omega) ⟨by have h3 := hv1'; rw [← flatF_one, ← flatF_app, ← take_one hx] at h3; exact h3, hR, fun h => by rw [encF_take hx, hW ((fitAll_take hx).1 h).1], by have := beV_len x.x x.n; have h4 := c2; unfold fitV at h4; rw [List.length_append, this]; show _ ≤ 8 * (i + 1); omega, by show i + 1 ≤ m; omega⟩ (Sub.cons (i := 5) rfl (Sub.cons (i := 6) rfl (Sub.cons (i := 7) (look_t ((fitAll_take hx).2 ⟨c1, c2⟩) rfl) (Sub.slice (i := 10) rfl (by first | rfl | (congr 2; omega)) (by first | omega | (dsimp only; omega) | rfl) (by first | omega | (dsimp only; omega) | rfl) (Sub.int (i := 11) rfl (by first | omega | rfl) (Sub.int (i := 12) rfl (by first | omega | rfl) (Sub.nil))))))) (fun w h => st_next h (Fresh.cons (by assumption) (Fresh.cons (by assumption) Fresh.nil)) hF2)
      · refine TL.call0 (Wants.yes rfl rfl rfl) rfl enters21 rfl rfl (v := .bool false) (fun w hs => (rfits_c x.x x.n w).mono fun e w' h => by rw [decide_eq_false (p := fitV x.x x.n) c2] at h; exact h) ?_
        iterate 4 refine gx ?_
        refine TC.pr [5, 6, 7, 9, 10, 11, 12] ?_
        iterate 5 refine gx ?_
        refine TC.no rfl ?_
        iterate 4 refine gx ?_
        refine TL.gets (Wants.none rfl) rfl (Gets.add rfl rfl rfl (r := ((i : Int) + 1)) (w64 (by omega) (by omega))) ?_
        iterate 2 refine gx ?_
        exact TE.back (⟨i + 1, v1', H1', .slice Ao W.length co, W, H2⟩ : WF) (by show m - (i + 1) < m - i; omega) ⟨by have h3 := hv1'; rw [← flatF_one, ← flatF_app, ← take_one hx] at h3; exact h3, hv2, fun h => absurd h (fun h5 => c2 ((fitAll_take hx).1 h5).2), by show W.length ≤ 8 * (i + 1); omega, by show i + 1 ≤ m; omega⟩ (Sub.cons (i := 5) rfl (Sub.cons (i := 6) rfl (Sub.cons (i := 7) (look_f (fun h5 => c2 ((fitAll_take hx).1 h5).2) rfl) (Sub.slice (i := 10) rfl (by first | rfl | (congr 2; omega)) (by first | omega | (dsimp only; omega) | rfl) (by first | omega | (dsimp only; omega) | rfl) (Sub.int (i := 11) rfl (by first | omega | rfl) (Sub.int (i := 12) rfl (by first | omega | rfl) (Sub.nil))))))) (fun w h => st_tail h (Fresh.cons (by assumption) (Fresh.cons (by assumption) Fresh.nil)))
    · refine TL.gets (Wants.none rfl) rfl (Gets.isFalse (Gets.move rfl rfl) c1) ?_
      iterate 10 refine gx ?_
      refine TC.pr [5, 6, 7, 9, 10, 11, 12] ?_
      iterate 5 refine gx ?_
      refine TC.no rfl ?_
      iterate 4 refine gx ?_
      refine TL.gets (Wants.none rfl) rfl (Gets.add rfl rfl rfl (r := ((i : Int) + 1)) (w64 (by omega) (by omega))) ?_
      iterate 2 refine gx ?_
      exact TE.back (⟨i + 1, v1', H1', .slice Ao W.length co, W, H2⟩ : WF) (by show m - (i + 1) < m - i; omega) ⟨by have h3 := hv1'; rw [← flatF_one, ← flatF_app, ← take_one hx] at h3; exact h3, hv2, fun h => absurd h (fun h5 => c1 ((fitAll_take hx).1 h5).1), by show W.length ≤ 8 * (i + 1); omega, by show i + 1 ≤ m; omega⟩ (Sub.cons (i := 5) rfl (Sub.cons (i := 6) rfl (Sub.cons (i := 7) (look_f (fun h5 => c1 ((fitAll_take hx).1 h5).1) rfl) (Sub.slice (i := 10) rfl (by first | rfl | (congr 2; omega)) (by first | omega | (dsimp only; omega) | rfl) (by first | omega | (dsimp only; omega) | rfl) (Sub.int (i := 11) rfl (by first | omega | rfl) (Sub.int (i := 12) rfl (by first | omega | rfl) (Sub.nil))))))) (fun w h => st_tail h (Fresh.cons (by assumption) (Fresh.cons (by assumption) Fresh.nil)))
  · obtain rfl : i = m := by omega
    have htk : Fs.take i = Fs := List.take_of_length_le (by have := hS.1; omega)
    rw [htk] at hv1 hW
    iterate 16 refine gx ?_
    exact TE.ret3 rfl rfl rfl rfl (fun w hs => ⟨_, _, _, _, _, by simp only [htk], hv1, hv2, hW, hWl, hs⟩)
end Go.Proofs.Ytdllgfkcakhoeaa
