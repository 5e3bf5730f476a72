/-
  Contracts of Clone, Grow and Concat.
-/
import Derived.Test.YtehnkhgcbcfoeaaCmE
namespace Go.Proofs.Ytehnkhgcbcfoeaa
set_option linter.unusedVariables false
set_option linter.unusedSimpArgs false
open Go Go.RowKit
theorem enters36 : Enters Try.prog 36 := ⟨_, Try.func36, by kernel_rfl, by kernel_rfl⟩
theorem enters38 : Enters Try.prog 38 := ⟨_, Try.func38, by kernel_rfl, by kernel_rfl⟩
theorem mk5 : (Try.prog.info? 5).map (fun i => (i.zero, i.size, i.bytes)) = some (some (.int .u8 0), 1, 1) := by kernel_rfl
theorem size5 : (Try.prog.info? 5).map (·.size) = some 1 := by kernel_rfl
set_option maxRecDepth 100000 in
set_option maxHeartbeats 400000 in
theorem bclone_c (M : List Int) (ad : Addr) (m c : Nat) (w : World) (hsM : Src w (some ad) m .u8 M) (hmc : m ≤ c) (hm : m ≤ 140737488355328) : Calls Try.prog 36 #[.slice (some ad) m c] w fun e w' => ∃ g c', e = .returned (.slice (some ⟨g, 0, none⟩) m c') ∧ w.heap.size ≤ g ∧ m ≤ c' ∧ c' ≤ maxLen ∧ St w [⟨g, 5, (M).map (Value.int .u8), c'⟩] w' := by
  refine calls_from (args := [.slice (some ad) m c]) Try.func36 rfl Try.ntmps36 (by simp) ?_
  refine TC.sub (Sub.cons (i := 0) rfl (Sub.nil)) ?_
  refine TC.seq ?_
  refine TC.regionL ?_
  refine TL.gets (Wants.none rfl) rfl (Gets.assign rfl rfl) ?_
  refine TL.nil ?_
  refine TE.then ?_
  refine TC.seq ?_
  refine TC.seq ?_
  refine TC.regionL ?_
  refine TL.gets (Wants.none rfl) rfl (Gets.move rfl rfl) ?_
  refine TL.gets (Wants.none rfl) rfl (Gets.sliceNil (A := some ad) rfl Try.underlying25 rfl rfl) ?_
  refine TL.nil ?_
  refine TE.then ?_
  refine TC.no rfl ?_
  refine TC.skip ?_
  refine TE.then ?_
  refine TC.seq ?_
  refine TC.regionL ?_
  refine TL.emptySlice (Wants.none rfl) rfl rfl Try.underlying25 size5 (fun g1 hg1 => ?_)
  refine TL.gets (Wants.none rfl) rfl (Gets.move rfl rfl) ?_
  refine TL.appendOwn (H := []) (He := [⟨g1, 5, ([] : List Int).map (Value.int .u8), 0⟩]) (Wants.none rfl) rfl rfl Try.underlying25 mk5 rfl rfl rfl (W := []) (B := M) (.inr ⟨g1, 0, rfl, rfl, hg1, Nat.le_refl _, by unfold maxLen; omega⟩) (fun w hs => hsM.at_ hs (fun b hb => ne_app ne_nil (ne_cons (by show g1 ≠ b; omega) ne_nil))) (by simp only [List.length_nil]; omega) (by simp only [List.length_nil]; omega) (fun vo Ho ho hne => ?_)
  rw [List.nil_append] at ho
  obtain ⟨gs, cs, rfl, rfl, hgs, hcs, hms⟩ := own_some ho (hne (by intro h; cases h))
  have hls := hsM.1
  rw [hls] at hcs ⊢
  refine TL.gets (Wants.none rfl) rfl (Gets.assign rfl rfl) ?_
  refine TL.nil ?_
  refine TE.then ?_
  refine TC.ret ?_
  exact TE.ret1 rfl rfl (fun w hs => ⟨gs, cs, rfl, hgs, hcs, hms, hs⟩)

set_option maxRecDepth 100000 in
set_option maxHeartbeats 400000 in
theorem bclone_nil (m c : Nat) (w : World) : Calls Try.prog 36 #[.slice none m c] w fun e w' => e = .returned (.slice none 0 0) ∧ St w [] w' := by
  refine calls_from (args := [.slice none m c]) Try.func36 rfl Try.ntmps36 (by simp) ?_
  refine TC.sub (Sub.cons (i := 0) rfl (Sub.nil)) ?_
  refine TC.seq ?_
  refine TC.regionL ?_
  refine TL.gets (Wants.none rfl) rfl (Gets.assign rfl rfl) ?_
  refine TL.nil ?_
  refine TE.then ?_
  refine TC.seq ?_
  refine TC.seq ?_
  refine TC.regionL ?_
  refine TL.gets (Wants.none rfl) rfl (Gets.move rfl rfl) ?_
  refine TL.gets (Wants.none rfl) rfl (Gets.sliceNil (A := none) rfl Try.underlying25 rfl rfl) ?_
  refine TL.nil ?_
  refine TE.then ?_
  refine TC.yes rfl ?_
  refine TC.seq ?_
  refine TC.regionL ?_
  refine TL.gets (Wants.none rfl) rfl (Gets.assign rfl rfl) ?_
  refine TL.nil ?_
  refine TE.then ?_
  refine TC.ret ?_
  refine TE.thenR ?_
  exact TE.ret1 rfl rfl (fun w hs => ⟨rfl, hs⟩)

set_option maxRecDepth 100000 in
set_option maxHeartbeats 400000 in
theorem clone_nil (k t f l : Int) (m c : Nat) (w : World) : Calls Try.prog 24 #[.agg ([Value.int .i64 k, Value.int .i64 t, Value.int .i64 f, Value.int .i64 l, Value.slice none m c]).toArray] w fun e w' => e = .returned (.agg ([Value.int .i64 k, Value.int .i64 t, Value.int .i64 f, Value.int .i64 l, Value.slice none 0 0]).toArray) ∧ St w [] w' := by
  refine calls_from (args := [.agg ([Value.int .i64 k, Value.int .i64 t, Value.int .i64 f, Value.int .i64 l, Value.slice none m c]).toArray]) Try.func24 rfl Try.ntmps24 (by simp) ?_
  refine TC.sub (Sub.cons (i := 0) rfl (Sub.nil)) ?_
  refine TC.seq ?_
  refine TC.regionL ?_
  refine TL.box (Wants.none rfl) rfl rfl rfl (cs := [Value.int .i64 k, Value.int .i64 t, Value.int .i64 f, Value.int .i64 l, Value.slice none m c]) (by simp [Value.cells]) (tot := 5) (by simp []) (fun g1 hg1 => ?_)
  refine TL.alloc (Wants.none rfl) rfl rfl zero27 (cs := [Value.int .i64 0, Value.int .i64 0, Value.int .i64 0, Value.int .i64 0, Value.slice none 0 0]) rfl (tot := 5) (by simp) (fun g2 hg2 => ?_)
  refine TL.nil ?_
  refine TE.then ?_
  refine TC.seq ?_
  refine TC.regionL ?_
  refine TL.gets (Wants.none rfl) rfl (Gets.fieldAddr rfl Try.underlying27 rfl size25 rfl (off' := 4) (by first | rfl | omega)) ?_
  refine TL.gets (Wants.none rfl) rfl (Gets.load1 rfl agg25 rfl (At.ent (i := 1) (ent := ⟨g1, 27, [Value.int .i64 k, Value.int .i64 t, Value.int .i64 f, Value.int .i64 l, Value.slice none m c], 5⟩) (off := 4) rfl rfl (by exact rfl))) ?_
  refine TL.call0 (Wants.none rfl) rfl enters36 rfl rfl (v := .slice none 0 0) (fun w hs => bclone_nil m c w) ?_
  refine TL.gets (Wants.none rfl) rfl (Gets.fieldAddr rfl Try.underlying27 rfl size25 rfl (off' := 4) (by first | rfl | omega)) ?_
  refine TL.store1 (Wants.none rfl) rfl rfl size25 rfl rfl rfl (i := 1) rfl rfl (by simp [] <;> omega) (cs' := [Value.int .i64 k, Value.int .i64 t, Value.int .i64 f, Value.int .i64 l, Value.slice none 0 0]) (rfl) (H' := [⟨g2, 27, [Value.int .i64 0, Value.int .i64 0, Value.int .i64 0, Value.int .i64 0, Value.slice none 0 0], 5⟩, ⟨g1, 27, [Value.int .i64 k, Value.int .i64 t, Value.int .i64 f, Value.int .i64 l, Value.slice none 0 0], 5⟩]) rfl ?_
  refine TL.nil ?_
  refine TE.then ?_
  refine TC.seq ?_
  refine TC.regionL ?_
  refine TL.gets (Wants.none rfl) rfl (Gets.loadN rfl agg27 size27 rfl (vs := [Value.int .i64 k, Value.int .i64 t, Value.int .i64 f, Value.int .i64 l, Value.slice none 0 0]) (by simp []) (Row.all (i := 1) (ent := ⟨g1, 27, [Value.int .i64 k, Value.int .i64 t, Value.int .i64 f, Value.int .i64 l, Value.slice none 0 0], 5⟩) rfl rfl rfl)) ?_
  refine TL.storeW (Wants.none rfl) rfl rfl size27 rfl (vs := [Value.int .i64 k, Value.int .i64 t, Value.int .i64 f, Value.int .i64 l, Value.slice none 0 0]) rfl (by simp []) (by simp [Value.oneCell']) (i := 0) (ent := ⟨g2, 27, [Value.int .i64 0, Value.int .i64 0, Value.int .i64 0, Value.int .i64 0, Value.slice none 0 0], 5⟩) rfl rfl (by simp []) (H' := [⟨g2, 27, [Value.int .i64 k, Value.int .i64 t, Value.int .i64 f, Value.int .i64 l, Value.slice none 0 0], 5⟩, ⟨g1, 27, [Value.int .i64 k, Value.int .i64 t, Value.int .i64 f, Value.int .i64 l, Value.slice none 0 0], 5⟩]) rfl ?_
  refine TL.nil ?_
  refine TE.then ?_
  refine TC.ret ?_
  exact TE.retC rfl agg27 size27 rfl (vs := [Value.int .i64 k, Value.int .i64 t, Value.int .i64 f, Value.int .i64 l, Value.slice none 0 0]) rfl (Row.all (i := 0) (ent := ⟨g2, 27, [Value.int .i64 k, Value.int .i64 t, Value.int .i64 f, Value.int .i64 l, Value.slice none 0 0], 5⟩) rfl rfl rfl) (fun w hs => ⟨rfl, ((hs.drop (by assumption)).drop (by assumption))⟩)

set_option maxRecDepth 100000 in
set_option maxHeartbeats 400000 in
theorem clone_some (k t f l : Int) (ad : Addr) (m c : Nat) (B : List Int) (w : World) (hsA : Src w (some ad) m .u8 B) (hmc : m ≤ c) (hm : m ≤ 140737488355328) : Calls Try.prog 24 #[.agg ([Value.int .i64 k, Value.int .i64 t, Value.int .i64 f, Value.int .i64 l, Value.slice (some ad) m c]).toArray] w fun e w' => ∃ g c', e = .returned (.agg ([Value.int .i64 k, Value.int .i64 t, Value.int .i64 f, Value.int .i64 l, Value.slice (some ⟨g, 0, none⟩) m c']).toArray) ∧ w.heap.size ≤ g ∧ m ≤ c' ∧ c' ≤ maxLen ∧ St w [⟨g, 5, (B).map (Value.int .u8), c'⟩] w' := by
  refine calls_from (args := [.agg ([Value.int .i64 k, Value.int .i64 t, Value.int .i64 f, Value.int .i64 l, Value.slice (some ad) m c]).toArray]) Try.func24 rfl Try.ntmps24 (by simp) ?_
  refine TC.sub (Sub.cons (i := 0) rfl (Sub.nil)) ?_
  refine TC.seq ?_
  refine TC.regionL ?_
  refine TL.box (Wants.none rfl) rfl rfl rfl (cs := [Value.int .i64 k, Value.int .i64 t, Value.int .i64 f, Value.int .i64 l, Value.slice (some ad) m c]) (by simp [Value.cells]) (tot := 5) (by simp []) (fun g1 hg1 => ?_)
  refine TL.alloc (Wants.none rfl) rfl rfl zero27 (cs := [Value.int .i64 0, Value.int .i64 0, Value.int .i64 0, Value.int .i64 0, Value.slice none 0 0]) rfl (tot := 5) (by simp) (fun g2 hg2 => ?_)
  refine TL.nil ?_
  refine TE.then ?_
  refine TC.seq ?_
  refine TC.regionL ?_
  refine TL.gets (Wants.none rfl) rfl (Gets.fieldAddr rfl Try.underlying27 rfl size25 rfl (off' := 4) (by first | rfl | omega)) ?_
  refine TL.gets (Wants.none rfl) rfl (Gets.load1 rfl agg25 rfl (At.ent (i := 1) (ent := ⟨g1, 27, [Value.int .i64 k, Value.int .i64 t, Value.int .i64 f, Value.int .i64 l, Value.slice (some ad) m c], 5⟩) (off := 4) rfl rfl (by exact rfl))) ?_
  refine TL.call (ι := Nat × Nat) (V := fun yk => .slice (some ⟨yk.1, 0, none⟩) m yk.2) (R := fun yk => (m ≤ yk.2 ∧ yk.2 ≤ maxLen) ∧ w.heap.size ≤ (⟨yk.1, 5, B.map (Value.int .u8), yk.2⟩ : Ent).g) (H' := fun yk => [⟨yk.1, 5, B.map (Value.int .u8), yk.2⟩, ⟨g2, 27, [Value.int .i64 0, Value.int .i64 0, Value.int .i64 0, Value.int .i64 0, Value.slice none 0 0], 5⟩, ⟨g1, 27, [Value.int .i64 k, Value.int .i64 t, Value.int .i64 f, Value.int .i64 l, Value.slice (some ad) m c], 5⟩]) (Wants.none rfl) rfl enters36 rfl rfl (fun w hs => (show Calls Try.prog 36 #[.slice (some ad) m c] w (fun e w' => ∃ yk : Nat × Nat, e = .returned (.slice (some ⟨yk.1, 0, none⟩) m yk.2) ∧ (m ≤ yk.2 ∧ yk.2 ≤ maxLen) ∧ w.heap.size ≤ (⟨yk.1, 5, B.map (Value.int .u8), yk.2⟩ : Ent).g ∧ St w [⟨yk.1, 5, B.map (Value.int .u8), yk.2⟩] w') from (bclone_c B ad m c w (hsA.at_ hs (fun b hb => (ne_cons (by show g2 ≠ b; omega) (ne_cons (by show g1 ≠ b; omega) ne_nil)))) (by omega) (by omega)).mono fun e w' ⟨gv, cv, he, hgv, hcv, hmv, hw⟩ => ⟨(gv, cv), he, ⟨hcv, hmv⟩, hgv, hw⟩).mono fun e w' ⟨x, he, hR, hE, hw⟩ => ⟨x, he, ⟨hR, Nat.le_trans hs.size hE⟩, hs.made hw hE⟩) (fun yk ⟨hRk, hEk⟩ => ?_)
  obtain ⟨gk, ck⟩ := yk
  dsimp only at hRk hEk ⊢
  obtain ⟨hck, hmk⟩ := hRk
  unfold maxLen at hmk
  refine TL.gets (Wants.none rfl) rfl (Gets.fieldAddr rfl Try.underlying27 rfl size25 rfl (off' := 4) (by first | rfl | omega)) ?_
  refine TL.store1 (Wants.none rfl) rfl rfl size25 rfl rfl rfl (i := 2) rfl rfl (by simp [] <;> omega) (cs' := [Value.int .i64 k, Value.int .i64 t, Value.int .i64 f, Value.int .i64 l, Value.slice (some ⟨gk, 0, none⟩) m ck]) (rfl) (H' := [⟨gk, 5, B.map (Value.int .u8), ck⟩, ⟨g2, 27, [Value.int .i64 0, Value.int .i64 0, Value.int .i64 0, Value.int .i64 0, Value.slice none 0 0], 5⟩, ⟨g1, 27, [Value.int .i64 k, Value.int .i64 t, Value.int .i64 f, Value.int .i64 l, Value.slice (some ⟨gk, 0, none⟩) m ck], 5⟩]) rfl ?_
  refine TL.nil ?_
  refine TE.then ?_
  refine TC.seq ?_
  refine TC.regionL ?_
  refine TL.gets (Wants.none rfl) rfl (Gets.loadN rfl agg27 size27 rfl (vs := [Value.int .i64 k, Value.int .i64 t, Value.int .i64 f, Value.int .i64 l, Value.slice (some ⟨gk, 0, none⟩) m ck]) (by simp []) (Row.all (i := 2) (ent := ⟨g1, 27, [Value.int .i64 k, Value.int .i64 t, Value.int .i64 f, Value.int .i64 l, Value.slice (some ⟨gk, 0, none⟩) m ck], 5⟩) rfl rfl rfl)) ?_
  refine TL.storeW (Wants.none rfl) rfl rfl size27 rfl (vs := [Value.int .i64 k, Value.int .i64 t, Value.int .i64 f, Value.int .i64 l, Value.slice (some ⟨gk, 0, none⟩) m ck]) rfl (by simp []) (by simp [Value.oneCell']) (i := 1) (ent := ⟨g2, 27, [Value.int .i64 0, Value.int .i64 0, Value.int .i64 0, Value.int .i64 0, Value.slice none 0 0], 5⟩) rfl rfl (by simp []) (H' := [⟨gk, 5, B.map (Value.int .u8), ck⟩, ⟨g2, 27, [Value.int .i64 k, Value.int .i64 t, Value.int .i64 f, Value.int .i64 l, Value.slice (some ⟨gk, 0, none⟩) m ck], 5⟩, ⟨g1, 27, [Value.int .i64 k, Value.int .i64 t, Value.int .i64 f, Value.int .i64 l, Value.slice (some ⟨gk, 0, none⟩) m ck], 5⟩]) rfl ?_
  refine TL.nil ?_
  refine TE.then ?_
  refine TC.ret ?_
  exact TE.retC rfl agg27 size27 rfl (vs := [Value.int .i64 k, Value.int .i64 t, Value.int .i64 f, Value.int .i64 l, Value.slice (some ⟨gk, 0, none⟩) m ck]) rfl (Row.all (i := 1) (ent := ⟨g2, 27, [Value.int .i64 k, Value.int .i64 t, Value.int .i64 f, Value.int .i64 l, Value.slice (some ⟨gk, 0, none⟩) m ck], 5⟩) rfl rfl rfl) (fun w hs => ⟨gk, ck, rfl, hEk, hck, by unfold maxLen; omega, ((hs.erase (i := 2) rfl (by assumption)).erase (i := 1) rfl (by assumption))⟩)

set_option maxRecDepth 100000 in
set_option maxHeartbeats 400000 in
theorem grow_c (n : Nat) (h0 : 0 < n) (hn : n ≤ 140737488355328) (w : World) : Calls Try.prog 38 #[.slice none 0 0, .int .i64 (n : Int)] w fun e w' => ∃ g c', e = .returned (.slice (some ⟨g, 0, none⟩) 0 c') ∧ w.heap.size ≤ g ∧ 0 ≤ c' ∧ c' ≤ maxLen ∧ St w [⟨g, 5, [], c'⟩] w' := by
  refine calls_from (args := [.slice none 0 0, .int .i64 (n : Int)]) Try.func38 rfl Try.ntmps38 (by simp) ?_
  refine TC.sub (Sub.cons (i := 0) rfl (Sub.cons (i := 1) rfl (Sub.nil))) ?_
  refine TC.seq ?_
  refine TC.regionL ?_
  refine TL.gets (Wants.none rfl) rfl (Gets.assign rfl rfl) ?_
  refine TL.nil ?_
  refine TE.then ?_
  refine TC.seq ?_
  refine TC.seq ?_
  refine TC.regionL ?_
  refine TL.gets (Wants.none rfl) rfl (Gets.move rfl rfl) ?_
  refine TL.gets (Wants.none rfl) rfl (Gets.lss rfl rfl rfl) ?_
  refine TL.nil ?_
  refine TE.then ?_
  refine TC.split rfl (fun hq0 => ?_) (fun hq0 => ?_)
  · exfalso; omega
  · refine TC.skip ?_
    refine TE.then ?_
    refine TC.seq ?_
    refine TC.seq ?_
    refine TC.regionL ?_
    refine TL.gets (Wants.none rfl) rfl (Gets.move rfl rfl) ?_
    refine TL.gets (Wants.none rfl) rfl (Gets.move rfl rfl) ?_
    refine TL.gets (Wants.none rfl) rfl (Gets.capSlice rfl Try.underlying25 rfl) ?_
    refine TL.gets (Wants.none rfl) rfl (Gets.move rfl rfl) ?_
    refine TL.gets (Wants.none rfl) rfl (Gets.lenSlice rfl Try.underlying25 rfl) ?_
    refine TL.gets (Wants.none rfl) rfl (Gets.sub rfl rfl rfl (r := 0) (w64 (by omega) (by omega))) ?_
    refine TL.gets (Wants.none rfl) rfl (Gets.sub rfl rfl rfl (r := (n : Int)) (w64 (by omega) (by omega))) ?_
    refine TL.gets (Wants.none rfl) rfl (Gets.assign rfl rfl) ?_
    refine TL.nil ?_
    refine TE.then ?_
    refine TC.sub (Sub.cons (i := 0) rfl (Sub.cons (i := 1) rfl (Sub.cons (i := 4) rfl (Sub.nil)))) ?_
    refine TC.seq ?_
    refine TC.regionL ?_
    refine TL.gets (Wants.none rfl) rfl (Gets.move rfl rfl) ?_
    refine TL.gets (Wants.none rfl) rfl (Gets.gtr rfl rfl rfl) ?_
    refine TL.nil ?_
    refine TE.then ?_
    refine TC.split rfl (fun hq1 => ?_) (fun hq1 => ?_)
    · refine TC.regionL ?_
      refine TL.gets (Wants.none rfl) rfl (Gets.move rfl rfl) ?_
      refine TL.gets (Wants.none rfl) rfl (Gets.move rfl rfl) ?_
      refine TL.gets (Wants.none rfl) rfl (Gets.capSlice rfl Try.underlying25 rfl) ?_
      refine TL.gets (Wants.none rfl) rfl (Gets.sliceS rfl Try.underlying25 size5 rfl bnd.dflt (bnd.at_ (l := 0) rfl rfl) (by omega) (by omega) (cutA_zero _ _ _) (ln := 0) (cp := 0) (by omega) (by omega)) ?_
      refine TL.gets (Wants.none rfl) rfl (Gets.move rfl rfl) ?_
      refine TL.growNil (nn := n) (Wants.none rfl) rfl rfl Try.underlying25 Try.underlying3 mk5 rfl rfl rfl (by omega) (by omega) (by omega) (fun gr cr hgr hcr hmr => ?_)
      refine TL.gets (Wants.none rfl) rfl (Gets.move rfl rfl) ?_
      refine TL.gets (Wants.none rfl) rfl (Gets.lenSlice rfl Try.underlying25 rfl) ?_
      refine TL.gets (Wants.none rfl) rfl (Gets.sliceS rfl Try.underlying25 size5 rfl bnd.dflt (bnd.at_ (l := 0) rfl rfl) (by omega) (by omega) (cutA_zero _ _ _) (ln := 0) (cp := cr) (by omega) (by omega)) ?_
      refine TL.gets (Wants.none rfl) rfl (Gets.assign rfl rfl) ?_
      refine TL.nil ?_
      refine TE.then ?_
      refine TC.sub (Sub.cons (i := 0) rfl (Sub.cons (i := 4) rfl (Sub.nil))) ?_
      refine TC.seq ?_
      refine TC.regionL ?_
      refine TL.gets (Wants.none rfl) rfl (Gets.move rfl rfl) ?_
      refine TL.gets (Wants.none rfl) rfl (Gets.assign rfl rfl) ?_
      refine TL.nil ?_
      refine TE.then ?_
      refine TC.ret ?_
      exact TE.ret1 rfl rfl (fun w hs => ⟨gr, cr, rfl, hgr, by omega, hmr, hs⟩)
    · exfalso; omega

set_option maxRecDepth 100000 in
set_option maxHeartbeats 400000 in
theorem grow_0 (w : World) : Calls Try.prog 38 #[.slice none 0 0, .int .i64 0] w fun e w' => e = .returned (.slice none 0 0) ∧ St w [] w' := by
  refine calls_from (args := [.slice none 0 0, .int .i64 0]) Try.func38 rfl Try.ntmps38 (by simp) ?_
  refine TC.sub (Sub.cons (i := 0) rfl (Sub.cons (i := 1) rfl (Sub.nil))) ?_
  refine TC.seq ?_
  refine TC.regionL ?_
  refine TL.gets (Wants.none rfl) rfl (Gets.assign rfl rfl) ?_
  refine TL.nil ?_
  refine TE.then ?_
  refine TC.seq ?_
  refine TC.seq ?_
  refine TC.regionL ?_
  refine TL.gets (Wants.none rfl) rfl (Gets.move rfl rfl) ?_
  refine TL.gets (Wants.none rfl) rfl (Gets.lss rfl rfl rfl) ?_
  refine TL.nil ?_
  refine TE.then ?_
  refine TC.split rfl (fun hq0 => ?_) (fun hq0 => ?_)
  · exfalso; omega
  · refine TC.skip ?_
    refine TE.then ?_
    refine TC.seq ?_
    refine TC.seq ?_
    refine TC.regionL ?_
    refine TL.gets (Wants.none rfl) rfl (Gets.move rfl rfl) ?_
    refine TL.gets (Wants.none rfl) rfl (Gets.move rfl rfl) ?_
    refine TL.gets (Wants.none rfl) rfl (Gets.capSlice rfl Try.underlying25 rfl) ?_
    refine TL.gets (Wants.none rfl) rfl (Gets.move rfl rfl) ?_
    refine TL.gets (Wants.none rfl) rfl (Gets.lenSlice rfl Try.underlying25 rfl) ?_
    refine TL.gets (Wants.none rfl) rfl (Gets.sub rfl rfl rfl (r := 0) (w64 (by omega) (by omega))) ?_
    refine TL.gets (Wants.none rfl) rfl (Gets.sub rfl rfl rfl (r := 0) (w64 (by omega) (by omega))) ?_
    refine TL.gets (Wants.none rfl) rfl (Gets.assign rfl rfl) ?_
    refine TL.nil ?_
    refine TE.then ?_
    refine TC.sub (Sub.cons (i := 0) rfl (Sub.cons (i := 1) rfl (Sub.cons (i := 4) rfl (Sub.nil)))) ?_
    refine TC.seq ?_
    refine TC.regionL ?_
    refine TL.gets (Wants.none rfl) rfl (Gets.move rfl rfl) ?_
    refine TL.gets (Wants.none rfl) rfl (Gets.gtr rfl rfl rfl) ?_
    refine TL.nil ?_
    refine TE.then ?_
    refine TC.split rfl (fun hq1 => ?_) (fun hq1 => ?_)
    · exfalso; omega
    · refine TC.skip ?_
      refine TE.then ?_
      refine TC.seq ?_
      refine TC.regionL ?_
      refine TL.gets (Wants.none rfl) rfl (Gets.move rfl rfl) ?_
      refine TL.gets (Wants.none rfl) rfl (Gets.assign rfl rfl) ?_
      refine TL.nil ?_
      refine TE.then ?_
      refine TC.ret ?_
      exact TE.ret1 rfl rfl (fun w hs => ⟨rfl, hs⟩)


structure WP where
  k : Nat
  v : Value
  He : List Ent
def totN (Ps : List (List Int)) (i : Nat) : Nat := (Ps.take i).flatten.length
theorem totN_succ {Ps : List (List Int)} {i : Nat} (h : i < Ps.length) : totN Ps (i + 1) = totN Ps i + (Ps.getD i []).length := by
  unfold totN
  have hf := flat_succ (i := i) (Ps := Ps) h []
  simp only [List.nil_append] at hf
  rw [hf, List.length_append]
theorem totN_le (Ps : List (List Int)) (i : Nat) : totN Ps i ≤ Ps.flatten.length := by
  unfold totN
  have := congrArg (fun l => (List.flatten l).length) (List.take_append_drop i Ps)
  simp only [List.flatten_append, List.length_append] at this
  omega
theorem totN_all {Ps : List (List Int)} {m : Nat} (h : Ps.length ≤ m) : totN Ps m = Ps.flatten.length := by
  unfold totN; rw [List.take_of_length_le h]
theorem totN_0 (Ps : List (List Int)) : totN Ps 0 = 0 := rfl

set_option maxRecDepth 100000 in
set_option maxHeartbeats 1000000 in
theorem concat_s (Ps : List (List Int)) (A : Option Addr) (m c : Nat) (w : World) (hP : PartsO w A m Ps) (hmc : m ≤ c) (hcm : c ≤ 9223372036854775807) (hS : 0 < Ps.flatten.length) (hT : Ps.flatten.length ≤ 140737488355328) : Calls Try.prog 26 #[.slice A m c] w fun e w' => ∃ v He, e = .returned v ∧ Own w.heap.size 5 .u8 v Ps.flatten He ∧ St w He w' := by
  refine calls_from (args := [.slice A m c]) Try.func26 rfl Try.ntmps26 (by simp) ?_
  refine TC.sub (Sub.cons (i := 0) rfl (Sub.nil)) ?_
  refine TC.seq ?_
  refine TC.regionL ?_
  refine TL.gets (Wants.none rfl) rfl (Gets.assign rfl rfl) ?_
  refine TL.nil ?_
  refine TE.then ?_
  refine TC.seq ?_
  refine TC.regionL ?_
  refine TL.gets (Wants.none rfl) rfl (Gets.assign rfl rfl) ?_
  refine TL.nil ?_
  refine TE.then ?_
  refine TC.seq ?_
  refine TC.seq ?_
  refine TC.regionL ?_
  refine TL.gets (Wants.none rfl) rfl (Gets.move rfl rfl) ?_
  refine TL.gets (Wants.none rfl) rfl (Gets.lenSlice rfl Try.underlying23 rfl) ?_
  refine TL.gets (Wants.none rfl) rfl (Gets.move rfl rfl) ?_
  refine TL.nil ?_
  refine TE.then ?_
  refine TC.block ?_
  refine TC.loop (ι := Nat) (fun i => [(0, .slice A m c), (3, .int .i64 (totN Ps i : Int)), (9, .slice A m c), (10, .int .i64 (m : Int)), (11, .int .i64 (i : Int))]) (fun i => []) (fun i => m - i) (fun i => i ≤ m) 0 (Nat.zero_le _) (Sub.slice (i := 0) rfl rfl (by first | omega | (dsimp only; omega) | rfl) (by first | omega | (dsimp only; omega) | rfl) (Sub.int (i := 3) rfl (by rw [totN_0]; rfl) (Sub.slice (i := 9) rfl rfl (by first | omega | (dsimp only; omega) | rfl) (by first | omega | (dsimp only; omega) | rfl) (Sub.int (i := 10) rfl (by first | omega | rfl) (Sub.int (i := 11) rfl (by first | omega | rfl) (Sub.nil)))))) (fun w h => h) (fun i hC0 => ?_)
  refine TC.seq ?_
  refine TC.regionL ?_
  refine TL.gets (Wants.none rfl) rfl (Gets.lss rfl rfl rfl) ?_
  refine TL.nil ?_
  refine TE.then ?_
  refine TC.seq ?_
  refine TC.split rfl (fun hq0 => ?_) (fun hq0 => ?_)
  · obtain ⟨b, off, hE, hb, hcells⟩ := hP.2.resolve_left (by omega)
    subst hE
    obtain ⟨Ai, mi, ci, hci, hSi, hmi⟩ := hcells i (by omega)
    have hoff : off + i = (off + i) := rfl
    have hPl := hP.1
    have hSl := hSi.1
    have htl := totN_succ (Ps := Ps) (i := i) (by omega)
    have htm := totN_le Ps (i + 1)
    refine TC.skip ?_
    refine TE.then ?_
    refine TC.seq ?_
    refine TC.block ?_
    refine TC.seq ?_
    refine TC.regionL ?_
    refine TL.gets (Wants.none rfl) rfl (Gets.idxSlice rfl Try.underlying23 size25 rfl rfl (i := i) (by omega) (by omega) (off' := (off + i)) (by omega)) ?_
    refine TL.gets (Wants.none rfl) rfl (Gets.load1 rfl agg25 rfl (At.old (hoff ▸ hci) hb ne_nil)) ?_
    refine TL.gets (Wants.none rfl) rfl (Gets.assign rfl rfl) ?_
    refine TL.nil ?_
    refine TE.then ?_
    refine TC.sub (Sub.cons (i := 0) rfl (Sub.cons (i := 3) rfl (Sub.cons (i := 5) rfl (Sub.cons (i := 9) rfl (Sub.cons (i := 10) rfl (Sub.cons (i := 11) rfl (Sub.nil))))))) ?_
    refine TC.seq ?_
    refine TC.regionL ?_
    refine TL.gets (Wants.none rfl) rfl (Gets.move rfl rfl) ?_
    refine TL.gets (Wants.none rfl) rfl (Gets.move rfl rfl) ?_
    refine TL.gets (Wants.none rfl) rfl (Gets.lenSlice rfl Try.underlying25 rfl) ?_
    refine TL.gets (Wants.none rfl) rfl (Gets.add rfl rfl rfl (r := ((totN Ps i : Int) + (mi : Int))) (w64 (by omega) (by omega))) ?_
    refine TL.gets (Wants.none rfl) rfl (Gets.assign rfl rfl) ?_
    refine TL.nil ?_
    refine TE.then ?_
    refine TC.sub (Sub.cons (i := 0) rfl (Sub.cons (i := 3) rfl (Sub.cons (i := 9) rfl (Sub.cons (i := 10) rfl (Sub.cons (i := 11) rfl (Sub.nil)))))) ?_
    refine TC.seq ?_
    refine TC.regionL ?_
    refine TL.gets (Wants.none rfl) rfl (Gets.move rfl rfl) ?_
    refine TL.gets (Wants.none rfl) rfl (Gets.lss rfl rfl rfl) ?_
    refine TL.nil ?_
    refine TE.then ?_
    refine TC.split rfl (fun hq1 => ?_) (fun hq1 => ?_)
    · exfalso; omega
    · refine TC.skip ?_
      refine TE.blockN ?_
      refine TE.then ?_
      refine TC.regionL ?_
      refine TL.gets (Wants.none rfl) rfl (Gets.add rfl rfl rfl (r := ((i : Int) + 1)) (w64 (by omega) (by omega))) ?_
      refine TL.gets (Wants.none rfl) rfl (Gets.move rfl rfl) ?_
      refine TL.nil ?_
      exact TE.back (i + 1) (by omega) (by omega) (Sub.slice (i := 0) rfl rfl (by first | omega | (dsimp only; omega) | rfl) (by first | omega | (dsimp only; omega) | rfl) (Sub.int (i := 3) rfl (by first | omega | rfl) (Sub.slice (i := 9) rfl (by first | rfl | (congr 2; omega)) (by first | omega | (dsimp only; omega) | rfl) (by first | omega | (dsimp only; omega) | rfl) (Sub.int (i := 10) rfl (by first | omega | rfl) (Sub.int (i := 11) rfl (by first | omega | rfl) (Sub.nil)))))) (fun w h => h)
  · have hall := totN_all (Ps := Ps) (m := m) (by have := hP.1; omega)
    obtain rfl : m = i := by omega
    refine TC.exit ?_
    refine TE.thenX ?_
    refine TE.thenX ?_
    refine TE.blockX ?_
    refine TE.then ?_
    refine TC.seq ?_
    refine TC.regionL ?_
    refine TL.gets (Wants.none rfl) rfl (Gets.move rfl rfl) ?_
    refine TL.call (ι := Nat × Nat) (V := fun yg => .slice (some ⟨yg.1, 0, none⟩) 0 yg.2) (R := fun yg => (yg.2 ≤ maxLen) ∧ w.heap.size ≤ (⟨yg.1, 5, [], yg.2⟩ : Ent).g) (H' := fun yg => [⟨yg.1, 5, [], yg.2⟩]) (Wants.none rfl) rfl enters38 rfl rfl (fun w hs => (show Calls Try.prog 38 #[.slice none 0 0, .int .i64 (totN Ps m : Int)] w (fun e w' => ∃ yg : Nat × Nat, e = .returned (.slice (some ⟨yg.1, 0, none⟩) 0 yg.2) ∧ (yg.2 ≤ maxLen) ∧ w.heap.size ≤ (⟨yg.1, 5, [], yg.2⟩ : Ent).g ∧ St w [⟨yg.1, 5, [], yg.2⟩] w') from (grow_c ((totN Ps m)) (by omega) (by omega) w).mono fun e w' ⟨gv, cv, he, hgv, hcv, hmv, hw⟩ => ⟨(gv, cv), he, hmv, hgv, hw⟩).mono fun e w' ⟨x, he, hR, hE, hw⟩ => ⟨x, he, ⟨hR, Nat.le_trans hs.size hE⟩, hs.made hw hE⟩) (fun yg ⟨hRg, hEg⟩ => ?_)
    obtain ⟨gg, cg⟩ := yg
    dsimp only at hRg hEg ⊢
    refine TL.gets (Wants.none rfl) rfl (Gets.assign rfl rfl) ?_
    refine TL.nil ?_
    refine TE.then ?_
    refine TC.sub (Sub.cons (i := 0) rfl (Sub.cons (i := 6) rfl (Sub.nil))) ?_
    refine TC.seq ?_
    refine TC.seq ?_
    refine TC.regionL ?_
    refine TL.gets (Wants.none rfl) rfl (Gets.move rfl rfl) ?_
    refine TL.gets (Wants.none rfl) rfl (Gets.lenSlice rfl Try.underlying23 rfl) ?_
    refine TL.gets (Wants.none rfl) rfl (Gets.move rfl rfl) ?_
    refine TL.nil ?_
    refine TE.then ?_
    refine TC.block ?_
    refine TC.loop (ι := WP) (fun x => [(6, x.v), (25, .slice A m c), (26, .int .i64 (m : Int)), (27, .int .i64 (x.k : Int))]) (fun x => [] ++ x.He) (fun x => m - x.k) (fun x => Own w.heap.size 5 .u8 x.v (Ps.take x.k).flatten x.He ∧ x.k ≤ m) (⟨0, .slice (some ⟨gg, 0, none⟩) 0 cg, [⟨gg, 5, [], cg⟩]⟩ : WP) ⟨.inr ⟨gg, cg, rfl, rfl, hEg, Nat.zero_le _, hRg⟩, Nat.zero_le _⟩ (Sub.cons (i := 6) rfl (Sub.slice (i := 25) rfl rfl (by first | omega | (dsimp only; omega) | rfl) (by first | omega | (dsimp only; omega) | rfl) (Sub.int (i := 26) rfl (by first | omega | rfl) (Sub.int (i := 27) rfl (by first | omega | rfl) (Sub.nil))))) (fun w h => h) (fun x hC1 => ?_)
    obtain ⟨k, v, He⟩ := x
    obtain ⟨hown, hC2⟩ := hC1
    dsimp only at hown hC2 ⊢
    have hPl := hP.1
    refine TC.seq ?_
    refine TC.regionL ?_
    refine TL.gets (Wants.none rfl) rfl (Gets.lss rfl rfl rfl) ?_
    refine TL.nil ?_
    refine TE.then ?_
    refine TC.seq ?_
    refine TC.split rfl (fun hq2 => ?_) (fun hq2 => ?_)
    · obtain ⟨b, off, hE, hb, hcells⟩ := hP.2.resolve_left (by omega)
      subst hE
      obtain ⟨Ai, mi, ci, hci, hSi, hmi⟩ := hcells k (by omega)
      have hoff : off + k = (off + k) := rfl
      have hPl := hP.1
      have hSl := hSi.1
      have htl := totN_succ (Ps := Ps) (i := k) (by omega)
      have htm := totN_le Ps (k + 1)
      refine TC.skip ?_
      refine TE.then ?_
      refine TC.seq ?_
      refine TC.block ?_
      refine TC.seq ?_
      refine TC.regionL ?_
      refine TL.gets (Wants.none rfl) rfl (Gets.idxSlice rfl Try.underlying23 size25 rfl rfl (i := k) (by omega) (by omega) (off' := (off + k)) (by omega)) ?_
      refine TL.gets (Wants.none rfl) rfl (Gets.load1 rfl agg25 rfl (At.old (hoff ▸ hci) hb (ne_app ne_nil (hown.ne hb)))) ?_
      refine TL.gets (Wants.none rfl) rfl (Gets.assign rfl rfl) ?_
      refine TL.nil ?_
      refine TE.then ?_
      refine TC.regionL ?_
      refine TL.gets (Wants.none rfl) rfl (Gets.move rfl rfl) ?_
      refine TL.gets (Wants.none rfl) rfl (Gets.move rfl rfl) ?_
      have hlt : (Ps.take k).flatten.length = totN Ps k := rfl
      refine TL.appendOwn (H := []) (Wants.none rfl) rfl rfl Try.underlying25 mk5 rfl rfl rfl (W := (Ps.take k).flatten) (B := Ps.getD k []) hown (fun w hs => hSi.at_ hs (fun b hb => ne_app ne_nil (hown.ne hb))) (by omega) (by omega) (fun vo Ho ho hne => ?_)
      refine TL.gets (Wants.none rfl) rfl (Gets.assign rfl rfl) ?_
      refine TL.nil ?_
      refine TE.blockN ?_
      refine TE.then ?_
      refine TC.sub (Sub.cons (i := 6) rfl (Sub.cons (i := 25) rfl (Sub.cons (i := 26) rfl (Sub.cons (i := 27) rfl (Sub.nil))))) ?_
      refine TC.regionL ?_
      refine TL.gets (Wants.none rfl) rfl (Gets.add rfl rfl rfl (r := ((k : Int) + 1)) (w64 (by omega) (by omega))) ?_
      refine TL.gets (Wants.none rfl) rfl (Gets.move rfl rfl) ?_
      refine TL.nil ?_
      exact TE.back (⟨k + 1, vo, Ho⟩ : WP) (by show m - (k + 1) < m - k; omega) ⟨by show Own _ _ _ vo (Ps.take (k + 1)).flatten Ho; have := flat_succ (i := k) (Ps := Ps) (by omega) []; simp only [List.nil_append] at this; rw [this]; exact ho, by show k + 1 ≤ m; omega⟩ (Sub.cons (i := 6) rfl (Sub.slice (i := 25) rfl (by first | rfl | (congr 2; omega)) (by first | omega | (dsimp only; omega) | rfl) (by first | omega | (dsimp only; omega) | rfl) (Sub.int (i := 26) rfl (by first | omega | rfl) (Sub.int (i := 27) rfl (by first | omega | rfl) (Sub.nil))))) (fun w h => h)
    · have htk : Ps.take k = Ps := List.take_of_length_le (by omega)
      rw [htk] at hown
      refine TC.exit ?_
      refine TE.thenX ?_
      refine TE.thenX ?_
      refine TE.blockX ?_
      refine TE.then ?_
      refine TC.seq ?_
      refine TC.regionL ?_
      refine TL.gets (Wants.none rfl) rfl (Gets.move rfl rfl) ?_
      refine TL.gets (Wants.none rfl) rfl (Gets.assign rfl rfl) ?_
      refine TL.nil ?_
      refine TE.then ?_
      refine TC.ret ?_
      exact TE.ret1 rfl rfl (fun w hs => ⟨_, _, rfl, hown, hs⟩)

set_option maxRecDepth 100000 in
set_option maxHeartbeats 1000000 in
theorem concat_0 (Ps : List (List Int)) (A : Option Addr) (m c : Nat) (w : World) (hP : PartsO w A m Ps) (hmc : m ≤ c) (hcm : c ≤ 9223372036854775807) (hS : Ps.flatten.length = 0) (hT : Ps.flatten.length ≤ 140737488355328) : Calls Try.prog 26 #[.slice A m c] w fun e w' => ∃ v He, e = .returned v ∧ Own w.heap.size 5 .u8 v Ps.flatten He ∧ St w He w' := by
  refine calls_from (args := [.slice A m c]) Try.func26 rfl Try.ntmps26 (by simp) ?_
  refine TC.sub (Sub.cons (i := 0) rfl (Sub.nil)) ?_
  refine TC.seq ?_
  refine TC.regionL ?_
  refine TL.gets (Wants.none rfl) rfl (Gets.assign rfl rfl) ?_
  refine TL.nil ?_
  refine TE.then ?_
  refine TC.seq ?_
  refine TC.regionL ?_
  refine TL.gets (Wants.none rfl) rfl (Gets.assign rfl rfl) ?_
  refine TL.nil ?_
  refine TE.then ?_
  refine TC.seq ?_
  refine TC.seq ?_
  refine TC.regionL ?_
  refine TL.gets (Wants.none rfl) rfl (Gets.move rfl rfl) ?_
  refine TL.gets (Wants.none rfl) rfl (Gets.lenSlice rfl Try.underlying23 rfl) ?_
  refine TL.gets (Wants.none rfl) rfl (Gets.move rfl rfl) ?_
  refine TL.nil ?_
  refine TE.then ?_
  refine TC.block ?_
  refine TC.loop (ι := Nat) (fun i => [(0, .slice A m c), (3, .int .i64 (totN Ps i : Int)), (9, .slice A m c), (10, .int .i64 (m : Int)), (11, .int .i64 (i : Int))]) (fun i => []) (fun i => m - i) (fun i => i ≤ m) 0 (Nat.zero_le _) (Sub.slice (i := 0) rfl rfl (by first | omega | (dsimp only; omega) | rfl) (by first | omega | (dsimp only; omega) | rfl) (Sub.int (i := 3) rfl (by rw [totN_0]; rfl) (Sub.slice (i := 9) rfl rfl (by first | omega | (dsimp only; omega) | rfl) (by first | omega | (dsimp only; omega) | rfl) (Sub.int (i := 10) rfl (by first | omega | rfl) (Sub.int (i := 11) rfl (by first | omega | rfl) (Sub.nil)))))) (fun w h => h) (fun i hC0 => ?_)
  refine TC.seq ?_
  refine TC.regionL ?_
  refine TL.gets (Wants.none rfl) rfl (Gets.lss rfl rfl rfl) ?_
  refine TL.nil ?_
  refine TE.then ?_
  refine TC.seq ?_
  refine TC.split rfl (fun hq0 => ?_) (fun hq0 => ?_)
  · obtain ⟨b, off, hE, hb, hcells⟩ := hP.2.resolve_left (by omega)
    subst hE
    obtain ⟨Ai, mi, ci, hci, hSi, hmi⟩ := hcells i (by omega)
    have hoff : off + i = (off + i) := rfl
    have hPl := hP.1
    have hSl := hSi.1
    have htl := totN_succ (Ps := Ps) (i := i) (by omega)
    have htm := totN_le Ps (i + 1)
    refine TC.skip ?_
    refine TE.then ?_
    refine TC.seq ?_
    refine TC.block ?_
    refine TC.seq ?_
    refine TC.regionL ?_
    refine TL.gets (Wants.none rfl) rfl (Gets.idxSlice rfl Try.underlying23 size25 rfl rfl (i := i) (by omega) (by omega) (off' := (off + i)) (by omega)) ?_
    refine TL.gets (Wants.none rfl) rfl (Gets.load1 rfl agg25 rfl (At.old (hoff ▸ hci) hb ne_nil)) ?_
    refine TL.gets (Wants.none rfl) rfl (Gets.assign rfl rfl) ?_
    refine TL.nil ?_
    refine TE.then ?_
    refine TC.sub (Sub.cons (i := 0) rfl (Sub.cons (i := 3) rfl (Sub.cons (i := 5) rfl (Sub.cons (i := 9) rfl (Sub.cons (i := 10) rfl (Sub.cons (i := 11) rfl (Sub.nil))))))) ?_
    refine TC.seq ?_
    refine TC.regionL ?_
    refine TL.gets (Wants.none rfl) rfl (Gets.move rfl rfl) ?_
    refine TL.gets (Wants.none rfl) rfl (Gets.move rfl rfl) ?_
    refine TL.gets (Wants.none rfl) rfl (Gets.lenSlice rfl Try.underlying25 rfl) ?_
    refine TL.gets (Wants.none rfl) rfl (Gets.add rfl rfl rfl (r := ((totN Ps i : Int) + (mi : Int))) (w64 (by omega) (by omega))) ?_
    refine TL.gets (Wants.none rfl) rfl (Gets.assign rfl rfl) ?_
    refine TL.nil ?_
    refine TE.then ?_
    refine TC.sub (Sub.cons (i := 0) rfl (Sub.cons (i := 3) rfl (Sub.cons (i := 9) rfl (Sub.cons (i := 10) rfl (Sub.cons (i := 11) rfl (Sub.nil)))))) ?_
    refine TC.seq ?_
    refine TC.regionL ?_
    refine TL.gets (Wants.none rfl) rfl (Gets.move rfl rfl) ?_
    refine TL.gets (Wants.none rfl) rfl (Gets.lss rfl rfl rfl) ?_
    refine TL.nil ?_
    refine TE.then ?_
    refine TC.split rfl (fun hq1 => ?_) (fun hq1 => ?_)
    · exfalso; omega
    · refine TC.skip ?_
      refine TE.blockN ?_
      refine TE.then ?_
      refine TC.regionL ?_
      refine TL.gets (Wants.none rfl) rfl (Gets.add rfl rfl rfl (r := ((i : Int) + 1)) (w64 (by omega) (by omega))) ?_
      refine TL.gets (Wants.none rfl) rfl (Gets.move rfl rfl) ?_
      refine TL.nil ?_
      exact TE.back (i + 1) (by omega) (by omega) (Sub.slice (i := 0) rfl rfl (by first | omega | (dsimp only; omega) | rfl) (by first | omega | (dsimp only; omega) | rfl) (Sub.int (i := 3) rfl (by first | omega | rfl) (Sub.slice (i := 9) rfl (by first | rfl | (congr 2; omega)) (by first | omega | (dsimp only; omega) | rfl) (by first | omega | (dsimp only; omega) | rfl) (Sub.int (i := 10) rfl (by first | omega | rfl) (Sub.int (i := 11) rfl (by first | omega | rfl) (Sub.nil)))))) (fun w h => h)
  · have hall := totN_all (Ps := Ps) (m := m) (by have := hP.1; omega)
    obtain rfl : m = i := by omega
    refine TC.exit ?_
    refine TE.thenX ?_
    refine TE.thenX ?_
    refine TE.blockX ?_
    refine TE.then ?_
    refine TC.seq ?_
    refine TC.regionL ?_
    refine TL.gets (Wants.none rfl) rfl (Gets.move rfl rfl) ?_
    refine TL.call0 (Wants.none rfl) rfl enters38 rfl rfl (v := .slice none 0 0) (fun w hs => by have h := grow_0 w; rw [show (0 : Int) = ((totN Ps m : Nat) : Int) by omega] at h; exact h) ?_
    refine TL.gets (Wants.none rfl) rfl (Gets.assign rfl rfl) ?_
    refine TL.nil ?_
    refine TE.then ?_
    refine TC.sub (Sub.cons (i := 0) rfl (Sub.cons (i := 6) rfl (Sub.nil))) ?_
    refine TC.seq ?_
    refine TC.seq ?_
    refine TC.regionL ?_
    refine TL.gets (Wants.none rfl) rfl (Gets.move rfl rfl) ?_
    refine TL.gets (Wants.none rfl) rfl (Gets.lenSlice rfl Try.underlying23 rfl) ?_
    refine TL.gets (Wants.none rfl) rfl (Gets.move rfl rfl) ?_
    refine TL.nil ?_
    refine TE.then ?_
    refine TC.block ?_
    refine TC.loop (ι := WP) (fun x => [(6, x.v), (25, .slice A m c), (26, .int .i64 (m : Int)), (27, .int .i64 (x.k : Int))]) (fun x => [] ++ x.He) (fun x => m - x.k) (fun x => Own w.heap.size 5 .u8 x.v (Ps.take x.k).flatten x.He ∧ x.k ≤ m) (⟨0, .slice none 0 0, []⟩ : WP) ⟨Own.nil _ _ _, Nat.zero_le _⟩ (Sub.cons (i := 6) rfl (Sub.slice (i := 25) rfl rfl (by first | omega | (dsimp only; omega) | rfl) (by first | omega | (dsimp only; omega) | rfl) (Sub.int (i := 26) rfl (by first | omega | rfl) (Sub.int (i := 27) rfl (by first | omega | rfl) (Sub.nil))))) (fun w h => h) (fun x hC1 => ?_)
    obtain ⟨k, v, He⟩ := x
    obtain ⟨hown, hC2⟩ := hC1
    dsimp only at hown hC2 ⊢
    have hPl := hP.1
    refine TC.seq ?_
    refine TC.regionL ?_
    refine TL.gets (Wants.none rfl) rfl (Gets.lss rfl rfl rfl) ?_
    refine TL.nil ?_
    refine TE.then ?_
    refine TC.seq ?_
    refine TC.split rfl (fun hq2 => ?_) (fun hq2 => ?_)
    · obtain ⟨b, off, hE, hb, hcells⟩ := hP.2.resolve_left (by omega)
      subst hE
      obtain ⟨Ai, mi, ci, hci, hSi, hmi⟩ := hcells k (by omega)
      have hoff : off + k = (off + k) := rfl
      have hPl := hP.1
      have hSl := hSi.1
      have htl := totN_succ (Ps := Ps) (i := k) (by omega)
      have htm := totN_le Ps (k + 1)
      refine TC.skip ?_
      refine TE.then ?_
      refine TC.seq ?_
      refine TC.block ?_
      refine TC.seq ?_
      refine TC.regionL ?_
      refine TL.gets (Wants.none rfl) rfl (Gets.idxSlice rfl Try.underlying23 size25 rfl rfl (i := k) (by omega) (by omega) (off' := (off + k)) (by omega)) ?_
      refine TL.gets (Wants.none rfl) rfl (Gets.load1 rfl agg25 rfl (At.old (hoff ▸ hci) hb (ne_app ne_nil (hown.ne hb)))) ?_
      refine TL.gets (Wants.none rfl) rfl (Gets.assign rfl rfl) ?_
      refine TL.nil ?_
      refine TE.then ?_
      refine TC.regionL ?_
      refine TL.gets (Wants.none rfl) rfl (Gets.move rfl rfl) ?_
      refine TL.gets (Wants.none rfl) rfl (Gets.move rfl rfl) ?_
      have hlt : (Ps.take k).flatten.length = totN Ps k := rfl
      refine TL.appendOwn (H := []) (Wants.none rfl) rfl rfl Try.underlying25 mk5 rfl rfl rfl (W := (Ps.take k).flatten) (B := Ps.getD k []) hown (fun w hs => hSi.at_ hs (fun b hb => ne_app ne_nil (hown.ne hb))) (by omega) (by omega) (fun vo Ho ho hne => ?_)
      refine TL.gets (Wants.none rfl) rfl (Gets.assign rfl rfl) ?_
      refine TL.nil ?_
      refine TE.blockN ?_
      refine TE.then ?_
      refine TC.sub (Sub.cons (i := 6) rfl (Sub.cons (i := 25) rfl (Sub.cons (i := 26) rfl (Sub.cons (i := 27) rfl (Sub.nil))))) ?_
      refine TC.regionL ?_
      refine TL.gets (Wants.none rfl) rfl (Gets.add rfl rfl rfl (r := ((k : Int) + 1)) (w64 (by omega) (by omega))) ?_
      refine TL.gets (Wants.none rfl) rfl (Gets.move rfl rfl) ?_
      refine TL.nil ?_
      exact TE.back (⟨k + 1, vo, Ho⟩ : WP) (by show m - (k + 1) < m - k; omega) ⟨by show Own _ _ _ vo (Ps.take (k + 1)).flatten Ho; have := flat_succ (i := k) (Ps := Ps) (by omega) []; simp only [List.nil_append] at this; rw [this]; exact ho, by show k + 1 ≤ m; omega⟩ (Sub.cons (i := 6) rfl (Sub.slice (i := 25) rfl (by first | rfl | (congr 2; omega)) (by first | omega | (dsimp only; omega) | rfl) (by first | omega | (dsimp only; omega) | rfl) (Sub.int (i := 26) rfl (by first | omega | rfl) (Sub.int (i := 27) rfl (by first | omega | rfl) (Sub.nil))))) (fun w h => h)
    · have htk : Ps.take k = Ps := List.take_of_length_le (by omega)
      rw [htk] at hown
      refine TC.exit ?_
      refine TE.thenX ?_
      refine TE.thenX ?_
      refine TE.blockX ?_
      refine TE.then ?_
      refine TC.seq ?_
      refine TC.regionL ?_
      refine TL.gets (Wants.none rfl) rfl (Gets.move rfl rfl) ?_
      refine TL.gets (Wants.none rfl) rfl (Gets.assign rfl rfl) ?_
      refine TL.nil ?_
      refine TE.then ?_
      refine TC.ret ?_
      exact TE.ret1 rfl rfl (fun w hs => ⟨_, _, rfl, hown, hs⟩)


theorem concat_c (Ps : List (List Int)) (A : Option Addr) (m c : Nat) (w : World) (hP : PartsO w A m Ps) (hmc : m ≤ c) (hcm : c ≤ 9223372036854775807) (hT : Ps.flatten.length ≤ 140737488355328) : Calls Try.prog 26 #[.slice A m c] w fun e w' => ∃ v He, e = .returned v ∧ Own w.heap.size 5 .u8 v Ps.flatten He ∧ St w He w' := by
  by_cases h : Ps.flatten.length = 0
  · exact concat_0 Ps A m c w hP hmc hcm h hT
  · exact concat_s Ps A m c w hP hmc hcm (by omega) hT
end Go.Proofs.Ytehnkhgcbcfoeaa
