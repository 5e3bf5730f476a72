/-
  Contracts of package sha: the message by its blocks; New, Len, Clone.
-/
import Derived.Test.YtdcphpmkhekghaaDoorShaB
namespace Go.Proofs.YtdcphpmkhekghaaDoor
set_option linter.unusedVariables false
set_option linter.unusedSimpArgs false
open Go Go.RowKit
theorem agg3 : (isAgg 3).run Tryd.prog = fun w => .ok false w := isAgg_no Tryd.underlying3 rfl
theorem agg49 : (isAgg 49).run Tryd.prog = fun w => .ok true w := isAgg_yes Tryd.underlying49 rfl
theorem agg53 : (isAgg 53).run Tryd.prog = fun w => .ok true w := isAgg_yes Tryd.underlying53 rfl
theorem size3 : (Tryd.prog.info? 3).map (·.size) = some 1 := by kernel_rfl
theorem size49 : (Tryd.prog.info? 49).map (·.size) = some 8 := by kernel_rfl
theorem size53 : (Tryd.prog.info? 53).map (·.size) = some 73 := by kernel_rfl
theorem zero53 : (Tryd.prog.info? 53).bind (·.zero) = some (.agg #[.int .u32 0, .int .u32 0, .int .u32 0, .int .u32 0, .int .u32 0, .int .u32 0, .int .u32 0, .int .u32 0, .int .u8 0, .int .u8 0, .int .u8 0, .int .u8 0, .int .u8 0, .int .u8 0, .int .u8 0, .int .u8 0, .int .u8 0, .int .u8 0, .int .u8 0, .int .u8 0, .int .u8 0, .int .u8 0, .int .u8 0, .int .u8 0, .int .u8 0, .int .u8 0, .int .u8 0, .int .u8 0, .int .u8 0, .int .u8 0, .int .u8 0, .int .u8 0, .int .u8 0, .int .u8 0, .int .u8 0, .int .u8 0, .int .u8 0, .int .u8 0, .int .u8 0, .int .u8 0, .int .u8 0, .int .u8 0, .int .u8 0, .int .u8 0, .int .u8 0, .int .u8 0, .int .u8 0, .int .u8 0, .int .u8 0, .int .u8 0, .int .u8 0, .int .u8 0, .int .u8 0, .int .u8 0, .int .u8 0, .int .u8 0, .int .u8 0, .int .u8 0, .int .u8 0, .int .u8 0, .int .u8 0, .int .u8 0, .int .u8 0, .int .u8 0, .int .u8 0, .int .u8 0, .int .u8 0, .int .u8 0, .int .u8 0, .int .u8 0, .int .u8 0, .int .u8 0, .int .i64 0]) := by kernel_rfl

/-- Block i of a message. -/
def blk (M : List Int) (i : Nat) : List Int := (M.drop (64 * i)).take 64
/-- The state behind the first i blocks. -/
def cmp (M : List Int) : Nat → List Int
  | 0 => IV
  | i + 1 => mixS (cmp M i) (blk M i)
theorem cmp_succ (M : List Int) (i : Nat) : cmp M (i + 1) = mixS (cmp M i) (blk M i) := rfl
theorem cmp_len (M : List Int) : ∀ i, (cmp M i).length = 8
  | 0 => rfl
  | i + 1 => mixS_len (cmp_len M i)
theorem blk_app (M P : List Int) (i : Nat) (h : 64 * i + 64 ≤ M.length) : blk (M ++ P) i = blk M i := by
  unfold blk
  rw [List.drop_append_of_le_length (by omega), List.take_append_of_le_length (by simp; omega)]
theorem cmp_app (M P : List Int) : ∀ i, 64 * i ≤ M.length → cmp (M ++ P) i = cmp M i
  | 0, _ => rfl
  | i + 1, h => by unfold cmp; rw [cmp_app M P i (by omega), blk_app M P i (by omega)]
theorem blk_get (M : List Int) (i j : Nat) (h : j < 64) : (blk M i).getD j 0 = M.getD (64 * i + j) 0 := by
  unfold blk; simp [List.getD_eq_getElem?_getD, List.getElem?_take, h]
theorem app_get1 (M P : List Int) (j : Nat) (h : j < M.length) : (M ++ P).getD j 0 = M.getD j 0 := by
  simp [List.getD_eq_getElem?_getD, List.getElem?_append, h]
theorem app_get2 (M P : List Int) (j : Nat) (h : M.length ≤ j) : (M ++ P).getD j 0 = P.getD (j - M.length) 0 := by
  simp [List.getD_eq_getElem?_getD, List.getElem?_append, show ¬ j < M.length by omega]
theorem drop_get (P : List Int) (q j : Nat) : (P.drop q).getD j 0 = P.getD (q + j) 0 := by simp [List.getD_eq_getElem?_getD]
theorem take_get (P : List Int) (q j : Nat) (h : j < q) : (P.take q).getD j 0 = P.getD j 0 := by simp [List.getD_eq_getElem?_getD, List.getElem?_take, h]
theorem IV_len : IV.length = 8 := rfl
/-- A hash has taken the bytes M. -/
def HashOK (M st rs : List Int) : Prop := st = cmp M (M.length / 64) ∧ rs.length = 64 ∧ ∀ j, j < M.length % 64 → rs.getD j 0 = M.getD (64 * (M.length / 64) + j) 0
theorem HashOK.len {M st rs : List Int} (h : HashOK M st rs) : st.length = 8 := by rw [h.1]; exact cmp_len ..
theorem HashOK.rlen {M st rs : List Int} (h : HashOK M st rs) : rs.length = 64 := h.2.1
theorem hash_nil : HashOK [] IV (List.replicate 64 0) := ⟨rfl, by simp, fun j hj => by simp at hj⟩
/-- The bytes of the last block that is not whole, and more. -/
def splice (rs : List Int) (o : Nat) (X : List Int) : List Int := rs.take o ++ X ++ rs.drop (o + X.length)
theorem splice_len {rs X : List Int} {o : Nat} (h : o + X.length ≤ rs.length) : (splice rs o X).length = rs.length := by unfold splice; simp; omega
theorem splice_get {rs X : List Int} {o j : Nat} (h : o + X.length ≤ rs.length) : (splice rs o X).getD j 0 = if j < o then rs.getD j 0 else if j < o + X.length then X.getD (j - o) 0 else rs.getD j 0 := by
  unfold splice
  have ho : (rs.take o).length = o := by simp; omega
  by_cases h1 : j < o
  · rw [if_pos h1, List.append_assoc, app_get1 _ _ _ (by omega), take_get _ _ _ h1]
  · rw [if_neg h1]
    by_cases h2 : j < o + X.length
    · rw [if_pos h2, app_get1 _ _ _ (by simp; omega), app_get2 _ _ _ (by omega), ho]
    · rw [if_neg h2, app_get2 _ _ _ (by simp; omega), drop_get]
      congr 1
      simp; omega
theorem hash_short {M P st rs : List Int} (h : HashOK M st rs) (hm : M.length % 64 + P.length < 64) : HashOK (M ++ P) st (splice rs (M.length % 64) P) := by
  obtain ⟨h1, h2, h3⟩ := h
  have hd : (M ++ P).length / 64 = M.length / 64 := by simp; omega
  refine ⟨by rw [hd, cmp_app _ _ _ (by omega)]; exact h1, by rw [splice_len (by omega)]; exact h2, fun j hj => ?_⟩
  rw [hd, splice_get (by omega)]
  have hj2 : j < M.length % 64 + P.length := by simp at hj; omega
  by_cases h4 : j < M.length % 64
  · rw [if_pos h4, h3 j h4, app_get1 _ _ _ (by omega)]
  · rw [if_neg h4, if_pos hj2, app_get2 _ _ _ (by omega)]
    congr 1; omega
theorem hash_full {M P st rs : List Int} (h : HashOK M st rs) {c : Nat} (hk : 0 < M.length % 64) (hc : M.length % 64 + c = 64) (hcp : c ≤ P.length) : st = cmp (M ++ P) (M.length / 64) ∧ ∀ j, j < 64 → (splice rs (M.length % 64) (P.take c)).getD j 0 = (blk (M ++ P) (M.length / 64)).getD j 0 := by
  obtain ⟨h1, h2, h3⟩ := h
  have hl : (P.take c).length = c := by simp; omega
  refine ⟨by rw [cmp_app _ _ _ (by omega)]; exact h1, fun j hj => ?_⟩
  rw [blk_get _ _ _ hj, splice_get (by omega), hl]
  by_cases h4 : j < M.length % 64
  · rw [if_pos h4, h3 j h4, app_get1 _ _ _ (by omega)]
  · rw [if_neg h4, if_pos (by omega), app_get2 _ _ _ (by omega), take_get _ _ _ (by omega)]
    congr 1; omega
theorem blk_drop {M P : List Int} {q j : Nat} (hq : (M.length + q) % 64 = 0) (hj : j < 64) : (P.drop q).getD j 0 = (blk (M ++ P) ((M.length + q) / 64)).getD j 0 := by
  rw [blk_get _ _ _ hj, drop_get, app_get2 _ _ _ (by omega)]; congr 1; omega
theorem hash_end {M P rs : List Int} {q : Nat} (hq : (M.length + q) % 64 = 0) (hqm : q ≤ P.length) (hl : P.length - q < 64) (hr : rs.length = 64) : HashOK (M ++ P) (cmp (M ++ P) ((M.length + q) / 64)) (splice rs 0 (P.drop q)) := by
  have hd : (M ++ P).length / 64 = (M.length + q) / 64 := by simp; omega
  have hl2 : (P.drop q).length = P.length - q := by simp
  refine ⟨by rw [hd], by rw [splice_len (by omega)]; exact hr, fun j hj => ?_⟩
  have hj2 : j < P.length - q := by simp at hj; omega
  rw [hd, splice_get (by omega), if_neg (by omega), if_pos (by omega), Nat.sub_zero, drop_get, app_get2 _ _ _ (by omega)]
  congr 1; omega
attribute [irreducible] cmp splice HashOK

theorem rowI_row {w : World} {b off n : Nat} {kd : IntKind} {B : List Int} (hn : B.length = n) (h : RowI w b off n kd B) (j : Nat) (u : Value) (hu : (B.map (Value.int kd))[j]? = some u) : w.cell? ⟨b, off + j, none⟩ = some u := by
  simp only [List.getElem?_map] at hu
  by_cases hj : j < B.length
  · rw [h j (by omega)]; simpa [hj] using hu
  · simp [hj] at hu

set_option maxRecDepth 100000 in
set_option maxHeartbeats 400000 in
theorem new_c (w : World) (h0 : 0 < w.heap.size) (hIV : RowI w 0 0 8 .u32 IV) : Calls Tryd.prog 12 #[] w fun e w' => ∃ g, e = .returned (.pointer (some ⟨g, 0, none⟩)) ∧ w.heap.size ≤ g ∧ St w [⟨g, 53, IV.map (Value.int .u32) ++ ((List.replicate 64 0).map (Value.int .u8) ++ ([Value.int .i64 0])), 73⟩] w' := by
  refine calls_from (args := []) Tryd.func12 rfl Tryd.ntmps12 (by simp) ?_
  refine TC.sub (Sub.nil) ?_
  refine TC.seq ?_
  refine TC.regionL ?_
  refine TL.gets (Wants.none rfl) rfl (Gets.assign rfl rfl) ?_
  refine TL.nil ?_
  refine TE.then ?_
  refine TC.seq ?_
  refine TC.regionL ?_
  refine TL.gets (Wants.none rfl) rfl (Gets.loadN rfl agg49 size49 rfl (vs := IV.map (Value.int .u32)) rfl (Row.old (rowI_row rfl hIV) h0 ne_nil)) ?_
  refine TL.gets (Wants.none rfl) rfl (Gets.build rfl (vs := [(0, .agg (IV.map (Value.int .u32)).toArray)]) rfl (fun w => by kernel_rfl) (v := .agg (IV.map (Value.int .u32) ++ ((List.replicate 64 0).map (Value.int .u8) ++ ([Value.int .i64 0]))).toArray)) ?_
  refine TL.box (Wants.none rfl) rfl rfl rfl (cs := IV.map (Value.int .u32) ++ ((List.replicate 64 0).map (Value.int .u8) ++ ([Value.int .i64 0]))) (by simp [Value.cells]) (tot := 73) (by simp [IV_len]) (fun g1 hg1 => ?_)
  refine TL.gets (Wants.none rfl) rfl (Gets.assign rfl rfl) ?_
  refine TL.nil ?_
  refine TE.then ?_
  refine TC.ret ?_
  exact TE.ret1 rfl rfl (fun w hs => ⟨g1, rfl, hg1, hs⟩)

set_option maxRecDepth 100000 in
set_option maxHeartbeats 400000 in
theorem len_c (st rs : List Int) (n g : Nat) (w : World) (hst : st.length = 8) (hrs : rs.length = 64) (hl : Ent.lies ⟨g, 53, st.map (Value.int .u32) ++ (rs.map (Value.int .u8) ++ ([Value.int .i64 (n : Int)])), 73⟩ w) : Calls Tryd.prog 15 #[.pointer (some ⟨g, 0, none⟩)] w fun e w' => e = .returned (.int .i64 n) ∧ St w [] w' := by
  have hg : g < w.heap.size := hl.lt
  refine calls_from (args := [.pointer (some ⟨g, 0, none⟩)]) Tryd.func15 rfl Tryd.ntmps15 (by simp) ?_
  refine TC.sub (Sub.cons (i := 0) rfl (Sub.nil)) ?_
  refine TC.seq ?_
  refine TC.regionL ?_
  refine TL.gets (Wants.none rfl) rfl (Gets.assign rfl rfl) ?_
  refine TL.nil ?_
  refine TE.then ?_
  refine TC.seq ?_
  refine TC.seq ?_
  refine TC.regionL ?_
  refine TL.gets (Wants.none rfl) rfl (Gets.move rfl rfl) ?_
  refine TL.gets (Wants.none rfl) rfl (Gets.ptrNil rfl Tryd.underlying28 rfl rfl) ?_
  refine TL.nil ?_
  refine TE.then ?_
  refine TC.no rfl ?_
  refine TC.skip ?_
  refine TE.then ?_
  refine TC.seq ?_
  refine TC.regionL ?_
  refine TL.gets (Wants.none rfl) rfl (Gets.move rfl rfl) ?_
  refine TL.gets (Wants.none rfl) rfl (Gets.nilCheck rfl rfl) ?_
  refine TL.gets (Wants.none rfl) rfl (Gets.fieldAddr rfl Tryd.underlying53 rfl size3 rfl (off' := 72) (by first | rfl | omega)) ?_
  refine TL.gets (Wants.none rfl) rfl (Gets.load1 rfl agg3 rfl (At.old (hl.cell (app_right (a := 8) (i := 64) (ints_len hst) (app_right (a := 64) (i := 0) (ints_len hrs) rfl))) hg ne_nil)) ?_
  refine TL.gets (Wants.none rfl) rfl (Gets.assign rfl rfl) ?_
  refine TL.nil ?_
  refine TE.then ?_
  refine TC.ret ?_
  exact TE.ret1 rfl rfl (fun w hs => ⟨rfl, hs⟩)

set_option maxRecDepth 100000 in
set_option maxHeartbeats 400000 in
theorem lenNil_c (w : World) : Calls Tryd.prog 15 #[.pointer none] w fun e w' => e = .returned (.int .i64 0) ∧ St w [] w' := by
  refine calls_from (args := [.pointer none]) Tryd.func15 rfl Tryd.ntmps15 (by simp) ?_
  refine TC.sub (Sub.cons (i := 0) rfl (Sub.nil)) ?_
  refine TC.seq ?_
  refine TC.regionL ?_
  refine TL.gets (Wants.none rfl) rfl (Gets.assign rfl rfl) ?_
  refine TL.nil ?_
  refine TE.then ?_
  refine TC.seq ?_
  refine TC.seq ?_
  refine TC.regionL ?_
  refine TL.gets (Wants.none rfl) rfl (Gets.move rfl rfl) ?_
  refine TL.gets (Wants.none rfl) rfl (Gets.nilNil rfl Tryd.underlying28 rfl rfl) ?_
  refine TL.nil ?_
  refine TE.then ?_
  refine TC.yes rfl ?_
  refine TC.seq ?_
  refine TC.regionL ?_
  refine TL.gets (Wants.none rfl) rfl (Gets.assign rfl rfl) ?_
  refine TL.nil ?_
  refine TE.then ?_
  refine TC.ret ?_
  refine TE.thenR ?_
  exact TE.ret1 rfl rfl (fun w hs => ⟨rfl, hs⟩)

set_option maxRecDepth 100000 in
set_option maxHeartbeats 400000 in
theorem clone_c (st rs : List Int) (n g : Nat) (w : World) (hst : st.length = 8) (hrs : rs.length = 64) (hl : Ent.lies ⟨g, 53, st.map (Value.int .u32) ++ (rs.map (Value.int .u8) ++ ([Value.int .i64 (n : Int)])), 73⟩ w) : Calls Tryd.prog 16 #[.pointer (some ⟨g, 0, none⟩)] w fun e w' => ∃ g', e = .returned (.pointer (some ⟨g', 0, none⟩)) ∧ w.heap.size ≤ g' ∧ St w [⟨g', 53, st.map (Value.int .u32) ++ (rs.map (Value.int .u8) ++ ([Value.int .i64 (n : Int)])), 73⟩] w' := by
  have hg : g < w.heap.size := hl.lt
  refine calls_from (args := [.pointer (some ⟨g, 0, none⟩)]) Tryd.func16 rfl Tryd.ntmps16 (by simp) ?_
  refine TC.sub (Sub.cons (i := 0) rfl (Sub.nil)) ?_
  refine TC.seq ?_
  refine TC.regionL ?_
  refine TL.gets (Wants.none rfl) rfl (Gets.assign rfl rfl) ?_
  refine TL.nil ?_
  refine TE.then ?_
  refine TC.seq ?_
  refine TC.seq ?_
  refine TC.regionL ?_
  refine TL.gets (Wants.none rfl) rfl (Gets.move rfl rfl) ?_
  refine TL.gets (Wants.none rfl) rfl (Gets.ptrNil rfl Tryd.underlying28 rfl rfl) ?_
  refine TL.nil ?_
  refine TE.then ?_
  refine TC.no rfl ?_
  refine TC.skip ?_
  refine TE.then ?_
  refine TC.seq ?_
  refine TC.regionL ?_
  refine TL.gets (Wants.none rfl) rfl (Gets.move rfl rfl) ?_
  refine TL.gets (Wants.none rfl) rfl (Gets.nilCheck rfl rfl) ?_
  refine TL.gets (Wants.none rfl) rfl (Gets.loadN rfl agg53 size53 rfl (vs := st.map (Value.int .u32) ++ (rs.map (Value.int .u8) ++ ([Value.int .i64 (n : Int)]))) (by simp [hst, hrs]) (Row.old (fun j u hu => by rw [Nat.zero_add]; exact hl.cell hu) hg ne_nil)) ?_
  refine TL.alloc (Wants.none rfl) rfl rfl zero53 (cs := (List.replicate 8 0).map (Value.int .u32) ++ ((List.replicate 64 0).map (Value.int .u8) ++ ([Value.int .i64 0]))) rfl (tot := 73) (by simp) (fun g1 hg1 => ?_)
  refine TL.storeW (Wants.none rfl) rfl rfl size53 rfl (vs := st.map (Value.int .u32) ++ (rs.map (Value.int .u8) ++ ([Value.int .i64 (n : Int)]))) rfl (by simp [hst, hrs]) (ones_app ints_one (ones_app ints_one (by simp [Value.oneCell']))) (i := 0) (ent := ⟨g1, 53, (List.replicate 8 0).map (Value.int .u32) ++ ((List.replicate 64 0).map (Value.int .u8) ++ ([Value.int .i64 0])), 73⟩) rfl rfl (by simp []) (H' := [⟨g1, 53, st.map (Value.int .u32) ++ (rs.map (Value.int .u8) ++ ([Value.int .i64 (n : Int)])), 73⟩]) rfl ?_
  refine TL.nil ?_
  refine TE.then ?_
  refine TC.seq ?_
  refine TC.regionL ?_
  refine TL.gets (Wants.none rfl) rfl (Gets.assign rfl rfl) ?_
  refine TL.nil ?_
  refine TE.then ?_
  refine TC.ret ?_
  exact TE.ret1 rfl rfl (fun w hs => ⟨g1, rfl, hg1, hs⟩)

set_option maxRecDepth 100000 in
set_option maxHeartbeats 400000 in
theorem cloneNil_c (w : World) : Calls Tryd.prog 16 #[.pointer none] w fun e w' => e = .returned (.pointer none) ∧ St w [] w' := by
  refine calls_from (args := [.pointer none]) Tryd.func16 rfl Tryd.ntmps16 (by simp) ?_
  refine TC.sub (Sub.cons (i := 0) rfl (Sub.nil)) ?_
  refine TC.seq ?_
  refine TC.regionL ?_
  refine TL.gets (Wants.none rfl) rfl (Gets.assign rfl rfl) ?_
  refine TL.nil ?_
  refine TE.then ?_
  refine TC.seq ?_
  refine TC.seq ?_
  refine TC.regionL ?_
  refine TL.gets (Wants.none rfl) rfl (Gets.move rfl rfl) ?_
  refine TL.gets (Wants.none rfl) rfl (Gets.nilNil rfl Tryd.underlying28 rfl rfl) ?_
  refine TL.nil ?_
  refine TE.then ?_
  refine TC.yes rfl ?_
  refine TC.seq ?_
  refine TC.regionL ?_
  refine TL.gets (Wants.none rfl) rfl (Gets.assign rfl rfl) ?_
  refine TL.nil ?_
  refine TE.then ?_
  refine TC.ret ?_
  refine TE.thenR ?_
  exact TE.ret1 rfl rfl (fun w hs => ⟨rfl, hs⟩)
end Go.Proofs.YtdcphpmkhekghaaDoor
