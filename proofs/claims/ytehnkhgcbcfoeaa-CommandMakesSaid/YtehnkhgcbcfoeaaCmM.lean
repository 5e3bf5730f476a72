/-
  CommandMakes: the walk.
-/
import Derived.Test.YtehnkhgcbcfoeaaCmL
import Derived.Test.YtehnkhgcbcfoeaaOwnV
namespace Go.Proofs.Ytehnkhgcbcfoeaa
set_option linter.unusedVariables false
set_option linter.unusedSimpArgs false
open Go Go.RowKit
theorem mk25 : (Try.prog.info? 25).map (fun i => (i.zero, i.size, i.bytes)) = some (some (.slice none 0 0), 1, 24) := by kernel_rfl
set_option maxRecDepth 100000 in
set_option maxHeartbeats 1000000 in
theorem makes_big (x0 x1 x2 : Int) (A : Option Addr) (m c : Nat) (hb : 30 < m) (w : World) : Calls Try.prog 3 #[.agg ([Value.int .i64 x0, Value.int .i64 x1, Value.int .i64 x2]).toArray, .slice A m c] w fun e w' => e = .returned (.bool true) ∧ St w [] w' := by
  refine calls_from (args := [.agg ([Value.int .i64 x0, Value.int .i64 x1, Value.int .i64 x2]).toArray, .slice A m c]) Try.func3 rfl Try.ntmps3 (by simp) ?_
  refine TC.sub (Sub.cons (i := 0) rfl (Sub.cons (i := 1) rfl (Sub.nil))) ?_
  refine TC.seq ?_
  refine TC.regionL ?_
  refine TL.box (Wants.none rfl) rfl rfl rfl (cs := [Value.int .i64 x0, Value.int .i64 x1, Value.int .i64 x2]) (by simp [Value.cells]) (tot := 3) (by simp []) (fun g1 hg1 => ?_)
  refine TL.gets (Wants.none rfl) rfl (Gets.assign rfl rfl) ?_
  refine TL.nil ?_
  refine TE.then ?_
  refine TC.seq ?_
  refine TC.seq ?_
  refine TC.regionL ?_
  refine TL.gets (Wants.none rfl) rfl (Gets.move rfl rfl) ?_
  refine TL.gets (Wants.none rfl) rfl (Gets.lenSlice rfl Try.underlying23 rfl) ?_
  refine TL.gets (Wants.none rfl) rfl (Gets.isTrue (Gets.gtr rfl rfl rfl) (by omega)) ?_
  refine TL.nil ?_
  refine TE.then ?_
  refine TC.yes rfl ?_
  refine TC.seq ?_
  refine TC.regionL ?_
  refine TL.call0 (Wants.none rfl) rfl enters9 rfl rfl (v := .bool true) (fun w hs => alive_c w) ?_
  refine TL.gets (Wants.none rfl) rfl (Gets.assign rfl rfl) ?_
  refine TL.nil ?_
  refine TE.then ?_
  refine TC.ret ?_
  refine TE.thenR ?_
  exact TE.ret1 rfl rfl (fun w hs => ⟨rfl, (hs.drop (by assumption))⟩)


structure WM where
  k : Nat
  vo : Value
  Ho : List Ent
  va : Value
  Ha : List Ent
  qs : List (List Int × Nat × Nat)

set_option maxRecDepth 100000 in
set_option maxHeartbeats 2000000 in
theorem makes_small (x0 x1 x2 : Int) (Ps : List (List Int)) (A : Option Addr) (m c : Nat) (w : World) (hP : PartsO w A m Ps) (hmc : m ≤ c) (hcm : c ≤ 9223372036854775807) (hB : Bytes Ps.flatten) (hm : m ≤ 30) : Calls Try.prog 3 #[.agg ([Value.int .i64 x0, Value.int .i64 x1, Value.int .i64 x2]).toArray, .slice A m c] w fun e w' => e = .returned (.bool true) ∧ St w [] w' := by
  refine calls_from (args := [.agg ([Value.int .i64 x0, Value.int .i64 x1, Value.int .i64 x2]).toArray, .slice A m c]) Try.func3 rfl Try.ntmps3 (by simp) ?_
  refine TC.sub (Sub.cons (i := 0) rfl (Sub.cons (i := 1) rfl (Sub.nil))) ?_
  refine TC.seq ?_
  refine TC.regionL ?_
  refine TL.box (Wants.none rfl) rfl rfl rfl (cs := [Value.int .i64 x0, Value.int .i64 x1, Value.int .i64 x2]) (by simp [Value.cells]) (tot := 3) (by simp []) (fun g1 hg1 => ?_)
  refine TL.gets (Wants.none rfl) rfl (Gets.assign rfl rfl) ?_
  refine TL.nil ?_
  refine TE.then ?_
  refine TC.seq ?_
  refine TC.seq ?_
  refine TC.regionL ?_
  refine TL.gets (Wants.none rfl) rfl (Gets.move rfl rfl) ?_
  refine TL.gets (Wants.none rfl) rfl (Gets.lenSlice rfl Try.underlying23 rfl) ?_
  refine TL.gets (Wants.none rfl) rfl (Gets.isFalse (Gets.gtr rfl rfl rfl) (by omega)) ?_
  refine TL.nil ?_
  refine TE.then ?_
  refine TC.no rfl ?_
  refine TC.skip ?_
  refine TE.then ?_
  refine TC.seq ?_
  refine TC.regionL ?_
  refine TL.gets (Wants.none rfl) rfl (Gets.assign rfl rfl) ?_
  refine TL.nil ?_
  refine TE.then ?_
  refine TC.seq ?_
  refine TC.regionL ?_
  refine TL.gets (Wants.none rfl) rfl (Gets.assign rfl rfl) ?_
  refine TL.nil ?_
  refine TE.then ?_
  refine TC.sub (Sub.cons (i := 1) rfl (Sub.cons (i := 2) rfl (Sub.cons (i := 4) rfl (Sub.cons (i := 5) rfl (Sub.cons (i := 6) rfl (Sub.nil)))))) ?_
  refine TC.seq ?_
  refine TC.seq ?_
  refine TC.regionL ?_
  refine TL.gets (Wants.none rfl) rfl (Gets.move rfl rfl) ?_
  refine TL.gets (Wants.none rfl) rfl (Gets.lenSlice rfl Try.underlying23 rfl) ?_
  refine TL.gets (Wants.none rfl) rfl (Gets.move rfl rfl) ?_
  refine TL.nil ?_
  refine TE.then ?_
  refine TC.block ?_
  refine TC.loop (ι := WM) (fun x => [(2, .pointer (some ⟨g1, 0, none⟩)), (5, x.vo), (6, x.va), (18, .slice A m c), (19, .int .i64 (m : Int)), (20, .int .i64 (x.k : Int))]) (fun x => [⟨g1, 22, [Value.int .i64 x0, Value.int .i64 x1, Value.int .i64 x2], 3⟩] ++ (x.Ho ++ (x.Ha ++ blkQ 5 x.qs))) (fun x => m - x.k) (fun x => OwnV w.heap.size 25 x.vo (cellsQ x.qs) x.Ho ∧ Own w.heap.size 5 .u8 x.va (Ps.take x.k).flatten x.Ha ∧ okQ w.heap.size x.qs ∧ x.qs.map (·.1) = Ps.take x.k ∧ x.k ≤ m ∧ ∀ j, j < x.k → (Ps.getD j []).length ≤ 200) (⟨0, .slice none 0 0, [], .slice none 0 0, [], []⟩ : WM) ⟨OwnV.nil _ _, Own.nil _ _ _, okQ.nil _, rfl, Nat.zero_le _, fun j hj => absurd hj (Nat.not_lt_zero j)⟩ (Sub.cons (i := 2) rfl (Sub.cons (i := 5) rfl (Sub.cons (i := 6) rfl (Sub.slice (i := 18) rfl rfl (by first | omega | (dsimp only; omega) | rfl) (by first | omega | (dsimp only; omega) | rfl) (Sub.int (i := 19) rfl (by first | omega | rfl) (Sub.int (i := 20) rfl (by first | omega | rfl) (Sub.nil))))))) (fun w h => h) (fun x hC0 => ?_)
  obtain ⟨k, vo, Ho, va, Ha, qs⟩ := x
  obtain ⟨hown, hall, hqs, hqm, hkm, hsm⟩ := hC0
  dsimp only at hown hall hqs hqm hkm hsm ⊢
  have hF : Fresh w (Ho ++ (Ha ++ blkQ 5 qs)) := Fresh.app hown.new (Fresh.app hall.new (blkQ_fresh hqs))
  have hPl := hP.1
  have hfl := flat_take200 hsm
  have hql : qs.length = k := by have := congrArg List.length hqm; rw [List.length_map, List.length_take] at this; omega
  refine TC.seq ?_
  refine TC.regionL ?_
  refine TL.gets (Wants.none rfl) rfl (Gets.lss rfl rfl rfl) ?_
  refine TL.nil ?_
  refine TE.then ?_
  refine TC.seq ?_
  refine TC.split rfl (fun hq1 => ?_) (fun hq1 => ?_)
  · obtain ⟨b, off, hE, hb, hcells⟩ := hP.2.resolve_left (by omega)
    subst hE
    obtain ⟨Ai, mi, ci, hci, hSi, hmi⟩ := hcells k (by omega)
    have hoff : off + k = (off + k) := rfl
    have hSl := hSi.1
    refine TC.skip ?_
    refine TE.then ?_
    refine TC.seq ?_
    refine TC.block ?_
    refine TC.seq ?_
    refine TC.regionL ?_
    refine TL.gets (Wants.none rfl) rfl (Gets.idxSlice rfl Try.underlying23 size25 rfl rfl (i := k) (by omega) (by omega) (off' := (off + k)) (by omega)) ?_
    refine TL.gets (Wants.none rfl) rfl (Gets.load1 rfl agg25 rfl (At.old (hoff ▸ hci) hb (ne_app (ne_cons (by show g1 ≠ b; omega) ne_nil) (hF.ne hb)))) ?_
    refine TL.gets (Wants.none rfl) rfl (Gets.assign rfl rfl) ?_
    refine TL.nil ?_
    refine TE.then ?_
    refine TC.sub (Sub.cons (i := 2) rfl (Sub.cons (i := 5) rfl (Sub.cons (i := 6) rfl (Sub.cons (i := 8) rfl (Sub.cons (i := 18) rfl (Sub.cons (i := 19) rfl (Sub.cons (i := 20) rfl (Sub.nil)))))))) ?_
    refine TC.seq ?_
    refine TC.seq ?_
    refine TC.regionL ?_
    refine TL.gets (Wants.none rfl) rfl (Gets.move rfl rfl) ?_
    refine TL.gets (Wants.none rfl) rfl (Gets.lenSlice rfl Try.underlying25 rfl) ?_
    refine TL.gets (Wants.none rfl) rfl (Gets.gtr rfl rfl rfl) ?_
    refine TL.nil ?_
    refine TE.then ?_
    refine TC.sub (Sub.cons (i := 2) rfl (Sub.cons (i := 5) rfl (Sub.cons (i := 6) rfl (Sub.cons (i := 8) rfl (Sub.cons (i := 18) rfl (Sub.cons (i := 19) rfl (Sub.cons (i := 20) rfl (Sub.cons (i := 26) rfl (Sub.nil))))))))) ?_
    refine TC.split rfl (fun hq2 => ?_) (fun hq2 => ?_)
    · refine TC.seq ?_
      refine TC.regionL ?_
      refine TL.call0 (Wants.none rfl) rfl enters9 rfl rfl (v := .bool true) (fun w hs => alive_c w) ?_
      refine TL.gets (Wants.none rfl) rfl (Gets.assign rfl rfl) ?_
      refine TL.nil ?_
      refine TE.then ?_
      refine TC.ret ?_
      refine TE.thenR ?_
      refine TE.blockR ?_
      refine TE.thenR ?_
      refine TE.thenR ?_
      refine TE.blockR ?_
      refine TE.thenR ?_
      exact TE.ret1 rfl rfl (fun w hs => ⟨rfl, ((St.left (H := [⟨g1, 22, [Value.int .i64 x0, Value.int .i64 x1, Value.int .i64 x2], 3⟩]) hs hF).drop (by assumption))⟩)
    · refine TC.skip ?_
      refine TE.then ?_
      refine TC.seq ?_
      refine TC.regionL ?_
      refine TL.gets (Wants.none rfl) rfl (Gets.move rfl rfl) ?_
      refine TL.emptySlice (Wants.none rfl) rfl rfl Try.underlying25 size5 (fun g2 hg2 => ?_)
      refine TL.gets (Wants.none rfl) rfl (Gets.move rfl rfl) ?_
      refine TL.heap (H' := ([⟨g1, 22, [Value.int .i64 x0, Value.int .i64 x1, Value.int .i64 x2], 3⟩] ++ (Ho ++ (Ha ++ blkQ 5 qs))) ++ [⟨g2, 5, ([] : List Int).map (Value.int .u8), 0⟩]) (fun w h => h.perm (List.perm_append_comm (l₁ := [⟨g2, 5, ([] : List Int).map (Value.int .u8), 0⟩]) (l₂ := [⟨g1, 22, [Value.int .i64 x0, Value.int .i64 x1, Value.int .i64 x2], 3⟩] ++ (Ho ++ (Ha ++ blkQ 5 qs))))) ?_
      refine TL.appendOwn (H := [Ent.mk g1 22 ([Value.int .i64 x0, Value.int .i64 x1, Value.int .i64 x2]) 3] ++ (Ho ++ (Ha ++ blkQ 5 qs))) (He := [⟨g2, 5, ([] : List Int).map (Value.int .u8), 0⟩]) (Wants.none rfl) rfl rfl Try.underlying25 mk5 rfl rfl rfl (W := []) (B := Ps.getD k []) (.inr ⟨g2, 0, rfl, rfl, hg2, Nat.le_refl _, by unfold maxLen; omega⟩) (fun w hs => hSi.at_ hs (fun b hb => (ne_app (ne_app (ne_cons (by show g1 ≠ b; omega) ne_nil) (hF.ne hb)) (ne_cons (by show g2 ≠ b; omega) ne_nil)))) (by simp only [List.length_nil]; omega) (by simp only [List.length_nil]; omega) (fun vp Hp hp hnp => ?_)
      rw [List.nil_append] at hp
      obtain ⟨gs, cs, rfl, rfl, hgs, hcs, hms⟩ := own_some hp (hnp (by intro h; cases h))
      refine TL.heap (H' := [⟨gs, 5, (Ps.getD k []).map (Value.int .u8), cs⟩, ⟨g1, 22, [Value.int .i64 x0, Value.int .i64 x1, Value.int .i64 x2], 3⟩] ++ (Ho ++ (Ha ++ blkQ 5 qs))) (fun w h => h.perm (List.perm_append_comm (l₁ := [⟨g1, 22, [Value.int .i64 x0, Value.int .i64 x1, Value.int .i64 x2], 3⟩] ++ (Ho ++ (Ha ++ blkQ 5 qs))) (l₂ := [⟨gs, 5, (Ps.getD k []).map (Value.int .u8), cs⟩]))) ?_
      refine TL.buildSlice (Wants.none rfl) rfl rfl Try.underlying23 size25 zero25 rfl (by decide) (by decide) (cells := #[.slice (some ⟨gs, 0, none⟩) (((Ps.getD k []).length)) cs]) (tot := 1) (by kernel_rfl) (cs := [.slice (some ⟨gs, 0, none⟩) (((Ps.getD k []).length)) cs]) rfl rfl (fun g3 hg3 => ?_)
      refine TL.heap (H' := ([Ent.mk g3 25 ([Value.slice (some ⟨gs, 0, none⟩) (((Ps.getD k []).length)) cs]) 1, Ent.mk gs 5 ((Ps.getD k []).map (Value.int .u8)) cs, Ent.mk g1 22 ([Value.int .i64 x0, Value.int .i64 x1, Value.int .i64 x2]) 3] ++ (Ha ++ blkQ 5 qs)) ++ Ho) (fun w h => St.perm (H := [Ent.mk g3 25 ([Value.slice (some ⟨gs, 0, none⟩) (((Ps.getD k []).length)) cs]) 1, Ent.mk gs 5 ((Ps.getD k []).map (Value.int .u8)) cs, Ent.mk g1 22 ([Value.int .i64 x0, Value.int .i64 x1, Value.int .i64 x2]) 3] ++ (Ho ++ (Ha ++ blkQ 5 qs))) h (perm_mid ([Ent.mk g3 25 ([Value.slice (some ⟨gs, 0, none⟩) (((Ps.getD k []).length)) cs]) 1, Ent.mk gs 5 ((Ps.getD k []).map (Value.int .u8)) cs, Ent.mk g1 22 ([Value.int .i64 x0, Value.int .i64 x1, Value.int .i64 x2]) 3]) Ho (Ha ++ blkQ 5 qs))) ?_
      refine TL.appendOwnV (H := [Ent.mk g3 25 ([Value.slice (some ⟨gs, 0, none⟩) (((Ps.getD k []).length)) cs]) 1, Ent.mk gs 5 ((Ps.getD k []).map (Value.int .u8)) cs, Ent.mk g1 22 ([Value.int .i64 x0, Value.int .i64 x1, Value.int .i64 x2]) 3] ++ (Ha ++ blkQ 5 qs)) (He := Ho) (vs := cellsQ qs) (g := g3) (u := Value.slice (some ⟨gs, 0, none⟩) (((Ps.getD k []).length)) cs) (Wants.none rfl) rfl rfl Try.underlying23 mk25 rfl rfl rfl hown (fun w hs => (hs.has (Ent.mk g3 25 ([Value.slice (some ⟨gs, 0, none⟩) (((Ps.getD k []).length)) cs]) 1) (by simp)).cell rfl) rfl (by rw [cellsQ_len]; omega) (by rw [cellsQ_len]; omega) (fun v5 Ho2 hown2 => ?_)
      refine TL.heap (H' := [Ent.mk g3 25 ([Value.slice (some ⟨gs, 0, none⟩) (((Ps.getD k []).length)) cs]) 1, Ent.mk gs 5 ((Ps.getD k []).map (Value.int .u8)) cs, Ent.mk g1 22 ([Value.int .i64 x0, Value.int .i64 x1, Value.int .i64 x2]) 3] ++ (Ho2 ++ (Ha ++ blkQ 5 qs))) (fun w h => h.perm (perm_mid ([Ent.mk g3 25 ([Value.slice (some ⟨gs, 0, none⟩) (((Ps.getD k []).length)) cs]) 1, Ent.mk gs 5 ((Ps.getD k []).map (Value.int .u8)) cs, Ent.mk g1 22 ([Value.int .i64 x0, Value.int .i64 x1, Value.int .i64 x2]) 3]) Ho2 (Ha ++ blkQ 5 qs)).symm) ?_
      have hF2 : Fresh w (Ho2 ++ (Ha ++ blkQ 5 qs)) := Fresh.app hown2.new (Fresh.app hall.new (blkQ_fresh hqs))
      refine TL.gets (Wants.none rfl) rfl (Gets.assign rfl rfl) ?_
      refine TL.nil ?_
      refine TE.then ?_
      refine TC.sub (Sub.cons (i := 2) rfl (Sub.cons (i := 5) rfl (Sub.cons (i := 6) rfl (Sub.cons (i := 8) rfl (Sub.cons (i := 18) rfl (Sub.cons (i := 19) rfl (Sub.cons (i := 20) rfl (Sub.nil)))))))) ?_
      refine TC.regionL ?_
      refine TL.gets (Wants.none rfl) rfl (Gets.move rfl rfl) ?_
      refine TL.gets (Wants.none rfl) rfl (Gets.move rfl rfl) ?_
      refine TL.heap (H' := ([Ent.mk g3 25 ([Value.slice (some ⟨gs, 0, none⟩) (((Ps.getD k []).length)) cs]) 1, Ent.mk gs 5 ((Ps.getD k []).map (Value.int .u8)) cs, Ent.mk g1 22 ([Value.int .i64 x0, Value.int .i64 x1, Value.int .i64 x2]) 3] ++ (Ho2 ++ blkQ 5 qs)) ++ Ha) (fun w h => St.perm (H := [Ent.mk g3 25 ([Value.slice (some ⟨gs, 0, none⟩) (((Ps.getD k []).length)) cs]) 1, Ent.mk gs 5 ((Ps.getD k []).map (Value.int .u8)) cs, Ent.mk g1 22 ([Value.int .i64 x0, Value.int .i64 x1, Value.int .i64 x2]) 3] ++ (Ho2 ++ (Ha ++ blkQ 5 qs))) h (perm_mid2 ([Ent.mk g3 25 ([Value.slice (some ⟨gs, 0, none⟩) (((Ps.getD k []).length)) cs]) 1, Ent.mk gs 5 ((Ps.getD k []).map (Value.int .u8)) cs, Ent.mk g1 22 ([Value.int .i64 x0, Value.int .i64 x1, Value.int .i64 x2]) 3]) Ho2 Ha (blkQ 5 qs))) ?_
      refine TL.appendOwn (H := [Ent.mk g3 25 ([Value.slice (some ⟨gs, 0, none⟩) (((Ps.getD k []).length)) cs]) 1, Ent.mk gs 5 ((Ps.getD k []).map (Value.int .u8)) cs, Ent.mk g1 22 ([Value.int .i64 x0, Value.int .i64 x1, Value.int .i64 x2]) 3] ++ (Ho2 ++ blkQ 5 qs)) (He := Ha) (Wants.none rfl) rfl rfl Try.underlying25 mk5 rfl rfl rfl (W := (Ps.take k).flatten) (B := Ps.getD k []) hall (fun w hs => hSi.at_ hs (fun b hb => (ne_app (ne_app (ne_cons (by show g3 ≠ b; omega) (ne_cons (by show gs ≠ b; omega) (ne_cons (by show g1 ≠ b; omega) ne_nil))) ((Fresh.app hown2.new (blkQ_fresh hqs)).ne hb)) (hall.ne hb)))) (by omega) (by omega) (fun v6 Ha2 hall2 _ => ?_)
      refine TL.heap (H' := [Ent.mk g3 25 ([Value.slice (some ⟨gs, 0, none⟩) (((Ps.getD k []).length)) cs]) 1, Ent.mk gs 5 ((Ps.getD k []).map (Value.int .u8)) cs, Ent.mk g1 22 ([Value.int .i64 x0, Value.int .i64 x1, Value.int .i64 x2]) 3] ++ (Ho2 ++ (Ha2 ++ blkQ 5 qs))) (fun w h => h.perm (perm_mid2 ([Ent.mk g3 25 ([Value.slice (some ⟨gs, 0, none⟩) (((Ps.getD k []).length)) cs]) 1, Ent.mk gs 5 ((Ps.getD k []).map (Value.int .u8)) cs, Ent.mk g1 22 ([Value.int .i64 x0, Value.int .i64 x1, Value.int .i64 x2]) 3]) Ho2 Ha2 (blkQ 5 qs)).symm) ?_
      refine TL.gets (Wants.none rfl) rfl (Gets.assign rfl rfl) ?_
      refine TL.nil ?_
      refine TE.blockN ?_
      refine TE.then ?_
      refine TC.sub (Sub.cons (i := 2) rfl (Sub.cons (i := 5) rfl (Sub.cons (i := 6) rfl (Sub.cons (i := 18) rfl (Sub.cons (i := 19) rfl (Sub.cons (i := 20) rfl (Sub.nil))))))) ?_
      refine TC.regionL ?_
      refine TL.gets (Wants.none rfl) rfl (Gets.add rfl rfl rfl (r := ((k : Int) + 1)) (w64 (by omega) (by omega))) ?_
      refine TL.gets (Wants.none rfl) rfl (Gets.move rfl rfl) ?_
      refine TL.nil ?_
      exact TE.back (⟨k + 1, v5, Ho2, v6, Ha2, qs ++ [(Ps.getD k [], gs, cs)]⟩ : WM) (by show m - (k + 1) < m - k; omega) ⟨by show OwnV _ _ v5 (cellsQ (qs ++ [_])) Ho2; rw [cellsQ_snoc]; exact hown2, by show Own _ _ _ v6 (Ps.take (k + 1)).flatten Ha2; have := flat_succ (i := k) (Ps := Ps) (by omega) []; simp only [List.nil_append] at this; rw [this]; exact hall2, hqs.snoc ⟨hgs, hcs⟩, by show List.map _ (qs ++ [_]) = Ps.take (k + 1); rw [List.map_append, hqm, take_snocP (by omega)]; rfl, by show k + 1 ≤ m; omega, small200 hsm (by omega)⟩ (Sub.cons (i := 2) rfl (Sub.cons (i := 5) rfl (Sub.cons (i := 6) rfl (Sub.slice (i := 18) rfl (by first | rfl | (congr 2; omega)) (by first | omega | (dsimp only; omega) | rfl) (by first | omega | (dsimp only; omega) | rfl) (Sub.int (i := 19) rfl (by first | omega | rfl) (Sub.int (i := 20) rfl (by first | omega | rfl) (Sub.nil))))))) (fun w h => by show St _ ([⟨g1, 22, [Value.int .i64 x0, Value.int .i64 x1, Value.int .i64 x2], 3⟩] ++ (Ho2 ++ (Ha2 ++ blkQ 5 (qs ++ [_])))) w; rw [blkQ_snoc]; exact (St.drop (H := [⟨gs, 5, (Ps.getD k []).map (Value.int .u8), cs⟩, ⟨g1, 22, [Value.int .i64 x0, Value.int .i64 x1, Value.int .i64 x2], 3⟩] ++ (Ho2 ++ (Ha2 ++ blkQ 5 qs))) h (by assumption)).perm (perm_end _ _ _ _ _))
  · obtain rfl : m = k := by omega
    have htk : Ps.take m = Ps := List.take_of_length_le (by omega)
    rw [htk] at hall hqm hfl
    obtain ⟨Av, cv, hva, hcv, hcv2⟩ := hall.form
    subst hva
    obtain ⟨Ao, co, hvo, hco, hco2⟩ := hown.form
    rw [cellsQ_len] at hvo hco
    subst hvo
    refine TC.exit ?_
    refine TE.thenX ?_
    refine TE.thenX ?_
    refine TE.blockX ?_
    refine TE.then ?_
    refine TC.seq ?_
    refine TC.mixS ([⟨g1, 22, [Value.int .i64 x0, Value.int .i64 x1, Value.int .i64 x2], 3⟩] ++ (Ho ++ (Ha ++ blkQ 5 qs))) [] (by kernel_rfl) [0, 1, 0, 1, 0, 1, 1, 0, 1, 0, 3, 5, 5, 4, 4] [0, 1, 2, 3, 4, 5, 6, 7, 8, 9, 10, 11, 12, 13, 14] [fun _ _ => True, fun _ _ => True, fun _ _ => True, fun _ _ => True, fun _ _ => True, fun _ _ => True, fun _ _ => True, fun _ _ => True, fun _ _ => True, fun _ _ => True, fun v e => ∃ y : (Option Addr × Nat) × List Ent, (Own w.heap.size 5 .u8 (.slice y.1.1 Ps.flatten.length y.1.2) Ps.flatten y.2) ∧ v = .agg ([Value.int .i64 2, Value.int .i64 x0, Value.int .i64 0, Value.int .i64 0, Value.slice y.1.1 Ps.flatten.length y.1.2]).toArray ∧ e = y.2, fun v d => ∃ g, v = .pointer (some ⟨g, 0, none⟩) ∧ d = [⟨g, 27, [Value.int .i64 0, Value.int .i64 0, Value.int .i64 0, Value.int .i64 0, Value.slice none 0 0], 5⟩], fun v d => ∃ g, v = .pointer (some ⟨g, 0, none⟩) ∧ d = [⟨g, 27, [Value.int .i64 0, Value.int .i64 0, Value.int .i64 0, Value.int .i64 0, Value.slice none 0 0], 5⟩], fun _ _ => True, fun _ _ => True] (by kernel_rfl) (by kernel_rfl) (List.Perm.of_eq (List.append_nil _).symm) Fresh.nil ?_
    refine TR.free (Wants.none rfl) rfl (fun _ => Gets.idxArray rfl Try.underlying22 size3 rfl rfl (i := 0) (by rfl) (by omega) (off' := 0) (by omega)) ?_
    refine TR.gets (Wants.none rfl) rfl (fun Z hZ => Gets.load1 rfl agg3 rfl (At.ent (i := 0) (ent := ⟨g1, 22, [Value.int .i64 x0, Value.int .i64 x1, Value.int .i64 x2], 3⟩) (off := 0) rfl rfl (by exact rfl))) ?_
    refine TR.free (Wants.none rfl) rfl (fun _ => Gets.idxArray rfl Try.underlying22 size3 rfl rfl (i := 1) (by rfl) (by omega) (off' := 1) (by omega)) ?_
    refine TR.gets (Wants.none rfl) rfl (fun Z hZ => Gets.load1 rfl agg3 rfl (At.ent (i := 0) (ent := ⟨g1, 22, [Value.int .i64 x0, Value.int .i64 x1, Value.int .i64 x2], 3⟩) (off := 1) rfl rfl (by exact rfl))) ?_
    refine TR.free (Wants.none rfl) rfl (fun _ => Gets.idxArray rfl Try.underlying22 size3 rfl rfl (i := 2) (by rfl) (by omega) (off' := 2) (by omega)) ?_
    refine TR.gets (Wants.none rfl) rfl (fun Z hZ => Gets.load1 rfl agg3 rfl (At.ent (i := 0) (ent := ⟨g1, 22, [Value.int .i64 x0, Value.int .i64 x1, Value.int .i64 x2], 3⟩) (off := 2) rfl rfl (by exact rfl))) ?_
    refine TR.call0 (Wants.none rfl) rfl enters10 rfl rfl (v := .agg ([Value.int .i64 1, Value.int .i64 x0, Value.int .i64 x1, Value.int .i64 x2, Value.slice none 0 0]).toArray) (fun Z w hZ hs => copy_c x0 x1 x2 w) ?_
    refine TR.free (Wants.none rfl) rfl (fun _ => Gets.idxArray rfl Try.underlying22 size3 rfl rfl (i := 0) (by rfl) (by omega) (off' := 0) (by omega)) ?_
    refine TR.gets (Wants.none rfl) rfl (fun Z hZ => Gets.load1 rfl agg3 rfl (At.ent (i := 0) (ent := ⟨g1, 22, [Value.int .i64 x0, Value.int .i64 x1, Value.int .i64 x2], 3⟩) (off := 0) rfl rfl (by exact rfl))) ?_
    refine TR.free (Wants.none rfl) rfl (fun _ => Gets.move rfl rfl) ?_
    refine TR.call3 (ι := (Option Addr × Nat) × List Ent) (V := fun y => .agg ([Value.int .i64 2, Value.int .i64 x0, Value.int .i64 0, Value.int .i64 0, Value.slice y.1.1 Ps.flatten.length y.1.2]).toArray) (R := fun y => Own w.heap.size 5 .u8 (.slice y.1.1 Ps.flatten.length y.1.2) Ps.flatten y.2) (E := fun y => y.2) (Wants.none rfl) rfl enters11 rfl rfl (fun Z w hZ hs => (literal_c x0 Ps Ao qs.length co w (hqm ▸ partsQ (t := 5) hown (fun d hd => hs.has d (by simp [hd])) (fun d hd => hs.has d (by simp [hd])) hqs) hco hco2 (by omega)).mono fun e w' ⟨A', c', He, he, ho, hw⟩ => ⟨((A', c'), He), he, own_mono ho hs.size, ho.new, hw⟩) (fun y hOl hFl => ?_)
    obtain ⟨⟨Al, cl⟩, Hl⟩ := y
    dsimp only at hOl hFl ⊢
    refine TR.alloc (Wants.none rfl) rfl rfl zero27 (cs := [Value.int .i64 0, Value.int .i64 0, Value.int .i64 0, Value.int .i64 0, Value.slice none 0 0]) rfl (tot := 5) (by simp) (fun g4 hg4 => ?_)
    refine TR.alloc (Wants.none rfl) rfl rfl zero27 (cs := [Value.int .i64 0, Value.int .i64 0, Value.int .i64 0, Value.int .i64 0, Value.slice none 0 0]) rfl (tot := 5) (by simp) (fun g5 hg5 => ?_)
    refine TR.storeW (Wants.none rfl) rfl rfl size27 rfl (vs := [Value.int .i64 1, Value.int .i64 x0, Value.int .i64 x1, Value.int .i64 x2, Value.slice none 0 0]) rfl rfl (by simp [Value.oneCell']) (i := 0) (ent := ⟨g4, 27, [Value.int .i64 0, Value.int .i64 0, Value.int .i64 0, Value.int .i64 0, Value.slice none 0 0], 5⟩) rfl rfl rfl (D' := [⟨g4, 27, [Value.int .i64 1, Value.int .i64 x0, Value.int .i64 x1, Value.int .i64 x2, Value.slice none 0 0], 5⟩, ⟨g5, 27, [Value.int .i64 0, Value.int .i64 0, Value.int .i64 0, Value.int .i64 0, Value.slice none 0 0], 5⟩]) rfl (Fresh.cons (by assumption) (Fresh.cons (by assumption) Fresh.nil)) ?_
    refine TR.storeW (Wants.none rfl) rfl rfl size27 rfl (vs := [Value.int .i64 2, Value.int .i64 x0, Value.int .i64 0, Value.int .i64 0, Value.slice Al Ps.flatten.length cl]) rfl rfl (by simp [Value.oneCell']) (i := 1) (ent := ⟨g5, 27, [Value.int .i64 0, Value.int .i64 0, Value.int .i64 0, Value.int .i64 0, Value.slice none 0 0], 5⟩) rfl rfl rfl (D' := [⟨g4, 27, [Value.int .i64 1, Value.int .i64 x0, Value.int .i64 x1, Value.int .i64 x2, Value.slice none 0 0], 5⟩, ⟨g5, 27, [Value.int .i64 2, Value.int .i64 x0, Value.int .i64 0, Value.int .i64 0, Value.slice Al Ps.flatten.length cl], 5⟩]) rfl (Fresh.cons (by assumption) (Fresh.cons (by assumption) Fresh.nil)) ?_
    refine TR.nil ?_
    refine TE.heap (H' := ([⟨g4, 27, [Value.int .i64 1, Value.int .i64 x0, Value.int .i64 x1, Value.int .i64 x2, Value.slice none 0 0], 5⟩, ⟨g5, 27, [Value.int .i64 2, Value.int .i64 x0, Value.int .i64 0, Value.int .i64 0, Value.slice Al Ps.flatten.length cl], 5⟩, ⟨g1, 22, [Value.int .i64 x0, Value.int .i64 x1, Value.int .i64 x2], 3⟩] ++ (Hl ++ (Ho ++ Ha))) ++ blkQ 5 qs) (fun w h => h.perm (perm_reg _ _ _ _ _ _ _)) ?_
    have hFp : Fresh w (Hl ++ (Ho ++ Ha)) := Fresh.app hFl (Fresh.app hown.new hall.new)
    refine TE.then ?_
    refine TC.sub (Sub.cons (i := 2) rfl (Sub.cons (i := 5) rfl (Sub.cons (i := 6) rfl (Sub.cons (i := 9) rfl (Sub.cons (i := 10) rfl (Sub.nil)))))) ?_
    refine TC.seq ?_
    refine TC.seq ?_
    refine TC.regionL ?_
    refine TL.gets (Wants.none rfl) rfl (Gets.move rfl rfl) ?_
    refine TL.gets (Wants.none rfl) rfl (Gets.lenSlice rfl Try.underlying23 rfl) ?_
    refine TL.gets (Wants.none rfl) rfl (Gets.move rfl rfl) ?_
    refine TL.nil ?_
    refine TE.then ?_
    refine TC.block ?_
    refine TC.loop (ι := Nat × List (List Int × Nat × Nat)) (fun y => [(2, .pointer (some ⟨g1, 0, none⟩)), (6, .slice Av Ps.flatten.length cv), (9, .pointer (some ⟨g4, 0, none⟩)), (10, .pointer (some ⟨g5, 0, none⟩)), (49, .slice Ao qs.length co), (50, .int .i64 (qs.length : Int)), (51, .int .i64 (y.1 : Int))]) (fun y => [⟨g4, 27, [Value.int .i64 1, Value.int .i64 x0, Value.int .i64 x1, Value.int .i64 x2, Value.slice none 0 0], 5⟩, ⟨g5, 27, [Value.int .i64 2, Value.int .i64 x0, Value.int .i64 0, Value.int .i64 0, Value.slice Al Ps.flatten.length cl], 5⟩, ⟨g1, 22, [Value.int .i64 x0, Value.int .i64 x1, Value.int .i64 x2], 3⟩] ++ (Hl ++ (Ho ++ Ha)) ++ blkQ 5 y.2) (fun y => qs.length - y.1) (fun y => shapeQ y.2 = shapeQ qs ∧ y.1 ≤ qs.length) ((0, qs) : Nat × List (List Int × Nat × Nat)) ⟨rfl, Nat.zero_le _⟩ (Sub.cons (i := 2) rfl (Sub.slice (i := 6) rfl rfl (by first | omega | (dsimp only; omega) | rfl) (by first | omega | (dsimp only; omega) | rfl) (Sub.cons (i := 9) rfl (Sub.cons (i := 10) rfl (Sub.slice (i := 49) rfl rfl (by first | omega | (dsimp only; omega) | rfl) (by first | omega | (dsimp only; omega) | rfl) (Sub.int (i := 50) rfl (by first | omega | rfl) (Sub.int (i := 51) rfl (by first | omega | rfl) (Sub.nil)))))))) (fun w h => h) (fun y hC1 => ?_)
    obtain ⟨j, rs⟩ := y
    obtain ⟨hsh, hj⟩ := hC1
    dsimp only at hsh hj ⊢
    have hrl := shapeQ_len hsh
    refine TC.seq ?_
    refine TC.regionL ?_
    refine TL.gets (Wants.none rfl) rfl (Gets.lss rfl rfl rfl) ?_
    refine TL.nil ?_
    refine TE.then ?_
    refine TC.seq ?_
    refine TC.split rfl (fun hq3 => ?_) (fun hq3 => ?_)
    · obtain ⟨⟨Dd, gd, cd⟩, hr⟩ : ∃ r, rs[j]? = some r := ⟨_, List.getElem?_eq_getElem (by omega)⟩
      obtain ⟨go, hAo, hHo, hgoN⟩ := hown.at0 (by rw [cellsQ_len]; omega)
      subst hAo
      have hcell := cellsQ_get hr
      rw [cellsQ_shape hsh] at hcell
      dsimp only at hcell
      have hD200 := len200 hqm hsh hr hsm (by omega)
      refine TC.skip ?_
      refine TE.then ?_
      refine TC.seq ?_
      refine TC.block ?_
      refine TC.seq ?_
      refine TC.regionL ?_
      refine TL.gets (Wants.none rfl) rfl (Gets.idxSlice rfl Try.underlying23 size25 rfl rfl (i := j) (by omega) (by omega) (off' := j) (by omega)) ?_
      refine TL.gets (Wants.none rfl) rfl (Gets.load1 rfl agg25 rfl (At.mem (ent := ⟨go, 25, cellsQ qs, co⟩) (by simp [hHo]) rfl hcell)) ?_
      refine TL.gets (Wants.none rfl) rfl (Gets.assign rfl rfl) ?_
      refine TL.nil ?_
      refine TE.then ?_
      refine TC.sub (Sub.cons (i := 2) rfl (Sub.cons (i := 6) rfl (Sub.cons (i := 9) rfl (Sub.cons (i := 10) rfl (Sub.cons (i := 12) rfl (Sub.cons (i := 49) rfl (Sub.cons (i := 50) rfl (Sub.cons (i := 51) rfl (Sub.nil))))))))) ?_
      refine TC.seq ?_
      refine TC.regionL ?_
      refine TL.gets (Wants.none rfl) rfl (Gets.move rfl rfl) ?_
      refine TL.gets (Wants.none rfl) rfl (Gets.lenSlice rfl Try.underlying25 rfl) ?_
      refine TL.gets (Wants.none rfl) rfl (Gets.move rfl rfl) ?_
      refine TL.nil ?_
      refine TE.then ?_
      refine TC.sub (Sub.cons (i := 2) rfl (Sub.cons (i := 6) rfl (Sub.cons (i := 9) rfl (Sub.cons (i := 10) rfl (Sub.cons (i := 12) rfl (Sub.cons (i := 49) rfl (Sub.cons (i := 50) rfl (Sub.cons (i := 51) rfl (Sub.cons (i := 56) rfl (Sub.cons (i := 57) rfl (Sub.nil))))))))))) ?_
      refine TC.block ?_
      refine TC.loop (ι := Nat × List Int) (fun z => [(2, .pointer (some ⟨g1, 0, none⟩)), (6, .slice Av Ps.flatten.length cv), (9, .pointer (some ⟨g4, 0, none⟩)), (10, .pointer (some ⟨g5, 0, none⟩)), (12, .slice (some ⟨gd, 0, none⟩) Dd.length cd), (49, .slice (some ⟨go, 0, none⟩) qs.length co), (50, .int .i64 (qs.length : Int)), (51, .int .i64 (j : Int)), (56, .int .i64 (Dd.length : Int)), (57, .int .i64 (z.1 : Int))]) (fun z => [⟨g4, 27, [Value.int .i64 1, Value.int .i64 x0, Value.int .i64 x1, Value.int .i64 x2, Value.slice none 0 0], 5⟩, ⟨g5, 27, [Value.int .i64 2, Value.int .i64 x0, Value.int .i64 0, Value.int .i64 0, Value.slice Al Ps.flatten.length cl], 5⟩, ⟨g1, 22, [Value.int .i64 x0, Value.int .i64 x1, Value.int .i64 x2], 3⟩] ++ (Hl ++ (Ho ++ Ha)) ++ blkQ 5 (rs.set j (z.2, gd, cd))) (fun z => Dd.length - z.1) (fun z => z.2.length = Dd.length ∧ z.1 ≤ Dd.length) ((0, Dd) : Nat × List Int) ⟨rfl, Nat.zero_le _⟩ (Sub.cons (i := 2) rfl (Sub.slice (i := 6) rfl rfl (by first | omega | (dsimp only; omega) | rfl) (by first | omega | (dsimp only; omega) | rfl) (Sub.cons (i := 9) rfl (Sub.cons (i := 10) rfl (Sub.slice (i := 12) rfl rfl (by first | omega | (dsimp only; omega) | rfl) (by first | omega | (dsimp only; omega) | rfl) (Sub.slice (i := 49) rfl rfl (by first | omega | (dsimp only; omega) | rfl) (by first | omega | (dsimp only; omega) | rfl) (Sub.int (i := 50) rfl (by first | omega | rfl) (Sub.int (i := 51) rfl (by first | omega | rfl) (Sub.int (i := 56) rfl (by first | omega | rfl) (Sub.int (i := 57) rfl (by first | omega | rfl) (Sub.nil))))))))))) (fun w h => by show St _ (_ ++ blkQ 5 (rs.set j (Dd, gd, cd))) w; rw [set_self hr]; exact h) (fun z hC2 => ?_)
      obtain ⟨i, E⟩ := z
      obtain ⟨hE, hi⟩ := hC2
      dsimp only at hE hi ⊢
      refine TC.seq ?_
      refine TC.regionL ?_
      refine TL.gets (Wants.none rfl) rfl (Gets.lss rfl rfl rfl) ?_
      refine TL.nil ?_
      refine TE.then ?_
      refine TC.sub (Sub.cons (i := 2) rfl (Sub.cons (i := 6) rfl (Sub.cons (i := 9) rfl (Sub.cons (i := 10) rfl (Sub.cons (i := 12) rfl (Sub.cons (i := 49) rfl (Sub.cons (i := 50) rfl (Sub.cons (i := 51) rfl (Sub.cons (i := 56) rfl (Sub.cons (i := 57) rfl (Sub.cons (i := 58) rfl (Sub.nil)))))))))))) ?_
      refine TC.seq ?_
      refine TC.split rfl (fun hq4 => ?_) (fun hq4 => ?_)
      · refine TC.skip ?_
        refine TE.then ?_
        refine TC.sub (Sub.cons (i := 2) rfl (Sub.cons (i := 6) rfl (Sub.cons (i := 9) rfl (Sub.cons (i := 10) rfl (Sub.cons (i := 12) rfl (Sub.cons (i := 49) rfl (Sub.cons (i := 50) rfl (Sub.cons (i := 51) rfl (Sub.cons (i := 56) rfl (Sub.cons (i := 57) rfl (Sub.nil))))))))))) ?_
        refine TC.seq ?_
        refine TC.block ?_
        refine TC.seq ?_
        refine TC.regionL ?_
        refine TL.gets (Wants.none rfl) rfl (Gets.move rfl rfl) ?_
        refine TL.gets (Wants.none rfl) rfl (Gets.assign rfl rfl) ?_
        refine TL.nil ?_
        refine TE.then ?_
        refine TC.sub (Sub.cons (i := 2) rfl (Sub.cons (i := 6) rfl (Sub.cons (i := 9) rfl (Sub.cons (i := 10) rfl (Sub.cons (i := 12) rfl (Sub.cons (i := 13) rfl (Sub.cons (i := 49) rfl (Sub.cons (i := 50) rfl (Sub.cons (i := 51) rfl (Sub.cons (i := 56) rfl (Sub.cons (i := 57) rfl (Sub.nil)))))))))))) ?_
        refine TC.regionL ?_
        refine TL.gets (Wants.none rfl) rfl (Gets.move rfl rfl) ?_
        refine TL.gets (Wants.none rfl) rfl (Gets.move rfl rfl) ?_
        refine TL.gets (Wants.none rfl) rfl (Gets.idxSlice rfl Try.underlying25 size5 rfl rfl (i := i) (by omega) (by omega) (off' := i) (by omega)) ?_
        refine TL.gets (Wants.none rfl) rfl (Gets.load1 rfl agg5 rfl (At.mem (ent := ⟨gd, 5, E.map (Value.int .u8), cd⟩) (List.mem_append_right _ (List.mem_of_getElem? (blkQ_get (set_get hr)))) rfl (ints_get (by omega)))) ?_
        refine TL.gets (Wants.none rfl) rfl (Gets.addU rfl rfl rfl) ?_
        refine TL.gets (Wants.none rfl) rfl (Gets.idxSlice rfl Try.underlying25 size5 rfl rfl (i := i) (by omega) (by omega) (off' := i) (by omega)) ?_
        refine TL.store1 (Wants.none rfl) rfl rfl size5 rfl rfl rfl (i := ([Ent.mk g4 27 ([Value.int .i64 1, Value.int .i64 x0, Value.int .i64 x1, Value.int .i64 x2, Value.slice none 0 0]) 5, Ent.mk g5 27 ([Value.int .i64 2, Value.int .i64 x0, Value.int .i64 0, Value.int .i64 0, Value.slice Al Ps.flatten.length cl]) 5, Ent.mk g1 22 ([Value.int .i64 x0, Value.int .i64 x1, Value.int .i64 x2]) 3] ++ (Hl ++ (Ho ++ Ha))).length + j) (ent := ⟨gd, 5, E.map (Value.int .u8), cd⟩) (st_idx (blkQ_get (set_get hr))) rfl (by simp only [List.length_map]; omega) (cs' := (E.set i (addW .u8 (E.getD i 0) 1)).map (Value.int .u8)) ints_set (H' := ([Ent.mk g4 27 ([Value.int .i64 1, Value.int .i64 x0, Value.int .i64 x1, Value.int .i64 x2, Value.slice none 0 0]) 5, Ent.mk g5 27 ([Value.int .i64 2, Value.int .i64 x0, Value.int .i64 0, Value.int .i64 0, Value.slice Al Ps.flatten.length cl]) 5, Ent.mk g1 22 ([Value.int .i64 x0, Value.int .i64 x1, Value.int .i64 x2]) 3] ++ (Hl ++ (Ho ++ Ha))) ++ blkQ 5 (rs.set j ((E.set i (addW .u8 (E.getD i 0) 1)), gd, cd))) (by rw [st_set]; refine congrArg _ ?_; refine (blkQ_set (q := ((E.set i (addW .u8 (E.getD i 0) 1)), gd, cd))).trans ?_; rw [List.set_set]) ?_
        refine TL.nil ?_
        refine TE.blockN ?_
        refine TE.then ?_
        refine TC.sub (Sub.cons (i := 2) rfl (Sub.cons (i := 6) rfl (Sub.cons (i := 9) rfl (Sub.cons (i := 10) rfl (Sub.cons (i := 12) rfl (Sub.cons (i := 49) rfl (Sub.cons (i := 50) rfl (Sub.cons (i := 51) rfl (Sub.cons (i := 56) rfl (Sub.cons (i := 57) rfl (Sub.nil))))))))))) ?_
        refine TC.regionL ?_
        refine TL.gets (Wants.none rfl) rfl (Gets.add rfl rfl rfl (r := ((i : Int) + 1)) (w64 (by omega) (by omega))) ?_
        refine TL.gets (Wants.none rfl) rfl (Gets.move rfl rfl) ?_
        refine TL.nil ?_
        exact TE.back ((i + 1, (E.set i (addW .u8 (E.getD i 0) 1))) : Nat × List Int) (by show Dd.length - (i + 1) < Dd.length - i; omega) ⟨by show (E.set i (addW .u8 (E.getD i 0) 1)).length = _; rw [List.length_set]; exact hE, by show i + 1 ≤ Dd.length; omega⟩ (Sub.cons (i := 2) rfl (Sub.slice (i := 6) rfl rfl (by first | omega | (dsimp only; omega) | rfl) (by first | omega | (dsimp only; omega) | rfl) (Sub.cons (i := 9) rfl (Sub.cons (i := 10) rfl (Sub.slice (i := 12) rfl rfl (by first | omega | (dsimp only; omega) | rfl) (by first | omega | (dsimp only; omega) | rfl) (Sub.slice (i := 49) rfl rfl (by first | omega | (dsimp only; omega) | rfl) (by first | omega | (dsimp only; omega) | rfl) (Sub.int (i := 50) rfl (by first | omega | rfl) (Sub.int (i := 51) rfl (by first | omega | rfl) (Sub.int (i := 56) rfl (by first | omega | rfl) (Sub.int (i := 57) rfl (by first | omega | rfl) (Sub.nil))))))))))) (fun w h => h)
      · refine TC.exit ?_
        refine TE.thenX ?_
        refine TE.thenX ?_
        refine TE.blockX ?_
        refine TE.blockN ?_
        refine TE.then ?_
        refine TC.sub (Sub.cons (i := 2) rfl (Sub.cons (i := 6) rfl (Sub.cons (i := 9) rfl (Sub.cons (i := 10) rfl (Sub.cons (i := 49) rfl (Sub.cons (i := 50) rfl (Sub.cons (i := 51) rfl (Sub.nil)))))))) ?_
        refine TC.regionL ?_
        refine TL.gets (Wants.none rfl) rfl (Gets.add rfl rfl rfl (r := ((j : Int) + 1)) (w64 (by omega) (by omega))) ?_
        refine TL.gets (Wants.none rfl) rfl (Gets.move rfl rfl) ?_
        refine TL.nil ?_
        exact TE.back ((j + 1, rs.set j (E, gd, cd)) : Nat × List (List Int × Nat × Nat)) (by show qs.length - (j + 1) < qs.length - j; omega) ⟨by show shapeQ (rs.set j (E, gd, cd)) = shapeQ qs; rw [shapeQ_set hr hE]; exact hsh, by show j + 1 ≤ qs.length; omega⟩ (Sub.cons (i := 2) rfl (Sub.slice (i := 6) rfl rfl (by first | omega | (dsimp only; omega) | rfl) (by first | omega | (dsimp only; omega) | rfl) (Sub.cons (i := 9) rfl (Sub.cons (i := 10) rfl (Sub.slice (i := 49) rfl (by first | rfl | (congr 2; omega)) (by first | omega | (dsimp only; omega) | rfl) (by first | omega | (dsimp only; omega) | rfl) (Sub.int (i := 50) rfl (by first | omega | rfl) (Sub.int (i := 51) rfl (by first | omega | rfl) (Sub.nil)))))))) (fun w h => h)
    · refine TC.exit ?_
      refine TE.thenX ?_
      refine TE.thenX ?_
      refine TE.blockX ?_
      refine TE.then ?_
      refine TC.seq ?_
      refine TC.regionL ?_
      refine TL.call0 (Wants.none rfl) rfl enters9 rfl rfl (v := .bool true) (fun w hs => alive_c w) ?_
      refine TL.gets (Wants.none rfl) rfl (Gets.move rfl rfl) ?_
      refine TL.gets (Wants.yes rfl rfl rfl) rfl (Gets.loadN rfl agg27 size27 rfl (vs := [Value.int .i64 1, Value.int .i64 x0, Value.int .i64 x1, Value.int .i64 x2, Value.slice none 0 0]) (by simp []) (Row.all (i := 0) (ent := ⟨g4, 27, [Value.int .i64 1, Value.int .i64 x0, Value.int .i64 x1, Value.int .i64 x2, Value.slice none 0 0], 5⟩) rfl rfl rfl)) ?_
      refine TL.gets (Wants.yes rfl rfl rfl) rfl (Gets.idxArray rfl Try.underlying22 size3 rfl rfl (i := 0) (by rfl) (by omega) (off' := 0) (by omega)) ?_
      refine TL.gets (Wants.yes rfl rfl rfl) rfl (Gets.load1 rfl agg3 rfl (At.ent (i := 2) (ent := ⟨g1, 22, [Value.int .i64 x0, Value.int .i64 x1, Value.int .i64 x2], 3⟩) (off := 0) rfl rfl (by exact rfl))) ?_
      refine TL.gets (Wants.yes rfl rfl rfl) rfl (Gets.idxArray rfl Try.underlying22 size3 rfl rfl (i := 1) (by rfl) (by omega) (off' := 1) (by omega)) ?_
      refine TL.gets (Wants.yes rfl rfl rfl) rfl (Gets.load1 rfl agg3 rfl (At.ent (i := 2) (ent := ⟨g1, 22, [Value.int .i64 x0, Value.int .i64 x1, Value.int .i64 x2], 3⟩) (off := 1) rfl rfl (by exact rfl))) ?_
      refine TL.gets (Wants.yes rfl rfl rfl) rfl (Gets.idxArray rfl Try.underlying22 size3 rfl rfl (i := 2) (by rfl) (by omega) (off' := 2) (by omega)) ?_
      refine TL.gets (Wants.yes rfl rfl rfl) rfl (Gets.load1 rfl agg3 rfl (At.ent (i := 2) (ent := ⟨g1, 22, [Value.int .i64 x0, Value.int .i64 x1, Value.int .i64 x2], 3⟩) (off := 2) rfl rfl (by exact rfl))) ?_
      refine TL.gets (Wants.yes rfl rfl rfl) rfl (Gets.build rfl (vs := [(0, Value.int .i64 1), (1, Value.int .i64 x0), (2, Value.int .i64 x1), (3, Value.int .i64 x2)]) rfl (fun w => by first | rfl | kernel_rfl) (v := .agg ([Value.int .i64 1, Value.int .i64 x0, Value.int .i64 x1, Value.int .i64 x2, Value.slice none 0 0]).toArray)) ?_
      refine TL.call0 (Wants.yes rfl rfl rfl) rfl enters12 rfl rfl (v := .bool true) (fun w hs => (rsame_c 1 x0 x1 x2 1 x0 x1 x2 none none 0 0 0 0 ([] : List Int) ([] : List Int) bytes_no bytes_no w src_no src_no).mono fun e w' h => by rw [decide_eq_true (p := sameP 1 x0 x1 x2 1 x0 x1 x2 ([] : List Int) ([] : List Int)) ⟨rfl, rfl, rfl, rfl, rfl⟩] at h; exact h) ?_
      refine TL.gets (Wants.none rfl) rfl (Gets.pickT rfl rfl rfl) ?_
      refine TL.gets (Wants.none rfl) rfl (Gets.move rfl rfl) ?_
      refine TL.gets (Wants.yes rfl rfl rfl) rfl (Gets.loadN rfl agg27 size27 rfl (vs := [Value.int .i64 2, Value.int .i64 x0, Value.int .i64 0, Value.int .i64 0, Value.slice Al Ps.flatten.length cl]) (by simp []) (Row.all (i := 1) (ent := ⟨g5, 27, [Value.int .i64 2, Value.int .i64 x0, Value.int .i64 0, Value.int .i64 0, Value.slice Al Ps.flatten.length cl], 5⟩) rfl rfl rfl)) ?_
      refine TL.gets (Wants.yes rfl rfl rfl) rfl (Gets.idxArray rfl Try.underlying22 size3 rfl rfl (i := 0) (by rfl) (by omega) (off' := 0) (by omega)) ?_
      refine TL.gets (Wants.yes rfl rfl rfl) rfl (Gets.load1 rfl agg3 rfl (At.ent (i := 2) (ent := ⟨g1, 22, [Value.int .i64 x0, Value.int .i64 x1, Value.int .i64 x2], 3⟩) (off := 0) rfl rfl (by exact rfl))) ?_
      refine TL.gets (Wants.yes rfl rfl rfl) rfl (Gets.move rfl rfl) ?_
      refine TL.gets (Wants.yes rfl rfl rfl) rfl (Gets.build rfl (vs := [(0, Value.int .i64 2), (1, Value.int .i64 x0), (4, Value.slice Av Ps.flatten.length cv)]) rfl (fun w => by first | rfl | kernel_rfl) (v := .agg ([Value.int .i64 2, Value.int .i64 x0, Value.int .i64 0, Value.int .i64 0, Value.slice Av Ps.flatten.length cv]).toArray)) ?_
      refine TL.call0 (Wants.yes rfl rfl rfl) rfl enters12 rfl rfl (v := .bool true) (fun w hs => (rsame_c 2 x0 0 0 2 x0 0 0 Al Av Ps.flatten.length cl Ps.flatten.length cv Ps.flatten Ps.flatten hB hB w (hOl.srcOf (fun e he => hs.has e (by simp [he]))) (hall.srcOf (fun e he => hs.has e (by simp [he])))).mono fun e w' h => by rw [decide_eq_true (p := sameP 2 x0 0 0 2 x0 0 0 Ps.flatten Ps.flatten) ⟨rfl, rfl, rfl, rfl, rfl⟩] at h; exact h) ?_
      refine TL.gets (Wants.none rfl) rfl (Gets.pickT rfl rfl rfl) ?_
      refine TL.gets (Wants.none rfl) rfl (Gets.assign rfl rfl) ?_
      refine TL.nil ?_
      refine TE.then ?_
      refine TC.ret ?_
      exact TE.ret1 rfl rfl (fun w hs => ⟨rfl, St.none hs (Fresh.app (Fresh.app (Fresh.cons (by assumption) (Fresh.cons (by assumption) (Fresh.cons (by assumption) Fresh.nil))) hFp) (blkQ_fresh (okQ_shape hsh hqs)))⟩)


theorem commandMakes_walk (x0 x1 x2 : Int) (Ps : List (List Int)) (A : Option Addr) (m c : Nat) (w : World) (bx0 : -9223372036854775808 ≤ x0 ∧ x0 ≤ 9223372036854775807) (bx1 : -9223372036854775808 ≤ x1 ∧ x1 ≤ 9223372036854775807) (bx2 : -9223372036854775808 ≤ x2 ∧ x2 ≤ 9223372036854775807) (hP : PartsO w A m Ps) (hmc : m ≤ c) (hcm : c ≤ 9223372036854775807) (hB : Bytes Ps.flatten) :
    Calls Try.prog 3 #[.agg ([Value.int .i64 x0, Value.int .i64 x1, Value.int .i64 x2]).toArray, .slice A m c] w fun e w' => e = .returned (.bool true) ∧ St w [] w' := by
  by_cases h : 30 < m
  · exact makes_big x0 x1 x2 A m c h w
  · exact makes_small x0 x1 x2 Ps A m c w hP hmc hcm hB (by omega)
end Go.Proofs.Ytehnkhgcbcfoeaa
