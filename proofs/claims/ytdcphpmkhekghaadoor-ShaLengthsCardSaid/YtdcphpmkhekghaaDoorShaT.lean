/-
  The reference: block.
-/
import Derived.Test.YtdcphpmkhekghaaDoorShaS
namespace Go.Proofs.YtdcphpmkhekghaaDoor
set_option linter.unusedVariables false
set_option linter.unusedSimpArgs false
open Go Go.RowKit


theorem rounds_len {st : List Int} (W : List Int) (h : st.length = 8) : ∀ k, (rounds st W k).length = 8
  | 0 => h
  | k + 1 => rfl
def outF (st V : List Int) : Nat → List Int
  | 0 => []
  | k + 1 => outF st V k ++ [addW .u32 (st.getD k 0) (V.getD k 0)]
theorem outF_len (st V : List Int) : ∀ k, (outF st V k).length = k
  | 0 => rfl
  | k + 1 => by simp [outF, outF_len st V k]
theorem addAll_out {st V : List Int} (h : st.length = 8) : ∀ k, k ≤ 8 → addAll st V k = outF st V k ++ st.drop k
  | 0, _ => by simp [addAll, outF]
  | k + 1, hk => by
    have ih := addAll_out (V := V) h k (by omega)
    have hl := outF_len st V k
    have hd : st.drop k = st.getD k 0 :: st.drop (k + 1) := by
      rw [List.drop_eq_getElem_cons (by omega)]
      simp [List.getD_eq_getElem?_getD, show k < st.length by omega]
    have hg : (outF st V k ++ st.drop k).getD k 0 = st.getD k 0 := by
      rw [List.getD_eq_getElem?_getD, List.getElem?_append_right (by omega), hl, Nat.sub_self, hd]; rfl
    simp only [addAll, outF, ih]
    rw [hg, List.set_append_right _ _ (by omega), hl, Nat.sub_self, hd, List.set_cons_zero]
    simp
theorem mix_out {st B : List Int} (h : st.length = 8) : outF st (rounds st (sched B) 64) 8 = mixS st B := by
  have := addAll_out (V := rounds st (sched B) 64) h 8 (Nat.le_refl _)
  rw [List.drop_eq_nil_of_le (by omega), List.append_nil] at this
  rw [← this]; unfold mixS; rfl

set_option maxRecDepth 100000 in
set_option maxHeartbeats 1000000 in
theorem rblock_c (st W : List Int) (bs os cs bw ow cw bk ok ck : Nat) (w : World) (hst : st.length = 8) (hbs : bs < w.heap.size) (hS : RowI w bs os 8 .u32 st) (hcs : 8 ≤ cs) (hbw : bw < w.heap.size) (hW : RowI w bw ow 64 .u32 W) (hcw : 64 ≤ cw) (hbk : bk < w.heap.size) (hK : RowI w bk ok 64 .u32 KT) (hck : 64 ≤ ck) : Calls Tryd.prog 30 #[.slice (some ⟨bs, os, none⟩) 8 cs, .slice (some ⟨bw, ow, none⟩) 64 cw, .slice (some ⟨bk, ok, none⟩) 64 ck] w fun e w' => ∃ v He, e = .returned v ∧ Own w.heap.size 48 .u32 v (outF st (rounds st W 64) 8) He ∧ St w He w' := by
  refine calls_from (args := [.slice (some ⟨bs, os, none⟩) 8 cs, .slice (some ⟨bw, ow, none⟩) 64 cw, .slice (some ⟨bk, ok, none⟩) 64 ck]) Tryd.func30 rfl Tryd.ntmps30 (by simp) ?_
  refine TC.sub (Sub.cons (i := 0) rfl (Sub.cons (i := 1) rfl (Sub.cons (i := 2) rfl (Sub.nil)))) ?_
  refine TC.seq ?_
  refine TC.regionL ?_
  refine TL.gets (Wants.none rfl) rfl (Gets.assign rfl rfl) ?_
  refine TL.nil ?_
  refine TE.then ?_
  refine TC.seq ?_
  refine TC.regionL ?_
  refine TL.emptySlice (Wants.none rfl) rfl rfl Tryd.underlying44 size48 (fun g1 hg1 => ?_)
  refine TL.gets (Wants.none rfl) rfl (Gets.move rfl rfl) ?_
  refine TL.appendOwn (H := []) (He := [⟨g1, 48, ([] : List Int).map (Value.int .u32), 0⟩]) (Wants.none rfl) rfl rfl Tryd.underlying44 mk48 rfl rfl rfl (W := []) (B := st) (.inr ⟨g1, 0, rfl, rfl, hg1, Nat.le_refl _, by unfold maxLen; omega⟩) (fun w hs => ⟨hst, .inr ⟨bs, os, rfl, Nat.lt_of_lt_of_le hbs hs.size, hS.keepH hs hbs (ne_app ne_nil (ne_cons (by show g1 ≠ bs; omega) ne_nil))⟩⟩) (by simp only [List.length_nil]; omega) (by simp only [List.length_nil]; omega) (fun vo He ho hne => ?_)
  obtain ⟨go, co, rfl, rfl, hgo, hco, hcm⟩ := ho.some (hne (by intro h; cases h))
  rw [List.nil_append] at hco
  have hnl : (([] : List Int) ++ st).length = 8 := hst
  refine TL.heap (H' := [⟨go, 48, st.map (Value.int .u32), co⟩]) (fun w hs => hs) ?_
  refine TL.gets (Wants.none rfl) rfl (Gets.assign rfl rfl) ?_
  refine TL.nil ?_
  refine TE.then ?_
  refine TC.seq ?_
  refine TC.seq ?_
  refine TC.regionL ?_
  refine TL.gets (Wants.none rfl) rfl (Gets.assign rfl rfl) ?_
  refine TL.nil ?_
  refine TE.then ?_
  refine TC.sub (Sub.cons (i := 0) rfl (Sub.cons (i := 1) rfl (Sub.cons (i := 2) rfl (Sub.cons (i := 6) rfl (Sub.cons (i := 7) rfl (Sub.cons (i := 8) rfl (Sub.nil))))))) ?_
  refine TC.block ?_
  refine TC.loop (ι := WG) (fun x => [(0, .slice (some ⟨bs, os, none⟩) 8 cs), (1, .slice (some ⟨bw, ow, none⟩) 64 cw), (2, .slice (some ⟨bk, ok, none⟩) 64 ck), (7, .slice (some ⟨x.g, 0, none⟩) 8 x.c), (8, .int .i64 (x.k : Int))]) (fun x => [⟨x.g, 48, (rounds st W x.k).map (Value.int .u32), x.c⟩]) (fun x => 64 - x.k) (fun x => w.heap.size ≤ x.g ∧ 8 ≤ x.c ∧ x.k ≤ 64) (⟨0, go, co⟩ : WG) ⟨hgo, by show 8 ≤ co; omega, by show 0 ≤ 64; omega⟩ (Sub.slice (i := 0) rfl rfl (by first | omega | (dsimp only; omega) | rfl) (by first | omega | (dsimp only; omega) | rfl) (Sub.slice (i := 1) rfl rfl (by first | omega | (dsimp only; omega) | rfl) (by first | omega | (dsimp only; omega) | rfl) (Sub.slice (i := 2) rfl rfl (by first | omega | (dsimp only; omega) | rfl) (by first | omega | (dsimp only; omega) | rfl) (Sub.slice (i := 7) rfl (by first | rfl | (congr 2; omega)) (by first | omega | (dsimp only; omega) | rfl) (by first | omega | (dsimp only; omega) | rfl) (Sub.int (i := 8) rfl (by first | omega | rfl) (Sub.nil)))))) (fun w h => h) (fun x hC0 => ?_)
  obtain ⟨k, g, c⟩ := x
  obtain ⟨hN, hc, hk⟩ := hC0
  dsimp only at hN hc hk ⊢
  refine TC.seq ?_
  refine TC.seq ?_
  refine TC.regionL ?_
  refine TL.gets (Wants.none rfl) rfl (Gets.move rfl rfl) ?_
  refine TL.gets (Wants.none rfl) rfl (Gets.lss rfl rfl rfl) ?_
  refine TL.nil ?_
  refine TE.then ?_
  refine TC.split rfl (fun hq0 => ?_) (fun hq0 => ?_)
  · refine TC.skip ?_
    refine TE.then ?_
    refine TC.seq ?_
    refine TC.block ?_
    refine TC.seq ?_
    refine TC.regionL ?_
    refine TL.gets (Wants.none rfl) rfl (Gets.move rfl rfl) ?_
    refine TL.gets (Wants.none rfl) rfl (Gets.idxSlice rfl Tryd.underlying44 size48 rfl rfl (i := 4) (by rfl) (by omega) (off' := 4) (by omega)) ?_
    refine TL.gets (Wants.none rfl) rfl (Gets.load1 rfl agg48 rfl (At.ent (i := 0) (ent := ⟨g, 48, (rounds st W k).map (Value.int .u32), c⟩) (off := 4) rfl rfl (by exact ints_get (kd := .u32) (W := rounds st W k) (i := 4) (by rw [(rounds_len W hst k)]; omega)))) ?_
    refine TL.gets (Wants.none rfl) rfl (Gets.assign rfl rfl) ?_
    refine TL.nil ?_
    refine TE.then ?_
    refine TC.sub (Sub.cons (i := 0) rfl (Sub.cons (i := 1) rfl (Sub.cons (i := 2) rfl (Sub.cons (i := 7) rfl (Sub.cons (i := 8) rfl (Sub.cons (i := 9) rfl (Sub.nil))))))) ?_
    refine TC.seq ?_
    refine TC.regionL ?_
    refine TL.gets (Wants.none rfl) rfl (Gets.move rfl rfl) ?_
    refine TL.gets (Wants.none rfl) rfl (Gets.idxSlice rfl Tryd.underlying44 size48 rfl rfl (i := 0) (by rfl) (by omega) (off' := 0) (by omega)) ?_
    refine TL.gets (Wants.none rfl) rfl (Gets.load1 rfl agg48 rfl (At.ent (i := 0) (ent := ⟨g, 48, (rounds st W k).map (Value.int .u32), c⟩) (off := 0) rfl rfl (by exact ints_get (kd := .u32) (W := rounds st W k) (i := 0) (by rw [(rounds_len W hst k)]; omega)))) ?_
    refine TL.gets (Wants.none rfl) rfl (Gets.assign rfl rfl) ?_
    refine TL.nil ?_
    refine TE.then ?_
    refine TC.sub (Sub.cons (i := 0) rfl (Sub.cons (i := 1) rfl (Sub.cons (i := 2) rfl (Sub.cons (i := 7) rfl (Sub.cons (i := 8) rfl (Sub.cons (i := 9) rfl (Sub.cons (i := 10) rfl (Sub.nil)))))))) ?_
    refine TC.seq ?_
    refine TC.mix (by kernel_rfl) [0, 0, 1, 0, 1, 0, 1, 0, 0, 1, 0, 0, 0, 0, 0, 1, 0, 0, 0, 0, 0, 1, 0, 0, 0, 0, 0, 0, 1, 0, 0, 0, 0, 1, 0, 0] rfl (by kernel_rfl) ?_
    refine TM.free (Wants.none rfl) rfl (fun _ => Gets.move rfl rfl) ?_
    refine TM.free (Wants.none rfl) rfl (fun _ => Gets.idxSlice rfl Tryd.underlying44 size48 rfl rfl (i := 7) (by rfl) (by omega) (off' := 7) (by omega)) ?_
    refine TM.gets (Wants.none rfl) rfl (Gets.load1 rfl agg48 rfl (At.ent (i := 0) (ent := ⟨g, 48, (rounds st W k).map (Value.int .u32), c⟩) (off := 7) rfl rfl (by exact ints_get (kd := .u32) (W := rounds st W k) (i := 7) (by rw [(rounds_len W hst k)]; omega)))) ?_
    refine TM.free (Wants.none rfl) rfl (fun _ => Gets.move rfl rfl) ?_
    refine TM.call0 (Wants.none rfl) rfl enters35 rfl rfl (v := .int .u32 (rotr ((rounds st W k).getD 4 0) 6)) (fun w hs => rrotate_c ((rounds st W k).getD 4 0) 6 w (by omega) (by omega)) ?_
    refine TM.free (Wants.none rfl) rfl (fun _ => Gets.move rfl rfl) ?_
    refine TM.call0 (Wants.none rfl) rfl enters35 rfl rfl (v := .int .u32 (rotr ((rounds st W k).getD 4 0) 11)) (fun w hs => rrotate_c ((rounds st W k).getD 4 0) 11 w (by omega) (by omega)) ?_
    refine TM.free (Wants.none rfl) rfl (fun _ => Gets.xor rfl rfl rfl (r := (xorI .u32 (rotr ((rounds st W k).getD 4 0) 6) (rotr ((rounds st W k).getD 4 0) 11))) rfl) ?_
    refine TM.free (Wants.none rfl) rfl (fun _ => Gets.move rfl rfl) ?_
    refine TM.call0 (Wants.none rfl) rfl enters35 rfl rfl (v := .int .u32 (rotr ((rounds st W k).getD 4 0) 25)) (fun w hs => rrotate_c ((rounds st W k).getD 4 0) 25 w (by omega) (by omega)) ?_
    refine TM.free (Wants.none rfl) rfl (fun _ => Gets.xor rfl rfl rfl (r := (xorI .u32 (xorI .u32 (rotr ((rounds st W k).getD 4 0) 6) (rotr ((rounds st W k).getD 4 0) 11)) (rotr ((rounds st W k).getD 4 0) 25))) rfl) ?_
    refine TM.free (Wants.none rfl) rfl (fun _ => Gets.addU rfl rfl rfl) ?_
    refine TM.free (Wants.none rfl) rfl (fun _ => Gets.move rfl rfl) ?_
    refine TM.free (Wants.none rfl) rfl (fun _ => Gets.move rfl rfl) ?_
    refine TM.free (Wants.none rfl) rfl (fun _ => Gets.idxSlice rfl Tryd.underlying44 size48 rfl rfl (i := 5) (by rfl) (by omega) (off' := 5) (by omega)) ?_
    refine TM.gets (Wants.none rfl) rfl (Gets.load1 rfl agg48 rfl (At.ent (i := 0) (ent := ⟨g, 48, (rounds st W k).map (Value.int .u32), c⟩) (off := 5) rfl rfl (by exact ints_get (kd := .u32) (W := rounds st W k) (i := 5) (by rw [(rounds_len W hst k)]; omega)))) ?_
    refine TM.free (Wants.none rfl) rfl (fun _ => Gets.and rfl rfl rfl (r := (andI .u32 ((rounds st W k).getD 4 0) ((rounds st W k).getD 5 0))) rfl) ?_
    refine TM.free (Wants.none rfl) rfl (fun _ => Gets.move rfl rfl) ?_
    refine TM.free (Wants.none rfl) rfl (fun _ => Gets.cplU rfl rfl) ?_
    refine TM.free (Wants.none rfl) rfl (fun _ => Gets.move rfl rfl) ?_
    refine TM.free (Wants.none rfl) rfl (fun _ => Gets.idxSlice rfl Tryd.underlying44 size48 rfl rfl (i := 6) (by rfl) (by omega) (off' := 6) (by omega)) ?_
    refine TM.gets (Wants.none rfl) rfl (Gets.load1 rfl agg48 rfl (At.ent (i := 0) (ent := ⟨g, 48, (rounds st W k).map (Value.int .u32), c⟩) (off := 6) rfl rfl (by exact ints_get (kd := .u32) (W := rounds st W k) (i := 6) (by rw [(rounds_len W hst k)]; omega)))) ?_
    refine TM.free (Wants.none rfl) rfl (fun _ => Gets.and rfl rfl rfl (r := (andI .u32 (cplI .u32 ((rounds st W k).getD 4 0)) ((rounds st W k).getD 6 0))) rfl) ?_
    refine TM.free (Wants.none rfl) rfl (fun _ => Gets.xor rfl rfl rfl (r := (xorI .u32 (andI .u32 ((rounds st W k).getD 4 0) ((rounds st W k).getD 5 0)) (andI .u32 (cplI .u32 ((rounds st W k).getD 4 0)) ((rounds st W k).getD 6 0)))) rfl) ?_
    refine TM.free (Wants.none rfl) rfl (fun _ => Gets.addU rfl rfl rfl) ?_
    refine TM.free (Wants.none rfl) rfl (fun _ => Gets.move rfl rfl) ?_
    refine TM.free (Wants.none rfl) rfl (fun _ => Gets.move rfl rfl) ?_
    refine TM.free (Wants.none rfl) rfl (fun _ => Gets.idxSlice rfl Tryd.underlying44 size48 rfl rfl (i := k) (by omega) (by omega) (off' := (ok + k)) (by omega)) ?_
    refine TM.gets (Wants.none rfl) rfl (Gets.load1 rfl agg48 rfl (At.rowI hK (i := k) (by omega) (by omega) hbk (ne_cons (by show g ≠ bk; omega) ne_nil))) ?_
    refine TM.free (Wants.none rfl) rfl (fun _ => Gets.addU rfl rfl rfl) ?_
    refine TM.free (Wants.none rfl) rfl (fun _ => Gets.move rfl rfl) ?_
    refine TM.free (Wants.none rfl) rfl (fun _ => Gets.move rfl rfl) ?_
    refine TM.free (Wants.none rfl) rfl (fun _ => Gets.idxSlice rfl Tryd.underlying44 size48 rfl rfl (i := k) (by omega) (by omega) (off' := (ow + k)) (by omega)) ?_
    refine TM.gets (Wants.none rfl) rfl (Gets.load1 rfl agg48 rfl (At.rowI hW (i := k) (by omega) (by omega) hbw (ne_cons (by show g ≠ bw; omega) ne_nil))) ?_
    refine TM.free (Wants.none rfl) rfl (fun _ => Gets.addU rfl rfl rfl) ?_
    refine TM.free (Wants.none rfl) rfl (fun _ => Gets.assign rfl rfl) ?_
    refine TM.nil ?_
    refine TE.then ?_
    refine TC.sub (Sub.cons (i := 0) rfl (Sub.cons (i := 1) rfl (Sub.cons (i := 2) rfl (Sub.cons (i := 7) rfl (Sub.cons (i := 8) rfl (Sub.cons (i := 10) rfl (Sub.cons (i := 11) rfl (Sub.nil)))))))) ?_
    refine TC.seq ?_
    refine TC.mix (by kernel_rfl) [0, 1, 0, 1, 0, 0, 1, 0, 0, 0, 0, 1, 0, 0, 0, 0, 1, 0, 0, 0, 0, 1, 0, 0, 1, 0, 0, 0, 0] rfl (by kernel_rfl) ?_
    refine TM.free (Wants.none rfl) rfl (fun _ => Gets.move rfl rfl) ?_
    refine TM.call0 (Wants.none rfl) rfl enters35 rfl rfl (v := .int .u32 (rotr ((rounds st W k).getD 0 0) 2)) (fun w hs => rrotate_c ((rounds st W k).getD 0 0) 2 w (by omega) (by omega)) ?_
    refine TM.free (Wants.none rfl) rfl (fun _ => Gets.move rfl rfl) ?_
    refine TM.call0 (Wants.none rfl) rfl enters35 rfl rfl (v := .int .u32 (rotr ((rounds st W k).getD 0 0) 13)) (fun w hs => rrotate_c ((rounds st W k).getD 0 0) 13 w (by omega) (by omega)) ?_
    refine TM.free (Wants.none rfl) rfl (fun _ => Gets.xor rfl rfl rfl (r := (xorI .u32 (rotr ((rounds st W k).getD 0 0) 2) (rotr ((rounds st W k).getD 0 0) 13))) rfl) ?_
    refine TM.free (Wants.none rfl) rfl (fun _ => Gets.move rfl rfl) ?_
    refine TM.call0 (Wants.none rfl) rfl enters35 rfl rfl (v := .int .u32 (rotr ((rounds st W k).getD 0 0) 22)) (fun w hs => rrotate_c ((rounds st W k).getD 0 0) 22 w (by omega) (by omega)) ?_
    refine TM.free (Wants.none rfl) rfl (fun _ => Gets.xor rfl rfl rfl (r := (xorI .u32 (xorI .u32 (rotr ((rounds st W k).getD 0 0) 2) (rotr ((rounds st W k).getD 0 0) 13)) (rotr ((rounds st W k).getD 0 0) 22))) rfl) ?_
    refine TM.free (Wants.none rfl) rfl (fun _ => Gets.move rfl rfl) ?_
    refine TM.free (Wants.none rfl) rfl (fun _ => Gets.move rfl rfl) ?_
    refine TM.free (Wants.none rfl) rfl (fun _ => Gets.idxSlice rfl Tryd.underlying44 size48 rfl rfl (i := 1) (by rfl) (by omega) (off' := 1) (by omega)) ?_
    refine TM.gets (Wants.none rfl) rfl (Gets.load1 rfl agg48 rfl (At.ent (i := 0) (ent := ⟨g, 48, (rounds st W k).map (Value.int .u32), c⟩) (off := 1) rfl rfl (by exact ints_get (kd := .u32) (W := rounds st W k) (i := 1) (by rw [(rounds_len W hst k)]; omega)))) ?_
    refine TM.free (Wants.none rfl) rfl (fun _ => Gets.and rfl rfl rfl (r := (andI .u32 ((rounds st W k).getD 0 0) ((rounds st W k).getD 1 0))) rfl) ?_
    refine TM.free (Wants.none rfl) rfl (fun _ => Gets.move rfl rfl) ?_
    refine TM.free (Wants.none rfl) rfl (fun _ => Gets.move rfl rfl) ?_
    refine TM.free (Wants.none rfl) rfl (fun _ => Gets.idxSlice rfl Tryd.underlying44 size48 rfl rfl (i := 2) (by rfl) (by omega) (off' := 2) (by omega)) ?_
    refine TM.gets (Wants.none rfl) rfl (Gets.load1 rfl agg48 rfl (At.ent (i := 0) (ent := ⟨g, 48, (rounds st W k).map (Value.int .u32), c⟩) (off := 2) rfl rfl (by exact ints_get (kd := .u32) (W := rounds st W k) (i := 2) (by rw [(rounds_len W hst k)]; omega)))) ?_
    refine TM.free (Wants.none rfl) rfl (fun _ => Gets.and rfl rfl rfl (r := (andI .u32 ((rounds st W k).getD 0 0) ((rounds st W k).getD 2 0))) rfl) ?_
    refine TM.free (Wants.none rfl) rfl (fun _ => Gets.xor rfl rfl rfl (r := (xorI .u32 (andI .u32 ((rounds st W k).getD 0 0) ((rounds st W k).getD 1 0)) (andI .u32 ((rounds st W k).getD 0 0) ((rounds st W k).getD 2 0)))) rfl) ?_
    refine TM.free (Wants.none rfl) rfl (fun _ => Gets.move rfl rfl) ?_
    refine TM.free (Wants.none rfl) rfl (fun _ => Gets.idxSlice rfl Tryd.underlying44 size48 rfl rfl (i := 1) (by rfl) (by omega) (off' := 1) (by omega)) ?_
    refine TM.gets (Wants.none rfl) rfl (Gets.load1 rfl agg48 rfl (At.ent (i := 0) (ent := ⟨g, 48, (rounds st W k).map (Value.int .u32), c⟩) (off := 1) rfl rfl (by exact ints_get (kd := .u32) (W := rounds st W k) (i := 1) (by rw [(rounds_len W hst k)]; omega)))) ?_
    refine TM.free (Wants.none rfl) rfl (fun _ => Gets.move rfl rfl) ?_
    refine TM.free (Wants.none rfl) rfl (fun _ => Gets.idxSlice rfl Tryd.underlying44 size48 rfl rfl (i := 2) (by rfl) (by omega) (off' := 2) (by omega)) ?_
    refine TM.gets (Wants.none rfl) rfl (Gets.load1 rfl agg48 rfl (At.ent (i := 0) (ent := ⟨g, 48, (rounds st W k).map (Value.int .u32), c⟩) (off := 2) rfl rfl (by exact ints_get (kd := .u32) (W := rounds st W k) (i := 2) (by rw [(rounds_len W hst k)]; omega)))) ?_
    refine TM.free (Wants.none rfl) rfl (fun _ => Gets.and rfl rfl rfl (r := (andI .u32 ((rounds st W k).getD 1 0) ((rounds st W k).getD 2 0))) rfl) ?_
    refine TM.free (Wants.none rfl) rfl (fun _ => Gets.xor rfl rfl rfl (r := (xorI .u32 (xorI .u32 (andI .u32 ((rounds st W k).getD 0 0) ((rounds st W k).getD 1 0)) (andI .u32 ((rounds st W k).getD 0 0) ((rounds st W k).getD 2 0))) (andI .u32 ((rounds st W k).getD 1 0) ((rounds st W k).getD 2 0)))) rfl) ?_
    refine TM.free (Wants.none rfl) rfl (fun _ => Gets.addU rfl rfl rfl) ?_
    refine TM.free (Wants.none rfl) rfl (fun _ => Gets.assign rfl rfl) ?_
    refine TM.nil ?_
    refine TE.then ?_
    refine TC.sub (Sub.cons (i := 0) rfl (Sub.cons (i := 1) rfl (Sub.cons (i := 2) rfl (Sub.cons (i := 7) rfl (Sub.cons (i := 8) rfl (Sub.cons (i := 11) rfl (Sub.cons (i := 12) rfl (Sub.nil)))))))) ?_
    refine TC.mix3 (by kernel_rfl) [0, 0, 0, 0, 0, 1, 0, 0, 1, 0, 0, 1, 0, 0, 1, 0, 0, 0, 0, 1, 0, 0, 1, 0, 0, 1, 3, 0] rfl (by kernel_rfl) ?_
    refine TN.free (Wants.none rfl) rfl (fun _ => Gets.move rfl rfl) ?_
    refine TN.free (Wants.none rfl) rfl (fun _ => Gets.move rfl rfl) ?_
    refine TN.free (Wants.none rfl) rfl (fun _ => Gets.addU rfl rfl rfl) ?_
    refine TN.free (Wants.none rfl) rfl (fun _ => Gets.move rfl rfl) ?_
    refine TN.free (Wants.none rfl) rfl (fun _ => Gets.idxSlice rfl Tryd.underlying44 size48 rfl rfl (i := 0) (by rfl) (by omega) (off' := 0) (by omega)) ?_
    refine TN.gets (Wants.none rfl) rfl (Gets.load1 rfl agg48 rfl (At.ent (i := 0) (ent := ⟨g, 48, (rounds st W k).map (Value.int .u32), c⟩) (off := 0) rfl rfl (by exact ints_get (kd := .u32) (W := rounds st W k) (i := 0) (by rw [(rounds_len W hst k)]; omega)))) ?_
    refine TN.free (Wants.none rfl) rfl (fun _ => Gets.move rfl rfl) ?_
    refine TN.free (Wants.none rfl) rfl (fun _ => Gets.idxSlice rfl Tryd.underlying44 size48 rfl rfl (i := 1) (by rfl) (by omega) (off' := 1) (by omega)) ?_
    refine TN.gets (Wants.none rfl) rfl (Gets.load1 rfl agg48 rfl (At.ent (i := 0) (ent := ⟨g, 48, (rounds st W k).map (Value.int .u32), c⟩) (off := 1) rfl rfl (by exact ints_get (kd := .u32) (W := rounds st W k) (i := 1) (by rw [(rounds_len W hst k)]; omega)))) ?_
    refine TN.free (Wants.none rfl) rfl (fun _ => Gets.move rfl rfl) ?_
    refine TN.free (Wants.none rfl) rfl (fun _ => Gets.idxSlice rfl Tryd.underlying44 size48 rfl rfl (i := 2) (by rfl) (by omega) (off' := 2) (by omega)) ?_
    refine TN.gets (Wants.none rfl) rfl (Gets.load1 rfl agg48 rfl (At.ent (i := 0) (ent := ⟨g, 48, (rounds st W k).map (Value.int .u32), c⟩) (off := 2) rfl rfl (by exact ints_get (kd := .u32) (W := rounds st W k) (i := 2) (by rw [(rounds_len W hst k)]; omega)))) ?_
    refine TN.free (Wants.none rfl) rfl (fun _ => Gets.move rfl rfl) ?_
    refine TN.free (Wants.none rfl) rfl (fun _ => Gets.idxSlice rfl Tryd.underlying44 size48 rfl rfl (i := 3) (by rfl) (by omega) (off' := 3) (by omega)) ?_
    refine TN.gets (Wants.none rfl) rfl (Gets.load1 rfl agg48 rfl (At.ent (i := 0) (ent := ⟨g, 48, (rounds st W k).map (Value.int .u32), c⟩) (off := 3) rfl rfl (by exact ints_get (kd := .u32) (W := rounds st W k) (i := 3) (by rw [(rounds_len W hst k)]; omega)))) ?_
    refine TN.free (Wants.none rfl) rfl (fun _ => Gets.move rfl rfl) ?_
    refine TN.free (Wants.none rfl) rfl (fun _ => Gets.addU rfl rfl rfl) ?_
    refine TN.free (Wants.none rfl) rfl (fun _ => Gets.move rfl rfl) ?_
    refine TN.free (Wants.none rfl) rfl (fun _ => Gets.idxSlice rfl Tryd.underlying44 size48 rfl rfl (i := 4) (by rfl) (by omega) (off' := 4) (by omega)) ?_
    refine TN.gets (Wants.none rfl) rfl (Gets.load1 rfl agg48 rfl (At.ent (i := 0) (ent := ⟨g, 48, (rounds st W k).map (Value.int .u32), c⟩) (off := 4) rfl rfl (by exact ints_get (kd := .u32) (W := rounds st W k) (i := 4) (by rw [(rounds_len W hst k)]; omega)))) ?_
    refine TN.free (Wants.none rfl) rfl (fun _ => Gets.move rfl rfl) ?_
    refine TN.free (Wants.none rfl) rfl (fun _ => Gets.idxSlice rfl Tryd.underlying44 size48 rfl rfl (i := 5) (by rfl) (by omega) (off' := 5) (by omega)) ?_
    refine TN.gets (Wants.none rfl) rfl (Gets.load1 rfl agg48 rfl (At.ent (i := 0) (ent := ⟨g, 48, (rounds st W k).map (Value.int .u32), c⟩) (off := 5) rfl rfl (by exact ints_get (kd := .u32) (W := rounds st W k) (i := 5) (by rw [(rounds_len W hst k)]; omega)))) ?_
    refine TN.free (Wants.none rfl) rfl (fun _ => Gets.move rfl rfl) ?_
    refine TN.free (Wants.none rfl) rfl (fun _ => Gets.idxSlice rfl Tryd.underlying44 size48 rfl rfl (i := 6) (by rfl) (by omega) (off' := 6) (by omega)) ?_
    refine TN.gets (Wants.none rfl) rfl (Gets.load1 rfl agg48 rfl (At.ent (i := 0) (ent := ⟨g, 48, (rounds st W k).map (Value.int .u32), c⟩) (off := 6) rfl rfl (by exact ints_get (kd := .u32) (W := rounds st W k) (i := 6) (by rw [(rounds_len W hst k)]; omega)))) ?_
    refine TN.buildSlice (Wants.none rfl) rfl rfl Tryd.underlying44 size48 zero48 rfl (by decide) (by decide) (cells := #[.int .u32 (addW .u32 (addW .u32 (addW .u32 (addW .u32 (addW .u32 ((rounds st W k).getD 7 0) (xorI .u32 (xorI .u32 (rotr ((rounds st W k).getD 4 0) 6) (rotr ((rounds st W k).getD 4 0) 11)) (rotr ((rounds st W k).getD 4 0) 25))) (xorI .u32 (andI .u32 ((rounds st W k).getD 4 0) ((rounds st W k).getD 5 0)) (andI .u32 (cplI .u32 ((rounds st W k).getD 4 0)) ((rounds st W k).getD 6 0)))) (KT.getD k 0)) (W.getD k 0)) (addW .u32 (xorI .u32 (xorI .u32 (rotr ((rounds st W k).getD 0 0) 2) (rotr ((rounds st W k).getD 0 0) 13)) (rotr ((rounds st W k).getD 0 0) 22)) (xorI .u32 (xorI .u32 (andI .u32 ((rounds st W k).getD 0 0) ((rounds st W k).getD 1 0)) (andI .u32 ((rounds st W k).getD 0 0) ((rounds st W k).getD 2 0))) (andI .u32 ((rounds st W k).getD 1 0) ((rounds st W k).getD 2 0))))), .int .u32 ((rounds st W k).getD 0 0), .int .u32 ((rounds st W k).getD 1 0), .int .u32 ((rounds st W k).getD 2 0), .int .u32 (addW .u32 ((rounds st W k).getD 3 0) (addW .u32 (addW .u32 (addW .u32 (addW .u32 ((rounds st W k).getD 7 0) (xorI .u32 (xorI .u32 (rotr ((rounds st W k).getD 4 0) 6) (rotr ((rounds st W k).getD 4 0) 11)) (rotr ((rounds st W k).getD 4 0) 25))) (xorI .u32 (andI .u32 ((rounds st W k).getD 4 0) ((rounds st W k).getD 5 0)) (andI .u32 (cplI .u32 ((rounds st W k).getD 4 0)) ((rounds st W k).getD 6 0)))) (KT.getD k 0)) (W.getD k 0))), .int .u32 ((rounds st W k).getD 4 0), .int .u32 ((rounds st W k).getD 5 0), .int .u32 ((rounds st W k).getD 6 0)]) (tot := 8) (by kernel_rfl) (cs := [.int .u32 (addW .u32 (addW .u32 (addW .u32 (addW .u32 (addW .u32 ((rounds st W k).getD 7 0) (xorI .u32 (xorI .u32 (rotr ((rounds st W k).getD 4 0) 6) (rotr ((rounds st W k).getD 4 0) 11)) (rotr ((rounds st W k).getD 4 0) 25))) (xorI .u32 (andI .u32 ((rounds st W k).getD 4 0) ((rounds st W k).getD 5 0)) (andI .u32 (cplI .u32 ((rounds st W k).getD 4 0)) ((rounds st W k).getD 6 0)))) (KT.getD k 0)) (W.getD k 0)) (addW .u32 (xorI .u32 (xorI .u32 (rotr ((rounds st W k).getD 0 0) 2) (rotr ((rounds st W k).getD 0 0) 13)) (rotr ((rounds st W k).getD 0 0) 22)) (xorI .u32 (xorI .u32 (andI .u32 ((rounds st W k).getD 0 0) ((rounds st W k).getD 1 0)) (andI .u32 ((rounds st W k).getD 0 0) ((rounds st W k).getD 2 0))) (andI .u32 ((rounds st W k).getD 1 0) ((rounds st W k).getD 2 0))))), .int .u32 ((rounds st W k).getD 0 0), .int .u32 ((rounds st W k).getD 1 0), .int .u32 ((rounds st W k).getD 2 0), .int .u32 (addW .u32 ((rounds st W k).getD 3 0) (addW .u32 (addW .u32 (addW .u32 (addW .u32 ((rounds st W k).getD 7 0) (xorI .u32 (xorI .u32 (rotr ((rounds st W k).getD 4 0) 6) (rotr ((rounds st W k).getD 4 0) 11)) (rotr ((rounds st W k).getD 4 0) 25))) (xorI .u32 (andI .u32 ((rounds st W k).getD 4 0) ((rounds st W k).getD 5 0)) (andI .u32 (cplI .u32 ((rounds st W k).getD 4 0)) ((rounds st W k).getD 6 0)))) (KT.getD k 0)) (W.getD k 0))), .int .u32 ((rounds st W k).getD 4 0), .int .u32 ((rounds st W k).getD 5 0), .int .u32 ((rounds st W k).getD 6 0)]) rfl rfl (fun g2 hg2 => ?_)
    refine TN.free (Wants.none rfl) rfl (fun _ => Gets.assign rfl rfl) ?_
    refine TN.nil ?_
    refine TE.blockN ?_
    refine TE.then ?_
    refine TC.sub (Sub.cons (i := 0) rfl (Sub.cons (i := 1) rfl (Sub.cons (i := 2) rfl (Sub.cons (i := 7) rfl (Sub.cons (i := 8) rfl (Sub.nil)))))) ?_
    refine TC.regionL ?_
    refine TL.gets (Wants.none rfl) rfl (Gets.move rfl rfl) ?_
    refine TL.gets (Wants.none rfl) rfl (Gets.add rfl rfl rfl (r := ((k : Int) + 1)) (w64 (by omega) (by omega))) ?_
    refine TL.gets (Wants.none rfl) rfl (Gets.assign rfl rfl) ?_
    refine TL.nil ?_
    exact TE.back (⟨k + 1, g2, 8⟩ : WG) (by show 64 - (k + 1) < 64 - k; omega) ⟨hg2, Nat.le_refl _, by show k + 1 ≤ 64; omega⟩ (Sub.slice (i := 0) rfl rfl (by first | omega | (dsimp only; omega) | rfl) (by first | omega | (dsimp only; omega) | rfl) (Sub.slice (i := 1) rfl rfl (by first | omega | (dsimp only; omega) | rfl) (by first | omega | (dsimp only; omega) | rfl) (Sub.slice (i := 2) rfl rfl (by first | omega | (dsimp only; omega) | rfl) (by first | omega | (dsimp only; omega) | rfl) (Sub.slice (i := 7) rfl (by first | rfl | (congr 2; omega)) (by first | omega | (dsimp only; omega) | rfl) (by first | omega | (dsimp only; omega) | rfl) (Sub.int (i := 8) rfl (by first | omega | rfl) (Sub.nil)))))) (fun w h => h.erase (i := 1) rfl hN)
  · obtain rfl : k = 64 := by omega
    have Vl := rounds_len W hst 64
    generalize hV : rounds st W 64 = V at Vl ⊢
    refine TC.exit ?_
    refine TE.thenX ?_
    refine TE.thenX ?_
    refine TE.blockX ?_
    refine TE.then ?_
    refine TC.seq ?_
    refine TC.regionL ?_
    refine TL.gets (Wants.none rfl) rfl (Gets.assign rfl rfl) ?_
    refine TL.nil ?_
    refine TE.then ?_
    refine TC.seq ?_
    refine TC.seq ?_
    refine TC.regionL ?_
    refine TL.gets (Wants.none rfl) rfl (Gets.assign rfl rfl) ?_
    refine TL.nil ?_
    refine TE.then ?_
    refine TC.sub (Sub.cons (i := 0) rfl (Sub.cons (i := 7) rfl (Sub.cons (i := 13) rfl (Sub.cons (i := 14) rfl (Sub.nil))))) ?_
    refine TC.block ?_
    refine TC.loop (ι := WV) (fun x => [(0, .slice (some ⟨bs, os, none⟩) 8 cs), (7, .slice (some ⟨g, 0, none⟩) 8 c), (13, x.v), (14, .int .i64 (x.k : Int))]) (fun x => [⟨g, 48, V.map (Value.int .u32), c⟩] ++ x.He) (fun x => 8 - x.k) (fun x => Own w.heap.size 48 .u32 x.v (outF st V x.k) x.He ∧ x.k ≤ 8) (⟨0, .slice none 0 0, []⟩ : WV) ⟨Own.nil _ _ _, by show 0 ≤ 8; omega⟩ (Sub.slice (i := 0) rfl rfl (by first | omega | (dsimp only; omega) | rfl) (by first | omega | (dsimp only; omega) | rfl) (Sub.slice (i := 7) rfl rfl (by first | omega | (dsimp only; omega) | rfl) (by first | omega | (dsimp only; omega) | rfl) (Sub.cons (i := 13) rfl (Sub.int (i := 14) rfl (by first | omega | rfl) (Sub.nil))))) (fun w h => h) (fun x hC1 => ?_)
    obtain ⟨k, v, He⟩ := x
    obtain ⟨hown, hC2⟩ := hC1
    dsimp only at hown hC2 ⊢
    refine TC.seq ?_
    refine TC.seq ?_
    refine TC.regionL ?_
    refine TL.gets (Wants.none rfl) rfl (Gets.move rfl rfl) ?_
    refine TL.gets (Wants.none rfl) rfl (Gets.lss rfl rfl rfl) ?_
    refine TL.nil ?_
    refine TE.then ?_
    refine TC.split rfl (fun hq1 => ?_) (fun hq1 => ?_)
    · refine TC.skip ?_
      refine TE.then ?_
      refine TC.seq ?_
      refine TC.block ?_
      refine TC.mix3 (by kernel_rfl) [0, 0, 0, 0, 1, 0, 0, 0, 1, 0, 3, 3, 0] rfl (by kernel_rfl) ?_
      refine TN.free (Wants.none rfl) rfl (fun _ => Gets.move rfl rfl) ?_
      refine TN.free (Wants.none rfl) rfl (fun _ => Gets.move rfl rfl) ?_
      refine TN.free (Wants.none rfl) rfl (fun _ => Gets.move rfl rfl) ?_
      refine TN.free (Wants.none rfl) rfl (fun _ => Gets.idxSlice rfl Tryd.underlying44 size48 rfl rfl (i := k) (by omega) (by omega) (off' := (os + k)) (by omega)) ?_
      refine TN.gets (Wants.none rfl) rfl (Gets.load1 rfl agg48 rfl (At.rowI hS (i := k) (by omega) (by omega) hbs (ne_app (ne_cons (by show g ≠ bs; omega) ne_nil) (hown.ne hbs)))) ?_
      refine TN.free (Wants.none rfl) rfl (fun _ => Gets.move rfl rfl) ?_
      refine TN.free (Wants.none rfl) rfl (fun _ => Gets.move rfl rfl) ?_
      refine TN.free (Wants.none rfl) rfl (fun _ => Gets.idxSlice rfl Tryd.underlying44 size48 rfl rfl (i := k) (by omega) (by omega) (off' := k) (by omega)) ?_
      refine TN.gets (Wants.none rfl) rfl (Gets.load1 rfl agg48 rfl (At.ent (i := 0) (ent := ⟨g, 48, V.map (Value.int .u32), c⟩) (off := k) rfl rfl (by have := ints_get (kd := .u32) (W := V) (i := k) (by rw [Vl]; omega); (first | exact this | (refine Eq.trans ?_ this; congr 1; omega))))) ?_
      refine TN.free (Wants.none rfl) rfl (fun _ => Gets.addU rfl rfl rfl) ?_
      refine TN.buildSlice (Wants.none rfl) rfl rfl Tryd.underlying44 size48 zero48 rfl (by decide) (by decide) (cells := #[.int .u32 (addW .u32 (st.getD k 0) (V.getD k 0))]) (tot := 1) (by kernel_rfl) (cs := [.int .u32 (addW .u32 (st.getD k 0) (V.getD k 0))]) rfl rfl (fun g3 hg3 => ?_)
      refine TN.appendOwn (H := [⟨g3, 48, [Value.int .u32 (addW .u32 (st.getD k 0) (V.getD k 0))], 1⟩, ⟨g, 48, V.map (Value.int .u32), c⟩]) (sl := 1) (t := 44) (e := 48) (kd := .u32) (Wants.none rfl) rfl rfl Tryd.underlying44 mk48 rfl rfl rfl (W := outF st V k) (B := [(addW .u32 (st.getD k 0) (V.getD k 0))]) hown (fun w hs => src_ent (W := [(addW .u32 (st.getD k 0) (V.getD k 0))]) (hs.has ⟨g3, 48, [Value.int .u32 (addW .u32 (st.getD k 0) (V.getD k 0))], 1⟩ (by simp)) rfl) (by have := outF_len st V k; omega) (by have := outF_len st V k; omega) (fun vo Ho ho hne => ?_)
      refine TN.free (Wants.none rfl) rfl (fun _ => Gets.assign rfl rfl) ?_
      refine TN.nil ?_
      refine TE.blockN ?_
      refine TE.then ?_
      refine TC.sub (Sub.cons (i := 0) rfl (Sub.cons (i := 7) rfl (Sub.cons (i := 13) rfl (Sub.cons (i := 14) rfl (Sub.nil))))) ?_
      refine TC.regionL ?_
      refine TL.gets (Wants.none rfl) rfl (Gets.move rfl rfl) ?_
      refine TL.gets (Wants.none rfl) rfl (Gets.add rfl rfl rfl (r := ((k : Int) + 1)) (w64 (by omega) (by omega))) ?_
      refine TL.gets (Wants.none rfl) rfl (Gets.assign rfl rfl) ?_
      refine TL.nil ?_
      exact TE.back (⟨k + 1, vo, Ho⟩ : WV) (by show 8 - (k + 1) < 8 - k; omega) ⟨ho, by show k + 1 ≤ 8; omega⟩ (Sub.slice (i := 0) rfl rfl (by first | omega | (dsimp only; omega) | rfl) (by first | omega | (dsimp only; omega) | rfl) (Sub.slice (i := 7) rfl rfl (by first | omega | (dsimp only; omega) | rfl) (by first | omega | (dsimp only; omega) | rfl) (Sub.cons (i := 13) rfl (Sub.int (i := 14) rfl (by first | omega | rfl) (Sub.nil))))) (fun w h => h.drop (by assumption))
    · obtain rfl : k = 8 := by omega
      refine TC.exit ?_
      refine TE.thenX ?_
      refine TE.thenX ?_
      refine TE.blockX ?_
      refine TE.then ?_
      refine TC.seq ?_
      refine TC.regionL ?_
      refine TL.gets (Wants.none rfl) rfl (Gets.move rfl rfl) ?_
      refine TL.gets (Wants.none rfl) rfl (Gets.assign rfl rfl) ?_
      refine TL.nil ?_
      refine TE.then ?_
      refine TC.ret ?_
      exact TE.ret1 rfl rfl (fun w hs => ⟨v, He, rfl, hown, hs.drop hN⟩)
end Go.Proofs.YtdcphpmkhekghaaDoor
