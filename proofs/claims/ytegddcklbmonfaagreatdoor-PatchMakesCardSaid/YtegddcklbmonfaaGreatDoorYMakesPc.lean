/-
 A region that draws its order, with operations that change what the region or the call has made: kind 0 reads nothing that is changed or made, kind 3 makes blocks, kind 7 reads or changes what is made.
-/
import Derived.Test.YtegddcklbmonfaaGreatDoorYMakesPb
import Derived.Test.YtegddcklbmonfaaGreatDoorYMakesPa
import Derived.Test.YtegddcklbmonfaaGreatDoorRows
import Derived.RangeFuncNested
import Derived.RangeFuncLeaves
import Derived.Below
/-
 The reference: schedule.
-/
namespace Go.Proofs.YtegddcklbmonfaaGreatDoor
set_option maxRecDepth 100000
set_option maxHeartbeats 2000000
open Go.Value (int slice)
set_option linter.unusedVariables false
set_option linter.unusedSimpArgs false
open Go Go.RowKit
theorem enters85 : Enters Tryz.prog 85 := ⟨_, Tryz.func85, by kernel_rfl, by kernel_rfl⟩
theorem mk96 : (Tryz.prog.info? 96).map (fun i => (i.zero, i.size, i.bytes)) = some (some (.int .u32 0), 1, 4) := by kernel_rfl
theorem zero96 : (Tryz.prog.info? 96).bind (·.zero) = some (.int .u32 0) := by kernel_rfl
def wordN (B L : List Int) (t : Nat) : Int := addW .u32 (addW .u32 (addW .u32 (sig1 (L.getD (t + 14) 0)) (L.getD (t + 9) 0)) (sig0 (L.getD (t + 1) 0))) (L.getD t 0)
def schA (B : List Int) : Nat → List Int
 | 0 => []
 | k + 1 => schA B k ++ [wordAt B k]
def schB (B : List Int) : Nat → List Int
 | 0 => schA B 16
 | t + 1 => schB B t ++ [wordN B (schB B t) t]
theorem schA_len (B : List Int) : ∀ k, (schA B k).length = k
 | 0 => rfl
 | k + 1 => by simp [schA, schA_len B k]
theorem schB_len (B : List Int) : ∀ k, (schB B k).length = 16 + k
 | 0 => schA_len B 16
 | k + 1 => by simp [schB, schB_len B k]; omega
theorem w16_schA (B : List Int) : ∀ k, k ≤ 16 → w16 B k = schA B k ++ List.replicate (64 - k) 0
 | 0, _ => by simp [w16, schA]
 | k + 1, h => by
  have ih := w16_schA B k (by omega)
  have hl := schA_len B k
  simp only [w16, schA, ih]
  rw [show 64 - k = (64 - (k + 1)) + 1 by omega, List.replicate_succ, List.set_append_right _ _ (by omega), hl, Nat.sub_self, List.set_cons_zero]
  simp
theorem getD_app {l r : List Int} {i : Nat} (h : i < l.length) : (l ++ r).getD i 0 = l.getD i 0 := by
 simp [List.getD_eq_getElem?_getD, List.getElem?_append, h]
theorem sch_schB (B : List Int) : ∀ k, k ≤ 48 → sch (w16 B 16) k = schB B k ++ List.replicate (48 - k) 0
 | 0, _ => by rw [show sch (w16 B 16) 0 = w16 B 16 from rfl, w16_schA B 16 (Nat.le_refl _)]; rfl
 | k + 1, h => by
  have ih := sch_schB B k (by omega)
  have hl := schB_len B k
  simp only [sch, schB, ih, wordN]
  rw [show 48 - k = (48 - (k + 1)) + 1 by omega, List.replicate_succ]
  rw [getD_app (by omega), getD_app (by omega), getD_app (by omega), getD_app (by omega)]
  rw [List.set_append_right _ _ (by omega), hl, show k + 16 - (16 + k) = 0 by omega, List.set_cons_zero]
  simp
attribute [local irreducible] wordN
structure WV where
 k : Nat
 v : Value
 He : List Ent
structure WG where
 k : Nat
 g : Nat
 c : Nat
theorem sched_schB (B : List Int) : sched B = schB B 48 := by
 have := sch_schB B 48 (Nat.le_refl _)
 simp only [Nat.sub_self, List.replicate_zero, List.append_nil] at this
 rw [← this]; unfold sched; rfl
theorem rschedule_c (B : List Int) (b off cap : Nat) (w : World) (hb : b < w.heap.size) (hB : RowI w b off 64 .u8 B) (hcap : 64 ≤ cap) : Calls Tryz.prog 58 #[.slice (some ⟨b, off, none⟩) 64 cap] w fun e w' => ∃ v He, e = .returned v ∧ Own w.heap.size 96 .u32 v (sched B) He ∧ St w He w' := by
 refine qP (args := [.slice (some ⟨b, off, none⟩) 64 cap]) Tryz.func58 rfl Tryz.ntmps58 (by simp) ?_
 refine qC [0] ?_
 iterate 17 refine gx ?_
 refine qe (ι := WV) (fun x => [(0, .slice (some ⟨b, off, none⟩) 64 cap), (3, x.v), (4, .int .i64 (x.k : Int))]) (fun x => [] ++ x.He) (fun x => 16 - x.k) (fun x => Own w.heap.size 96 .u32 x.v (schA B x.k) x.He ∧ x.k ≤ 16) (⟨0, .slice none 0 0, []⟩ : WV) ⟨Own.nil _ _ _, by show 0 ≤ 16; omega⟩ (qL (i := 0) rfl rfl (by first | omega | (dsimp only; omega) | rfl) (by first | omega | (dsimp only; omega) | rfl) (qH (i := 3) rfl (qE (i := 4) rfl (by first | omega | rfl) (qK)))) (fun w h => h) (fun x hC0 => ?_)
 obtain ⟨k, v, He⟩ := x
 obtain ⟨hown, hC2⟩ := hC0
 dsimp only at hown hC2 ⊢
 iterate 7 refine gx ?_
 refine qQ rfl (fun hq0 => ?_) (fun hq0 => ?_)
 ·iterate 4 refine gx ?_
  refine TC.mix3 (by kernel_rfl) [0, 0, 0, 0, 0, 1, 1, 0, 0, 0, 0, 0, 0, 1, 1, 0, 0, 0, 0, 0, 0, 0, 1, 1, 0, 0, 0, 0, 0, 0, 0, 1, 1, 0, 3, 3, 0] rfl (by kernel_rfl) ?_
  refine qT (qA rfl) rfl (fun _ => qV rfl rfl) ?_
  refine qT (qA rfl) rfl (fun _ => qV rfl rfl) ?_
  refine qT (qA rfl) rfl (fun _ => qV rfl rfl) ?_
  refine qT (qA rfl) rfl (fun _ => Gets.mul rfl rfl rfl (r := (4 * (k : Int))) (w64 (by omega) (by omega))) ?_
  refine qT (qA rfl) rfl (fun _ => qW rfl Tryz.underlying22 size5 rfl rfl (i := (4 * k)) (by omega) (by omega) (off' := (off + 4 * k)) (by omega)) ?_
  refine TN.gets (qA rfl) rfl (qJ rfl agg5 rfl (zA hB (i := (4 * k)) (by omega) (by omega) hb (qY qF (hown.ne hb)))) ?_
  refine TN.gets (qA rfl) rfl (qv rfl Tryz.underlying5 Tryz.underlying96 rfl (r := (IntKind.u32.wrap (B.getD (4 * k) 0))) rfl) ?_
  refine qT (qA rfl) rfl (fun _ => Gets.shl rfl rfl rfl (by omega) (r := (shlI .u32 (IntKind.u32.wrap (B.getD (4 * k) 0)) 24)) rfl) ?_
  refine qT (qA rfl) rfl (fun _ => qV rfl rfl) ?_
  refine qT (qA rfl) rfl (fun _ => qV rfl rfl) ?_
  refine qT (qA rfl) rfl (fun _ => Gets.mul rfl rfl rfl (r := (4 * (k : Int))) (w64 (by omega) (by omega))) ?_
  refine qT (qA rfl) rfl (fun _ => qU rfl rfl rfl (r := (4 * (k : Int) + 1)) (w64 (by omega) (by omega))) ?_
  refine qT (qA rfl) rfl (fun _ => qW rfl Tryz.underlying22 size5 rfl rfl (i := (4 * k + 1)) (by omega) (by omega) (off' := (off + 4 * k + 1)) (by omega)) ?_
  refine TN.gets (qA rfl) rfl (qJ rfl agg5 rfl (zA hB (i := (4 * k + 1)) (by omega) (by omega) hb (qY qF (hown.ne hb)))) ?_
  refine TN.gets (qA rfl) rfl (qv rfl Tryz.underlying5 Tryz.underlying96 rfl (r := (IntKind.u32.wrap (B.getD (4 * k + 1) 0))) rfl) ?_
  refine qT (qA rfl) rfl (fun _ => Gets.shl rfl rfl rfl (by omega) (r := (shlI .u32 (IntKind.u32.wrap (B.getD (4 * k + 1) 0)) 16)) rfl) ?_
  refine qT (qA rfl) rfl (fun _ => Gets.or rfl rfl rfl (r := (orI .u32 (shlI .u32 (IntKind.u32.wrap (B.getD (4 * k) 0)) 24) (shlI .u32 (IntKind.u32.wrap (B.getD (4 * k + 1) 0)) 16))) rfl) ?_
  refine qT (qA rfl) rfl (fun _ => qV rfl rfl) ?_
  refine qT (qA rfl) rfl (fun _ => qV rfl rfl) ?_
  refine qT (qA rfl) rfl (fun _ => Gets.mul rfl rfl rfl (r := (4 * (k : Int))) (w64 (by omega) (by omega))) ?_
  refine qT (qA rfl) rfl (fun _ => qU rfl rfl rfl (r := (4 * (k : Int) + 2)) (w64 (by omega) (by omega))) ?_
  refine qT (qA rfl) rfl (fun _ => qW rfl Tryz.underlying22 size5 rfl rfl (i := (4 * k + 2)) (by omega) (by omega) (off' := (off + 4 * k + 2)) (by omega)) ?_
  refine TN.gets (qA rfl) rfl (qJ rfl agg5 rfl (zA hB (i := (4 * k + 2)) (by omega) (by omega) hb (qY qF (hown.ne hb)))) ?_
  refine TN.gets (qA rfl) rfl (qv rfl Tryz.underlying5 Tryz.underlying96 rfl (r := (IntKind.u32.wrap (B.getD (4 * k + 2) 0))) rfl) ?_
  refine qT (qA rfl) rfl (fun _ => Gets.shl rfl rfl rfl (by omega) (r := (shlI .u32 (IntKind.u32.wrap (B.getD (4 * k + 2) 0)) 8)) rfl) ?_
  refine qT (qA rfl) rfl (fun _ => Gets.or rfl rfl rfl (r := (orI .u32 (orI .u32 (shlI .u32 (IntKind.u32.wrap (B.getD (4 * k) 0)) 24) (shlI .u32 (IntKind.u32.wrap (B.getD (4 * k + 1) 0)) 16)) (shlI .u32 (IntKind.u32.wrap (B.getD (4 * k + 2) 0)) 8))) rfl) ?_
  refine qT (qA rfl) rfl (fun _ => qV rfl rfl) ?_
  refine qT (qA rfl) rfl (fun _ => qV rfl rfl) ?_
  refine qT (qA rfl) rfl (fun _ => Gets.mul rfl rfl rfl (r := (4 * (k : Int))) (w64 (by omega) (by omega))) ?_
  refine qT (qA rfl) rfl (fun _ => qU rfl rfl rfl (r := (4 * (k : Int) + 3)) (w64 (by omega) (by omega))) ?_
  refine qT (qA rfl) rfl (fun _ => qW rfl Tryz.underlying22 size5 rfl rfl (i := (4 * k + 3)) (by omega) (by omega) (off' := (off + 4 * k + 3)) (by omega)) ?_
  refine TN.gets (qA rfl) rfl (qJ rfl agg5 rfl (zA hB (i := (4 * k + 3)) (by omega) (by omega) hb (qY qF (hown.ne hb)))) ?_
  refine TN.gets (qA rfl) rfl (qv rfl Tryz.underlying5 Tryz.underlying96 rfl (r := (IntKind.u32.wrap (B.getD (4 * k + 3) 0))) rfl) ?_
  refine qT (qA rfl) rfl (fun _ => Gets.or rfl rfl rfl (r := (orI .u32 (orI .u32 (orI .u32 (shlI .u32 (IntKind.u32.wrap (B.getD (4 * k) 0)) 24) (shlI .u32 (IntKind.u32.wrap (B.getD (4 * k + 1) 0)) 16)) (shlI .u32 (IntKind.u32.wrap (B.getD (4 * k + 2) 0)) 8)) (IntKind.u32.wrap (B.getD (4 * k + 3) 0)))) rfl) ?_
  refine TN.buildSlice (qA rfl) rfl rfl Tryz.underlying34 size96 zero96 rfl (by decide) (by decide) (cells := #[.int .u32 (orI .u32 (orI .u32 (orI .u32 (shlI .u32 (IntKind.u32.wrap (B.getD (4 * k) 0)) 24) (shlI .u32 (IntKind.u32.wrap (B.getD (4 * k + 1) 0)) 16)) (shlI .u32 (IntKind.u32.wrap (B.getD (4 * k + 2) 0)) 8)) (IntKind.u32.wrap (B.getD (4 * k + 3) 0)))]) (tot := 1) (by kernel_rfl) (cs := [.int .u32 (orI .u32 (orI .u32 (orI .u32 (shlI .u32 (IntKind.u32.wrap (B.getD (4 * k) 0)) 24) (shlI .u32 (IntKind.u32.wrap (B.getD (4 * k + 1) 0)) 16)) (shlI .u32 (IntKind.u32.wrap (B.getD (4 * k + 2) 0)) 8)) (IntKind.u32.wrap (B.getD (4 * k + 3) 0)))]) rfl rfl (fun g1 hg1 => ?_)
  refine TN.appendOwn (H := [⟨g1, 96, [int .u32 (orI .u32 (orI .u32 (orI .u32 (shlI .u32 (IntKind.u32.wrap (B.getD (4 * k) 0)) 24) (shlI .u32 (IntKind.u32.wrap (B.getD (4 * k + 1) 0)) 16)) (shlI .u32 (IntKind.u32.wrap (B.getD (4 * k + 2) 0)) 8)) (IntKind.u32.wrap (B.getD (4 * k + 3) 0)))], 1⟩]) (sl := 1) (t := 34) (e := 96) (kd := .u32) (qA rfl) rfl rfl Tryz.underlying34 mk96 rfl rfl rfl (W := schA B k) (B := [(orI .u32 (orI .u32 (orI .u32 (shlI .u32 (IntKind.u32.wrap (B.getD (4 * k) 0)) 24) (shlI .u32 (IntKind.u32.wrap (B.getD (4 * k + 1) 0)) 16)) (shlI .u32 (IntKind.u32.wrap (B.getD (4 * k + 2) 0)) 8)) (IntKind.u32.wrap (B.getD (4 * k + 3) 0)))]) hown (fun w hs => src_ent (W := [(orI .u32 (orI .u32 (orI .u32 (shlI .u32 (IntKind.u32.wrap (B.getD (4 * k) 0)) 24) (shlI .u32 (IntKind.u32.wrap (B.getD (4 * k + 1) 0)) 16)) (shlI .u32 (IntKind.u32.wrap (B.getD (4 * k + 2) 0)) 8)) (IntKind.u32.wrap (B.getD (4 * k + 3) 0)))]) (hs.has ⟨g1, 96, [int .u32 (orI .u32 (orI .u32 (orI .u32 (shlI .u32 (IntKind.u32.wrap (B.getD (4 * k) 0)) 24) (shlI .u32 (IntKind.u32.wrap (B.getD (4 * k + 1) 0)) 16)) (shlI .u32 (IntKind.u32.wrap (B.getD (4 * k + 2) 0)) 8)) (IntKind.u32.wrap (B.getD (4 * k + 3) 0)))], 1⟩ (by simp)) rfl) (by have := schA_len B k; omega) (by have := schA_len B k; omega) (fun vo Ho ho hne => ?_)
  refine qT (qA rfl) rfl (fun _ => Gets.assign rfl rfl) ?_
  refine TN.nil ?_
  iterate 2 refine gx ?_
  refine qC [0, 3, 4] ?_
  iterate 2 refine gx ?_
  refine qB (qA rfl) rfl (qU rfl rfl rfl (r := ((k : Int) + 1)) (w64 (by omega) (by omega))) ?_
  iterate 2 refine gx ?_
  exact qc (⟨k + 1, vo, Ho⟩ : WV) (by show 16 - (k + 1) < 16 - k; omega) ⟨by show Own _ _ _ vo (schA B (k + 1)) Ho; unfold schA wordAt; exact ho, by show k + 1 ≤ 16; omega⟩ (qL (i := 0) rfl rfl (by first | omega | (dsimp only; omega) | rfl) (by first | omega | (dsimp only; omega) | rfl) (qH (i := 3) rfl (qE (i := 4) rfl (by first | omega | rfl) (qK)))) (fun w h => h.drop (by assumption))
 ·obtain rfl : k = 16 := by omega
  iterate 12 refine gx ?_
  refine qe (ι := WV) (fun x => [(3, x.v), (5, .int .i64 ((x.k : Int) + 16))]) (fun x => [] ++ x.He) (fun x => 48 - x.k) (fun x => Own w.heap.size 96 .u32 x.v (schB B x.k) x.He ∧ x.k ≤ 48) (⟨0, v, He⟩ : WV) ⟨hown, by show 0 ≤ 48; omega⟩ (qH (i := 3) rfl (qE (i := 5) rfl (by first | omega | rfl) (qK))) (fun w h => h) (fun x hC1 => ?_)
  obtain ⟨k, v, He⟩ := x
  obtain ⟨hown, hC2⟩ := hC1
  dsimp only at hown hC2 ⊢
  have hBl := schB_len B k
  iterate 7 refine gx ?_
  refine qQ rfl (fun hq1 => ?_) (fun hq1 => ?_)
  ·obtain ⟨g, c, rfl, rfl, hN, hc, hm⟩ := hown.resolve_left (fun h => by have := congrArg List.length h.2.1; rw [hBl] at this; simp at this)
   rw [hBl]
   iterate 8 refine gx ?_
   refine qB (qA rfl) rfl (qu rfl rfl rfl (r := ((k : Int) + 1)) (w64 (by omega) (by omega))) ?_
   refine qB (qA rfl) rfl (qW rfl Tryz.underlying34 size96 rfl rfl (i := (k + 1)) (by omega) (by omega) (off' := (k + 1)) (by omega)) ?_
   refine qB (qA rfl) rfl (qJ rfl agg96 rfl (qO (i := 0) (ent := ⟨g, 96, (schB B k).map (int .u32), c⟩) (off := (k + 1)) rfl rfl (by have := qS (kd := .u32) (W := schB B k) (i := (k + 1)) (by rw [hBl]; omega); (first | exact this | (refine Eq.trans ?_ this; congr 1; omega))))) ?_
   iterate 3 refine gx ?_
   refine qC [3, 5, 6] ?_
   iterate 4 refine gx ?_
   refine qB (qA rfl) rfl (qu rfl rfl rfl (r := ((k : Int) + 14)) (w64 (by omega) (by omega))) ?_
   refine qB (qA rfl) rfl (qW rfl Tryz.underlying34 size96 rfl rfl (i := (k + 14)) (by omega) (by omega) (off' := (k + 14)) (by omega)) ?_
   refine qB (qA rfl) rfl (qJ rfl agg96 rfl (qO (i := 0) (ent := ⟨g, 96, (schB B k).map (int .u32), c⟩) (off := (k + 14)) rfl rfl (by have := qS (kd := .u32) (W := schB B k) (i := (k + 14)) (by rw [hBl]; omega); (first | exact this | (refine Eq.trans ?_ this; congr 1; omega))))) ?_
   iterate 3 refine gx ?_
   refine qC [3, 5, 6, 7] ?_
   iterate 3 refine gx ?_
   refine qR (qA rfl) rfl enters85 rfl rfl (v := .int .u32 (rotr ((schB B k).getD (k + 1) 0) 7)) (fun w hs => rrotate_c ((schB B k).getD (k + 1) 0) 7 w (by omega) (by omega)) ?_
   refine gx ?_
   refine qR (qA rfl) rfl enters85 rfl rfl (v := .int .u32 (rotr ((schB B k).getD (k + 1) 0) 18)) (fun w hs => rrotate_c ((schB B k).getD (k + 1) 0) 18 w (by omega) (by omega)) ?_
   refine qB (qA rfl) rfl (zB rfl rfl rfl (r := (xorI .u32 (rotr ((schB B k).getD (k + 1) 0) 7) (rotr ((schB B k).getD (k + 1) 0) 18))) rfl) ?_
   refine gx ?_
   refine qB (qA rfl) rfl (zI rfl rfl rfl (by omega) (r := (shrI .u32 ((schB B k).getD (k + 1) 0) 3)) rfl) ?_
   refine qB (qA rfl) rfl (zB rfl rfl rfl (r := (xorI .u32 (xorI .u32 (rotr ((schB B k).getD (k + 1) 0) 7) (rotr ((schB B k).getD (k + 1) 0) 18)) (shrI .u32 ((schB B k).getD (k + 1) 0) 3))) rfl) ?_
   iterate 3 refine gx ?_
   refine qC [3, 5, 7, 8] ?_
   iterate 3 refine gx ?_
   refine qR (qA rfl) rfl enters85 rfl rfl (v := .int .u32 (rotr ((schB B k).getD (k + 14) 0) 17)) (fun w hs => rrotate_c ((schB B k).getD (k + 14) 0) 17 w (by omega) (by omega)) ?_
   refine gx ?_
   refine qR (qA rfl) rfl enters85 rfl rfl (v := .int .u32 (rotr ((schB B k).getD (k + 14) 0) 19)) (fun w hs => rrotate_c ((schB B k).getD (k + 14) 0) 19 w (by omega) (by omega)) ?_
   refine qB (qA rfl) rfl (zB rfl rfl rfl (r := (xorI .u32 (rotr ((schB B k).getD (k + 14) 0) 17) (rotr ((schB B k).getD (k + 14) 0) 19))) rfl) ?_
   refine gx ?_
   refine qB (qA rfl) rfl (zI rfl rfl rfl (by omega) (r := (shrI .u32 ((schB B k).getD (k + 14) 0) 10)) rfl) ?_
   refine qB (qA rfl) rfl (zB rfl rfl rfl (r := (xorI .u32 (xorI .u32 (rotr ((schB B k).getD (k + 14) 0) 17) (rotr ((schB B k).getD (k + 14) 0) 19)) (shrI .u32 ((schB B k).getD (k + 14) 0) 10))) rfl) ?_
   iterate 3 refine gx ?_
   refine qC [3, 5, 8, 9] ?_
   refine TC.mix3 (by kernel_rfl) [0, 0, 0, 0, 0, 0, 1, 0, 0, 0, 0, 0, 0, 0, 1, 0, 3, 3, 0] rfl (by kernel_rfl) ?_
   refine qT (qA rfl) rfl (fun _ => qV rfl rfl) ?_
   refine qT (qA rfl) rfl (fun _ => qV rfl rfl) ?_
   refine qT (qA rfl) rfl (fun _ => qV rfl rfl) ?_
   refine qT (qA rfl) rfl (fun _ => qV rfl rfl) ?_
   refine qT (qA rfl) rfl (fun _ => qu rfl rfl rfl (r := ((k : Int) + 9)) (w64 (by omega) (by omega))) ?_
   refine qT (qA rfl) rfl (fun _ => qW rfl Tryz.underlying34 size96 rfl rfl (i := (k + 9)) (by omega) (by omega) (off' := (k + 9)) (by omega)) ?_
   refine TN.gets (qA rfl) rfl (qJ rfl agg96 rfl (qO (i := 0) (ent := ⟨g, 96, (schB B k).map (int .u32), c⟩) (off := (k + 9)) rfl rfl (by have := qS (kd := .u32) (W := schB B k) (i := (k + 9)) (by rw [hBl]; omega); (first | exact this | (refine Eq.trans ?_ this; congr 1; omega))))) ?_
   refine qT (qA rfl) rfl (fun _ => qj rfl rfl rfl) ?_
   refine qT (qA rfl) rfl (fun _ => qV rfl rfl) ?_
   refine qT (qA rfl) rfl (fun _ => qj rfl rfl rfl) ?_
   refine qT (qA rfl) rfl (fun _ => qV rfl rfl) ?_
   refine qT (qA rfl) rfl (fun _ => qV rfl rfl) ?_
   refine qT (qA rfl) rfl (fun _ => qu rfl rfl rfl (r := (k : Int)) (w64 (by omega) (by omega))) ?_
   refine qT (qA rfl) rfl (fun _ => qW rfl Tryz.underlying34 size96 rfl rfl (i := k) (by omega) (by omega) (off' := k) (by omega)) ?_
   refine TN.gets (qA rfl) rfl (qJ rfl agg96 rfl (qO (i := 0) (ent := ⟨g, 96, (schB B k).map (int .u32), c⟩) (off := k) rfl rfl (by have := qS (kd := .u32) (W := schB B k) (i := k) (by rw [hBl]; omega); (first | exact this | (refine Eq.trans ?_ this; congr 1; omega))))) ?_
   refine qT (qA rfl) rfl (fun _ => qj rfl rfl rfl) ?_
   refine TN.buildSlice (qA rfl) rfl rfl Tryz.underlying34 size96 zero96 rfl (by decide) (by decide) (cells := #[.int .u32 (addW .u32 (addW .u32 (addW .u32 (xorI .u32 (xorI .u32 (rotr ((schB B k).getD (k + 14) 0) 17) (rotr ((schB B k).getD (k + 14) 0) 19)) (shrI .u32 ((schB B k).getD (k + 14) 0) 10)) ((schB B k).getD (k + 9) 0)) (xorI .u32 (xorI .u32 (rotr ((schB B k).getD (k + 1) 0) 7) (rotr ((schB B k).getD (k + 1) 0) 18)) (shrI .u32 ((schB B k).getD (k + 1) 0) 3))) ((schB B k).getD k 0))]) (tot := 1) (by kernel_rfl) (cs := [.int .u32 (addW .u32 (addW .u32 (addW .u32 (xorI .u32 (xorI .u32 (rotr ((schB B k).getD (k + 14) 0) 17) (rotr ((schB B k).getD (k + 14) 0) 19)) (shrI .u32 ((schB B k).getD (k + 14) 0) 10)) ((schB B k).getD (k + 9) 0)) (xorI .u32 (xorI .u32 (rotr ((schB B k).getD (k + 1) 0) 7) (rotr ((schB B k).getD (k + 1) 0) 18)) (shrI .u32 ((schB B k).getD (k + 1) 0) 3))) ((schB B k).getD k 0))]) rfl rfl (fun g2 hg2 => ?_)
   refine TN.appendOwn (H := [⟨g2, 96, [int .u32 (addW .u32 (addW .u32 (addW .u32 (xorI .u32 (xorI .u32 (rotr ((schB B k).getD (k + 14) 0) 17) (rotr ((schB B k).getD (k + 14) 0) 19)) (shrI .u32 ((schB B k).getD (k + 14) 0) 10)) ((schB B k).getD (k + 9) 0)) (xorI .u32 (xorI .u32 (rotr ((schB B k).getD (k + 1) 0) 7) (rotr ((schB B k).getD (k + 1) 0) 18)) (shrI .u32 ((schB B k).getD (k + 1) 0) 3))) ((schB B k).getD k 0))], 1⟩]) (He := [⟨g, 96, (schB B k).map (int .u32), c⟩]) (sl := 1) (t := 34) (e := 96) (kd := .u32) (qA rfl) rfl rfl Tryz.underlying34 mk96 rfl rfl rfl (W := schB B k) (B := [(addW .u32 (addW .u32 (addW .u32 (xorI .u32 (xorI .u32 (rotr ((schB B k).getD (k + 14) 0) 17) (rotr ((schB B k).getD (k + 14) 0) 19)) (shrI .u32 ((schB B k).getD (k + 14) 0) 10)) ((schB B k).getD (k + 9) 0)) (xorI .u32 (xorI .u32 (rotr ((schB B k).getD (k + 1) 0) 7) (rotr ((schB B k).getD (k + 1) 0) 18)) (shrI .u32 ((schB B k).getD (k + 1) 0) 3))) ((schB B k).getD k 0))]) (.inr ⟨g, c, by rw [hBl], rfl, hN, hc, hm⟩) (fun w hs => src_ent (W := [(addW .u32 (addW .u32 (addW .u32 (xorI .u32 (xorI .u32 (rotr ((schB B k).getD (k + 14) 0) 17) (rotr ((schB B k).getD (k + 14) 0) 19)) (shrI .u32 ((schB B k).getD (k + 14) 0) 10)) ((schB B k).getD (k + 9) 0)) (xorI .u32 (xorI .u32 (rotr ((schB B k).getD (k + 1) 0) 7) (rotr ((schB B k).getD (k + 1) 0) 18)) (shrI .u32 ((schB B k).getD (k + 1) 0) 3))) ((schB B k).getD k 0))]) (hs.has ⟨g2, 96, [int .u32 (addW .u32 (addW .u32 (addW .u32 (xorI .u32 (xorI .u32 (rotr ((schB B k).getD (k + 14) 0) 17) (rotr ((schB B k).getD (k + 14) 0) 19)) (shrI .u32 ((schB B k).getD (k + 14) 0) 10)) ((schB B k).getD (k + 9) 0)) (xorI .u32 (xorI .u32 (rotr ((schB B k).getD (k + 1) 0) 7) (rotr ((schB B k).getD (k + 1) 0) 18)) (shrI .u32 ((schB B k).getD (k + 1) 0) 3))) ((schB B k).getD k 0))], 1⟩ (by simp)) rfl) (by  omega) (by  omega) (fun vo Ho ho hne => ?_)
   refine qT (qA rfl) rfl (fun _ => Gets.assign rfl rfl) ?_
   refine TN.nil ?_
   iterate 2 refine gx ?_
   refine qC [3, 5] ?_
   iterate 2 refine gx ?_
   refine qB (qA rfl) rfl (qU rfl rfl rfl (r := ((k : Int) + 17)) (w64 (by omega) (by omega))) ?_
   iterate 2 refine gx ?_
   exact qc (⟨k + 1, vo, Ho⟩ : WV) (by show 48 - (k + 1) < 48 - k; omega) ⟨by show Own _ _ _ vo (schB B (k + 1)) Ho; unfold schB wordN sig0 sig1; exact ho, by show k + 1 ≤ 48; omega⟩ (qH (i := 3) rfl (qE (i := 5) rfl (by first | omega | rfl) (qK))) (fun w h => h.drop (by assumption))
  ·obtain rfl : k = 48 := by omega
   iterate 12 refine gx ?_
   exact qN rfl rfl (fun w hs => ⟨v, He, rfl, by rw [sched_schB]; exact hown, hs⟩)
/-
 The reference: block.
-/
theorem rounds_len {st : List Int} (W : List Int) (h : st.length = 8) : ∀ k, (rounds st W k).length = 8
 | 0 => h
 | k + 1 => rfl
def outF (st V : List Int) : Nat → List Int
 | 0 => []
 | k + 1 => outF st V k ++ [addW .u32 (st.getD k 0) (V.getD k 0)]
theorem outF_len (st V : List Int) : ∀ k, (outF st V k).length = k
 | 0 => rfl
 | k + 1 => by simp [outF, outF_len st V k]
theorem addAll_out {st V : List Int} (h : st.length = 8) : ∀ k, k ≤ 8 → addAll st V k = outF st V k ++ st.drop k
 | 0, _ => by simp [addAll, outF]
 | k + 1, hk => by
  have ih := addAll_out (V := V) h k (by omega)
  have hl := outF_len st V k
  have hd : st.drop k = st.getD k 0 :: st.drop (k + 1) := by
   rw [List.drop_eq_getElem_cons (by omega)]
   simp [List.getD_eq_getElem?_getD, show k < st.length by omega]
  have hg : (outF st V k ++ st.drop k).getD k 0 = st.getD k 0 := by
   rw [List.getD_eq_getElem?_getD, List.getElem?_append_right (by omega), hl, Nat.sub_self, hd]; rfl
  simp only [addAll, outF, ih]
  rw [hg, List.set_append_right _ _ (by omega), hl, Nat.sub_self, hd, List.set_cons_zero]
  simp
theorem mix_out {st B : List Int} (h : st.length = 8) : outF st (rounds st (sched B) 64) 8 = mixS st B := by
 have := addAll_out (V := rounds st (sched B) 64) h 8 (Nat.le_refl _)
 rw [List.drop_eq_nil_of_le (by omega), List.append_nil] at this
 rw [← this]; unfold mixS; rfl
theorem rblock_c (st W : List Int) (bs os cs bw ow cw bk ok ck : Nat) (w : World) (hst : st.length = 8) (hbs : bs < w.heap.size) (hS : RowI w bs os 8 .u32 st) (hcs : 8 ≤ cs) (hbw : bw < w.heap.size) (hW : RowI w bw ow 64 .u32 W) (hcw : 64 ≤ cw) (hbk : bk < w.heap.size) (hK : RowI w bk ok 64 .u32 KT) (hck : 64 ≤ ck) : Calls Tryz.prog 57 #[.slice (some ⟨bs, os, none⟩) 8 cs, .slice (some ⟨bw, ow, none⟩) 64 cw, .slice (some ⟨bk, ok, none⟩) 64 ck] w fun e w' => ∃ v He, e = .returned v ∧ Own w.heap.size 96 .u32 v (outF st (rounds st W 64) 8) He ∧ St w He w' := by
 refine qP (args := [.slice (some ⟨bs, os, none⟩) 8 cs, .slice (some ⟨bw, ow, none⟩) 64 cw, .slice (some ⟨bk, ok, none⟩) 64 ck]) Tryz.func57 rfl Tryz.ntmps57 (by simp) ?_
 refine qC [0, 1, 2] ?_
 iterate 7 refine gx ?_
 refine TL.emptySlice (qA rfl) rfl rfl Tryz.underlying34 size96 (fun g1 hg1 => ?_)
 refine gx ?_
 refine zM (H := []) (He := [⟨g1, 96, ([] : List Int).map (int .u32), 0⟩]) (qA rfl) rfl rfl Tryz.underlying34 mk96 rfl rfl rfl (W := []) (B := st) (.inr ⟨g1, 0, rfl, rfl, hg1, Nat.le_refl _, by unfold maxLen; omega⟩) (fun w hs => ⟨hst, .inr ⟨bs, os, rfl, Nat.lt_of_lt_of_le hbs hs.size, hS.keepH hs hbs (qY qF (qD (by show g1 ≠ bs; omega) qF))⟩⟩) (by simp only [List.length_nil]; omega) (by simp only [List.length_nil]; omega) (fun vo He ho hne => ?_)
 obtain ⟨go, co, rfl, rfl, hgo, hco, hcm⟩ := ho.some (hne (by intro h; cases h))
 rw [List.nil_append] at hco
 have hnl : (([] : List Int) ++ st).length = 8 := hst
 refine TL.heap (H' := [⟨go, 96, st.map (int .u32), co⟩]) (fun w hs => hs) ?_
 iterate 9 refine gx ?_
 refine qC [0, 1, 2, 6, 7, 8] ?_
 refine gx ?_
 refine qe (ι := WG) (fun x => [(0, .slice (some ⟨bs, os, none⟩) 8 cs), (1, .slice (some ⟨bw, ow, none⟩) 64 cw), (2, .slice (some ⟨bk, ok, none⟩) 64 ck), (7, .slice (some ⟨x.g, 0, none⟩) 8 x.c), (8, .int .i64 (x.k : Int))]) (fun x => [⟨x.g, 96, (rounds st W x.k).map (int .u32), x.c⟩]) (fun x => 64 - x.k) (fun x => w.heap.size ≤ x.g ∧ 8 ≤ x.c ∧ x.k ≤ 64) (⟨0, go, co⟩ : WG) ⟨hgo, by show 8 ≤ co; omega, by show 0 ≤ 64; omega⟩ (qL (i := 0) rfl rfl (by first | omega | (dsimp only; omega) | rfl) (by first | omega | (dsimp only; omega) | rfl) (qL (i := 1) rfl rfl (by first | omega | (dsimp only; omega) | rfl) (by first | omega | (dsimp only; omega) | rfl) (qL (i := 2) rfl rfl (by first | omega | (dsimp only; omega) | rfl) (by first | omega | (dsimp only; omega) | rfl) (qL (i := 7) rfl (by first | rfl | (congr 2; omega)) (by first | omega | (dsimp only; omega) | rfl) (by first | omega | (dsimp only; omega) | rfl) (qE (i := 8) rfl (by first | omega | rfl) (qK)))))) (fun w h => h) (fun x hC0 => ?_)
 obtain ⟨k, g, c⟩ := x
 obtain ⟨hN, hc, hk⟩ := hC0
 dsimp only at hN hc hk ⊢
 iterate 7 refine gx ?_
 refine qQ rfl (fun hq0 => ?_) (fun hq0 => ?_)
 ·iterate 7 refine gx ?_
  refine qB (qA rfl) rfl (qW rfl Tryz.underlying34 size96 rfl rfl (i := 4) (by rfl) (by omega) (off' := 4) (by omega)) ?_
  refine qB (qA rfl) rfl (qJ rfl agg96 rfl (qO (i := 0) (ent := ⟨g, 96, (rounds st W k).map (int .u32), c⟩) (off := 4) rfl rfl (by exact qS (kd := .u32) (W := rounds st W k) (i := 4) (by rw [(rounds_len W hst k)]; omega)))) ?_
  iterate 3 refine gx ?_
  refine qC [0, 1, 2, 7, 8, 9] ?_
  iterate 3 refine gx ?_
  refine qB (qA rfl) rfl (qW rfl Tryz.underlying34 size96 rfl rfl (i := 0) (by rfl) (by omega) (off' := 0) (by omega)) ?_
  refine qB (qA rfl) rfl (qJ rfl agg96 rfl (qO (i := 0) (ent := ⟨g, 96, (rounds st W k).map (int .u32), c⟩) (off := 0) rfl rfl (by exact qS (kd := .u32) (W := rounds st W k) (i := 0) (by rw [(rounds_len W hst k)]; omega)))) ?_
  iterate 3 refine gx ?_
  refine qC [0, 1, 2, 7, 8, 9, 10] ?_
  refine gx ?_
  refine qs (by kernel_rfl) [0, 0, 1, 0, 1, 0, 1, 0, 0, 1, 0, 0, 0, 0, 0, 1, 0, 0, 0, 0, 0, 1, 0, 0, 0, 0, 0, 0, 1, 0, 0, 0, 0, 1, 0, 0] rfl (by kernel_rfl) ?_
  refine gx ?_
  refine qG (qA rfl) rfl (fun _ => qW rfl Tryz.underlying34 size96 rfl rfl (i := 7) (by rfl) (by omega) (off' := 7) (by omega)) ?_
  refine qX (qA rfl) rfl (qJ rfl agg96 rfl (qO (i := 0) (ent := ⟨g, 96, (rounds st W k).map (int .u32), c⟩) (off := 7) rfl rfl (by exact qS (kd := .u32) (W := rounds st W k) (i := 7) (by rw [(rounds_len W hst k)]; omega)))) ?_
  refine gx ?_
  refine TM.call0 (qA rfl) rfl enters85 rfl rfl (v := .int .u32 (rotr ((rounds st W k).getD 4 0) 6)) (fun w hs => rrotate_c ((rounds st W k).getD 4 0) 6 w (by omega) (by omega)) ?_
  refine gx ?_
  refine TM.call0 (qA rfl) rfl enters85 rfl rfl (v := .int .u32 (rotr ((rounds st W k).getD 4 0) 11)) (fun w hs => rrotate_c ((rounds st W k).getD 4 0) 11 w (by omega) (by omega)) ?_
  refine qG (qA rfl) rfl (fun _ => zB rfl rfl rfl (r := (xorI .u32 (rotr ((rounds st W k).getD 4 0) 6) (rotr ((rounds st W k).getD 4 0) 11))) rfl) ?_
  refine gx ?_
  refine TM.call0 (qA rfl) rfl enters85 rfl rfl (v := .int .u32 (rotr ((rounds st W k).getD 4 0) 25)) (fun w hs => rrotate_c ((rounds st W k).getD 4 0) 25 w (by omega) (by omega)) ?_
  refine qG (qA rfl) rfl (fun _ => zB rfl rfl rfl (r := (xorI .u32 (xorI .u32 (rotr ((rounds st W k).getD 4 0) 6) (rotr ((rounds st W k).getD 4 0) 11)) (rotr ((rounds st W k).getD 4 0) 25))) rfl) ?_
  refine qG (qA rfl) rfl (fun _ => qj rfl rfl rfl) ?_
  iterate 2 refine gx ?_
  refine qG (qA rfl) rfl (fun _ => qW rfl Tryz.underlying34 size96 rfl rfl (i := 5) (by rfl) (by omega) (off' := 5) (by omega)) ?_
  refine qX (qA rfl) rfl (qJ rfl agg96 rfl (qO (i := 0) (ent := ⟨g, 96, (rounds st W k).map (int .u32), c⟩) (off := 5) rfl rfl (by exact qS (kd := .u32) (W := rounds st W k) (i := 5) (by rw [(rounds_len W hst k)]; omega)))) ?_
  refine qG (qA rfl) rfl (fun _ => zJ rfl rfl rfl (r := (andI .u32 ((rounds st W k).getD 4 0) ((rounds st W k).getD 5 0))) rfl) ?_
  refine gx ?_
  refine qG (qA rfl) rfl (fun _ => Gets.cplU rfl rfl) ?_
  refine gx ?_
  refine qG (qA rfl) rfl (fun _ => qW rfl Tryz.underlying34 size96 rfl rfl (i := 6) (by rfl) (by omega) (off' := 6) (by omega)) ?_
  refine qX (qA rfl) rfl (qJ rfl agg96 rfl (qO (i := 0) (ent := ⟨g, 96, (rounds st W k).map (int .u32), c⟩) (off := 6) rfl rfl (by exact qS (kd := .u32) (W := rounds st W k) (i := 6) (by rw [(rounds_len W hst k)]; omega)))) ?_
  refine qG (qA rfl) rfl (fun _ => zJ rfl rfl rfl (r := (andI .u32 (cplI .u32 ((rounds st W k).getD 4 0)) ((rounds st W k).getD 6 0))) rfl) ?_
  refine qG (qA rfl) rfl (fun _ => zB rfl rfl rfl (r := (xorI .u32 (andI .u32 ((rounds st W k).getD 4 0) ((rounds st W k).getD 5 0)) (andI .u32 (cplI .u32 ((rounds st W k).getD 4 0)) ((rounds st W k).getD 6 0)))) rfl) ?_
  refine qG (qA rfl) rfl (fun _ => qj rfl rfl rfl) ?_
  iterate 2 refine gx ?_
  refine qG (qA rfl) rfl (fun _ => qW rfl Tryz.underlying34 size96 rfl rfl (i := k) (by omega) (by omega) (off' := (ok + k)) (by omega)) ?_
  refine qX (qA rfl) rfl (qJ rfl agg96 rfl (zA hK (i := k) (by omega) (by omega) hbk (qD (by show g ≠ bk; omega) qF))) ?_
  refine qG (qA rfl) rfl (fun _ => qj rfl rfl rfl) ?_
  iterate 2 refine gx ?_
  refine qG (qA rfl) rfl (fun _ => qW rfl Tryz.underlying34 size96 rfl rfl (i := k) (by omega) (by omega) (off' := (ow + k)) (by omega)) ?_
  refine qX (qA rfl) rfl (qJ rfl agg96 rfl (zA hW (i := k) (by omega) (by omega) hbw (qD (by show g ≠ bw; omega) qF))) ?_
  refine qG (qA rfl) rfl (fun _ => qj rfl rfl rfl) ?_
  iterate 3 refine gx ?_
  refine qC [0, 1, 2, 7, 8, 10, 11] ?_
  refine gx ?_
  refine qs (by kernel_rfl) [0, 1, 0, 1, 0, 0, 1, 0, 0, 0, 0, 1, 0, 0, 0, 0, 1, 0, 0, 0, 0, 1, 0, 0, 1, 0, 0, 0, 0] rfl (by kernel_rfl) ?_
  refine gx ?_
  refine TM.call0 (qA rfl) rfl enters85 rfl rfl (v := .int .u32 (rotr ((rounds st W k).getD 0 0) 2)) (fun w hs => rrotate_c ((rounds st W k).getD 0 0) 2 w (by omega) (by omega)) ?_
  refine gx ?_
  refine TM.call0 (qA rfl) rfl enters85 rfl rfl (v := .int .u32 (rotr ((rounds st W k).getD 0 0) 13)) (fun w hs => rrotate_c ((rounds st W k).getD 0 0) 13 w (by omega) (by omega)) ?_
  refine qG (qA rfl) rfl (fun _ => zB rfl rfl rfl (r := (xorI .u32 (rotr ((rounds st W k).getD 0 0) 2) (rotr ((rounds st W k).getD 0 0) 13))) rfl) ?_
  refine gx ?_
  refine TM.call0 (qA rfl) rfl enters85 rfl rfl (v := .int .u32 (rotr ((rounds st W k).getD 0 0) 22)) (fun w hs => rrotate_c ((rounds st W k).getD 0 0) 22 w (by omega) (by omega)) ?_
  refine qG (qA rfl) rfl (fun _ => zB rfl rfl rfl (r := (xorI .u32 (xorI .u32 (rotr ((rounds st W k).getD 0 0) 2) (rotr ((rounds st W k).getD 0 0) 13)) (rotr ((rounds st W k).getD 0 0) 22))) rfl) ?_
  iterate 2 refine gx ?_
  refine qG (qA rfl) rfl (fun _ => qW rfl Tryz.underlying34 size96 rfl rfl (i := 1) (by rfl) (by omega) (off' := 1) (by omega)) ?_
  refine qX (qA rfl) rfl (qJ rfl agg96 rfl (qO (i := 0) (ent := ⟨g, 96, (rounds st W k).map (int .u32), c⟩) (off := 1) rfl rfl (by exact qS (kd := .u32) (W := rounds st W k) (i := 1) (by rw [(rounds_len W hst k)]; omega)))) ?_
  refine qG (qA rfl) rfl (fun _ => zJ rfl rfl rfl (r := (andI .u32 ((rounds st W k).getD 0 0) ((rounds st W k).getD 1 0))) rfl) ?_
  iterate 2 refine gx ?_
  refine qG (qA rfl) rfl (fun _ => qW rfl Tryz.underlying34 size96 rfl rfl (i := 2) (by rfl) (by omega) (off' := 2) (by omega)) ?_
  refine qX (qA rfl) rfl (qJ rfl agg96 rfl (qO (i := 0) (ent := ⟨g, 96, (rounds st W k).map (int .u32), c⟩) (off := 2) rfl rfl (by exact qS (kd := .u32) (W := rounds st W k) (i := 2) (by rw [(rounds_len W hst k)]; omega)))) ?_
  refine qG (qA rfl) rfl (fun _ => zJ rfl rfl rfl (r := (andI .u32 ((rounds st W k).getD 0 0) ((rounds st W k).getD 2 0))) rfl) ?_
  refine qG (qA rfl) rfl (fun _ => zB rfl rfl rfl (r := (xorI .u32 (andI .u32 ((rounds st W k).getD 0 0) ((rounds st W k).getD 1 0)) (andI .u32 ((rounds st W k).getD 0 0) ((rounds st W k).getD 2 0)))) rfl) ?_
  refine gx ?_
  refine qG (qA rfl) rfl (fun _ => qW rfl Tryz.underlying34 size96 rfl rfl (i := 1) (by rfl) (by omega) (off' := 1) (by omega)) ?_
  refine qX (qA rfl) rfl (qJ rfl agg96 rfl (qO (i := 0) (ent := ⟨g, 96, (rounds st W k).map (int .u32), c⟩) (off := 1) rfl rfl (by exact qS (kd := .u32) (W := rounds st W k) (i := 1) (by rw [(rounds_len W hst k)]; omega)))) ?_
  refine gx ?_
  refine qG (qA rfl) rfl (fun _ => qW rfl Tryz.underlying34 size96 rfl rfl (i := 2) (by rfl) (by omega) (off' := 2) (by omega)) ?_
  refine qX (qA rfl) rfl (qJ rfl agg96 rfl (qO (i := 0) (ent := ⟨g, 96, (rounds st W k).map (int .u32), c⟩) (off := 2) rfl rfl (by exact qS (kd := .u32) (W := rounds st W k) (i := 2) (by rw [(rounds_len W hst k)]; omega)))) ?_
  refine qG (qA rfl) rfl (fun _ => zJ rfl rfl rfl (r := (andI .u32 ((rounds st W k).getD 1 0) ((rounds st W k).getD 2 0))) rfl) ?_
  refine qG (qA rfl) rfl (fun _ => zB rfl rfl rfl (r := (xorI .u32 (xorI .u32 (andI .u32 ((rounds st W k).getD 0 0) ((rounds st W k).getD 1 0)) (andI .u32 ((rounds st W k).getD 0 0) ((rounds st W k).getD 2 0))) (andI .u32 ((rounds st W k).getD 1 0) ((rounds st W k).getD 2 0)))) rfl) ?_
  refine qG (qA rfl) rfl (fun _ => qj rfl rfl rfl) ?_
  iterate 3 refine gx ?_
  refine qC [0, 1, 2, 7, 8, 11, 12] ?_
  refine TC.mix3 (by kernel_rfl) [0, 0, 0, 0, 0, 1, 0, 0, 1, 0, 0, 1, 0, 0, 1, 0, 0, 0, 0, 1, 0, 0, 1, 0, 0, 1, 3, 0] rfl (by kernel_rfl) ?_
  refine qT (qA rfl) rfl (fun _ => qV rfl rfl) ?_
  refine qT (qA rfl) rfl (fun _ => qV rfl rfl) ?_
  refine qT (qA rfl) rfl (fun _ => qj rfl rfl rfl) ?_
  refine qT (qA rfl) rfl (fun _ => qV rfl rfl) ?_
  refine qT (qA rfl) rfl (fun _ => qW rfl Tryz.underlying34 size96 rfl rfl (i := 0) (by rfl) (by omega) (off' := 0) (by omega)) ?_
  refine TN.gets (qA rfl) rfl (qJ rfl agg96 rfl (qO (i := 0) (ent := ⟨g, 96, (rounds st W k).map (int .u32), c⟩) (off := 0) rfl rfl (by exact qS (kd := .u32) (W := rounds st W k) (i := 0) (by rw [(rounds_len W hst k)]; omega)))) ?_
  refine qT (qA rfl) rfl (fun _ => qV rfl rfl) ?_
  refine qT (qA rfl) rfl (fun _ => qW rfl Tryz.underlying34 size96 rfl rfl (i := 1) (by rfl) (by omega) (off' := 1) (by omega)) ?_
  refine TN.gets (qA rfl) rfl (qJ rfl agg96 rfl (qO (i := 0) (ent := ⟨g, 96, (rounds st W k).map (int .u32), c⟩) (off := 1) rfl rfl (by exact qS (kd := .u32) (W := rounds st W k) (i := 1) (by rw [(rounds_len W hst k)]; omega)))) ?_
  refine qT (qA rfl) rfl (fun _ => qV rfl rfl) ?_
  refine qT (qA rfl) rfl (fun _ => qW rfl Tryz.underlying34 size96 rfl rfl (i := 2) (by rfl) (by omega) (off' := 2) (by omega)) ?_
  refine TN.gets (qA rfl) rfl (qJ rfl agg96 rfl (qO (i := 0) (ent := ⟨g, 96, (rounds st W k).map (int .u32), c⟩) (off := 2) rfl rfl (by exact qS (kd := .u32) (W := rounds st W k) (i := 2) (by rw [(rounds_len W hst k)]; omega)))) ?_
  refine qT (qA rfl) rfl (fun _ => qV rfl rfl) ?_
  refine qT (qA rfl) rfl (fun _ => qW rfl Tryz.underlying34 size96 rfl rfl (i := 3) (by rfl) (by omega) (off' := 3) (by omega)) ?_
  refine TN.gets (qA rfl) rfl (qJ rfl agg96 rfl (qO (i := 0) (ent := ⟨g, 96, (rounds st W k).map (int .u32), c⟩) (off := 3) rfl rfl (by exact qS (kd := .u32) (W := rounds st W k) (i := 3) (by rw [(rounds_len W hst k)]; omega)))) ?_
  refine qT (qA rfl) rfl (fun _ => qV rfl rfl) ?_
  refine qT (qA rfl) rfl (fun _ => qj rfl rfl rfl) ?_
  refine qT (qA rfl) rfl (fun _ => qV rfl rfl) ?_
  refine qT (qA rfl) rfl (fun _ => qW rfl Tryz.underlying34 size96 rfl rfl (i := 4) (by rfl) (by omega) (off' := 4) (by omega)) ?_
  refine TN.gets (qA rfl) rfl (qJ rfl agg96 rfl (qO (i := 0) (ent := ⟨g, 96, (rounds st W k).map (int .u32), c⟩) (off := 4) rfl rfl (by exact qS (kd := .u32) (W := rounds st W k) (i := 4) (by rw [(rounds_len W hst k)]; omega)))) ?_
  refine qT (qA rfl) rfl (fun _ => qV rfl rfl) ?_
  refine qT (qA rfl) rfl (fun _ => qW rfl Tryz.underlying34 size96 rfl rfl (i := 5) (by rfl) (by omega) (off' := 5) (by omega)) ?_
  refine TN.gets (qA rfl) rfl (qJ rfl agg96 rfl (qO (i := 0) (ent := ⟨g, 96, (rounds st W k).map (int .u32), c⟩) (off := 5) rfl rfl (by exact qS (kd := .u32) (W := rounds st W k) (i := 5) (by rw [(rounds_len W hst k)]; omega)))) ?_
  refine qT (qA rfl) rfl (fun _ => qV rfl rfl) ?_
  refine qT (qA rfl) rfl (fun _ => qW rfl Tryz.underlying34 size96 rfl rfl (i := 6) (by rfl) (by omega) (off' := 6) (by omega)) ?_
  refine TN.gets (qA rfl) rfl (qJ rfl agg96 rfl (qO (i := 0) (ent := ⟨g, 96, (rounds st W k).map (int .u32), c⟩) (off := 6) rfl rfl (by exact qS (kd := .u32) (W := rounds st W k) (i := 6) (by rw [(rounds_len W hst k)]; omega)))) ?_
  refine TN.buildSlice (qA rfl) rfl rfl Tryz.underlying34 size96 zero96 rfl (by decide) (by decide) (cells := #[.int .u32 (addW .u32 (addW .u32 (addW .u32 (addW .u32 (addW .u32 ((rounds st W k).getD 7 0) (xorI .u32 (xorI .u32 (rotr ((rounds st W k).getD 4 0) 6) (rotr ((rounds st W k).getD 4 0) 11)) (rotr ((rounds st W k).getD 4 0) 25))) (xorI .u32 (andI .u32 ((rounds st W k).getD 4 0) ((rounds st W k).getD 5 0)) (andI .u32 (cplI .u32 ((rounds st W k).getD 4 0)) ((rounds st W k).getD 6 0)))) (KT.getD k 0)) (W.getD k 0)) (addW .u32 (xorI .u32 (xorI .u32 (rotr ((rounds st W k).getD 0 0) 2) (rotr ((rounds st W k).getD 0 0) 13)) (rotr ((rounds st W k).getD 0 0) 22)) (xorI .u32 (xorI .u32 (andI .u32 ((rounds st W k).getD 0 0) ((rounds st W k).getD 1 0)) (andI .u32 ((rounds st W k).getD 0 0) ((rounds st W k).getD 2 0))) (andI .u32 ((rounds st W k).getD 1 0) ((rounds st W k).getD 2 0))))), .int .u32 ((rounds st W k).getD 0 0), .int .u32 ((rounds st W k).getD 1 0), .int .u32 ((rounds st W k).getD 2 0), .int .u32 (addW .u32 ((rounds st W k).getD 3 0) (addW .u32 (addW .u32 (addW .u32 (addW .u32 ((rounds st W k).getD 7 0) (xorI .u32 (xorI .u32 (rotr ((rounds st W k).getD 4 0) 6) (rotr ((rounds st W k).getD 4 0) 11)) (rotr ((rounds st W k).getD 4 0) 25))) (xorI .u32 (andI .u32 ((rounds st W k).getD 4 0) ((rounds st W k).getD 5 0)) (andI .u32 (cplI .u32 ((rounds st W k).getD 4 0)) ((rounds st W k).getD 6 0)))) (KT.getD k 0)) (W.getD k 0))), .int .u32 ((rounds st W k).getD 4 0), .int .u32 ((rounds st W k).getD 5 0), .int .u32 ((rounds st W k).getD 6 0)]) (tot := 8) (by kernel_rfl) (cs := [.int .u32 (addW .u32 (addW .u32 (addW .u32 (addW .u32 (addW .u32 ((rounds st W k).getD 7 0) (xorI .u32 (xorI .u32 (rotr ((rounds st W k).getD 4 0) 6) (rotr ((rounds st W k).getD 4 0) 11)) (rotr ((rounds st W k).getD 4 0) 25))) (xorI .u32 (andI .u32 ((rounds st W k).getD 4 0) ((rounds st W k).getD 5 0)) (andI .u32 (cplI .u32 ((rounds st W k).getD 4 0)) ((rounds st W k).getD 6 0)))) (KT.getD k 0)) (W.getD k 0)) (addW .u32 (xorI .u32 (xorI .u32 (rotr ((rounds st W k).getD 0 0) 2) (rotr ((rounds st W k).getD 0 0) 13)) (rotr ((rounds st W k).getD 0 0) 22)) (xorI .u32 (xorI .u32 (andI .u32 ((rounds st W k).getD 0 0) ((rounds st W k).getD 1 0)) (andI .u32 ((rounds st W k).getD 0 0) ((rounds st W k).getD 2 0))) (andI .u32 ((rounds st W k).getD 1 0) ((rounds st W k).getD 2 0))))), .int .u32 ((rounds st W k).getD 0 0), .int .u32 ((rounds st W k).getD 1 0), .int .u32 ((rounds st W k).getD 2 0), .int .u32 (addW .u32 ((rounds st W k).getD 3 0) (addW .u32 (addW .u32 (addW .u32 (addW .u32 ((rounds st W k).getD 7 0) (xorI .u32 (xorI .u32 (rotr ((rounds st W k).getD 4 0) 6) (rotr ((rounds st W k).getD 4 0) 11)) (rotr ((rounds st W k).getD 4 0) 25))) (xorI .u32 (andI .u32 ((rounds st W k).getD 4 0) ((rounds st W k).getD 5 0)) (andI .u32 (cplI .u32 ((rounds st W k).getD 4 0)) ((rounds st W k).getD 6 0)))) (KT.getD k 0)) (W.getD k 0))), .int .u32 ((rounds st W k).getD 4 0), .int .u32 ((rounds st W k).getD 5 0), .int .u32 ((rounds st W k).getD 6 0)]) rfl rfl (fun g2 hg2 => ?_)
  refine qT (qA rfl) rfl (fun _ => Gets.assign rfl rfl) ?_
  refine TN.nil ?_
  iterate 2 refine gx ?_
  refine qC [0, 1, 2, 7, 8] ?_
  iterate 2 refine gx ?_
  refine qB (qA rfl) rfl (qU rfl rfl rfl (r := ((k : Int) + 1)) (w64 (by omega) (by omega))) ?_
  iterate 2 refine gx ?_
  exact qc (⟨k + 1, g2, 8⟩ : WG) (by show 64 - (k + 1) < 64 - k; omega) ⟨hg2, Nat.le_refl _, by show k + 1 ≤ 64; omega⟩ (qL (i := 0) rfl rfl (by first | omega | (dsimp only; omega) | rfl) (by first | omega | (dsimp only; omega) | rfl) (qL (i := 1) rfl rfl (by first | omega | (dsimp only; omega) | rfl) (by first | omega | (dsimp only; omega) | rfl) (qL (i := 2) rfl rfl (by first | omega | (dsimp only; omega) | rfl) (by first | omega | (dsimp only; omega) | rfl) (qL (i := 7) rfl (by first | rfl | (congr 2; omega)) (by first | omega | (dsimp only; omega) | rfl) (by first | omega | (dsimp only; omega) | rfl) (qE (i := 8) rfl (by first | omega | rfl) (qK)))))) (fun w h => h.erase (i := 1) rfl hN)
 ·obtain rfl : k = 64 := by omega
  have Vl := rounds_len W hst 64
  generalize hV : rounds st W 64 = V at Vl ⊢
  iterate 16 refine gx ?_
  refine qC [0, 7, 13, 14] ?_
  refine gx ?_
  refine qe (ι := WV) (fun x => [(0, .slice (some ⟨bs, os, none⟩) 8 cs), (7, .slice (some ⟨g, 0, none⟩) 8 c), (13, x.v), (14, .int .i64 (x.k : Int))]) (fun x => [⟨g, 96, V.map (int .u32), c⟩] ++ x.He) (fun x => 8 - x.k) (fun x => Own w.heap.size 96 .u32 x.v (outF st V x.k) x.He ∧ x.k ≤ 8) (⟨0, .slice none 0 0, []⟩ : WV) ⟨Own.nil _ _ _, by show 0 ≤ 8; omega⟩ (qL (i := 0) rfl rfl (by first | omega | (dsimp only; omega) | rfl) (by first | omega | (dsimp only; omega) | rfl) (qL (i := 7) rfl rfl (by first | omega | (dsimp only; omega) | rfl) (by first | omega | (dsimp only; omega) | rfl) (qH (i := 13) rfl (qE (i := 14) rfl (by first | omega | rfl) (qK))))) (fun w h => h) (fun x hC1 => ?_)
  obtain ⟨k, v, He⟩ := x
  obtain ⟨hown, hC2⟩ := hC1
  dsimp only at hown hC2 ⊢
  iterate 7 refine gx ?_
  refine qQ rfl (fun hq1 => ?_) (fun hq1 => ?_)
  ·iterate 4 refine gx ?_
   refine TC.mix3 (by kernel_rfl) [0, 0, 0, 0, 1, 0, 0, 0, 1, 0, 3, 3, 0] rfl (by kernel_rfl) ?_
   refine qT (qA rfl) rfl (fun _ => qV rfl rfl) ?_
   refine qT (qA rfl) rfl (fun _ => qV rfl rfl) ?_
   refine qT (qA rfl) rfl (fun _ => qV rfl rfl) ?_
   refine qT (qA rfl) rfl (fun _ => qW rfl Tryz.underlying34 size96 rfl rfl (i := k) (by omega) (by omega) (off' := (os + k)) (by omega)) ?_
   refine TN.gets (qA rfl) rfl (qJ rfl agg96 rfl (zA hS (i := k) (by omega) (by omega) hbs (qY (qD (by show g ≠ bs; omega) qF) (hown.ne hbs)))) ?_
   refine qT (qA rfl) rfl (fun _ => qV rfl rfl) ?_
   refine qT (qA rfl) rfl (fun _ => qV rfl rfl) ?_
   refine qT (qA rfl) rfl (fun _ => qW rfl Tryz.underlying34 size96 rfl rfl (i := k) (by omega) (by omega) (off' := k) (by omega)) ?_
   refine TN.gets (qA rfl) rfl (qJ rfl agg96 rfl (qO (i := 0) (ent := ⟨g, 96, V.map (int .u32), c⟩) (off := k) rfl rfl (by have := qS (kd := .u32) (W := V) (i := k) (by rw [Vl]; omega); (first | exact this | (refine Eq.trans ?_ this; congr 1; omega))))) ?_
   refine qT (qA rfl) rfl (fun _ => qj rfl rfl rfl) ?_
   refine TN.buildSlice (qA rfl) rfl rfl Tryz.underlying34 size96 zero96 rfl (by decide) (by decide) (cells := #[.int .u32 (addW .u32 (st.getD k 0) (V.getD k 0))]) (tot := 1) (by kernel_rfl) (cs := [.int .u32 (addW .u32 (st.getD k 0) (V.getD k 0))]) rfl rfl (fun g3 hg3 => ?_)
   refine TN.appendOwn (H := [⟨g3, 96, [int .u32 (addW .u32 (st.getD k 0) (V.getD k 0))], 1⟩, ⟨g, 96, V.map (int .u32), c⟩]) (sl := 1) (t := 34) (e := 96) (kd := .u32) (qA rfl) rfl rfl Tryz.underlying34 mk96 rfl rfl rfl (W := outF st V k) (B := [(addW .u32 (st.getD k 0) (V.getD k 0))]) hown (fun w hs => src_ent (W := [(addW .u32 (st.getD k 0) (V.getD k 0))]) (hs.has ⟨g3, 96, [int .u32 (addW .u32 (st.getD k 0) (V.getD k 0))], 1⟩ (by simp)) rfl) (by have := outF_len st V k; omega) (by have := outF_len st V k; omega) (fun vo Ho ho hne => ?_)
   refine qT (qA rfl) rfl (fun _ => Gets.assign rfl rfl) ?_
   refine TN.nil ?_
   iterate 2 refine gx ?_
   refine qC [0, 7, 13, 14] ?_
   iterate 2 refine gx ?_
   refine qB (qA rfl) rfl (qU rfl rfl rfl (r := ((k : Int) + 1)) (w64 (by omega) (by omega))) ?_
   iterate 2 refine gx ?_
   exact qc (⟨k + 1, vo, Ho⟩ : WV) (by show 8 - (k + 1) < 8 - k; omega) ⟨ho, by show k + 1 ≤ 8; omega⟩ (qL (i := 0) rfl rfl (by first | omega | (dsimp only; omega) | rfl) (by first | omega | (dsimp only; omega) | rfl) (qL (i := 7) rfl rfl (by first | omega | (dsimp only; omega) | rfl) (by first | omega | (dsimp only; omega) | rfl) (qH (i := 13) rfl (qE (i := 14) rfl (by first | omega | rfl) (qK))))) (fun w h => h.drop (by assumption))
  ·obtain rfl : k = 8 := by omega
   iterate 12 refine gx ?_
   exact qN rfl rfl (fun w hs => ⟨v, He, rfl, hown, hs.drop hN⟩)
/-
 The reference: pad.
-/
def padE (n : Nat) : Nat → List Int
 | 0 => 128 :: List.replicate (zerosN n) 0
 | k + 1 => padE n k ++ [IntKind.u8.wrap (shrI .u64 (mulW .u64 n 8) (56 - 8 * k))]
theorem padE_len (n : Nat) : ∀ k, (padE n k).length = zerosN n + 1 + k
 | 0 => by simp [padE]
 | k + 1 => by simp [padE, padE_len n k]; omega
theorem end_pad (n : Nat) : ∀ k, k ≤ 8 → endB n k = padE n k ++ List.replicate (8 - k) 0
 | 0, _ => by
  simp only [endB, padE]
  rw [show zerosN n + 9 = (zerosN n + 8) + 1 by omega, List.replicate_succ, List.set_cons_zero, List.cons_append, List.replicate_append_replicate]
 | k + 1, h => by
  have ih := end_pad n k (by omega)
  have hl := padE_len n k
  simp only [endB, padE, ih]
  rw [show 8 - k = (8 - (k + 1)) + 1 by omega, List.replicate_succ, List.set_append_right _ _ (by omega), hl, show zerosN n + k + 1 - (zerosN n + 1 + k) = 0 by omega, List.set_cons_zero]
  simp
theorem end_pad8 (n : Nat) : padE n 8 = endB n 8 := by simpa using (end_pad n 8 (Nat.le_refl _)).symm
def padZ (M : List Int) (k : Nat) : List Int := M ++ 128 :: List.replicate k 0
theorem pad_more (M : List Int) (k : Nat) : padZ M (k + 1) = padZ M k ++ [0] := by
 unfold padZ
 rw [List.replicate_succ']; simp
theorem rpad_c (M : List Int) (A : Option Addr) (m c0 : Nat) (w : World) (hsM : Src w A m .u8 M) (hmc : m ≤ c0) (hm : m ≤ 4000) : Calls Tryz.prog 56 #[.slice A m c0] w fun e w' => ∃ v He, e = .returned v ∧ Own w.heap.size 5 .u8 v (M ++ endB m 8) He ∧ St w He w' := by
 refine qP (args := [.slice A m c0]) Tryz.func56 rfl Tryz.ntmps56 (by simp) ?_
 refine qC [0] ?_
 iterate 7 refine gx ?_
 refine TL.emptySlice (qA rfl) rfl rfl Tryz.underlying22 size5 (fun g1 hg1 => ?_)
 refine gx ?_
 refine zM (H := []) (He := [⟨g1, 5, ([] : List Int).map (int .u8), 0⟩]) (qA rfl) rfl rfl Tryz.underlying22 mk5 rfl rfl rfl (W := []) (B := M) (.inr ⟨g1, 0, rfl, rfl, hg1, Nat.le_refl _, by unfold maxLen; omega⟩) (fun w hs => hsM.at_ hs (fun b hb => qY qF (qD (by show g1 ≠ b; omega) qF))) (by simp only [List.length_nil]; omega) (by simp only [List.length_nil]; omega) (fun vo Ho ho hne => ?_)
 rw [List.nil_append] at ho
 iterate 6 refine gx ?_
 refine zF (qA rfl) rfl rfl Tryz.underlying22 size5 zero5 rfl (by decide) (by decide) (cells := #[.int .u8 128]) (tot := 1) (by kernel_rfl) (cs := [.int .u8 128]) rfl rfl (fun g2 hg2 => ?_)
 refine zM (H := [⟨g2, 5, [int .u8 128], 1⟩]) (sl := 1) (t := 22) (e := 5) (kd := .u8) (qA rfl) rfl rfl Tryz.underlying22 mk5 rfl rfl rfl (W := M) (B := [128]) ho (fun w hs => src_ent (W := [128]) (hs.has ⟨g2, 5, [int .u8 128], 1⟩ (by simp)) rfl) (by have hMl := hsM.1; omega) (by have hMl := hsM.1; omega) (fun vo Ho ho hne => ?_)
 iterate 3 refine gx ?_
 refine qC [0, 2, 3] ?_
 iterate 2 refine gx ?_
 refine qe (ι := WV) (fun x => [(0, .slice A m c0), (3, x.v)]) (fun x => [] ++ x.He) (fun x => zerosN m - x.k) (fun x => Own w.heap.size 5 .u8 x.v (padZ M x.k) x.He ∧ x.k ≤ zerosN m) (⟨0, vo, Ho⟩ : WV) ⟨by show Own _ _ _ vo (padZ M 0) Ho; exact ho, by show 0 ≤ zerosN m; omega⟩ (qL (i := 0) rfl rfl (by first | omega | (dsimp only; omega) | rfl) (by first | omega | (dsimp only; omega) | rfl) (qH (i := 3) rfl (qK))) (fun w h => h.drop (by assumption)) (fun x hC0 => ?_)
 obtain ⟨k, v, He⟩ := x
 obtain ⟨hown, hC2⟩ := hC0
 dsimp only at hown hC2 ⊢
 have hWl : (padZ M k).length = m + 1 + k := by unfold padZ; simp [hsM.1]; omega
 have hz : zerosN m = (119 - m % 64) % 64 := rfl
 have hown0 := hown
 obtain ⟨g, c, hv, hHe, hN, hc, hm2⟩ := hown.resolve_left (fun h => by have := congrArg List.length h.2.1; rw [hWl] at this; simp at this)
 rw [hWl] at hv hc
 subst hv; subst hHe
 iterate 5 refine gx ?_
 refine qB (qA rfl) rfl (Gets.rem rfl rfl rfl (by omega) (r := (((m : Int) + (k : Int) + 1) % 64)) (tmod_pos (by omega) (by first | rfl | omega))) ?_
 iterate 3 refine gx ?_
 refine qQ rfl (fun hq0 => ?_) (fun hq0 => ?_)
 ·iterate 5 refine gx ?_
  refine zF (qA rfl) rfl rfl Tryz.underlying22 size5 zero5 rfl (by decide) (by decide) (cells := #[.int .u8 0]) (tot := 1) (by kernel_rfl) (cs := [.int .u8 0]) rfl rfl (fun g3 hg3 => ?_)
  refine zM (H := [⟨g3, 5, [int .u8 0], 1⟩]) (He := [⟨g, 5, (padZ M k).map (int .u8), c⟩]) (sl := 1) (t := 22) (e := 5) (kd := .u8) (qA rfl) rfl rfl Tryz.underlying22 mk5 rfl rfl rfl (W := padZ M k) (B := [0]) (.inr ⟨g, c, by rw [hWl], rfl, hN, by rw [hWl]; exact hc, hm2⟩) (fun w hs => src_ent (W := [0]) (hs.has ⟨g3, 5, [int .u8 0], 1⟩ (by simp)) rfl) (by have := zerosN_lt m; rw [hWl]; omega) (by have := zerosN_lt m; rw [hWl]; omega) (fun vo Ho ho hne => ?_)
  iterate 3 refine gx ?_
  exact qc (⟨k + 1, vo, Ho⟩ : WV) (by show zerosN m - (k + 1) < zerosN m - k; omega) ⟨by show Own _ _ _ vo (padZ M (k + 1)) Ho; rw [pad_more]; exact ho, by show k + 1 ≤ zerosN m; omega⟩ (qL (i := 0) rfl rfl (by first | omega | (dsimp only; omega) | rfl) (by first | omega | (dsimp only; omega) | rfl) (qH (i := 3) rfl (qK))) (fun w h => h.drop (by assumption))
 ·have hkz : zerosN m = k := by omega
  iterate 9 refine gx ?_
  refine qB (qA rfl) rfl (qv rfl Tryz.underlying3 Tryz.underlying73 rfl (r := (m : Int)) (wu64 rfl (by omega))) ?_
  refine qB (qA rfl) rfl (Gets.mulU rfl rfl rfl) ?_
  iterate 3 refine gx ?_
  refine qC [3, 4] ?_
  iterate 7 refine gx ?_
  refine qe (ι := WV) (fun x => [(3, x.v), (4, .int .u64 (mulW .u64 (m : Int) 8)), (5, .int .i64 (7 - (x.k : Int)))]) (fun x => [] ++ x.He) (fun x => 8 - x.k) (fun x => Own w.heap.size 5 .u8 x.v (M ++ padE m x.k) x.He ∧ x.k ≤ 8) (⟨0, .slice (some ⟨g, 0, none⟩) (m + 1 + k) c, [⟨g, 5, (padZ M k).map (int .u8), c⟩]⟩ : WV) ⟨by show Own _ _ _ _ (M ++ padE m 0) _; rw [show padE m 0 = 128 :: List.replicate (zerosN m) 0 from rfl, hkz]; exact hown0, by show 0 ≤ 8; omega⟩ (qH (i := 3) rfl (qE (i := 4) rfl (by first | rfl | omega) (qE (i := 5) rfl (by first | omega | rfl) (qK)))) (fun w h => h) (fun x hC1 => ?_)
  obtain ⟨k, v, He⟩ := x
  obtain ⟨hown, hC2⟩ := hC1
  dsimp only at hown hC2 ⊢
  iterate 7 refine gx ?_
  refine qQ rfl (fun hq1 => ?_) (fun hq1 => ?_)
  ·iterate 8 refine gx ?_
   refine qB (qA rfl) rfl (Gets.mul rfl rfl rfl (r := (56 - 8 * (k : Int))) (w64 (by omega) (by omega))) ?_
   refine qB (qA rfl) rfl (zI rfl rfl rfl (by omega) (r := (shrI .u64 (mulW .u64 (m : Int) 8) (56 - 8 * (k : Int)))) rfl) ?_
   refine qB (qA rfl) rfl (qv rfl Tryz.underlying73 Tryz.underlying5 rfl (r := (IntKind.u8.wrap (shrI .u64 (mulW .u64 (m : Int) 8) (56 - 8 * (k : Int))))) rfl) ?_
   refine zF (qA rfl) rfl rfl Tryz.underlying22 size5 zero5 rfl (by decide) (by decide) (cells := #[.int .u8 (IntKind.u8.wrap (shrI .u64 (mulW .u64 (m : Int) 8) (56 - 8 * (k : Int))))]) (tot := 1) (by kernel_rfl) (cs := [.int .u8 (IntKind.u8.wrap (shrI .u64 (mulW .u64 (m : Int) 8) (56 - 8 * (k : Int))))]) rfl rfl (fun g4 hg4 => ?_)
   refine zM (H := [⟨g4, 5, [int .u8 (IntKind.u8.wrap (shrI .u64 (mulW .u64 (m : Int) 8) (56 - 8 * (k : Int))))], 1⟩]) (sl := 1) (t := 22) (e := 5) (kd := .u8) (qA rfl) rfl rfl Tryz.underlying22 mk5 rfl rfl rfl (W := M ++ padE m k) (B := [(IntKind.u8.wrap (shrI .u64 (mulW .u64 (m : Int) 8) (56 - 8 * (k : Int))))]) hown (fun w hs => src_ent (W := [(IntKind.u8.wrap (shrI .u64 (mulW .u64 (m : Int) 8) (56 - 8 * (k : Int))))]) (hs.has ⟨g4, 5, [int .u8 (IntKind.u8.wrap (shrI .u64 (mulW .u64 (m : Int) 8) (56 - 8 * (k : Int))))], 1⟩ (by simp)) rfl) (by have := padE_len m k; have := zerosN_lt m; have hap : (M ++ padE m k).length = M.length + (padE m k).length := List.length_append; have hMl := hsM.1; omega) (by have := padE_len m k; have := zerosN_lt m; have hap : (M ++ padE m k).length = M.length + (padE m k).length := List.length_append; have hMl := hsM.1; omega) (fun vo Ho ho hne => ?_)
   iterate 4 refine gx ?_
   refine qC [3, 4, 5] ?_
   iterate 2 refine gx ?_
   refine qB (qA rfl) rfl (qu rfl rfl rfl (r := (6 - (k : Int))) (w64 (by omega) (by omega))) ?_
   iterate 2 refine gx ?_
   exact qc (⟨k + 1, vo, Ho⟩ : WV) (by show 8 - (k + 1) < 8 - k; omega) ⟨by show Own _ _ _ vo (M ++ padE m (k + 1)) Ho; rw [padE, ← List.append_assoc]; exact ho, by show k + 1 ≤ 8; omega⟩ (qH (i := 3) rfl (qE (i := 4) rfl (by first | rfl | omega) (qE (i := 5) rfl (by show (6 - (k : Int)) = 7 - ((k + 1 : Nat) : Int); omega) (qK)))) (fun w h => h.drop (by assumption))
  ·obtain rfl : k = 8 := by omega
   iterate 12 refine gx ?_
   exact qN rfl rfl (fun w hs => ⟨v, He, rfl, by rw [← end_pad8]; exact hown, hs⟩)
/-
 The reference: primes.
-/
theorem mk73 : (Tryz.prog.info? 73).map (fun i => (i.zero, i.size, i.bytes)) = some (some (.int .u64 0), 1, 8) := by kernel_rfl
theorem zero73 : (Tryz.prog.info? 73).bind (·.zero) = some (.int .u64 0) := by kernel_rfl
instance : Sli Tryz.prog 97 73 := ⟨Tryz.underlying97⟩
def okF (L : List Int) (p : Int) : Nat → Bool
 | 0 => true
 | j + 1 => if p % L.getD j 0 = 0 then false else okF L p j
def prS : Nat → List Int
 | 0 => []
 | k + 1 => if okF (prS k) ((k : Int) + 2) (prS k).length then prS k ++ [(k : Int) + 2] else prS k
theorem prS_two : ∀ k, ∀ x ∈ prS k, 2 ≤ x
 | 0 => by simp [prS]
 | k + 1 => by
  intro x hx
  unfold prS at hx
  split at hx
  ·rcases List.mem_append.1 hx with hx | hx
   ·exact prS_two k x hx
   ·have := List.mem_singleton.1 hx; omega
  ·exact prS_two k x hx
theorem prS_ne {k j : Nat} (h : j < (prS k).length) : (prS k).getD j 0 ≠ 0 := by
 have := prS_two k (prS k)[j] (List.getElem_mem h)
 rw [List.getD_eq_getElem?_getD, List.getElem?_eq_getElem h, Option.getD_some]
 omega
theorem prS_len : ∀ k, (prS k).length ≤ k
 | 0 => Nat.le_refl _
 | k + 1 => by
  have := prS_len k
  unfold prS
  split
  ·simp; omega
  ·omega
theorem prS_up (k : Nat) : (prS k).length ≤ (prS (k + 1)).length := by
 show _ ≤ (if okF (prS k) ((k : Int) + 2) (prS k).length then prS k ++ [(k : Int) + 2] else prS k).length
 split
 ·simp
 ·omega
theorem prS_mono : ∀ d k, (prS k).length ≤ (prS (k + d)).length
 | 0, _ => Nat.le_refl _
 | d + 1, k => Nat.le_trans (prS_mono d k) (prS_up (k + d))
theorem own_at {N : Nat} {t : TypeId} {kd : IntKind} {A : Option Addr} {m c : Nat} {W : List Int} {He : List Ent} (h : Own N t kd (.slice A m c) W He) (hm : 0 < m) : ∃ g, A = some ⟨g, 0, none⟩ ∧ He = [⟨g, t, W.map (int kd), c⟩] ∧ N ≤ g ∧ W.length ≤ c ∧ c ≤ maxLen := by
 rcases h with ⟨h, _, _⟩ | ⟨g, cap, h, h2, h3, h4, h5⟩
 ·cases h; omega
 ·cases h; exact ⟨g, rfl, h2, h3, h4, h5⟩
theorem ok_yes {k : Nat} (h : okF (prS k) ((k : Int) + 2) (prS k).length = true) : prS (k + 1) = prS k ++ [(k : Int) + 2] := by
 rw [prS, if_pos h]
theorem ok_no {k : Nat} (h : okF (prS k) ((k : Int) + 2) (prS k).length = false) : prS (k + 1) = prS k := by
 rw [prS, if_neg (by rw [h]; simp)]
theorem rprimes_k (n K : Nat) (w : World) (hn : n ≤ (prS K).length) (hKb : K ≤ 400) : Calls Tryz.prog 59 #[.int .i64 (n : Int)] w fun e w' => ∃ v He k, e = .returned v ∧ Own w.heap.size 73 .u64 v (prS k) He ∧ k ≤ K ∧ n ≤ (prS k).length ∧ St w He w' := by
 refine qP (args := [.int .i64 (n : Int)]) Tryz.func59 rfl Tryz.ntmps59 (by simp) ?_
 refine qC [0] ?_
 iterate 17 refine gx ?_
 refine qe (ι := WV) (fun x => [(0, .int .i64 (n : Int)), (3, x.v), (4, .int .u64 ((x.k : Int) + 2))]) (fun x => [] ++ x.He) (fun x => K - x.k) (fun x => Own w.heap.size 73 .u64 x.v (prS x.k) x.He ∧ x.k ≤ K) (⟨0, .slice none 0 0, []⟩ : WV) ⟨Own.nil _ _ _, by show 0 ≤ K; omega⟩ (qE (i := 0) rfl (by first | omega | rfl) (qH (i := 3) rfl (qE (i := 4) rfl (by first | omega | rfl) (qK)))) (fun w h => h) (fun x hC0 => ?_)
 obtain ⟨k, v, He⟩ := x
 obtain ⟨hown, hC2⟩ := hC0
 dsimp only at hown hC2 ⊢
 obtain ⟨Av, cv, hv, hc1, hc2⟩ := hown.form
 subst hv
 have hpl := prS_len k
 iterate 9 refine gx ?_
 refine qQ rfl (fun hq0 => ?_) (fun hq0 => ?_)
 ·have hkK : k ≠ K := fun h => by subst h; omega
  iterate 15 refine gx ?_
  refine qC [0, 3, 4, 5, 6] ?_
  refine gx ?_
  refine qe (ι := Nat) (fun j => [(0, .int .i64 (n : Int)), (3, .slice Av (((prS k).length)) cv), (4, .int .u64 ((k : Int) + 2)), (5, .bool (okF (prS k) ((k : Int) + 2) j)), (6, .int .i64 (j : Int))]) (fun j => [] ++ He) (fun j => (prS k).length - j) (fun j => j ≤ (prS k).length) 0 (Nat.zero_le _) (qE (i := 0) rfl (by first | omega | rfl) (qL (i := 3) rfl rfl (by first | omega | (dsimp only; omega) | rfl) (by first | omega | (dsimp only; omega) | rfl) (qE (i := 4) rfl (by first | omega | rfl) (qH (i := 5) rfl (qE (i := 6) rfl (by first | omega | rfl) (qK)))))) (fun w h => h) (fun j hC1 => ?_)
  iterate 9 refine gx ?_
  refine qC [0, 3, 4, 5, 6, 16] ?_
  refine qQ rfl (fun hq1 => ?_) (fun hq1 => ?_)
  ·obtain ⟨g, hA, hHe, hN, hcc, hcm⟩ := own_at hown (by omega)
   subst hA; subst hHe
   iterate 9 refine gx ?_
   refine qB (qA rfl) rfl (qW rfl Tryz.underlying97 size73 rfl rfl (i := j) (by omega) (by omega) (off' := j) (by omega)) ?_
   refine qB (qA rfl) rfl (qJ rfl agg73 rfl (qO (i := 0) (ent := ⟨g, 73, (prS k).map (int .u64), cv⟩) (off := j) rfl rfl (by have := qS (kd := .u64) (W := (prS k)) (i := j) (by rw [(Eq.refl (prS k).length)]; omega); (first | exact this | (refine Eq.trans ?_ this; congr 1; omega))))) ?_
   refine qB (qA rfl) rfl (Gets.rem rfl rfl rfl (prS_ne (by omega)) (r := (((k : Int) + 2) % ((prS k).getD j 0))) (tmod_pos (by omega) rfl)) ?_
   iterate 3 refine gx ?_
   refine qC [0, 3, 4, 5, 6, 25] ?_
   refine qQ rfl (fun hq2 => ?_) (fun hq2 => ?_)
   ·iterate 7 refine gx ?_
    refine qB (qA rfl) rfl (qU rfl rfl rfl (r := ((j : Int) + 1)) (w64 (by omega) (by omega))) ?_
    iterate 2 refine gx ?_
    exact qc (j + 1) (by omega) (by omega) (qE (i := 0) rfl (by first | omega | rfl) (qL (i := 3) rfl (by first | rfl | (congr 2; omega)) (by first | omega | (dsimp only; omega) | rfl) (by first | omega | (dsimp only; omega) | rfl) (qE (i := 4) rfl (by first | omega | rfl) (qH (i := 5) (by show look _ 5 = some (.bool (okF (prS k) ((k : Int) + 2) (j + 1))); first | (rw [show okF (prS k) ((k : Int) + 2) (j + 1) = false from if_pos hq2]; rfl) | (rw [show okF (prS k) ((k : Int) + 2) (j + 1) = okF (prS k) ((k : Int) + 2) j from if_neg hq2]; rfl)) (qE (i := 6) rfl (by first | omega | rfl) (qK)))))) (fun w h => h)
   ·iterate 5 refine gx ?_
    refine qB (qA rfl) rfl (qU rfl rfl rfl (r := ((j : Int) + 1)) (w64 (by omega) (by omega))) ?_
    iterate 2 refine gx ?_
    exact qc (j + 1) (by omega) (by omega) (qE (i := 0) rfl (by first | omega | rfl) (qL (i := 3) rfl (by first | rfl | (congr 2; omega)) (by first | omega | (dsimp only; omega) | rfl) (by first | omega | (dsimp only; omega) | rfl) (qE (i := 4) rfl (by first | omega | rfl) (qH (i := 5) (by show look _ 5 = some (.bool (okF (prS k) ((k : Int) + 2) (j + 1))); first | (rw [show okF (prS k) ((k : Int) + 2) (j + 1) = false from if_pos hq2]; rfl) | (rw [show okF (prS k) ((k : Int) + 2) (j + 1) = okF (prS k) ((k : Int) + 2) j from if_neg hq2]; rfl)) (qE (i := 6) rfl (by first | omega | rfl) (qK)))))) (fun w h => h)
  ·obtain rfl : j = (prS k).length := by omega
   iterate 10 refine gx ?_
   refine TC.splitB rfl (fun hq3 => ?_) (fun hq3 => ?_)
   ·iterate 3 refine gx ?_
    refine zF (qA rfl) rfl rfl Tryz.underlying97 size73 zero73 rfl (by decide) (by decide) (cells := #[.int .u64 ((k : Int) + 2)]) (tot := 1) (by kernel_rfl) (cs := [.int .u64 ((k : Int) + 2)]) rfl rfl (fun g1 hg1 => ?_)
    refine zM (H := [⟨g1, 73, [int .u64 ((k : Int) + 2)], 1⟩]) (sl := 1) (t := 97) (e := 73) (kd := .u64) (qA rfl) rfl rfl Tryz.underlying97 mk73 rfl rfl rfl (W := prS k) (B := [((k : Int) + 2)]) hown (fun w hs => src_ent (W := [((k : Int) + 2)]) (hs.has ⟨g1, 73, [int .u64 ((k : Int) + 2)], 1⟩ (by simp)) rfl) (by have := prS_len k; omega) (by have := prS_len k; omega) (fun vo Ho ho hne => ?_)
    have hya := ok_yes hq3
    rw [← hya] at ho
    iterate 4 refine gx ?_
    refine qC [0, 3, 4] ?_
    iterate 2 refine gx ?_
    refine qB (qA rfl) rfl (qU rfl rfl rfl (r := ((k : Int) + 3)) (wu64 (by omega) (by omega))) ?_
    iterate 2 refine gx ?_
    exact qc (⟨k + 1, vo, Ho⟩ : WV) (by show K - (k + 1) < K - k; omega) ⟨ho, by show k + 1 ≤ K; omega⟩ (qE (i := 0) rfl (by first | omega | rfl) (qH (i := 3) rfl (qE (i := 4) rfl (by first | omega | rfl) (qK)))) (fun w h => by first | exact h | exact h.drop (by assumption))
   ·have ho : Own w.heap.size 73 .u64 (.slice Av (prS k).length cv) (prS (k + 1)) He := by rw [ok_no hq3]; exact hown
    generalize hHo : He = Ho at *
    generalize hvo : slice Av (prS k).length cv = vo at *
    iterate 5 refine gx ?_
    refine qB (qA rfl) rfl (qU rfl rfl rfl (r := ((k : Int) + 3)) (wu64 (by omega) (by omega))) ?_
    iterate 2 refine gx ?_
    exact qc (⟨k + 1, vo, Ho⟩ : WV) (by show K - (k + 1) < K - k; omega) ⟨ho, by show k + 1 ≤ K; omega⟩ (qE (i := 0) rfl (by first | omega | rfl) (qH (i := 3) rfl (qE (i := 4) rfl (by first | omega | rfl) (qK)))) (fun w h => by first | exact h | exact h.drop (by assumption))
 ·iterate 12 refine gx ?_
  exact qN rfl rfl (fun w hs => ⟨_, He, k, rfl, hown, hC2, by omega, hs⟩)
/-
 The reference: Constants.
-/
theorem enters59 : Enters Tryz.prog 59 := ⟨_, Tryz.func59, by kernel_rfl, by kernel_rfl⟩
theorem enters60 : Enters Tryz.prog 60 := ⟨_, Tryz.func60, by kernel_rfl, by kernel_rfl⟩
def consF (L : List Int) (c : Bool) : Nat → List Int
 | 0 => []
 | k + 1 => consF L c k ++ [IntKind.u32.wrap (bis (L.getD k 0) c 40).1]
theorem consF_len (L : List Int) (c : Bool) : ∀ k, (consF L c k).length = k
 | 0 => rfl
 | k + 1 => by simp [consF, consF_len L c k]
theorem rprimes_c (n K : Nat) (P : List Int) (w : World) (hP : prS K = P) (hn : P.length = n) (hK : ∀ k, k < K → (prS k).length < n) (hKb : K ≤ 400) : Calls Tryz.prog 59 #[.int .i64 (n : Int)] w fun e w' => ∃ v He, e = .returned v ∧ Own w.heap.size 73 .u64 v P He ∧ St w He w' :=
 (rprimes_k n K w (by rw [hP, hn]; exact Nat.le_refl _) hKb).mono fun e w' ⟨v, He, k, he, ho, hk, hn2, hs⟩ => by
  have hkK : k = K := by
   by_cases h : k < K
   ·have := hK k h; omega
   ·omega
  subst hkK
  rw [hP] at ho
  exact ⟨v, He, he, ho, hs⟩
theorem rcons2_c (n K : Nat) (P : List Int) (w : World) (hP : prS K = P) (hn : P.length = n) (hn0 : 0 < n) (hn9 : n ≤ 100) (hK : ∀ k, k < K → (prS k).length < n) (hKb : K ≤ 400) (hfix : ∀ k, k < n → ¬ 1 < (bis (P.getD k 0) false 40).2 - (bis (P.getD k 0) false 40).1) : Calls Tryz.prog 34 #[.int .i64 (n : Int), .bool false] w fun e w' => ∃ v He, e = .returned v ∧ Own w.heap.size 96 .u32 v (consF P false n) He ∧ St w He w' := by
 refine qP (args := [.int .i64 (n : Int), .bool false]) Tryz.func34 rfl Tryz.ntmps34 (by simp) ?_
 refine qC [0, 1] ?_
 iterate 13 refine gx ?_
 refine qr (ι := WV) (V := fun x => x.v) (R := fun x => Own w.heap.size 73 .u64 x.v P x.He) (H' := fun x => [] ++ x.He) (qA rfl) rfl enters59 rfl rfl (fun w hs => (rprimes_c n K P w hP hn hK hKb).mono fun e w' ⟨v, He, he, ho, hw⟩ => ⟨⟨0, v, He⟩, he, own_mono ho hs.size, st_call hs hw ho.new⟩) (fun x hx => ?_)
 obtain ⟨kx, vL, HL⟩ := x
 dsimp only at hx ⊢
 obtain ⟨gL, cL, hvL, hHL, hNL, hcL, hmL⟩ := hx.resolve_left (fun h => by have := congrArg List.length h.2.1; rw [hn] at this; simp at this; omega)
 rw [hn] at hvL
 subst hvL; subst hHL
 iterate 10 refine gx ?_
 refine qe (ι := WV) (fun x => [(1, .bool false), (5, x.v), (6, .slice (some ⟨gL, 0, none⟩) n cL), (7, .int .i64 (x.k : Int))]) (fun x => [⟨gL, 73, P.map (int .u64), cL⟩] ++ x.He) (fun x => n - x.k) (fun x => Own w.heap.size 96 .u32 x.v (consF P false x.k) x.He ∧ x.k ≤ n) (⟨0, .slice none 0 0, []⟩ : WV) ⟨Own.nil _ _ _, by show 0 ≤ n; omega⟩ (qH (i := 1) rfl (qH (i := 5) rfl (qH (i := 6) rfl (qE (i := 7) rfl (by first | omega | rfl) (qK))))) (fun w h => h) (fun x hC0 => ?_)
 obtain ⟨k, v, He⟩ := x
 obtain ⟨hown, hC2⟩ := hC0
 dsimp only at hown hC2 ⊢
 iterate 9 refine gx ?_
 refine qQ rfl (fun hq0 => ?_) (fun hq0 => ?_)
 ·iterate 8 refine gx ?_
  refine qB (qA rfl) rfl (qW rfl Tryz.underlying97 size73 rfl rfl (i := k) (by omega) (by omega) (off' := k) (by omega)) ?_
  refine qB (qA rfl) rfl (qJ rfl agg73 rfl (qO (i := 0) (ent := ⟨gL, 73, P.map (int .u64), cL⟩) (off := k) rfl rfl (by have := qS (kd := .u64) (W := P) (i := k) (by rw [hn]; omega); (first | exact this | (refine Eq.trans ?_ this; congr 1; omega))))) ?_
  refine gx ?_
  refine qR (qA rfl) rfl enters60 rfl rfl (v := .int .u32 (IntKind.u32.wrap (bis (P.getD k 0) false 40).1)) (fun w hs => root2_c (P.getD k 0) w (hfix k (by omega))) ?_
  refine zF (qA rfl) rfl rfl Tryz.underlying34 size96 zero96 rfl (by decide) (by decide) (cells := #[.int .u32 (IntKind.u32.wrap (bis (P.getD k 0) false 40).1)]) (tot := 1) (by kernel_rfl) (cs := [.int .u32 (IntKind.u32.wrap (bis (P.getD k 0) false 40).1)]) rfl rfl (fun g1 hg1 => ?_)
  refine zM (H := [⟨g1, 96, [int .u32 (IntKind.u32.wrap (bis (P.getD k 0) false 40).1)], 1⟩, ⟨gL, 73, P.map (int .u64), cL⟩]) (sl := 1) (t := 34) (e := 96) (kd := .u32) (qA rfl) rfl rfl Tryz.underlying34 mk96 rfl rfl rfl (W := consF P false k) (B := [(IntKind.u32.wrap (bis (P.getD k 0) false 40).1)]) hown (fun w hs => src_ent (W := [(IntKind.u32.wrap (bis (P.getD k 0) false 40).1)]) (hs.has ⟨g1, 96, [int .u32 (IntKind.u32.wrap (bis (P.getD k 0) false 40).1)], 1⟩ (by simp)) rfl) (by have := consF_len P false k; omega) (by have := consF_len P false k; omega) (fun vo Ho ho hne => ?_)
  iterate 4 refine gx ?_
  refine qC [1, 5, 6, 7] ?_
  iterate 2 refine gx ?_
  refine qB (qA rfl) rfl (qU rfl rfl rfl (r := ((k : Int) + 1)) (w64 (by omega) (by omega))) ?_
  iterate 2 refine gx ?_
  exact qc (⟨k + 1, vo, Ho⟩ : WV) (by show n - (k + 1) < n - k; omega) ⟨ho, by show k + 1 ≤ n; omega⟩ (qH (i := 1) rfl (qH (i := 5) rfl (qL (i := 6) rfl rfl (by first | omega | (dsimp only; omega) | rfl) (by first | omega | (dsimp only; omega) | rfl) (qE (i := 7) rfl (by first | omega | rfl) (qK))))) (fun w h => h.drop (by assumption))
 ·obtain rfl : k = n := by omega
  iterate 12 refine gx ?_
  exact qN rfl rfl (fun w hs => ⟨v, He, rfl, hown, hs.drop hNL⟩)
theorem rcons3_c (n K : Nat) (P : List Int) (w : World) (hP : prS K = P) (hn : P.length = n) (hn0 : 0 < n) (hn9 : n ≤ 100) (hK : ∀ k, k < K → (prS k).length < n) (hKb : K ≤ 400) (hfix : ∀ k, k < n → ¬ 1 < (bis (P.getD k 0) true 40).2 - (bis (P.getD k 0) true 40).1) : Calls Tryz.prog 34 #[.int .i64 (n : Int), .bool true] w fun e w' => ∃ v He, e = .returned v ∧ Own w.heap.size 96 .u32 v (consF P true n) He ∧ St w He w' := by
 refine qP (args := [.int .i64 (n : Int), .bool true]) Tryz.func34 rfl Tryz.ntmps34 (by simp) ?_
 refine qC [0, 1] ?_
 iterate 13 refine gx ?_
 refine qr (ι := WV) (V := fun x => x.v) (R := fun x => Own w.heap.size 73 .u64 x.v P x.He) (H' := fun x => [] ++ x.He) (qA rfl) rfl enters59 rfl rfl (fun w hs => (rprimes_c n K P w hP hn hK hKb).mono fun e w' ⟨v, He, he, ho, hw⟩ => ⟨⟨0, v, He⟩, he, own_mono ho hs.size, st_call hs hw ho.new⟩) (fun x hx => ?_)
 obtain ⟨kx, vL, HL⟩ := x
 dsimp only at hx ⊢
 obtain ⟨gL, cL, hvL, hHL, hNL, hcL, hmL⟩ := hx.resolve_left (fun h => by have := congrArg List.length h.2.1; rw [hn] at this; simp at this; omega)
 rw [hn] at hvL
 subst hvL; subst hHL
 iterate 10 refine gx ?_
 refine qe (ι := WV) (fun x => [(1, .bool true), (5, x.v), (6, .slice (some ⟨gL, 0, none⟩) n cL), (7, .int .i64 (x.k : Int))]) (fun x => [⟨gL, 73, P.map (int .u64), cL⟩] ++ x.He) (fun x => n - x.k) (fun x => Own w.heap.size 96 .u32 x.v (consF P true x.k) x.He ∧ x.k ≤ n) (⟨0, .slice none 0 0, []⟩ : WV) ⟨Own.nil _ _ _, by show 0 ≤ n; omega⟩ (qH (i := 1) rfl (qH (i := 5) rfl (qH (i := 6) rfl (qE (i := 7) rfl (by first | omega | rfl) (qK))))) (fun w h => h) (fun x hC0 => ?_)
 obtain ⟨k, v, He⟩ := x
 obtain ⟨hown, hC2⟩ := hC0
 dsimp only at hown hC2 ⊢
 iterate 9 refine gx ?_
 refine qQ rfl (fun hq0 => ?_) (fun hq0 => ?_)
 ·iterate 8 refine gx ?_
  refine qB (qA rfl) rfl (qW rfl Tryz.underlying97 size73 rfl rfl (i := k) (by omega) (by omega) (off' := k) (by omega)) ?_
  refine qB (qA rfl) rfl (qJ rfl agg73 rfl (qO (i := 0) (ent := ⟨gL, 73, P.map (int .u64), cL⟩) (off := k) rfl rfl (by have := qS (kd := .u64) (W := P) (i := k) (by rw [hn]; omega); (first | exact this | (refine Eq.trans ?_ this; congr 1; omega))))) ?_
  refine gx ?_
  refine qR (qA rfl) rfl enters60 rfl rfl (v := .int .u32 (IntKind.u32.wrap (bis (P.getD k 0) true 40).1)) (fun w hs => root3_c (P.getD k 0) w (hfix k (by omega))) ?_
  refine zF (qA rfl) rfl rfl Tryz.underlying34 size96 zero96 rfl (by decide) (by decide) (cells := #[.int .u32 (IntKind.u32.wrap (bis (P.getD k 0) true 40).1)]) (tot := 1) (by kernel_rfl) (cs := [.int .u32 (IntKind.u32.wrap (bis (P.getD k 0) true 40).1)]) rfl rfl (fun g1 hg1 => ?_)
  refine zM (H := [⟨g1, 96, [int .u32 (IntKind.u32.wrap (bis (P.getD k 0) true 40).1)], 1⟩, ⟨gL, 73, P.map (int .u64), cL⟩]) (sl := 1) (t := 34) (e := 96) (kd := .u32) (qA rfl) rfl rfl Tryz.underlying34 mk96 rfl rfl rfl (W := consF P true k) (B := [(IntKind.u32.wrap (bis (P.getD k 0) true 40).1)]) hown (fun w hs => src_ent (W := [(IntKind.u32.wrap (bis (P.getD k 0) true 40).1)]) (hs.has ⟨g1, 96, [int .u32 (IntKind.u32.wrap (bis (P.getD k 0) true 40).1)], 1⟩ (by simp)) rfl) (by have := consF_len P true k; omega) (by have := consF_len P true k; omega) (fun vo Ho ho hne => ?_)
  iterate 4 refine gx ?_
  refine qC [1, 5, 6, 7] ?_
  iterate 2 refine gx ?_
  refine qB (qA rfl) rfl (qU rfl rfl rfl (r := ((k : Int) + 1)) (w64 (by omega) (by omega))) ?_
  iterate 2 refine gx ?_
  exact qc (⟨k + 1, vo, Ho⟩ : WV) (by show n - (k + 1) < n - k; omega) ⟨ho, by show k + 1 ≤ n; omega⟩ (qH (i := 1) rfl (qH (i := 5) rfl (qL (i := 6) rfl rfl (by first | omega | (dsimp only; omega) | rfl) (by first | omega | (dsimp only; omega) | rfl) (qE (i := 7) rfl (by first | omega | rfl) (qK))))) (fun w h => h.drop (by assumption))
 ·obtain rfl : k = n := by omega
  iterate 12 refine gx ?_
  exact qN rfl rfl (fun w hs => ⟨v, He, rfl, hown, hs.drop hNL⟩)
/-
 The constants: the numbers.
-/
def P8 : List Int := [2, 3, 5, 7, 11, 13, 17, 19]
def P64 : List Int := [2, 3, 5, 7, 11, 13, 17, 19, 23, 29, 31, 37, 41, 43, 47, 53, 59, 61, 67, 71, 73, 79, 83, 89, 97, 101, 103, 107, 109, 113, 127, 131, 137, 139, 149, 151, 157, 163, 167, 173, 179, 181, 191, 193, 197, 199, 211, 223, 227, 229, 233, 239, 241, 251, 257, 263, 269, 271, 277, 281, 283, 293, 307, 311]
def R8 : List (Int × Int) := [(6074000999, 6074001000), (7439101573, 7439101574), (9603838834, 9603838835), (11363415354, 11363415355), (14244795007, 14244795008), (15485724812, 15485724813), (17708603819, 17708603820), (18721328409, 18721328410)]
def R64 : List (Int × Int) := [(5411319704, 5411319705), (6194414737, 6194414738), (7344290767, 7344290768), (8215976869, 8215976870), (9551921755, 9551921756), (10098905585, 10098905586), (11043570340, 11043570341), (11460697813, 11460697814), (12214315672, 12214315673), (13195500289, 13195500290), (13492127166, 13492127167), (14311783875, 14311783876), (14809980276, 14809980277), (15046980094, 15046980095), (15499789991, 15499789992), (16133124468, 16133124469), (16720292289, 16720292290), (16907126662, 16907126663), (17444216262, 17444216263), (17784676812, 17784676813), (17950125167, 17950125168), (18429019306, 18429019307), (18734950876, 18734950877), (19175934170, 19175934171), (19734090066, 19734090067), (20001703533, 20001703534), (20132865992, 20132865993), (20390182855, 20390182856), (20516441075, 20516441076), (20764397895, 20764397896), (21588763473, 21588763474), (21813078375, 21813078376), (22141143685, 22141143686), (22248366392, 22248366393), (22769593852, 22769593853), (22871018771, 22871018772), (23170020180, 23170020181), (23461497531, 23461497532), (23651862830, 23651862831), (23931792517, 23931792518), (24205322401, 24205322402), (24295138891, 24295138892), (24734567280, 24734567281), (24820601251, 24820601252), (24990902297, 24990902298), (25075189284, 25075189285), (25569408389, 25569408390), (26045227120, 26045227121), (26200031510, 26200031511), (26276752392, 26276752393), (26428864332, 26428864333), (26653801653, 26653801654), (26727943347, 26727943348), (27092625994, 27092625995), (27306805839, 27306805840), (27517677555, 27517677556), (27725365998, 27725365999), (27793908591, 27793908592), (27997534228, 27997534229), (28131656200, 28131656201), (28198240250, 28198240251), (28526537963, 28526537964), (28973835255, 28973835256), (29099129074, 29099129075)]
/-
 The constants: a quarter of the cube roots.
-/
theorem ball0 : ((P64.drop 0).take 16).map (fun p => bis p true 40) = (R64.drop 0).take 16 := by decide +kernel
/-
 The constants: a quarter of the cube roots.
-/
theorem ball1 : ((P64.drop 16).take 16).map (fun p => bis p true 40) = (R64.drop 16).take 16 := by decide +kernel
/-
 The constants: a quarter of the cube roots.
-/
theorem ball2 : ((P64.drop 32).take 16).map (fun p => bis p true 40) = (R64.drop 32).take 16 := by decide +kernel
/-
 The constants: a quarter of the cube roots.
-/
theorem ball3 : ((P64.drop 48).take 16).map (fun p => bis p true 40) = (R64.drop 48).take 16 := by decide +kernel
/-
 The reference: the constants are the tables.
-/
theorem p8_is : prS 18 = P8 := by decide +kernel
theorem p64_is : prS 310 = P64 := by decide +kernel
theorem p309 : (prS 309).length = 63 := by decide +kernel
theorem p17 : (prS 17).length = 7 := by decide +kernel
theorem ball8 : P8.map (fun p => bis p false 40) = R8 := by decide +kernel
theorem before8 (k : Nat) (h : k < 18) : (prS k).length < 8 := by
 obtain ⟨d, hd⟩ := Nat.exists_eq_add_of_le (show k ≤ 17 by omega)
 have := prS_mono d k
 rw [← hd, p17] at this
 omega
theorem before64 (k : Nat) (h : k < 310) : (prS k).length < 64 := by
 obtain ⟨d, hd⟩ := Nat.exists_eq_add_of_le (show k ≤ 309 by omega)
 have := prS_mono d k
 rw [← hd, p309] at this
 omega
theorem map_split {α β : Type} (f : α → β) (l : List α) (r : List β) (hl : l.length = 64) (hr : r.length = 64) (h : ∀ q, q < 4 → ((l.drop (16 * q)).take 16).map f = (r.drop (16 * q)).take 16) : l.map f = r := by
 apply List.ext_getElem (by simp [hl, hr])
 intro i h1 h2
 have hi : i < 64 := by omega
 have := congrArg (·[i % 16]?) (h (i / 16) (by omega))
 simp only [List.getElem?_map, List.getElem?_take, List.getElem?_drop, show i % 16 < 16 by omega, if_true, show 16 * (i / 16) + i % 16 = i by omega, List.getElem?_eq_getElem (show i < l.length by omega), List.getElem?_eq_getElem h2, Option.map_some, Option.some.injEq] at this
 simpa using this
theorem ball64 : P64.map (fun p => bis p true 40) = R64 := map_split _ _ _ rfl rfl fun q hq => by
 obtain rfl | rfl | rfl | rfl : q = 0 ∨ q = 1 ∨ q = 2 ∨ q = 3 := by omega
 ·exact ball0
 ·exact ball1
 ·exact ball2
 ·exact ball3
theorem bis_of {L : List Int} {R : List (Int × Int)} {c : Bool} (h : L.map (fun p => bis p c 40) = R) {k : Nat} (hk : k < L.length) : bis (L.getD k 0) c 40 = R.getD k (0, 0) := by
 subst h
 simp [List.getD_eq_getElem?_getD, hk]
def consG (R : List (Int × Int)) : Nat → List Int
 | 0 => []
 | k + 1 => consG R k ++ [IntKind.u32.wrap (R.getD k (0, 0)).1]
theorem cons_of {L : List Int} {R : List (Int × Int)} {c : Bool} (h : L.map (fun p => bis p c 40) = R) : ∀ k, k ≤ L.length → consF L c k = consG R k
 | 0, _ => rfl
 | k + 1, hk => by rw [consF, consG, cons_of h k (by omega), bis_of h (by omega)]
theorem fix8 (k : Nat) (h : k < 8) : ¬ 1 < (bis (P8.getD k 0) false 40).2 - (bis (P8.getD k 0) false 40).1 := by
 rw [bis_of ball8 h]
 have : ∀ k : Fin 8, ¬ 1 < (R8.getD k.val (0, 0)).2 - (R8.getD k.val (0, 0)).1 := by decide +kernel
 exact this ⟨k, h⟩
theorem fix64 (k : Nat) (h : k < 64) : ¬ 1 < (bis (P64.getD k 0) true 40).2 - (bis (P64.getD k 0) true 40).1 := by
 rw [bis_of ball64 h]
 have : ∀ k : Fin 64, ¬ 1 < (R64.getD k.val (0, 0)).2 - (R64.getD k.val (0, 0)).1 := by decide +kernel
 exact this ⟨k, h⟩
theorem cons8 : consF P8 false 8 = IV := (cons_of ball8 8 (Nat.le_refl _)).trans (by decide +kernel)
theorem cons64 : consF P64 true 64 = KT := (cons_of ball64 64 (Nat.le_refl _)).trans (by decide +kernel)
/-
 The reference: Table.
-/
theorem agg36 : (isAgg 36).run Tryz.prog = fun w => .ok true w := isAgg_yes Tryz.underlying36 rfl
theorem enters34 : Enters Tryz.prog 34 := ⟨_, Tryz.func34, by kernel_rfl, by kernel_rfl⟩
theorem size36 : (Tryz.prog.info? 36).map (·.size) = some 2 := by kernel_rfl
theorem zero36 : (Tryz.prog.info? 36).bind (·.zero) = some (.agg #[.slice none 0 0, .slice none 0 0]) := by kernel_rfl
instance : Siz Tryz.prog 36 2 := ⟨size36⟩
instance : Zer Tryz.prog 36 [slice none 0 0, slice none 0 0] := ⟨⟨_, zero36, rfl⟩⟩
theorem rIV_c (w : World) : Calls Tryz.prog 34 #[.int .i64 8, .bool false] w fun e w' => ∃ g c, e = .returned (.slice (some ⟨g, 0, none⟩) 8 c) ∧ w.heap.size ≤ g ∧ 8 ≤ c ∧ St w [⟨g, 96, IV.map (int .u32), c⟩] w' :=
 (rcons2_c 8 18 P8 w p8_is rfl (by omega) (by omega) before8 (by omega) fix8).mono fun e w' ⟨v, He, he, ho, hs⟩ => by
  rw [cons8] at ho
  obtain ⟨g, c, rfl, rfl, hN, hc, hm⟩ := ho.resolve_left (fun h => by have := congrArg List.length h.2.1; simp [IV_len] at this)
  exact ⟨g, c, he, hN, hc, hs⟩
theorem KT_len : KT.length = 64 := by rfl
theorem rKT_c (w : World) : Calls Tryz.prog 34 #[.int .i64 64, .bool true] w fun e w' => ∃ g c, e = .returned (.slice (some ⟨g, 0, none⟩) 64 c) ∧ w.heap.size ≤ g ∧ 64 ≤ c ∧ St w [⟨g, 96, KT.map (int .u32), c⟩] w' :=
 (rcons3_c 64 310 P64 w p64_is rfl (by omega) (by omega) before64 (by omega) fix64).mono fun e w' ⟨v, He, he, ho, hs⟩ => by
  rw [cons64] at ho
  obtain ⟨g, c, rfl, rfl, hN, hc, hm⟩ := ho.resolve_left (fun h => by have := congrArg List.length h.2.1; simp [KT_len] at this)
  exact ⟨g, c, he, hN, hc, hs⟩
theorem rtable_c (w : World) : Calls Tryz.prog 16 #[] w fun e w' => ∃ gs cs gk ck, e = .returned (.agg #[.slice (some ⟨gs, 0, none⟩) 8 cs, .slice (some ⟨gk, 0, none⟩) 64 ck]) ∧ w.heap.size ≤ gs ∧ w.heap.size ≤ gk ∧ 8 ≤ cs ∧ 64 ≤ ck ∧ St w [⟨gk, 96, KT.map (int .u32), ck⟩, ⟨gs, 96, IV.map (int .u32), cs⟩] w' := by
 refine qP (args := []) Tryz.func16 rfl Tryz.ntmps16 (by simp) ?_
 refine qC [] ?_
 iterate 2 refine gx ?_
 refine qb (fun g1 hg1 => ?_)
 iterate 4 refine gx ?_
 refine qr (ι := Nat × Nat) (V := fun x => .slice (some ⟨x.1, 0, none⟩) 8 x.2) (R := fun x => w.heap.size ≤ x.1 ∧ 8 ≤ x.2) (H' := fun x => [⟨x.1, 96, IV.map (int .u32), x.2⟩, ⟨g1, 36, [slice none 0 0, slice none 0 0], 2⟩]) (qA rfl) rfl enters34 rfl rfl (fun w hs => (rIV_c w).mono fun e w' ⟨g, c, he, hge, hc, hw⟩ => ⟨(g, c), he, ⟨Nat.le_trans hs.size hge, hc⟩, hs.made hw hge⟩) (fun x hxs => ?_)
 obtain ⟨gs, cs⟩ := x
 dsimp only at hxs ⊢
 obtain ⟨hgs, hcs⟩ := hxs
 refine qr (ι := Nat × Nat) (V := fun x => .slice (some ⟨x.1, 0, none⟩) 64 x.2) (R := fun x => w.heap.size ≤ x.1 ∧ 64 ≤ x.2) (H' := fun x => [⟨x.1, 96, KT.map (int .u32), x.2⟩, ⟨gs, 96, IV.map (int .u32), cs⟩, ⟨g1, 36, [slice none 0 0, slice none 0 0], 2⟩]) (qA rfl) rfl enters34 rfl rfl (fun w hs => (rKT_c w).mono fun e w' ⟨g, c, he, hge, hc, hw⟩ => ⟨(g, c), he, ⟨Nat.le_trans hs.size hge, hc⟩, hs.made hw hge⟩) (fun x hxk => ?_)
 obtain ⟨gk, ck⟩ := x
 dsimp only at hxk ⊢
 obtain ⟨hgk, hck⟩ := hxk
 refine qB (qA rfl) rfl (qm rfl (vs := [(0, slice (some ⟨gs, 0, none⟩) 8 cs), (1, slice (some ⟨gk, 0, none⟩) 64 ck)]) rfl (fun w => by first | rfl | kernel_rfl) (v := .agg ([slice (some ⟨gs, 0, none⟩) 8 cs, slice (some ⟨gk, 0, none⟩) 64 ck]).toArray)) ?_
 iterate 4 refine gx ?_
 exact qn rfl agg36 size36 rfl (vs := [slice (some ⟨gs, 0, none⟩) 8 cs, slice (some ⟨gk, 0, none⟩) 64 ck]) (by simp []) (qZ (i := 2) (ent := ⟨g1, 36, [slice (some ⟨gs, 0, none⟩) 8 cs, slice (some ⟨gk, 0, none⟩) 64 ck], 2⟩) rfl rfl rfl) (fun w hs => ⟨gs, cs, gk, ck, rfl, hgs, hgk, hcs, hck, hs.erase (i := 2) rfl hg1⟩)
/-
 The reference: With.
-/
theorem agg34 : (isAgg 34).run Tryz.prog = fun w => .ok false w := isAgg_no Tryz.underlying34 rfl
theorem enters56 : Enters Tryz.prog 56 := ⟨_, Tryz.func56, by kernel_rfl, by kernel_rfl⟩
theorem enters57 : Enters Tryz.prog 57 := ⟨_, Tryz.func57, by kernel_rfl, by kernel_rfl⟩
theorem enters58 : Enters Tryz.prog 58 := ⟨_, Tryz.func58, by kernel_rfl, by kernel_rfl⟩
theorem size34 : (Tryz.prog.info? 34).map (·.size) = some 1 := by kernel_rfl
instance : AgN Tryz.prog 34 := ⟨agg34⟩
instance : Fld Tryz.prog 36 0 0 := ⟨⟨_, _, _, Tryz.underlying36, rfl, size34, rfl⟩⟩
theorem row_blk {w : World} {g t tot k : Nat} {W : List Int} {kd : IntKind} (hl : Ent.lies ⟨g, t, W.map (int kd), tot⟩ w) (hW : 64 * k + 64 ≤ W.length) : RowI w g (64 * k) 64 kd (blk W k) := fun j hj => by
 rw [blk_get _ _ _ hj]; exact hl.cell (qS (by omega))
def padM (M : List Int) : List Int := M ++ endB M.length 8
theorem padM_len (M : List Int) : (padM M).length = M.length + (zerosN M.length + 9) := by
 unfold padM
 rw [List.length_append, endB_len]
theorem padM_mod (M : List Int) : (padM M).length % 64 = 0 := by
 rw [padM_len]; unfold zerosN; omega
theorem padM_le (M : List Int) (h : M.length ≤ 4000) : (padM M).length ≤ 5000 := by
 rw [padM_len]; unfold zerosN; omega
theorem sha_padM (M : List Int) : shaM M = digB (cmp (padM M) ((padM M).length / 64)) 8 := by
 unfold shaM padM; rfl
attribute [irreducible] padM
def digI (V : List Int) : Nat → List Int
 | 0 => List.replicate 32 0
 | k + 1 => (digI V k).set k (IntKind.u8.wrap (shrI .u32 (V.getD (k / 4) 0) (24 - 8 * ((k : Int) % 4))))
theorem digI_len (V : List Int) : ∀ k, (digI V k).length = 32
 | 0 => by simp [digI]
 | k + 1 => by simp [digI, digI_len V k]
theorem getD_set' {l : List Int} {i j : Nat} {v d : Int} (hi : i < l.length) : (l.set i v).getD j d = if i = j then v else l.getD j d := by
 simp only [List.getD_eq_getElem?_getD, List.getElem?_set]
 by_cases h : i = j
 ·subst h; simp [hi]
 ·simp [h]
theorem digI_get (V : List Int) : ∀ k, k ≤ 32 → ∀ j, j < k → (digI V k).getD j 0 = IntKind.u8.wrap (shrI .u32 (V.getD (j / 4) 0) (24 - 8 * ((j : Int) % 4)))
 | 0, _, j, hj => absurd hj (Nat.not_lt_zero j)
 | k + 1, hk, j, hj => by
  have hl := digI_len V k
  rw [digI, getD_set' (by omega)]
  by_cases e : k = j
  ·subst e; rw [if_pos rfl]
  ·rw [if_neg e]; exact digI_get V k (by omega) j (by omega)
theorem shr_zero (x : Int) : shrI .u32 x 0 = x := by
 unfold shrI
 have h : (2 : Int) ^ (min (0 : Int).toNat IntKind.u32.bits) = 1 := by decide
 rw [h]; exact Int.fdiv_one x
theorem digB_get (V : List Int) : ∀ k, k ≤ 8 → ∀ j, j < 4 * k → (digB V k).getD j 0 = IntKind.u8.wrap (shrI .u32 (V.getD (j / 4) 0) (24 - 8 * ((j : Int) % 4)))
 | 0, _, j, hj => absurd hj (by omega)
 | k + 1, hk, j, hj => by
  have hl := digB_len V k
  rw [digB, getD_set' (by simp only [List.length_set]; omega), getD_set' (by simp only [List.length_set]; omega), getD_set' (by simp only [List.length_set]; omega), getD_set' (by omega)]
  by_cases e3 : 4 * k + 3 = j
  ·rw [if_pos e3, show j / 4 = k by omega, show (24 - 8 * ((j : Int) % 4)) = 0 by omega, shr_zero]
  by_cases e2 : 4 * k + 2 = j
  ·rw [if_neg e3, if_pos e2, show j / 4 = k by omega, show (24 - 8 * ((j : Int) % 4)) = 8 by omega]
  by_cases e1 : 4 * k + 1 = j
  ·rw [if_neg e3, if_neg e2, if_pos e1, show j / 4 = k by omega, show (24 - 8 * ((j : Int) % 4)) = 16 by omega]
  by_cases e0 : 4 * k = j
  ·rw [if_neg e3, if_neg e2, if_neg e1, if_pos e0, show j / 4 = k by omega, show (24 - 8 * ((j : Int) % 4)) = 24 by omega]
  ·rw [if_neg e3, if_neg e2, if_neg e1, if_neg e0]; exact digB_get V k (by omega) j (by omega)
theorem dig_same (V : List Int) : digI V 32 = digB V 8 := by
 apply List.ext_getElem (by rw [digI_len, digB_len])
 intro i h1 h2
 rw [digI_len] at h1
 have e1 := digI_get V 32 (Nat.le_refl _) i h1
 have e2 := digB_get V 8 (Nat.le_refl _) i (by omega)
 have e3 := e1.trans e2.symm
 rw [List.getD_eq_getElem?_getD, List.getD_eq_getElem?_getD, List.getElem?_eq_getElem (by rw [digI_len]; omega), List.getElem?_eq_getElem h2, Option.getD_some, Option.getD_some] at e3
 exact e3
attribute [irreducible] digI
theorem own_someZ {N t : Nat} {kd : IntKind} {v : Value} {W : List Int} {He : List Ent} (h : Own N t kd v W He) (hW : 0 < W.length) : ∃ g c, v = .slice (some ⟨g, 0, none⟩) W.length c ∧ He = [⟨g, t, W.map (int kd), c⟩] ∧ N ≤ g ∧ W.length ≤ c := by
 rcases h with ⟨_, rfl, _⟩ | ⟨g, c, h1, h2, h3, h4, _⟩
 ·exact absurd hW (by simp)
 ·exact ⟨g, c, h1, h2, h3, h4⟩
theorem rpad_m (M MB : List Int) (LN : Nat) (hMB : padM M = MB) (hLN : MB.length = LN) (A : Option Addr) (m c0 : Nat) (w : World) (hsM : Src w A m .u8 M) (hmc : m ≤ c0) (hm : m ≤ 4000) : Calls Tryz.prog 56 #[.slice A m c0] w fun e w' => ∃ g c, e = .returned (.slice (some ⟨g, 0, none⟩) LN c) ∧ w.heap.size ≤ g ∧ LN ≤ c ∧ St w [⟨g, 5, MB.map (int .u8), c⟩] w' :=
 (rpad_c M A m c0 w hsM hmc hm).mono fun e w' ⟨v, He, he, ho, hs⟩ => by
  have e1 : M ++ endB m 8 = MB := by rw [← hMB, ← hsM.1]; unfold padM; rfl
  rw [e1] at ho
  obtain ⟨g, c, rfl, rfl, hN, hc⟩ := own_someZ ho (by have := padM_len M; rw [hMB] at this; omega)
  rw [hLN] at hc
  exact ⟨g, c, by rw [he, hLN], hN, hc, hs⟩
theorem rschedule_m (B : List Int) (b off cap : Nat) (w : World) (hb : b < w.heap.size) (hB : RowI w b off 64 .u8 B) (hcap : 64 ≤ cap) : Calls Tryz.prog 58 #[.slice (some ⟨b, off, none⟩) 64 cap] w fun e w' => ∃ g c, e = .returned (.slice (some ⟨g, 0, none⟩) 64 c) ∧ w.heap.size ≤ g ∧ 64 ≤ c ∧ St w [⟨g, 96, (sched B).map (int .u32), c⟩] w' :=
 (rschedule_c B b off cap w hb hB hcap).mono fun e w' ⟨v, He, he, ho, hs⟩ => by
  obtain ⟨g, c, rfl, rfl, hN, hc⟩ := own_someZ ho (by rw [sched_len]; omega)
  rw [sched_len] at hc he
  exact ⟨g, c, he, hN, hc, hs⟩
theorem rblock_m (st B : List Int) (bs cs bw cw bk ck : Nat) (w : World) (hst : st.length = 8) (hbs : bs < w.heap.size) (hS : RowI w bs 0 8 .u32 st) (hcs : 8 ≤ cs) (hbw : bw < w.heap.size) (hW : RowI w bw 0 64 .u32 (sched B)) (hcw : 64 ≤ cw) (hbk : bk < w.heap.size) (hK : RowI w bk 0 64 .u32 KT) (hck : 64 ≤ ck) :
  Calls Tryz.prog 57 #[.slice (some ⟨bs, 0, none⟩) 8 cs, .slice (some ⟨bw, 0, none⟩) 64 cw, .slice (some ⟨bk, 0, none⟩) 64 ck] w fun e w' => ∃ g c, e = .returned (.slice (some ⟨g, 0, none⟩) 8 c) ∧ w.heap.size ≤ g ∧ 8 ≤ c ∧ St w [⟨g, 96, (mixS st B).map (int .u32), c⟩] w' :=
 (rblock_c st (sched B) bs 0 cs bw 0 cw bk 0 ck w hst hbs hS hcs hbw hW hcw hbk hK hck).mono fun e w' ⟨v, He, he, ho, hs⟩ => by
  rw [mix_out hst] at ho
  have hl := mixS_len (B := B) hst
  obtain ⟨g, c, rfl, rfl, hN, hc⟩ := own_someZ ho (by omega)
  rw [hl] at hc he
  exact ⟨g, c, he, hN, hc, hs⟩
attribute [local irreducible] blk
/-
 The reference: Of.
-/
/-
 ShaDigests: the walk.
-/
/-
 ShaLengths: the walk.
-/
/-
 Contracts of packages extent and command: End, between, Valid, bytes, Copy, describe.
-/
theorem agg118 : (isAgg 118).run Tryz.prog = fun w => .ok true w := isAgg_yes Tryz.underlying118 rfl
theorem agg121 : (isAgg 121).run Tryz.prog = fun w => .ok true w := isAgg_yes Tryz.underlying121 rfl
theorem agg54 : (isAgg 54).run Tryz.prog = fun w => .ok true w := isAgg_yes Tryz.underlying54 rfl
theorem agg81 : (isAgg 81).run Tryz.prog = fun w => .ok true w := isAgg_yes Tryz.underlying81 rfl
theorem enters61 : Enters Tryz.prog 61 := ⟨_, Tryz.func61, by kernel_rfl, by kernel_rfl⟩
theorem enters98 : Enters Tryz.prog 98 := ⟨_, Tryz.func98, by kernel_rfl, by kernel_rfl⟩
theorem size118 : (Tryz.prog.info? 118).map (·.size) = some 2 := by kernel_rfl
theorem size121 : (Tryz.prog.info? 121).map (·.size) = some 6 := by kernel_rfl
theorem size54 : (Tryz.prog.info? 54).map (·.size) = some 5 := by kernel_rfl
theorem size81 : (Tryz.prog.info? 81).map (·.size) = some 2 := by kernel_rfl
theorem zero121 : (Tryz.prog.info? 121).bind (·.zero) = some (.agg #[.int .i64 0, .int .i64 0, .int .i64 0, .int .i64 0, .int .i64 0, .bool false]) := by kernel_rfl
theorem zero54 : (Tryz.prog.info? 54).bind (·.zero) = some (.agg #[.int .i64 0, .int .i64 0, .int .i64 0, .int .i64 0, .slice none 0 0]) := by kernel_rfl
theorem zero81 : (Tryz.prog.info? 81).bind (·.zero) = some (.agg #[.int .i64 0, .int .i64 0]) := by kernel_rfl
instance : AgN Tryz.prog 22 := ⟨agg22⟩
instance : AgN Tryz.prog 3 := ⟨agg3⟩
instance : AgY Tryz.prog 118 := ⟨agg118⟩
instance : Fld Tryz.prog 54 0 0 := ⟨⟨_, _, _, Tryz.underlying54, rfl, size3, rfl⟩⟩
instance : Fld Tryz.prog 54 1 1 := ⟨⟨_, _, _, Tryz.underlying54, rfl, size3, rfl⟩⟩
instance : Fld Tryz.prog 54 2 2 := ⟨⟨_, _, _, Tryz.underlying54, rfl, size3, rfl⟩⟩
instance : Fld Tryz.prog 54 3 3 := ⟨⟨_, _, _, Tryz.underlying54, rfl, size3, rfl⟩⟩
instance : Fld Tryz.prog 54 4 4 := ⟨⟨_, _, _, Tryz.underlying54, rfl, size22, rfl⟩⟩
instance : Fld Tryz.prog 81 0 0 := ⟨⟨_, _, _, Tryz.underlying81, rfl, size3, rfl⟩⟩
instance : Fld Tryz.prog 81 1 1 := ⟨⟨_, _, _, Tryz.underlying81, rfl, size3, rfl⟩⟩
instance : Siz Tryz.prog 118 2 := ⟨size118⟩
instance : Siz Tryz.prog 121 6 := ⟨size121⟩
instance : Siz Tryz.prog 54 5 := ⟨size54⟩
instance : Siz Tryz.prog 81 2 := ⟨size81⟩
instance : Sli Tryz.prog 22 5 := ⟨Tryz.underlying22⟩
instance : Zer Tryz.prog 121 [int .i64 0, int .i64 0, int .i64 0, int .i64 0, int .i64 0, Value.bool false] := ⟨⟨_, zero121, rfl⟩⟩
instance : Zer Tryz.prog 54 [int .i64 0, int .i64 0, int .i64 0, int .i64 0, slice none 0 0] := ⟨⟨_, zero54, rfl⟩⟩
instance : Zer Tryz.prog 81 [int .i64 0, int .i64 0] := ⟨⟨_, zero81, rfl⟩⟩
def vld (o l : Int) : Prop := 0 ≤ o ∧ 0 ≤ l ∧ o + l ≤ 4611686018427387903
instance (o l : Int) : Decidable (vld o l) := by unfold vld; infer_instance
theorem end_c (o l : Int) (h : -9223372036854775808 ≤ o + l ∧ o + l ≤ 9223372036854775807) (w : World) : Calls Tryz.prog 72 #[.agg ([int .i64 o, int .i64 l]).toArray] w fun e w' => e = .returned (.int .i64 (o + l)) ∧ St w [] w' := by
 refine qP (args := [.agg ([int .i64 o, int .i64 l]).toArray]) Tryz.func72 rfl Tryz.ntmps72 (by simp) ?_
 refine qC [0] ?_
 iterate 2 refine gx ?_
 refine qx (fun g1 hg1 => ?_)
 iterate 9 refine gx ?_
 refine qB (qA rfl) rfl (qU rfl rfl rfl (r := (o + l)) (w64 (by omega) (by omega))) ?_
 iterate 4 refine gx ?_
 exact qN rfl rfl (fun w hs => ⟨ret_i (rfl), (hs.drop (by assumption))⟩)
theorem valid_c (o l : Int) (bo : -9223372036854775808 ≤ o ∧ o ≤ 9223372036854775807) (bl : -9223372036854775808 ≤ l ∧ l ≤ 9223372036854775807) (w : World) : Calls Tryz.prog 61 #[.agg ([int .i64 o, int .i64 l]).toArray] w fun e w' => e = .returned (.bool (decide (vld o l))) ∧ St w [] w' := by
 refine qP (args := [.agg ([int .i64 o, int .i64 l]).toArray]) Tryz.func61 rfl Tryz.ntmps61 (by simp) ?_
 refine qC [0] ?_
 iterate 2 refine gx ?_
 refine qx (fun g1 hg1 => ?_)
 iterate 7 refine gx ?_
 by_cases c1 : 0 ≤ o
 ·refine qB (qA rfl) rfl (qi (Gets.geq rfl rfl rfl) c1) ?_
  iterate 3 refine gx ?_
  by_cases c2 : 0 ≤ l
  ·refine qB (qM rfl rfl rfl) rfl (qi (Gets.geq rfl rfl rfl) c2) ?_
   iterate 6 refine gx ?_
   refine qB (qM rfl rfl rfl) rfl (qu rfl rfl rfl (r := (4611686018427387903 - l)) (w64 (by omega) (by omega))) ?_
   iterate 6 refine gx ?_
   exact qN rfl rfl (fun w hs => ⟨dec_iff (by unfold vld; omega), (hs.drop (by assumption))⟩)
  ·refine qB (qM rfl rfl rfl) rfl (qg (Gets.geq rfl rfl rfl) c2) ?_
   iterate 13 refine gx ?_
   exact qN rfl rfl (fun w hs => ⟨dec_f (by unfold vld; omega), (hs.drop (by assumption))⟩)
 ·refine qB (qA rfl) rfl (qg (Gets.geq rfl rfl rfl) c1) ?_
  iterate 17 refine gx ?_
  exact qN rfl rfl (fun w hs => ⟨dec_f (by unfold vld; omega), (hs.drop (by assumption))⟩)
theorem bytes_c (o l : Int) (w : World) : Calls Tryz.prog 98 #[.agg ([int .i64 o, int .i64 l]).toArray] w fun e w' => e = .returned (.agg ([int .i64 o, int .i64 l]).toArray) ∧ St w [] w' := by
 refine qP (args := [.agg ([int .i64 o, int .i64 l]).toArray]) Tryz.func98 rfl Tryz.ntmps98 (by simp) ?_
 refine qC [0] ?_
 iterate 2 refine gx ?_
 refine qx (fun g1 hg1 => ?_)
 refine qb (fun g2 hg2 => ?_)
 iterate 9 refine gx ?_
 exact qn rfl agg81 size81 rfl (vs := [int .i64 o, int .i64 l]) rfl (qZ (i := 0) (ent := ⟨g2, 81, [int .i64 o, int .i64 l], 2⟩) rfl rfl rfl) (fun w hs => ⟨rfl, ((hs.drop (by assumption)).drop (by assumption))⟩)
theorem tvalid_c (o l : Int) (bo : -9223372036854775808 ≤ o ∧ o ≤ 9223372036854775807) (bl : -9223372036854775808 ≤ l ∧ l ≤ 9223372036854775807) (w : World) : Calls Tryz.prog 111 #[.agg ([int .i64 o, int .i64 l]).toArray] w fun e w' => e = .returned (.bool (decide (vld o l))) ∧ St w [] w' := by
 refine qP (args := [.agg ([int .i64 o, int .i64 l]).toArray]) Tryz.func111 rfl Tryz.ntmps111 (by simp) ?_
 refine qC [0] ?_
 iterate 2 refine gx ?_
 refine qx (fun g1 hg1 => ?_)
 iterate 6 refine gx ?_
 refine qR (qA rfl) rfl enters98 rfl rfl (v := .agg ([int .i64 o, int .i64 l]).toArray) (fun w hs => bytes_c o l w) ?_
 refine qR (qA rfl) rfl enters61 rfl rfl (v := .bool (decide (vld o l))) (fun w hs => valid_c o l (by omega) (by omega) w) ?_
 iterate 4 refine gx ?_
 exact qN rfl rfl (fun w hs => ⟨dec_iff (Iff.rfl), (hs.drop (by assumption))⟩)
theorem copy_c (t f l : Int) (w : World) : Calls Tryz.prog 44 #[.int .i64 t, .int .i64 f, .int .i64 l] w fun e w' => e = .returned (.agg ([int .i64 1, int .i64 t, int .i64 f, int .i64 l, slice none 0 0]).toArray) ∧ St w [] w' := by
 refine qP (args := [.int .i64 t, .int .i64 f, .int .i64 l]) Tryz.func44 rfl Tryz.ntmps44 (by simp) ?_
 refine qC [0, 1, 2] ?_
 iterate 2 refine gx ?_
 refine qb (fun g1 hg1 => ?_)
 iterate 7 refine gx ?_
 refine qB (qA rfl) rfl (qm rfl (vs := [(0, int .i64 1), (1, int .i64 t), (2, int .i64 f), (3, int .i64 l)]) rfl (fun w => by first | rfl | kernel_rfl) (v := .agg ([int .i64 1, int .i64 t, int .i64 f, int .i64 l, slice none 0 0]).toArray)) ?_
 iterate 4 refine gx ?_
 exact qn rfl agg54 size54 rfl (vs := [int .i64 1, int .i64 t, int .i64 f, int .i64 l, slice none 0 0]) rfl (qZ (i := 0) (ent := ⟨g1, 54, [int .i64 1, int .i64 t, int .i64 f, int .i64 l, slice none 0 0], 5⟩) rfl rfl rfl) (fun w hs => ⟨rfl, (hs.drop (by assumption))⟩)
theorem describe1 (t f l : Int) (A : Option Addr) (m c : Nat) (w : World) : Calls Tryz.prog 81 #[.agg ([int .i64 1, int .i64 t, int .i64 f, int .i64 l, slice A m c]).toArray] w fun e w' => e = .returned (.agg ([int .i64 t, int .i64 l, int .i64 1, int .i64 f, int .i64 l, Value.bool (decide ((0 : Int) < (m : Int)))]).toArray) ∧ St w [] w' := by
 refine qP (args := [.agg ([int .i64 1, int .i64 t, int .i64 f, int .i64 l, slice A m c]).toArray]) Tryz.func81 rfl Tryz.ntmps81 (by simp) ?_
 refine qC [0] ?_
 iterate 2 refine gx ?_
 refine qx (fun g1 hg1 => ?_)
 refine qb (fun g2 hg2 => ?_)
 iterate 12 refine gx ?_
 refine qB (qA rfl) rfl (qi (qo rfl rfl rfl) rfl) ?_
 iterate 3 refine gx ?_
 refine qq rfl ?_
 iterate 6 refine gx ?_
 refine qB (qA rfl) rfl (qm rfl (vs := [(0, int .i64 t), (1, int .i64 l)]) rfl (fun w => by first | rfl | kernel_rfl) (v := .agg ([int .i64 t, int .i64 l]).toArray)) ?_
 iterate 4 refine gx ?_
 refine qB (qA rfl) rfl (qm rfl (vs := [(0, int .i64 f), (1, int .i64 l)]) rfl (fun w => by first | rfl | kernel_rfl) (v := .agg ([int .i64 f, int .i64 l]).toArray)) ?_
 iterate 4 refine gx ?_
 refine qB (qA rfl) rfl (qm rfl (vs := [(0, Value.agg ([int .i64 t, int .i64 l]).toArray), (1, int .i64 1), (2, Value.agg ([int .i64 f, int .i64 l]).toArray), (3, Value.bool (decide (0 < (m : Int))))]) rfl (fun w => by first | rfl | kernel_rfl) (v := .agg ([int .i64 t, int .i64 l, int .i64 1, int .i64 f, int .i64 l, Value.bool (decide (0 < (m : Int)))]).toArray)) ?_
 iterate 6 refine gx ?_
 exact qn rfl agg121 size121 rfl (vs := [int .i64 t, int .i64 l, int .i64 1, int .i64 f, int .i64 l, Value.bool (decide (0 < (m : Int)))]) rfl (qZ (i := 0) (ent := ⟨g2, 121, [int .i64 t, int .i64 l, int .i64 1, int .i64 f, int .i64 l, Value.bool (decide (0 < (m : Int)))], 6⟩) rfl rfl rfl) (fun w hs => ⟨rfl, ((hs.drop (by assumption)).drop (by assumption))⟩)
theorem describe2 (t f l : Int) (A : Option Addr) (m c : Nat) (w : World) : Calls Tryz.prog 81 #[.agg ([int .i64 2, int .i64 t, int .i64 f, int .i64 l, slice A m c]).toArray] w fun e w' => e = .returned (.agg ([int .i64 t, int .i64 (m : Int), int .i64 2, int .i64 0, int .i64 0, Value.bool (decide (¬ (f = 0 ∧ l = 0)))]).toArray) ∧ St w [] w' := by
 refine qP (args := [.agg ([int .i64 2, int .i64 t, int .i64 f, int .i64 l, slice A m c]).toArray]) Tryz.func81 rfl Tryz.ntmps81 (by simp) ?_
 refine qC [0] ?_
 iterate 2 refine gx ?_
 refine qx (fun g1 hg1 => ?_)
 refine qb (fun g2 hg2 => ?_)
 iterate 12 refine gx ?_
 refine qB (qA rfl) rfl (qg (qo rfl rfl rfl) (by decide)) ?_
 iterate 3 refine gx ?_
 refine ql rfl ?_
 iterate 2 refine gx ?_
 refine qB (qA rfl) rfl (qi (qo rfl rfl rfl) rfl) ?_
 iterate 3 refine gx ?_
 refine qC [1, 2, 22] ?_
 refine qq rfl ?_
 iterate 7 refine gx ?_
 refine qB (qA rfl) rfl (qm rfl (vs := [(0, int .i64 t), (1, int .i64 (m : Int))]) rfl (fun w => by first | rfl | kernel_rfl) (v := .agg ([int .i64 t, int .i64 (m : Int)]).toArray)) ?_
 iterate 2 refine gx ?_
 by_cases c1 : f ≠ 0
 ·refine qB (qA rfl) rfl (qi (Gets.neq rfl rfl rfl) c1) ?_
  iterate 5 refine gx ?_
  refine qB (qA rfl) rfl (qm rfl (vs := [(0, Value.agg ([int .i64 t, int .i64 (m : Int)]).toArray), (1, int .i64 2), (3, Value.bool true)]) rfl (fun w => by first | rfl | kernel_rfl) (v := .agg ([int .i64 t, int .i64 (m : Int), int .i64 2, int .i64 0, int .i64 0, Value.bool true]).toArray)) ?_
  iterate 6 refine gx ?_
  exact qn rfl agg121 size121 rfl (vs := [int .i64 t, int .i64 (m : Int), int .i64 2, int .i64 0, int .i64 0, Value.bool true]) rfl (qZ (i := 0) (ent := ⟨g2, 121, [int .i64 t, int .i64 (m : Int), int .i64 2, int .i64 0, int .i64 0, Value.bool true], 6⟩) rfl rfl rfl) (fun w hs => ⟨by rw [decide_eq_true (show ¬ (f = 0 ∧ l = 0) by omega)], ((hs.drop (by assumption)).drop (by assumption))⟩)
 ·refine qB (qA rfl) rfl (qg (Gets.neq rfl rfl rfl) c1) ?_
  iterate 5 refine gx ?_
  refine qB (qA rfl) rfl (qm rfl (vs := [(0, Value.agg ([int .i64 t, int .i64 (m : Int)]).toArray), (1, int .i64 2), (3, Value.bool (decide (l ≠ 0)))]) rfl (fun w => by first | rfl | kernel_rfl) (v := .agg ([int .i64 t, int .i64 (m : Int), int .i64 2, int .i64 0, int .i64 0, Value.bool (decide (l ≠ 0))]).toArray)) ?_
  iterate 6 refine gx ?_
  exact qn rfl agg121 size121 rfl (vs := [int .i64 t, int .i64 (m : Int), int .i64 2, int .i64 0, int .i64 0, Value.bool (decide (l ≠ 0))]) rfl (qZ (i := 0) (ent := ⟨g2, 121, [int .i64 t, int .i64 (m : Int), int .i64 2, int .i64 0, int .i64 0, Value.bool (decide (l ≠ 0))], 6⟩) rfl rfl rfl) (fun w hs => ⟨by rw [show decide (l ≠ 0) = decide (¬ (f = 0 ∧ l = 0)) from decide_eq_decide.2 (by omega)], ((hs.drop (by assumption)).drop (by assumption))⟩)
theorem describe0 (k t f l : Int) (A : Option Addr) (m c : Nat) (h1 : ¬ k = 1) (h2 : ¬ k = 2) (w : World) : Calls Tryz.prog 81 #[.agg ([int .i64 k, int .i64 t, int .i64 f, int .i64 l, slice A m c]).toArray] w fun e w' => e = .returned (.agg ([int .i64 0, int .i64 0, int .i64 0, int .i64 0, int .i64 0, Value.bool false]).toArray) ∧ St w [] w' := by
 refine qP (args := [.agg ([int .i64 k, int .i64 t, int .i64 f, int .i64 l, slice A m c]).toArray]) Tryz.func81 rfl Tryz.ntmps81 (by simp) ?_
 refine qC [0] ?_
 iterate 2 refine gx ?_
 refine qx (fun g1 hg1 => ?_)
 refine qb (fun g2 hg2 => ?_)
 iterate 12 refine gx ?_
 refine qB (qA rfl) rfl (qg (qo rfl rfl rfl) h1) ?_
 iterate 3 refine gx ?_
 refine ql rfl ?_
 iterate 2 refine gx ?_
 refine qB (qA rfl) rfl (qg (qo rfl rfl rfl) h2) ?_
 iterate 3 refine gx ?_
 refine qC [1, 2, 22] ?_
 refine ql rfl ?_
 iterate 5 refine gx ?_
 refine qB (qA rfl) rfl (qm rfl (vs := []) rfl (fun w => by first | rfl | kernel_rfl) (v := .agg ([int .i64 0, int .i64 0, int .i64 0, int .i64 0, int .i64 0, Value.bool false]).toArray)) ?_
 iterate 4 refine gx ?_
 exact qn rfl agg121 size121 rfl (vs := [int .i64 0, int .i64 0, int .i64 0, int .i64 0, int .i64 0, Value.bool false]) rfl (qZ (i := 0) (ent := ⟨g2, 121, [int .i64 0, int .i64 0, int .i64 0, int .i64 0, int .i64 0, Value.bool false], 6⟩) rfl rfl rfl) (fun w hs => ⟨rfl, ((hs.drop (by assumption)).drop (by assumption))⟩)
/-
 Contracts of package command: Check.
-/
theorem agg119 : (isAgg 119).run Tryz.prog = fun w => .ok false w := isAgg_no Tryz.underlying119 rfl
theorem agg4 : (isAgg 4).run Tryz.prog = fun w => .ok false w := isAgg_no Tryz.underlying4 rfl
theorem enters111 : Enters Tryz.prog 111 := ⟨_, Tryz.func111, by kernel_rfl, by kernel_rfl⟩
theorem enters81 : Enters Tryz.prog 81 := ⟨_, Tryz.func81, by kernel_rfl, by kernel_rfl⟩
theorem size119 : (Tryz.prog.info? 119).map (·.size) = some 1 := by kernel_rfl
theorem size4 : (Tryz.prog.info? 4).map (·.size) = some 1 := by kernel_rfl
instance : AgN Tryz.prog 119 := ⟨agg119⟩
instance : AgY Tryz.prog 54 := ⟨agg54⟩
instance : Fld Tryz.prog 118 1 1 := ⟨⟨_, _, _, Tryz.underlying118, rfl, size3, rfl⟩⟩
instance : Fld Tryz.prog 121 0 0 := ⟨⟨_, _, _, Tryz.underlying121, rfl, size118, rfl⟩⟩
instance : Fld Tryz.prog 121 1 2 := ⟨⟨_, _, _, Tryz.underlying121, rfl, size119, rfl⟩⟩
instance : Fld Tryz.prog 121 2 3 := ⟨⟨_, _, _, Tryz.underlying121, rfl, size81, rfl⟩⟩
instance : Fld Tryz.prog 121 3 5 := ⟨⟨_, _, _, Tryz.underlying121, rfl, size4, rfl⟩⟩
def codeV (k t f l : Int) (m : Nat) : Int :=
 if k = 1 then (if l = 0 then 7 else if m = 0 ∧ vld t l ∧ vld f l then 0 else 2)
 else if k = 2 then (if m = 0 then 7 else if f = 0 ∧ l = 0 ∧ vld t m then 0 else 2) else 11
def lenV (k l : Int) (m : Nat) : Int := if k = 1 then l else m
theorem check1 (t f l : Int) (A : Option Addr) (m c : Nat) (bt : -9223372036854775808 ≤ t ∧ t ≤ 9223372036854775807) (bf : -9223372036854775808 ≤ f ∧ f ≤ 9223372036854775807) (bl : -9223372036854775808 ≤ l ∧ l ≤ 9223372036854775807) (w : World) : Calls Tryz.prog 87 #[.agg ([int .i64 1, int .i64 t, int .i64 f, int .i64 l, slice A m c]).toArray] w fun e w' => e = .returned (.int .i64 (codeV 1 t f l m)) ∧ St w [] w' := by
 refine qP (args := [.agg ([int .i64 1, int .i64 t, int .i64 f, int .i64 l, slice A m c]).toArray]) Tryz.func87 rfl Tryz.ntmps87 (by simp) ?_
 refine qC [0] ?_
 iterate 2 refine gx ?_
 refine qx (fun g1 hg1 => ?_)
 iterate 6 refine gx ?_
 refine qR (qA rfl) rfl enters81 rfl rfl (v := .agg ([int .i64 t, int .i64 l, int .i64 1, int .i64 f, int .i64 l, Value.bool (decide ((0 : Int) < (m : Int)))]).toArray) (fun w hs => describe1 t f l A m c w) ?_
 refine qb (fun g2 hg2 => ?_)
 iterate 9 refine gx ?_
 refine qB (qA rfl) rfl (qg (qo rfl rfl rfl) (by decide)) ?_
 iterate 3 refine gx ?_
 refine qC [2, 3, 6] ?_
 refine ql rfl ?_
 iterate 9 refine gx ?_
 refine qQ rfl (fun cl => ?_) (fun cl => ?_)
 ·iterate 8 refine gx ?_
  exact qN rfl rfl (fun w hs => ⟨ret_i (by unfold codeV; (repeat' split) <;> first | rfl | (exfalso; (try unfold vld at *); omega)), ((hs.drop (by assumption)).drop (by assumption))⟩)
 ·iterate 3 refine gx ?_
  by_cases cm : (0 : Int) < (m : Int)
  ·refine qB (qA rfl) rfl (qi (qJ rfl agg4 rfl (qO (i := 0) (ent := ⟨g2, 121, [int .i64 t, int .i64 l, int .i64 1, int .i64 f, int .i64 l, Value.bool (decide ((0 : Int) < (m : Int)))], 6⟩) (off := 5) rfl rfl (by exact rfl))) cm) ?_
   iterate 15 refine gx ?_
   refine qC [2, 15] ?_
   refine qq rfl ?_
   iterate 8 refine gx ?_
   exact qN rfl rfl (fun w hs => ⟨ret_i (by unfold codeV; (repeat' split) <;> first | rfl | (exfalso; (try unfold vld at *); omega)), ((hs.drop (by assumption)).drop (by assumption))⟩)
  ·refine qB (qA rfl) rfl (qg (qJ rfl agg4 rfl (qO (i := 0) (ent := ⟨g2, 121, [int .i64 t, int .i64 l, int .i64 1, int .i64 f, int .i64 l, Value.bool (decide ((0 : Int) < (m : Int)))], 6⟩) (off := 5) rfl rfl (by exact rfl))) cm) ?_
   iterate 2 refine gx ?_
   refine qB (qM rfl rfl rfl) rfl (qh rfl agg118 size118 rfl (vs := [int .i64 t, int .i64 l]) rfl (Row.part (i := 0) (ent := ⟨g2, 121, [int .i64 t, int .i64 l, int .i64 1, int .i64 f, int .i64 l, Value.bool (decide ((0 : Int) < (m : Int)))], 6⟩) rfl rfl rfl)) ?_
   by_cases ct : vld t l
   ·refine qR (qM rfl rfl rfl) rfl enters111 rfl rfl (v := .bool true) (fun w hs => (tvalid_c t l (by omega) (by omega) w).mono fun e w' h => by rw [decide_eq_true (p := vld t l) ct] at h; exact h) ?_
    iterate 4 refine gx ?_
    refine qB (qM rfl rfl rfl) rfl (qh rfl agg81 size81 rfl (vs := [int .i64 f, int .i64 l]) rfl (Row.part (i := 0) (ent := ⟨g2, 121, [int .i64 t, int .i64 l, int .i64 1, int .i64 f, int .i64 l, Value.bool (decide ((0 : Int) < (m : Int)))], 6⟩) rfl rfl rfl)) ?_
    by_cases cf : vld f l
    ·refine qR (qM rfl rfl rfl) rfl enters61 rfl rfl (v := .bool true) (fun w hs => (valid_c f l (by omega) (by omega) w).mono fun e w' h => by rw [decide_eq_true (p := vld f l) cf] at h; exact h) ?_
     iterate 5 refine gx ?_
     refine qC [2, 15] ?_
     refine ql rfl ?_
     iterate 9 refine gx ?_
     exact qN rfl rfl (fun w hs => ⟨ret_i (by unfold codeV; (repeat' split) <;> first | rfl | (exfalso; (try unfold vld at *); omega)), ((hs.drop (by assumption)).drop (by assumption))⟩)
    ·refine qR (qM rfl rfl rfl) rfl enters61 rfl rfl (v := .bool false) (fun w hs => (valid_c f l (by omega) (by omega) w).mono fun e w' h => by rw [decide_eq_false (p := vld f l) cf] at h; exact h) ?_
     iterate 5 refine gx ?_
     refine qC [2, 15] ?_
     refine qq rfl ?_
     iterate 8 refine gx ?_
     exact qN rfl rfl (fun w hs => ⟨ret_i (by unfold codeV; (repeat' split) <;> first | rfl | (exfalso; (try unfold vld at *); omega)), ((hs.drop (by assumption)).drop (by assumption))⟩)
   ·refine qR (qM rfl rfl rfl) rfl enters111 rfl rfl (v := .bool false) (fun w hs => (tvalid_c t l (by omega) (by omega) w).mono fun e w' h => by rw [decide_eq_false (p := vld t l) ct] at h; exact h) ?_
    iterate 11 refine gx ?_
    refine qC [2, 15] ?_
    refine qq rfl ?_
    iterate 8 refine gx ?_
    exact qN rfl rfl (fun w hs => ⟨ret_i (by unfold codeV; (repeat' split) <;> first | rfl | (exfalso; (try unfold vld at *); omega)), ((hs.drop (by assumption)).drop (by assumption))⟩)
theorem check2 (t f l : Int) (A : Option Addr) (m c : Nat) (hmr : m ≤ 9223372036854775807) (bt : -9223372036854775808 ≤ t ∧ t ≤ 9223372036854775807) (bf : -9223372036854775808 ≤ f ∧ f ≤ 9223372036854775807) (bl : -9223372036854775808 ≤ l ∧ l ≤ 9223372036854775807) (w : World) : Calls Tryz.prog 87 #[.agg ([int .i64 2, int .i64 t, int .i64 f, int .i64 l, slice A m c]).toArray] w fun e w' => e = .returned (.int .i64 (codeV 2 t f l m)) ∧ St w [] w' := by
 refine qP (args := [.agg ([int .i64 2, int .i64 t, int .i64 f, int .i64 l, slice A m c]).toArray]) Tryz.func87 rfl Tryz.ntmps87 (by simp) ?_
 refine qC [0] ?_
 iterate 2 refine gx ?_
 refine qx (fun g1 hg1 => ?_)
 iterate 6 refine gx ?_
 refine qR (qA rfl) rfl enters81 rfl rfl (v := .agg ([int .i64 t, int .i64 (m : Int), int .i64 2, int .i64 0, int .i64 0, Value.bool (decide (¬ (f = 0 ∧ l = 0)))]).toArray) (fun w hs => describe2 t f l A m c w) ?_
 refine qb (fun g2 hg2 => ?_)
 iterate 9 refine gx ?_
 refine qB (qA rfl) rfl (qg (qo rfl rfl rfl) (by decide)) ?_
 iterate 3 refine gx ?_
 refine qC [2, 3, 6] ?_
 refine ql rfl ?_
 iterate 9 refine gx ?_
 refine qQ rfl (fun cl => ?_) (fun cl => ?_)
 ·iterate 8 refine gx ?_
  exact qN rfl rfl (fun w hs => ⟨ret_i (by unfold codeV; (repeat' split) <;> first | rfl | (exfalso; (try unfold vld at *); omega)), ((hs.drop (by assumption)).drop (by assumption))⟩)
 ·iterate 3 refine gx ?_
  by_cases cm : ¬ (f = 0 ∧ l = 0)
  ·refine qB (qA rfl) rfl (qi (qJ rfl agg4 rfl (qO (i := 0) (ent := ⟨g2, 121, [int .i64 t, int .i64 (m : Int), int .i64 2, int .i64 0, int .i64 0, Value.bool (decide (¬ (f = 0 ∧ l = 0)))], 6⟩) (off := 5) rfl rfl (by exact rfl))) cm) ?_
   iterate 15 refine gx ?_
   refine qC [2, 15] ?_
   refine qq rfl ?_
   iterate 8 refine gx ?_
   exact qN rfl rfl (fun w hs => ⟨ret_i (by unfold codeV; (repeat' split) <;> first | rfl | (exfalso; (try unfold vld at *); omega)), ((hs.drop (by assumption)).drop (by assumption))⟩)
  ·refine qB (qA rfl) rfl (qg (qJ rfl agg4 rfl (qO (i := 0) (ent := ⟨g2, 121, [int .i64 t, int .i64 (m : Int), int .i64 2, int .i64 0, int .i64 0, Value.bool (decide (¬ (f = 0 ∧ l = 0)))], 6⟩) (off := 5) rfl rfl (by exact rfl))) cm) ?_
   iterate 2 refine gx ?_
   refine qB (qM rfl rfl rfl) rfl (qh rfl agg118 size118 rfl (vs := [int .i64 t, int .i64 (m : Int)]) rfl (Row.part (i := 0) (ent := ⟨g2, 121, [int .i64 t, int .i64 (m : Int), int .i64 2, int .i64 0, int .i64 0, Value.bool (decide (¬ (f = 0 ∧ l = 0)))], 6⟩) rfl rfl rfl)) ?_
   by_cases ct : vld t (m : Int)
   ·refine qR (qM rfl rfl rfl) rfl enters111 rfl rfl (v := .bool true) (fun w hs => (tvalid_c t (m : Int) (by omega) (by omega) w).mono fun e w' h => by rw [decide_eq_true (p := vld t (m : Int)) ct] at h; exact h) ?_
    iterate 4 refine gx ?_
    refine qB (qM rfl rfl rfl) rfl (qh rfl agg81 size81 rfl (vs := [int .i64 0, int .i64 0]) rfl (Row.part (i := 0) (ent := ⟨g2, 121, [int .i64 t, int .i64 (m : Int), int .i64 2, int .i64 0, int .i64 0, Value.bool (decide (¬ (f = 0 ∧ l = 0)))], 6⟩) rfl rfl rfl)) ?_
    by_cases cf : vld 0 0
    ·refine qR (qM rfl rfl rfl) rfl enters61 rfl rfl (v := .bool true) (fun w hs => (valid_c 0 0 (by omega) (by omega) w).mono fun e w' h => by rw [decide_eq_true (p := vld 0 0) cf] at h; exact h) ?_
     iterate 5 refine gx ?_
     refine qC [2, 15] ?_
     refine ql rfl ?_
     iterate 9 refine gx ?_
     exact qN rfl rfl (fun w hs => ⟨ret_i (by unfold codeV; (repeat' split) <;> first | rfl | (exfalso; (try unfold vld at *); omega)), ((hs.drop (by assumption)).drop (by assumption))⟩)
    ·refine qR (qM rfl rfl rfl) rfl enters61 rfl rfl (v := .bool false) (fun w hs => (valid_c 0 0 (by omega) (by omega) w).mono fun e w' h => by rw [decide_eq_false (p := vld 0 0) cf] at h; exact h) ?_
     iterate 5 refine gx ?_
     refine qC [2, 15] ?_
     refine qq rfl ?_
     iterate 8 refine gx ?_
     exact qN rfl rfl (fun w hs => ⟨ret_i (by unfold codeV; (repeat' split) <;> first | rfl | (exfalso; (try unfold vld at *); omega)), ((hs.drop (by assumption)).drop (by assumption))⟩)
   ·refine qR (qM rfl rfl rfl) rfl enters111 rfl rfl (v := .bool false) (fun w hs => (tvalid_c t (m : Int) (by omega) (by omega) w).mono fun e w' h => by rw [decide_eq_false (p := vld t (m : Int)) ct] at h; exact h) ?_
    iterate 11 refine gx ?_
    refine qC [2, 15] ?_
    refine qq rfl ?_
    iterate 8 refine gx ?_
    exact qN rfl rfl (fun w hs => ⟨ret_i (by unfold codeV; (repeat' split) <;> first | rfl | (exfalso; (try unfold vld at *); omega)), ((hs.drop (by assumption)).drop (by assumption))⟩)
theorem check0 (k t f l : Int) (A : Option Addr) (m c : Nat) (h1 : ¬ k = 1) (h2 : ¬ k = 2) (w : World) : Calls Tryz.prog 87 #[.agg ([int .i64 k, int .i64 t, int .i64 f, int .i64 l, slice A m c]).toArray] w fun e w' => e = .returned (.int .i64 (codeV k t f l m)) ∧ St w [] w' := by
 refine qP (args := [.agg ([int .i64 k, int .i64 t, int .i64 f, int .i64 l, slice A m c]).toArray]) Tryz.func87 rfl Tryz.ntmps87 (by simp) ?_
 refine qC [0] ?_
 iterate 2 refine gx ?_
 refine qx (fun g1 hg1 => ?_)
 iterate 6 refine gx ?_
 refine qR (qA rfl) rfl enters81 rfl rfl (v := .agg ([int .i64 0, int .i64 0, int .i64 0, int .i64 0, int .i64 0, Value.bool false]).toArray) (fun w hs => describe0 k t f l A m c h1 h2 w) ?_
 refine qb (fun g2 hg2 => ?_)
 iterate 9 refine gx ?_
 refine qB (qA rfl) rfl (qi (qo rfl rfl rfl) rfl) ?_
 iterate 3 refine gx ?_
 refine qC [2, 3, 6] ?_
 refine qq rfl ?_
 iterate 8 refine gx ?_
 exact qN rfl rfl (fun w hs => ⟨ret_i (by unfold codeV; (repeat' split) <;> first | rfl | (exfalso; (try unfold vld at *); omega)), ((hs.drop (by assumption)).drop (by assumption))⟩)
/-
 Contracts of package command: Target, Source, Overlaps, contains.
-/
theorem enters72 : Enters Tryz.prog 72 := ⟨_, Tryz.func72, by kernel_rfl, by kernel_rfl⟩
instance : AgY Tryz.prog 81 := ⟨agg81⟩
instance : Sli Tryz.prog 153 81 := ⟨Tryz.underlying153⟩
def inside_ (o l p n : Int) : Prop := o ≤ p ∧ p + n ≤ o + l
instance (o l p n : Int) : Decidable (inside_ o l p n) := by unfold inside_; infer_instance
def meets (o l p n : Int) : Prop := max o p < min (o + l) (p + n)
instance (o l p n : Int) : Decidable (meets o l p n) := by unfold meets; infer_instance
theorem target1 (t f l : Int) (A : Option Addr) (m c : Nat) (w : World) : Calls Tryz.prog 71 #[.agg ([int .i64 1, int .i64 t, int .i64 f, int .i64 l, slice A m c]).toArray] w fun e w' => e = .returned (.agg ([int .i64 t, int .i64 l]).toArray) ∧ St w [] w' := by
 refine qP (args := [.agg ([int .i64 1, int .i64 t, int .i64 f, int .i64 l, slice A m c]).toArray]) Tryz.func71 rfl Tryz.ntmps71 (by simp) ?_
 refine qC [0] ?_
 iterate 2 refine gx ?_
 refine qx (fun g1 hg1 => ?_)
 refine qb (fun g2 hg2 => ?_)
 iterate 5 refine gx ?_
 refine qR (qA rfl) rfl enters81 rfl rfl (v := .agg ([int .i64 t, int .i64 l, int .i64 1, int .i64 f, int .i64 l, Value.bool (decide ((0 : Int) < (m : Int)))]).toArray) (fun w hs => describe1 t f l A m c w) ?_
 refine qB (qA rfl) rfl (Gets.fieldN rfl Tryz.underlying121 rfl rfl agg118 size118 (vs := [int .i64 t, int .i64 l]) rfl) ?_
 refine qR (qA rfl) rfl enters98 rfl rfl (v := .agg ([int .i64 t, int .i64 l]).toArray) (fun w hs => bytes_c t l w) ?_
 iterate 4 refine gx ?_
 exact qn rfl agg81 size81 rfl (vs := [int .i64 t, int .i64 l]) rfl (qZ (i := 0) (ent := ⟨g2, 81, [int .i64 t, int .i64 l], 2⟩) rfl rfl rfl) (fun w hs => ⟨rfl, ((hs.drop (by assumption)).drop (by assumption))⟩)
theorem source1 (t f l : Int) (A : Option Addr) (m c : Nat) (w : World) : Calls Tryz.prog 49 #[.agg ([int .i64 1, int .i64 t, int .i64 f, int .i64 l, slice A m c]).toArray] w fun e w' => e = .returned (.tuple #[.agg ([int .i64 f, int .i64 l]).toArray, .bool true]) ∧ St w [] w' := by
 refine qP (args := [.agg ([int .i64 1, int .i64 t, int .i64 f, int .i64 l, slice A m c]).toArray]) Tryz.func49 rfl Tryz.ntmps49 (by simp) ?_
 refine qC [0] ?_
 iterate 2 refine gx ?_
 refine qx (fun g1 hg1 => ?_)
 refine qb (fun g2 hg2 => ?_)
 iterate 6 refine gx ?_
 refine qR (qA rfl) rfl enters81 rfl rfl (v := .agg ([int .i64 t, int .i64 l, int .i64 1, int .i64 f, int .i64 l, Value.bool (decide ((0 : Int) < (m : Int)))]).toArray) (fun w hs => describe1 t f l A m c w) ?_
 refine qb (fun g3 hg3 => ?_)
 iterate 4 refine gx ?_
 refine TC.mixS [⟨g3, 121, [int .i64 t, int .i64 l, int .i64 1, int .i64 f, int .i64 l, Value.bool (decide ((0 : Int) < (m : Int)))], 6⟩, ⟨g1, 54, [int .i64 1, int .i64 t, int .i64 f, int .i64 l, slice A m c], 5⟩] [⟨g2, 81, [int .i64 0, int .i64 0], 2⟩] (by kernel_rfl) [0, 1, 0, 1, 0, 4, 0] [0, 1, 2, 3, 4, 5, 6] [fun _ _ => True, fun _ _ => True, fun _ _ => True, fun _ _ => True, fun _ _ => True, fun _ _ => True, fun _ _ => True] (by kernel_rfl) (by kernel_rfl) (perm_pick (p := [0, 2, 1]) (by kernel_rfl) rfl) (qI (by assumption) qa) ?_
 refine gx ?_
 refine TR.gets (qA rfl) rfl (fun Z hZ => qh rfl agg81 size81 rfl (vs := [int .i64 f, int .i64 l]) rfl (Row.part (i := 0) (ent := ⟨g3, 121, [int .i64 t, int .i64 l, int .i64 1, int .i64 f, int .i64 l, Value.bool (decide ((0 : Int) < (m : Int)))], 6⟩) rfl rfl rfl)) ?_
 iterate 2 refine gx ?_
 refine TR.free (qA rfl) rfl (fun _ => qi (qo rfl rfl rfl) rfl) ?_
 refine TR.storeW (qA rfl) rfl rfl size81 rfl (vs := [int .i64 f, int .i64 l]) rfl rfl (by simp [Value.oneCell']) (i := 0) (ent := ⟨g2, 81, [int .i64 0, int .i64 0], 2⟩) rfl rfl rfl (D' := [⟨g2, 81, [int .i64 f, int .i64 l], 2⟩]) rfl (qI (by assumption) qa) ?_
 iterate 4 refine gx ?_
 exact TE.ret2C rfl agg81 size81 rfl rfl (vs := [int .i64 f, int .i64 l]) rfl (qZ (i := 2) (ent := ⟨g2, 81, [int .i64 f, int .i64 l], 2⟩) rfl rfl rfl) (fun w hs => ⟨rfl, (((hs.drop (by assumption)).drop (by assumption)).drop (by assumption))⟩)
theorem target2 (t f l : Int) (A : Option Addr) (m c : Nat) (w : World) : Calls Tryz.prog 71 #[.agg ([int .i64 2, int .i64 t, int .i64 f, int .i64 l, slice A m c]).toArray] w fun e w' => e = .returned (.agg ([int .i64 t, int .i64 (m : Int)]).toArray) ∧ St w [] w' := by
 refine qP (args := [.agg ([int .i64 2, int .i64 t, int .i64 f, int .i64 l, slice A m c]).toArray]) Tryz.func71 rfl Tryz.ntmps71 (by simp) ?_
 refine qC [0] ?_
 iterate 2 refine gx ?_
 refine qx (fun g1 hg1 => ?_)
 refine qb (fun g2 hg2 => ?_)
 iterate 5 refine gx ?_
 refine qR (qA rfl) rfl enters81 rfl rfl (v := .agg ([int .i64 t, int .i64 (m : Int), int .i64 2, int .i64 0, int .i64 0, Value.bool (decide (¬ (f = 0 ∧ l = 0)))]).toArray) (fun w hs => describe2 t f l A m c w) ?_
 refine qB (qA rfl) rfl (Gets.fieldN rfl Tryz.underlying121 rfl rfl agg118 size118 (vs := [int .i64 t, int .i64 (m : Int)]) rfl) ?_
 refine qR (qA rfl) rfl enters98 rfl rfl (v := .agg ([int .i64 t, int .i64 (m : Int)]).toArray) (fun w hs => bytes_c t (m : Int) w) ?_
 iterate 4 refine gx ?_
 exact qn rfl agg81 size81 rfl (vs := [int .i64 t, int .i64 (m : Int)]) rfl (qZ (i := 0) (ent := ⟨g2, 81, [int .i64 t, int .i64 (m : Int)], 2⟩) rfl rfl rfl) (fun w hs => ⟨rfl, ((hs.drop (by assumption)).drop (by assumption))⟩)
theorem source2 (t f l : Int) (A : Option Addr) (m c : Nat) (w : World) : Calls Tryz.prog 49 #[.agg ([int .i64 2, int .i64 t, int .i64 f, int .i64 l, slice A m c]).toArray] w fun e w' => e = .returned (.tuple #[.agg ([int .i64 0, int .i64 0]).toArray, .bool false]) ∧ St w [] w' := by
 refine qP (args := [.agg ([int .i64 2, int .i64 t, int .i64 f, int .i64 l, slice A m c]).toArray]) Tryz.func49 rfl Tryz.ntmps49 (by simp) ?_
 refine qC [0] ?_
 iterate 2 refine gx ?_
 refine qx (fun g1 hg1 => ?_)
 refine qb (fun g2 hg2 => ?_)
 iterate 6 refine gx ?_
 refine qR (qA rfl) rfl enters81 rfl rfl (v := .agg ([int .i64 t, int .i64 (m : Int), int .i64 2, int .i64 0, int .i64 0, Value.bool (decide (¬ (f = 0 ∧ l = 0)))]).toArray) (fun w hs => describe2 t f l A m c w) ?_
 refine qb (fun g3 hg3 => ?_)
 iterate 4 refine gx ?_
 refine TC.mixS [⟨g3, 121, [int .i64 t, int .i64 (m : Int), int .i64 2, int .i64 0, int .i64 0, Value.bool (decide (¬ (f = 0 ∧ l = 0)))], 6⟩, ⟨g1, 54, [int .i64 2, int .i64 t, int .i64 f, int .i64 l, slice A m c], 5⟩] [⟨g2, 81, [int .i64 0, int .i64 0], 2⟩] (by kernel_rfl) [0, 1, 0, 1, 0, 4, 0] [0, 1, 2, 3, 4, 5, 6] [fun _ _ => True, fun _ _ => True, fun _ _ => True, fun _ _ => True, fun _ _ => True, fun _ _ => True, fun _ _ => True] (by kernel_rfl) (by kernel_rfl) (perm_pick (p := [0, 2, 1]) (by kernel_rfl) rfl) (qI (by assumption) qa) ?_
 refine gx ?_
 refine TR.gets (qA rfl) rfl (fun Z hZ => qh rfl agg81 size81 rfl (vs := [int .i64 0, int .i64 0]) rfl (Row.part (i := 0) (ent := ⟨g3, 121, [int .i64 t, int .i64 (m : Int), int .i64 2, int .i64 0, int .i64 0, Value.bool (decide (¬ (f = 0 ∧ l = 0)))], 6⟩) rfl rfl rfl)) ?_
 iterate 2 refine gx ?_
 refine TR.free (qA rfl) rfl (fun _ => qg (qo rfl rfl rfl) (by decide)) ?_
 refine TR.storeW (qA rfl) rfl rfl size81 rfl (vs := [int .i64 0, int .i64 0]) rfl rfl (by simp [Value.oneCell']) (i := 0) (ent := ⟨g2, 81, [int .i64 0, int .i64 0], 2⟩) rfl rfl rfl (D' := [⟨g2, 81, [int .i64 0, int .i64 0], 2⟩]) rfl (qI (by assumption) qa) ?_
 iterate 4 refine gx ?_
 exact TE.ret2C rfl agg81 size81 rfl rfl (vs := [int .i64 0, int .i64 0]) rfl (qZ (i := 2) (ent := ⟨g2, 81, [int .i64 0, int .i64 0], 2⟩) rfl rfl rfl) (fun w hs => ⟨rfl, (((hs.drop (by assumption)).drop (by assumption)).drop (by assumption))⟩)
theorem contains1 {w : World} (o l p n : Int) (ho : -9223372036854775808 ≤ o + l ∧ o + l ≤ 9223372036854775807) (hp : -9223372036854775808 ≤ p + n ∧ p + n ≤ 9223372036854775807) (b : Nat) (hb : b < w.heap.size) (hrow : ∀ (j : Nat) (u : Value), [int .i64 p, int .i64 n][j]? = some u → w.cell? ⟨b, 0 + j, none⟩ = some u) : Calls Tryz.prog 88 #[.agg ([int .i64 o, int .i64 l]).toArray, .slice (some ⟨b, 0, none⟩) 1 1] w fun e w' => e = .returned (.bool (decide (inside_ o l p n))) ∧ St w [] w' := by
 refine qP (args := [.agg ([int .i64 o, int .i64 l]).toArray, .slice (some ⟨b, 0, none⟩) 1 1]) Tryz.func88 rfl Tryz.ntmps88 (by simp) ?_
 refine qC [0, 1] ?_
 iterate 2 refine gx ?_
 refine qx (fun g1 hg1 => ?_)
 iterate 12 refine gx ?_
 refine qe (ι := Nat) (fun i => [(2, .pointer (some ⟨g1, 0, none⟩)), (7, .slice (some ⟨b, 0, none⟩) 1 1), (8, .int .i64 1), (9, .int .i64 (i : Int))]) (fun i => [⟨g1, 81, [int .i64 o, int .i64 l], 2⟩]) (fun i => 1 - i) (fun i => i ≤ 1 ∧ (i = 1 → inside_ o l p n)) 0 ⟨by omega, by intro h; cases h⟩ (qH (i := 2) rfl (qL (i := 7) rfl rfl (by first | omega | (dsimp only; omega) | rfl) (by first | omega | (dsimp only; omega) | rfl) (qE (i := 8) rfl (by first | omega | rfl) (qE (i := 9) rfl (by first | omega | rfl) (qK))))) (fun w h => h) (fun i hC0 => ?_)
 obtain ⟨hC0, hC1⟩ := hC0
 iterate 6 refine gx ?_
 refine qQ rfl (fun hq0 => ?_) (fun hq0 => ?_)
 ·obtain rfl : i = 0 := by omega
  iterate 6 refine gx ?_
  refine qB (qA rfl) rfl (qW rfl Tryz.underlying153 size81 rfl rfl (i := 0) (by rfl) (by omega) (off' := 0) (by omega)) ?_
  refine qB (qA rfl) rfl (qh rfl agg81 size81 rfl rfl (Row.old hrow hb (qD (by show g1 ≠ b; omega) qF))) ?_
  refine qb (fun g2 hg2 => ?_)
  iterate 4 refine gx ?_
  refine qs (by kernel_rfl) [0, 1, 0, 1, 0, 0, 1, 1, 1, 1, 0, 0] rfl (by kernel_rfl) ?_
  iterate 4 refine gx ?_
  by_cases c1 : p < o
  ·refine qG (qA rfl) rfl (fun _ => qi (Gets.lss rfl rfl rfl) c1) ?_
   refine gx ?_
   refine TM.pass1 rfl rfl rfl rfl rfl ?_
   refine TM.pass1 rfl rfl rfl rfl rfl ?_
   refine TM.pass1 rfl rfl rfl rfl rfl ?_
   refine TM.pass1 rfl rfl rfl rfl rfl ?_
   refine TM.pass rfl rfl rfl rfl rfl ?_
   iterate 3 refine gx ?_
   refine qC [2, 7, 8, 9, 24] ?_
   refine qq rfl ?_
   iterate 11 refine gx ?_
   exact qN rfl rfl (fun w hs => ⟨dec_f (by unfold inside_ at *; omega), ((hs.drop (by assumption)).drop (by assumption))⟩)
  ·refine qG (qA rfl) rfl (fun _ => qg (Gets.lss rfl rfl rfl) c1) ?_
   iterate 2 refine gx ?_
   refine TM.call0 (qM rfl rfl rfl) rfl enters72 rfl rfl (v := .int .i64 (p + n)) (fun w hs => end_c p n (by omega) w) ?_
   refine gx ?_
   refine TM.call0 (qM rfl rfl rfl) rfl enters72 rfl rfl (v := .int .i64 (o + l)) (fun w hs => end_c o l (by omega) w) ?_
   by_cases c2 : (o + l) < (p + n)
   ·refine qG (qM rfl rfl rfl) rfl (fun _ => qi (Gets.gtr rfl rfl rfl) c2) ?_
    iterate 3 refine gx ?_
    refine qC [2, 7, 8, 9, 24] ?_
    refine qq rfl ?_
    iterate 11 refine gx ?_
    exact qN rfl rfl (fun w hs => ⟨dec_f (by unfold inside_ at *; omega), ((hs.drop (by assumption)).drop (by assumption))⟩)
   ·refine qG (qM rfl rfl rfl) rfl (fun _ => qg (Gets.gtr rfl rfl rfl) c2) ?_
    iterate 3 refine gx ?_
    refine qC [2, 7, 8, 9, 24] ?_
    refine ql rfl ?_
    iterate 4 refine gx ?_
    refine qB (qA rfl) rfl (qU rfl rfl rfl (r := 1) (w64 (by omega) (by omega))) ?_
    iterate 2 refine gx ?_
    exact qc 1 (by omega) ⟨Nat.le_refl _, fun _ => by unfold inside_; omega⟩ (qH (i := 2) rfl (qL (i := 7) rfl rfl (by first | omega | (dsimp only; omega) | rfl) (by first | omega | (dsimp only; omega) | rfl) (qE (i := 8) rfl (by first | omega | rfl) (qE (i := 9) rfl (by first | omega | rfl) (qK))))) (fun w h => h.drop (by assumption))
 ·have hin := hC1 (by omega)
  iterate 11 refine gx ?_
  exact qN rfl rfl (fun w hs => ⟨dec_t (by unfold inside_ at *; omega), (hs.drop (by assumption))⟩)
theorem lies_row0 {w : World} {g t tot : Nat} {vs : List Value} (h : Ent.lies ⟨g, t, vs, tot⟩ w) (j : Nat) (u : Value) (hu : vs[j]? = some u) : w.cell? ⟨g, 0 + j, none⟩ = some u := by
 have h2 : (vs ++ [])[j]? = some u := by simpa using hu
 rw [Nat.zero_add]
 exact h.cell hu
/-
 Contracts of the reference: Len, Target, Source, Check, Overlaps.
-/
theorem check_c (k t f l : Int) (A : Option Addr) (m c : Nat) (hmr : m ≤ 9223372036854775807) (bt : -9223372036854775808 ≤ t ∧ t ≤ 9223372036854775807) (bf : -9223372036854775808 ≤ f ∧ f ≤ 9223372036854775807) (bl : -9223372036854775808 ≤ l ∧ l ≤ 9223372036854775807) (w : World) : Calls Tryz.prog 87 #[.agg ([int .i64 k, int .i64 t, int .i64 f, int .i64 l, slice A m c]).toArray] w fun e w' => e = .returned (.int .i64 (codeV k t f l m)) ∧ St w [] w' := by
 by_cases h1 : k = 1
 ·subst h1; exact check1 t f l A m c bt bf bl w
 by_cases h2 : k = 2
 ·subst h2; exact check2 t f l A m c hmr bt bf bl w
 ·exact check0 k t f l A m c h1 h2 w
theorem codeV1 {t f l : Int} {m : Nat} : codeV 1 t f l m = 0 ↔ ¬ l = 0 ∧ m = 0 ∧ vld t l ∧ vld f l := by
 unfold codeV; (repeat' split) <;> simp_all
theorem codeV2 {t f l : Int} {m : Nat} : codeV 2 t f l m = 0 ↔ ¬ m = 0 ∧ f = 0 ∧ l = 0 ∧ vld t m := by
 unfold codeV; (repeat' split) <;> simp_all
theorem codeV0 {k t f l : Int} {m : Nat} (h : codeV k t f l m = 0) : k = 1 ∨ k = 2 := by
 unfold codeV at h
 by_cases h1 : k = 1
 ·exact .inl h1
 by_cases h2 : k = 2
 ·exact .inr h2
 rw [if_neg h1, if_neg h2] at h; cases h
/-
 Slices of commands in memory; the first of some indices; the model of a delta's check.
-/
structure CV where
 k : Int
 t : Int
 f : Int
 l : Int
 A : Option Addr
 m : Nat
 c : Nat
 B : List Int
def cellsC (x : CV) : List Value := [int .i64 x.k, int .i64 x.t, int .i64 x.f, int .i64 x.l, slice x.A x.m x.c]
def RowsC (w : World) (b off : Nat) (Cs : List CV) : Prop := ∀ (i : Nat) (x : CV), Cs[i]? = some x → ∀ j u, (cellsC x)[j]? = some u → w.cell? ⟨b, off + 5 * i + j, none⟩ = some u
def SrcC (w : World) (A : Option Addr) (m : Nat) (Cs : List CV) : Prop := Cs.length = m ∧ (m = 0 ∨ ∃ b off, A = some ⟨b, off, none⟩ ∧ b < w.heap.size ∧ RowsC w b off Cs)
def NumC (x : CV) : Prop := (-9223372036854775808 ≤ x.t ∧ x.t ≤ 9223372036854775807) ∧ (-9223372036854775808 ≤ x.f ∧ x.f ≤ 9223372036854775807) ∧ (-9223372036854775808 ≤ x.l ∧ x.l ≤ 9223372036854775807) ∧ x.m ≤ x.c ∧ x.m ≤ 140737488355327 ∧ x.c ≤ 9223372036854775807
def NumsC (Cs : List CV) : Prop := ∀ (i : Nat) (x : CV), Cs[i]? = some x → NumC x
theorem SrcC.at_ {w0 w : World} {H : List Ent} {A : Option Addr} {m : Nat} {Cs : List CV} (h : SrcC w0 A m Cs) (hs : St w0 H w) (hH : ∀ b, b < w0.heap.size → ∀ e ∈ H, e.g ≠ b) : SrcC w A m Cs := by
 refine ⟨h.1, ?_⟩
 rcases h.2 with h | ⟨b, off, hA, hb, hr⟩
 ·exact .inl h
 ·refine .inr ⟨b, off, hA, Nat.lt_of_lt_of_le hb hs.size, fun i x hx j u hu => ?_⟩
  rw [hs.old_cell (ad := ⟨b, _, none⟩) hb (hH b hb)]
  exact hr i x hx j u hu
theorem SrcC.some_ {w : World} {A : Option Addr} {m i : Nat} {Cs : List CV} (h : SrcC w A m Cs) (hi : i < m) : ∃ b off, A = some ⟨b, off, none⟩ ∧ b < w.heap.size ∧ RowsC w b off Cs := h.2.resolve_left (by omega)
theorem SrcC.get {w : World} {A : Option Addr} {m i : Nat} {Cs : List CV} (h : SrcC w A m Cs) (hi : i < m) : ∃ x, Cs[i]? = some x := ⟨_, List.getElem?_eq_getElem (by rw [h.1]; exact hi)⟩
def tg (x : CV) : Int × Int := (x.t, lenV x.k x.l x.m)
def fewP (Cs : List CV) : Prop := (∀ (i : Nat) (x : CV), Cs[i]? = some x → x.m ≤ 300) ∧ Cs.length ≤ 40
def singleV (o n : Int) (x : CV) : Int :=
 if codeV x.k x.t x.f x.l x.m = 0 then (if x.k = 1 ∧ o < x.f + x.l then 5 else if n < x.t + lenV x.k x.l x.m then 6 else 0) else codeV x.k x.t x.f x.l x.m
def findV (Cs : List CV) (off : Int) (r : Int) : Prop := (r = -1 ∧ ∀ (i : Nat) (x : CV), Cs[i]? = some x → ¬ hasB (tg x) off) ∨ ∃ (i : Nat) (x : CV), r = i ∧ Cs[i]? = some x ∧ hasB (tg x) off ∧ ∀ (j : Nat) (y : CV), j < i → Cs[j]? = some y → ¬ hasB (tg y) off
theorem all_succ {α : Type} {Cs : List α} {p : α → Prop} {i : Nat} {x : α} (h : ∀ (j : Nat) (y : α), j < i → Cs[j]? = some y → p y) (hx : Cs[i]? = some x) (hp : p x) : ∀ (j : Nat) (y : α), j < i + 1 → Cs[j]? = some y → p y := fun j y hj hy => by
 by_cases hji : j = i
 ·subst hji; rw [hx] at hy; cases hy; exact hp
 ·exact h j y (by omega) hy
theorem all_of {α : Type} {Cs : List α} {p : α → Prop} {m : Nat} (hm : Cs.length ≤ m) (h : ∀ (j : Nat) (y : α), j < m → Cs[j]? = some y → p y) : ∀ (i : Nat) (x : α), Cs[i]? = some x → p x := fun i x hx => h i x (by have := (List.getElem?_eq_some_iff.1 hx).1; omega) hx
theorem lenV_bd {k l : Int} {m : Nat} (hl : -9223372036854775808 ≤ l ∧ l ≤ 9223372036854775807) (hm : m ≤ 140737488355327) : -9223372036854775808 ≤ lenV k l m ∧ lenV k l m ≤ 9223372036854775807 := by
 unfold lenV; split <;> omega
theorem codeV_facts {k t f l : Int} {m : Nat} (h : codeV k t f l m = 0) : vld t (lenV k l m) ∧ 1 ≤ lenV k l m ∧ (k = 1 → vld f l) := by
 rcases codeV0 h with rfl | rfl
 ·obtain ⟨h1, h2, h3, h4⟩ := codeV1.1 h
  unfold lenV; rw [if_pos rfl]
  exact ⟨h3, by unfold vld at h3; omega, fun _ => h4⟩
 ·obtain ⟨h1, h2, h3, h4⟩ := codeV2.1 h
  unfold lenV; rw [if_neg (by decide)]
  exact ⟨h4, by omega, fun h => by cases h⟩
theorem findV_unique {Cs : List CV} {off r s : Int} (hr : findV Cs off r) (hs : findV Cs off s) : r = s := by
 rcases hr with ⟨rfl, h1⟩ | ⟨i, x, rfl, h1, h2, h3⟩ <;> rcases hs with ⟨rfl, k1⟩ | ⟨j, y, rfl, k1, k2, k3⟩
 ·rfl
 ·exact absurd k2 (h1 j y k1)
 ·exact absurd h2 (k1 i x h1)
 ·have a : ¬ i < j := fun c => k3 i x c h1 h2
  have b : ¬ j < i := fun c => h3 j y c k1 k2
  have : i = j := by omega
  rw [this]
open Classical in
noncomputable def findI (Cs : List CV) (off : Int) : Int := if h : ∃ r, findV Cs off r then Classical.choose h else -1
theorem findI_is {Cs : List CV} {off r : Int} (h : findV Cs off r) : findI Cs off = r := by
 unfold findI
 rw [dif_pos ⟨r, h⟩]
 exact findV_unique (Classical.choose_spec (⟨r, h⟩ : ∃ r, findV Cs off r)) h
open Classical in
noncomputable def gapI (n : Int) (Cs : List CV) : Int := if h : ∃ g, leastT n (Cs.map tg) g then Classical.choose h else -1
theorem gapI_is {n g : Int} {Cs : List CV} (h : leastT n (Cs.map tg) g) : gapI n Cs = g := by
 unfold gapI
 rw [dif_pos ⟨g, h⟩]
 exact leastT_unique (Classical.choose_spec (⟨g, h⟩ : ∃ g, leastT n (Cs.map tg) g)) h
theorem gapI_no {n : Int} {Cs : List CV} (h : coverT 0 n (Cs.map tg)) : gapI n Cs = -1 := by
 unfold gapI
 rw [dif_neg]
 rintro ⟨g, h1, h2, h3, _⟩
 obtain ⟨p, hp, hb⟩ := h g h1 h2
 exact h3 p hp hb
noncomputable instance (Cs : List CV) : Decidable (fewP Cs) := Classical.propDecidable _
noncomputable def firstF (p : Nat → Prop) : Option Nat := @ite _ (∃ i, p i) (Classical.propDecidable _) (some (leastOf p)) none
theorem firstF_some {p : Nat → Prop} {i : Nat} (h : p i) (hm : ∀ j, j < i → ¬ p j) : firstF p = some i := by
 unfold firstF
 rw [if_pos ⟨i, h⟩]
 have h2 := leastOf_spec (p := p) h
 have h3 := h2.2 i h
 have h4 : ¬ leastOf p < i := fun hlt => hm _ hlt h2.1
 congr 1; omega
theorem firstF_none {p : Nat → Prop} (h : ∀ i, ¬ p i) : firstF p = none := by
 unfold firstF
 rw [if_neg (fun ⟨i, hi⟩ => h i hi)]
theorem firstF_spec {p : Nat → Prop} {i : Nat} (h : firstF p = some i) : p i ∧ ∀ j, j < i → ¬ p j := by
 unfold firstF at h
 by_cases he : ∃ i, p i
 ·rw [if_pos he] at h
  cases h
  obtain ⟨j, hj⟩ := he
  have h2 := leastOf_spec (p := p) hj
  exact ⟨h2.1, fun k hk hpk => by have := h2.2 k hpk; omega⟩
 ·rw [if_neg he] at h; cases h
theorem firstF_nope {p : Nat → Prop} (h : firstF p = none) : ∀ i, ¬ p i := fun i hi => by
 unfold firstF at h
 rw [if_pos ⟨i, hi⟩] at h; cases h
def okLen (o n : Int) : Prop := 0 ≤ o ∧ 0 ≤ n ∧ o ≤ 4611686018427387903 ∧ n ≤ 4611686018427387903
instance (o n : Int) : Decidable (okLen o n) := by unfold okLen; infer_instance
def bad1 (o n : Int) (Cs : List CV) (i : Nat) : Prop := ∃ x, Cs[i]? = some x ∧ singleV o n x ≠ 0
def bad2 (Cs : List CV) (i : Nat) : Prop := ∃ (x : CV) (j : Nat) (y : CV), Cs[i]? = some x ∧ j < i ∧ Cs[j]? = some y ∧ meets (tg x).1 (tg x).2 (tg y).1 (tg y).2
noncomputable def faultI (o n : Int) (Cs : List CV) : Int × Int :=
 if okLen o n then
  match firstF (bad1 o n Cs) with
  | some i => ((Cs[i]?).elim 0 (singleV o n), i)
  | none => match firstF (bad2 Cs) with
   | some i => (4, i)
   | none => if 0 ≤ gapI n Cs then (3, gapI n Cs) else (0, 0)
 else (2, -1)
theorem faultI_len {o n : Int} {Cs : List CV} (h : ¬ okLen o n) : faultI o n Cs = (2, -1) := by unfold faultI; rw [if_neg h]
theorem faultI_single {o n : Int} {Cs : List CV} {i : Nat} {x : CV} (h : okLen o n) (hx : Cs[i]? = some x) (hs : singleV o n x ≠ 0) (hb : ∀ (j : Nat) (y : CV), j < i → Cs[j]? = some y → singleV o n y = 0) : faultI o n Cs = (singleV o n x, (i : Int)) := by
 unfold faultI
 rw [if_pos h, firstF_some (p := bad1 o n Cs) ⟨x, hx, hs⟩ (fun j hj ⟨y, hy, hn⟩ => hn (hb j y hj hy))]
 simp [hx]
theorem no_bad1 {o n : Int} {Cs : List CV} (h : ∀ (i : Nat) (x : CV), Cs[i]? = some x → singleV o n x = 0) : firstF (bad1 o n Cs) = none := firstF_none fun i ⟨x, hx, hn⟩ => hn (h i x hx)
theorem faultI_over {o n : Int} {Cs : List CV} {i j : Nat} {x y : CV} (h : okLen o n) (h1 : ∀ (i : Nat) (x : CV), Cs[i]? = some x → singleV o n x = 0) (hx : Cs[i]? = some x) (hj : j < i) (hy : Cs[j]? = some y) (hm : meets (tg x).1 (tg x).2 (tg y).1 (tg y).2)
  (hb : ∀ i', i' < i → ¬ bad2 Cs i') : faultI o n Cs = (4, (i : Int)) := by
 unfold faultI
 rw [if_pos h, no_bad1 h1]
 simp only
 rw [firstF_some (p := bad2 Cs) ⟨x, j, y, hx, hj, hy, hm⟩ hb]
theorem faultI_gap {o n : Int} {Cs : List CV} (h : okLen o n) (h1 : ∀ (i : Nat) (x : CV), Cs[i]? = some x → singleV o n x = 0) (h2 : ∀ i, ¬ bad2 Cs i) : faultI o n Cs = if 0 ≤ gapI n Cs then (3, gapI n Cs) else (0, 0) := by
 unfold faultI
 rw [if_pos h, no_bad1 h1]
 simp only
 rw [firstF_none h2]
theorem bad2_all {Cs : List CV} {m : Nat} (hm : Cs.length ≤ m) (h : ∀ i', i' < m → ¬ bad2 Cs i') : ∀ i, ¬ bad2 Cs i := fun i hb => by
 obtain ⟨x, j, y, hx, h2⟩ := hb
 exact h i (by have := (List.getElem?_eq_some_iff.1 hx).1; omega) ⟨x, j, y, hx, h2⟩
theorem single_vld {o n : Int} {x : CV} (h : singleV o n x = 0) : vld x.t (lenV x.k x.l x.m) ∧ 1 ≤ lenV x.k x.l x.m ∧ x.t + lenV x.k x.l x.m ≤ n ∧ codeV x.k x.t x.f x.l x.m = 0 ∧ (x.k = 1 → vld x.f x.l ∧ x.f + x.l ≤ o) := by
 unfold singleV at h
 by_cases hc : codeV x.k x.t x.f x.l x.m = 0
 ·rw [if_pos hc] at h
  obtain ⟨h1, h2, h3⟩ := codeV_facts hc
  split at h
  ·cases h
  ·split at h
   ·cases h
   ·exact ⟨h1, h2, by omega, hc, fun hk => ⟨h3 hk, by omega⟩⟩
 ·rw [if_neg hc] at h; exact absurd h hc
theorem faultI_valid {o n : Int} {Cs : List CV} (h : (faultI o n Cs).1 = 0) : okLen o n ∧ (∀ (i : Nat) (x : CV), Cs[i]? = some x → singleV o n x = 0) ∧ (∀ i, ¬ bad2 Cs i) ∧ gapI n Cs < 0 := by
 unfold faultI at h
 by_cases hl : okLen o n
 ·rw [if_pos hl] at h
  cases h1 : firstF (bad1 o n Cs) with
  | some i =>
   rw [h1] at h
   obtain ⟨x, hx, hn⟩ := (firstF_spec h1).1
   simp [hx] at h
   exact absurd h hn
  | none =>
   rw [h1] at h
   cases h2 : firstF (bad2 Cs) with
   | some i => rw [h2] at h; cases h
   | none =>
    rw [h2] at h
    refine ⟨hl, fun i x hx => Classical.byContradiction fun hn => firstF_nope h1 i ⟨x, hx, hn⟩, firstF_nope h2, ?_⟩
    simp only at h
    split at h
    ·cases h
    ·omega
 ·rw [if_neg hl] at h; cases h
theorem meets_apart {p q : Int × Int} (hp : 1 ≤ p.2) (hq : 1 ≤ q.2) : ¬ meets p.1 p.2 q.1 q.2 ↔ apartT p q := by
 unfold meets apartT; omega
theorem tidy_of {o n : Int} {Cs : List CV} (h1 : ∀ (i : Nat) (x : CV), Cs[i]? = some x → singleV o n x = 0) (h2 : ∀ i, ¬ bad2 Cs i) : tidyT 0 n (Cs.map tg) := by
 refine ⟨fun p hp => ?_, ?_⟩
 ·obtain ⟨x, hx, rfl⟩ := List.mem_map.1 hp
  obtain ⟨i, hi⟩ := List.mem_iff_getElem?.1 hx
  obtain ⟨a, b, c, _⟩ := single_vld (h1 i x hi)
  unfold vld at a
  unfold okT tg; dsimp only; omega
 ·rw [List.pairwise_iff_getElem]
  intro i j hi hj hij
  simp only [List.length_map] at hi hj
  simp only [List.getElem_map]
  have hxi : Cs[i]? = some Cs[i] := List.getElem?_eq_getElem hi
  have hxj : Cs[j]? = some Cs[j] := List.getElem?_eq_getElem hj
  have ai := (single_vld (h1 i _ hxi)).2.1
  have aj := (single_vld (h1 j _ hxj)).2.1
  have := (meets_apart (p := tg Cs[j]) (q := tg Cs[i]) aj ai).1 (fun hm => h2 j ⟨_, i, _, hxj, hij, hxi, hm⟩)
  exact this.symm
theorem gap_cover {n : Int} {Cs : List CV} (h : gapI n Cs < 0) : coverT 0 n (Cs.map tg) := fun x hx hxn => by
 apply Classical.byContradiction
 intro hno
 have hf : freeT (Cs.map tg) x := fun p hp hb => hno ⟨p, hp, hb⟩
 have hex : ∃ g, leastT n (Cs.map tg) g := by
  obtain ⟨k, hk, hmin⟩ := least_of (p := fun k => (k : Int) < n ∧ freeT (Cs.map tg) (k : Int)) x.toNat ⟨by omega, by rw [Int.toNat_of_nonneg hx]; exact hf⟩
  refine ⟨k, by omega, hk.1, hk.2, fun y hy hyk hfy => ?_⟩
  have := hmin y.toNat ⟨by omega, by rw [Int.toNat_of_nonneg hy]; exact hfy⟩
  omega
 obtain ⟨g, hg⟩ := hex
 rw [gapI_is hg] at h
 have := hg.1
 omega
/-
 Sums over commands: copied and literal bytes.
-/
def cpV (x : CV) : Int := if x.k = 1 then x.l else 0
def ltV (x : CV) : Int := if x.k = 1 then 0 else (x.m : Int)
def lnV (x : CV) : Int := lenV x.k x.l x.m
structure ValidC (o n : Int) (Cs : List CV) : Prop where
 len : okLen o n
 single : ∀ (i : Nat) (x : CV), Cs[i]? = some x → singleV o n x = 0
 tidy : tidyT 0 n (Cs.map tg)
 cover : coverT 0 n (Cs.map tg)
 sum : sumT (Cs.map tg) = n
 pos : ∀ x ∈ Cs, 0 ≤ cpV x ∧ 0 ≤ ltV x ∧ 1 ≤ lnV x
theorem validC {o n : Int} {Cs : List CV} (h : (faultI o n Cs).1 = 0) : ValidC o n Cs := by
 obtain ⟨h1, h2, h3, h4⟩ := faultI_valid h
 have ht := tidy_of h2 h3
 have hc := gap_cover h4
 have h1' := h1
 unfold okLen at h1'
 have hs := sum_of_cover (a := 0) (by omega) ht hc
 refine ⟨h1, h2, ht, hc, by omega, fun x hx => ?_⟩
 obtain ⟨i, hi⟩ := List.mem_iff_getElem?.1 hx
 have := single_vld (h2 i x hi)
 have h5 := this.2.1
 unfold cpV ltV lnV
 unfold lenV at h5 ⊢
 split at h5 <;> rename_i hk <;> simp only [hk, if_true, if_false] <;> omega
/-
 Contracts of Same.
-/
def sameP (k t f l k2 t2 f2 l2 : Int) (B B2 : List Int) : Prop := k = k2 ∧ t = t2 ∧ f = f2 ∧ l = l2 ∧ B = B2
instance (k t f l k2 t2 f2 l2 : Int) (B B2 : List Int) : Decidable (sameP k t f l k2 t2 f2 l2 B B2) := by unfold sameP; infer_instance
theorem bytes_no : Bytes [] := fun x hx => by cases hx
theorem src_no {w : World} {A : Option Addr} : Src w A 0 .u8 [] := ⟨rfl, .inl rfl⟩
theorem rsame_c (k t f l k2 t2 f2 l2 : Int) (A A2 : Option Addr) (m c m2 c2 : Nat) (B B2 : List Int) (hB : Bytes B) (hB2 : Bytes B2) (w : World) (hsA : Src w A m .u8 B) (hsB : Src w A2 m2 .u8 B2) : Calls Tryz.prog 47 #[.agg ([int .i64 k, int .i64 t, int .i64 f, int .i64 l, slice A m c]).toArray, .agg ([int .i64 k2, int .i64 t2, int .i64 f2, int .i64 l2, slice A2 m2 c2]).toArray] w fun e w' => e = .returned (.bool (decide (sameP k t f l k2 t2 f2 l2 B B2))) ∧ St w [] w' := by
 refine qP (args := [.agg ([int .i64 k, int .i64 t, int .i64 f, int .i64 l, slice A m c]).toArray, .agg ([int .i64 k2, int .i64 t2, int .i64 f2, int .i64 l2, slice A2 m2 c2]).toArray]) Tryz.func47 rfl Tryz.ntmps47 (by simp) ?_
 refine qC [0, 1] ?_
 iterate 2 refine gx ?_
 refine qx (fun g1 hg1 => ?_)
 refine qx (fun g2 hg2 => ?_)
 iterate 9 refine gx ?_
 by_cases q1 : k = k2
 ·refine qB (qA rfl) rfl (qi (qo rfl rfl rfl) q1) ?_
  iterate 5 refine gx ?_
  by_cases q2 : t = t2
  ·refine qB (qM rfl rfl rfl) rfl (qi (qo rfl rfl rfl) q2) ?_
   iterate 6 refine gx ?_
   by_cases q3 : f = f2
   ·refine qB (qM rfl rfl rfl) rfl (qi (qo rfl rfl rfl) q3) ?_
    iterate 6 refine gx ?_
    by_cases q4 : l = l2
    ·refine qB (qM rfl rfl rfl) rfl (qi (qo rfl rfl rfl) q4) ?_
     iterate 4 refine gx ?_
     refine qB (qM rfl rfl rfl) rfl (Gets.b2s rfl Tryz.underlying22 Tryz.underlying9 Tryz.underlying5 rfl (fun w hs => (hsA.at_ hs (fun b hb => (qD (by show g2 ≠ b; omega) (qD (by show g1 ≠ b; omega) qF)))))) ?_
     iterate 2 refine gx ?_
     refine qB (qM rfl rfl rfl) rfl (Gets.b2s rfl Tryz.underlying22 Tryz.underlying9 Tryz.underlying5 rfl (fun w hs => (hsB.at_ hs (fun b hb => (qD (by show g2 ≠ b; omega) (qD (by show g1 ≠ b; omega) qF)))))) ?_
     refine qB (qM rfl rfl rfl) rfl (Gets.bytesEq rfl rfl rfl hB hB2) ?_
     iterate 5 refine gx ?_
     exact qN rfl rfl (fun w hs => ⟨dec_iff (by unfold sameP; simp [*]), ((hs.drop (by assumption)).drop (by assumption))⟩)
    ·refine qB (qM rfl rfl rfl) rfl (qg (qo rfl rfl rfl) q4) ?_
     iterate 14 refine gx ?_
     exact qN rfl rfl (fun w hs => ⟨dec_f (by unfold sameP; simp [*]), ((hs.drop (by assumption)).drop (by assumption))⟩)
   ·refine qB (qM rfl rfl rfl) rfl (qg (qo rfl rfl rfl) q3) ?_
    iterate 21 refine gx ?_
    exact qN rfl rfl (fun w hs => ⟨dec_f (by unfold sameP; simp [*]), ((hs.drop (by assumption)).drop (by assumption))⟩)
  ·refine qB (qM rfl rfl rfl) rfl (qg (qo rfl rfl rfl) q2) ?_
   iterate 28 refine gx ?_
   exact qN rfl rfl (fun w hs => ⟨dec_f (by unfold sameP; simp [*]), ((hs.drop (by assumption)).drop (by assumption))⟩)
 ·refine qB (qA rfl) rfl (qg (qo rfl rfl rfl) q1) ?_
  iterate 34 refine gx ?_
  exact qN rfl rfl (fun w hs => ⟨dec_f (by unfold sameP; simp [*]), ((hs.drop (by assumption)).drop (by assumption))⟩)
/-
 What commands are, without where their data lie; when lists of commands are the same.
-/
def DatC (w : World) (Cs : List CV) : Prop := ∀ (i : Nat) (x : CV), Cs[i]? = some x → Src w x.A x.m .u8 x.B ∧ Bytes x.B
theorem DatC.at_ {w0 w : World} {H : List Ent} {Cs : List CV} (h : DatC w0 Cs) (hs : St w0 H w) (hH : ∀ b, b < w0.heap.size → ∀ e ∈ H, e.g ≠ b) : DatC w Cs := fun i x hx => ⟨(h i x hx).1.at_ hs hH, (h i x hx).2⟩
def valC (x : CV) : Int × Int × Int × Int × List Int := (x.k, x.t, x.f, x.l, x.B)
def sameC (Cs Es : List CV) : Prop := Cs.map valC = Es.map valC
instance (Cs Es : List CV) : Decidable (sameC Cs Es) := by unfold sameC; infer_instance
abbrev sameV (x y : CV) : Prop := sameP x.k x.t x.f x.l y.k y.t y.f y.l x.B y.B
theorem sameV_iff {x y : CV} : sameV x y ↔ valC x = valC y := by unfold sameV sameP valC; simp only [Prod.mk.injEq]
theorem sameC_len {Cs Es : List CV} (h : sameC Cs Es) : Cs.length = Es.length := by have := congrArg List.length h; simpa using this
theorem sameC_at {Cs Es : List CV} (h : sameC Cs Es) {i : Nat} {x y : CV} (hx : Cs[i]? = some x) (hy : Es[i]? = some y) : sameV x y := by
 have h1 := congrArg (·[i]?) h
 simp only [List.getElem?_map, hx, hy, Option.map_some, Option.some.injEq] at h1
 exact sameV_iff.2 h1
theorem sameC_of {Cs Es : List CV} (hl : Cs.length = Es.length) (h : ∀ (i : Nat) (x y : CV), Cs[i]? = some x → Es[i]? = some y → sameV x y) : sameC Cs Es := by
 apply List.ext_getElem?
 intro i
 rw [List.getElem?_map, List.getElem?_map]
 cases hx : Cs[i]? with
 | none =>
  rw [List.getElem?_eq_none_iff] at hx
  rw [List.getElem?_eq_none (by omega)]
 | some x =>
  have hi := (List.getElem?_eq_some_iff.1 hx).1
  have hy : Es[i]? = some Es[i] := List.getElem?_eq_getElem (by omega)
  rw [hy]
  simp only [Option.map_some, Option.some.injEq]
  exact sameV_iff.1 (h i x _ hx hy)
theorem sameC_succ {Cs Es : List CV} {i : Nat} {x y : CV} (h : ∀ (j : Nat) (x y : CV), j < i → Cs[j]? = some x → Es[j]? = some y → sameV x y) (hx : Cs[i]? = some x) (hy : Es[i]? = some y) (hs : sameV x y) : ∀ (j : Nat) (x y : CV), j < i + 1 → Cs[j]? = some x → Es[j]? = some y → sameV x y := fun j x' y' hj hx' hy' => by
 by_cases e : j = i
 ·subst e; rw [hx] at hx'; rw [hy] at hy'; cases hx'; cases hy'; exact hs
 ·exact h j x' y' (by omega) hx' hy'
def sameD (o n : Int) (H1 H2 : List Int) (Cs : List CV) (o2 n2 : Int) (G1 G2 : List Int) (Es : List CV) : Prop := o = o2 ∧ n = n2 ∧ H1 = G1 ∧ H2 = G2 ∧ sameC Cs Es
instance (o n : Int) (H1 H2 : List Int) (Cs : List CV) (o2 n2 : Int) (G1 G2 : List Int) (Es : List CV) : Decidable (sameD o n H1 H2 Cs o2 n2 G1 G2 Es) := by unfold sameD; infer_instance
/-
 Arguments opened: deltas.
-/
set_option maxRecDepth 100000
open Go Go.RowKit Go.ChangeShapes Go.WideShapes Go.ChangeAt Go.Joins Go.Deep
/-
 A range over a function whose iterator keeps state of its own in cells: the iterator's contract, and one law for the statement.
-/
structure Beside (lo hi : Nat) (A B : World) : Prop where
 os : B.os = A.os
 tape : B.tape = A.tape
 output : B.output = A.output
 size : A.heap.size ≤ B.heap.size
 block : ∀ k, k < A.heap.size → ¬ (lo ≤ k ∧ k < hi) → B.heap[k]? = A.heap[k]?
theorem Beside.mono {lo hi lo' hi' : Nat} {A B : World} (h : Beside lo hi A B) (h1 : lo' ≤ lo) (h2 : hi ≤ hi') : Beside lo' hi' A B :=
 ⟨h.os, h.tape, h.output, h.size, fun k hk hn => h.block k hk (fun hc => hn ⟨Nat.le_trans h1 hc.1, Nat.lt_of_lt_of_le hc.2 h2⟩)⟩
theorem Beside.alloc (lo hi : Nat) (A : World) (o : Obj) : Beside lo hi A (A.alloc o) := ⟨rfl, rfl, rfl, by simp, fun k hk _ => Below.heap_alloc A o k hk⟩
theorem Beside.putObj {lo hi : Nat} (A : World) (r : Nat) (o : Obj) (h1 : lo ≤ r) (h2 : r < hi) : Beside lo hi A (A.putObj r o) :=
 ⟨rfl, rfl, rfl, by simp, fun k _ hn => World.putObj_heap_other (fun e => hn (by rw [e]; exact ⟨h1, h2⟩))⟩
theorem Beside.of_below {lo hi : Nat} {A B : World} (h : Below A.heap.size A B) : Beside lo hi A B := ⟨h.os, h.tape, h.output, h.size, fun k hk _ => h.block k hk⟩
structure Keeps (Ks : Nat → Prop) (A B : World) : Prop where
 size : A.heap.size ≤ B.heap.size
 block : ∀ k, Ks k → k < A.heap.size → B.heap[k]? = A.heap[k]?
theorem Keeps.trans {Ks : Nat → Prop} {A B C : World} (h : Keeps Ks A B) (k : Keeps Ks B C) : Keeps Ks A C :=
 ⟨Nat.le_trans h.size k.size, fun i hi hl => (k.block i hi (Nat.lt_of_lt_of_le hl h.size)).trans (h.block i hi hl)⟩
theorem Keeps.mono {Ks Ks' : Nat → Prop} {A B : World} (h : Keeps Ks A B) (hs : ∀ k, Ks' k → Ks k) : Keeps Ks' A B := ⟨h.size, fun k hk => h.block k (hs k hk)⟩
theorem Keeps.putObj {Ks : Nat → Prop} (A : World) (r : Nat) (o : Obj) (h : ¬ Ks r) : Keeps Ks A (A.putObj r o) :=
 ⟨by simp, fun k hk _ => World.putObj_heap_other (fun e => h (by rw [← e]; exact hk))⟩
theorem Keeps.below {Ks : Nat → Prop} {A B : World} (h : Below A.heap.size A B) : Keeps Ks A B := ⟨h.size, fun k _ hl => h.block k hl⟩
def Holds (Ks : Nat → Prop) (A B : World) : Prop := ∀ k, Ks k → k < A.heap.size → B.heap[k]? = A.heap[k]?
theorem Holds.lt {Ks : Nat → Prop} {A B : World} (h : Holds Ks A B) {k : Nat} (hk : Ks k) (hl : k < A.heap.size) : k < B.heap.size := by
 have h1 := h k hk hl
 rw [Array.getElem?_eq_getElem hl] at h1
 exact (Array.getElem?_eq_some_iff.1 h1).1
theorem Holds.trans {Ks : Nat → Prop} {A B C : World} (h : Holds Ks A B) (k : Holds Ks B C) : Holds Ks A C := fun i hi hl => (k i hi (h.lt hi hl)).trans (h i hi hl)
theorem Holds.mono {Ks Ks' : Nat → Prop} {A B : World} (h : Holds Ks A B) (hs : ∀ k, Ks' k → Ks k) : Holds Ks' A B := fun k hk => h k (hs k hk)
theorem Keeps.holds {Ks : Nat → Prop} {A B : World} (h : Keeps Ks A B) : Holds Ks A B := h.block
theorem Holds.putObj {Ks : Nat → Prop} (A : World) (r : Nat) (o : Obj) (h : ¬ Ks r) : Holds Ks A (A.putObj r o) := (Keeps.putObj A r o h).holds
def IterC (F : Fence) (n : Nat) (P : Program) (g : Nat) (lb : Array Value) (encs : Nat → Array Value) (N c : Nat) (Cap : Nat → Prop) (w0 : World) : Prop :=
 ∀ (l : Nat) (J Jx : Nat → World → Prop) (W : World), Below w0.heap.size w0 W →
  (∀ s A B, J s A → Beside W.heap.size (W.heap.size + c) A B → J s B) →
  (∀ s A B, Jx s A → Beside W.heap.size (W.heap.size + c) A B → Jx s B) →
  (∀ i W1, i < N → J i W1 → W.heap.size + c ≤ W1.heap.size → YieldAt F (n - 1) P l (encs i) W1 fun e W' =>
   (e = .returned (.bool true) ∧ J (i + 1) W' ∧ Holds (fun k => (W.heap.size ≤ k ∧ k < W.heap.size + c) ∨ Cap k) W1 W' ∧ W.heap.size + c ≤ W'.heap.size) ∨ (e = .returned (.bool false) ∧ Jx (i + 1) W')) →
  J 0 W →
  CallsIn F n P g (#[.func (.yield l) #[] #[]] ++ lb) W fun e W' => (∃ v, e = .returned v) ∧ (J N W' ∨ ∃ i, i < N ∧ Jx (i + 1) W')
def itPost (sz : Nat) (Ks : Nat → Prop) (I : Nat → World → Prop) (Ix : Code → Nat → World → Prop) (i : Nat) (W : World) : Exit → Act → World → Prop
 | .normal, _, W' => Holds Ks W W' ∧ sz ≤ W'.heap.size ∧ I i W'
 | .ret, _, W' => Holds Ks W W' ∧ sz ≤ W'.heap.size ∧ Ix .ret i W'
 | .exit id, _, W' => Holds Ks W W' ∧ sz ≤ W'.heap.size ∧ Ix (.exit id) i W'
 | .goto t, _, W' => Holds Ks W W' ∧ sz ≤ W'.heap.size ∧ Ix (.goto t) i W'
 | .panic _, _, _ => False
 | .outgrown, _, _ => False
variable {F : Fence} {n : Nat} {P : Program}
theorem wpIn_rangeFunc_it {g : Operand} {ps : Array Tmp} {assign body : Code} {Q : Exit → Act → World → Prop} {a : Act} {w : World}
  (hro : F.round = none) (h1 : 1 ≤ n) {gf : Nat} {lb : Array Value} (hg : a.eval g = .func (.func gf) #[] lb) (hFg : F.fn gf) (eg : ∀ args w, (callFunc gf args).run P w = .ok (.enter gf args) w)
  {encs : Nat → Array Value} {N c : Nat} {Cap : Nat → Prop} {w0 : World} (hseq : IterC F (n - 1) P gf lb encs N c Cap w0)
  (hb0 : Below w0.heap.size w0 w) (hcap : ∀ k, Cap k → k < w.heap.size) (hps : ∀ i, (encs i).size = ps.size)
  (I : Nat → World → Prop) (Ix : Code → Nat → World → Prop) (Ax : Nat → Act → World → Prop)
  (hI : ∀ s A B, I s A → Beside w.heap.size (w.heap.size + 2 + c) A B → I s B)
  (hIx : ∀ j s A B, Ix j s A → Beside w.heap.size (w.heap.size + 2 + c) A B → Ix j s B)
  (hAx : ∀ s a A B, Ax s a A → Beside w.heap.size (w.heap.size + 2 + c) A B → Ax s a B)
  (h0 : I 0 w)
  (hassign : ∀ (l i : Nat) (W : World), i < N → I i W → w.heap.size + 2 + c ≤ W.heap.size → assign.wpIn (F.inRound l) (n - 1 - 1) P
   (Exit.then (fun a₁ W₁ => Ax i a₁ W₁ ∧ Keeps (fun k => (w.heap.size ≤ k ∧ k < w.heap.size + 2 + c) ∨ Cap k) W W₁) (fun _ _ _ => False))
   { tmps := (ps.zip (encs i)).foldl (fun t (p, v) => t.setIfInBounds p v) a.tmps, defers := [] } W)
  (hbody : ∀ (l i : Nat) (a₁ : Act) (W : World), i < N → Ax i a₁ W → w.heap.size + 2 + c ≤ W.heap.size →
   body.wpIn (F.inRound l) (n - 1 - 1) P (itPost (w.heap.size + 2 + c) (fun k => (w.heap.size ≤ k ∧ k < w.heap.size + 2 + c) ∨ Cap k) I Ix (i + 1) W) a₁ W)
  (hdone : ∀ (W : World), I N W → W.heap[w.heap.size]? = some (.deferred (some [])) → Q .normal { a with defers := { target := .collected w.heap.size, args := #[] } :: a.defers } W)
  (hstop : ∀ (j : Code) (i : Nat) (W : World), i < N → Ix j (i + 1) W → W.heap[w.heap.size]? = some (.deferred (some [])) → j.wpIn F n P Q { a with defers := { target := .collected w.heap.size, args := #[] } :: a.defers } W) :
  (Code.rangeFunc g ps assign body).wpIn F n P Q a w := by
 refine wpIn_rangeFunc ?_
 intro fn hfn
 rw [hro]
 obtain ⟨rec, hrec⟩ : ∃ rec : LoopState → Option Code → Loop, rec = fun st pe => { state := st, pending := pe, fn, tmps := a.tmps, params := ps, assign, body, defers := w.heap.size } := ⟨_, rfl⟩
 obtain ⟨W1, hW1⟩ : ∃ W1, (w.alloc (.deferred (some []))).alloc (.loop (rec .ready none)) = W1 := ⟨_, rfl⟩
 have hsz : W1.heap.size = w.heap.size + 2 := by rw [← hW1]; simp
 have hL1 : W1.heap[w.heap.size + 1]? = some (.loop (rec .ready none)) := by
  rw [← hW1]; have := World.alloc_heap_new (w.alloc (.deferred (some []))) (.loop (rec .ready none)); rwa [World.size_alloc] at this
 have hK1 : W1.heap[w.heap.size]? = some (.deferred (some [])) := by
  rw [← hW1]; exact (Below.heap_alloc _ _ _ (by simp)).trans (World.alloc_heap_new w _)
 have hI1 : I 0 W1 := by rw [← hW1]; exact hI _ _ _ (hI _ _ _ h0 (Beside.alloc _ _ _ _)) (Beside.alloc _ _ _ _)
 have hb1 : Below w0.heap.size w0 W1 := by
  rw [← hW1]; exact hb0.trans ((((Below.refl _ w).alloc (Nat.le_refl _) _).alloc (by simp) _).mono hb0.size)
 refine ⟨w.heap.size + 1, [{ target := .collected w.heap.size, args := #[] }], W1, { target := .fn (.func gf) lb, args := #[.func (.yield (w.heap.size + 1)) #[] #[]] }, W1, gf,
  #[.func (.yield (w.heap.size + 1)) #[] #[]] ++ lb, W1, ?_, ?_, ?_, ?_, fun _ => h1, ?_⟩
 ·rw [← hW1, hrec]; exact run_enterLoop_outer _ _ _ _ _
 ·simp only [resolve, hg]
  simp [go_sem]
 ·intro f' hf'; simp [Target.leads] at hf'; subst hf'; exact hFg
 ·simp [invoke, go_sem, eg]
 ·have inM : ∀ {A B : World}, Beside W1.heap.size (W1.heap.size + c) A B → Beside w.heap.size (w.heap.size + 2 + c) A B := fun h => h.mono (by omega) (by omega)
  refine (hseq (w.heap.size + 1)
   (fun i W => I i W ∧ W.heap[w.heap.size + 1]? = some (.loop (rec .ready none)) ∧ W.heap[w.heap.size]? = some (.deferred (some [])))
   (fun i W => ∃ j, Ix j i W ∧ W.heap[w.heap.size + 1]? = some (.loop (rec .done (some j))) ∧ W.heap[w.heap.size]? = some (.deferred (some [])))
   W1 hb1
   (fun s A B hs hg' => by
    have l1 := (Array.getElem?_eq_some_iff.1 hs.2.1).1
    exact ⟨hI s A B hs.1 (inM hg'), (hg'.block _ l1 (by omega)).trans hs.2.1, (hg'.block _ (by omega) (by omega)).trans hs.2.2⟩)
   (fun s A B hs hg' => by
    obtain ⟨j, hj, hl, hk⟩ := hs
    have l1 := (Array.getElem?_eq_some_iff.1 hl).1
    exact ⟨j, hIx j s A B hj (inM hg'), (hg'.block _ l1 (by omega)).trans hl, (hg'.block _ (by omega) (by omega)).trans hk⟩)
   ?_ ⟨hI1, hL1, hK1⟩).mono ?_
  ·-- one round
   rintro i W hiN ⟨hi, hl, hk⟩ hWs
   have hlt : w.heap.size + 1 < W.heap.size := (Array.getElem?_eq_some_iff.1 hl).1
   have hy := run_yield (P := P) (args := encs i) hl (by rw [hrec]; exact hps i)
   rw [hrec] at hy
   refine ⟨fn, _, assign, body, hy, roundIn_of_wpIn hfn (wpIn_mono (hassign (w.heap.size + 1) i W hiN hi (by omega)) ?_)⟩
   intro e1 a1 W2 hp1
   cases e1 with
   | normal =>
    obtain ⟨hax, hkp⟩ := hp1
    have hl2 : W2.heap[w.heap.size + 1]? = some (.loop (rec .ready none)) := (hkp.block _ (.inl ⟨by omega, by omega⟩) hlt).trans hl
    have hk2 : W2.heap[w.heap.size]? = some (.deferred (some [])) := (hkp.block _ (.inl ⟨by omega, by omega⟩) (by omega)).trans hk
    have hlt2 : w.heap.size + 1 < W2.heap.size := (Array.getElem?_eq_some_iff.1 hl2).1
    refine ⟨_, run_beginRound hl2 (by rw [hrec]), ?_⟩
    obtain ⟨W3, hW3⟩ : ∃ W3, W2.putObj (w.heap.size + 1) (.loop { rec .ready none with state := .busy }) = W3 := ⟨_, rfl⟩
    rw [hW3]
    have hl3 : W3.heap[w.heap.size + 1]? = some (.loop { rec .ready none with state := .busy }) := by rw [← hW3]; exact World.putObj_heap_same hlt2
    have hk3 : W3.heap[w.heap.size]? = some (.deferred (some [])) := by rw [← hW3]; exact (World.putObj_heap_other (by omega)).trans hk2
    have hax3 : Ax i a1 W3 := by rw [← hW3]; exact hAx _ _ _ _ hax (Beside.putObj _ _ _ (by omega) (by omega))
    have hs3 : W3.heap.size = W2.heap.size := by rw [← hW3]; simp
    have hke3 : Keeps (fun k => (W1.heap.size ≤ k ∧ k < W1.heap.size + c) ∨ Cap k) W W3 := by
     have hput : Keeps (fun k => (W1.heap.size ≤ k ∧ k < W1.heap.size + c) ∨ Cap k) W2 W3 := by
      rw [← hW3]
      refine Keeps.putObj _ _ _ ?_
      rintro (hk | hk)
      ·omega
      ·have := hcap _ hk; omega
     refine (hkp.mono ?_).trans hput
     rintro k (hk | hk)
     ·exact .inl ⟨by omega, by omega⟩
     ·exact .inr hk
    refine wpIn_mono (hbody _ i a1 W3 hiN hax3 (by have := hkp.size; omega)) ?_
    have fin : ∀ (jump : Option Code) (W4 : World), Holds (fun k => (w.heap.size ≤ k ∧ k < w.heap.size + 2 + c) ∨ Cap k) W3 W4 →
      (Instr.endRound (w.heap.size + 1) jump).run P W4 = .ok (.bool jump.isNone) (W4.putObj (w.heap.size + 1) (.loop (rec (if jump.isNone then .ready else .done) jump))) ∧
      W4.heap.size ≤ (W4.putObj (w.heap.size + 1) (.loop (rec (if jump.isNone then .ready else .done) jump))).heap.size ∧
      (W4.putObj (w.heap.size + 1) (.loop (rec (if jump.isNone then .ready else .done) jump))).heap[w.heap.size + 1]? = some (.loop (rec (if jump.isNone then .ready else .done) jump)) ∧
      (W4.putObj (w.heap.size + 1) (.loop (rec (if jump.isNone then .ready else .done) jump))).heap[w.heap.size]? = some (.deferred (some [])) := fun jump W4 hk4 => by
     have hl4 : W4.heap[w.heap.size + 1]? = some (.loop { rec .ready none with state := .busy }) := (hk4 _ (.inl ⟨by omega, by omega⟩) (by omega)).trans hl3
     have := run_endRound (P := P) jump hl4
     rw [hrec] at this ⊢
     exact ⟨this, by simp, World.putObj_heap_same (Array.getElem?_eq_some_iff.1 hl4).1, (World.putObj_heap_other (by omega)).trans ((hk4 _ (.inl ⟨by omega, by omega⟩) (by omega)).trans hk3)⟩
    rintro e a3 W4 hp
    cases e with
    | normal =>
     obtain ⟨hk4, hz4, hi4⟩ := hp
     obtain ⟨hr, _, hl5, hk5⟩ := fin none W4 hk4
     refine ⟨_, _, hr, .inl ⟨rfl, ⟨hI _ _ _ hi4 (Beside.putObj _ _ _ (by omega) (by omega)), hl5, hk5⟩, (hke3.holds.trans (hk4.mono ?_)).trans (Holds.putObj _ _ _ ?_), ?_⟩⟩
     ·rintro k (hk | hk)
      ·exact .inl ⟨by omega, by omega⟩
      ·exact .inr hk
     ·rintro (hk | hk)
      ·omega
      ·have := hcap _ hk; omega
     ·rw [hsz]
      refine Nat.le_trans hz4 (Nat.le_of_eq ?_)
      simp
    | ret =>
     obtain ⟨hk4, hz4, hi4⟩ := hp
     obtain ⟨hr, _, hl5, hk5⟩ := fin (some .ret) W4 hk4
     exact ⟨_, _, hr, .inr ⟨rfl, ⟨.ret, hIx _ _ _ _ hi4 (Beside.putObj _ _ _ (by omega) (by omega)), hl5, hk5⟩⟩⟩
    | exit id =>
     obtain ⟨hk4, hz4, hi4⟩ := hp
     obtain ⟨hr, _, hl5, hk5⟩ := fin (some (.exit id)) W4 hk4
     exact ⟨_, _, hr, .inr ⟨rfl, ⟨.exit id, hIx _ _ _ _ hi4 (Beside.putObj _ _ _ (by omega) (by omega)), hl5, hk5⟩⟩⟩
    | goto t =>
     obtain ⟨hk4, hz4, hi4⟩ := hp
     obtain ⟨hr, _, hl5, hk5⟩ := fin (some (.goto t)) W4 hk4
     exact ⟨_, _, hr, .inr ⟨rfl, ⟨.goto t, hIx _ _ _ _ hi4 (Beside.putObj _ _ _ (by omega) (by omega)), hl5, hk5⟩⟩⟩
    | panic ch => exact hp.elim
    | outgrown => exact hp.elim
   | _ => exact hp1.elim
  ·-- behind the iterator
   rintro e W2 ⟨⟨v, rfl⟩, (⟨hi, hl, hk⟩ | ⟨i, hiN, j, hj, hl, hk⟩)⟩
   ·exact ⟨none, _, by have := run_endLoop (P := P) hl (by rw [hrec]; simp); rw [hrec] at this; exact this, hdone _ (hI _ _ _ hi (Beside.putObj _ _ _ (by omega) (by omega))) ((World.putObj_heap_other (by omega)).trans hk)⟩
   ·exact ⟨some j, _, by have := run_endLoop (P := P) hl (by rw [hrec]; simp); rw [hrec] at this; exact this, hstop j i _ hiN (hIx _ _ _ _ hj (Beside.putObj _ _ _ (by omega) (by omega))) ((World.putObj_heap_other (by omega)).trans hk)⟩
/-
 Ranges over functions, and iterators, in the engine's terms.
-/
section
variable {P : Program} {ops : Array Oper} {Q : Exit → Act → World → Prop} {n : Sz} {w0 v W w : World} {L L' : List (Nat × Value)} {H A B HC X : List Ent} {o : Oper} {rest : List Oper} {ex : Exit}
theorem St.self (h : St w0 H w) : St w H w := ⟨rfl, rfl, rfl, Nat.le_refl _, h.has, fun _ _ _ => rfl, h.apart⟩
theorem St.self1 (h : St w0 (A ++ B) w) : St w A w := ⟨rfl, rfl, rfl, Nat.le_refl _, fun e he => h.has e (List.mem_append.2 (.inl he)), fun _ _ _ => rfl, (List.pairwise_append.1 h.apart).1⟩
theorem St.over (h : St w0 (A ++ HC) v) (k : St v B w) (h1 : ∀ e ∈ B, ∀ d ∈ HC, e.g ≠ d.g) (h2 : ∀ d ∈ A, w0.heap.size ≤ d.g ∨ ∃ e ∈ B, e.g = d.g) : St w0 (B ++ HC) w := by
 refine ⟨k.os.trans h.os, k.tape.trans h.tape, k.output.trans h.output, Nat.le_trans h.size k.size, ?_, ?_, ?_⟩
 ·intro e he
  rcases List.mem_append.1 he with he | he
  ·exact k.has e he
  ·have hl := h.has e (List.mem_append.2 (.inr he))
   exact hl.of_block (k.old _ hl.lt (fun d hd => h1 d hd e he))
 ·intro b hb hneb
  have hbv := Nat.lt_of_lt_of_le hb h.size
  refine (k.old b hbv (fun e he => hneb e (List.mem_append.2 (.inl he)))).trans (h.old b hb ?_)
  intro d hd
  rcases List.mem_append.1 hd with hd | hd
  ·rcases h2 d hd with h2 | ⟨e, he, heg⟩
   ·omega
   ·rw [← heg]; exact hneb e (List.mem_append.2 (.inl he))
  ·exact hneb d (List.mem_append.2 (.inr hd))
 ·rw [List.pairwise_append]
  exact ⟨k.apart, (List.pairwise_append.1 h.apart).2.1, fun e he d hd => h1 e he d hd⟩
theorem St.dropAll : ∀ (X : List Ent), St w0 (X ++ H) w → (∀ e ∈ X, w0.heap.size ≤ e.g) → St w0 H w
 | [], h, _ => h
 | e :: X, h, hx => St.dropAll X (h.drop (hx e List.mem_cons_self)) fun d hd => hx d (List.mem_cons_of_mem _ hd)
abbrev zL := @St.dropAll
theorem St.besides {lo hi : Nat} (h : St w0 H v) (hb : Beside lo hi v w) (h1 : ∀ e ∈ H, e.g < lo ∨ hi ≤ e.g) (h2 : w0.heap.size ≤ lo) : St w0 H w :=
 ⟨hb.os.trans h.os, hb.tape.trans h.tape, hb.output.trans h.output, Nat.le_trans h.size hb.size,
  fun e he => (h.has e he).of_block (hb.block _ (h.has e he).lt (fun hc => by have := h1 e he; omega)),
  fun b hlt hne => (hb.block b (Nat.lt_of_lt_of_le hlt h.size) (fun hc => by omega)).trans (h.old b hlt hne), h.apart⟩
theorem gs_mem {Hi H0 : List Ent} (hgs : Hi.map (·.g) = H0.map (·.g)) : ∀ e ∈ Hi, ∃ d ∈ H0, d.g = e.g := fun e he => by
 have : e.g ∈ H0.map (·.g) := by rw [← hgs]; exact List.mem_map_of_mem he
 obtain ⟨d, hd, h⟩ := List.mem_map.1 this
 exact ⟨d, hd, h⟩
theorem wpIn_num {F : Fence} (hF : F.depth = none) {m m' : Nat} {c : Code} {a : Act} (h : c.wpIn F m P Q a w) : c.wpIn F m' P Q a w := fun b k cs h1 h2 _ =>
 h b k cs h1 h2 (fun d hd => by rw [hF] at hd; cases hd)
def mark (D : Nat) : Deferred := { target := .collected D, args := #[] }
def AxP (v : World) (La : Nat → List (Nat × Value)) (Ha : Nat → List Ent) (Hi : List Ent) (n : Sz) : Act → World → Prop := fun a W => ∃ y, v.heap.size ≤ y ∧ y ≤ W.heap.size ∧ Fr n (La y) a ∧ St v (Ha y ++ Hi) W
def RoundQ (y : Nat) (v : World) (C1 : Prop) (H1 : List Ent) (Cr : Prop) (Hr : List Ent) (idb : Nat) (Cb : Prop) (Hb : List Ent) : Exit → Act → World → Prop
 | .normal, _, W => C1 ∧ ∃ X, (∀ e ∈ X, y ≤ e.g) ∧ St v (X ++ H1) W
 | .ret, _, W => Cr ∧ ∃ X, (∀ e ∈ X, y ≤ e.g) ∧ St v (X ++ Hr) W
 | .exit id, _, W => id = idb ∧ Cb ∧ ∃ X, (∀ e ∈ X, y ≤ e.g) ∧ St v (X ++ Hb) W
 | _, _, _ => False
structure MarkAt (w0 W : World) (D : Nat) (gs : List Nat) : Prop where
 new : w0.heap.size ≤ D
 here : W.heap[D]? = some (.deferred (some []))
 ne : ∀ x ∈ gs, x ≠ D
theorem TE.ax {La : Nat → List (Nat × Value)} {Ha : Nat → List Ent} {Hi : List Ent} (y : Nat) (hy : v.heap.size ≤ y) (hy2 : ∀ w, St v H w → y ≤ w.heap.size) (hs : Sub (La y) L) (hH : ∀ w, St v H w → St v (Ha y ++ Hi) w) :
  TE (Exit.then (AxP v La Ha Hi n) (fun _ _ _ => False)) .normal n v L H := fun a w hf hst => ⟨y, hy, hy2 w hst, hf.sub hs, hH w hst⟩
theorem TE.roundN {y : Nat} {C1 Cr Cb : Prop} {H1 Hr Hb : List Ent} {idb : Nat} (hC : C1) (X : List Ent) (hX : ∀ e ∈ X, y ≤ e.g) (hH : ∀ w, St v H w → St v (X ++ H1) w) : TE (RoundQ y v C1 H1 Cr Hr idb Cb Hb) .normal n v L H := fun a w _ hs => ⟨hC, X, hX, hH w hs⟩
theorem TE.roundR {y : Nat} {C1 Cr Cb : Prop} {H1 Hr Hb : List Ent} {idb : Nat} (hC : Cr) (X : List Ent) (hX : ∀ e ∈ X, y ≤ e.g) (hH : ∀ w, St v H w → St v (X ++ Hr) w) : TE (RoundQ y v C1 H1 Cr Hr idb Cb Hb) .ret n v L H := fun a w _ hs => ⟨hC, X, hX, hH w hs⟩
theorem TE.roundB {y : Nat} {C1 Cr Cb : Prop} {H1 Hr Hb : List Ent} {idb : Nat} (hC : Cb) (X : List Ent) (hX : ∀ e ∈ X, y ≤ e.g) (hH : ∀ w, St v H w → St v (X ++ Hb) w) : TE (RoundQ y v C1 H1 Cr Hr idb Cb Hb) (.exit idb) n v L H := fun a w _ hs => ⟨rfl, hC, X, hX, hH w hs⟩
theorem TC.range {g : Operand} {p : Tmp} {assign body : Code} {gf : FuncId} {lb : List Value} {V : Nat → Value} {N c : Nat} {Cap : Nat → Prop}
  (hmd : n.md = .plain) (hds : n.ds = []) (hp : inside n (some p) = true) (hg : ev L g = some (.func (.func gf) #[] lb.toArray)) (hent : Enters P gf)
  (hit : ∀ w, St w0 H w → IterC Fence.wide 2 P gf lb.toArray (fun i => #[V i]) N c Cap w)
  (C : Nat → Prop) (Hi : Nat → List Ent) (HC : List Ent) (La : Nat → Nat → List (Nat × Value)) (Ha : Nat → Nat → List Ent)
  (Cr : Nat → Prop) (Hr : Nat → List Ent) (idb : Nat) (Cb : Nat → Prop) (Hb : Nat → List Ent)
  (hC0 : C 0) (h0 : ∀ w, St w0 H w → St w0 (Hi 0 ++ HC) w)
  (hgs : ∀ i, (Hi i).map (·.g) = (Hi 0).map (·.g)) (hgr : ∀ i, (Hr i).map (·.g) = (Hi 0).map (·.g)) (hgb : ∀ i, (Hb i).map (·.g) = (Hi 0).map (·.g))
  (hcap : ∀ w, St w0 H w → ∀ k, Cap k → k < w.heap.size ∧ ∀ e ∈ Hi 0, e.g ≠ k)
  (hHa : ∀ i y, ∀ e ∈ Ha i y, y ≤ e.g)
  (hassign : ∀ l i v, i < N → C i → St w0 (Hi i ++ HC) v → TC P (Exit.then (AxP v (La i) (Ha i) (Hi i) ⟨n.size, [], .inn (some l)⟩) (fun _ _ _ => False)) ⟨n.size, [], .inn (some l)⟩ v assign ((p, V i) :: L) (Hi i))
  (hbody : ∀ l i y v, i < N → C i → w0.heap.size ≤ y → y ≤ v.heap.size → St w0 (Ha i y ++ (Hi i ++ HC)) v →
   TC P (RoundQ y v (C (i + 1)) (Hi (i + 1)) (Cr (i + 1)) (Hr (i + 1)) idb (Cb (i + 1)) (Hb (i + 1))) ⟨n.size, [], .inn (some l)⟩ v body (La i y) (Ha i y ++ Hi i))
  (hdone : ∀ D W, C N → St w0 (Hi N ++ HC) W → MarkAt w0 W D ((Hi 0 ++ HC).map (·.g)) → TE Q .normal ⟨n.size, [mark D], .plain⟩ W L (Hi N ++ HC))
  (hret : ∀ D W i, i < N → Cr (i + 1) → St w0 (Hr (i + 1) ++ HC) W → MarkAt w0 W D ((Hi 0 ++ HC).map (·.g)) → TE Q .ret ⟨n.size, [mark D], .plain⟩ W L (Hr (i + 1) ++ HC))
  (hbrk : ∀ D W i, i < N → Cb (i + 1) → St w0 (Hb (i + 1) ++ HC) W → MarkAt w0 W D ((Hi 0 ++ HC).map (·.g)) → TE Q (.exit idb) ⟨n.size, [mark D], .plain⟩ W L (Hb (i + 1) ++ HC)) :
  TC P Q n w0 (.rangeFunc g #[p] assign body) L H := by
 intro a w hf hs
 have hall := h0 w hs
 have hltI : ∀ e ∈ Hi 0, e.g < w.heap.size := fun e he => (hall.has e (List.mem_append.2 (.inl he))).lt
 have hltC : ∀ e ∈ HC, e.g < w.heap.size := fun e he => (hall.has e (List.mem_append.2 (.inr he))).lt
 have ltG : ∀ {Hx : List Ent}, Hx.map (·.g) = (Hi 0).map (·.g) → ∀ e ∈ Hx, e.g < w.heap.size := fun hx e he => by
  obtain ⟨d, hd, h⟩ := gs_mem hx e he
  rw [← h]; exact hltI d hd
 have capG : ∀ {Hx : List Ent}, Hx.map (·.g) = (Hi 0).map (·.g) → ∀ k, Cap k → ∀ e ∈ Hx, e.g ≠ k := fun hx k hk e he => by
  obtain ⟨d, hd, h⟩ := gs_mem hx e he
  rw [← h]; exact (hcap w hs k hk).2 d hd
 have apG : ∀ {Hx : List Ent}, Hx.map (·.g) = (Hi 0).map (·.g) → ∀ e ∈ Hx, ∀ d ∈ HC, e.g ≠ d.g := fun hx e he d hd => by
  obtain ⟨e', he', h⟩ := gs_mem hx e he
  rw [← h]; exact (List.pairwise_append.1 hall.apart).2.2 e' he' d hd
 have hsz := hs.size
 rw [hmd]
 have fin : ∀ {W : World}, W.heap[w.heap.size]? = some (.deferred (some [])) → MarkAt w0 W w.heap.size ((Hi 0 ++ HC).map (·.g)) := fun hD => ⟨hsz, hD, fun x hx => by
  obtain ⟨e, he, rfl⟩ := List.mem_map.1 hx
  rcases List.mem_append.1 he with he | he
  ·have := hltI e he; omega
  ·have := hltC e he; omega⟩
 have frM : ∀ D, Fr ⟨n.size, [mark D], .plain⟩ L { a with defers := { target := .collected D, args := #[] } :: a.defers } := fun D => ⟨by show _ :: a.defers = _; rw [hf.1, hds]; rfl, hf.2⟩
 refine wpIn_wide.1 (wpIn_rangeFunc_it (F := Fence.wide) (n := 3) (w0 := w) rfl (by omega) (gf := gf) (lb := lb.toArray) (hf.eval hg) trivial (fun args w => run_call hent args w) (hit w hs) (Below.refl _ _) (fun k hk => (hcap w hs k hk).1) (fun _ => rfl)
  (fun i W => C i ∧ St w0 (Hi i ++ HC) W)
  (fun j i W => match j with
   | .ret => Cr i ∧ St w0 (Hr i ++ HC) W
   | .exit id => id = idb ∧ Cb i ∧ St w0 (Hb i ++ HC) W
   | _ => False)
  (fun i a W => ∃ y, w.heap.size + 2 + c ≤ y ∧ y ≤ W.heap.size ∧ Fr ⟨n.size, [], .plain⟩ (La i y) a ∧ C i ∧ St w0 (Ha i y ++ (Hi i ++ HC)) W)
  ?hI ?hIx ?hAx ⟨hC0, hall⟩ ?assign ?body ?done ?stop)
 case hI =>
  rintro i A B ⟨h1, h2⟩ hb
  refine ⟨h1, h2.besides hb (fun e he => ?_) hsz⟩
  rcases List.mem_append.1 he with he | he
  ·exact .inl (ltG (hgs i) e he)
  ·exact .inl (hltC e he)
 case hIx =>
  rintro j i A B h hb
  have step : ∀ {Hx : List Ent}, Hx.map (·.g) = (Hi 0).map (·.g) → St w0 (Hx ++ HC) A → St w0 (Hx ++ HC) B := fun hx h2 => h2.besides hb (fun e he => by
   rcases List.mem_append.1 he with he | he
   ·exact .inl (ltG hx e he)
   ·exact .inl (hltC e he)) hsz
  cases j with
  | ret => exact ⟨h.1, step (hgr i) h.2⟩
  | exit id => exact ⟨h.1, h.2.1, step (hgb i) h.2.2⟩
  | _ => exact h.elim
 case hAx =>
  rintro i a' A B ⟨y, hy, hyA, hfr, hC, h2⟩ hb
  refine ⟨y, hy, Nat.le_trans hyA hb.size, hfr, hC, h2.besides hb (fun e he => ?_) hsz⟩
  rcases List.mem_append.1 he with he | he
  ·exact .inr (Nat.le_trans hy (hHa i y e he))
  ·rcases List.mem_append.1 he with he | he
   ·exact .inl (ltG (hgs i) e he)
   ·exact .inl (hltC e he)
 case assign =>
  rintro l i W hiN ⟨hC, hSt⟩ hWs
  have hfr : Fr ⟨n.size, [], .inn (some l)⟩ ((p, V i) :: L) { tmps := ((#[p] : Array Tmp).zip #[V i]).foldl (fun t (p, v) => t.setIfInBounds p v) a.tmps, defers := [] } := by
   have h := hf.put (some p) (V i) hp
   refine ⟨rfl, ?_, ?_⟩
   ·simpa [Act.put] using h.2.1
   ·have h3 := h.2.2
    unfold Proofs.YtegddcklbmonfaaGreatDoor.put at h3
    simpa [Act.put] using h3
  have h := hassign l i W hiN hC hSt _ W hfr hSt.self1
  refine wpIn_mono (wpIn_num (F := Fence.wide.inRound l) rfl (m := 2) h) ?_
  intro e a1 W1 hq
  cases e with
  | normal =>
   obtain ⟨y, hy, hyW, hfr1, hst⟩ := hq
   refine ⟨⟨y, by omega, hyW, ⟨hfr1.1, hfr1.2⟩, hC, ?_⟩, hst.size, ?_⟩
   ·have := St.over hSt hst (fun e he d hd => by
     rcases List.mem_append.1 he with he | he
     ·have h1 := hHa i y e he
      have h2 := hltC d hd
      omega
     ·exact apG (hgs i) e he d hd) (fun d hd => .inr ⟨d, List.mem_append.2 (.inr hd), rfl⟩)
    rw [List.append_assoc] at this
    exact this
   ·intro k hk hkW
    refine hst.old k hkW fun e he => ?_
    rcases List.mem_append.1 he with he | he
    ·have h1 := hHa i y e he
     omega
    ·rcases hk with hk | hk
     ·have := ltG (hgs i) e he; omega
     ·exact capG (hgs i) k hk e he
  | _ => exact hq.elim
 case body =>
  rintro l i a1 W hiN ⟨y, hy, hyW, hfr, hC, hSt⟩ hWs
  have hSt' : St w0 ((Ha i y ++ Hi i) ++ HC) W := by rw [List.append_assoc]; exact hSt
  have h := hbody l i y W hiN hC (by omega) hyW hSt a1 W ⟨hfr.1, hfr.2⟩ hSt'.self1
  refine wpIn_mono (wpIn_num (F := Fence.wide.inRound l) rfl (m := 2) h) ?_
  have keep : ∀ {Hx X : List Ent} {W' : World}, Hx.map (·.g) = (Hi 0).map (·.g) → (∀ e ∈ X, y ≤ e.g) → St W (X ++ Hx) W' →
    Holds (fun k => (w.heap.size ≤ k ∧ k < w.heap.size + 2 + c) ∨ Cap k) W W' ∧ w.heap.size + 2 + c ≤ W'.heap.size ∧ St w0 (Hx ++ HC) W' := fun {Hx X W'} hx hX hst => by
   refine ⟨fun k hk hkW => hst.old k hkW fun e he => ?_, Nat.le_trans hWs hst.size, ?_⟩
   ·rcases List.mem_append.1 he with he | he
    ·have h1 := hX e he
     rcases hk with hk | hk
     ·omega
     ·have := (hcap w hs k hk).1; omega
    ·rcases hk with hk | hk
     ·have := ltG hx e he; omega
     ·exact capG hx k hk e he
   ·have := St.over hSt' hst (fun e he d hd => by
     rcases List.mem_append.1 he with he | he
     ·have h1 := hX e he
      have h2 := hltC d hd
      omega
     ·exact apG hx e he d hd) (fun d hd => by
     rcases List.mem_append.1 hd with hd | hd
     ·have := hHa i y d hd
      exact .inl (by omega)
     ·have hdm : d.g ∈ Hx.map (·.g) := by rw [hx, ← hgs i]; exact List.mem_map_of_mem hd
      obtain ⟨e, he, h⟩ := List.mem_map.1 hdm
      exact .inr ⟨e, List.mem_append.2 (.inr he), h⟩)
    rw [List.append_assoc] at this
    exact zL X this fun e he => by have := hX e he; omega
  intro e a2 W2 hq
  cases e with
  | normal =>
   obtain ⟨h1, X, hX, h2⟩ := hq
   have ⟨k1, kz, k2⟩ := keep (hgs (i + 1)) hX h2
   exact ⟨k1, kz, h1, k2⟩
  | ret =>
   obtain ⟨h1, X, hX, h2⟩ := hq
   have ⟨k1, kz, k2⟩ := keep (hgr (i + 1)) hX h2
   exact ⟨k1, kz, h1, k2⟩
  | exit id =>
   obtain ⟨h0, h1, X, hX, h2⟩ := hq
   have ⟨k1, kz, k2⟩ := keep (hgb (i + 1)) hX h2
   exact ⟨k1, kz, h0, h1, k2⟩
  | _ => exact hq.elim
 case done =>
  rintro W ⟨h1, h2⟩ hD
  exact hdone _ W h1 h2 (fin hD) _ W (frM _) h2.self
 case stop =>
  rintro j i W hiN h hD
  cases j with
  | ret => exact wpIn_ret (hret _ W i hiN h.1 h.2 (fin hD) _ W (frM _) h.2.self)
  | exit id =>
   obtain ⟨rfl, h1, h2⟩ := h
   exact wpIn_exit (hbrk _ W i hiN h1 h2 (fin hD) _ W (frM _) h2.self)
  | _ => exact h.elim
theorem calls_fromM {f : FuncId} {fn : Func} {c : Code} {args : List Value} {R : Ending → World → Prop} {N : Nat} (hf : P.funcs[f]? = some fn) (hb : fn.body = some c) (hN : fn.ntmps = N) (hl : args.length ≤ N)
  (h : TC P (bodyPostM Fence.wide 2 P fn R) ⟨N, [], .plain⟩ w c (args.zipIdx.map fun x => (x.2, x.1)) []) : Calls P f args.toArray w R := by
 subst hN
 exact callsIn_wide.1 (callsIn_of_wp_marks (n := 2) hf hb trivial (wpIn_wide.2 (h _ w (fr_args hl) (zE w))) rfl)
theorem callsIn_from {f : FuncId} {fn : Func} {c : Code} {args : List Value} {R : Ending → World → Prop} {N : Nat} (hf : P.funcs[f]? = some fn) (hb : fn.body = some c) (hN : fn.ntmps = N) (hl : args.length ≤ N)
  (h : TC P (bodyPost P fn R) ⟨N, [], .inn none⟩ w c (args.zipIdx.map fun x => (x.2, x.1)) []) : CallsIn Fence.wide 2 P f args.toArray w R := by
 subst hN
 exact callsIn_of_wp hf hb trivial (h _ w (fr_args hl) (zE w)) rfl
theorem TE.markR {fn : Func} {R : Ending → World → Prop} {D : Nat} {H0 H : List Ent} {gs : List Nat} (hm : MarkAt w0 W D gs) (hW : St w0 H0 W) (hgs : ∀ e ∈ H0, w0.heap.size ≤ e.g) (hov : ∀ e ∈ H, W.heap.size ≤ e.g ∨ e.g ∈ gs)
  (h : TE (bodyPost P fn R) ex ⟨n.size, [], .plain⟩ w0 L H) (hex : ex = .ret ∨ ex = .normal) : TE (bodyPostM Fence.wide 2 P fn R) ex ⟨n.size, [mark D], .plain⟩ W L H := by
 intro a w hf hs
 have hDW : D < W.heap.size := (Array.getElem?_eq_some_iff.1 hm.here).1
 have hne : ∀ e ∈ H, e.g ≠ D := fun e he => by
  rcases hov e he with h1 | h1
  ·omega
  ·exact hm.ne _ h1
 have hD : w.heap[D]? = some (.deferred (some [])) := (hs.old D hDW hne).trans hm.here
 have h1 : St w0 H w := by
  have := St.over (A := H0) (HC := []) (by rw [List.append_nil]; exact hW) hs (fun _ _ d hd => by cases hd) (fun d hd => .inl (hgs d hd))
  rwa [List.append_nil] at this
 have h2 : St w0 H (w.putObj D (.deferred none)) := ⟨h1.os, h1.tape, h1.output, by simpa using h1.size, fun e he => (h1.has e he).of_block (World.putObj_heap_other (hne e he)),
  fun b hb hneb => (World.putObj_heap_other (by have := hm.new; omega)).trans (h1.old b hb hneb), h1.apart⟩
 have h3 := h { a with defers := [] } _ ⟨rfl, hf.2⟩ h2
 have key : LeavesInM Fence.wide 2 P fn a.tmps R a.defers .returning w := by
  rw [hf.1]
  refine ⟨by simp, .inl ⟨D, _, rfl, run_takeDeferred hD, ?_⟩⟩
  rcases hex with rfl | rfl
  ·exact h3.2
  ·exact h3.2
 rcases hex with rfl | rfl
 ·exact key
 ·exact key
theorem TL.yield {l t : Nat} {xs : List Operand} {vs : List Value} {ts : Array TypeId} {T U : World → Prop} (hmd : n.md = .inn none) (hg : Wants n ops L o) (hi : inside n o.dst = true)
  (ho : o.op = .call { callee := .value (.tmp t), args := xs.toArray, argTypes := ts }) (ht : look L t = some (.func (.yield l) #[] #[])) (hx : evs L xs = some vs)
  (hy : ∀ w, St w0 H w → YieldAt Fence.wide 1 P l vs.toArray w fun e w' => (e = .returned (.bool true) ∧ T w') ∨ (e = .returned (.bool false) ∧ U w'))
  (h1 : ∀ v, T v → TL P ops Q n v rest (put L o.dst (.bool true)) []) (h2 : ∀ v, U v → TL P ops Q n v rest (put L o.dst (.bool false)) []) : TL P ops Q n w0 (o :: rest) L H := by
 intro a w hf hs
 obtain ⟨fn, tmps, assign, body, hyl, hr⟩ := hy w hs
 have h1' : ∀ v, T v → wpL n.md P ops Q rest (a.put o.dst (.bool true)) v := fun v hv => h1 v hv _ v (hf.put o.dst _ hi) (zE v)
 have h2' : ∀ v, U v → wpL n.md P ops Q rest (a.put o.dst (.bool false)) v := fun v hv => h2 v hv _ v (hf.put o.dst _ hi) (zE v)
 rw [hmd] at h1' h2' ⊢
 have hm := hf.evals hx
 have hev : a.eval (.tmp t) = .func (.yield l) #[] #[] := hf.eval (x := .tmp t) ht
 have hrun : (execOp a.eval o).run P w = .ok (.round l fn tmps assign body) w := by
  simp only [execOp, ho, resolve, hev, Deferred.ofValue, Sem.run_bind, Sem.run_pure, Result.andThen_ok, List.map_toArray, hm, invoke]
  simpa using hyl
 refine wpListIn_step fun K hK => ?_
 rw [if_pos (hg a hf)]
 refine ⟨fun _ _ => trivial, ?_⟩
 have hsem : (o.semAt (wideAt none).round a.eval).run P w = .ok (.round l fn tmps assign body) w := hrun
 rw [hsem]
 refine ⟨fun hd => by simp [wideAt, Fence.wide] at hd, ?_⟩
 refine RoundIn.mono (R := fun e w' => (e = .returned (.bool true) ∧ T w') ∨ (e = .returned (.bool false) ∧ U w')) ?_ ?_
 ·exact hr
 ·rintro e w' (⟨rfl, hT⟩ | ⟨rfl, hU⟩)
  ·exact hK _ _ (h1' w' hT)
  ·exact hK _ _ (h2' w' hU)
def BackW {ι : Type} (n : Sz) (Wi : ι → World) (Li : ι → List (Nat × Value)) (Hi : ι → List Ent) (μ : ι → Nat) (C : ι → Prop) (m : Nat) (a : Act) (w : World) : Prop :=
 ∃ i, μ i < m ∧ C i ∧ Fr n (Li i) a ∧ St (Wi i) (Hi i) w
theorem TE.backW {ι : Type} {Wi : ι → World} {Li : ι → List (Nat × Value)} {Hi : ι → List Ent} {μ : ι → Nat} {C : ι → Prop} {m : Nat} (i : ι) (hμ : μ i < m) (hC : C i) (hs : Sub (Li i) L) (hH : ∀ w, St w0 H w → St (Wi i) (Hi i) w) :
  TE (Exit.then (BackW n Wi Li Hi μ C m) Q) .normal n w0 L H := fun a w hf hst => ⟨i, hμ, hC, hf.sub hs, hH w hst⟩
theorem TC.loopW {ι : Type} (Wi : ι → World) (Li : ι → List (Nat × Value)) (Hi : ι → List Ent) (μ : ι → Nat) (C : ι → Prop) (i0 : ι) {c : Code} (hC : C i0) (hs : Sub (Li i0) L) (hH : ∀ w, St w0 H w → St (Wi i0) (Hi i0) w)
  (round : ∀ i, C i → TC P (Exit.then (BackW n Wi Li Hi μ C (μ i)) Q) n (Wi i) c (Li i) (Hi i)) : TC P Q n w0 (.loop c) L H := by
 intro a w hf hst
 let p : Act → World → Nat → Prop := fun a w m => ∃ i, μ i = m ∧ C i ∧ Fr n (Li i) a ∧ St (Wi i) (Hi i) w
 let M : Act → World → Nat := fun a w => leastOf (p a w)
 have hM : ∀ a w i, C i → Fr n (Li i) a → St (Wi i) (Hi i) w → M a w ≤ μ i := fun a w i h1 h2 h3 => (leastOf_spec (p := p a w) ⟨i, rfl, h1, h2, h3⟩).2 _ ⟨i, rfl, h1, h2, h3⟩
 refine wpn_loop (fun a w => ∃ i, C i ∧ Fr n (Li i) a ∧ St (Wi i) (Hi i) w) M ⟨i0, hC, hf.sub hs, hH w hst⟩ ?_
 rintro a w ⟨i, h1, h2, h3⟩
 obtain ⟨i', e', c', f', s'⟩ := (leastOf_spec (p := p a w) ⟨i, rfl, h1, h2, h3⟩).1
 have hMe : M a w = μ i' := e'.symm
 refine wpn_mono (round i' c' a w f' s') ?_
 intro e a2 w2 hq
 cases e with
 | normal =>
  obtain ⟨j, hj, hCj, hfj, hsj⟩ := hq
  refine ⟨⟨j, hCj, hfj, hsj⟩, ?_⟩
  have := hM a2 w2 j hCj hfj hsj
  omega
 | _ => exact hq
theorem run_enterF {f : FuncId} {t : Nat} {lb : List Value} {xs : List Operand} {ts : Array TypeId} {vs : List Value} {a : Act} {w : World} (h : Enters P f) (ho : o.op = .call { callee := .value (.tmp t), args := xs.toArray, argTypes := ts }) (hf : Fr n L a)
  (ht : look L t = some (.func (.func f) #[] lb.toArray)) (hx : evs L xs = some vs) : (execOp a.eval o).run P w = .ok (.enter f (vs ++ lb).toArray) w := by
 have hm := hf.evals hx
 have hev : a.eval (.tmp t) = .func (.func f) #[] lb.toArray := hf.eval (x := .tmp t) ht
 simp only [execOp, ho, resolve, hev, Deferred.ofValue, Sem.run_bind, Sem.run_pure, Result.andThen_ok, List.map_toArray, hm, invoke]
 simp [run_call h]
theorem TL.callF {ι : Type} {f : FuncId} {t : Nat} {lb : List Value} {xs : List Operand} {ts : Array TypeId} {vs : List Value} {V : ι → Value} {R : ι → Prop} {H' : ι → List Ent} (hg : Wants n ops L o) (hi : inside n o.dst = true) (h : Enters P f)
  (ho : o.op = .call { callee := .value (.tmp t), args := xs.toArray, argTypes := ts }) (ht : look L t = some (.func (.func f) #[] lb.toArray)) (hx : evs L xs = some vs)
  (hc : ∀ w, St w0 H w → Calls P f (vs ++ lb).toArray w fun e w' => ∃ i, e = .returned (V i) ∧ R i ∧ St w0 (H' i) w')
  (hr : ∀ i, R i → TL P ops Q n w0 rest (put L o.dst (V i)) (H' i)) : TL P ops Q n w0 (o :: rest) L H :=
 fun a w hf hs => wpL_wants hg.nd (hg a hf) fun K hK => by
  unfold Oper.wp; rw [run_enterF h ho hf ht hx]
  refine (hc w hs).mono ?_
  rintro e w' ⟨i, rfl, hR, hs'⟩
  exact hK _ _ (hr i hR _ _ (hf.put o.dst _ hi) hs')
theorem TL.call0F {f : FuncId} {t : Nat} {lb : List Value} {xs : List Operand} {ts : Array TypeId} {vs : List Value} {u : Value} (hg : Wants n ops L o) (hi : inside n o.dst = true) (h : Enters P f)
  (ho : o.op = .call { callee := .value (.tmp t), args := xs.toArray, argTypes := ts }) (ht : look L t = some (.func (.func f) #[] lb.toArray)) (hx : evs L xs = some vs)
  (hc : ∀ w, St w0 H w → Calls P f (vs ++ lb).toArray w fun e w' => e = .returned u ∧ St w [] w')
  (hr : TL P ops Q n w0 rest (put L o.dst u) H) : TL P ops Q n w0 (o :: rest) L H :=
 TL.callF (ι := Unit) (V := fun _ => u) (R := fun _ => True) (H' := fun _ => H) hg hi h ho ht hx (fun w hs => (hc w hs).mono fun e w' ⟨he, hw⟩ => ⟨(), he, trivial, hs.call' hw⟩) fun _ _ => hr
theorem Gets.makeFunc {fn : Fn} {xs ys : List Operand} {us vs : List Value} (ho : o.op = .makeFunc fn xs.toArray ys.toArray) (hx : evs L xs = some us) (hy : evs L ys = some vs) : Gets P n w0 o L H (.func fn us.toArray vs.toArray) := fun a w hf hs => by
 have h1 := hf.evals hx
 have h2 := hf.evals hy
 simp only [execOp, ho, List.map_toArray, h1, h2]
 rfl
end
section
variable {P : Program} {ops : Array Oper} {md : Region.Mode} {w0 : World} {HB : List Ent}
def compatT (i j : Nat) : Bool :=
 match j with
 | 0 => Nat.beq i 0
 | 3 => Nat.beq i 0 || Nat.beq i 3 || Nat.beq i 7
 | 7 => Nat.beq i 0
 | _ => false
def pairOKT (md : Region.Mode) (ops : Array Oper) (ks ms : List Nat) (i j : Nat) : Bool :=
 !Nat.beq i j &&
 ((ms.getD j 0).testBit i || (match ops[i]? with
  | some oi => (match ops[j]? with | some oj => oi.apart ops oj && compatT (ks.getD i 2) (ks.getD j 2) | none => true)
  | none => true)) &&
 (match ops[i]? with | some oi => oi.after.all (fun e => !Region.binds md e || !Nat.beq e.on j) | none => true)
def mixOKt (md : Region.Mode) (ops : Array Oper) (ks p : List Nat) : Bool :=
 Region.noSelect ops && Nat.beq p.length ops.size && ((List.range ops.size).all fun q => p.any (Nat.beq q)) &&
 (let ms := masks md ops
  p.all (fun i => decide (i < ops.size) && (match ops[i]? with | some oi => oi.after.all (fun e => !Region.binds md e || (!Nat.beq e.on i && decide (e.on < ops.size))) | none => true)) &&
  pairsOK (pairOKT md ops ks ms) p)
def PairT (md : Region.Mode) (ops : Array Oper) (ks : List Nat) (i j : Nat) : Prop :=
 i ≠ j ∧ (∀ oi oj, ops[i]? = some oi → ops[j]? = some oj → Before md ops j i ∨ (oi.apart ops oj = true ∧ compatT (ks.getD i 2) (ks.getD j 2) = true)) ∧
 ∀ oi, ops[i]? = some oi → ∀ e ∈ oi.after, Region.binds md e = true → e.on ≠ j
theorem pairOKT_spec {ks : List Nat} {i j : Nat} (h : pairOKT md ops ks (masks md ops) i j = true) : PairT md ops ks i j := by
 unfold pairOKT at h
 simp only [Bool.and_eq_true, Bool.or_eq_true, Bool.not_eq_true'] at h
 obtain ⟨⟨h1, h2⟩, h3⟩ := h
 refine ⟨nbeq_ne h1, fun oi oj hi hj => ?_, fun oi hi e he hb => ?_⟩
 ·rcases h2 with h2 | h2
  ·exact .inl (masks_spec h2)
  ·rw [hi, hj] at h2
   simp only [Bool.and_eq_true] at h2
   exact .inr h2
 ·rw [hi] at h3
  simp only [Array.all_eq_true_iff_forall_mem, Bool.or_eq_true, Bool.not_eq_true'] at h3
  exact nbeq_ne ((h3 e he).resolve_left (by simp [hb]))
theorem mixOKt_spec {ks p : List Nat} (h : mixOKt md ops ks p = true) : Region.noSelect ops = true ∧ p.length = ops.size ∧ (∀ q, q < ops.size → q ∈ p) ∧
  (∀ i ∈ p, i < ops.size ∧ ∀ oi, ops[i]? = some oi → ∀ e ∈ oi.after, Region.binds md e = true → e.on ≠ i ∧ e.on < ops.size) ∧ p.Pairwise (PairT md ops ks) := by
 unfold mixOKt at h
 simp only [Bool.and_eq_true, List.all_eq_true, decide_eq_true_eq] at h
 obtain ⟨⟨⟨h1, h2⟩, h7⟩, h3, h4⟩ := h
 refine ⟨h1, Nat.eq_of_beq_eq_true h2, fun q hq => ?_, fun i hi => ⟨(h3 i hi).1, fun oi hoi e he hb => ?_⟩, (pairsOK_spec h4).imp pairOKT_spec⟩
 ·obtain ⟨r, hr, hqr⟩ := List.any_eq_true.1 (h7 q (List.mem_range.2 hq))
  rw [Nat.eq_of_beq_eq_true hqr]; exact hr
 have h5 := (h3 i hi).2
 rw [hoi] at h5
 simp only [Array.all_eq_true_iff_forall_mem, Bool.or_eq_true, Bool.and_eq_true, Bool.not_eq_true', decide_eq_true_eq] at h5
 have h6 := (h5 e he).resolve_left (by simp [hb])
 exact ⟨nbeq_ne h6.1, h6.2⟩
def ChangesL (P : Program) (ops : Array Oper) (w0 : World) (HB X0 Z : List Ent) (o : Oper) (a : Act) (R : Value → List Ent → Prop) (w : World) : Prop :=
 ((∃ v E w', (execOp a.eval o).run P w = .ok (.value v) w' ∧ R v E ∧ Fresh w0 E ∧ St w0 (HB ++ ((X0 ++ E) ++ Z)) w') ∨
  (∃ E w', o.dst = none ∧ (execOp a.eval o).run P w = .ok .skip w' ∧ R undef E ∧ Fresh w0 E ∧ St w0 (HB ++ ((X0 ++ E) ++ Z)) w') ∨
  (∃ f vs, (execOp a.eval o).run P w = .ok (.enter f vs) w ∧ Calls P f vs w fun e w'' => ∃ v E, e = .returned v ∧ R v E ∧ Fresh w0 E ∧ St w0 (HB ++ ((X0 ++ E) ++ Z)) w'')) ∧ Region.wanted o (yielded ops a.tmps) = true
theorem ChangesL.of_same {X0 Z : List Ent} {o : Oper} {a a' : Act} {w : World} {R : Value → List Ent → Prop} (h : ChangesL P ops w0 HB X0 Z o a R w) (he : execOp a'.eval o = execOp a.eval o)
  (hw : Region.wanted o (yielded ops a'.tmps) = Region.wanted o (yielded ops a.tmps)) : ChangesL P ops w0 HB X0 Z o a' R w := by
 unfold ChangesL at *; rw [he, hw]; exact h
theorem ChangesL.one {X0 Z : List Ent} {o : Oper} {a : Act} {w : World} {R : Value → List Ent → Prop} (h : ChangesL P ops w0 HB X0 Z o a R w) : ∃ v E w', R v E ∧ Fresh w0 E ∧ St w0 (HB ++ ((X0 ++ E) ++ Z)) w' := by
 rcases h.1 with ⟨v, E, w', _, h1, h2, h3⟩ | ⟨E, w', _, _, h1, h2, h3⟩ | ⟨f, vs, _, hc⟩
 ·exact ⟨v, E, w', h1, h2, h3⟩
 ·exact ⟨_, E, w', h1, h2, h3⟩
 ·obtain ⟨e, w', fr, ⟨v, E, _, h1, h2, h3⟩, _⟩ := hc []
  exact ⟨v, E, w', h1, h2, h3⟩
theorem ChangesL.perm {X0 Z X0' Z' : List Ent} {o : Oper} {a : Act} {w : World} {R : Value → List Ent → Prop} (h : ChangesL P ops w0 HB X0 Z o a R w) (hp : ∀ E, ((X0 ++ E) ++ Z).Perm ((X0' ++ E) ++ Z')) : ChangesL P ops w0 HB X0' Z' o a R w := by
 refine ⟨?_, h.2⟩
 rcases h.1 with ⟨v, E, w', h0, h1, h2, h3⟩ | ⟨E, w', hd, h0, h1, h2, h3⟩ | ⟨f, vs, h0, hc⟩
 ·exact .inl ⟨v, E, w', h0, h1, h2, h3.perm (List.Perm.append_left HB (hp E))⟩
 ·exact .inr (.inl ⟨E, w', hd, h0, h1, h2, h3.perm (List.Perm.append_left HB (hp E))⟩)
 ·refine .inr (.inr ⟨f, vs, h0, hc.mono ?_⟩)
  rintro e w' ⟨v, E, he, h1, h2, h3⟩
  exact ⟨v, E, he, h1, h2, h3.perm (List.Perm.append_left HB (hp E))⟩
def MixT (P : Program) (ops : Array Oper) (w0 : World) (HB : List Ent) (K : Nat → Nat) (RR : Nat → Value → List Ent → Prop) (T : Act → World → Prop) : List Nat → Act → List Ent → Prop
 | [], a, X => ∀ w, St w0 (HB ++ X) w → T a w
 | i :: is, a, X => ∃ o, ops[i]? = some o ∧ (
   (K i = 0 ∧ ∃ v, Val P ops w0 HB 0 [] o v a ∧ MixT P ops w0 HB K RR T is (a.put o.dst v) X) ∨
   (K i = 3 ∧ (∀ Z w, Fresh w0 Z → St w0 (HB ++ Z) w → MakesL P ops o a (RR i) w) ∧ ∀ v E, Fresh w0 E → RR i v E → MixT P ops w0 HB K RR T is (a.put o.dst v) (X ++ E)) ∨
   (K i = 7 ∧ ∃ X0 Y, X.Perm (X0 ++ Y) ∧ (∀ Z w, Fresh w0 Z → St w0 (HB ++ ((X0 ++ Y) ++ Z)) w → ChangesL P ops w0 HB X0 Z o a (RR i) w) ∧ ∀ v E, Fresh w0 E → RR i v E → MixT P ops w0 HB K RR T is (a.put o.dst v) (X0 ++ E)))
theorem MixT.perm {K : Nat → Nat} {RR : Nat → Value → List Ent → Prop} {T : Act → World → Prop} : ∀ (is : List Nat) (a : Act) (X X' : List Ent), X.Perm X' → MixT P ops w0 HB K RR T is a X → MixT P ops w0 HB K RR T is a X'
 | [], a, X, X', hp, h => fun w hs => h w (hs.perm (List.Perm.append_left HB hp.symm))
 | i :: is, a, X, X', hp, h => by
  obtain ⟨o, ho, h⟩ := h
  refine ⟨o, ho, ?_⟩
  rcases h with ⟨h1, v, h2, h3⟩ | ⟨h1, h2, h3⟩ | ⟨h1, X0, Y, hXY, h2, h3⟩
  ·exact .inl ⟨h1, v, h2, MixT.perm is _ X X' hp h3⟩
  ·exact .inr (.inl ⟨h1, h2, fun v E hE hR => MixT.perm is _ _ _ (List.Perm.append_right E hp) (h3 v E hE hR)⟩)
  ·exact .inr (.inr ⟨h1, X0, Y, hp.symm.trans hXY, h2, h3⟩)
theorem compatT_0 {i : Nat} (h : compatT i 0 = true) : i = 0 := Nat.eq_of_beq_eq_true h
theorem compatT_7 {i : Nat} (h : compatT i 7 = true) : i = 0 := Nat.eq_of_beq_eq_true h
theorem MixT.first0 {K : Nat → Nat} {RR : Nat → Value → List Ent → Prop} {T : Act → World → Prop} (hsel : ∀ (j : Nat) (o : Oper) cs b, ops[j]? = some o → o.op ≠ .select cs b) {j : Nat} {oj : Oper} (hj : ops[j]? = some oj) (hk : K j = 0) (post : List Nat) :
  ∀ (pre : List Nat) (a : Act) (X : List Ent), (∀ i oi, i ∈ pre → ops[i]? = some oi → oi.apart ops oj = true ∧ compatT (K i) (K j) = true) → MixT P ops w0 HB K RR T (pre ++ j :: post) a X →
   ∃ v, Val P ops w0 HB 0 [] oj v a ∧ MixT P ops w0 HB K RR T (pre ++ post) (a.put oj.dst v) X
 | [], a, X, _, h => by
  obtain ⟨o, ho, h⟩ := h
  rw [hj] at ho; cases ho
  rcases h with ⟨_, v, h2, h3⟩ | ⟨h1, _⟩ | ⟨h1, _⟩
  ·exact ⟨v, h2, h3⟩
  ·omega
  ·omega
 | i :: pre, a, X, hap, h => by
  obtain ⟨oi, hi, h⟩ := h
  obtain ⟨hap1, hcomp⟩ := hap i oi List.mem_cons_self hi
  obtain ⟨h1, h2, h3⟩ := Oper.apart_spec hap1
  have hap' := fun k ok hk => hap k ok (List.mem_cons_of_mem _ hk)
  rw [hk] at hcomp
  have hc := compatT_0 hcomp
  rcases h with ⟨hki, vi, hf, hs⟩ | ⟨hki, _⟩ | ⟨hki, _⟩
  ·obtain ⟨vj, hfj, hsj⟩ := MixT.first0 hsel hj hk post pre (a.put oi.dst vi) X hap' hs
   exact ⟨vj, hfj.of_same (execOp_put oj (fun cs b => hsel j oj cs b hj) a oi.dst vi h1).symm (wanted_put oj a oi.dst vi h1).symm, oi, hi,
    .inl ⟨hki, vi, hf.of_same (execOp_put oi (fun cs b => hsel i oi cs b hi) a oj.dst vj h3) (wanted_put oi a oj.dst vj h3), by rw [← Act.put_comm a vi vj h2]; exact hsj⟩⟩
  ·omega
  ·omega
theorem MixT.first7 {K : Nat → Nat} {RR : Nat → Value → List Ent → Prop} {T : Act → World → Prop} (hsel : ∀ (j : Nat) (o : Oper) cs b, ops[j]? = some o → o.op ≠ .select cs b) {j : Nat} {oj : Oper} (hj : ops[j]? = some oj) (hk : K j = 7) (post : List Nat) :
  ∀ (pre : List Nat) (a : Act) (X : List Ent), (∀ i oi, i ∈ pre → ops[i]? = some oi → oi.apart ops oj = true ∧ compatT (K i) (K j) = true) → MixT P ops w0 HB K RR T (pre ++ j :: post) a X →
   ∃ X0 Y, X.Perm (X0 ++ Y) ∧ (∀ Z w, Fresh w0 Z → St w0 (HB ++ ((X0 ++ Y) ++ Z)) w → ChangesL P ops w0 HB X0 Z oj a (RR j) w) ∧ ∀ v E, Fresh w0 E → RR j v E → MixT P ops w0 HB K RR T (pre ++ post) (a.put oj.dst v) (X0 ++ E)
 | [], a, X, _, h => by
  obtain ⟨o, ho, h⟩ := h
  rw [hj] at ho; cases ho
  rcases h with ⟨h1, _⟩ | ⟨h1, _⟩ | ⟨_, h2⟩
  ·omega
  ·omega
  ·exact h2
 | i :: pre, a, X, hap, h => by
  obtain ⟨oi, hi, h⟩ := h
  obtain ⟨hap1, hcomp⟩ := hap i oi List.mem_cons_self hi
  obtain ⟨h1, h2, h3⟩ := Oper.apart_spec hap1
  have hap' := fun k ok hk => hap k ok (List.mem_cons_of_mem _ hk)
  rw [hk] at hcomp
  have hc := compatT_7 hcomp
  rcases h with ⟨hki, vi, hf, hs⟩ | ⟨hki, _⟩ | ⟨hki, _⟩
  ·obtain ⟨X0, Y, hp, hch, hr⟩ := MixT.first7 hsel hj hk post pre (a.put oi.dst vi) X hap' hs
   exact ⟨X0, Y, hp, fun Z w hZ hst => (hch Z w hZ hst).of_same (execOp_put oj (fun cs b => hsel j oj cs b hj) a oi.dst vi h1).symm (wanted_put oj a oi.dst vi h1).symm, fun v E hE hR => ⟨oi, hi,
    .inl ⟨hki, vi, hf.of_same (execOp_put oi (fun cs b => hsel i oi cs b hi) a oj.dst v h3) (wanted_put oi a oj.dst v h3), by rw [← Act.put_comm a vi v h2]; exact hr v E hE hR⟩⟩⟩
  ·omega
  ·omega
theorem MixT.first3 {K : Nat → Nat} {RR : Nat → Value → List Ent → Prop} {T : Act → World → Prop} (hsel : ∀ (j : Nat) (o : Oper) cs b, ops[j]? = some o → o.op ≠ .select cs b) {j : Nat} {oj : Oper} (hj : ops[j]? = some oj) (hk : K j = 3) (post : List Nat) :
  ∀ (pre : List Nat) (a : Act) (X : List Ent), (∀ i oi, i ∈ pre → ops[i]? = some oi → oi.apart ops oj = true ∧ compatT (K i) (K j) = true) → MixT P ops w0 HB K RR T (pre ++ j :: post) a X →
   ((∃ Z w, Fresh w0 (X ++ Z) ∧ St w0 (HB ++ (X ++ Z)) w) → ∀ Z w, Fresh w0 Z → St w0 (HB ++ Z) w → MakesL P ops oj a (RR j) w) ∧
    ∀ v E, Fresh w0 E → RR j v E → MixT P ops w0 HB K RR T (pre ++ post) (a.put oj.dst v) (X ++ E)
 | [], a, X, _, h => by
  obtain ⟨o, ho, h⟩ := h
  rw [hj] at ho; cases ho
  rcases h with ⟨h1, _⟩ | ⟨_, h2, h3⟩ | ⟨h1, _⟩
  ·omega
  ·exact ⟨fun _ => h2, h3⟩
  ·omega
 | i :: pre, a, X, hap, h => by
  obtain ⟨oi, hi, h⟩ := h
  obtain ⟨hap1, hcomp⟩ := hap i oi List.mem_cons_self hi
  obtain ⟨h1, h2, h3⟩ := Oper.apart_spec hap1
  have hap' := fun k ok hk => hap k ok (List.mem_cons_of_mem _ hk)
  have ej := fun v => (execOp_put oj (fun cs b => hsel j oj cs b hj) a oi.dst v h1).symm
  have wj := fun v => (wanted_put oj a oi.dst v h1).symm
  have ei := fun v => execOp_put oi (fun cs b => hsel i oi cs b hi) a oj.dst v h3
  have wi := fun v => wanted_put oi a oj.dst v h3
  rcases h with ⟨hki, vi, hf, hs⟩ | ⟨hki, hm, hs⟩ | ⟨hki, X0, Y, hp, hch, hs⟩
  ·obtain ⟨hmj, hsj⟩ := MixT.first3 hsel hj hk post pre (a.put oi.dst vi) X hap' hs
   refine ⟨fun hex Z w hZ hst => (hmj hex Z w hZ hst).of_same (ej vi) (wj vi), fun v E hE hR => ⟨oi, hi, .inl ⟨hki, vi, ?_, ?_⟩⟩⟩
   ·exact hf.of_same (ei v) (wi v)
   ·rw [← Act.put_comm a vi v h2]; exact hsj v E hE hR
  ·have rec_ := fun v E (hE : Fresh w0 E) (hR : RR i v E) => MixT.first3 hsel hj hk post pre (a.put oi.dst v) (X ++ E) hap' (hs v E hE hR)
   refine ⟨fun hex Z w hZ hst => ?_, fun v E hE hR => ⟨oi, hi, .inr (.inl ⟨hki, fun Z w hZ hst => (hm Z w hZ hst).of_same (ei v) (wi v), fun vi Ei hEi hRi => ?_⟩)⟩⟩
   ·obtain ⟨Z1, w1, hZ1, hs1⟩ := hex
    obtain ⟨vi, Ei, w', hRi, hEi, hst'⟩ := (hm (X ++ Z1) w1 hZ1 hs1).one
    have hEi0 : Fresh w0 Ei := fun e he => Nat.le_trans hs1.size (hEi e he)
    have hall := st_call hs1 hst' hEi
    have hex' : ∃ Z w, Fresh w0 ((X ++ Ei) ++ Z) ∧ St w0 (HB ++ ((X ++ Ei) ++ Z)) w := by
     refine ⟨Z1, w', fun e he => ?_, hall.perm ?_⟩
     ·simp only [List.append_assoc, List.mem_append] at he
      rcases he with he | he | he
      ·exact hZ1 e (List.mem_append.2 (.inl he))
      ·exact hEi0 e he
      ·exact hZ1 e (List.mem_append.2 (.inr he))
     ·simp only [List.append_assoc]
      exact List.Perm.append_left HB (List.Perm.append_left X List.perm_append_comm)
    exact ((rec_ vi Ei hEi0 hRi).1 hex' Z w hZ hst).of_same (ej vi) (wj vi)
   ·have := (rec_ vi Ei hEi hRi).2 v E hE hR
    rw [Act.put_comm a vi v h2] at this
    refine MixT.perm _ _ _ _ ?_ this
    rw [List.append_assoc, List.append_assoc]
    exact List.Perm.append_left X List.perm_append_comm
  ·have rec_ := fun v E (hE : Fresh w0 E) (hR : RR i v E) => MixT.first3 hsel hj hk post pre (a.put oi.dst v) (X0 ++ E) hap' (hs v E hE hR)
   refine ⟨fun hex Z w hZ hst => ?_, fun v E hE hR => ⟨oi, hi, .inr (.inr ⟨hki, X0 ++ E, Y, ?_, fun Z w hZ hst => ?_, fun vi Ei hEi hRi => ?_⟩)⟩⟩
   ·obtain ⟨Z1, w1, hZ1, hs1⟩ := hex
    have hZ1' : Fresh w0 Z1 := fun e he => hZ1 e (List.mem_append.2 (.inr he))
    obtain ⟨vi, Ei, w', hRi, hEi, hst'⟩ := (hch Z1 w1 hZ1' (hs1.perm (List.Perm.append_left HB (List.Perm.append_right Z1 hp)))).one
    have hX0 : Fresh w0 X0 := fun e he => hZ1 e (List.mem_append.2 (.inl (hp.mem_iff.2 (List.mem_append.2 (.inl he)))))
    exact ((rec_ vi Ei hEi hRi).1 ⟨Z1, w', (hX0.app hEi).app hZ1', hst'⟩ Z w hZ hst).of_same (ej vi) (wj vi)
   ·refine (List.Perm.append_right E hp).trans ?_
    rw [List.append_assoc, List.append_assoc]
    exact List.Perm.append_left X0 List.perm_append_comm
   ·have hc := hch (E ++ Z) w (hE.app hZ) (hst.perm (List.Perm.append_left HB (by
     simp only [List.append_assoc]
     refine List.Perm.append_left X0 ?_
     rw [← List.append_assoc, ← List.append_assoc]
     exact List.Perm.append_right Z List.perm_append_comm)))
    refine (hc.of_same (ei v) (wi v)).perm fun F => ?_
    simp only [List.append_assoc]
    refine List.Perm.append_left X0 ?_
    rw [← List.append_assoc, ← List.append_assoc]
    exact List.Perm.append_right Z List.perm_append_comm
   ·have := (rec_ vi Ei hEi hRi).2 v E hE hR
    rw [Act.put_comm a vi v h2] at this
    refine MixT.perm _ _ _ _ ?_ this
    rw [List.append_assoc, List.append_assoc]
    exact List.Perm.append_left X0 List.perm_append_comm
theorem wpAny_of_mixT {Q : Exit → Act → World → Prop} {RR : Nat → Value → List Ent → Prop} {ks p : List Nat} (hks : ∀ i ∈ p, ks.getD i 2 = 0 ∨ ks.getD i 2 = 3 ∨ ks.getD i 2 = 7) (hns : Region.noSelect ops = true) (hself : ∀ i ∈ p, i < ops.size ∧ ∀ oi, ops[i]? = some oi → ∀ e ∈ oi.after, Region.binds md e = true → e.on ≠ i ∧ e.on < ops.size) :
  ∀ (n : Nat) (is : List Nat) (listed : Array Bool) (a : Act) (w : World) (X : List Ent), is.length = n → is.Pairwise (PairT md ops ks) → (∀ i ∈ is, i ∈ p) → Lists ops.size md ops is listed → MixT P ops w0 HB (ks.getD · 2) RR (Q .normal) is a X → Fresh w0 X → St w0 (HB ++ X) w →
   wpAny P md ops Q n listed a w := by
 have hsel := Region.noSelect_spec hns
 intro n
 induction n with
 | zero =>
  intro is listed a w X hlen _ _ hl hs hX hS
  obtain rfl : is = [] := List.length_eq_zero_iff.1 hlen
  refine wpAny_done ?_ (hs w hS) 0
  rw [List.eq_nil_iff_forall_not_mem]
  intro j hj
  obtain ⟨hjun, oj, hoj, _⟩ := mem_ready.1 hj
  have hjs : j < ops.size := (Array.getElem?_eq_some_iff.1 hoj).1
  have := (hl.2.1 j hjs).1 hjun
  simp at this
  omega
 | succ n ih =>
  intro is listed a w X hlen hpw hlt hl hs hX hS
  have hnd : is.Nodup := hpw.imp (fun h => h.1)
  refine ⟨fun hnone => ?_, fun j hj => ?_⟩
  ·exfalso
   obtain ⟨i, is', rfl⟩ : ∃ i is', is = i :: is' := by
    cases is with
    | nil => simp at hlen
    | cons i is' => exact ⟨i, is', rfl⟩
   obtain ⟨him, hafter⟩ := hself i (hlt i List.mem_cons_self)
   have hi : ops[i]? = some ops[i] := Array.getElem?_eq_getElem him
   have hmem : i ∈ Region.ready md ops listed := by
    rw [mem_ready]
    refine ⟨(hl.2.1 i him).2 (.inl List.mem_cons_self), _, hi, fun e he hb => ?_⟩
    obtain ⟨hne, hon⟩ := hafter _ hi e he hb
    rw [getD_false_of (by rw [hl.1]; exact hon), hl.2.1 e.on hon]
    rintro (h | h)
    ·rcases List.mem_cons.1 h with h | h
     ·exact hne h
     ·exact ((List.pairwise_cons.1 hpw).1 _ h).2.2 _ hi e he hb rfl
    ·omega
   rw [hnone] at hmem
   cases hmem
  ·obtain ⟨hjun, oj, hoj, hall⟩ := mem_ready.1 hj
   have hjs : j < ops.size := (Array.getElem?_eq_some_iff.1 hoj).1
   have hnw : ∀ i ∈ is, ¬ Before md ops j i := fun i hi hw => by
    have h1 := hw listed hl.2.2 (fun o ho' e he hb => by rw [hoj] at ho'; cases ho'; exact hall e he hb)
    have him := (hself i (hlt i hi)).1
    exact (getD_false_of (by rw [hl.1]; omega)).1 h1 ((hl.2.1 i him).2 (.inl hi))
   have hjin : j ∈ is := by
    rcases (hl.2.1 j hjs).1 hjun with h | h
    ·exact h
    ·omega
   obtain ⟨pre, post, rfl⟩ := List.append_of_mem hjin
   have hap : ∀ i oi, i ∈ pre → ops[i]? = some oi → oi.apart ops oj = true ∧ compatT (ks.getD i 2) (ks.getD j 2) = true := fun i oi hi hoi => by
    have hij := (List.pairwise_append.1 hpw).2.2 i hi j List.mem_cons_self
    rcases hij.2.1 oi oj hoi hoj with hw | hap
    ·exact absurd hw (hnw i (by simp [hi]))
    ·exact hap
   have hsub : (pre ++ post).Sublist (pre ++ j :: post) := List.Sublist.append_left (List.sublist_cons_self _ _) _
   have next := fun a' w' X' => ih (pre ++ post) (listed.setIfInBounds j true) a' w' X' (by simp at hlen ⊢; omega) (hpw.sublist hsub) (fun i hi => hlt i (hsub.subset hi)) (hl.next rfl hnd hjs (Nat.le_refl _) hj)
   rcases hks j (hlt j hjin) with hk | hk | hk
   ·obtain ⟨vj, hf, hs'⟩ := MixT.first0 (K := (ks.getD · 2)) hsel hoj hk post pre a X hap hs
    have hfix : Fixed P ops (St w0 (HB ++ X)) oj vj a := by
     have := hf X hX
     rw [if_pos rfl] at this; exact this
    exact hfix.wpOp hoj hS fun w' hS' => next _ w' X hs' hX hS'
   ·obtain ⟨hf, hs'⟩ := MixT.first3 (K := (ks.getD · 2)) hsel hoj hk post pre a X hap hs
    have hmk : MakesL P ops oj a (RR j) w := hf ⟨[], w, by rw [List.append_nil]; exact hX, by rw [List.append_nil]; exact hS⟩ X w hX hS
    obtain ⟨hr, hw⟩ := hmk
    unfold Go.wpOp
    simp only [hoj, hw, if_true, Oper.wp]
    refine .inl ?_
    have go : ∀ v E w', RR j v E → Fresh w E → St w E w' → wpAny P md ops Q n (listed.setIfInBounds j true) (a.put oj.dst v) w' := fun v E w' hR hE hw' => by
     have hE0 : Fresh w0 E := fun e he => Nat.le_trans hS.size (hE e he)
     refine next _ w' _ (hs' v E hE0 hR) (hX.app hE0) ?_
     rw [← List.append_assoc]
     exact st_call hS hw' hE
    rcases hr with ⟨v, E, w', hr, hR, hE, hw'⟩ | ⟨f, vs, hr, hc⟩
    ·rw [hr]; exact go v E w' hR hE hw'
    ·rw [hr]
     refine hc.mono ?_
     rintro e w'' ⟨v, E, rfl, hR, hE, hw'⟩
     exact go v E w'' hR hE hw'
   ·obtain ⟨X0, Y, hp, hch, hs'⟩ := MixT.first7 (K := (ks.getD · 2)) hsel hoj hk post pre a X hap hs
    have hX0 : Fresh w0 X0 := fun e he => hX e (hp.mem_iff.2 (List.mem_append.2 (.inl he)))
    obtain ⟨hr, hw⟩ := hch [] w qa (by rw [List.append_nil]; exact hS.perm (List.Perm.append_left HB hp))
    unfold Go.wpOp
    simp only [hoj, hw, if_true, Oper.wp]
    refine .inl ?_
    rcases hr with ⟨v, E, w', hr, hR, hE, hst⟩ | ⟨E, w', hd, hr, hR, hE, hst⟩ | ⟨f, vs, hr, hc⟩
    ·rw [hr]
     rw [List.append_nil] at hst
     exact next _ w' _ (hs' v E hE hR) (hX0.app hE) hst
    ·rw [hr]
     rw [List.append_nil] at hst
     have := next _ w' _ (hs' _ E hE hR) (hX0.app hE) hst
     simpa [Oper.upon_skip, hd, Act.put] using this
    ·rw [hr]
     refine hc.mono ?_
     rintro e w'' ⟨v, E, rfl, hR, hE, hst⟩
     rw [List.append_nil] at hst
     exact next _ w'' _ (hs' v E hE hR) (hX0.app hE) hst
def MixMT (P : Program) (ops : Array Oper) (w0 : World) (HB : List Ent) (T : Act → World → Prop) : List Nat → List (Value → List Ent → Prop) → List Oper → Act → List Ent → Prop
 | [], [], [], a, X => ∀ w, St w0 (HB ++ X) w → T a w
 | k :: ks, r :: rs, o :: rest, a, X => (k = 0 ∧ ∃ v, Val P ops w0 HB 0 [] o v a ∧ MixMT P ops w0 HB T ks rs rest (a.put o.dst v) X) ∨
   (k = 3 ∧ (∀ Z w, Fresh w0 Z → St w0 (HB ++ Z) w → MakesL P ops o a r w) ∧ ∀ v E, Fresh w0 E → r v E → MixMT P ops w0 HB T ks rs rest (a.put o.dst v) (X ++ E)) ∨
   (k = 7 ∧ ∃ X0 Y, X.Perm (X0 ++ Y) ∧ (∀ Z w, Fresh w0 Z → St w0 (HB ++ ((X0 ++ Y) ++ Z)) w → ChangesL P ops w0 HB X0 Z o a r w) ∧ ∀ v E, Fresh w0 E → r v E → MixMT P ops w0 HB T ks rs rest (a.put o.dst v) (X0 ++ E))
 | _, _, _, _, _ => False
theorem MixMT.seqp {T : Act → World → Prop} {l : List Oper} {ks : List Nat} {rs : List (Value → List Ent → Prop)} : ∀ (p : List Nat) (a : Act) (X : List Ent), (∀ i ∈ p, i < l.length) → MixMT P l.toArray w0 HB T (pickK ks p) (pickRL rs p) (pickO l p) a X →
  MixT P l.toArray w0 HB (ks.getD · 2) (rs.getD · (fun _ _ => False)) T p a X
 | [], _, _, _, h => h
 | i :: is, a, X, hp, h => by
  have hlt := hp i List.mem_cons_self
  have hi : l[i]? = some l[i] := List.getElem?_eq_getElem hlt
  unfold pickO pickK pickRL at h
  rw [hi] at h
  have rec_ : ∀ a X, MixMT P l.toArray w0 HB T (pickK ks is) (pickRL rs is) (pickO l is) a X → MixT P l.toArray w0 HB (ks.getD · 2) (rs.getD · (fun _ _ => False)) T is a X := fun a X h => MixMT.seqp is a X (fun j hj => hp j (List.mem_cons_of_mem _ hj)) h
  refine ⟨l[i], by rw [List.getElem?_toArray]; exact hi, ?_⟩
  rcases h with ⟨h1, v, h2, h3⟩ | ⟨h1, h2, h3⟩ | ⟨h1, X0, Y, hq, h2, h3⟩
  ·exact .inl ⟨h1, v, h2, rec_ _ _ h3⟩
  ·exact .inr (.inl ⟨h1, h2, fun v E hE hR => rec_ _ _ (h3 v E hE hR)⟩)
  ·exact .inr (.inr ⟨h1, X0, Y, hq, h2, fun v E hE hR => rec_ _ _ (h3 v E hE hR)⟩)
def kindsOKT (ks p : List Nat) : Bool := p.all fun i => Nat.beq (ks.getD i 2) 0 || (Nat.beq (ks.getD i 2) 3 || Nat.beq (ks.getD i 2) 7)
theorem kindsOKT_spec {ks p : List Nat} (h : kindsOKT ks p = true) : ∀ i ∈ p, ks.getD i 2 = 0 ∨ ks.getD i 2 = 3 ∨ ks.getD i 2 = 7 := fun i hi => by
 unfold kindsOKT at h
 have := List.all_eq_true.1 h i hi
 simp only [Bool.or_eq_true] at this
 rcases this with h1 | h1 | h1
 ·exact .inl (Nat.eq_of_beq_eq_true h1)
 ·exact .inr (.inl (Nat.eq_of_beq_eq_true h1))
 ·exact .inr (.inr (Nat.eq_of_beq_eq_true h1))
theorem wp_mixT {md0 : Md} {Q : Exit → Act → World → Prop} {id : Nat} {l : List Oper} {a : Act} {w : World} {X : List Ent} (hmix : P.follows .mixedOrders = true) (ks p : List Nat) (rs : List (Value → List Ent → Prop)) (hks : kindsOKT ks p = true) (ho : mixOKt .any l.toArray ks p = true)
  (hX : Fresh w0 X) (hS : St w0 (HB ++ X) w.drew) (h : MixMT P l.toArray w0 HB (Q .normal) (pickK ks p) (pickRL rs p) (pickO l p) a X) (hok : OkR md0 l.toArray Q) : wpn md0 P (Code.region id l.toArray true) Q a w := by
 refine wpnFrom_start hok hmix ?_
 intro listed hl
 have hsz : l.toArray.size = l.length := by simp
 obtain ⟨hns, hlen, hall, hself, hpw⟩ := mixOKt_spec ho
 have := wpAny_of_mixT (P := P) (Q := Q) (ks := ks) (kindsOKT_spec hks) hns hself l.length p listed a w.drew X (hlen.trans hsz) hpw (fun i hi => hi)
  ⟨hl.1, fun q hq => by
   rw [hl.2.1 q hq]
   have := hall q hq
   simp [this], hl.2.2⟩ (MixMT.seqp p a X (fun i hi => by rw [← hsz]; exact (hself i hi).1) h) hX hS
 rw [hsz, Nat.sub_zero]
 exact this
end
section
variable {P : Program} {ops : Array Oper} {Q : Exit → Act → World → Prop} {n : Sz} {w0 : World} {L L' : List (Nat × Value)} {HB X D : List Ent}
variable {o : Oper} {rest : List Oper} {v u : Value} {x y z : Operand} {k m j : Nat} {t t' e : TypeId} {ks : List Nat} {kd : IntKind} {r : Value → List Ent → Prop} {rs : List (Value → List Ent → Prop)}
def TT (P : Program) (ops : Array Oper) (Q : Exit → Act → World → Prop) (n : Sz) (w0 : World) (HB : List Ent) (ks : List Nat) (rs : List (Value → List Ent → Prop)) (rest : List Oper) (L : List (Nat × Value)) (X : List Ent) : Prop :=
 ∀ a, Fr n L a → MixMT P ops w0 HB (Q .normal) ks rs rest a X
theorem TC.mixT {id : Nat} {l : List Oper} {H : List Ent} (HB X : List Ent) (hmix : P.follows .mixedOrders = true) (ks p : List Nat) (rs : List (Value → List Ent → Prop)) (hks : kindsOKT ks p = true) (ho : mixOKt .any l.toArray ks p = true) (hp : H.Perm (HB ++ X)) (hX : Fresh w0 X)
  (h : TT P l.toArray Q n w0 HB (pickK ks p) (pickRL rs p) (pickO l p) L X) (hok : OkR n.md l.toArray Q := by exact trivial) : TC P Q n w0 (.region id l.toArray true) L H :=
 fun a w hf hs => wp_mixT hmix ks p rs hks ho hX (hs.perm hp).drew (h a hf) hok
theorem TT.nil (h : TE Q .normal n w0 L (HB ++ X)) : TT P ops Q n w0 HB [] [] [] L X := fun a hf w hs => h a w hf hs
theorem TT.free (hg : Wants n ops L o) (hi : inside n o.dst = true) (h : ∀ Z, Fresh w0 Z → Gets P n w0 o L (HB ++ Z) v) (hr : TT P ops Q n w0 HB ks rs rest (put L o.dst v) X) : TT P ops Q n w0 HB (0 :: ks) (r :: rs) (o :: rest) L X :=
 fun a hf => .inl ⟨rfl, v, fun Z hZ => .inl ⟨hg a hf, fun w hS => by rw [if_pos rfl] at hS ⊢; rw [h Z hZ a w hf hS]; exact ⟨rfl, hS⟩⟩, hr _ (hf.put o.dst v hi)⟩
theorem TT.buildSlice {len s : Nat} {ps : List (Nat × Operand)} {vs : List (Nat × Value)} {cells : Array Value} {cs : List Value} {zv : Value} (hg : Wants n ops L o) (hi : inside n o.dst = true) (ho : o.op = .buildSlice t len ps.toArray)
  (h1 : P.underlying t = some (.slice e)) (hsz : (P.info? e).map (·.size) = some s) (hz : (P.info? e).bind (·.zero) = some zv) (hv : operVals L ps = some vs) (hlen : len * s ≤ 2 ^ 24) (hpos : (len * s = 0) = False)
  {tot : Nat} (hfill : Instr.fill (fun i => some (i * s, s)) ((Array.range (len * s)).map (zv.cells[· % zv.cells.size]!)) vs = some cells) (hcs : cells.toList = cs) (htot : cs.length = tot)
  (hr : ∀ g, w0.heap.size ≤ g → TT P ops Q n w0 HB ks rs rest (put L o.dst (.slice (some ⟨g, 0, none⟩) len len)) (X ++ [⟨g, e, cs, tot⟩])) :
  TT P ops Q n w0 HB (3 :: ks) ((fun v d => ∃ g, v = .slice (some ⟨g, 0, none⟩) len len ∧ d = [⟨g, e, cs, tot⟩]) :: rs) (o :: rest) L X :=
 fun a hf => .inr (.inl ⟨rfl, fun Z w hZ hs => by
  have hrun : (execOp a.eval o).run P w = .ok (.value (.slice (some ⟨w.heap.size, 0, none⟩) len len)) (w.alloc (.cells cells e)) := by
   have hm := operVals_eval hf hv
   have hm2 : (ps.map fun (x : Nat × Operand) => match x with | (i, x) => (i, a.eval x)) = vs := hm
   simp only [execOp, ho]
   refine run_value ?_
   simp only [Instr.buildSlice, Sem.run_bind, run_under h1, Result.andThen_ok, run_size hsz, List.map_toArray, hm2]
   rw [if_neg (by omega), if_neg (by simp [hpos])]
   simp only [Sem.run_bind, run_zero hz, Result.andThen_ok, Sem.run_pure, hfill]
   simp [newRow, newObj, Sem.run_bind, Sem.run]
  subst htot
  exact ⟨.inl ⟨_, _, _, hrun, ⟨_, rfl, rfl⟩, fresh_one (Nat.le_refl _), (zE w).alloc e cs cells hcs⟩, hg a hf⟩,
  fun v d hE ⟨g, h2, h3⟩ => by subst h2; subst h3; exact hr g (fresh_head hE) _ (hf.put o.dst _ hi)⟩)
theorem TT.emptySlice {s : Nat} (hg : Wants n ops L o) (hi : inside n o.dst = true) (ho : o.op = .buildSlice t 0 #[]) (h1 : P.underlying t = some (.slice e)) (hsz : (P.info? e).map (·.size) = some s)
  (hr : ∀ g, w0.heap.size ≤ g → TT P ops Q n w0 HB ks rs rest (put L o.dst (.slice (some ⟨g, 0, none⟩) 0 0)) (X ++ [⟨g, e, [], 0⟩])) :
  TT P ops Q n w0 HB (3 :: ks) ((fun v d => ∃ g, v = .slice (some ⟨g, 0, none⟩) 0 0 ∧ d = [⟨g, e, [], 0⟩]) :: rs) (o :: rest) L X :=
 fun a hf => .inr (.inl ⟨rfl, fun Z w hZ hs => by
  have hrun : (execOp a.eval o).run P w = .ok (.value (.slice (some ⟨w.heap.size, 0, none⟩) 0 0)) (w.alloc (.cells #[] e)) := by
   simp only [execOp, ho]
   refine run_value ?_
   have hr0 : Array.range 0 = #[] := rfl
   simp [Instr.buildSlice, Sem.run_bind, run_under h1, run_size hsz, Instr.fill, newRow, newObj, Sem.run, hr0]
  exact ⟨.inl ⟨_, _, _, hrun, ⟨_, rfl, rfl⟩, fresh_one (Nat.le_refl _), (zE w).alloc e [] #[] rfl⟩, hg a hf⟩,
  fun v d hE ⟨g, h2, h3⟩ => by subst h2; subst h3; exact hr g (fresh_head hE) _ (hf.put o.dst _ hi)⟩)
theorem TT.reads (hg : Wants n ops L o) (hi : inside n o.dst = true) (hX : Fresh w0 X) (h : ∀ Z, Fresh w0 Z → Gets P n w0 o L (HB ++ (X ++ Z)) v) (hr : TT P ops Q n w0 HB ks rs rest (put L o.dst v) X) :
  TT P ops Q n w0 HB (7 :: ks) ((fun u d => u = v ∧ d = []) :: rs) (o :: rest) L X :=
 fun a hf => .inr (.inr ⟨rfl, X, [], by rw [List.append_nil], fun Z w hZ hs => by
  rw [List.append_nil] at hs
  exact ⟨.inl ⟨v, [], w, h Z hZ a w hf hs, ⟨rfl, rfl⟩, qa, by rw [List.append_nil]; exact hs⟩, hg a hf⟩, fun u d _ ⟨h1, h2⟩ => by subst h1; subst h2; rw [List.append_nil]; exact hr _ (hf.put o.dst _ hi)⟩)
end
end Go.Proofs.YtegddcklbmonfaaGreatDoor
