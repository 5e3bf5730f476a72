/-
  The reference: schedule.
-/
import Derived.Test.YtdcphpmkhekghaaDoorShaR
import Derived.Test.YtdcphpmkhekghaaDoorMix3
namespace Go.Proofs.YtdcphpmkhekghaaDoor
set_option linter.unusedVariables false
set_option linter.unusedSimpArgs false
open Go Go.RowKit
theorem enters35 : Enters Tryd.prog 35 := ⟨_, Tryd.func35, by kernel_rfl, by kernel_rfl⟩
theorem mk48 : (Tryd.prog.info? 48).map (fun i => (i.zero, i.size, i.bytes)) = some (some (.int .u32 0), 1, 4) := by kernel_rfl
theorem zero48 : (Tryd.prog.info? 48).bind (·.zero) = some (.int .u32 0) := by kernel_rfl

/-- The reference's words: 16 of the block, then by the words before. -/
def wordN (B L : List Int) (t : Nat) : Int := addW .u32 (addW .u32 (addW .u32 (sig1 (L.getD (t + 14) 0)) (L.getD (t + 9) 0)) (sig0 (L.getD (t + 1) 0))) (L.getD t 0)
def schA (B : List Int) : Nat → List Int
  | 0 => []
  | k + 1 => schA B k ++ [wordAt B k]
def schB (B : List Int) : Nat → List Int
  | 0 => schA B 16
  | t + 1 => schB B t ++ [wordN B (schB B t) t]
theorem schA_len (B : List Int) : ∀ k, (schA B k).length = k
  | 0 => rfl
  | k + 1 => by simp [schA, schA_len B k]
theorem schB_len (B : List Int) : ∀ k, (schB B k).length = 16 + k
  | 0 => schA_len B 16
  | k + 1 => by simp [schB, schB_len B k]; omega
theorem w16_schA (B : List Int) : ∀ k, k ≤ 16 → w16 B k = schA B k ++ List.replicate (64 - k) 0
  | 0, _ => by simp [w16, schA]
  | k + 1, h => by
    have ih := w16_schA B k (by omega)
    have hl := schA_len B k
    simp only [w16, schA, ih]
    rw [show 64 - k = (64 - (k + 1)) + 1 by omega, List.replicate_succ, List.set_append_right _ _ (by omega), hl, Nat.sub_self, List.set_cons_zero]
    simp
theorem getD_app {l r : List Int} {i : Nat} (h : i < l.length) : (l ++ r).getD i 0 = l.getD i 0 := by
  simp [List.getD_eq_getElem?_getD, List.getElem?_append, h]
theorem sch_schB (B : List Int) : ∀ k, k ≤ 48 → sch (w16 B 16) k = schB B k ++ List.replicate (48 - k) 0
  | 0, _ => by rw [show sch (w16 B 16) 0 = w16 B 16 from rfl, w16_schA B 16 (Nat.le_refl _)]; rfl
  | k + 1, h => by
    have ih := sch_schB B k (by omega)
    have hl := schB_len B k
    simp only [sch, schB, ih, wordN]
    rw [show 48 - k = (48 - (k + 1)) + 1 by omega, List.replicate_succ]
    rw [getD_app (by omega), getD_app (by omega), getD_app (by omega), getD_app (by omega)]
    rw [List.set_append_right _ _ (by omega), hl, show k + 16 - (16 + k) = 0 by omega, List.set_cons_zero]
    simp
attribute [local irreducible] wordN
structure WV where
  k : Nat
  v : Value
  He : List Ent
structure WG where
  k : Nat
  g : Nat
  c : Nat

theorem sched_schB (B : List Int) : sched B = schB B 48 := by
  have := sch_schB B 48 (Nat.le_refl _)
  simp only [Nat.sub_self, List.replicate_zero, List.append_nil] at this
  rw [← this]; unfold sched; rfl

set_option maxRecDepth 100000 in
set_option maxHeartbeats 400000 in
theorem rschedule_c (B : List Int) (b off cap : Nat) (w : World) (hb : b < w.heap.size) (hB : RowI w b off 64 .u8 B) (hcap : 64 ≤ cap) : Calls Tryd.prog 31 #[.slice (some ⟨b, off, none⟩) 64 cap] w fun e w' => ∃ v He, e = .returned v ∧ Own w.heap.size 48 .u32 v (sched B) He ∧ St w He w' := by
  refine calls_from (args := [.slice (some ⟨b, off, none⟩) 64 cap]) Tryd.func31 rfl Tryd.ntmps31 (by simp) ?_
  refine TC.sub (Sub.cons (i := 0) rfl (Sub.nil)) ?_
  refine TC.seq ?_
  refine TC.regionL ?_
  refine TL.gets (Wants.none rfl) rfl (Gets.assign rfl rfl) ?_
  refine TL.nil ?_
  refine TE.then ?_
  refine TC.seq ?_
  refine TC.regionL ?_
  refine TL.gets (Wants.none rfl) rfl (Gets.assign rfl rfl) ?_
  refine TL.nil ?_
  refine TE.then ?_
  refine TC.seq ?_
  refine TC.seq ?_
  refine TC.regionL ?_
  refine TL.gets (Wants.none rfl) rfl (Gets.assign rfl rfl) ?_
  refine TL.nil ?_
  refine TE.then ?_
  refine TC.block ?_
  refine TC.loop (ι := WV) (fun x => [(0, .slice (some ⟨b, off, none⟩) 64 cap), (3, x.v), (4, .int .i64 (x.k : Int))]) (fun x => [] ++ x.He) (fun x => 16 - x.k) (fun x => Own w.heap.size 48 .u32 x.v (schA B x.k) x.He ∧ x.k ≤ 16) (⟨0, .slice none 0 0, []⟩ : WV) ⟨Own.nil _ _ _, by show 0 ≤ 16; omega⟩ (Sub.slice (i := 0) rfl rfl (by first | omega | (dsimp only; omega) | rfl) (by first | omega | (dsimp only; omega) | rfl) (Sub.cons (i := 3) rfl (Sub.int (i := 4) rfl (by first | omega | rfl) (Sub.nil)))) (fun w h => h) (fun x hC0 => ?_)
  obtain ⟨k, v, He⟩ := x
  obtain ⟨hown, hC2⟩ := hC0
  dsimp only at hown hC2 ⊢
  refine TC.seq ?_
  refine TC.seq ?_
  refine TC.regionL ?_
  refine TL.gets (Wants.none rfl) rfl (Gets.move rfl rfl) ?_
  refine TL.gets (Wants.none rfl) rfl (Gets.lss rfl rfl rfl) ?_
  refine TL.nil ?_
  refine TE.then ?_
  refine TC.split rfl (fun hq0 => ?_) (fun hq0 => ?_)
  · refine TC.skip ?_
    refine TE.then ?_
    refine TC.seq ?_
    refine TC.block ?_
    refine TC.mix3 (by kernel_rfl) [0, 0, 0, 0, 0, 1, 1, 0, 0, 0, 0, 0, 0, 1, 1, 0, 0, 0, 0, 0, 0, 0, 1, 1, 0, 0, 0, 0, 0, 0, 0, 1, 1, 0, 3, 3, 0] rfl (by kernel_rfl) ?_
    refine TN.free (Wants.none rfl) rfl (fun _ => Gets.move rfl rfl) ?_
    refine TN.free (Wants.none rfl) rfl (fun _ => Gets.move rfl rfl) ?_
    refine TN.free (Wants.none rfl) rfl (fun _ => Gets.move rfl rfl) ?_
    refine TN.free (Wants.none rfl) rfl (fun _ => Gets.mul rfl rfl rfl (r := (4 * (k : Int))) (w64 (by omega) (by omega))) ?_
    refine TN.free (Wants.none rfl) rfl (fun _ => Gets.idxSlice rfl Tryd.underlying22 size5 rfl rfl (i := (4 * k)) (by omega) (by omega) (off' := (off + 4 * k)) (by omega)) ?_
    refine TN.gets (Wants.none rfl) rfl (Gets.load1 rfl agg5 rfl (At.rowI hB (i := (4 * k)) (by omega) (by omega) hb (ne_app ne_nil (hown.ne hb)))) ?_
    refine TN.gets (Wants.none rfl) rfl (Gets.conv rfl Tryd.underlying5 Tryd.underlying48 rfl (r := (IntKind.u32.wrap (B.getD (4 * k) 0))) rfl) ?_
    refine TN.free (Wants.none rfl) rfl (fun _ => Gets.shl rfl rfl rfl (by omega) (r := (shlI .u32 (IntKind.u32.wrap (B.getD (4 * k) 0)) 24)) rfl) ?_
    refine TN.free (Wants.none rfl) rfl (fun _ => Gets.move rfl rfl) ?_
    refine TN.free (Wants.none rfl) rfl (fun _ => Gets.move rfl rfl) ?_
    refine TN.free (Wants.none rfl) rfl (fun _ => Gets.mul rfl rfl rfl (r := (4 * (k : Int))) (w64 (by omega) (by omega))) ?_
    refine TN.free (Wants.none rfl) rfl (fun _ => Gets.add rfl rfl rfl (r := (4 * (k : Int) + 1)) (w64 (by omega) (by omega))) ?_
    refine TN.free (Wants.none rfl) rfl (fun _ => Gets.idxSlice rfl Tryd.underlying22 size5 rfl rfl (i := (4 * k + 1)) (by omega) (by omega) (off' := (off + 4 * k + 1)) (by omega)) ?_
    refine TN.gets (Wants.none rfl) rfl (Gets.load1 rfl agg5 rfl (At.rowI hB (i := (4 * k + 1)) (by omega) (by omega) hb (ne_app ne_nil (hown.ne hb)))) ?_
    refine TN.gets (Wants.none rfl) rfl (Gets.conv rfl Tryd.underlying5 Tryd.underlying48 rfl (r := (IntKind.u32.wrap (B.getD (4 * k + 1) 0))) rfl) ?_
    refine TN.free (Wants.none rfl) rfl (fun _ => Gets.shl rfl rfl rfl (by omega) (r := (shlI .u32 (IntKind.u32.wrap (B.getD (4 * k + 1) 0)) 16)) rfl) ?_
    refine TN.free (Wants.none rfl) rfl (fun _ => Gets.or rfl rfl rfl (r := (orI .u32 (shlI .u32 (IntKind.u32.wrap (B.getD (4 * k) 0)) 24) (shlI .u32 (IntKind.u32.wrap (B.getD (4 * k + 1) 0)) 16))) rfl) ?_
    refine TN.free (Wants.none rfl) rfl (fun _ => Gets.move rfl rfl) ?_
    refine TN.free (Wants.none rfl) rfl (fun _ => Gets.move rfl rfl) ?_
    refine TN.free (Wants.none rfl) rfl (fun _ => Gets.mul rfl rfl rfl (r := (4 * (k : Int))) (w64 (by omega) (by omega))) ?_
    refine TN.free (Wants.none rfl) rfl (fun _ => Gets.add rfl rfl rfl (r := (4 * (k : Int) + 2)) (w64 (by omega) (by omega))) ?_
    refine TN.free (Wants.none rfl) rfl (fun _ => Gets.idxSlice rfl Tryd.underlying22 size5 rfl rfl (i := (4 * k + 2)) (by omega) (by omega) (off' := (off + 4 * k + 2)) (by omega)) ?_
    refine TN.gets (Wants.none rfl) rfl (Gets.load1 rfl agg5 rfl (At.rowI hB (i := (4 * k + 2)) (by omega) (by omega) hb (ne_app ne_nil (hown.ne hb)))) ?_
    refine TN.gets (Wants.none rfl) rfl (Gets.conv rfl Tryd.underlying5 Tryd.underlying48 rfl (r := (IntKind.u32.wrap (B.getD (4 * k + 2) 0))) rfl) ?_
    refine TN.free (Wants.none rfl) rfl (fun _ => Gets.shl rfl rfl rfl (by omega) (r := (shlI .u32 (IntKind.u32.wrap (B.getD (4 * k + 2) 0)) 8)) rfl) ?_
    refine TN.free (Wants.none rfl) rfl (fun _ => Gets.or rfl rfl rfl (r := (orI .u32 (orI .u32 (shlI .u32 (IntKind.u32.wrap (B.getD (4 * k) 0)) 24) (shlI .u32 (IntKind.u32.wrap (B.getD (4 * k + 1) 0)) 16)) (shlI .u32 (IntKind.u32.wrap (B.getD (4 * k + 2) 0)) 8))) rfl) ?_
    refine TN.free (Wants.none rfl) rfl (fun _ => Gets.move rfl rfl) ?_
    refine TN.free (Wants.none rfl) rfl (fun _ => Gets.move rfl rfl) ?_
    refine TN.free (Wants.none rfl) rfl (fun _ => Gets.mul rfl rfl rfl (r := (4 * (k : Int))) (w64 (by omega) (by omega))) ?_
    refine TN.free (Wants.none rfl) rfl (fun _ => Gets.add rfl rfl rfl (r := (4 * (k : Int) + 3)) (w64 (by omega) (by omega))) ?_
    refine TN.free (Wants.none rfl) rfl (fun _ => Gets.idxSlice rfl Tryd.underlying22 size5 rfl rfl (i := (4 * k + 3)) (by omega) (by omega) (off' := (off + 4 * k + 3)) (by omega)) ?_
    refine TN.gets (Wants.none rfl) rfl (Gets.load1 rfl agg5 rfl (At.rowI hB (i := (4 * k + 3)) (by omega) (by omega) hb (ne_app ne_nil (hown.ne hb)))) ?_
    refine TN.gets (Wants.none rfl) rfl (Gets.conv rfl Tryd.underlying5 Tryd.underlying48 rfl (r := (IntKind.u32.wrap (B.getD (4 * k + 3) 0))) rfl) ?_
    refine TN.free (Wants.none rfl) rfl (fun _ => Gets.or rfl rfl rfl (r := (orI .u32 (orI .u32 (orI .u32 (shlI .u32 (IntKind.u32.wrap (B.getD (4 * k) 0)) 24) (shlI .u32 (IntKind.u32.wrap (B.getD (4 * k + 1) 0)) 16)) (shlI .u32 (IntKind.u32.wrap (B.getD (4 * k + 2) 0)) 8)) (IntKind.u32.wrap (B.getD (4 * k + 3) 0)))) rfl) ?_
    refine TN.buildSlice (Wants.none rfl) rfl rfl Tryd.underlying44 size48 zero48 rfl (by decide) (by decide) (cells := #[.int .u32 (orI .u32 (orI .u32 (orI .u32 (shlI .u32 (IntKind.u32.wrap (B.getD (4 * k) 0)) 24) (shlI .u32 (IntKind.u32.wrap (B.getD (4 * k + 1) 0)) 16)) (shlI .u32 (IntKind.u32.wrap (B.getD (4 * k + 2) 0)) 8)) (IntKind.u32.wrap (B.getD (4 * k + 3) 0)))]) (tot := 1) (by kernel_rfl) (cs := [.int .u32 (orI .u32 (orI .u32 (orI .u32 (shlI .u32 (IntKind.u32.wrap (B.getD (4 * k) 0)) 24) (shlI .u32 (IntKind.u32.wrap (B.getD (4 * k + 1) 0)) 16)) (shlI .u32 (IntKind.u32.wrap (B.getD (4 * k + 2) 0)) 8)) (IntKind.u32.wrap (B.getD (4 * k + 3) 0)))]) rfl rfl (fun g1 hg1 => ?_)
    refine TN.appendOwn (H := [⟨g1, 48, [Value.int .u32 (orI .u32 (orI .u32 (orI .u32 (shlI .u32 (IntKind.u32.wrap (B.getD (4 * k) 0)) 24) (shlI .u32 (IntKind.u32.wrap (B.getD (4 * k + 1) 0)) 16)) (shlI .u32 (IntKind.u32.wrap (B.getD (4 * k + 2) 0)) 8)) (IntKind.u32.wrap (B.getD (4 * k + 3) 0)))], 1⟩]) (sl := 1) (t := 44) (e := 48) (kd := .u32) (Wants.none rfl) rfl rfl Tryd.underlying44 mk48 rfl rfl rfl (W := schA B k) (B := [(orI .u32 (orI .u32 (orI .u32 (shlI .u32 (IntKind.u32.wrap (B.getD (4 * k) 0)) 24) (shlI .u32 (IntKind.u32.wrap (B.getD (4 * k + 1) 0)) 16)) (shlI .u32 (IntKind.u32.wrap (B.getD (4 * k + 2) 0)) 8)) (IntKind.u32.wrap (B.getD (4 * k + 3) 0)))]) hown (fun w hs => src_ent (W := [(orI .u32 (orI .u32 (orI .u32 (shlI .u32 (IntKind.u32.wrap (B.getD (4 * k) 0)) 24) (shlI .u32 (IntKind.u32.wrap (B.getD (4 * k + 1) 0)) 16)) (shlI .u32 (IntKind.u32.wrap (B.getD (4 * k + 2) 0)) 8)) (IntKind.u32.wrap (B.getD (4 * k + 3) 0)))]) (hs.has ⟨g1, 48, [Value.int .u32 (orI .u32 (orI .u32 (orI .u32 (shlI .u32 (IntKind.u32.wrap (B.getD (4 * k) 0)) 24) (shlI .u32 (IntKind.u32.wrap (B.getD (4 * k + 1) 0)) 16)) (shlI .u32 (IntKind.u32.wrap (B.getD (4 * k + 2) 0)) 8)) (IntKind.u32.wrap (B.getD (4 * k + 3) 0)))], 1⟩ (by simp)) rfl) (by have := schA_len B k; omega) (by have := schA_len B k; omega) (fun vo Ho ho hne => ?_)
    refine TN.free (Wants.none rfl) rfl (fun _ => Gets.assign rfl rfl) ?_
    refine TN.nil ?_
    refine TE.blockN ?_
    refine TE.then ?_
    refine TC.sub (Sub.cons (i := 0) rfl (Sub.cons (i := 3) rfl (Sub.cons (i := 4) rfl (Sub.nil)))) ?_
    refine TC.regionL ?_
    refine TL.gets (Wants.none rfl) rfl (Gets.move rfl rfl) ?_
    refine TL.gets (Wants.none rfl) rfl (Gets.add rfl rfl rfl (r := ((k : Int) + 1)) (w64 (by omega) (by omega))) ?_
    refine TL.gets (Wants.none rfl) rfl (Gets.assign rfl rfl) ?_
    refine TL.nil ?_
    exact TE.back (⟨k + 1, vo, Ho⟩ : WV) (by show 16 - (k + 1) < 16 - k; omega) ⟨by show Own _ _ _ vo (schA B (k + 1)) Ho; unfold schA wordAt; exact ho, by show k + 1 ≤ 16; omega⟩ (Sub.slice (i := 0) rfl rfl (by first | omega | (dsimp only; omega) | rfl) (by first | omega | (dsimp only; omega) | rfl) (Sub.cons (i := 3) rfl (Sub.int (i := 4) rfl (by first | omega | rfl) (Sub.nil)))) (fun w h => h.drop (by assumption))
  · obtain rfl : k = 16 := by omega
    refine TC.exit ?_
    refine TE.thenX ?_
    refine TE.thenX ?_
    refine TE.blockX ?_
    refine TE.then ?_
    refine TC.seq ?_
    refine TC.seq ?_
    refine TC.regionL ?_
    refine TL.gets (Wants.none rfl) rfl (Gets.assign rfl rfl) ?_
    refine TL.nil ?_
    refine TE.then ?_
    refine TC.block ?_
    refine TC.loop (ι := WV) (fun x => [(3, x.v), (5, .int .i64 ((x.k : Int) + 16))]) (fun x => [] ++ x.He) (fun x => 48 - x.k) (fun x => Own w.heap.size 48 .u32 x.v (schB B x.k) x.He ∧ x.k ≤ 48) (⟨0, v, He⟩ : WV) ⟨hown, by show 0 ≤ 48; omega⟩ (Sub.cons (i := 3) rfl (Sub.int (i := 5) rfl (by first | omega | rfl) (Sub.nil))) (fun w h => h) (fun x hC1 => ?_)
    obtain ⟨k, v, He⟩ := x
    obtain ⟨hown, hC2⟩ := hC1
    dsimp only at hown hC2 ⊢
    have hBl := schB_len B k
    refine TC.seq ?_
    refine TC.seq ?_
    refine TC.regionL ?_
    refine TL.gets (Wants.none rfl) rfl (Gets.move rfl rfl) ?_
    refine TL.gets (Wants.none rfl) rfl (Gets.lss rfl rfl rfl) ?_
    refine TL.nil ?_
    refine TE.then ?_
    refine TC.split rfl (fun hq1 => ?_) (fun hq1 => ?_)
    · obtain ⟨g, c, rfl, rfl, hN, hc, hm⟩ := hown.resolve_left (fun h => by have := congrArg List.length h.2.1; rw [hBl] at this; simp at this)
      rw [hBl]
      refine TC.skip ?_
      refine TE.then ?_
      refine TC.seq ?_
      refine TC.block ?_
      refine TC.seq ?_
      refine TC.regionL ?_
      refine TL.gets (Wants.none rfl) rfl (Gets.move rfl rfl) ?_
      refine TL.gets (Wants.none rfl) rfl (Gets.move rfl rfl) ?_
      refine TL.gets (Wants.none rfl) rfl (Gets.sub rfl rfl rfl (r := ((k : Int) + 1)) (w64 (by omega) (by omega))) ?_
      refine TL.gets (Wants.none rfl) rfl (Gets.idxSlice rfl Tryd.underlying44 size48 rfl rfl (i := (k + 1)) (by omega) (by omega) (off' := (k + 1)) (by omega)) ?_
      refine TL.gets (Wants.none rfl) rfl (Gets.load1 rfl agg48 rfl (At.ent (i := 0) (ent := ⟨g, 48, (schB B k).map (Value.int .u32), c⟩) (off := (k + 1)) rfl rfl (by have := ints_get (kd := .u32) (W := schB B k) (i := (k + 1)) (by rw [hBl]; omega); (first | exact this | (refine Eq.trans ?_ this; congr 1; omega))))) ?_
      refine TL.gets (Wants.none rfl) rfl (Gets.assign rfl rfl) ?_
      refine TL.nil ?_
      refine TE.then ?_
      refine TC.sub (Sub.cons (i := 3) rfl (Sub.cons (i := 5) rfl (Sub.cons (i := 6) rfl (Sub.nil)))) ?_
      refine TC.seq ?_
      refine TC.regionL ?_
      refine TL.gets (Wants.none rfl) rfl (Gets.move rfl rfl) ?_
      refine TL.gets (Wants.none rfl) rfl (Gets.move rfl rfl) ?_
      refine TL.gets (Wants.none rfl) rfl (Gets.sub rfl rfl rfl (r := ((k : Int) + 14)) (w64 (by omega) (by omega))) ?_
      refine TL.gets (Wants.none rfl) rfl (Gets.idxSlice rfl Tryd.underlying44 size48 rfl rfl (i := (k + 14)) (by omega) (by omega) (off' := (k + 14)) (by omega)) ?_
      refine TL.gets (Wants.none rfl) rfl (Gets.load1 rfl agg48 rfl (At.ent (i := 0) (ent := ⟨g, 48, (schB B k).map (Value.int .u32), c⟩) (off := (k + 14)) rfl rfl (by have := ints_get (kd := .u32) (W := schB B k) (i := (k + 14)) (by rw [hBl]; omega); (first | exact this | (refine Eq.trans ?_ this; congr 1; omega))))) ?_
      refine TL.gets (Wants.none rfl) rfl (Gets.assign rfl rfl) ?_
      refine TL.nil ?_
      refine TE.then ?_
      refine TC.sub (Sub.cons (i := 3) rfl (Sub.cons (i := 5) rfl (Sub.cons (i := 6) rfl (Sub.cons (i := 7) rfl (Sub.nil))))) ?_
      refine TC.seq ?_
      refine TC.regionL ?_
      refine TL.gets (Wants.none rfl) rfl (Gets.move rfl rfl) ?_
      refine TL.call0 (Wants.none rfl) rfl enters35 rfl rfl (v := .int .u32 (rotr ((schB B k).getD (k + 1) 0) 7)) (fun w hs => rrotate_c ((schB B k).getD (k + 1) 0) 7 w (by omega) (by omega)) ?_
      refine TL.gets (Wants.none rfl) rfl (Gets.move rfl rfl) ?_
      refine TL.call0 (Wants.none rfl) rfl enters35 rfl rfl (v := .int .u32 (rotr ((schB B k).getD (k + 1) 0) 18)) (fun w hs => rrotate_c ((schB B k).getD (k + 1) 0) 18 w (by omega) (by omega)) ?_
      refine TL.gets (Wants.none rfl) rfl (Gets.xor rfl rfl rfl (r := (xorI .u32 (rotr ((schB B k).getD (k + 1) 0) 7) (rotr ((schB B k).getD (k + 1) 0) 18))) rfl) ?_
      refine TL.gets (Wants.none rfl) rfl (Gets.move rfl rfl) ?_
      refine TL.gets (Wants.none rfl) rfl (Gets.shr rfl rfl rfl (by omega) (r := (shrI .u32 ((schB B k).getD (k + 1) 0) 3)) rfl) ?_
      refine TL.gets (Wants.none rfl) rfl (Gets.xor rfl rfl rfl (r := (xorI .u32 (xorI .u32 (rotr ((schB B k).getD (k + 1) 0) 7) (rotr ((schB B k).getD (k + 1) 0) 18)) (shrI .u32 ((schB B k).getD (k + 1) 0) 3))) rfl) ?_
      refine TL.gets (Wants.none rfl) rfl (Gets.assign rfl rfl) ?_
      refine TL.nil ?_
      refine TE.then ?_
      refine TC.sub (Sub.cons (i := 3) rfl (Sub.cons (i := 5) rfl (Sub.cons (i := 7) rfl (Sub.cons (i := 8) rfl (Sub.nil))))) ?_
      refine TC.seq ?_
      refine TC.regionL ?_
      refine TL.gets (Wants.none rfl) rfl (Gets.move rfl rfl) ?_
      refine TL.call0 (Wants.none rfl) rfl enters35 rfl rfl (v := .int .u32 (rotr ((schB B k).getD (k + 14) 0) 17)) (fun w hs => rrotate_c ((schB B k).getD (k + 14) 0) 17 w (by omega) (by omega)) ?_
      refine TL.gets (Wants.none rfl) rfl (Gets.move rfl rfl) ?_
      refine TL.call0 (Wants.none rfl) rfl enters35 rfl rfl (v := .int .u32 (rotr ((schB B k).getD (k + 14) 0) 19)) (fun w hs => rrotate_c ((schB B k).getD (k + 14) 0) 19 w (by omega) (by omega)) ?_
      refine TL.gets (Wants.none rfl) rfl (Gets.xor rfl rfl rfl (r := (xorI .u32 (rotr ((schB B k).getD (k + 14) 0) 17) (rotr ((schB B k).getD (k + 14) 0) 19))) rfl) ?_
      refine TL.gets (Wants.none rfl) rfl (Gets.move rfl rfl) ?_
      refine TL.gets (Wants.none rfl) rfl (Gets.shr rfl rfl rfl (by omega) (r := (shrI .u32 ((schB B k).getD (k + 14) 0) 10)) rfl) ?_
      refine TL.gets (Wants.none rfl) rfl (Gets.xor rfl rfl rfl (r := (xorI .u32 (xorI .u32 (rotr ((schB B k).getD (k + 14) 0) 17) (rotr ((schB B k).getD (k + 14) 0) 19)) (shrI .u32 ((schB B k).getD (k + 14) 0) 10))) rfl) ?_
      refine TL.gets (Wants.none rfl) rfl (Gets.assign rfl rfl) ?_
      refine TL.nil ?_
      refine TE.then ?_
      refine TC.sub (Sub.cons (i := 3) rfl (Sub.cons (i := 5) rfl (Sub.cons (i := 8) rfl (Sub.cons (i := 9) rfl (Sub.nil))))) ?_
      refine TC.mix3 (by kernel_rfl) [0, 0, 0, 0, 0, 0, 1, 0, 0, 0, 0, 0, 0, 0, 1, 0, 3, 3, 0] rfl (by kernel_rfl) ?_
      refine TN.free (Wants.none rfl) rfl (fun _ => Gets.move rfl rfl) ?_
      refine TN.free (Wants.none rfl) rfl (fun _ => Gets.move rfl rfl) ?_
      refine TN.free (Wants.none rfl) rfl (fun _ => Gets.move rfl rfl) ?_
      refine TN.free (Wants.none rfl) rfl (fun _ => Gets.move rfl rfl) ?_
      refine TN.free (Wants.none rfl) rfl (fun _ => Gets.sub rfl rfl rfl (r := ((k : Int) + 9)) (w64 (by omega) (by omega))) ?_
      refine TN.free (Wants.none rfl) rfl (fun _ => Gets.idxSlice rfl Tryd.underlying44 size48 rfl rfl (i := (k + 9)) (by omega) (by omega) (off' := (k + 9)) (by omega)) ?_
      refine TN.gets (Wants.none rfl) rfl (Gets.load1 rfl agg48 rfl (At.ent (i := 0) (ent := ⟨g, 48, (schB B k).map (Value.int .u32), c⟩) (off := (k + 9)) rfl rfl (by have := ints_get (kd := .u32) (W := schB B k) (i := (k + 9)) (by rw [hBl]; omega); (first | exact this | (refine Eq.trans ?_ this; congr 1; omega))))) ?_
      refine TN.free (Wants.none rfl) rfl (fun _ => Gets.addU rfl rfl rfl) ?_
      refine TN.free (Wants.none rfl) rfl (fun _ => Gets.move rfl rfl) ?_
      refine TN.free (Wants.none rfl) rfl (fun _ => Gets.addU rfl rfl rfl) ?_
      refine TN.free (Wants.none rfl) rfl (fun _ => Gets.move rfl rfl) ?_
      refine TN.free (Wants.none rfl) rfl (fun _ => Gets.move rfl rfl) ?_
      refine TN.free (Wants.none rfl) rfl (fun _ => Gets.sub rfl rfl rfl (r := (k : Int)) (w64 (by omega) (by omega))) ?_
      refine TN.free (Wants.none rfl) rfl (fun _ => Gets.idxSlice rfl Tryd.underlying44 size48 rfl rfl (i := k) (by omega) (by omega) (off' := k) (by omega)) ?_
      refine TN.gets (Wants.none rfl) rfl (Gets.load1 rfl agg48 rfl (At.ent (i := 0) (ent := ⟨g, 48, (schB B k).map (Value.int .u32), c⟩) (off := k) rfl rfl (by have := ints_get (kd := .u32) (W := schB B k) (i := k) (by rw [hBl]; omega); (first | exact this | (refine Eq.trans ?_ this; congr 1; omega))))) ?_
      refine TN.free (Wants.none rfl) rfl (fun _ => Gets.addU rfl rfl rfl) ?_
      refine TN.buildSlice (Wants.none rfl) rfl rfl Tryd.underlying44 size48 zero48 rfl (by decide) (by decide) (cells := #[.int .u32 (addW .u32 (addW .u32 (addW .u32 (xorI .u32 (xorI .u32 (rotr ((schB B k).getD (k + 14) 0) 17) (rotr ((schB B k).getD (k + 14) 0) 19)) (shrI .u32 ((schB B k).getD (k + 14) 0) 10)) ((schB B k).getD (k + 9) 0)) (xorI .u32 (xorI .u32 (rotr ((schB B k).getD (k + 1) 0) 7) (rotr ((schB B k).getD (k + 1) 0) 18)) (shrI .u32 ((schB B k).getD (k + 1) 0) 3))) ((schB B k).getD k 0))]) (tot := 1) (by kernel_rfl) (cs := [.int .u32 (addW .u32 (addW .u32 (addW .u32 (xorI .u32 (xorI .u32 (rotr ((schB B k).getD (k + 14) 0) 17) (rotr ((schB B k).getD (k + 14) 0) 19)) (shrI .u32 ((schB B k).getD (k + 14) 0) 10)) ((schB B k).getD (k + 9) 0)) (xorI .u32 (xorI .u32 (rotr ((schB B k).getD (k + 1) 0) 7) (rotr ((schB B k).getD (k + 1) 0) 18)) (shrI .u32 ((schB B k).getD (k + 1) 0) 3))) ((schB B k).getD k 0))]) rfl rfl (fun g2 hg2 => ?_)
      refine TN.appendOwn (H := [⟨g2, 48, [Value.int .u32 (addW .u32 (addW .u32 (addW .u32 (xorI .u32 (xorI .u32 (rotr ((schB B k).getD (k + 14) 0) 17) (rotr ((schB B k).getD (k + 14) 0) 19)) (shrI .u32 ((schB B k).getD (k + 14) 0) 10)) ((schB B k).getD (k + 9) 0)) (xorI .u32 (xorI .u32 (rotr ((schB B k).getD (k + 1) 0) 7) (rotr ((schB B k).getD (k + 1) 0) 18)) (shrI .u32 ((schB B k).getD (k + 1) 0) 3))) ((schB B k).getD k 0))], 1⟩]) (He := [⟨g, 48, (schB B k).map (Value.int .u32), c⟩]) (sl := 1) (t := 44) (e := 48) (kd := .u32) (Wants.none rfl) rfl rfl Tryd.underlying44 mk48 rfl rfl rfl (W := schB B k) (B := [(addW .u32 (addW .u32 (addW .u32 (xorI .u32 (xorI .u32 (rotr ((schB B k).getD (k + 14) 0) 17) (rotr ((schB B k).getD (k + 14) 0) 19)) (shrI .u32 ((schB B k).getD (k + 14) 0) 10)) ((schB B k).getD (k + 9) 0)) (xorI .u32 (xorI .u32 (rotr ((schB B k).getD (k + 1) 0) 7) (rotr ((schB B k).getD (k + 1) 0) 18)) (shrI .u32 ((schB B k).getD (k + 1) 0) 3))) ((schB B k).getD k 0))]) (.inr ⟨g, c, by rw [hBl], rfl, hN, hc, hm⟩) (fun w hs => src_ent (W := [(addW .u32 (addW .u32 (addW .u32 (xorI .u32 (xorI .u32 (rotr ((schB B k).getD (k + 14) 0) 17) (rotr ((schB B k).getD (k + 14) 0) 19)) (shrI .u32 ((schB B k).getD (k + 14) 0) 10)) ((schB B k).getD (k + 9) 0)) (xorI .u32 (xorI .u32 (rotr ((schB B k).getD (k + 1) 0) 7) (rotr ((schB B k).getD (k + 1) 0) 18)) (shrI .u32 ((schB B k).getD (k + 1) 0) 3))) ((schB B k).getD k 0))]) (hs.has ⟨g2, 48, [Value.int .u32 (addW .u32 (addW .u32 (addW .u32 (xorI .u32 (xorI .u32 (rotr ((schB B k).getD (k + 14) 0) 17) (rotr ((schB B k).getD (k + 14) 0) 19)) (shrI .u32 ((schB B k).getD (k + 14) 0) 10)) ((schB B k).getD (k + 9) 0)) (xorI .u32 (xorI .u32 (rotr ((schB B k).getD (k + 1) 0) 7) (rotr ((schB B k).getD (k + 1) 0) 18)) (shrI .u32 ((schB B k).getD (k + 1) 0) 3))) ((schB B k).getD k 0))], 1⟩ (by simp)) rfl) (by  omega) (by  omega) (fun vo Ho ho hne => ?_)
      refine TN.free (Wants.none rfl) rfl (fun _ => Gets.assign rfl rfl) ?_
      refine TN.nil ?_
      refine TE.blockN ?_
      refine TE.then ?_
      refine TC.sub (Sub.cons (i := 3) rfl (Sub.cons (i := 5) rfl (Sub.nil))) ?_
      refine TC.regionL ?_
      refine TL.gets (Wants.none rfl) rfl (Gets.move rfl rfl) ?_
      refine TL.gets (Wants.none rfl) rfl (Gets.add rfl rfl rfl (r := ((k : Int) + 17)) (w64 (by omega) (by omega))) ?_
      refine TL.gets (Wants.none rfl) rfl (Gets.assign rfl rfl) ?_
      refine TL.nil ?_
      exact TE.back (⟨k + 1, vo, Ho⟩ : WV) (by show 48 - (k + 1) < 48 - k; omega) ⟨by show Own _ _ _ vo (schB B (k + 1)) Ho; unfold schB wordN sig0 sig1; exact ho, by show k + 1 ≤ 48; omega⟩ (Sub.cons (i := 3) rfl (Sub.int (i := 5) rfl (by first | omega | rfl) (Sub.nil))) (fun w h => h.drop (by assumption))
    · obtain rfl : k = 48 := by omega
      refine TC.exit ?_
      refine TE.thenX ?_
      refine TE.thenX ?_
      refine TE.blockX ?_
      refine TE.then ?_
      refine TC.seq ?_
      refine TC.regionL ?_
      refine TL.gets (Wants.none rfl) rfl (Gets.move rfl rfl) ?_
      refine TL.gets (Wants.none rfl) rfl (Gets.assign rfl rfl) ?_
      refine TL.nil ?_
      refine TE.then ?_
      refine TC.ret ?_
      exact TE.ret1 rfl rfl (fun w hs => ⟨v, He, rfl, by rw [sched_schB]; exact hown, hs⟩)
end Go.Proofs.YtdcphpmkhekghaaDoor
