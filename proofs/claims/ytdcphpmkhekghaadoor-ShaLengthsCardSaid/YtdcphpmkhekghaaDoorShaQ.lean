/-
  The reference: numbers of four words.
-/
import Derived.Test.YtdcphpmkhekghaaDoorShaP
namespace Go.Proofs.YtdcphpmkhekghaaDoor
set_option linter.unusedVariables false
set_option linter.unusedSimpArgs false
open Go Go.RowKit
theorem agg62 : (isAgg 62).run Tryd.prog = fun w => .ok false w := isAgg_no Tryd.underlying62 rfl
theorem agg72 : (isAgg 72).run Tryd.prog = fun w => .ok true w := isAgg_yes Tryd.underlying72 rfl
theorem size62 : (Tryd.prog.info? 62).map (·.size) = some 1 := by kernel_rfl
theorem size72 : (Tryd.prog.info? 72).map (·.size) = some 4 := by kernel_rfl
theorem zero72 : (Tryd.prog.info? 72).bind (·.zero) = some (.agg #[.int .u64 0, .int .u64 0, .int .u64 0, .int .u64 0]) := by kernel_rfl

theorem or_comm32 (a b : Int) : orI .u32 a b = orI .u32 b a := by
  unfold orI
  rw [BitVec.or_comm]
def wscale (V : List Int) (q : Int) : Nat → List Int × Int
  | 0 => (List.replicate 4 0, 0)
  | k + 1 => ((wscale V q k).1.set k (andI .u64 (addW .u64 (mulW .u64 (V.getD k 0) q) (wscale V q k).2) 4294967295), shrI .u64 (addW .u64 (mulW .u64 (V.getD k 0) q) (wscale V q k).2) 32)
def wshift (V : List Int) : Nat → List Int × Int
  | 0 => (List.replicate 4 0, 0)
  | k + 1 => ((wshift V k).1.set k (andI .u64 (addW .u64 (shlI .u64 (V.getD k 0) 16) (wshift V k).2) 4294967295), shrI .u64 (addW .u64 (shlI .u64 (V.getD k 0) 16) (wshift V k).2) 32)
def wplus (V U : List Int) : Nat → List Int × Int
  | 0 => (List.replicate 4 0, 0)
  | k + 1 => ((wplus V U k).1.set k (andI .u64 (addW .u64 (addW .u64 (V.getD k 0) (U.getD k 0)) (wplus V U k).2) 4294967295), shrI .u64 (addW .u64 (addW .u64 (V.getD k 0) (U.getD k 0)) (wplus V U k).2) 32)
theorem wscale_len (V : List Int) (q : Int) : ∀ k, (wscale V q k).1.length = 4
  | 0 => by simp [wscale]
  | k + 1 => by simp [wscale, wscale_len V q k]
theorem wshift_len (V : List Int) : ∀ k, (wshift V k).1.length = 4
  | 0 => by simp [wshift]
  | k + 1 => by simp [wshift, wshift_len V k]
theorem wplus_len (V U : List Int) : ∀ k, (wplus V U k).1.length = 4
  | 0 => by simp [wplus]
  | k + 1 => by simp [wplus, wplus_len V U k]

set_option maxRecDepth 100000 in
set_option maxHeartbeats 400000 in
theorem rrotate_c (x : Int) (m : Nat) (w : World) (h1 : 1 ≤ m) (h2 : m ≤ 31) : Calls Tryd.prog 35 #[.int .u32 x, .int .i64 (m : Int)] w fun e w' => e = .returned (.int .u32 (rotr x m)) ∧ St w [] w' := by
  refine calls_from (args := [.int .u32 x, .int .i64 (m : Int)]) Tryd.func35 rfl Tryd.ntmps35 (by simp) ?_
  refine TC.sub (Sub.cons (i := 0) rfl (Sub.cons (i := 1) rfl (Sub.nil))) ?_
  refine TC.seq ?_
  refine TC.regionL ?_
  refine TL.gets (Wants.none rfl) rfl (Gets.assign rfl rfl) ?_
  refine TL.nil ?_
  refine TE.then ?_
  refine TC.seq ?_
  refine TC.mix (by kernel_rfl) [0, 0, 0, 0, 0, 0, 0, 0, 0] rfl (by kernel_rfl) ?_
  refine TM.free (Wants.none rfl) rfl (fun _ => Gets.move rfl rfl) ?_
  refine TM.free (Wants.none rfl) rfl (fun _ => Gets.move rfl rfl) ?_
  refine TM.free (Wants.none rfl) rfl (fun _ => Gets.shr rfl rfl rfl (by omega) (r := (shrI .u32 x (m : Int))) rfl) ?_
  refine TM.free (Wants.none rfl) rfl (fun _ => Gets.move rfl rfl) ?_
  refine TM.free (Wants.none rfl) rfl (fun _ => Gets.move rfl rfl) ?_
  refine TM.free (Wants.none rfl) rfl (fun _ => Gets.sub rfl rfl rfl (r := (32 - (m : Int))) (w64 (by omega) (by omega))) ?_
  refine TM.free (Wants.none rfl) rfl (fun _ => Gets.shl rfl rfl rfl (by omega) (r := (shlI .u32 x (32 - (m : Int)))) rfl) ?_
  refine TM.free (Wants.none rfl) rfl (fun _ => Gets.or rfl rfl rfl (r := (orI .u32 (shrI .u32 x (m : Int)) (shlI .u32 x (32 - (m : Int))))) rfl) ?_
  refine TM.free (Wants.none rfl) rfl (fun _ => Gets.assign rfl rfl) ?_
  refine TM.nil ?_
  refine TE.then ?_
  refine TC.ret ?_
  exact TE.ret1 rfl rfl (fun w hs => ⟨by rw [or_comm32]; exact rotl_eq x m h1 h2, hs⟩)

set_option maxRecDepth 100000 in
set_option maxHeartbeats 400000 in
theorem wscale_c (V : List Int) (q : Int) (w : World) (hV : V.length = 4) : Calls Tryd.prog 45 #[.agg (V.map (Value.int .u64)).toArray, .int .u64 q] w fun e w' => e = .returned (.agg ((wscale V q 4).1.map (Value.int .u64)).toArray) ∧ St w [] w' := by
  refine calls_from (args := [.agg (V.map (Value.int .u64)).toArray, .int .u64 q]) Tryd.func45 rfl Tryd.ntmps45 (by simp) ?_
  refine TC.sub (Sub.cons (i := 0) rfl (Sub.cons (i := 1) rfl (Sub.nil))) ?_
  refine TC.seq ?_
  refine TC.regionL ?_
  refine TL.box (Wants.none rfl) rfl rfl rfl (cs := V.map (Value.int .u64)) (by simp [Value.cells]) (tot := 4) (by simp [hV]) (fun g1 hg1 => ?_)
  refine TL.alloc (Wants.none rfl) rfl rfl zero72 (cs := [Value.int .u64 0, Value.int .u64 0, Value.int .u64 0, Value.int .u64 0]) rfl (tot := 4) (by simp) (fun g2 hg2 => ?_)
  refine TL.nil ?_
  refine TE.then ?_
  refine TC.seq ?_
  refine TC.regionL ?_
  refine TL.gets (Wants.none rfl) rfl (Gets.assign rfl rfl) ?_
  refine TL.nil ?_
  refine TE.then ?_
  refine TC.seq ?_
  refine TC.regionL ?_
  refine TL.alloc (Wants.none rfl) rfl rfl zero72 (cs := [Value.int .u64 0, Value.int .u64 0, Value.int .u64 0, Value.int .u64 0]) rfl (tot := 4) (by simp) (fun g3 hg3 => ?_)
  refine TL.nil ?_
  refine TE.then ?_
  refine TC.seq ?_
  refine TC.seq ?_
  refine TC.regionL ?_
  refine TL.gets (Wants.none rfl) rfl (Gets.assign rfl rfl) ?_
  refine TL.nil ?_
  refine TE.then ?_
  refine TC.block ?_
  refine TC.loop (ι := Nat) (fun k => [(5, .int .u64 ((wscale V q k).2)), (6, .pointer (some ⟨g3, 0, none⟩)), (7, .int .i64 (k : Int)), (4, .pointer (some ⟨g2, 0, none⟩)), (2, .pointer (some ⟨g1, 0, none⟩)), (1, .int .u64 q)]) (fun k => [⟨g3, 72, ((wscale V q k).1).map (Value.int .u64), 4⟩, ⟨g2, 72, [Value.int .u64 0, Value.int .u64 0, Value.int .u64 0, Value.int .u64 0], 4⟩, ⟨g1, 72, V.map (Value.int .u64), 4⟩]) (fun k => 4 - k) (fun k => k ≤ 4) 0 (by omega) (Sub.int (i := 5) rfl (by first | rfl | omega) (Sub.cons (i := 6) rfl (Sub.int (i := 7) rfl (by first | omega | rfl) (Sub.cons (i := 4) rfl (Sub.cons (i := 2) rfl (Sub.int (i := 1) rfl (by first | rfl | omega) (Sub.nil))))))) (fun w h => h) (fun k hC0 => ?_)
  refine TC.seq ?_
  refine TC.seq ?_
  refine TC.regionL ?_
  refine TL.gets (Wants.none rfl) rfl (Gets.move rfl rfl) ?_
  refine TL.gets (Wants.none rfl) rfl (Gets.lss rfl rfl rfl) ?_
  refine TL.nil ?_
  refine TE.then ?_
  refine TC.split rfl (fun h0 => ?_) (fun h0 => ?_)
  · refine TC.skip ?_
    refine TE.then ?_
    refine TC.seq ?_
    refine TC.block ?_
    refine TC.seq ?_
    refine TC.regionL ?_
    refine TL.gets (Wants.none rfl) rfl (Gets.move rfl rfl) ?_
    refine TL.gets (Wants.none rfl) rfl (Gets.idxArray rfl Tryd.underlying72 size62 rfl rfl (i := k) (by omega) (by omega) (off' := k) (by omega)) ?_
    refine TL.gets (Wants.none rfl) rfl (Gets.load1 rfl agg62 rfl (At.ent (i := 2) (ent := ⟨g1, 72, V.map (Value.int .u64), 4⟩) (off := k) rfl rfl (by have := ints_get (kd := .u64) (W := V) (i := k) (by rw [hV]; omega); (first | exact this | (refine Eq.trans ?_ this; congr 1; omega))))) ?_
    refine TL.gets (Wants.none rfl) rfl (Gets.move rfl rfl) ?_
    refine TL.gets (Wants.none rfl) rfl (Gets.mulU rfl rfl rfl) ?_
    refine TL.gets (Wants.none rfl) rfl (Gets.move rfl rfl) ?_
    refine TL.gets (Wants.none rfl) rfl (Gets.addU rfl rfl rfl) ?_
    refine TL.gets (Wants.none rfl) rfl (Gets.assign rfl rfl) ?_
    refine TL.nil ?_
    refine TE.then ?_
    refine TC.sub (Sub.cons (i := 1) rfl (Sub.cons (i := 2) rfl (Sub.cons (i := 4) rfl (Sub.cons (i := 5) rfl (Sub.cons (i := 6) rfl (Sub.cons (i := 7) rfl (Sub.cons (i := 8) rfl (Sub.nil)))))))) ?_
    refine TC.seq ?_
    refine TC.regionL ?_
    refine TL.gets (Wants.none rfl) rfl (Gets.move rfl rfl) ?_
    refine TL.gets (Wants.none rfl) rfl (Gets.move rfl rfl) ?_
    refine TL.gets (Wants.none rfl) rfl (Gets.and rfl rfl rfl (r := (andI .u64 (addW .u64 (mulW .u64 (V.getD k 0) q) ((wscale V q k).2)) 4294967295)) rfl) ?_
    refine TL.gets (Wants.none rfl) rfl (Gets.idxArray rfl Tryd.underlying72 size62 rfl rfl (i := k) (by omega) (by omega) (off' := k) (by omega)) ?_
    refine TL.store1 (Wants.none rfl) rfl rfl size62 rfl rfl rfl (i := 0) rfl rfl (by simp [(wscale_len V q k)] <;> omega) (cs' := (((wscale V q k).1).set k (andI .u64 (addW .u64 (mulW .u64 (V.getD k 0) q) ((wscale V q k).2)) 4294967295)).map (Value.int .u64)) (ints_set) (H' := [⟨g3, 72, (((wscale V q k).1).set k (andI .u64 (addW .u64 (mulW .u64 (V.getD k 0) q) ((wscale V q k).2)) 4294967295)).map (Value.int .u64), 4⟩, ⟨g2, 72, [Value.int .u64 0, Value.int .u64 0, Value.int .u64 0, Value.int .u64 0], 4⟩, ⟨g1, 72, V.map (Value.int .u64), 4⟩]) rfl ?_
    refine TL.nil ?_
    refine TE.then ?_
    refine TC.sub (Sub.cons (i := 1) rfl (Sub.cons (i := 2) rfl (Sub.cons (i := 4) rfl (Sub.cons (i := 5) rfl (Sub.cons (i := 6) rfl (Sub.cons (i := 7) rfl (Sub.cons (i := 8) rfl (Sub.nil)))))))) ?_
    refine TC.regionL ?_
    refine TL.gets (Wants.none rfl) rfl (Gets.move rfl rfl) ?_
    refine TL.gets (Wants.none rfl) rfl (Gets.shr rfl rfl rfl (by omega) (r := (shrI .u64 (addW .u64 (mulW .u64 (V.getD k 0) q) ((wscale V q k).2)) 32)) rfl) ?_
    refine TL.gets (Wants.none rfl) rfl (Gets.assign rfl rfl) ?_
    refine TL.nil ?_
    refine TE.blockN ?_
    refine TE.then ?_
    refine TC.sub (Sub.cons (i := 1) rfl (Sub.cons (i := 2) rfl (Sub.cons (i := 4) rfl (Sub.cons (i := 5) rfl (Sub.cons (i := 6) rfl (Sub.cons (i := 7) rfl (Sub.nil))))))) ?_
    refine TC.regionL ?_
    refine TL.gets (Wants.none rfl) rfl (Gets.move rfl rfl) ?_
    refine TL.gets (Wants.none rfl) rfl (Gets.add rfl rfl rfl (r := ((k : Int) + 1)) (w64 (by omega) (by omega))) ?_
    refine TL.gets (Wants.none rfl) rfl (Gets.assign rfl rfl) ?_
    refine TL.nil ?_
    exact TE.back (k + 1) (by omega) (by omega) (Sub.int (i := 5) rfl (by first | rfl | omega) (Sub.cons (i := 6) rfl (Sub.int (i := 7) rfl (by first | omega | rfl) (Sub.cons (i := 4) rfl (Sub.cons (i := 2) rfl (Sub.int (i := 1) rfl (by first | rfl | omega) (Sub.nil))))))) (fun w h => h)
  · obtain rfl : k = 4 := by omega
    have Dl := wscale_len V q 4
    generalize hD : wscale V q 4 = D at Dl ⊢
    refine TC.exit ?_
    refine TE.thenX ?_
    refine TE.thenX ?_
    refine TE.blockX ?_
    refine TE.then ?_
    refine TC.seq ?_
    refine TC.regionL ?_
    refine TL.gets (Wants.none rfl) rfl (Gets.loadN rfl agg72 size72 rfl (vs := D.1.map (Value.int .u64)) (by simp [Dl]) (Row.all (i := 0) (ent := ⟨g3, 72, D.1.map (Value.int .u64), 4⟩) rfl rfl rfl)) ?_
    refine TL.storeW (Wants.none rfl) rfl rfl size72 rfl (vs := D.1.map (Value.int .u64)) rfl (by simp [Dl]) ints_one (i := 1) (ent := ⟨g2, 72, [Value.int .u64 0, Value.int .u64 0, Value.int .u64 0, Value.int .u64 0], 4⟩) rfl rfl (by simp []) (H' := [⟨g3, 72, D.1.map (Value.int .u64), 4⟩, ⟨g2, 72, D.1.map (Value.int .u64), 4⟩, ⟨g1, 72, V.map (Value.int .u64), 4⟩]) rfl ?_
    refine TL.nil ?_
    refine TE.then ?_
    refine TC.ret ?_
    exact TE.retC rfl agg72 size72 rfl (vs := D.1.map (Value.int .u64)) (by simp [Dl]) (Row.all (i := 1) (ent := ⟨g2, 72, D.1.map (Value.int .u64), 4⟩) rfl rfl rfl) (fun w hs => ⟨rfl, (((hs.drop (by assumption)).drop (by assumption)).drop (by assumption))⟩)

set_option maxRecDepth 100000 in
set_option maxHeartbeats 400000 in
theorem wshift_c (V : List Int) (w : World) (hV : V.length = 4) : Calls Tryd.prog 46 #[.agg (V.map (Value.int .u64)).toArray] w fun e w' => e = .returned (.agg ((wshift V 4).1.map (Value.int .u64)).toArray) ∧ St w [] w' := by
  refine calls_from (args := [.agg (V.map (Value.int .u64)).toArray]) Tryd.func46 rfl Tryd.ntmps46 (by simp) ?_
  refine TC.sub (Sub.cons (i := 0) rfl (Sub.nil)) ?_
  refine TC.seq ?_
  refine TC.regionL ?_
  refine TL.box (Wants.none rfl) rfl rfl rfl (cs := V.map (Value.int .u64)) (by simp [Value.cells]) (tot := 4) (by simp [hV]) (fun g1 hg1 => ?_)
  refine TL.alloc (Wants.none rfl) rfl rfl zero72 (cs := [Value.int .u64 0, Value.int .u64 0, Value.int .u64 0, Value.int .u64 0]) rfl (tot := 4) (by simp) (fun g2 hg2 => ?_)
  refine TL.nil ?_
  refine TE.then ?_
  refine TC.seq ?_
  refine TC.regionL ?_
  refine TL.gets (Wants.none rfl) rfl (Gets.assign rfl rfl) ?_
  refine TL.nil ?_
  refine TE.then ?_
  refine TC.seq ?_
  refine TC.regionL ?_
  refine TL.alloc (Wants.none rfl) rfl rfl zero72 (cs := [Value.int .u64 0, Value.int .u64 0, Value.int .u64 0, Value.int .u64 0]) rfl (tot := 4) (by simp) (fun g3 hg3 => ?_)
  refine TL.nil ?_
  refine TE.then ?_
  refine TC.seq ?_
  refine TC.seq ?_
  refine TC.regionL ?_
  refine TL.gets (Wants.none rfl) rfl (Gets.assign rfl rfl) ?_
  refine TL.nil ?_
  refine TE.then ?_
  refine TC.block ?_
  refine TC.loop (ι := Nat) (fun k => [(3, .int .u64 ((wshift V k).2)), (4, .pointer (some ⟨g3, 0, none⟩)), (5, .int .i64 (k : Int)), (2, .pointer (some ⟨g2, 0, none⟩)), (1, .pointer (some ⟨g1, 0, none⟩))]) (fun k => [⟨g3, 72, ((wshift V k).1).map (Value.int .u64), 4⟩, ⟨g2, 72, [Value.int .u64 0, Value.int .u64 0, Value.int .u64 0, Value.int .u64 0], 4⟩, ⟨g1, 72, V.map (Value.int .u64), 4⟩]) (fun k => 4 - k) (fun k => k ≤ 4) 0 (by omega) (Sub.int (i := 3) rfl (by first | rfl | omega) (Sub.cons (i := 4) rfl (Sub.int (i := 5) rfl (by first | omega | rfl) (Sub.cons (i := 2) rfl (Sub.cons (i := 1) rfl (Sub.nil)))))) (fun w h => h) (fun k hC0 => ?_)
  refine TC.seq ?_
  refine TC.seq ?_
  refine TC.regionL ?_
  refine TL.gets (Wants.none rfl) rfl (Gets.move rfl rfl) ?_
  refine TL.gets (Wants.none rfl) rfl (Gets.lss rfl rfl rfl) ?_
  refine TL.nil ?_
  refine TE.then ?_
  refine TC.split rfl (fun h0 => ?_) (fun h0 => ?_)
  · refine TC.skip ?_
    refine TE.then ?_
    refine TC.seq ?_
    refine TC.block ?_
    refine TC.seq ?_
    refine TC.regionL ?_
    refine TL.gets (Wants.none rfl) rfl (Gets.move rfl rfl) ?_
    refine TL.gets (Wants.none rfl) rfl (Gets.idxArray rfl Tryd.underlying72 size62 rfl rfl (i := k) (by omega) (by omega) (off' := k) (by omega)) ?_
    refine TL.gets (Wants.none rfl) rfl (Gets.load1 rfl agg62 rfl (At.ent (i := 2) (ent := ⟨g1, 72, V.map (Value.int .u64), 4⟩) (off := k) rfl rfl (by have := ints_get (kd := .u64) (W := V) (i := k) (by rw [hV]; omega); (first | exact this | (refine Eq.trans ?_ this; congr 1; omega))))) ?_
    refine TL.gets (Wants.none rfl) rfl (Gets.shl rfl rfl rfl (by omega) (r := (shlI .u64 (V.getD k 0) 16)) rfl) ?_
    refine TL.gets (Wants.none rfl) rfl (Gets.move rfl rfl) ?_
    refine TL.gets (Wants.none rfl) rfl (Gets.addU rfl rfl rfl) ?_
    refine TL.gets (Wants.none rfl) rfl (Gets.assign rfl rfl) ?_
    refine TL.nil ?_
    refine TE.then ?_
    refine TC.sub (Sub.cons (i := 1) rfl (Sub.cons (i := 2) rfl (Sub.cons (i := 3) rfl (Sub.cons (i := 4) rfl (Sub.cons (i := 5) rfl (Sub.cons (i := 6) rfl (Sub.nil))))))) ?_
    refine TC.seq ?_
    refine TC.regionL ?_
    refine TL.gets (Wants.none rfl) rfl (Gets.move rfl rfl) ?_
    refine TL.gets (Wants.none rfl) rfl (Gets.move rfl rfl) ?_
    refine TL.gets (Wants.none rfl) rfl (Gets.and rfl rfl rfl (r := (andI .u64 (addW .u64 (shlI .u64 (V.getD k 0) 16) ((wshift V k).2)) 4294967295)) rfl) ?_
    refine TL.gets (Wants.none rfl) rfl (Gets.idxArray rfl Tryd.underlying72 size62 rfl rfl (i := k) (by omega) (by omega) (off' := k) (by omega)) ?_
    refine TL.store1 (Wants.none rfl) rfl rfl size62 rfl rfl rfl (i := 0) rfl rfl (by simp [(wshift_len V k)] <;> omega) (cs' := (((wshift V k).1).set k (andI .u64 (addW .u64 (shlI .u64 (V.getD k 0) 16) ((wshift V k).2)) 4294967295)).map (Value.int .u64)) (ints_set) (H' := [⟨g3, 72, (((wshift V k).1).set k (andI .u64 (addW .u64 (shlI .u64 (V.getD k 0) 16) ((wshift V k).2)) 4294967295)).map (Value.int .u64), 4⟩, ⟨g2, 72, [Value.int .u64 0, Value.int .u64 0, Value.int .u64 0, Value.int .u64 0], 4⟩, ⟨g1, 72, V.map (Value.int .u64), 4⟩]) rfl ?_
    refine TL.nil ?_
    refine TE.then ?_
    refine TC.sub (Sub.cons (i := 1) rfl (Sub.cons (i := 2) rfl (Sub.cons (i := 3) rfl (Sub.cons (i := 4) rfl (Sub.cons (i := 5) rfl (Sub.cons (i := 6) rfl (Sub.nil))))))) ?_
    refine TC.regionL ?_
    refine TL.gets (Wants.none rfl) rfl (Gets.move rfl rfl) ?_
    refine TL.gets (Wants.none rfl) rfl (Gets.shr rfl rfl rfl (by omega) (r := (shrI .u64 (addW .u64 (shlI .u64 (V.getD k 0) 16) ((wshift V k).2)) 32)) rfl) ?_
    refine TL.gets (Wants.none rfl) rfl (Gets.assign rfl rfl) ?_
    refine TL.nil ?_
    refine TE.blockN ?_
    refine TE.then ?_
    refine TC.regionL ?_
    refine TL.gets (Wants.none rfl) rfl (Gets.move rfl rfl) ?_
    refine TL.gets (Wants.none rfl) rfl (Gets.add rfl rfl rfl (r := ((k : Int) + 1)) (w64 (by omega) (by omega))) ?_
    refine TL.gets (Wants.none rfl) rfl (Gets.assign rfl rfl) ?_
    refine TL.nil ?_
    exact TE.back (k + 1) (by omega) (by omega) (Sub.int (i := 3) rfl (by first | rfl | omega) (Sub.cons (i := 4) rfl (Sub.int (i := 5) rfl (by first | omega | rfl) (Sub.cons (i := 2) rfl (Sub.cons (i := 1) rfl (Sub.nil)))))) (fun w h => h)
  · obtain rfl : k = 4 := by omega
    have Dl := wshift_len V 4
    generalize hD : wshift V 4 = D at Dl ⊢
    refine TC.exit ?_
    refine TE.thenX ?_
    refine TE.thenX ?_
    refine TE.blockX ?_
    refine TE.then ?_
    refine TC.seq ?_
    refine TC.regionL ?_
    refine TL.gets (Wants.none rfl) rfl (Gets.loadN rfl agg72 size72 rfl (vs := D.1.map (Value.int .u64)) (by simp [Dl]) (Row.all (i := 0) (ent := ⟨g3, 72, D.1.map (Value.int .u64), 4⟩) rfl rfl rfl)) ?_
    refine TL.storeW (Wants.none rfl) rfl rfl size72 rfl (vs := D.1.map (Value.int .u64)) rfl (by simp [Dl]) ints_one (i := 1) (ent := ⟨g2, 72, [Value.int .u64 0, Value.int .u64 0, Value.int .u64 0, Value.int .u64 0], 4⟩) rfl rfl (by simp []) (H' := [⟨g3, 72, D.1.map (Value.int .u64), 4⟩, ⟨g2, 72, D.1.map (Value.int .u64), 4⟩, ⟨g1, 72, V.map (Value.int .u64), 4⟩]) rfl ?_
    refine TL.nil ?_
    refine TE.then ?_
    refine TC.ret ?_
    exact TE.retC rfl agg72 size72 rfl (vs := D.1.map (Value.int .u64)) (by simp [Dl]) (Row.all (i := 1) (ent := ⟨g2, 72, D.1.map (Value.int .u64), 4⟩) rfl rfl rfl) (fun w hs => ⟨rfl, (((hs.drop (by assumption)).drop (by assumption)).drop (by assumption))⟩)

set_option maxRecDepth 100000 in
set_option maxHeartbeats 400000 in
theorem wplus_c (V U : List Int) (w : World) (hV : V.length = 4) (hU : U.length = 4) : Calls Tryd.prog 44 #[.agg (V.map (Value.int .u64)).toArray, .agg (U.map (Value.int .u64)).toArray] w fun e w' => e = .returned (.agg ((wplus V U 4).1.map (Value.int .u64)).toArray) ∧ St w [] w' := by
  refine calls_from (args := [.agg (V.map (Value.int .u64)).toArray, .agg (U.map (Value.int .u64)).toArray]) Tryd.func44 rfl Tryd.ntmps44 (by simp) ?_
  refine TC.sub (Sub.cons (i := 0) rfl (Sub.cons (i := 1) rfl (Sub.nil))) ?_
  refine TC.seq ?_
  refine TC.regionL ?_
  refine TL.box (Wants.none rfl) rfl rfl rfl (cs := V.map (Value.int .u64)) (by simp [Value.cells]) (tot := 4) (by simp [hV]) (fun g1 hg1 => ?_)
  refine TL.box (Wants.none rfl) rfl rfl rfl (cs := U.map (Value.int .u64)) (by simp [Value.cells]) (tot := 4) (by simp [hU]) (fun g2 hg2 => ?_)
  refine TL.alloc (Wants.none rfl) rfl rfl zero72 (cs := [Value.int .u64 0, Value.int .u64 0, Value.int .u64 0, Value.int .u64 0]) rfl (tot := 4) (by simp) (fun g3 hg3 => ?_)
  refine TL.nil ?_
  refine TE.then ?_
  refine TC.seq ?_
  refine TC.regionL ?_
  refine TL.gets (Wants.none rfl) rfl (Gets.assign rfl rfl) ?_
  refine TL.nil ?_
  refine TE.then ?_
  refine TC.seq ?_
  refine TC.regionL ?_
  refine TL.alloc (Wants.none rfl) rfl rfl zero72 (cs := [Value.int .u64 0, Value.int .u64 0, Value.int .u64 0, Value.int .u64 0]) rfl (tot := 4) (by simp) (fun g4 hg4 => ?_)
  refine TL.nil ?_
  refine TE.then ?_
  refine TC.seq ?_
  refine TC.seq ?_
  refine TC.regionL ?_
  refine TL.gets (Wants.none rfl) rfl (Gets.assign rfl rfl) ?_
  refine TL.nil ?_
  refine TE.then ?_
  refine TC.block ?_
  refine TC.loop (ι := Nat) (fun k => [(5, .int .u64 ((wplus V U k).2)), (6, .pointer (some ⟨g4, 0, none⟩)), (7, .int .i64 (k : Int)), (4, .pointer (some ⟨g3, 0, none⟩)), (2, .pointer (some ⟨g1, 0, none⟩)), (3, .pointer (some ⟨g2, 0, none⟩))]) (fun k => [⟨g4, 72, ((wplus V U k).1).map (Value.int .u64), 4⟩, ⟨g3, 72, [Value.int .u64 0, Value.int .u64 0, Value.int .u64 0, Value.int .u64 0], 4⟩, ⟨g2, 72, U.map (Value.int .u64), 4⟩, ⟨g1, 72, V.map (Value.int .u64), 4⟩]) (fun k => 4 - k) (fun k => k ≤ 4) 0 (by omega) (Sub.int (i := 5) rfl (by first | rfl | omega) (Sub.cons (i := 6) rfl (Sub.int (i := 7) rfl (by first | omega | rfl) (Sub.cons (i := 4) rfl (Sub.cons (i := 2) rfl (Sub.cons (i := 3) rfl (Sub.nil))))))) (fun w h => h) (fun k hC0 => ?_)
  refine TC.seq ?_
  refine TC.seq ?_
  refine TC.regionL ?_
  refine TL.gets (Wants.none rfl) rfl (Gets.move rfl rfl) ?_
  refine TL.gets (Wants.none rfl) rfl (Gets.lss rfl rfl rfl) ?_
  refine TL.nil ?_
  refine TE.then ?_
  refine TC.split rfl (fun h0 => ?_) (fun h0 => ?_)
  · refine TC.skip ?_
    refine TE.then ?_
    refine TC.seq ?_
    refine TC.block ?_
    refine TC.seq ?_
    refine TC.mix (by kernel_rfl) [0, 0, 1, 0, 0, 1, 0, 0, 0, 0] rfl (by kernel_rfl) ?_
    refine TM.free (Wants.none rfl) rfl (fun _ => Gets.move rfl rfl) ?_
    refine TM.free (Wants.none rfl) rfl (fun _ => Gets.idxArray rfl Tryd.underlying72 size62 rfl rfl (i := k) (by omega) (by omega) (off' := k) (by omega)) ?_
    refine TM.gets (Wants.none rfl) rfl (Gets.load1 rfl agg62 rfl (At.ent (i := 3) (ent := ⟨g1, 72, V.map (Value.int .u64), 4⟩) (off := k) rfl rfl (by have := ints_get (kd := .u64) (W := V) (i := k) (by rw [hV]; omega); (first | exact this | (refine Eq.trans ?_ this; congr 1; omega))))) ?_
    refine TM.free (Wants.none rfl) rfl (fun _ => Gets.move rfl rfl) ?_
    refine TM.free (Wants.none rfl) rfl (fun _ => Gets.idxArray rfl Tryd.underlying72 size62 rfl rfl (i := k) (by omega) (by omega) (off' := k) (by omega)) ?_
    refine TM.gets (Wants.none rfl) rfl (Gets.load1 rfl agg62 rfl (At.ent (i := 2) (ent := ⟨g2, 72, U.map (Value.int .u64), 4⟩) (off := k) rfl rfl (by have := ints_get (kd := .u64) (W := U) (i := k) (by rw [hU]; omega); (first | exact this | (refine Eq.trans ?_ this; congr 1; omega))))) ?_
    refine TM.free (Wants.none rfl) rfl (fun _ => Gets.addU rfl rfl rfl) ?_
    refine TM.free (Wants.none rfl) rfl (fun _ => Gets.move rfl rfl) ?_
    refine TM.free (Wants.none rfl) rfl (fun _ => Gets.addU rfl rfl rfl) ?_
    refine TM.free (Wants.none rfl) rfl (fun _ => Gets.assign rfl rfl) ?_
    refine TM.nil ?_
    refine TE.then ?_
    refine TC.sub (Sub.cons (i := 2) rfl (Sub.cons (i := 3) rfl (Sub.cons (i := 4) rfl (Sub.cons (i := 5) rfl (Sub.cons (i := 6) rfl (Sub.cons (i := 7) rfl (Sub.cons (i := 8) rfl (Sub.nil)))))))) ?_
    refine TC.seq ?_
    refine TC.regionL ?_
    refine TL.gets (Wants.none rfl) rfl (Gets.move rfl rfl) ?_
    refine TL.gets (Wants.none rfl) rfl (Gets.move rfl rfl) ?_
    refine TL.gets (Wants.none rfl) rfl (Gets.and rfl rfl rfl (r := (andI .u64 (addW .u64 (addW .u64 (V.getD k 0) (U.getD k 0)) ((wplus V U k).2)) 4294967295)) rfl) ?_
    refine TL.gets (Wants.none rfl) rfl (Gets.idxArray rfl Tryd.underlying72 size62 rfl rfl (i := k) (by omega) (by omega) (off' := k) (by omega)) ?_
    refine TL.store1 (Wants.none rfl) rfl rfl size62 rfl rfl rfl (i := 0) rfl rfl (by simp [(wplus_len V U k)] <;> omega) (cs' := (((wplus V U k).1).set k (andI .u64 (addW .u64 (addW .u64 (V.getD k 0) (U.getD k 0)) ((wplus V U k).2)) 4294967295)).map (Value.int .u64)) (ints_set) (H' := [⟨g4, 72, (((wplus V U k).1).set k (andI .u64 (addW .u64 (addW .u64 (V.getD k 0) (U.getD k 0)) ((wplus V U k).2)) 4294967295)).map (Value.int .u64), 4⟩, ⟨g3, 72, [Value.int .u64 0, Value.int .u64 0, Value.int .u64 0, Value.int .u64 0], 4⟩, ⟨g2, 72, U.map (Value.int .u64), 4⟩, ⟨g1, 72, V.map (Value.int .u64), 4⟩]) rfl ?_
    refine TL.nil ?_
    refine TE.then ?_
    refine TC.sub (Sub.cons (i := 2) rfl (Sub.cons (i := 3) rfl (Sub.cons (i := 4) rfl (Sub.cons (i := 5) rfl (Sub.cons (i := 6) rfl (Sub.cons (i := 7) rfl (Sub.cons (i := 8) rfl (Sub.nil)))))))) ?_
    refine TC.regionL ?_
    refine TL.gets (Wants.none rfl) rfl (Gets.move rfl rfl) ?_
    refine TL.gets (Wants.none rfl) rfl (Gets.shr rfl rfl rfl (by omega) (r := (shrI .u64 (addW .u64 (addW .u64 (V.getD k 0) (U.getD k 0)) ((wplus V U k).2)) 32)) rfl) ?_
    refine TL.gets (Wants.none rfl) rfl (Gets.assign rfl rfl) ?_
    refine TL.nil ?_
    refine TE.blockN ?_
    refine TE.then ?_
    refine TC.sub (Sub.cons (i := 2) rfl (Sub.cons (i := 3) rfl (Sub.cons (i := 4) rfl (Sub.cons (i := 5) rfl (Sub.cons (i := 6) rfl (Sub.cons (i := 7) rfl (Sub.nil))))))) ?_
    refine TC.regionL ?_
    refine TL.gets (Wants.none rfl) rfl (Gets.move rfl rfl) ?_
    refine TL.gets (Wants.none rfl) rfl (Gets.add rfl rfl rfl (r := ((k : Int) + 1)) (w64 (by omega) (by omega))) ?_
    refine TL.gets (Wants.none rfl) rfl (Gets.assign rfl rfl) ?_
    refine TL.nil ?_
    exact TE.back (k + 1) (by omega) (by omega) (Sub.int (i := 5) rfl (by first | rfl | omega) (Sub.cons (i := 6) rfl (Sub.int (i := 7) rfl (by first | omega | rfl) (Sub.cons (i := 4) rfl (Sub.cons (i := 2) rfl (Sub.cons (i := 3) rfl (Sub.nil))))))) (fun w h => h)
  · obtain rfl : k = 4 := by omega
    have Dl := wplus_len V U 4
    generalize hD : wplus V U 4 = D at Dl ⊢
    refine TC.exit ?_
    refine TE.thenX ?_
    refine TE.thenX ?_
    refine TE.blockX ?_
    refine TE.then ?_
    refine TC.seq ?_
    refine TC.regionL ?_
    refine TL.gets (Wants.none rfl) rfl (Gets.loadN rfl agg72 size72 rfl (vs := D.1.map (Value.int .u64)) (by simp [Dl]) (Row.all (i := 0) (ent := ⟨g4, 72, D.1.map (Value.int .u64), 4⟩) rfl rfl rfl)) ?_
    refine TL.storeW (Wants.none rfl) rfl rfl size72 rfl (vs := D.1.map (Value.int .u64)) rfl (by simp [Dl]) ints_one (i := 1) (ent := ⟨g3, 72, [Value.int .u64 0, Value.int .u64 0, Value.int .u64 0, Value.int .u64 0], 4⟩) rfl rfl (by simp []) (H' := [⟨g4, 72, D.1.map (Value.int .u64), 4⟩, ⟨g3, 72, D.1.map (Value.int .u64), 4⟩, ⟨g2, 72, U.map (Value.int .u64), 4⟩, ⟨g1, 72, V.map (Value.int .u64), 4⟩]) rfl ?_
    refine TL.nil ?_
    refine TE.then ?_
    refine TC.ret ?_
    exact TE.retC rfl agg72 size72 rfl (vs := D.1.map (Value.int .u64)) (by simp [Dl]) (Row.all (i := 1) (ent := ⟨g3, 72, D.1.map (Value.int .u64), 4⟩) rfl rfl rfl) (fun w hs => ⟨rfl, ((((hs.drop (by assumption)).drop (by assumption)).drop (by assumption)).drop (by assumption))⟩)

attribute [irreducible] wscale wshift wplus
end Go.Proofs.YtdcphpmkhekghaaDoor
