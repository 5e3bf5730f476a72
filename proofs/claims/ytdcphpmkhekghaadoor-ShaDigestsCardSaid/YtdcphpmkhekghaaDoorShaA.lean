/-
  Contracts of package sha: words, the schedule and the mixing of a block.
-/
import Derived.Test.YtdcphpmkhekghaaDoorMem
import Derived.Test.YtdcphpmkhekghaaDoorMix
import Derived.Test.YtdcphpmkhekghaaDoorProg
namespace Go.Proofs.YtdcphpmkhekghaaDoor
set_option linter.unusedVariables false
set_option linter.unusedSimpArgs false
open Go Go.RowKit
theorem agg5 : (isAgg 5).run Tryd.prog = fun w => .ok false w := isAgg_no Tryd.underlying5 rfl
theorem agg48 : (isAgg 48).run Tryd.prog = fun w => .ok false w := isAgg_no Tryd.underlying48 rfl
theorem agg68 : (isAgg 68).run Tryd.prog = fun w => .ok true w := isAgg_yes Tryd.underlying68 rfl
theorem enters38 : Enters Tryd.prog 38 := ⟨_, Tryd.func38, by kernel_rfl, by kernel_rfl⟩
theorem enters39 : Enters Tryd.prog 39 := ⟨_, Tryd.func39, by kernel_rfl, by kernel_rfl⟩
theorem enters42 : Enters Tryd.prog 42 := ⟨_, Tryd.func42, by kernel_rfl, by kernel_rfl⟩
theorem size5 : (Tryd.prog.info? 5).map (·.size) = some 1 := by kernel_rfl
theorem size48 : (Tryd.prog.info? 48).map (·.size) = some 1 := by kernel_rfl
theorem size68 : (Tryd.prog.info? 68).map (·.size) = some 64 := by kernel_rfl
theorem zero68 : (Tryd.prog.info? 68).bind (·.zero) = some (.agg #[.int .u32 0, .int .u32 0, .int .u32 0, .int .u32 0, .int .u32 0, .int .u32 0, .int .u32 0, .int .u32 0, .int .u32 0, .int .u32 0, .int .u32 0, .int .u32 0, .int .u32 0, .int .u32 0, .int .u32 0, .int .u32 0, .int .u32 0, .int .u32 0, .int .u32 0, .int .u32 0, .int .u32 0, .int .u32 0, .int .u32 0, .int .u32 0, .int .u32 0, .int .u32 0, .int .u32 0, .int .u32 0, .int .u32 0, .int .u32 0, .int .u32 0, .int .u32 0, .int .u32 0, .int .u32 0, .int .u32 0, .int .u32 0, .int .u32 0, .int .u32 0, .int .u32 0, .int .u32 0, .int .u32 0, .int .u32 0, .int .u32 0, .int .u32 0, .int .u32 0, .int .u32 0, .int .u32 0, .int .u32 0, .int .u32 0, .int .u32 0, .int .u32 0, .int .u32 0, .int .u32 0, .int .u32 0, .int .u32 0, .int .u32 0, .int .u32 0, .int .u32 0, .int .u32 0, .int .u32 0, .int .u32 0, .int .u32 0, .int .u32 0, .int .u32 0]) := by kernel_rfl

/-- A word rotated to the right, as the program's text computes it. -/
def rotr (x : Int) (n : Nat) : Int := orI .u32 (shlI .u32 x (32 - n)) (shrI .u32 x n)

theorem wrap_neg (m : Nat) (h1 : 1 ≤ m) (h2 : m ≤ 31) : IntKind.u64.wrap (-(m : Int)) = 18446744073709551616 - m := by
  simp [IntKind.wrap, IntKind.bits, IntKind.signed]; omega
theorem and_neg (m : Nat) (h1 : 1 ≤ m) (h2 : m ≤ 31) : andI .u64 (18446744073709551616 - (m : Int)) 31 = 32 - m := by
  have : ∀ k : Fin 32, 1 ≤ k.val → andI .u64 (18446744073709551616 - (k.val : Int)) 31 = 32 - (k.val : Int) := by decide +kernel
  exact this ⟨m, by omega⟩ h1
theorem rotl_eq (x : Int) (m : Nat) (h1 : 1 ≤ m) (h2 : m ≤ 31) : Ending.returned (.int .u32 (orI .u32 (shlI .u32 x (32 - (m : Int))) (shrI .u32 x (m : Int)))) = .returned (.int .u32 (rotr x m)) := rfl

set_option maxRecDepth 100000 in
set_option maxHeartbeats 400000 in
theorem rotl_c (x : Int) (m : Nat) (w : World) (h1 : 1 ≤ m) (h2 : m ≤ 31) : Calls Tryd.prog 42 #[.int .u32 x, .int .i64 (-(m : Int))] w fun e w' => e = .returned (.int .u32 (rotr x m)) ∧ St w [] w' := by
  refine calls_from (args := [.int .u32 x, .int .i64 (-(m : Int))]) Tryd.func42 rfl Tryd.ntmps42 (by simp) ?_
  refine TC.sub (Sub.cons (i := 0) rfl (Sub.cons (i := 1) rfl (Sub.nil))) ?_
  refine TC.seq ?_
  refine TC.regionL ?_
  refine TL.gets (Wants.none rfl) rfl (Gets.assign rfl rfl) ?_
  refine TL.nil ?_
  refine TE.then ?_
  refine TC.seq ?_
  refine TC.regionL ?_
  refine TL.gets (Wants.none rfl) rfl (Gets.move rfl rfl) ?_
  refine TL.gets (Wants.none rfl) rfl (Gets.conv rfl Tryd.underlying3 Tryd.underlying57 rfl (r := (18446744073709551616 - (m : Int))) (wrap_neg m (by omega) (by omega))) ?_
  refine TL.gets (Wants.none rfl) rfl (Gets.and rfl rfl rfl (r := (32 - (m : Int))) (and_neg m (by omega) (by omega))) ?_
  refine TL.gets (Wants.none rfl) rfl (Gets.assign rfl rfl) ?_
  refine TL.nil ?_
  refine TE.then ?_
  refine TC.seq ?_
  refine TC.regionL ?_
  refine TL.gets (Wants.none rfl) rfl (Gets.move rfl rfl) ?_
  refine TL.gets (Wants.none rfl) rfl (Gets.move rfl rfl) ?_
  refine TL.gets (Wants.none rfl) rfl (Gets.shl rfl rfl rfl (by omega) (r := (shlI .u32 x (32 - (m : Int)))) rfl) ?_
  refine TL.gets (Wants.none rfl) rfl (Gets.move rfl rfl) ?_
  refine TL.gets (Wants.none rfl) rfl (Gets.move rfl rfl) ?_
  refine TL.gets (Wants.none rfl) rfl (Gets.sub rfl rfl rfl (r := (m : Int)) (wu64 (by omega) (by omega))) ?_
  refine TL.gets (Wants.none rfl) rfl (Gets.shr rfl rfl rfl (by omega) (r := (shrI .u32 x (m : Int))) rfl) ?_
  refine TL.gets (Wants.none rfl) rfl (Gets.or rfl rfl rfl (r := (orI .u32 (shlI .u32 x (32 - (m : Int))) (shrI .u32 x (m : Int)))) rfl) ?_
  refine TL.gets (Wants.none rfl) rfl (Gets.assign rfl rfl) ?_
  refine TL.nil ?_
  refine TE.then ?_
  refine TC.ret ?_
  exact TE.ret1 rfl rfl (fun w hs => ⟨rotl_eq x m h1 h2, hs⟩)

attribute [irreducible] rotr

set_option maxRecDepth 100000 in
set_option maxHeartbeats 400000 in
theorem right_c (x : Int) (m : Nat) (w : World) (h1 : 1 ≤ m) (h2 : m ≤ 31) : Calls Tryd.prog 39 #[.int .u32 x, .int .i64 (m : Int)] w fun e w' => e = .returned (.int .u32 (rotr x m)) ∧ St w [] w' := by
  refine calls_from (args := [.int .u32 x, .int .i64 (m : Int)]) Tryd.func39 rfl Tryd.ntmps39 (by simp) ?_
  refine TC.sub (Sub.cons (i := 0) rfl (Sub.cons (i := 1) rfl (Sub.nil))) ?_
  refine TC.seq ?_
  refine TC.regionL ?_
  refine TL.gets (Wants.none rfl) rfl (Gets.assign rfl rfl) ?_
  refine TL.nil ?_
  refine TE.then ?_
  refine TC.seq ?_
  refine TC.regionL ?_
  refine TL.gets (Wants.none rfl) rfl (Gets.move rfl rfl) ?_
  refine TL.gets (Wants.none rfl) rfl (Gets.move rfl rfl) ?_
  refine TL.gets (Wants.none rfl) rfl (Gets.neg rfl rfl (r := (-(m : Int))) (w64 (by omega) (by omega))) ?_
  refine TL.call0 (Wants.none rfl) rfl enters42 rfl rfl (v := .int .u32 (rotr x m)) (fun w hs => rotl_c x m w h1 h2) ?_
  refine TL.gets (Wants.none rfl) rfl (Gets.assign rfl rfl) ?_
  refine TL.nil ?_
  refine TE.then ?_
  refine TC.ret ?_
  exact TE.ret1 rfl rfl (fun w hs => ⟨rfl, hs⟩)


/-- Word t of a block of bytes. -/
def wordAt (B : List Int) (t : Nat) : Int := orI .u32 (orI .u32 (orI .u32 (shlI .u32 (IntKind.u32.wrap (B.getD (4 * t) 0)) 24) (shlI .u32 (IntKind.u32.wrap (B.getD (4 * t + 1) 0)) 16)) (shlI .u32 (IntKind.u32.wrap (B.getD (4 * t + 2) 0)) 8)) (IntKind.u32.wrap (B.getD (4 * t + 3) 0))
def w16 (B : List Int) : Nat → List Int
  | 0 => List.replicate 64 0
  | k + 1 => (w16 B k).set k (wordAt B k)
def sig0 (x : Int) : Int := xorI .u32 (xorI .u32 (rotr x 7) (rotr x 18)) (shrI .u32 x 3)
def sig1 (x : Int) : Int := xorI .u32 (xorI .u32 (rotr x 17) (rotr x 19)) (shrI .u32 x 10)
def sch (V : List Int) : Nat → List Int
  | 0 => V
  | j + 1 => (sch V j).set (j + 16) (addW .u32 (addW .u32 (addW .u32 (sig1 ((sch V j).getD (j + 14) 0)) ((sch V j).getD (j + 9) 0)) (sig0 ((sch V j).getD (j + 1) 0))) ((sch V j).getD j 0))
theorem w16_len (B : List Int) : ∀ k, (w16 B k).length = 64
  | 0 => by simp [w16]
  | k + 1 => by simp [w16, w16_len B k]
theorem sch_len {V : List Int} (h : V.length = 64) : ∀ j, (sch V j).length = 64
  | 0 => h
  | j + 1 => by simp [sch, sch_len h j]
/-- The words W of a block. -/
def sched (B : List Int) : List Int := sch (w16 B 16) 48
theorem sched_len (B : List Int) : (sched B).length = 64 := sch_len (w16_len B 16) 48

set_option maxRecDepth 100000 in
set_option maxHeartbeats 400000 in
theorem schedule_c (B : List Int) (b off cap : Nat) (w : World) (hb : b < w.heap.size) (hB : RowI w b off 64 .u8 B) (hcap : 64 ≤ cap) : Calls Tryd.prog 38 #[.slice (some ⟨b, off, none⟩) 64 cap] w fun e w' => e = .returned (.agg ((sched B).map (Value.int .u32)).toArray) ∧ St w [] w' := by
  refine calls_from (args := [.slice (some ⟨b, off, none⟩) 64 cap]) Tryd.func38 rfl Tryd.ntmps38 (by simp) ?_
  refine TC.sub (Sub.cons (i := 0) rfl (Sub.nil)) ?_
  refine TC.seq ?_
  refine TC.regionL ?_
  refine TL.alloc (Wants.none rfl) rfl rfl zero68 (cs := (List.replicate 64 0).map (Value.int .u32)) rfl (tot := 64) (by simp) (fun g1 hg1 => ?_)
  refine TL.nil ?_
  refine TE.then ?_
  refine TC.seq ?_
  refine TC.regionL ?_
  refine TL.alloc (Wants.none rfl) rfl rfl zero68 (cs := (List.replicate 64 0).map (Value.int .u32)) rfl (tot := 64) (by simp) (fun g2 hg2 => ?_)
  refine TL.nil ?_
  refine TE.then ?_
  refine TC.seq ?_
  refine TC.seq ?_
  refine TC.regionL ?_
  refine TL.gets (Wants.none rfl) rfl (Gets.move rfl rfl) ?_
  refine TL.nil ?_
  refine TE.then ?_
  refine TC.block ?_
  refine TC.loop (ι := Nat) (fun k => [(0, .slice (some ⟨b, off, none⟩) 64 cap), (2, .pointer (some ⟨g1, 0, none⟩)), (3, .pointer (some ⟨g2, 0, none⟩)), (11, .int .i64 (k : Int))]) (fun k => [⟨g2, 68, (w16 B k).map (Value.int .u32), 64⟩, ⟨g1, 68, (List.replicate 64 0).map (Value.int .u32), 64⟩]) (fun k => 16 - k) (fun k => k ≤ 16) 0 (by omega) (Sub.slice (i := 0) rfl rfl (by first | omega | (dsimp only; omega) | rfl) (by first | omega | (dsimp only; omega) | rfl) (Sub.cons (i := 2) rfl (Sub.cons (i := 3) rfl (Sub.int (i := 11) rfl (by first | omega | rfl) (Sub.nil))))) (fun w h => h) (fun k hC0 => ?_)
  refine TC.seq ?_
  refine TC.regionL ?_
  refine TL.gets (Wants.none rfl) rfl (Gets.lss rfl rfl rfl) ?_
  refine TL.nil ?_
  refine TE.then ?_
  refine TC.seq ?_
  refine TC.split rfl (fun h0 => ?_) (fun h0 => ?_)
  · refine TC.skip ?_
    refine TE.then ?_
    refine TC.seq ?_
    refine TC.block ?_
    refine TC.seq ?_
    refine TC.regionL ?_
    refine TL.gets (Wants.none rfl) rfl (Gets.move rfl rfl) ?_
    refine TL.gets (Wants.none rfl) rfl (Gets.assign rfl rfl) ?_
    refine TL.nil ?_
    refine TE.then ?_
    refine TC.seq ?_
    refine TC.regionL ?_
    refine TL.gets (Wants.none rfl) rfl (Gets.move rfl rfl) ?_
    refine TL.gets (Wants.none rfl) rfl (Gets.move rfl rfl) ?_
    refine TL.gets (Wants.none rfl) rfl (Gets.mul rfl rfl rfl (r := (4 * (k : Int))) (w64 (by omega) (by omega))) ?_
    refine TL.gets (Wants.none rfl) rfl (Gets.move rfl rfl) ?_
    refine TL.gets (Wants.none rfl) rfl (Gets.mul rfl rfl rfl (r := (4 * (k : Int))) (w64 (by omega) (by omega))) ?_
    refine TL.gets (Wants.none rfl) rfl (Gets.add rfl rfl rfl (r := (4 * (k : Int) + 4)) (w64 (by omega) (by omega))) ?_
    refine TL.gets (Wants.none rfl) rfl (Gets.sliceS rfl Tryd.underlying22 size5 rfl (bnd.at_ (l := (4 * k)) rfl (by omega)) (bnd.at_ (l := (4 * k + 4)) rfl (by omega)) (by omega) (by omega) (A' := some ⟨b, (off + 4 * k), none⟩) (cut_is (by omega) (by omega)) (ln := 4) (cp := (cap - 4 * k)) (by omega) (by omega)) ?_
    refine TL.gets (Wants.none rfl) rfl (Gets.assign rfl rfl) ?_
    refine TL.nil ?_
    refine TE.then ?_
    refine TC.sub (Sub.cons (i := 0) rfl (Sub.cons (i := 2) rfl (Sub.cons (i := 3) rfl (Sub.cons (i := 4) rfl (Sub.cons (i := 5) rfl (Sub.cons (i := 11) rfl (Sub.nil))))))) ?_
    refine TC.mix (by kernel_rfl) [0, 0, 0, 1, 1, 0, 0, 0, 1, 1, 0, 0, 0, 0, 1, 1, 0, 0, 0, 0, 1, 1, 0, 0, 2] rfl (by kernel_rfl) ?_
    refine TM.free (Wants.none rfl) rfl (fun _ => Gets.move rfl rfl) ?_
    refine TM.free (Wants.none rfl) rfl (fun _ => Gets.move rfl rfl) ?_
    refine TM.free (Wants.none rfl) rfl (fun _ => Gets.idxSlice rfl Tryd.underlying22 size5 rfl rfl (i := 0) (by rfl) (by omega) (off' := (off + 4 * k)) (by omega)) ?_
    refine TM.gets (Wants.none rfl) rfl (Gets.load1 rfl agg5 rfl (At.rowI hB (i := (4 * k)) (by omega) (by omega) hb (ne_cons (by show g2 ≠ b; omega) (ne_cons (by show g1 ≠ b; omega) ne_nil)))) ?_
    refine TM.gets (Wants.none rfl) rfl (Gets.conv rfl Tryd.underlying5 Tryd.underlying48 rfl (r := (IntKind.u32.wrap (B.getD (4 * k) 0))) rfl) ?_
    refine TM.free (Wants.none rfl) rfl (fun _ => Gets.shl rfl rfl rfl (by omega) (r := (shlI .u32 (IntKind.u32.wrap (B.getD (4 * k) 0)) 24)) rfl) ?_
    refine TM.free (Wants.none rfl) rfl (fun _ => Gets.move rfl rfl) ?_
    refine TM.free (Wants.none rfl) rfl (fun _ => Gets.idxSlice rfl Tryd.underlying22 size5 rfl rfl (i := 1) (by rfl) (by omega) (off' := (off + 4 * k + 1)) (by omega)) ?_
    refine TM.gets (Wants.none rfl) rfl (Gets.load1 rfl agg5 rfl (At.rowI hB (i := (4 * k + 1)) (by omega) (by omega) hb (ne_cons (by show g2 ≠ b; omega) (ne_cons (by show g1 ≠ b; omega) ne_nil)))) ?_
    refine TM.gets (Wants.none rfl) rfl (Gets.conv rfl Tryd.underlying5 Tryd.underlying48 rfl (r := (IntKind.u32.wrap (B.getD (4 * k + 1) 0))) rfl) ?_
    refine TM.free (Wants.none rfl) rfl (fun _ => Gets.shl rfl rfl rfl (by omega) (r := (shlI .u32 (IntKind.u32.wrap (B.getD (4 * k + 1) 0)) 16)) rfl) ?_
    refine TM.free (Wants.none rfl) rfl (fun _ => Gets.or rfl rfl rfl (r := (orI .u32 (shlI .u32 (IntKind.u32.wrap (B.getD (4 * k) 0)) 24) (shlI .u32 (IntKind.u32.wrap (B.getD (4 * k + 1) 0)) 16))) rfl) ?_
    refine TM.free (Wants.none rfl) rfl (fun _ => Gets.move rfl rfl) ?_
    refine TM.free (Wants.none rfl) rfl (fun _ => Gets.idxSlice rfl Tryd.underlying22 size5 rfl rfl (i := 2) (by rfl) (by omega) (off' := (off + 4 * k + 2)) (by omega)) ?_
    refine TM.gets (Wants.none rfl) rfl (Gets.load1 rfl agg5 rfl (At.rowI hB (i := (4 * k + 2)) (by omega) (by omega) hb (ne_cons (by show g2 ≠ b; omega) (ne_cons (by show g1 ≠ b; omega) ne_nil)))) ?_
    refine TM.gets (Wants.none rfl) rfl (Gets.conv rfl Tryd.underlying5 Tryd.underlying48 rfl (r := (IntKind.u32.wrap (B.getD (4 * k + 2) 0))) rfl) ?_
    refine TM.free (Wants.none rfl) rfl (fun _ => Gets.shl rfl rfl rfl (by omega) (r := (shlI .u32 (IntKind.u32.wrap (B.getD (4 * k + 2) 0)) 8)) rfl) ?_
    refine TM.free (Wants.none rfl) rfl (fun _ => Gets.or rfl rfl rfl (r := (orI .u32 (orI .u32 (shlI .u32 (IntKind.u32.wrap (B.getD (4 * k) 0)) 24) (shlI .u32 (IntKind.u32.wrap (B.getD (4 * k + 1) 0)) 16)) (shlI .u32 (IntKind.u32.wrap (B.getD (4 * k + 2) 0)) 8))) rfl) ?_
    refine TM.free (Wants.none rfl) rfl (fun _ => Gets.move rfl rfl) ?_
    refine TM.free (Wants.none rfl) rfl (fun _ => Gets.idxSlice rfl Tryd.underlying22 size5 rfl rfl (i := 3) (by rfl) (by omega) (off' := (off + 4 * k + 3)) (by omega)) ?_
    refine TM.gets (Wants.none rfl) rfl (Gets.load1 rfl agg5 rfl (At.rowI hB (i := (4 * k + 3)) (by omega) (by omega) hb (ne_cons (by show g2 ≠ b; omega) (ne_cons (by show g1 ≠ b; omega) ne_nil)))) ?_
    refine TM.gets (Wants.none rfl) rfl (Gets.conv rfl Tryd.underlying5 Tryd.underlying48 rfl (r := (IntKind.u32.wrap (B.getD (4 * k + 3) 0))) rfl) ?_
    refine TM.free (Wants.none rfl) rfl (fun _ => Gets.or rfl rfl rfl (r := (orI .u32 (orI .u32 (orI .u32 (shlI .u32 (IntKind.u32.wrap (B.getD (4 * k) 0)) 24) (shlI .u32 (IntKind.u32.wrap (B.getD (4 * k + 1) 0)) 16)) (shlI .u32 (IntKind.u32.wrap (B.getD (4 * k + 2) 0)) 8)) (IntKind.u32.wrap (B.getD (4 * k + 3) 0)))) rfl) ?_
    refine TM.free (Wants.none rfl) rfl (fun _ => Gets.idxArray rfl Tryd.underlying68 size48 rfl rfl (i := k) (by omega) (by omega) (off' := k) (by omega)) ?_
    refine TM.store1 (Wants.none rfl) rfl rfl size48 rfl rfl rfl (i := 0) rfl rfl (by simp [(w16_len B k)] <;> omega) (cs' := ((w16 B k).set k (orI .u32 (orI .u32 (orI .u32 (shlI .u32 (IntKind.u32.wrap (B.getD (4 * k) 0)) 24) (shlI .u32 (IntKind.u32.wrap (B.getD (4 * k + 1) 0)) 16)) (shlI .u32 (IntKind.u32.wrap (B.getD (4 * k + 2) 0)) 8)) (IntKind.u32.wrap (B.getD (4 * k + 3) 0)))).map (Value.int .u32)) (ints_set) (H' := [⟨g2, 68, ((w16 B k).set k (orI .u32 (orI .u32 (orI .u32 (shlI .u32 (IntKind.u32.wrap (B.getD (4 * k) 0)) 24) (shlI .u32 (IntKind.u32.wrap (B.getD (4 * k + 1) 0)) 16)) (shlI .u32 (IntKind.u32.wrap (B.getD (4 * k + 2) 0)) 8)) (IntKind.u32.wrap (B.getD (4 * k + 3) 0)))).map (Value.int .u32), 64⟩, ⟨g1, 68, (List.replicate 64 0).map (Value.int .u32), 64⟩]) rfl ?_
    refine TM.nil ?_
    refine TE.blockN ?_
    refine TE.then ?_
    refine TC.sub (Sub.cons (i := 0) rfl (Sub.cons (i := 2) rfl (Sub.cons (i := 3) rfl (Sub.cons (i := 11) rfl (Sub.nil))))) ?_
    refine TC.regionL ?_
    refine TL.gets (Wants.none rfl) rfl (Gets.add rfl rfl rfl (r := ((k : Int) + 1)) (w64 (by omega) (by omega))) ?_
    refine TL.gets (Wants.none rfl) rfl (Gets.move rfl rfl) ?_
    refine TL.nil ?_
    exact TE.back (k + 1) (by omega) (by omega) (Sub.slice (i := 0) rfl rfl (by first | omega | (dsimp only; omega) | rfl) (by first | omega | (dsimp only; omega) | rfl) (Sub.cons (i := 2) rfl (Sub.cons (i := 3) rfl (Sub.int (i := 11) rfl (by first | omega | rfl) (Sub.nil))))) (fun w h => h)
  · obtain rfl : k = 16 := by omega
    refine TC.exit ?_
    refine TE.thenX ?_
    refine TE.thenX ?_
    refine TE.blockX ?_
    refine TE.then ?_
    refine TC.seq ?_
    refine TC.seq ?_
    refine TC.regionL ?_
    refine TL.gets (Wants.none rfl) rfl (Gets.assign rfl rfl) ?_
    refine TL.nil ?_
    refine TE.then ?_
    refine TC.block ?_
    refine TC.loop (ι := Nat) (fun j => [(2, .pointer (some ⟨g1, 0, none⟩)), (3, .pointer (some ⟨g2, 0, none⟩)), (6, .int .i64 ((j : Int) + 16))]) (fun j => [⟨g2, 68, (sch (w16 B 16) j).map (Value.int .u32), 64⟩, ⟨g1, 68, (List.replicate 64 0).map (Value.int .u32), 64⟩]) (fun j => 48 - j) (fun j => j ≤ 48) 0 (by omega) (Sub.cons (i := 2) rfl (Sub.cons (i := 3) rfl (Sub.int (i := 6) rfl (by first | omega | rfl) (Sub.nil)))) (fun w h => h) (fun j hC1 => ?_)
    refine TC.seq ?_
    refine TC.seq ?_
    refine TC.regionL ?_
    refine TL.gets (Wants.none rfl) rfl (Gets.move rfl rfl) ?_
    refine TL.gets (Wants.none rfl) rfl (Gets.lss rfl rfl rfl) ?_
    refine TL.nil ?_
    refine TE.then ?_
    refine TC.split rfl (fun h1 => ?_) (fun h1 => ?_)
    · refine TC.skip ?_
      refine TE.then ?_
      refine TC.seq ?_
      refine TC.block ?_
      refine TC.seq ?_
      refine TC.mix (by kernel_rfl) [0, 0, 0, 1, 0, 0, 0, 1, 0, 0] rfl (by kernel_rfl) ?_
      refine TM.free (Wants.none rfl) rfl (fun _ => Gets.move rfl rfl) ?_
      refine TM.free (Wants.none rfl) rfl (fun _ => Gets.sub rfl rfl rfl (r := ((j : Int) + 1)) (w64 (by omega) (by omega))) ?_
      refine TM.free (Wants.none rfl) rfl (fun _ => Gets.idxArray rfl Tryd.underlying68 size48 rfl rfl (i := (j + 1)) (by omega) (by omega) (off' := (j + 1)) (by omega)) ?_
      refine TM.gets (Wants.none rfl) rfl (Gets.load1 rfl agg48 rfl (At.ent (i := 0) (ent := ⟨g2, 68, (sch (w16 B 16) j).map (Value.int .u32), 64⟩) (off := (j + 1)) rfl rfl (by have := ints_get (kd := .u32) (W := sch (w16 B 16) j) (i := (j + 1)) (by rw [(sch_len (w16_len B 16) j)]; omega); (first | exact this | (refine Eq.trans ?_ this; congr 1; omega))))) ?_
      refine TM.free (Wants.none rfl) rfl (fun _ => Gets.move rfl rfl) ?_
      refine TM.free (Wants.none rfl) rfl (fun _ => Gets.sub rfl rfl rfl (r := ((j : Int) + 14)) (w64 (by omega) (by omega))) ?_
      refine TM.free (Wants.none rfl) rfl (fun _ => Gets.idxArray rfl Tryd.underlying68 size48 rfl rfl (i := (j + 14)) (by omega) (by omega) (off' := (j + 14)) (by omega)) ?_
      refine TM.gets (Wants.none rfl) rfl (Gets.load1 rfl agg48 rfl (At.ent (i := 0) (ent := ⟨g2, 68, (sch (w16 B 16) j).map (Value.int .u32), 64⟩) (off := (j + 14)) rfl rfl (by have := ints_get (kd := .u32) (W := sch (w16 B 16) j) (i := (j + 14)) (by rw [(sch_len (w16_len B 16) j)]; omega); (first | exact this | (refine Eq.trans ?_ this; congr 1; omega))))) ?_
      refine TM.free (Wants.none rfl) rfl (fun _ => Gets.assign rfl rfl) ?_
      refine TM.free (Wants.none rfl) rfl (fun _ => Gets.assign rfl rfl) ?_
      refine TM.nil ?_
      refine TE.then ?_
      refine TC.sub (Sub.cons (i := 2) rfl (Sub.cons (i := 3) rfl (Sub.cons (i := 6) rfl (Sub.cons (i := 7) rfl (Sub.cons (i := 8) rfl (Sub.nil)))))) ?_
      refine TC.seq ?_
      refine TC.regionL ?_
      refine TL.gets (Wants.none rfl) rfl (Gets.move rfl rfl) ?_
      refine TL.call0 (Wants.none rfl) rfl enters39 rfl rfl (v := .int .u32 (rotr ((sch (w16 B 16) j).getD (j + 1) 0) 7)) (fun w hs => right_c ((sch (w16 B 16) j).getD (j + 1) 0) 7 w (by omega) (by omega)) ?_
      refine TL.gets (Wants.none rfl) rfl (Gets.move rfl rfl) ?_
      refine TL.call0 (Wants.none rfl) rfl enters39 rfl rfl (v := .int .u32 (rotr ((sch (w16 B 16) j).getD (j + 1) 0) 18)) (fun w hs => right_c ((sch (w16 B 16) j).getD (j + 1) 0) 18 w (by omega) (by omega)) ?_
      refine TL.gets (Wants.none rfl) rfl (Gets.xor rfl rfl rfl (r := (xorI .u32 (rotr ((sch (w16 B 16) j).getD (j + 1) 0) 7) (rotr ((sch (w16 B 16) j).getD (j + 1) 0) 18))) rfl) ?_
      refine TL.gets (Wants.none rfl) rfl (Gets.move rfl rfl) ?_
      refine TL.gets (Wants.none rfl) rfl (Gets.shr rfl rfl rfl (by omega) (r := (shrI .u32 ((sch (w16 B 16) j).getD (j + 1) 0) 3)) rfl) ?_
      refine TL.gets (Wants.none rfl) rfl (Gets.xor rfl rfl rfl (r := (xorI .u32 (xorI .u32 (rotr ((sch (w16 B 16) j).getD (j + 1) 0) 7) (rotr ((sch (w16 B 16) j).getD (j + 1) 0) 18)) (shrI .u32 ((sch (w16 B 16) j).getD (j + 1) 0) 3))) rfl) ?_
      refine TL.gets (Wants.none rfl) rfl (Gets.assign rfl rfl) ?_
      refine TL.nil ?_
      refine TE.then ?_
      refine TC.sub (Sub.cons (i := 2) rfl (Sub.cons (i := 3) rfl (Sub.cons (i := 6) rfl (Sub.cons (i := 8) rfl (Sub.cons (i := 9) rfl (Sub.nil)))))) ?_
      refine TC.seq ?_
      refine TC.regionL ?_
      refine TL.gets (Wants.none rfl) rfl (Gets.move rfl rfl) ?_
      refine TL.call0 (Wants.none rfl) rfl enters39 rfl rfl (v := .int .u32 (rotr ((sch (w16 B 16) j).getD (j + 14) 0) 17)) (fun w hs => right_c ((sch (w16 B 16) j).getD (j + 14) 0) 17 w (by omega) (by omega)) ?_
      refine TL.gets (Wants.none rfl) rfl (Gets.move rfl rfl) ?_
      refine TL.call0 (Wants.none rfl) rfl enters39 rfl rfl (v := .int .u32 (rotr ((sch (w16 B 16) j).getD (j + 14) 0) 19)) (fun w hs => right_c ((sch (w16 B 16) j).getD (j + 14) 0) 19 w (by omega) (by omega)) ?_
      refine TL.gets (Wants.none rfl) rfl (Gets.xor rfl rfl rfl (r := (xorI .u32 (rotr ((sch (w16 B 16) j).getD (j + 14) 0) 17) (rotr ((sch (w16 B 16) j).getD (j + 14) 0) 19))) rfl) ?_
      refine TL.gets (Wants.none rfl) rfl (Gets.move rfl rfl) ?_
      refine TL.gets (Wants.none rfl) rfl (Gets.shr rfl rfl rfl (by omega) (r := (shrI .u32 ((sch (w16 B 16) j).getD (j + 14) 0) 10)) rfl) ?_
      refine TL.gets (Wants.none rfl) rfl (Gets.xor rfl rfl rfl (r := (xorI .u32 (xorI .u32 (rotr ((sch (w16 B 16) j).getD (j + 14) 0) 17) (rotr ((sch (w16 B 16) j).getD (j + 14) 0) 19)) (shrI .u32 ((sch (w16 B 16) j).getD (j + 14) 0) 10))) rfl) ?_
      refine TL.gets (Wants.none rfl) rfl (Gets.assign rfl rfl) ?_
      refine TL.nil ?_
      refine TE.then ?_
      refine TC.sub (Sub.cons (i := 2) rfl (Sub.cons (i := 3) rfl (Sub.cons (i := 6) rfl (Sub.cons (i := 9) rfl (Sub.cons (i := 10) rfl (Sub.nil)))))) ?_
      refine TC.mix (by kernel_rfl) [0, 0, 0, 0, 0, 1, 0, 0, 0, 0, 0, 0, 1, 0, 0, 2] rfl (by kernel_rfl) ?_
      refine TM.free (Wants.none rfl) rfl (fun _ => Gets.move rfl rfl) ?_
      refine TM.free (Wants.none rfl) rfl (fun _ => Gets.move rfl rfl) ?_
      refine TM.free (Wants.none rfl) rfl (fun _ => Gets.move rfl rfl) ?_
      refine TM.free (Wants.none rfl) rfl (fun _ => Gets.sub rfl rfl rfl (r := ((j : Int) + 9)) (w64 (by omega) (by omega))) ?_
      refine TM.free (Wants.none rfl) rfl (fun _ => Gets.idxArray rfl Tryd.underlying68 size48 rfl rfl (i := (j + 9)) (by omega) (by omega) (off' := (j + 9)) (by omega)) ?_
      refine TM.gets (Wants.none rfl) rfl (Gets.load1 rfl agg48 rfl (At.ent (i := 0) (ent := ⟨g2, 68, (sch (w16 B 16) j).map (Value.int .u32), 64⟩) (off := (j + 9)) rfl rfl (by have := ints_get (kd := .u32) (W := sch (w16 B 16) j) (i := (j + 9)) (by rw [(sch_len (w16_len B 16) j)]; omega); (first | exact this | (refine Eq.trans ?_ this; congr 1; omega))))) ?_
      refine TM.free (Wants.none rfl) rfl (fun _ => Gets.addU rfl rfl rfl) ?_
      refine TM.free (Wants.none rfl) rfl (fun _ => Gets.move rfl rfl) ?_
      refine TM.free (Wants.none rfl) rfl (fun _ => Gets.addU rfl rfl rfl) ?_
      refine TM.free (Wants.none rfl) rfl (fun _ => Gets.move rfl rfl) ?_
      refine TM.free (Wants.none rfl) rfl (fun _ => Gets.sub rfl rfl rfl (r := (j : Int)) (w64 (by omega) (by omega))) ?_
      refine TM.free (Wants.none rfl) rfl (fun _ => Gets.idxArray rfl Tryd.underlying68 size48 rfl rfl (i := j) (by omega) (by omega) (off' := j) (by omega)) ?_
      refine TM.gets (Wants.none rfl) rfl (Gets.load1 rfl agg48 rfl (At.ent (i := 0) (ent := ⟨g2, 68, (sch (w16 B 16) j).map (Value.int .u32), 64⟩) (off := j) rfl rfl (by have := ints_get (kd := .u32) (W := sch (w16 B 16) j) (i := j) (by rw [(sch_len (w16_len B 16) j)]; omega); (first | exact this | (refine Eq.trans ?_ this; congr 1; omega))))) ?_
      refine TM.free (Wants.none rfl) rfl (fun _ => Gets.addU rfl rfl rfl) ?_
      refine TM.free (Wants.none rfl) rfl (fun _ => Gets.idxArray rfl Tryd.underlying68 size48 rfl rfl (i := (j + 16)) (by omega) (by omega) (off' := (j + 16)) (by omega)) ?_
      refine TM.store1 (Wants.none rfl) rfl rfl size48 rfl rfl rfl (i := 0) rfl rfl (by simp [(sch_len (w16_len B 16) j)] <;> omega) (cs' := ((sch (w16 B 16) j).set (j + 16) (addW .u32 (addW .u32 (addW .u32 (xorI .u32 (xorI .u32 (rotr ((sch (w16 B 16) j).getD (j + 14) 0) 17) (rotr ((sch (w16 B 16) j).getD (j + 14) 0) 19)) (shrI .u32 ((sch (w16 B 16) j).getD (j + 14) 0) 10)) ((sch (w16 B 16) j).getD (j + 9) 0)) (xorI .u32 (xorI .u32 (rotr ((sch (w16 B 16) j).getD (j + 1) 0) 7) (rotr ((sch (w16 B 16) j).getD (j + 1) 0) 18)) (shrI .u32 ((sch (w16 B 16) j).getD (j + 1) 0) 3))) ((sch (w16 B 16) j).getD j 0))).map (Value.int .u32)) (ints_set) (H' := [⟨g2, 68, ((sch (w16 B 16) j).set (j + 16) (addW .u32 (addW .u32 (addW .u32 (xorI .u32 (xorI .u32 (rotr ((sch (w16 B 16) j).getD (j + 14) 0) 17) (rotr ((sch (w16 B 16) j).getD (j + 14) 0) 19)) (shrI .u32 ((sch (w16 B 16) j).getD (j + 14) 0) 10)) ((sch (w16 B 16) j).getD (j + 9) 0)) (xorI .u32 (xorI .u32 (rotr ((sch (w16 B 16) j).getD (j + 1) 0) 7) (rotr ((sch (w16 B 16) j).getD (j + 1) 0) 18)) (shrI .u32 ((sch (w16 B 16) j).getD (j + 1) 0) 3))) ((sch (w16 B 16) j).getD j 0))).map (Value.int .u32), 64⟩, ⟨g1, 68, (List.replicate 64 0).map (Value.int .u32), 64⟩]) rfl ?_
      refine TM.nil ?_
      refine TE.blockN ?_
      refine TE.then ?_
      refine TC.sub (Sub.cons (i := 2) rfl (Sub.cons (i := 3) rfl (Sub.cons (i := 6) rfl (Sub.nil)))) ?_
      refine TC.regionL ?_
      refine TL.gets (Wants.none rfl) rfl (Gets.move rfl rfl) ?_
      refine TL.gets (Wants.none rfl) rfl (Gets.add rfl rfl rfl (r := ((j : Int) + 17)) (w64 (by omega) (by omega))) ?_
      refine TL.gets (Wants.none rfl) rfl (Gets.assign rfl rfl) ?_
      refine TL.nil ?_
      exact TE.back (j + 1) (by omega) (by omega) (Sub.cons (i := 2) rfl (Sub.cons (i := 3) rfl (Sub.int (i := 6) rfl (by first | omega | rfl) (Sub.nil)))) (fun w h => h)
    · obtain rfl : j = 48 := by omega
      have hWl := sched_len B
      have hWs : sched B = sch (w16 B 16) 48 := by unfold sched; with_reducible rfl
      rw [hWs] at hWl
      generalize hW : sch (w16 B 16) 48 = W at hWl hWs ⊢
      refine TC.exit ?_
      refine TE.thenX ?_
      refine TE.thenX ?_
      refine TE.blockX ?_
      refine TE.then ?_
      refine TC.seq ?_
      refine TC.regionL ?_
      refine TL.gets (Wants.none rfl) rfl (Gets.loadN rfl agg68 size68 rfl (vs := W.map (Value.int .u32)) (by simp [hWl]) (Row.all (i := 0) (ent := ⟨g2, 68, W.map (Value.int .u32), 64⟩) rfl rfl rfl)) ?_
      refine TL.storeW (Wants.none rfl) rfl rfl size68 rfl (vs := W.map (Value.int .u32)) rfl (by simp [hWl]) ints_one (i := 1) (ent := ⟨g1, 68, (List.replicate 64 0).map (Value.int .u32), 64⟩) rfl rfl (by simp []) (H' := [⟨g2, 68, W.map (Value.int .u32), 64⟩, ⟨g1, 68, W.map (Value.int .u32), 64⟩]) rfl ?_
      refine TL.nil ?_
      refine TE.then ?_
      refine TC.ret ?_
      exact TE.retC rfl agg68 size68 rfl (vs := W.map (Value.int .u32)) (by simp [hWl]) (Row.all (i := 1) (ent := ⟨g1, 68, W.map (Value.int .u32), 64⟩) rfl rfl rfl) (fun w hs => ⟨by rw [hWs], ((hs.drop (by assumption)).drop (by assumption))⟩)

attribute [irreducible] sched wordAt sig0 sig1
def KT : List Int := [1116352408, 1899447441, 3049323471, 3921009573, 961987163, 1508970993, 2453635748, 2870763221, 3624381080, 310598401, 607225278, 1426881987, 1925078388, 2162078206, 2614888103, 3248222580, 3835390401, 4022224774, 264347078, 604807628, 770255983, 1249150122, 1555081692, 1996064986, 2554220882, 2821834349, 2952996808, 3210313671, 3336571891, 3584528711, 113926993, 338241895, 666307205, 773529912, 1294757372, 1396182291, 1695183700, 1986661051, 2177026350, 2456956037, 2730485921, 2820302411, 3259730800, 3345764771, 3516065817, 3600352804, 4094571909, 275423344, 430227734, 506948616, 659060556, 883997877, 958139571, 1322822218, 1537002063, 1747873779, 1955562222, 2024104815, 2227730452, 2361852424, 2428436474, 2756734187, 3204031479, 3329325298]
def IV : List Int := [1779033703, 3144134277, 1013904242, 2773480762, 1359893119, 2600822924, 528734635, 1541459225]

def big1 (x : Int) : Int := xorI .u32 (xorI .u32 (rotr x 6) (rotr x 11)) (rotr x 25)
def big0 (x : Int) : Int := xorI .u32 (xorI .u32 (rotr x 2) (rotr x 13)) (rotr x 22)
def chI (e f g : Int) : Int := xorI .u32 (andI .u32 e f) (andI .u32 (cplI .u32 e) g)
def majI (a b c : Int) : Int := xorI .u32 (xorI .u32 (andI .u32 a b) (andI .u32 a c)) (andI .u32 b c)
def t1I (V : List Int) (k w : Int) : Int := addW .u32 (addW .u32 (addW .u32 (addW .u32 (V.getD 7 0) (big1 (V.getD 4 0))) (chI (V.getD 4 0) (V.getD 5 0) (V.getD 6 0))) k) w
def t2I (V : List Int) : Int := addW .u32 (big0 (V.getD 0 0)) (majI (V.getD 0 0) (V.getD 1 0) (V.getD 2 0))
def stepV (V : List Int) (k w : Int) : List Int := [addW .u32 (t1I V k w) (t2I V), V.getD 0 0, V.getD 1 0, V.getD 2 0, addW .u32 (V.getD 3 0) (t1I V k w), V.getD 4 0, V.getD 5 0, V.getD 6 0]
def rounds (V W : List Int) : Nat → List Int
  | 0 => V
  | k + 1 => stepV (rounds V W k) (KT.getD k 0) (W.getD k 0)
def addAll (st V : List Int) : Nat → List Int
  | 0 => st
  | i + 1 => (addAll st V i).set i (addW .u32 ((addAll st V i).getD i 0) (V.getD i 0))
theorem addAll_len {st V : List Int} (h : st.length = 8) : ∀ j, (addAll st V j).length = 8
  | 0 => h
  | j + 1 => by simp [addAll, addAll_len h j]
/-- The state behind a block. -/
def mixS (st B : List Int) : List Int := addAll st (rounds st (sched B) 64) 8
theorem mixS_len {st B : List Int} (h : st.length = 8) : (mixS st B).length = 8 := addAll_len h 8
attribute [irreducible] mixS
/-- Row reading that a call's frame keeps. -/
theorem RowI.keep {w w' : World} {b off n : Nat} {kd : IntKind} {B : List Int} (h : RowI w b off n kd B) (hs : St w [] w') (hb : b < w.heap.size) : RowI w' b off n kd B := fun j hj =>
  (hs.old_cell (ad := ⟨b, off + j, none⟩) hb ne_nil).trans (h j hj)
theorem RowI.keepH {w w' : World} {H : List Ent} {b off n : Nat} {kd : IntKind} {B : List Int} (h : RowI w b off n kd B) (hs : St w H w') (hb : b < w.heap.size) (hne : ∀ e ∈ H, e.g ≠ b) : RowI w' b off n kd B := fun j hj =>
  (hs.old_cell (ad := ⟨b, off + j, none⟩) hb hne).trans (h j hj)

theorem mix_end {w0 w : World} {e1 e2 : Ent} {g : Nat} (hs : St w0 [e2, e1] w) (h1 : g < w0.heap.size) (hg : w0.heap.size ≤ e1.g) : St w0 [e2] w := hs.erase (i := 1) rfl hg

set_option maxRecDepth 100000 in
set_option maxHeartbeats 400000 in
theorem mix_c (st B : List Int) (tl : List Value) (g t tot b off cap : Nat) (w : World) (hst : st.length = 8) (hl : Ent.lies ⟨g, t, st.map (Value.int .u32) ++ (tl), tot⟩ w) (hb : b < w.heap.size) (hB : RowI w b off 64 .u8 B) (hcap : 64 ≤ cap) (h1 : 1 < w.heap.size) (hg1 : g ≠ 1) (hK : RowI w 1 0 64 .u32 KT) : Calls Tryd.prog 33 #[.pointer (some ⟨g, 0, none⟩), .slice (some ⟨b, off, none⟩) 64 cap] w fun e w' => e = .returned (.tuple #[]) ∧ St w [⟨g, t, (mixS st B).map (Value.int .u32) ++ (tl), tot⟩] w' := by
  have hg : g < w.heap.size := hl.lt
  refine calls_from (args := [.pointer (some ⟨g, 0, none⟩), .slice (some ⟨b, off, none⟩) 64 cap]) Tryd.func33 rfl Tryd.ntmps33 (by simp) ?_
  refine TC.sub (Sub.cons (i := 0) rfl (Sub.cons (i := 1) rfl (Sub.nil))) ?_
  refine TC.seq ?_
  refine TC.regionL ?_
  refine TL.gets (Wants.none rfl) rfl (Gets.move rfl rfl) ?_
  refine TL.call0 (Wants.none rfl) rfl enters38 rfl rfl (v := .agg ((sched B).map (Value.int .u32)).toArray) (fun w hs => schedule_c B b off cap _ (Nat.lt_of_lt_of_le hb hs.size) (hB.keep hs hb) hcap) ?_
  refine TL.alloc (Wants.none rfl) rfl rfl zero68 (cs := (List.replicate 64 0).map (Value.int .u32)) rfl (tot := 64) (by simp) (fun g1 hg1 => ?_)
  refine TL.storeW (Wants.none rfl) rfl rfl size68 rfl (vs := (sched B).map (Value.int .u32)) rfl (by simp [(sched_len B)]) ints_one (i := 0) (ent := ⟨g1, 68, (List.replicate 64 0).map (Value.int .u32), 64⟩) rfl rfl (by simp []) (H' := [⟨g1, 68, (sched B).map (Value.int .u32), 64⟩]) rfl ?_
  refine TL.nil ?_
  refine TE.then ?_
  refine TC.seq ?_
  refine TC.heap (H' := [⟨g, t, st.map (Value.int .u32) ++ (tl), tot⟩, ⟨g1, 68, (sched B).map (Value.int .u32), 64⟩]) (fun w hs => hs.take hl (ne_cons (by show g1 ≠ g; omega) ne_nil)) ?_
  refine TC.mix (by kernel_rfl) [0, 0, 0, 1, 0, 0, 0, 1, 0, 0, 0, 1, 0, 0, 0, 1, 0, 0, 0, 1, 0, 0, 0, 1, 0, 0, 0, 1, 0, 0, 0, 1, 0, 0, 0, 0, 0, 0, 0, 0] rfl (by kernel_rfl) ?_
  refine TM.free (Wants.none rfl) rfl (fun _ => Gets.move rfl rfl) ?_
  refine TM.free (Wants.none rfl) rfl (fun _ => Gets.nilCheck rfl rfl) ?_
  refine TM.free (Wants.none rfl) rfl (fun _ => Gets.idxArray rfl Tryd.underlying50 size48 rfl rfl (i := 0) (by rfl) (by omega) (off' := 0) (by omega)) ?_
  refine TM.gets (Wants.none rfl) rfl (Gets.load1 rfl agg48 rfl (At.ent (i := 0) (ent := ⟨g, t, st.map (Value.int .u32) ++ (tl), tot⟩) (off := 0) rfl rfl (by exact app_left (i := 0) (B := tl) (ints_get (kd := .u32) (W := st) (i := 0) (by rw [hst]; omega))))) ?_
  refine TM.free (Wants.none rfl) rfl (fun _ => Gets.move rfl rfl) ?_
  refine TM.free (Wants.none rfl) rfl (fun _ => Gets.nilCheck rfl rfl) ?_
  refine TM.free (Wants.none rfl) rfl (fun _ => Gets.idxArray rfl Tryd.underlying50 size48 rfl rfl (i := 1) (by rfl) (by omega) (off' := 1) (by omega)) ?_
  refine TM.gets (Wants.none rfl) rfl (Gets.load1 rfl agg48 rfl (At.ent (i := 0) (ent := ⟨g, t, st.map (Value.int .u32) ++ (tl), tot⟩) (off := 1) rfl rfl (by exact app_left (i := 1) (B := tl) (ints_get (kd := .u32) (W := st) (i := 1) (by rw [hst]; omega))))) ?_
  refine TM.free (Wants.none rfl) rfl (fun _ => Gets.move rfl rfl) ?_
  refine TM.free (Wants.none rfl) rfl (fun _ => Gets.nilCheck rfl rfl) ?_
  refine TM.free (Wants.none rfl) rfl (fun _ => Gets.idxArray rfl Tryd.underlying50 size48 rfl rfl (i := 2) (by rfl) (by omega) (off' := 2) (by omega)) ?_
  refine TM.gets (Wants.none rfl) rfl (Gets.load1 rfl agg48 rfl (At.ent (i := 0) (ent := ⟨g, t, st.map (Value.int .u32) ++ (tl), tot⟩) (off := 2) rfl rfl (by exact app_left (i := 2) (B := tl) (ints_get (kd := .u32) (W := st) (i := 2) (by rw [hst]; omega))))) ?_
  refine TM.free (Wants.none rfl) rfl (fun _ => Gets.move rfl rfl) ?_
  refine TM.free (Wants.none rfl) rfl (fun _ => Gets.nilCheck rfl rfl) ?_
  refine TM.free (Wants.none rfl) rfl (fun _ => Gets.idxArray rfl Tryd.underlying50 size48 rfl rfl (i := 3) (by rfl) (by omega) (off' := 3) (by omega)) ?_
  refine TM.gets (Wants.none rfl) rfl (Gets.load1 rfl agg48 rfl (At.ent (i := 0) (ent := ⟨g, t, st.map (Value.int .u32) ++ (tl), tot⟩) (off := 3) rfl rfl (by exact app_left (i := 3) (B := tl) (ints_get (kd := .u32) (W := st) (i := 3) (by rw [hst]; omega))))) ?_
  refine TM.free (Wants.none rfl) rfl (fun _ => Gets.move rfl rfl) ?_
  refine TM.free (Wants.none rfl) rfl (fun _ => Gets.nilCheck rfl rfl) ?_
  refine TM.free (Wants.none rfl) rfl (fun _ => Gets.idxArray rfl Tryd.underlying50 size48 rfl rfl (i := 4) (by rfl) (by omega) (off' := 4) (by omega)) ?_
  refine TM.gets (Wants.none rfl) rfl (Gets.load1 rfl agg48 rfl (At.ent (i := 0) (ent := ⟨g, t, st.map (Value.int .u32) ++ (tl), tot⟩) (off := 4) rfl rfl (by exact app_left (i := 4) (B := tl) (ints_get (kd := .u32) (W := st) (i := 4) (by rw [hst]; omega))))) ?_
  refine TM.free (Wants.none rfl) rfl (fun _ => Gets.move rfl rfl) ?_
  refine TM.free (Wants.none rfl) rfl (fun _ => Gets.nilCheck rfl rfl) ?_
  refine TM.free (Wants.none rfl) rfl (fun _ => Gets.idxArray rfl Tryd.underlying50 size48 rfl rfl (i := 5) (by rfl) (by omega) (off' := 5) (by omega)) ?_
  refine TM.gets (Wants.none rfl) rfl (Gets.load1 rfl agg48 rfl (At.ent (i := 0) (ent := ⟨g, t, st.map (Value.int .u32) ++ (tl), tot⟩) (off := 5) rfl rfl (by exact app_left (i := 5) (B := tl) (ints_get (kd := .u32) (W := st) (i := 5) (by rw [hst]; omega))))) ?_
  refine TM.free (Wants.none rfl) rfl (fun _ => Gets.move rfl rfl) ?_
  refine TM.free (Wants.none rfl) rfl (fun _ => Gets.nilCheck rfl rfl) ?_
  refine TM.free (Wants.none rfl) rfl (fun _ => Gets.idxArray rfl Tryd.underlying50 size48 rfl rfl (i := 6) (by rfl) (by omega) (off' := 6) (by omega)) ?_
  refine TM.gets (Wants.none rfl) rfl (Gets.load1 rfl agg48 rfl (At.ent (i := 0) (ent := ⟨g, t, st.map (Value.int .u32) ++ (tl), tot⟩) (off := 6) rfl rfl (by exact app_left (i := 6) (B := tl) (ints_get (kd := .u32) (W := st) (i := 6) (by rw [hst]; omega))))) ?_
  refine TM.free (Wants.none rfl) rfl (fun _ => Gets.move rfl rfl) ?_
  refine TM.free (Wants.none rfl) rfl (fun _ => Gets.nilCheck rfl rfl) ?_
  refine TM.free (Wants.none rfl) rfl (fun _ => Gets.idxArray rfl Tryd.underlying50 size48 rfl rfl (i := 7) (by rfl) (by omega) (off' := 7) (by omega)) ?_
  refine TM.gets (Wants.none rfl) rfl (Gets.load1 rfl agg48 rfl (At.ent (i := 0) (ent := ⟨g, t, st.map (Value.int .u32) ++ (tl), tot⟩) (off := 7) rfl rfl (by exact app_left (i := 7) (B := tl) (ints_get (kd := .u32) (W := st) (i := 7) (by rw [hst]; omega))))) ?_
  refine TM.free (Wants.none rfl) rfl (fun _ => Gets.assign rfl rfl) ?_
  refine TM.free (Wants.none rfl) rfl (fun _ => Gets.assign rfl rfl) ?_
  refine TM.free (Wants.none rfl) rfl (fun _ => Gets.assign rfl rfl) ?_
  refine TM.free (Wants.none rfl) rfl (fun _ => Gets.assign rfl rfl) ?_
  refine TM.free (Wants.none rfl) rfl (fun _ => Gets.assign rfl rfl) ?_
  refine TM.free (Wants.none rfl) rfl (fun _ => Gets.assign rfl rfl) ?_
  refine TM.free (Wants.none rfl) rfl (fun _ => Gets.assign rfl rfl) ?_
  refine TM.free (Wants.none rfl) rfl (fun _ => Gets.assign rfl rfl) ?_
  refine TM.nil ?_
  refine TE.then ?_
  refine TC.sub (Sub.cons (i := 0) rfl (Sub.cons (i := 4) rfl (Sub.cons (i := 5) rfl (Sub.cons (i := 6) rfl (Sub.cons (i := 7) rfl (Sub.cons (i := 8) rfl (Sub.cons (i := 9) rfl (Sub.cons (i := 10) rfl (Sub.cons (i := 11) rfl (Sub.cons (i := 12) rfl (Sub.nil))))))))))) ?_
  refine TC.seq ?_
  refine TC.seq ?_
  refine TC.regionL ?_
  refine TL.gets (Wants.none rfl) rfl (Gets.loadN rfl agg68 size68 rfl (vs := (sched B).map (Value.int .u32)) (by simp [(sched_len B)]) (Row.all (i := 1) (ent := ⟨g1, 68, (sched B).map (Value.int .u32), 64⟩) rfl rfl rfl)) ?_
  refine TL.gets (Wants.none rfl) rfl (Gets.move rfl rfl) ?_
  refine TL.nil ?_
  refine TE.then ?_
  refine TC.sub (Sub.cons (i := 0) rfl (Sub.cons (i := 5) rfl (Sub.cons (i := 6) rfl (Sub.cons (i := 7) rfl (Sub.cons (i := 8) rfl (Sub.cons (i := 9) rfl (Sub.cons (i := 10) rfl (Sub.cons (i := 11) rfl (Sub.cons (i := 12) rfl (Sub.cons (i := 51) rfl (Sub.cons (i := 52) rfl (Sub.nil)))))))))))) ?_
  refine TC.block ?_
  refine TC.loop (ι := Nat) (fun k => [(0, .pointer (some ⟨g, 0, none⟩)), (51, .agg ((sched B).map (Value.int .u32)).toArray), (52, .int .i64 (k : Int)), (5, .int .u32 ((rounds st (sched B) k).getD 0 0)), (6, .int .u32 ((rounds st (sched B) k).getD 1 0)), (7, .int .u32 ((rounds st (sched B) k).getD 2 0)), (8, .int .u32 ((rounds st (sched B) k).getD 3 0)), (9, .int .u32 ((rounds st (sched B) k).getD 4 0)), (10, .int .u32 ((rounds st (sched B) k).getD 5 0)), (11, .int .u32 ((rounds st (sched B) k).getD 6 0)), (12, .int .u32 ((rounds st (sched B) k).getD 7 0))]) (fun k => [⟨g, t, st.map (Value.int .u32) ++ (tl), tot⟩, ⟨g1, 68, (sched B).map (Value.int .u32), 64⟩]) (fun k => 64 - k) (fun k => k ≤ 64) 0 (by omega) (Sub.cons (i := 0) rfl (Sub.cons (i := 51) rfl (Sub.int (i := 52) rfl (by first | omega | rfl) (Sub.int (i := 5) rfl (by first | rfl | omega) (Sub.int (i := 6) rfl (by first | rfl | omega) (Sub.int (i := 7) rfl (by first | rfl | omega) (Sub.int (i := 8) rfl (by first | rfl | omega) (Sub.int (i := 9) rfl (by first | rfl | omega) (Sub.int (i := 10) rfl (by first | rfl | omega) (Sub.int (i := 11) rfl (by first | rfl | omega) (Sub.int (i := 12) rfl (by first | rfl | omega) (Sub.nil)))))))))))) (fun w h => h) (fun k hC0 => ?_)
  refine TC.seq ?_
  refine TC.regionL ?_
  refine TL.gets (Wants.none rfl) rfl (Gets.lss rfl rfl rfl) ?_
  refine TL.nil ?_
  refine TE.then ?_
  refine TC.sub (Sub.cons (i := 0) rfl (Sub.cons (i := 5) rfl (Sub.cons (i := 6) rfl (Sub.cons (i := 7) rfl (Sub.cons (i := 8) rfl (Sub.cons (i := 9) rfl (Sub.cons (i := 10) rfl (Sub.cons (i := 11) rfl (Sub.cons (i := 12) rfl (Sub.cons (i := 51) rfl (Sub.cons (i := 52) rfl (Sub.cons (i := 53) rfl (Sub.nil))))))))))))) ?_
  refine TC.seq ?_
  refine TC.split rfl (fun h0 => ?_) (fun h0 => ?_)
  · refine TC.skip ?_
    refine TE.then ?_
    refine TC.sub (Sub.cons (i := 0) rfl (Sub.cons (i := 5) rfl (Sub.cons (i := 6) rfl (Sub.cons (i := 7) rfl (Sub.cons (i := 8) rfl (Sub.cons (i := 9) rfl (Sub.cons (i := 10) rfl (Sub.cons (i := 11) rfl (Sub.cons (i := 12) rfl (Sub.cons (i := 51) rfl (Sub.cons (i := 52) rfl (Sub.nil)))))))))))) ?_
    refine TC.seq ?_
    refine TC.block ?_
    refine TC.seq ?_
    refine TC.regionL ?_
    refine TL.gets (Wants.none rfl) rfl (Gets.move rfl rfl) ?_
    refine TL.gets (Wants.none rfl) rfl (Gets.index1 rfl Tryd.underlying68 agg48 size48 rfl rfl (i := k) (by omega) (by omega) (arr_get (ints_get (kd := .u32) (W := sched B) (i := k) (by rw [(sched_len B)]; omega)))) ?_
    refine TL.gets (Wants.none rfl) rfl (Gets.assign rfl rfl) ?_
    refine TL.gets (Wants.none rfl) rfl (Gets.assign rfl rfl) ?_
    refine TL.nil ?_
    refine TE.then ?_
    refine TC.sub (Sub.cons (i := 0) rfl (Sub.cons (i := 5) rfl (Sub.cons (i := 6) rfl (Sub.cons (i := 7) rfl (Sub.cons (i := 8) rfl (Sub.cons (i := 9) rfl (Sub.cons (i := 10) rfl (Sub.cons (i := 11) rfl (Sub.cons (i := 12) rfl (Sub.cons (i := 13) rfl (Sub.cons (i := 14) rfl (Sub.cons (i := 51) rfl (Sub.cons (i := 52) rfl (Sub.nil)))))))))))))) ?_
    refine TC.seq ?_
    refine TC.mix (by kernel_rfl) [0, 0, 1, 0, 1, 0, 0, 1, 0, 0, 0, 0, 0, 0, 0, 0, 0, 0, 0, 0, 0, 1, 0, 0, 0, 0] rfl (by kernel_rfl) ?_
    refine TM.free (Wants.none rfl) rfl (fun _ => Gets.move rfl rfl) ?_
    refine TM.free (Wants.none rfl) rfl (fun _ => Gets.move rfl rfl) ?_
    refine TM.call0 (Wants.none rfl) rfl enters39 rfl rfl (v := .int .u32 (rotr ((rounds st (sched B) k).getD 4 0) 6)) (fun w hs => right_c ((rounds st (sched B) k).getD 4 0) 6 w (by omega) (by omega)) ?_
    refine TM.free (Wants.none rfl) rfl (fun _ => Gets.move rfl rfl) ?_
    refine TM.call0 (Wants.none rfl) rfl enters39 rfl rfl (v := .int .u32 (rotr ((rounds st (sched B) k).getD 4 0) 11)) (fun w hs => right_c ((rounds st (sched B) k).getD 4 0) 11 w (by omega) (by omega)) ?_
    refine TM.free (Wants.none rfl) rfl (fun _ => Gets.xor rfl rfl rfl (r := (xorI .u32 (rotr ((rounds st (sched B) k).getD 4 0) 6) (rotr ((rounds st (sched B) k).getD 4 0) 11))) rfl) ?_
    refine TM.free (Wants.none rfl) rfl (fun _ => Gets.move rfl rfl) ?_
    refine TM.call0 (Wants.none rfl) rfl enters39 rfl rfl (v := .int .u32 (rotr ((rounds st (sched B) k).getD 4 0) 25)) (fun w hs => right_c ((rounds st (sched B) k).getD 4 0) 25 w (by omega) (by omega)) ?_
    refine TM.free (Wants.none rfl) rfl (fun _ => Gets.xor rfl rfl rfl (r := (xorI .u32 (xorI .u32 (rotr ((rounds st (sched B) k).getD 4 0) 6) (rotr ((rounds st (sched B) k).getD 4 0) 11)) (rotr ((rounds st (sched B) k).getD 4 0) 25))) rfl) ?_
    refine TM.free (Wants.none rfl) rfl (fun _ => Gets.addU rfl rfl rfl) ?_
    refine TM.free (Wants.none rfl) rfl (fun _ => Gets.move rfl rfl) ?_
    refine TM.free (Wants.none rfl) rfl (fun _ => Gets.move rfl rfl) ?_
    refine TM.free (Wants.none rfl) rfl (fun _ => Gets.and rfl rfl rfl (r := (andI .u32 ((rounds st (sched B) k).getD 4 0) ((rounds st (sched B) k).getD 5 0))) rfl) ?_
    refine TM.free (Wants.none rfl) rfl (fun _ => Gets.move rfl rfl) ?_
    refine TM.free (Wants.none rfl) rfl (fun _ => Gets.cplU rfl rfl) ?_
    refine TM.free (Wants.none rfl) rfl (fun _ => Gets.move rfl rfl) ?_
    refine TM.free (Wants.none rfl) rfl (fun _ => Gets.and rfl rfl rfl (r := (andI .u32 (cplI .u32 ((rounds st (sched B) k).getD 4 0)) ((rounds st (sched B) k).getD 6 0))) rfl) ?_
    refine TM.free (Wants.none rfl) rfl (fun _ => Gets.xor rfl rfl rfl (r := (xorI .u32 (andI .u32 ((rounds st (sched B) k).getD 4 0) ((rounds st (sched B) k).getD 5 0)) (andI .u32 (cplI .u32 ((rounds st (sched B) k).getD 4 0)) ((rounds st (sched B) k).getD 6 0)))) rfl) ?_
    refine TM.free (Wants.none rfl) rfl (fun _ => Gets.addU rfl rfl rfl) ?_
    refine TM.free (Wants.none rfl) rfl (fun _ => Gets.move rfl rfl) ?_
    refine TM.free (Wants.none rfl) rfl (fun _ => Gets.idxArray rfl Tryd.underlying68 size48 rfl rfl (i := k) (by omega) (by omega) (off' := k) (by omega)) ?_
    refine TM.gets (Wants.none rfl) rfl (Gets.load1 rfl agg48 rfl (At.rowI hK (i := k) (by omega) (by omega) h1 (ne_cons (by show g ≠ 1; omega) (ne_cons (by show g1 ≠ 1; omega) ne_nil)))) ?_
    refine TM.free (Wants.none rfl) rfl (fun _ => Gets.addU rfl rfl rfl) ?_
    refine TM.free (Wants.none rfl) rfl (fun _ => Gets.move rfl rfl) ?_
    refine TM.free (Wants.none rfl) rfl (fun _ => Gets.addU rfl rfl rfl) ?_
    refine TM.free (Wants.none rfl) rfl (fun _ => Gets.assign rfl rfl) ?_
    refine TM.nil ?_
    refine TE.then ?_
    refine TC.sub (Sub.cons (i := 0) rfl (Sub.cons (i := 5) rfl (Sub.cons (i := 6) rfl (Sub.cons (i := 7) rfl (Sub.cons (i := 8) rfl (Sub.cons (i := 9) rfl (Sub.cons (i := 10) rfl (Sub.cons (i := 11) rfl (Sub.cons (i := 12) rfl (Sub.cons (i := 15) rfl (Sub.cons (i := 51) rfl (Sub.cons (i := 52) rfl (Sub.nil))))))))))))) ?_
    refine TC.seq ?_
    refine TC.regionL ?_
    refine TL.gets (Wants.none rfl) rfl (Gets.move rfl rfl) ?_
    refine TL.call0 (Wants.none rfl) rfl enters39 rfl rfl (v := .int .u32 (rotr ((rounds st (sched B) k).getD 0 0) 2)) (fun w hs => right_c ((rounds st (sched B) k).getD 0 0) 2 w (by omega) (by omega)) ?_
    refine TL.gets (Wants.none rfl) rfl (Gets.move rfl rfl) ?_
    refine TL.call0 (Wants.none rfl) rfl enters39 rfl rfl (v := .int .u32 (rotr ((rounds st (sched B) k).getD 0 0) 13)) (fun w hs => right_c ((rounds st (sched B) k).getD 0 0) 13 w (by omega) (by omega)) ?_
    refine TL.gets (Wants.none rfl) rfl (Gets.xor rfl rfl rfl (r := (xorI .u32 (rotr ((rounds st (sched B) k).getD 0 0) 2) (rotr ((rounds st (sched B) k).getD 0 0) 13))) rfl) ?_
    refine TL.gets (Wants.none rfl) rfl (Gets.move rfl rfl) ?_
    refine TL.call0 (Wants.none rfl) rfl enters39 rfl rfl (v := .int .u32 (rotr ((rounds st (sched B) k).getD 0 0) 22)) (fun w hs => right_c ((rounds st (sched B) k).getD 0 0) 22 w (by omega) (by omega)) ?_
    refine TL.gets (Wants.none rfl) rfl (Gets.xor rfl rfl rfl (r := (xorI .u32 (xorI .u32 (rotr ((rounds st (sched B) k).getD 0 0) 2) (rotr ((rounds st (sched B) k).getD 0 0) 13)) (rotr ((rounds st (sched B) k).getD 0 0) 22))) rfl) ?_
    refine TL.gets (Wants.none rfl) rfl (Gets.move rfl rfl) ?_
    refine TL.gets (Wants.none rfl) rfl (Gets.move rfl rfl) ?_
    refine TL.gets (Wants.none rfl) rfl (Gets.and rfl rfl rfl (r := (andI .u32 ((rounds st (sched B) k).getD 0 0) ((rounds st (sched B) k).getD 1 0))) rfl) ?_
    refine TL.gets (Wants.none rfl) rfl (Gets.move rfl rfl) ?_
    refine TL.gets (Wants.none rfl) rfl (Gets.move rfl rfl) ?_
    refine TL.gets (Wants.none rfl) rfl (Gets.and rfl rfl rfl (r := (andI .u32 ((rounds st (sched B) k).getD 0 0) ((rounds st (sched B) k).getD 2 0))) rfl) ?_
    refine TL.gets (Wants.none rfl) rfl (Gets.xor rfl rfl rfl (r := (xorI .u32 (andI .u32 ((rounds st (sched B) k).getD 0 0) ((rounds st (sched B) k).getD 1 0)) (andI .u32 ((rounds st (sched B) k).getD 0 0) ((rounds st (sched B) k).getD 2 0)))) rfl) ?_
    refine TL.gets (Wants.none rfl) rfl (Gets.move rfl rfl) ?_
    refine TL.gets (Wants.none rfl) rfl (Gets.move rfl rfl) ?_
    refine TL.gets (Wants.none rfl) rfl (Gets.and rfl rfl rfl (r := (andI .u32 ((rounds st (sched B) k).getD 1 0) ((rounds st (sched B) k).getD 2 0))) rfl) ?_
    refine TL.gets (Wants.none rfl) rfl (Gets.xor rfl rfl rfl (r := (xorI .u32 (xorI .u32 (andI .u32 ((rounds st (sched B) k).getD 0 0) ((rounds st (sched B) k).getD 1 0)) (andI .u32 ((rounds st (sched B) k).getD 0 0) ((rounds st (sched B) k).getD 2 0))) (andI .u32 ((rounds st (sched B) k).getD 1 0) ((rounds st (sched B) k).getD 2 0)))) rfl) ?_
    refine TL.gets (Wants.none rfl) rfl (Gets.addU rfl rfl rfl) ?_
    refine TL.gets (Wants.none rfl) rfl (Gets.assign rfl rfl) ?_
    refine TL.nil ?_
    refine TE.then ?_
    refine TC.sub (Sub.cons (i := 0) rfl (Sub.cons (i := 5) rfl (Sub.cons (i := 6) rfl (Sub.cons (i := 7) rfl (Sub.cons (i := 8) rfl (Sub.cons (i := 9) rfl (Sub.cons (i := 10) rfl (Sub.cons (i := 11) rfl (Sub.cons (i := 12) rfl (Sub.cons (i := 15) rfl (Sub.cons (i := 16) rfl (Sub.cons (i := 51) rfl (Sub.cons (i := 52) rfl (Sub.nil)))))))))))))) ?_
    refine TC.regionL ?_
    refine TL.gets (Wants.none rfl) rfl (Gets.move rfl rfl) ?_
    refine TL.gets (Wants.none rfl) rfl (Gets.move rfl rfl) ?_
    refine TL.gets (Wants.none rfl) rfl (Gets.move rfl rfl) ?_
    refine TL.gets (Wants.none rfl) rfl (Gets.move rfl rfl) ?_
    refine TL.gets (Wants.none rfl) rfl (Gets.move rfl rfl) ?_
    refine TL.gets (Wants.none rfl) rfl (Gets.addU rfl rfl rfl) ?_
    refine TL.gets (Wants.none rfl) rfl (Gets.move rfl rfl) ?_
    refine TL.gets (Wants.none rfl) rfl (Gets.move rfl rfl) ?_
    refine TL.gets (Wants.none rfl) rfl (Gets.move rfl rfl) ?_
    refine TL.gets (Wants.none rfl) rfl (Gets.move rfl rfl) ?_
    refine TL.gets (Wants.none rfl) rfl (Gets.move rfl rfl) ?_
    refine TL.gets (Wants.none rfl) rfl (Gets.addU rfl rfl rfl) ?_
    refine TL.gets (Wants.none rfl) rfl (Gets.assign rfl rfl) ?_
    refine TL.gets (Wants.none rfl) rfl (Gets.assign rfl rfl) ?_
    refine TL.gets (Wants.none rfl) rfl (Gets.assign rfl rfl) ?_
    refine TL.gets (Wants.none rfl) rfl (Gets.assign rfl rfl) ?_
    refine TL.gets (Wants.none rfl) rfl (Gets.assign rfl rfl) ?_
    refine TL.gets (Wants.none rfl) rfl (Gets.assign rfl rfl) ?_
    refine TL.gets (Wants.none rfl) rfl (Gets.assign rfl rfl) ?_
    refine TL.gets (Wants.none rfl) rfl (Gets.assign rfl rfl) ?_
    refine TL.nil ?_
    refine TE.blockN ?_
    refine TE.then ?_
    refine TC.sub (Sub.cons (i := 0) rfl (Sub.cons (i := 5) rfl (Sub.cons (i := 6) rfl (Sub.cons (i := 7) rfl (Sub.cons (i := 8) rfl (Sub.cons (i := 9) rfl (Sub.cons (i := 10) rfl (Sub.cons (i := 11) rfl (Sub.cons (i := 12) rfl (Sub.cons (i := 51) rfl (Sub.cons (i := 52) rfl (Sub.nil)))))))))))) ?_
    refine TC.regionL ?_
    refine TL.gets (Wants.none rfl) rfl (Gets.add rfl rfl rfl (r := ((k : Int) + 1)) (w64 (by omega) (by omega))) ?_
    refine TL.gets (Wants.none rfl) rfl (Gets.move rfl rfl) ?_
    refine TL.nil ?_
    exact TE.back (k + 1) (by omega) (by omega) (Sub.cons (i := 0) rfl (Sub.cons (i := 51) rfl (Sub.int (i := 52) rfl (by first | omega | rfl) (Sub.int (i := 5) rfl (by first | rfl | omega) (Sub.int (i := 6) rfl (by first | rfl | omega) (Sub.int (i := 7) rfl (by first | rfl | omega) (Sub.int (i := 8) rfl (by first | rfl | omega) (Sub.int (i := 9) rfl (by first | rfl | omega) (Sub.int (i := 10) rfl (by first | rfl | omega) (Sub.int (i := 11) rfl (by first | rfl | omega) (Sub.int (i := 12) rfl (by first | rfl | omega) (Sub.nil)))))))))))) (fun w h => h)
  · obtain rfl : k = 64 := by omega
    generalize hV : rounds st (sched B) 64 = V
    refine TC.exit ?_
    refine TE.thenX ?_
    refine TE.thenX ?_
    refine TE.blockX ?_
    refine TE.then ?_
    refine TC.sub (Sub.cons (i := 0) rfl (Sub.cons (i := 5) rfl (Sub.cons (i := 6) rfl (Sub.cons (i := 7) rfl (Sub.cons (i := 8) rfl (Sub.cons (i := 9) rfl (Sub.cons (i := 10) rfl (Sub.cons (i := 11) rfl (Sub.cons (i := 12) rfl (Sub.nil)))))))))) ?_
    refine TC.seq ?_
    refine TC.mix (by kernel_rfl) [0, 0, 0, 1, 0, 0, 0, 0, 2] rfl (by kernel_rfl) ?_
    refine TM.free (Wants.none rfl) rfl (fun _ => Gets.move rfl rfl) ?_
    refine TM.free (Wants.none rfl) rfl (fun _ => Gets.nilCheck rfl rfl) ?_
    refine TM.free (Wants.none rfl) rfl (fun _ => Gets.idxArray rfl Tryd.underlying50 size48 rfl rfl (i := 0) (by rfl) (by omega) (off' := 0) (by omega)) ?_
    refine TM.gets (Wants.none rfl) rfl (Gets.load1 rfl agg48 rfl (At.ent (i := 0) (ent := ⟨g, t, st.map (Value.int .u32) ++ (tl), tot⟩) (off := 0) rfl rfl (by exact app_left (i := 0) (B := tl) (ints_get (kd := .u32) (W := st) (i := 0) (by rw [hst]; omega))))) ?_
    refine TM.free (Wants.none rfl) rfl (fun _ => Gets.move rfl rfl) ?_
    refine TM.free (Wants.none rfl) rfl (fun _ => Gets.addU rfl rfl rfl) ?_
    refine TM.free (Wants.none rfl) rfl (fun _ => Gets.nilCheck rfl rfl) ?_
    refine TM.free (Wants.none rfl) rfl (fun _ => Gets.idxArray rfl Tryd.underlying50 size48 rfl rfl (i := 0) (by rfl) (by omega) (off' := 0) (by omega)) ?_
    refine TM.store1 (Wants.none rfl) rfl rfl size48 rfl rfl rfl (i := 0) rfl rfl (by simp [hst] <;> omega) (cs' := (addAll st V 1).map (Value.int .u32) ++ (tl)) (set_left (by simp [hst]) (ints_set)) (H' := [⟨g, t, (addAll st V 1).map (Value.int .u32) ++ (tl), tot⟩, ⟨g1, 68, (sched B).map (Value.int .u32), 64⟩]) rfl ?_
    refine TM.nil ?_
    refine TE.then ?_
    refine TC.sub (Sub.cons (i := 0) rfl (Sub.cons (i := 6) rfl (Sub.cons (i := 7) rfl (Sub.cons (i := 8) rfl (Sub.cons (i := 9) rfl (Sub.cons (i := 10) rfl (Sub.cons (i := 11) rfl (Sub.cons (i := 12) rfl (Sub.nil))))))))) ?_
    refine TC.seq ?_
    refine TC.mix (by kernel_rfl) [0, 0, 0, 1, 0, 0, 0, 0, 2] rfl (by kernel_rfl) ?_
    refine TM.free (Wants.none rfl) rfl (fun _ => Gets.move rfl rfl) ?_
    refine TM.free (Wants.none rfl) rfl (fun _ => Gets.nilCheck rfl rfl) ?_
    refine TM.free (Wants.none rfl) rfl (fun _ => Gets.idxArray rfl Tryd.underlying50 size48 rfl rfl (i := 1) (by rfl) (by omega) (off' := 1) (by omega)) ?_
    refine TM.gets (Wants.none rfl) rfl (Gets.load1 rfl agg48 rfl (At.ent (i := 0) (ent := ⟨g, t, (addAll st V 1).map (Value.int .u32) ++ (tl), tot⟩) (off := 1) rfl rfl (by exact app_left (i := 1) (B := tl) (ints_get (kd := .u32) (W := (addAll st V 1)) (i := 1) (by rw [(addAll_len hst 1)]; omega))))) ?_
    refine TM.free (Wants.none rfl) rfl (fun _ => Gets.move rfl rfl) ?_
    refine TM.free (Wants.none rfl) rfl (fun _ => Gets.addU rfl rfl rfl) ?_
    refine TM.free (Wants.none rfl) rfl (fun _ => Gets.nilCheck rfl rfl) ?_
    refine TM.free (Wants.none rfl) rfl (fun _ => Gets.idxArray rfl Tryd.underlying50 size48 rfl rfl (i := 1) (by rfl) (by omega) (off' := 1) (by omega)) ?_
    refine TM.store1 (Wants.none rfl) rfl rfl size48 rfl rfl rfl (i := 0) rfl rfl (by simp [(addAll_len hst 1)] <;> omega) (cs' := (addAll st V 2).map (Value.int .u32) ++ (tl)) (set_left (by simp [(addAll_len hst 1)]) (ints_set)) (H' := [⟨g, t, (addAll st V 2).map (Value.int .u32) ++ (tl), tot⟩, ⟨g1, 68, (sched B).map (Value.int .u32), 64⟩]) rfl ?_
    refine TM.nil ?_
    refine TE.then ?_
    refine TC.sub (Sub.cons (i := 0) rfl (Sub.cons (i := 7) rfl (Sub.cons (i := 8) rfl (Sub.cons (i := 9) rfl (Sub.cons (i := 10) rfl (Sub.cons (i := 11) rfl (Sub.cons (i := 12) rfl (Sub.nil)))))))) ?_
    refine TC.seq ?_
    refine TC.mix (by kernel_rfl) [0, 0, 0, 1, 0, 0, 0, 0, 2] rfl (by kernel_rfl) ?_
    refine TM.free (Wants.none rfl) rfl (fun _ => Gets.move rfl rfl) ?_
    refine TM.free (Wants.none rfl) rfl (fun _ => Gets.nilCheck rfl rfl) ?_
    refine TM.free (Wants.none rfl) rfl (fun _ => Gets.idxArray rfl Tryd.underlying50 size48 rfl rfl (i := 2) (by rfl) (by omega) (off' := 2) (by omega)) ?_
    refine TM.gets (Wants.none rfl) rfl (Gets.load1 rfl agg48 rfl (At.ent (i := 0) (ent := ⟨g, t, (addAll st V 2).map (Value.int .u32) ++ (tl), tot⟩) (off := 2) rfl rfl (by exact app_left (i := 2) (B := tl) (ints_get (kd := .u32) (W := (addAll st V 2)) (i := 2) (by rw [(addAll_len hst 2)]; omega))))) ?_
    refine TM.free (Wants.none rfl) rfl (fun _ => Gets.move rfl rfl) ?_
    refine TM.free (Wants.none rfl) rfl (fun _ => Gets.addU rfl rfl rfl) ?_
    refine TM.free (Wants.none rfl) rfl (fun _ => Gets.nilCheck rfl rfl) ?_
    refine TM.free (Wants.none rfl) rfl (fun _ => Gets.idxArray rfl Tryd.underlying50 size48 rfl rfl (i := 2) (by rfl) (by omega) (off' := 2) (by omega)) ?_
    refine TM.store1 (Wants.none rfl) rfl rfl size48 rfl rfl rfl (i := 0) rfl rfl (by simp [(addAll_len hst 2)] <;> omega) (cs' := (addAll st V 3).map (Value.int .u32) ++ (tl)) (set_left (by simp [(addAll_len hst 2)]) (ints_set)) (H' := [⟨g, t, (addAll st V 3).map (Value.int .u32) ++ (tl), tot⟩, ⟨g1, 68, (sched B).map (Value.int .u32), 64⟩]) rfl ?_
    refine TM.nil ?_
    refine TE.then ?_
    refine TC.sub (Sub.cons (i := 0) rfl (Sub.cons (i := 8) rfl (Sub.cons (i := 9) rfl (Sub.cons (i := 10) rfl (Sub.cons (i := 11) rfl (Sub.cons (i := 12) rfl (Sub.nil))))))) ?_
    refine TC.seq ?_
    refine TC.mix (by kernel_rfl) [0, 0, 0, 1, 0, 0, 0, 0, 2] rfl (by kernel_rfl) ?_
    refine TM.free (Wants.none rfl) rfl (fun _ => Gets.move rfl rfl) ?_
    refine TM.free (Wants.none rfl) rfl (fun _ => Gets.nilCheck rfl rfl) ?_
    refine TM.free (Wants.none rfl) rfl (fun _ => Gets.idxArray rfl Tryd.underlying50 size48 rfl rfl (i := 3) (by rfl) (by omega) (off' := 3) (by omega)) ?_
    refine TM.gets (Wants.none rfl) rfl (Gets.load1 rfl agg48 rfl (At.ent (i := 0) (ent := ⟨g, t, (addAll st V 3).map (Value.int .u32) ++ (tl), tot⟩) (off := 3) rfl rfl (by exact app_left (i := 3) (B := tl) (ints_get (kd := .u32) (W := (addAll st V 3)) (i := 3) (by rw [(addAll_len hst 3)]; omega))))) ?_
    refine TM.free (Wants.none rfl) rfl (fun _ => Gets.move rfl rfl) ?_
    refine TM.free (Wants.none rfl) rfl (fun _ => Gets.addU rfl rfl rfl) ?_
    refine TM.free (Wants.none rfl) rfl (fun _ => Gets.nilCheck rfl rfl) ?_
    refine TM.free (Wants.none rfl) rfl (fun _ => Gets.idxArray rfl Tryd.underlying50 size48 rfl rfl (i := 3) (by rfl) (by omega) (off' := 3) (by omega)) ?_
    refine TM.store1 (Wants.none rfl) rfl rfl size48 rfl rfl rfl (i := 0) rfl rfl (by simp [(addAll_len hst 3)] <;> omega) (cs' := (addAll st V 4).map (Value.int .u32) ++ (tl)) (set_left (by simp [(addAll_len hst 3)]) (ints_set)) (H' := [⟨g, t, (addAll st V 4).map (Value.int .u32) ++ (tl), tot⟩, ⟨g1, 68, (sched B).map (Value.int .u32), 64⟩]) rfl ?_
    refine TM.nil ?_
    refine TE.then ?_
    refine TC.sub (Sub.cons (i := 0) rfl (Sub.cons (i := 9) rfl (Sub.cons (i := 10) rfl (Sub.cons (i := 11) rfl (Sub.cons (i := 12) rfl (Sub.nil)))))) ?_
    refine TC.seq ?_
    refine TC.mix (by kernel_rfl) [0, 0, 0, 1, 0, 0, 0, 0, 2] rfl (by kernel_rfl) ?_
    refine TM.free (Wants.none rfl) rfl (fun _ => Gets.move rfl rfl) ?_
    refine TM.free (Wants.none rfl) rfl (fun _ => Gets.nilCheck rfl rfl) ?_
    refine TM.free (Wants.none rfl) rfl (fun _ => Gets.idxArray rfl Tryd.underlying50 size48 rfl rfl (i := 4) (by rfl) (by omega) (off' := 4) (by omega)) ?_
    refine TM.gets (Wants.none rfl) rfl (Gets.load1 rfl agg48 rfl (At.ent (i := 0) (ent := ⟨g, t, (addAll st V 4).map (Value.int .u32) ++ (tl), tot⟩) (off := 4) rfl rfl (by exact app_left (i := 4) (B := tl) (ints_get (kd := .u32) (W := (addAll st V 4)) (i := 4) (by rw [(addAll_len hst 4)]; omega))))) ?_
    refine TM.free (Wants.none rfl) rfl (fun _ => Gets.move rfl rfl) ?_
    refine TM.free (Wants.none rfl) rfl (fun _ => Gets.addU rfl rfl rfl) ?_
    refine TM.free (Wants.none rfl) rfl (fun _ => Gets.nilCheck rfl rfl) ?_
    refine TM.free (Wants.none rfl) rfl (fun _ => Gets.idxArray rfl Tryd.underlying50 size48 rfl rfl (i := 4) (by rfl) (by omega) (off' := 4) (by omega)) ?_
    refine TM.store1 (Wants.none rfl) rfl rfl size48 rfl rfl rfl (i := 0) rfl rfl (by simp [(addAll_len hst 4)] <;> omega) (cs' := (addAll st V 5).map (Value.int .u32) ++ (tl)) (set_left (by simp [(addAll_len hst 4)]) (ints_set)) (H' := [⟨g, t, (addAll st V 5).map (Value.int .u32) ++ (tl), tot⟩, ⟨g1, 68, (sched B).map (Value.int .u32), 64⟩]) rfl ?_
    refine TM.nil ?_
    refine TE.then ?_
    refine TC.sub (Sub.cons (i := 0) rfl (Sub.cons (i := 10) rfl (Sub.cons (i := 11) rfl (Sub.cons (i := 12) rfl (Sub.nil))))) ?_
    refine TC.seq ?_
    refine TC.mix (by kernel_rfl) [0, 0, 0, 1, 0, 0, 0, 0, 2] rfl (by kernel_rfl) ?_
    refine TM.free (Wants.none rfl) rfl (fun _ => Gets.move rfl rfl) ?_
    refine TM.free (Wants.none rfl) rfl (fun _ => Gets.nilCheck rfl rfl) ?_
    refine TM.free (Wants.none rfl) rfl (fun _ => Gets.idxArray rfl Tryd.underlying50 size48 rfl rfl (i := 5) (by rfl) (by omega) (off' := 5) (by omega)) ?_
    refine TM.gets (Wants.none rfl) rfl (Gets.load1 rfl agg48 rfl (At.ent (i := 0) (ent := ⟨g, t, (addAll st V 5).map (Value.int .u32) ++ (tl), tot⟩) (off := 5) rfl rfl (by exact app_left (i := 5) (B := tl) (ints_get (kd := .u32) (W := (addAll st V 5)) (i := 5) (by rw [(addAll_len hst 5)]; omega))))) ?_
    refine TM.free (Wants.none rfl) rfl (fun _ => Gets.move rfl rfl) ?_
    refine TM.free (Wants.none rfl) rfl (fun _ => Gets.addU rfl rfl rfl) ?_
    refine TM.free (Wants.none rfl) rfl (fun _ => Gets.nilCheck rfl rfl) ?_
    refine TM.free (Wants.none rfl) rfl (fun _ => Gets.idxArray rfl Tryd.underlying50 size48 rfl rfl (i := 5) (by rfl) (by omega) (off' := 5) (by omega)) ?_
    refine TM.store1 (Wants.none rfl) rfl rfl size48 rfl rfl rfl (i := 0) rfl rfl (by simp [(addAll_len hst 5)] <;> omega) (cs' := (addAll st V 6).map (Value.int .u32) ++ (tl)) (set_left (by simp [(addAll_len hst 5)]) (ints_set)) (H' := [⟨g, t, (addAll st V 6).map (Value.int .u32) ++ (tl), tot⟩, ⟨g1, 68, (sched B).map (Value.int .u32), 64⟩]) rfl ?_
    refine TM.nil ?_
    refine TE.then ?_
    refine TC.sub (Sub.cons (i := 0) rfl (Sub.cons (i := 11) rfl (Sub.cons (i := 12) rfl (Sub.nil)))) ?_
    refine TC.seq ?_
    refine TC.mix (by kernel_rfl) [0, 0, 0, 1, 0, 0, 0, 0, 2] rfl (by kernel_rfl) ?_
    refine TM.free (Wants.none rfl) rfl (fun _ => Gets.move rfl rfl) ?_
    refine TM.free (Wants.none rfl) rfl (fun _ => Gets.nilCheck rfl rfl) ?_
    refine TM.free (Wants.none rfl) rfl (fun _ => Gets.idxArray rfl Tryd.underlying50 size48 rfl rfl (i := 6) (by rfl) (by omega) (off' := 6) (by omega)) ?_
    refine TM.gets (Wants.none rfl) rfl (Gets.load1 rfl agg48 rfl (At.ent (i := 0) (ent := ⟨g, t, (addAll st V 6).map (Value.int .u32) ++ (tl), tot⟩) (off := 6) rfl rfl (by exact app_left (i := 6) (B := tl) (ints_get (kd := .u32) (W := (addAll st V 6)) (i := 6) (by rw [(addAll_len hst 6)]; omega))))) ?_
    refine TM.free (Wants.none rfl) rfl (fun _ => Gets.move rfl rfl) ?_
    refine TM.free (Wants.none rfl) rfl (fun _ => Gets.addU rfl rfl rfl) ?_
    refine TM.free (Wants.none rfl) rfl (fun _ => Gets.nilCheck rfl rfl) ?_
    refine TM.free (Wants.none rfl) rfl (fun _ => Gets.idxArray rfl Tryd.underlying50 size48 rfl rfl (i := 6) (by rfl) (by omega) (off' := 6) (by omega)) ?_
    refine TM.store1 (Wants.none rfl) rfl rfl size48 rfl rfl rfl (i := 0) rfl rfl (by simp [(addAll_len hst 6)] <;> omega) (cs' := (addAll st V 7).map (Value.int .u32) ++ (tl)) (set_left (by simp [(addAll_len hst 6)]) (ints_set)) (H' := [⟨g, t, (addAll st V 7).map (Value.int .u32) ++ (tl), tot⟩, ⟨g1, 68, (sched B).map (Value.int .u32), 64⟩]) rfl ?_
    refine TM.nil ?_
    refine TE.then ?_
    refine TC.sub (Sub.cons (i := 0) rfl (Sub.cons (i := 12) rfl (Sub.nil))) ?_
    refine TC.mix (by kernel_rfl) [0, 0, 0, 1, 0, 0, 0, 0, 2] rfl (by kernel_rfl) ?_
    refine TM.free (Wants.none rfl) rfl (fun _ => Gets.move rfl rfl) ?_
    refine TM.free (Wants.none rfl) rfl (fun _ => Gets.nilCheck rfl rfl) ?_
    refine TM.free (Wants.none rfl) rfl (fun _ => Gets.idxArray rfl Tryd.underlying50 size48 rfl rfl (i := 7) (by rfl) (by omega) (off' := 7) (by omega)) ?_
    refine TM.gets (Wants.none rfl) rfl (Gets.load1 rfl agg48 rfl (At.ent (i := 0) (ent := ⟨g, t, (addAll st V 7).map (Value.int .u32) ++ (tl), tot⟩) (off := 7) rfl rfl (by exact app_left (i := 7) (B := tl) (ints_get (kd := .u32) (W := (addAll st V 7)) (i := 7) (by rw [(addAll_len hst 7)]; omega))))) ?_
    refine TM.free (Wants.none rfl) rfl (fun _ => Gets.move rfl rfl) ?_
    refine TM.free (Wants.none rfl) rfl (fun _ => Gets.addU rfl rfl rfl) ?_
    refine TM.free (Wants.none rfl) rfl (fun _ => Gets.nilCheck rfl rfl) ?_
    refine TM.free (Wants.none rfl) rfl (fun _ => Gets.idxArray rfl Tryd.underlying50 size48 rfl rfl (i := 7) (by rfl) (by omega) (off' := 7) (by omega)) ?_
    refine TM.store1 (Wants.none rfl) rfl rfl size48 rfl rfl rfl (i := 0) rfl rfl (by simp [(addAll_len hst 7)] <;> omega) (cs' := (addAll st V 8).map (Value.int .u32) ++ (tl)) (set_left (by simp [(addAll_len hst 7)]) (ints_set)) (H' := [⟨g, t, (addAll st V 8).map (Value.int .u32) ++ (tl), tot⟩, ⟨g1, 68, (sched B).map (Value.int .u32), 64⟩]) rfl ?_
    refine TM.nil ?_
    exact TE.end0 rfl (fun w hs => ⟨rfl, by unfold mixS; rw [hV]; exact mix_end hs (by assumption) (by assumption)⟩)
end Go.Proofs.YtdcphpmkhekghaaDoor
