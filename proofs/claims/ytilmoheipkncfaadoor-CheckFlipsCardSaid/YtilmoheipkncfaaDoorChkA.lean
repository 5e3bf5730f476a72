/-
  Contracts of package check: next, Extend, Of, encode.
-/
import Derived.Test.YtilmoheipkncfaaDoorCrcB
import Derived.Test.YtilmoheipkncfaaDoorFr
namespace Go.Proofs.YtilmoheipkncfaaDoor
set_option linter.unusedVariables false
set_option linter.unusedSimpArgs false
open Go Go.RowKit
theorem agg5 : (isAgg 5).run Tryd.prog = fun w => .ok false w := isAgg_no Tryd.underlying5 rfl
theorem agg24 : (isAgg 24).run Tryd.prog = fun w => .ok false w := isAgg_no Tryd.underlying24 rfl
theorem agg25 : (isAgg 25).run Tryd.prog = fun w => .ok false w := isAgg_no Tryd.underlying25 rfl
theorem agg44 : (isAgg 44).run Tryd.prog = fun w => .ok true w := isAgg_yes Tryd.underlying44 rfl
theorem enters12 : Enters Tryd.prog 12 := ⟨_, Tryd.func12, by kernel_rfl, by kernel_rfl⟩
theorem enters21 : Enters Tryd.prog 21 := ⟨_, Tryd.func21, by kernel_rfl, by kernel_rfl⟩
theorem size5 : (Tryd.prog.info? 5).map (·.size) = some 1 := by kernel_rfl
theorem size24 : (Tryd.prog.info? 24).map (·.size) = some 1 := by kernel_rfl
theorem size25 : (Tryd.prog.info? 25).map (·.size) = some 1 := by kernel_rfl
theorem size44 : (Tryd.prog.info? 44).map (·.size) = some 4 := by kernel_rfl
theorem zero44 : (Tryd.prog.info? 44).bind (·.zero) = some (.agg #[.int .u8 0, .int .u8 0, .int .u8 0, .int .u8 0]) := by kernel_rfl
set_option maxRecDepth 100000 in
set_option maxHeartbeats 400000 in
theorem next_c (x : BitVec 32) (b : Int) (w : World) (h1 : 1 < w.heap.size) (hLO : RowI w 0 0 16 .u32 LOWT) (hHI : RowI w 1 0 16 .u32 HIGHT) : Calls Tryd.prog 21 #[.int .u32 (vI x), .int .u8 b] w fun e w' => e = .returned (.int .u32 (vI (nextV x b))) ∧ St w [] w' := by
  refine calls_from (args := [.int .u32 (vI x), .int .u8 b]) Tryd.func21 rfl Tryd.ntmps21 (by simp) ?_
  refine TC.sub (Sub.cons (i := 0) rfl (Sub.cons (i := 1) rfl (Sub.nil))) ?_
  refine TC.seq ?_
  refine TC.regionL ?_
  refine TL.gets (Wants.none rfl) rfl (Gets.assign rfl rfl) ?_
  refine TL.nil ?_
  refine TE.then ?_
  refine TC.seq ?_
  refine TC.regionL ?_
  refine TL.gets (Wants.none rfl) rfl (Gets.move rfl rfl) ?_
  refine TL.gets (Wants.none rfl) rfl (Gets.conv rfl Tryd.underlying42 Tryd.underlying5 rfl (r := (IntKind.u8.wrap (vI x))) rfl) ?_
  refine TL.gets (Wants.none rfl) rfl (Gets.move rfl rfl) ?_
  refine TL.gets (Wants.none rfl) rfl (Gets.xor rfl rfl rfl (r := (xorI .u8 (IntKind.u8.wrap (vI x)) b)) rfl) ?_
  refine TL.gets (Wants.none rfl) rfl (Gets.assign rfl rfl) ?_
  refine TL.nil ?_
  refine TE.then ?_
  refine TC.seq ?_
  have hix := idx_ok x b
  refine TC.mix (by kernel_rfl) [0, 0, 0, 0, 0, 1, 0, 0, 0, 1, 0, 0, 0] rfl (by kernel_rfl) ?_
  refine TM.free (Wants.none rfl) rfl (fun _ => Gets.move rfl rfl) ?_
  refine TM.free (Wants.none rfl) rfl (fun _ => Gets.shr rfl rfl rfl (by omega) (r := (shrI .u32 (vI x) 8)) rfl) ?_
  refine TM.free (Wants.none rfl) rfl (fun _ => Gets.move rfl rfl) ?_
  refine TM.free (Wants.none rfl) rfl (fun _ => Gets.and rfl rfl rfl (r := (andI .u8 (xorI .u8 (IntKind.u8.wrap (vI x)) b) 15)) rfl) ?_
  refine TM.free (Wants.none rfl) rfl (fun _ => Gets.idxArray rfl Tryd.underlying47 size25 rfl rfl (i := (((andI .u8 (xorI .u8 (IntKind.u8.wrap (vI x)) b) 15)).toNat)) (by omega) (by omega) (off' := (((andI .u8 (xorI .u8 (IntKind.u8.wrap (vI x)) b) 15)).toNat)) (by omega)) ?_
  refine TM.gets (Wants.none rfl) rfl (Gets.load1 rfl agg25 rfl (At.rowI hLO (i := (((andI .u8 (xorI .u8 (IntKind.u8.wrap (vI x)) b) 15)).toNat)) (by omega) (by omega) (by omega) ne_nil)) ?_
  refine TM.free (Wants.none rfl) rfl (fun _ => Gets.move rfl rfl) ?_
  refine TM.free (Wants.none rfl) rfl (fun _ => Gets.shr rfl rfl rfl (by omega) (r := (shrI .u8 (xorI .u8 (IntKind.u8.wrap (vI x)) b) 4)) rfl) ?_
  refine TM.free (Wants.none rfl) rfl (fun _ => Gets.idxArray rfl Tryd.underlying47 size25 rfl rfl (i := (((shrI .u8 (xorI .u8 (IntKind.u8.wrap (vI x)) b) 4)).toNat)) (by omega) (by omega) (off' := (((shrI .u8 (xorI .u8 (IntKind.u8.wrap (vI x)) b) 4)).toNat)) (by omega)) ?_
  refine TM.gets (Wants.none rfl) rfl (Gets.load1 rfl agg25 rfl (At.rowI hHI (i := (((shrI .u8 (xorI .u8 (IntKind.u8.wrap (vI x)) b) 4)).toNat)) (by omega) (by omega) h1 ne_nil)) ?_
  refine TM.free (Wants.none rfl) rfl (fun _ => Gets.xor rfl rfl rfl (r := (xorI .u32 (LOWT.getD (((andI .u8 (xorI .u8 (IntKind.u8.wrap (vI x)) b) 15)).toNat) 0) (HIGHT.getD (((shrI .u8 (xorI .u8 (IntKind.u8.wrap (vI x)) b) 4)).toNat) 0))) rfl) ?_
  refine TM.free (Wants.none rfl) rfl (fun _ => Gets.xor rfl rfl rfl (r := (xorI .u32 (shrI .u32 (vI x) 8) (xorI .u32 (LOWT.getD (((andI .u8 (xorI .u8 (IntKind.u8.wrap (vI x)) b) 15)).toNat) 0) (HIGHT.getD (((shrI .u8 (xorI .u8 (IntKind.u8.wrap (vI x)) b) 4)).toNat) 0)))) rfl) ?_
  refine TM.free (Wants.none rfl) rfl (fun _ => Gets.assign rfl rfl) ?_
  refine TM.nil ?_
  refine TE.then ?_
  refine TC.ret ?_
  exact TE.ret1 rfl rfl (fun w hs => ⟨congrArg (fun z => Ending.returned (.int .u32 z)) (next_tab x b), hs⟩)

set_option maxRecDepth 100000 in
set_option maxHeartbeats 400000 in
theorem extend_c (s : BitVec 32) (Ps : List (List Int)) (A : Option Addr) (m c : Nat) (w : World) (hP : PartsO w A m Ps) (hmc : m ≤ c) (hcm : c ≤ 9223372036854775807) (hlen : ∀ i, i < m → (Ps.getD i []).length ≤ 4611686018427387000) (h1 : 1 < w.heap.size) (hLO : RowI w 0 0 16 .u32 LOWT) (hHI : RowI w 1 0 16 .u32 HIGHT) : Calls Tryd.prog 12 #[.int .u32 (vI s), .slice A m c] w fun e w' => e = .returned (.int .u32 (vI (crcV s Ps.flatten))) ∧ St w [] w' := by
  refine calls_from (args := [.int .u32 (vI s), .slice A m c]) Tryd.func12 rfl Tryd.ntmps12 (by simp) ?_
  refine TC.sub (Sub.cons (i := 0) rfl (Sub.cons (i := 1) rfl (Sub.nil))) ?_
  refine TC.seq ?_
  refine TC.regionL ?_
  refine TL.gets (Wants.none rfl) rfl (Gets.assign rfl rfl) ?_
  refine TL.nil ?_
  refine TE.then ?_
  refine TC.seq ?_
  refine TC.regionL ?_
  refine TL.gets (Wants.none rfl) rfl (Gets.move rfl rfl) ?_
  refine TL.gets (Wants.none rfl) rfl (Gets.congr (Gets.cplU rfl rfl) (by rw [cpl_v])) ?_
  refine TL.gets (Wants.none rfl) rfl (Gets.assign rfl rfl) ?_
  refine TL.nil ?_
  refine TE.then ?_
  refine TC.seq ?_
  refine TC.seq ?_
  refine TC.regionL ?_
  refine TL.gets (Wants.none rfl) rfl (Gets.move rfl rfl) ?_
  refine TL.gets (Wants.none rfl) rfl (Gets.lenSlice rfl Tryd.underlying22 rfl) ?_
  refine TL.gets (Wants.none rfl) rfl (Gets.move rfl rfl) ?_
  refine TL.nil ?_
  refine TE.then ?_
  refine TC.sub (Sub.cons (i := 4) rfl (Sub.cons (i := 5) rfl (Sub.cons (i := 12) rfl (Sub.cons (i := 13) rfl (Sub.cons (i := 14) rfl (Sub.nil)))))) ?_
  refine TC.block ?_
  refine TC.loop (ι := Nat) (fun i => [(5, .int .u32 (vI (regV (~~~ s) (Ps.take i).flatten))), (12, .slice A m c), (13, .int .i64 (m : Int)), (14, .int .i64 (i : Int))]) (fun i => []) (fun i => m - i) (fun i => i ≤ m) 0 (Nat.zero_le _) (Sub.int (i := 5) rfl (by rw [List.take_zero, List.flatten_nil, regV_nil]) (Sub.slice (i := 12) rfl rfl (by first | omega | (dsimp only; omega) | rfl) (by first | omega | (dsimp only; omega) | rfl) (Sub.int (i := 13) rfl (by first | omega | rfl) (Sub.int (i := 14) rfl (by first | omega | rfl) (Sub.nil))))) (fun w h => h) (fun i hC0 => ?_)
  refine TC.seq ?_
  refine TC.regionL ?_
  refine TL.gets (Wants.none rfl) rfl (Gets.lss rfl rfl rfl) ?_
  refine TL.nil ?_
  refine TE.then ?_
  refine TC.seq ?_
  refine TC.split rfl (fun hq0 => ?_) (fun hq0 => ?_)
  · obtain ⟨b, off, hA, hb, hcells⟩ := hP.2.resolve_left (by omega)
    subst hA
    obtain ⟨Ai, mi, ci, hci, hSi, hmi⟩ := hcells i (by omega)
    have hoff : off + i = (off + i) := rfl
    have hli := hlen i (by omega)
    have hSl := hSi.1
    refine TC.skip ?_
    refine TE.then ?_
    refine TC.seq ?_
    refine TC.block ?_
    refine TC.seq ?_
    refine TC.regionL ?_
    refine TL.gets (Wants.none rfl) rfl (Gets.idxSlice rfl Tryd.underlying22 size24 rfl rfl (i := i) (by omega) (by omega) (off' := (off + i)) (by omega)) ?_
    refine TL.gets (Wants.none rfl) rfl (Gets.load1 rfl agg24 rfl (At.old (hoff ▸ hci) hb ne_nil)) ?_
    refine TL.gets (Wants.none rfl) rfl (Gets.assign rfl rfl) ?_
    refine TL.nil ?_
    refine TE.then ?_
    refine TC.seq ?_
    refine TC.regionL ?_
    refine TL.gets (Wants.none rfl) rfl (Gets.move rfl rfl) ?_
    refine TL.gets (Wants.none rfl) rfl (Gets.lenSlice rfl Tryd.underlying24 rfl) ?_
    refine TL.gets (Wants.none rfl) rfl (Gets.move rfl rfl) ?_
    refine TL.nil ?_
    refine TE.then ?_
    refine TC.sub (Sub.cons (i := 5) rfl (Sub.cons (i := 12) rfl (Sub.cons (i := 13) rfl (Sub.cons (i := 14) rfl (Sub.cons (i := 18) rfl (Sub.cons (i := 19) rfl (Sub.cons (i := 20) rfl (Sub.nil)))))))) ?_
    refine TC.block ?_
    refine TC.loop (ι := Nat) (fun j => [(5, .int .u32 (vI (regV (regV (~~~ s) (Ps.take i).flatten) ((Ps.getD i []).take j)))), (12, .slice (some ⟨b, off, none⟩) m c), (13, .int .i64 (m : Int)), (14, .int .i64 (i : Int)), (18, .slice Ai mi ci), (19, .int .i64 (mi : Int)), (20, .int .i64 (j : Int))]) (fun j => []) (fun j => mi - j) (fun j => j ≤ mi) 0 (Nat.zero_le _) (Sub.int (i := 5) rfl (by rw [List.take_zero, regV_nil]) (Sub.slice (i := 12) rfl rfl (by first | omega | (dsimp only; omega) | rfl) (by first | omega | (dsimp only; omega) | rfl) (Sub.int (i := 13) rfl (by first | omega | rfl) (Sub.int (i := 14) rfl (by first | omega | rfl) (Sub.slice (i := 18) rfl rfl (by first | omega | (dsimp only; omega) | rfl) (by first | omega | (dsimp only; omega) | rfl) (Sub.int (i := 19) rfl (by first | omega | rfl) (Sub.int (i := 20) rfl (by first | omega | rfl) (Sub.nil)))))))) (fun w h => h) (fun j hC1 => ?_)
    refine TC.seq ?_
    refine TC.regionL ?_
    refine TL.gets (Wants.none rfl) rfl (Gets.lss rfl rfl rfl) ?_
    refine TL.nil ?_
    refine TE.then ?_
    refine TC.seq ?_
    refine TC.split rfl (fun hq1 => ?_) (fun hq1 => ?_)
    · obtain ⟨bi, oi, hAi, hbi, hri⟩ := hSi.2.resolve_left (by omega)
      subst hAi
      refine TC.skip ?_
      refine TE.then ?_
      refine TC.seq ?_
      refine TC.block ?_
      refine TC.seq ?_
      refine TC.regionL ?_
      refine TL.gets (Wants.none rfl) rfl (Gets.idxSlice rfl Tryd.underlying24 size5 rfl rfl (i := j) (by omega) (by omega) (off' := (oi + j)) (by omega)) ?_
      refine TL.gets (Wants.none rfl) rfl (Gets.load1 rfl agg5 rfl (At.rowI hri (i := j) (by omega) (by omega) hbi ne_nil)) ?_
      refine TL.gets (Wants.none rfl) rfl (Gets.assign rfl rfl) ?_
      refine TL.nil ?_
      refine TE.then ?_
      refine TC.sub (Sub.cons (i := 5) rfl (Sub.cons (i := 9) rfl (Sub.cons (i := 12) rfl (Sub.cons (i := 13) rfl (Sub.cons (i := 14) rfl (Sub.cons (i := 18) rfl (Sub.cons (i := 19) rfl (Sub.cons (i := 20) rfl (Sub.nil))))))))) ?_
      refine TC.regionL ?_
      refine TL.gets (Wants.none rfl) rfl (Gets.move rfl rfl) ?_
      refine TL.gets (Wants.none rfl) rfl (Gets.move rfl rfl) ?_
      refine TL.call0 (Wants.none rfl) rfl enters21 rfl rfl (v := .int .u32 (vI (nextV (regV (regV (~~~ s) (Ps.take i).flatten) ((Ps.getD i []).take j)) ((Ps.getD i []).getD j 0)))) (fun w hs => next_c (regV (regV (~~~ s) (Ps.take i).flatten) ((Ps.getD i []).take j)) ((Ps.getD i []).getD j 0) w (Nat.lt_of_lt_of_le h1 hs.size) (hLO.keepH hs (by omega) ne_nil) (hHI.keepH hs h1 ne_nil)) ?_
      refine TL.gets (Wants.none rfl) rfl (Gets.assign rfl rfl) ?_
      refine TL.nil ?_
      refine TE.blockN ?_
      refine TE.then ?_
      refine TC.sub (Sub.cons (i := 5) rfl (Sub.cons (i := 12) rfl (Sub.cons (i := 13) rfl (Sub.cons (i := 14) rfl (Sub.cons (i := 18) rfl (Sub.cons (i := 19) rfl (Sub.cons (i := 20) rfl (Sub.nil)))))))) ?_
      refine TC.regionL ?_
      refine TL.gets (Wants.none rfl) rfl (Gets.add rfl rfl rfl (r := ((j : Int) + 1)) (w64 (by omega) (by omega))) ?_
      refine TL.gets (Wants.none rfl) rfl (Gets.move rfl rfl) ?_
      refine TL.nil ?_
      exact TE.back (j + 1) (by omega) (by omega) (Sub.int (i := 5) rfl (by have hl1 := hSi.1; rw [take_snoc (by omega), regV_snoc]) (Sub.slice (i := 12) rfl rfl (by first | omega | (dsimp only; omega) | rfl) (by first | omega | (dsimp only; omega) | rfl) (Sub.int (i := 13) rfl (by first | omega | rfl) (Sub.int (i := 14) rfl (by first | omega | rfl) (Sub.slice (i := 18) rfl (by first | rfl | (congr 2; omega)) (by first | omega | (dsimp only; omega) | rfl) (by first | omega | (dsimp only; omega) | rfl) (Sub.int (i := 19) rfl (by first | omega | rfl) (Sub.int (i := 20) rfl (by first | omega | rfl) (Sub.nil)))))))) (fun w h => h)
    · obtain rfl : mi = j := by omega
      refine TC.exit ?_
      refine TE.thenX ?_
      refine TE.thenX ?_
      refine TE.blockX ?_
      refine TE.blockN ?_
      refine TE.then ?_
      refine TC.regionL ?_
      refine TL.gets (Wants.none rfl) rfl (Gets.add rfl rfl rfl (r := ((i : Int) + 1)) (w64 (by omega) (by omega))) ?_
      refine TL.gets (Wants.none rfl) rfl (Gets.move rfl rfl) ?_
      refine TL.nil ?_
      exact TE.back (i + 1) (by omega) (by omega) (Sub.int (i := 5) rfl (by have hl1 := hSi.1; have hl2 := hP.1; have hf := flat_succ (i := i) (Ps := Ps) (by omega) []; simp only [List.nil_append] at hf; have ht : (Ps.getD i []).take mi = Ps.getD i [] := List.take_of_length_le (by omega); rw [ht, hf, regV_app]) (Sub.slice (i := 12) rfl (by first | rfl | (congr 2; omega)) (by first | omega | (dsimp only; omega) | rfl) (by first | omega | (dsimp only; omega) | rfl) (Sub.int (i := 13) rfl (by first | omega | rfl) (Sub.int (i := 14) rfl (by first | omega | rfl) (Sub.nil))))) (fun w h => h)
  · have hall : Ps.take i = Ps := List.take_of_length_le (by have := hP.1; omega)
    refine TC.exit ?_
    refine TE.thenX ?_
    refine TE.thenX ?_
    refine TE.blockX ?_
    refine TE.then ?_
    refine TC.seq ?_
    refine TC.regionL ?_
    refine TL.gets (Wants.none rfl) rfl (Gets.move rfl rfl) ?_
    refine TL.gets (Wants.none rfl) rfl (Gets.congr (Gets.cplU rfl rfl) (by rw [cpl_v, hall, crc_reg])) ?_
    refine TL.gets (Wants.none rfl) rfl (Gets.assign rfl rfl) ?_
    refine TL.nil ?_
    refine TE.then ?_
    refine TC.ret ?_
    exact TE.ret1 rfl rfl (fun w hs => ⟨rfl, hs⟩)


theorem extend0_c (Ps : List (List Int)) (A : Option Addr) (m c : Nat) (w : World) (hP : PartsO w A m Ps) (hmc : m ≤ c) (hcm : c ≤ 9223372036854775807) (hlen : ∀ i, i < m → (Ps.getD i []).length ≤ 4611686018427387000) (h1 : 1 < w.heap.size) (hLO : RowI w 0 0 16 .u32 LOWT) (hHI : RowI w 1 0 16 .u32 HIGHT) : Calls Tryd.prog 12 #[.int .u32 0, .slice A m c] w fun e w' => e = .returned (.int .u32 (vI (crcV 0#32 Ps.flatten))) ∧ St w [] w' := by
  have h := extend_c 0#32 Ps A m c w hP hmc hcm hlen h1 hLO hHI
  rw [vI_zero] at h
  exact h

set_option maxRecDepth 100000 in
set_option maxHeartbeats 400000 in
theorem of_c (Ps : List (List Int)) (A : Option Addr) (m c : Nat) (w : World) (hP : PartsO w A m Ps) (hmc : m ≤ c) (hcm : c ≤ 9223372036854775807) (hlen : ∀ i, i < m → (Ps.getD i []).length ≤ 4611686018427387000) (h1 : 1 < w.heap.size) (hLO : RowI w 0 0 16 .u32 LOWT) (hHI : RowI w 1 0 16 .u32 HIGHT) : Calls Tryd.prog 10 #[.slice A m c] w fun e w' => e = .returned (.int .u32 (vI (crcV 0#32 Ps.flatten))) ∧ St w [] w' := by
  refine calls_from (args := [.slice A m c]) Tryd.func10 rfl Tryd.ntmps10 (by simp) ?_
  refine TC.sub (Sub.cons (i := 0) rfl (Sub.nil)) ?_
  refine TC.seq ?_
  refine TC.regionL ?_
  refine TL.gets (Wants.none rfl) rfl (Gets.assign rfl rfl) ?_
  refine TL.nil ?_
  refine TE.then ?_
  refine TC.seq ?_
  refine TC.regionL ?_
  refine TL.gets (Wants.none rfl) rfl (Gets.move rfl rfl) ?_
  refine TL.call0 (Wants.none rfl) rfl enters12 rfl rfl (v := .int .u32 (vI (crcV 0#32 Ps.flatten))) (fun w hs => extend0_c Ps A m c w (hP.at_ hs (fun b hb => ne_nil)) hmc hcm hlen (Nat.lt_of_lt_of_le h1 hs.size) (hLO.keepH hs (by omega) ne_nil) (hHI.keepH hs h1 ne_nil)) ?_
  refine TL.gets (Wants.none rfl) rfl (Gets.assign rfl rfl) ?_
  refine TL.nil ?_
  refine TE.then ?_
  refine TC.ret ?_
  exact TE.ret1 rfl rfl (fun w hs => ⟨rfl, hs⟩)

set_option maxRecDepth 100000 in
set_option maxHeartbeats 400000 in
theorem encode_c (s : BitVec 32) (w : World) : Calls Tryd.prog 22 #[.int .u32 (vI s)] w fun e w' => e = .returned (.agg ((encB s).map (Value.int .u8)).toArray) ∧ St w [] w' := by
  refine calls_from (args := [.int .u32 (vI s)]) Tryd.func22 rfl Tryd.ntmps22 (by simp) ?_
  refine TC.sub (Sub.cons (i := 0) rfl (Sub.nil)) ?_
  refine TC.seq ?_
  refine TC.regionL ?_
  refine TL.alloc (Wants.none rfl) rfl rfl zero44 (cs := [Value.int .u8 0, Value.int .u8 0, Value.int .u8 0, Value.int .u8 0]) rfl (tot := 4) (by simp) (fun g1 hg1 => ?_)
  refine TL.nil ?_
  refine TE.then ?_
  refine TC.seq ?_
  refine TC.regionL ?_
  refine TL.gets (Wants.none rfl) rfl (Gets.move rfl rfl) ?_
  refine TL.gets (Wants.none rfl) rfl (Gets.conv rfl Tryd.underlying25 Tryd.underlying5 rfl (r := (IntKind.u8.wrap (vI s))) rfl) ?_
  refine TL.gets (Wants.none rfl) rfl (Gets.move rfl rfl) ?_
  refine TL.gets (Wants.none rfl) rfl (Gets.shr rfl rfl rfl (by omega) (r := (shrI .u32 (vI s) 8)) rfl) ?_
  refine TL.gets (Wants.none rfl) rfl (Gets.conv rfl Tryd.underlying25 Tryd.underlying5 rfl (r := (IntKind.u8.wrap (shrI .u32 (vI s) 8))) rfl) ?_
  refine TL.gets (Wants.none rfl) rfl (Gets.move rfl rfl) ?_
  refine TL.gets (Wants.none rfl) rfl (Gets.shr rfl rfl rfl (by omega) (r := (shrI .u32 (vI s) 16)) rfl) ?_
  refine TL.gets (Wants.none rfl) rfl (Gets.conv rfl Tryd.underlying25 Tryd.underlying5 rfl (r := (IntKind.u8.wrap (shrI .u32 (vI s) 16))) rfl) ?_
  refine TL.gets (Wants.none rfl) rfl (Gets.move rfl rfl) ?_
  refine TL.gets (Wants.none rfl) rfl (Gets.shr rfl rfl rfl (by omega) (r := (shrI .u32 (vI s) 24)) rfl) ?_
  refine TL.gets (Wants.none rfl) rfl (Gets.conv rfl Tryd.underlying25 Tryd.underlying5 rfl (r := (IntKind.u8.wrap (shrI .u32 (vI s) 24))) rfl) ?_
  refine TL.gets (Wants.none rfl) rfl (Gets.build rfl (vs := [(0, Value.int .u8 (IntKind.u8.wrap (vI s))), (1, Value.int .u8 (IntKind.u8.wrap (shrI .u32 (vI s) 8))), (2, Value.int .u8 (IntKind.u8.wrap (shrI .u32 (vI s) 16))), (3, Value.int .u8 (IntKind.u8.wrap (shrI .u32 (vI s) 24)))]) rfl (fun w => by first | rfl | kernel_rfl) (v := .agg ((encB s).map (Value.int .u8)).toArray)) ?_
  refine TL.storeW (Wants.none rfl) rfl rfl size44 rfl (vs := (encB s).map (Value.int .u8)) rfl (by simp [(encB_len s)]) ints_one (i := 0) (ent := ⟨g1, 44, [Value.int .u8 0, Value.int .u8 0, Value.int .u8 0, Value.int .u8 0], 4⟩) rfl rfl (by simp []) (H' := [⟨g1, 44, (encB s).map (Value.int .u8), 4⟩]) rfl ?_
  refine TL.nil ?_
  refine TE.then ?_
  refine TC.ret ?_
  exact TE.retC rfl agg44 size44 rfl (vs := (encB s).map (Value.int .u8)) (by simp [(encB_len s)]) (Row.all (i := 0) (ent := ⟨g1, 44, (encB s).map (Value.int .u8), 4⟩) rfl rfl rfl) (fun w hs => ⟨rfl, (hs.drop (by assumption))⟩)
end Go.Proofs.YtilmoheipkncfaaDoor
