/-
  Contracts of package sha: the digest of a state, the end of a message.
-/
import Derived.Test.YtdcphpmkhekghaaDoorShaA
namespace Go.Proofs.YtdcphpmkhekghaaDoor
set_option linter.unusedVariables false
set_option linter.unusedSimpArgs false
open Go Go.RowKit
theorem agg24 : (isAgg 24).run Tryd.prog = fun w => .ok true w := isAgg_yes Tryd.underlying24 rfl
theorem agg50 : (isAgg 50).run Tryd.prog = fun w => .ok true w := isAgg_yes Tryd.underlying50 rfl
theorem mk5 : (Tryd.prog.info? 5).map (fun i => (i.zero, i.size, i.bytes)) = some (some (.int .u8 0), 1, 1) := by kernel_rfl
theorem size24 : (Tryd.prog.info? 24).map (·.size) = some 32 := by kernel_rfl
theorem size50 : (Tryd.prog.info? 50).map (·.size) = some 8 := by kernel_rfl
theorem zero5 : (Tryd.prog.info? 5).bind (·.zero) = some (.int .u8 0) := by kernel_rfl
theorem zero24 : (Tryd.prog.info? 24).bind (·.zero) = some (.agg #[.int .u8 0, .int .u8 0, .int .u8 0, .int .u8 0, .int .u8 0, .int .u8 0, .int .u8 0, .int .u8 0, .int .u8 0, .int .u8 0, .int .u8 0, .int .u8 0, .int .u8 0, .int .u8 0, .int .u8 0, .int .u8 0, .int .u8 0, .int .u8 0, .int .u8 0, .int .u8 0, .int .u8 0, .int .u8 0, .int .u8 0, .int .u8 0, .int .u8 0, .int .u8 0, .int .u8 0, .int .u8 0, .int .u8 0, .int .u8 0, .int .u8 0, .int .u8 0]) := by kernel_rfl

def digB (st : List Int) : Nat → List Int
  | 0 => List.replicate 32 0
  | k + 1 => ((((digB st k).set (4 * k) (IntKind.u8.wrap (shrI .u32 (st.getD k 0) 24))).set (4 * k + 1) (IntKind.u8.wrap (shrI .u32 (st.getD k 0) 16))).set (4 * k + 2) (IntKind.u8.wrap (shrI .u32 (st.getD k 0) 8))).set (4 * k + 3) (IntKind.u8.wrap (st.getD k 0))
theorem digB_len (st : List Int) : ∀ k, (digB st k).length = 32
  | 0 => by simp [digB]
  | k + 1 => by simp [digB, digB_len st k]

set_option maxRecDepth 100000 in
set_option maxHeartbeats 400000 in
theorem digest_c (st : List Int) (tl : List Value) (g t tot : Nat) (w : World) (hst : st.length = 8) (hl : Ent.lies ⟨g, t, st.map (Value.int .u32) ++ (tl), tot⟩ w) : Calls Tryd.prog 26 #[.pointer (some ⟨g, 0, none⟩)] w fun e w' => e = .returned (.agg ((digB st 8).map (Value.int .u8)).toArray) ∧ St w [] w' := by
  have hg : g < w.heap.size := hl.lt
  refine calls_from (args := [.pointer (some ⟨g, 0, none⟩)]) Tryd.func26 rfl Tryd.ntmps26 (by simp) ?_
  refine TC.sub (Sub.cons (i := 0) rfl (Sub.nil)) ?_
  refine TC.seq ?_
  refine TC.regionL ?_
  refine TL.alloc (Wants.none rfl) rfl rfl zero24 (cs := (List.replicate 32 0).map (Value.int .u8)) rfl (tot := 32) (by simp) (fun g1 hg1 => ?_)
  refine TL.nil ?_
  refine TE.then ?_
  refine TC.seq ?_
  refine TC.regionL ?_
  refine TL.alloc (Wants.none rfl) rfl rfl zero24 (cs := (List.replicate 32 0).map (Value.int .u8)) rfl (tot := 32) (by simp) (fun g2 hg2 => ?_)
  refine TL.nil ?_
  refine TE.then ?_
  refine TC.seq ?_
  refine TC.seq ?_
  refine TC.regionL ?_
  refine TL.gets (Wants.none rfl) rfl (Gets.move rfl rfl) ?_
  refine TL.gets (Wants.none rfl) rfl (Gets.nilCheck rfl rfl) ?_
  refine TL.gets (Wants.none rfl) rfl (Gets.loadN rfl agg50 size50 rfl (vs := st.map (Value.int .u32)) (by simp [hst]) (Row.old (lies_row hl) hg (ne_cons (by show g2 ≠ g; omega) (ne_cons (by show g1 ≠ g; omega) ne_nil)))) ?_
  refine TL.gets (Wants.none rfl) rfl (Gets.move rfl rfl) ?_
  refine TL.nil ?_
  refine TE.then ?_
  refine TC.block ?_
  refine TC.loop (ι := Nat) (fun k => [(2, .pointer (some ⟨g1, 0, none⟩)), (3, .pointer (some ⟨g2, 0, none⟩)), (8, .agg (st.map (Value.int .u32)).toArray), (9, .int .i64 (k : Int))]) (fun k => [⟨g2, 24, (digB st k).map (Value.int .u8), 32⟩, ⟨g1, 24, (List.replicate 32 0).map (Value.int .u8), 32⟩]) (fun k => 8 - k) (fun k => k ≤ 8) 0 (by omega) (Sub.cons (i := 2) rfl (Sub.cons (i := 3) rfl (Sub.cons (i := 8) rfl (Sub.int (i := 9) rfl (by first | omega | rfl) (Sub.nil))))) (fun w h => h) (fun k hC0 => ?_)
  refine TC.seq ?_
  refine TC.regionL ?_
  refine TL.gets (Wants.none rfl) rfl (Gets.lss rfl rfl rfl) ?_
  refine TL.nil ?_
  refine TE.then ?_
  refine TC.seq ?_
  refine TC.split rfl (fun h0 => ?_) (fun h0 => ?_)
  · refine TC.skip ?_
    refine TE.then ?_
    refine TC.seq ?_
    refine TC.block ?_
    refine TC.seq ?_
    refine TC.regionL ?_
    refine TL.gets (Wants.none rfl) rfl (Gets.move rfl rfl) ?_
    refine TL.gets (Wants.none rfl) rfl (Gets.index1 rfl Tryd.underlying50 agg48 size48 rfl rfl (i := k) (by omega) (by omega) (arr_get (ints_get (kd := .u32) (W := st) (i := k) (by rw [hst]; omega)))) ?_
    refine TL.gets (Wants.none rfl) rfl (Gets.assign rfl rfl) ?_
    refine TL.gets (Wants.none rfl) rfl (Gets.assign rfl rfl) ?_
    refine TL.nil ?_
    refine TE.then ?_
    refine TC.sub (Sub.cons (i := 2) rfl (Sub.cons (i := 3) rfl (Sub.cons (i := 4) rfl (Sub.cons (i := 5) rfl (Sub.cons (i := 8) rfl (Sub.cons (i := 9) rfl (Sub.nil))))))) ?_
    refine TC.regionL ?_
    refine TL.gets (Wants.none rfl) rfl (Gets.move rfl rfl) ?_
    refine TL.gets (Wants.none rfl) rfl (Gets.mul rfl rfl rfl (r := (4 * (k : Int))) (w64 (by omega) (by omega))) ?_
    refine TL.gets (Wants.none rfl) rfl (Gets.move rfl rfl) ?_
    refine TL.gets (Wants.none rfl) rfl (Gets.mul rfl rfl rfl (r := (4 * (k : Int))) (w64 (by omega) (by omega))) ?_
    refine TL.gets (Wants.none rfl) rfl (Gets.add rfl rfl rfl (r := (4 * (k : Int) + 1)) (w64 (by omega) (by omega))) ?_
    refine TL.gets (Wants.none rfl) rfl (Gets.move rfl rfl) ?_
    refine TL.gets (Wants.none rfl) rfl (Gets.mul rfl rfl rfl (r := (4 * (k : Int))) (w64 (by omega) (by omega))) ?_
    refine TL.gets (Wants.none rfl) rfl (Gets.add rfl rfl rfl (r := (4 * (k : Int) + 2)) (w64 (by omega) (by omega))) ?_
    refine TL.gets (Wants.none rfl) rfl (Gets.move rfl rfl) ?_
    refine TL.gets (Wants.none rfl) rfl (Gets.mul rfl rfl rfl (r := (4 * (k : Int))) (w64 (by omega) (by omega))) ?_
    refine TL.gets (Wants.none rfl) rfl (Gets.add rfl rfl rfl (r := (4 * (k : Int) + 3)) (w64 (by omega) (by omega))) ?_
    refine TL.gets (Wants.none rfl) rfl (Gets.move rfl rfl) ?_
    refine TL.gets (Wants.none rfl) rfl (Gets.shr rfl rfl rfl (by omega) (r := (shrI .u32 (st.getD k 0) 24)) rfl) ?_
    refine TL.gets (Wants.none rfl) rfl (Gets.conv rfl Tryd.underlying48 Tryd.underlying5 rfl (r := (IntKind.u8.wrap (shrI .u32 (st.getD k 0) 24))) rfl) ?_
    refine TL.gets (Wants.none rfl) rfl (Gets.move rfl rfl) ?_
    refine TL.gets (Wants.none rfl) rfl (Gets.shr rfl rfl rfl (by omega) (r := (shrI .u32 (st.getD k 0) 16)) rfl) ?_
    refine TL.gets (Wants.none rfl) rfl (Gets.conv rfl Tryd.underlying48 Tryd.underlying5 rfl (r := (IntKind.u8.wrap (shrI .u32 (st.getD k 0) 16))) rfl) ?_
    refine TL.gets (Wants.none rfl) rfl (Gets.move rfl rfl) ?_
    refine TL.gets (Wants.none rfl) rfl (Gets.shr rfl rfl rfl (by omega) (r := (shrI .u32 (st.getD k 0) 8)) rfl) ?_
    refine TL.gets (Wants.none rfl) rfl (Gets.conv rfl Tryd.underlying48 Tryd.underlying5 rfl (r := (IntKind.u8.wrap (shrI .u32 (st.getD k 0) 8))) rfl) ?_
    refine TL.gets (Wants.none rfl) rfl (Gets.move rfl rfl) ?_
    refine TL.gets (Wants.none rfl) rfl (Gets.conv rfl Tryd.underlying48 Tryd.underlying5 rfl (r := (IntKind.u8.wrap (st.getD k 0))) rfl) ?_
    refine TL.gets (Wants.none rfl) rfl (Gets.idxArray rfl Tryd.underlying24 size5 rfl rfl (i := (4 * k)) (by omega) (by omega) (off' := (4 * k)) (by omega)) ?_
    refine TL.store1 (Wants.none rfl) rfl rfl size5 rfl rfl rfl (i := 0) rfl rfl (by simp [(digB_len st k)] <;> omega) (cs' := ((digB st k).set (4 * k) (IntKind.u8.wrap (shrI .u32 (st.getD k 0) 24))).map (Value.int .u8)) (ints_set) (H' := [⟨g2, 24, ((digB st k).set (4 * k) (IntKind.u8.wrap (shrI .u32 (st.getD k 0) 24))).map (Value.int .u8), 32⟩, ⟨g1, 24, (List.replicate 32 0).map (Value.int .u8), 32⟩]) rfl ?_
    refine TL.gets (Wants.none rfl) rfl (Gets.idxArray rfl Tryd.underlying24 size5 rfl rfl (i := (4 * k + 1)) (by omega) (by omega) (off' := (4 * k + 1)) (by omega)) ?_
    refine TL.store1 (Wants.none rfl) rfl rfl size5 rfl rfl rfl (i := 0) rfl rfl (by simp [(digB_len st k)] <;> omega) (cs' := (((digB st k).set (4 * k) (IntKind.u8.wrap (shrI .u32 (st.getD k 0) 24))).set (4 * k + 1) (IntKind.u8.wrap (shrI .u32 (st.getD k 0) 16))).map (Value.int .u8)) (ints_set) (H' := [⟨g2, 24, (((digB st k).set (4 * k) (IntKind.u8.wrap (shrI .u32 (st.getD k 0) 24))).set (4 * k + 1) (IntKind.u8.wrap (shrI .u32 (st.getD k 0) 16))).map (Value.int .u8), 32⟩, ⟨g1, 24, (List.replicate 32 0).map (Value.int .u8), 32⟩]) rfl ?_
    refine TL.gets (Wants.none rfl) rfl (Gets.idxArray rfl Tryd.underlying24 size5 rfl rfl (i := (4 * k + 2)) (by omega) (by omega) (off' := (4 * k + 2)) (by omega)) ?_
    refine TL.store1 (Wants.none rfl) rfl rfl size5 rfl rfl rfl (i := 0) rfl rfl (by simp [(digB_len st k)] <;> omega) (cs' := ((((digB st k).set (4 * k) (IntKind.u8.wrap (shrI .u32 (st.getD k 0) 24))).set (4 * k + 1) (IntKind.u8.wrap (shrI .u32 (st.getD k 0) 16))).set (4 * k + 2) (IntKind.u8.wrap (shrI .u32 (st.getD k 0) 8))).map (Value.int .u8)) (ints_set) (H' := [⟨g2, 24, ((((digB st k).set (4 * k) (IntKind.u8.wrap (shrI .u32 (st.getD k 0) 24))).set (4 * k + 1) (IntKind.u8.wrap (shrI .u32 (st.getD k 0) 16))).set (4 * k + 2) (IntKind.u8.wrap (shrI .u32 (st.getD k 0) 8))).map (Value.int .u8), 32⟩, ⟨g1, 24, (List.replicate 32 0).map (Value.int .u8), 32⟩]) rfl ?_
    refine TL.gets (Wants.none rfl) rfl (Gets.idxArray rfl Tryd.underlying24 size5 rfl rfl (i := (4 * k + 3)) (by omega) (by omega) (off' := (4 * k + 3)) (by omega)) ?_
    refine TL.store1 (Wants.none rfl) rfl rfl size5 rfl rfl rfl (i := 0) rfl rfl (by simp [(digB_len st k)] <;> omega) (cs' := (((((digB st k).set (4 * k) (IntKind.u8.wrap (shrI .u32 (st.getD k 0) 24))).set (4 * k + 1) (IntKind.u8.wrap (shrI .u32 (st.getD k 0) 16))).set (4 * k + 2) (IntKind.u8.wrap (shrI .u32 (st.getD k 0) 8))).set (4 * k + 3) (IntKind.u8.wrap (st.getD k 0))).map (Value.int .u8)) (ints_set) (H' := [⟨g2, 24, (((((digB st k).set (4 * k) (IntKind.u8.wrap (shrI .u32 (st.getD k 0) 24))).set (4 * k + 1) (IntKind.u8.wrap (shrI .u32 (st.getD k 0) 16))).set (4 * k + 2) (IntKind.u8.wrap (shrI .u32 (st.getD k 0) 8))).set (4 * k + 3) (IntKind.u8.wrap (st.getD k 0))).map (Value.int .u8), 32⟩, ⟨g1, 24, (List.replicate 32 0).map (Value.int .u8), 32⟩]) rfl ?_
    refine TL.nil ?_
    refine TE.blockN ?_
    refine TE.then ?_
    refine TC.sub (Sub.cons (i := 2) rfl (Sub.cons (i := 3) rfl (Sub.cons (i := 8) rfl (Sub.cons (i := 9) rfl (Sub.nil))))) ?_
    refine TC.regionL ?_
    refine TL.gets (Wants.none rfl) rfl (Gets.add rfl rfl rfl (r := ((k : Int) + 1)) (w64 (by omega) (by omega))) ?_
    refine TL.gets (Wants.none rfl) rfl (Gets.move rfl rfl) ?_
    refine TL.nil ?_
    exact TE.back (k + 1) (by omega) (by omega) (Sub.cons (i := 2) rfl (Sub.cons (i := 3) rfl (Sub.cons (i := 8) rfl (Sub.int (i := 9) rfl (by first | omega | rfl) (Sub.nil))))) (fun w h => h)
  · obtain rfl : k = 8 := by omega
    have Dl := digB_len st 8
    generalize hD : digB st 8 = D at Dl ⊢
    refine TC.exit ?_
    refine TE.thenX ?_
    refine TE.thenX ?_
    refine TE.blockX ?_
    refine TE.then ?_
    refine TC.seq ?_
    refine TC.regionL ?_
    refine TL.gets (Wants.none rfl) rfl (Gets.loadN rfl agg24 size24 rfl (vs := D.map (Value.int .u8)) (by simp [Dl]) (Row.all (i := 0) (ent := ⟨g2, 24, D.map (Value.int .u8), 32⟩) rfl rfl rfl)) ?_
    refine TL.storeW (Wants.none rfl) rfl rfl size24 rfl (vs := D.map (Value.int .u8)) rfl (by simp [Dl]) ints_one (i := 1) (ent := ⟨g1, 24, (List.replicate 32 0).map (Value.int .u8), 32⟩) rfl rfl (by simp []) (H' := [⟨g2, 24, D.map (Value.int .u8), 32⟩, ⟨g1, 24, D.map (Value.int .u8), 32⟩]) rfl ?_
    refine TL.nil ?_
    refine TE.then ?_
    refine TC.ret ?_
    exact TE.retC rfl agg24 size24 rfl (vs := D.map (Value.int .u8)) (by simp [Dl]) (Row.all (i := 1) (ent := ⟨g1, 24, D.map (Value.int .u8), 32⟩) rfl rfl rfl) (fun w hs => ⟨rfl, ((hs.drop (by assumption)).drop (by assumption))⟩)


/-- How many zeros follow the byte 0x80. -/
def zerosN (n : Nat) : Nat := (119 - n % 64) % 64
def endB (n : Nat) : Nat → List Int
  | 0 => (List.replicate (zerosN n + 9) 0).set 0 128
  | k + 1 => (endB n k).set (zerosN n + k + 1) (IntKind.u8.wrap (shrI .u64 (mulW .u64 n 8) (56 - 8 * k)))
theorem endB_len (n : Nat) : ∀ k, (endB n k).length = zerosN n + 9
  | 0 => by simp [endB]
  | k + 1 => by simp [endB, endB_len n k]
theorem zerosN_int (n : Nat) : (119 - (n : Int) % 64) % 64 = zerosN n := by unfold zerosN; omega
theorem zerosN_lt (n : Nat) : zerosN n < 64 := by unfold zerosN; omega

set_option maxRecDepth 100000 in
set_option maxHeartbeats 400000 in
theorem ending_c (n : Nat) (w : World) (hn : n ≤ 4611686018427387903) : Calls Tryd.prog 25 #[.int .i64 (n : Int)] w fun e w' => ∃ g, e = .returned (.slice (some ⟨g, 0, none⟩) (zerosN n + 9) (zerosN n + 9)) ∧ w.heap.size ≤ g ∧ St w [⟨g, 5, (endB n 8).map (Value.int .u8), zerosN n + 9⟩] w' := by
  have hz := zerosN_lt n
  refine calls_from (args := [.int .i64 (n : Int)]) Tryd.func25 rfl Tryd.ntmps25 (by simp) ?_
  refine TC.sub (Sub.cons (i := 0) rfl (Sub.nil)) ?_
  refine TC.seq ?_
  refine TC.regionL ?_
  refine TL.gets (Wants.none rfl) rfl (Gets.assign rfl rfl) ?_
  refine TL.nil ?_
  refine TE.then ?_
  refine TC.seq ?_
  refine TC.regionL ?_
  refine TL.gets (Wants.none rfl) rfl (Gets.move rfl rfl) ?_
  refine TL.gets (Wants.none rfl) rfl (Gets.rem rfl rfl rfl (by omega) (r := ((n : Int) % 64)) (tmod_pos (by omega) rfl)) ?_
  refine TL.gets (Wants.none rfl) rfl (Gets.sub rfl rfl rfl (r := (119 - ((n : Int) % 64))) (w64 (by omega) (by omega))) ?_
  refine TL.gets (Wants.none rfl) rfl (Gets.rem rfl rfl rfl (by omega) (r := (zerosN n : Int)) (tmod_pos (by omega) (zerosN_int n))) ?_
  refine TL.gets (Wants.none rfl) rfl (Gets.assign rfl rfl) ?_
  refine TL.nil ?_
  refine TE.then ?_
  refine TC.seq ?_
  refine TC.regionL ?_
  refine TL.gets (Wants.none rfl) rfl (Gets.move rfl rfl) ?_
  refine TL.gets (Wants.none rfl) rfl (Gets.add rfl rfl rfl (r := ((zerosN n : Int) + 1)) (w64 (by omega) (by omega))) ?_
  refine TL.gets (Wants.none rfl) rfl (Gets.move rfl rfl) ?_
  refine TL.gets (Wants.none rfl) rfl (Gets.add rfl rfl rfl (r := ((zerosN n : Int) + 1)) (w64 (by omega) (by omega))) ?_
  refine TL.gets (Wants.none rfl) rfl (Gets.add rfl rfl rfl (r := ((zerosN n : Int) + 9)) (w64 (by omega) (by omega))) ?_
  refine TL.makeSlice1 (Wants.none rfl) rfl rfl Tryd.underlying22 mk5 rfl rfl rfl (ln := ((zerosN n) + 1)) (cp := ((zerosN n) + 9)) (by omega) (by omega) (by omega) (by omega) (by omega) (fun g1 hg1 => ?_)
  rw [show List.replicate ((zerosN n) + 9) (.int .u8 0) = (List.replicate ((zerosN n) + 9) 0).map (Value.int .u8) from (List.map_replicate ..).symm]
  refine TL.gets (Wants.none rfl) rfl (Gets.assign rfl rfl) ?_
  refine TL.nil ?_
  refine TE.then ?_
  refine TC.sub (Sub.cons (i := 0) rfl (Sub.cons (i := 2) rfl (Sub.cons (i := 4) rfl (Sub.nil)))) ?_
  refine TC.seq ?_
  refine TC.regionL ?_
  refine TL.gets (Wants.none rfl) rfl (Gets.move rfl rfl) ?_
  refine TL.gets (Wants.none rfl) rfl (Gets.idxSlice rfl Tryd.underlying22 size5 rfl rfl (i := 0) (by rfl) (by omega) (off' := 0) (by omega)) ?_
  refine TL.store1 (Wants.none rfl) rfl rfl size5 rfl rfl rfl (i := 0) rfl rfl (by simp [] <;> omega) (cs' := (endB n 0).map (Value.int .u8)) (ints_set) (H' := [⟨g1, 5, (endB n 0).map (Value.int .u8), ((zerosN n) + 9)⟩]) rfl ?_
  refine TL.nil ?_
  refine TE.then ?_
  refine TC.seq ?_
  refine TC.regionL ?_
  refine TL.gets (Wants.none rfl) rfl (Gets.move rfl rfl) ?_
  refine TL.gets (Wants.none rfl) rfl (Gets.conv rfl Tryd.underlying3 Tryd.underlying62 rfl (r := (n : Int)) (wu64 rfl (by omega))) ?_
  refine TL.gets (Wants.none rfl) rfl (Gets.mulU rfl rfl rfl) ?_
  refine TL.gets (Wants.none rfl) rfl (Gets.assign rfl rfl) ?_
  refine TL.nil ?_
  refine TE.then ?_
  refine TC.sub (Sub.cons (i := 2) rfl (Sub.cons (i := 4) rfl (Sub.cons (i := 5) rfl (Sub.nil)))) ?_
  refine TC.seq ?_
  refine TC.seq ?_
  refine TC.regionL ?_
  refine TL.gets (Wants.none rfl) rfl (Gets.assign rfl rfl) ?_
  refine TL.nil ?_
  refine TE.then ?_
  refine TC.block ?_
  refine TC.loop (ι := Nat) (fun k => [(4, .slice (some ⟨g1, 0, none⟩) ((zerosN n) + k + 1) ((zerosN n) + 9)), (5, .int .u64 (mulW .u64 (n : Int) 8)), (6, .int .i64 (56 - 8 * (k : Int)))]) (fun k => [⟨g1, 5, (endB n k).map (Value.int .u8), (zerosN n + 9)⟩]) (fun k => 8 - k) (fun k => k ≤ 8) 0 (by omega) (Sub.slice (i := 4) rfl rfl (by first | omega | (dsimp only; omega) | rfl) (by first | omega | (dsimp only; omega) | rfl) (Sub.int (i := 5) rfl (by first | rfl | omega) (Sub.int (i := 6) rfl (by first | omega | rfl) (Sub.nil)))) (fun w h => h) (fun k hC0 => ?_)
  refine TC.seq ?_
  refine TC.seq ?_
  refine TC.regionL ?_
  refine TL.gets (Wants.none rfl) rfl (Gets.move rfl rfl) ?_
  refine TL.gets (Wants.none rfl) rfl (Gets.geq rfl rfl rfl) ?_
  refine TL.nil ?_
  refine TE.then ?_
  refine TC.split rfl (fun h0 => ?_) (fun h0 => ?_)
  · refine TC.skip ?_
    refine TE.then ?_
    refine TC.seq ?_
    refine TC.block ?_
    refine TC.regionL ?_
    refine TL.gets (Wants.none rfl) rfl (Gets.move rfl rfl) ?_
    refine TL.gets (Wants.none rfl) rfl (Gets.move rfl rfl) ?_
    refine TL.gets (Wants.none rfl) rfl (Gets.move rfl rfl) ?_
    refine TL.gets (Wants.none rfl) rfl (Gets.shr rfl rfl rfl (by omega) (r := (shrI .u64 (mulW .u64 (n : Int) 8) (56 - 8 * (k : Int)))) rfl) ?_
    refine TL.gets (Wants.none rfl) rfl (Gets.conv rfl Tryd.underlying62 Tryd.underlying5 rfl (r := (IntKind.u8.wrap (shrI .u64 (mulW .u64 (n : Int) 8) (56 - 8 * (k : Int))))) rfl) ?_
    refine TL.buildSlice (Wants.none rfl) rfl rfl Tryd.underlying22 size5 zero5 rfl (by decide) (by decide) (cells := #[.int .u8 (IntKind.u8.wrap (shrI .u64 (mulW .u64 (n : Int) 8) (56 - 8 * (k : Int))))]) (tot := 1) (by kernel_rfl) (cs := [.int .u8 (IntKind.u8.wrap (shrI .u64 (mulW .u64 (n : Int) 8) (56 - 8 * (k : Int))))]) rfl rfl (fun g2 hg2 => ?_)
    refine TL.append1 (Wants.none rfl) rfl rfl Tryd.underlying22 size5 rfl rfl (i := 1) (j := 0) rfl rfl rfl rfl rfl (by omega) (by simp [(endB_len n k)] <;> omega) (cs' := ((endB n k).set ((zerosN n) + k + 1) (IntKind.u8.wrap (shrI .u64 (mulW .u64 (n : Int) 8) (56 - 8 * (k : Int))))).map (Value.int .u8)) (ints_set) (H' := [⟨g2, 5, [Value.int .u8 (IntKind.u8.wrap (shrI .u64 (mulW .u64 (n : Int) 8) (56 - 8 * (k : Int))))], 1⟩, ⟨g1, 5, ((endB n k).set ((zerosN n) + k + 1) (IntKind.u8.wrap (shrI .u64 (mulW .u64 (n : Int) 8) (56 - 8 * (k : Int))))).map (Value.int .u8), (zerosN n + 9)⟩]) rfl (ln' := ((zerosN n) + k + 2)) (by omega) ?_
    refine TL.gets (Wants.none rfl) rfl (Gets.assign rfl rfl) ?_
    refine TL.nil ?_
    refine TE.blockN ?_
    refine TE.then ?_
    refine TC.sub (Sub.cons (i := 4) rfl (Sub.cons (i := 5) rfl (Sub.cons (i := 6) rfl (Sub.nil)))) ?_
    refine TC.regionL ?_
    refine TL.gets (Wants.none rfl) rfl (Gets.move rfl rfl) ?_
    refine TL.gets (Wants.none rfl) rfl (Gets.sub rfl rfl rfl (r := (48 - 8 * (k : Int))) (w64 (by omega) (by omega))) ?_
    refine TL.gets (Wants.none rfl) rfl (Gets.assign rfl rfl) ?_
    refine TL.nil ?_
    exact TE.back (k + 1) (by omega) (by omega) (Sub.slice (i := 4) rfl rfl (by first | omega | (dsimp only; omega) | rfl) (by first | omega | (dsimp only; omega) | rfl) (Sub.int (i := 5) rfl (by first | rfl | omega) (Sub.int (i := 6) rfl (by first | omega | rfl) (Sub.nil)))) (fun w h => h.drop (by assumption))
  · obtain rfl : k = 8 := by omega
    have El := endB_len n 8
    generalize hE : endB n 8 = E at El ⊢
    refine TC.exit ?_
    refine TE.thenX ?_
    refine TE.thenX ?_
    refine TE.blockX ?_
    refine TE.then ?_
    refine TC.seq ?_
    refine TC.regionL ?_
    refine TL.gets (Wants.none rfl) rfl (Gets.move rfl rfl) ?_
    refine TL.gets (Wants.none rfl) rfl (Gets.assign rfl rfl) ?_
    refine TL.nil ?_
    refine TE.then ?_
    refine TC.ret ?_
    exact TE.ret1 rfl rfl (fun w hs => ⟨g1, rfl, hg1, hs⟩)
end Go.Proofs.YtdcphpmkhekghaaDoor
