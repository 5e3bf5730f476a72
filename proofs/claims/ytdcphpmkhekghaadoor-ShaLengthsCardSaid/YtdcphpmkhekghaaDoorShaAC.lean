/-
  ShaLengths: the walk.
-/
import Derived.Test.YtdcphpmkhekghaaDoorShaAB
namespace Go.Proofs.YtdcphpmkhekghaaDoor
set_option linter.unusedVariables false
set_option linter.unusedSimpArgs false
open Go Go.RowKit


def fillB (N : Nat) (b : Int) : Nat → List Int
  | 0 => List.replicate N 0
  | k + 1 => (fillB N b k).set k b
theorem fillB_len (N : Nat) (b : Int) : ∀ k, (fillB N b k).length = N
  | 0 => by simp [fillB]
  | k + 1 => by simp [fillB, fillB_len N b k]

set_option maxRecDepth 100000 in
set_option maxHeartbeats 1000000 in
theorem shaLengths_walk0 (w : World) (b n : Int) (N : Nat) (hN : (N : Int) = n % 140) (hn : 0 ≤ n ∧ n ≤ 255) (h1 : 1 < w.heap.size) (hIV : RowI w 0 0 8 .u32 IV) (hK : RowI w 1 0 64 .u32 KT) : Calls Tryd.prog 4 #[.int .u8 b, .int .u8 n] w fun e w' => e = .returned (.bool true) ∧ St w [] w' := by
  refine calls_from (args := [.int .u8 b, .int .u8 n]) Tryd.func4 rfl Tryd.ntmps4 (by simp) ?_
  refine TC.sub (Sub.cons (i := 0) rfl (Sub.cons (i := 1) rfl (Sub.nil))) ?_
  refine TC.seq ?_
  refine TC.regionL ?_
  refine TL.gets (Wants.none rfl) rfl (Gets.assign rfl rfl) ?_
  refine TL.nil ?_
  refine TE.then ?_
  refine TC.seq ?_
  refine TC.regionL ?_
  refine TL.gets (Wants.none rfl) rfl (Gets.move rfl rfl) ?_
  refine TL.gets (Wants.none rfl) rfl (Gets.conv rfl Tryd.underlying5 Tryd.underlying3 rfl (r := n) (w64 rfl (by omega))) ?_
  refine TL.gets (Wants.none rfl) rfl (Gets.rem rfl rfl rfl (by omega) (r := (N : Int)) (tmod_pos (by omega) (by omega))) ?_
  refine TL.makeSlice1 (Wants.none rfl) rfl rfl Tryd.underlying22 mk5 rfl rfl rfl (ln := N) (cp := N) (by omega) (by omega) (by omega) (by omega) (by omega) (fun g1 hg1 => ?_)
  rw [show List.replicate N (.int .u8 0) = (List.replicate N 0).map (Value.int .u8) from (List.map_replicate ..).symm]
  refine TL.gets (Wants.none rfl) rfl (Gets.assign rfl rfl) ?_
  refine TL.nil ?_
  refine TE.then ?_
  refine TC.seq ?_
  refine TC.seq ?_
  refine TC.regionL ?_
  refine TL.gets (Wants.none rfl) rfl (Gets.move rfl rfl) ?_
  refine TL.gets (Wants.none rfl) rfl (Gets.lenSlice rfl Tryd.underlying22 rfl) ?_
  refine TL.gets (Wants.none rfl) rfl (Gets.move rfl rfl) ?_
  refine TL.nil ?_
  refine TE.then ?_
  refine TC.sub (Sub.cons (i := 0) rfl (Sub.cons (i := 4) rfl (Sub.cons (i := 5) rfl (Sub.cons (i := 13) rfl (Sub.cons (i := 14) rfl (Sub.nil)))))) ?_
  refine TC.block ?_
  refine TC.loop (ι := Nat) (fun k => [(0, .int .u8 b), (5, .slice (some ⟨g1, 0, none⟩) N N), (13, .int .i64 (N : Int)), (14, .int .i64 (k : Int))]) (fun k => [⟨g1, 5, (fillB N b k).map (Value.int .u8), N⟩]) (fun k => N - k) (fun k => k ≤ N) 0 (Nat.zero_le _) (Sub.int (i := 0) rfl (by first | rfl | omega) (Sub.slice (i := 5) rfl rfl (by first | omega | (dsimp only; omega) | rfl) (by first | omega | (dsimp only; omega) | rfl) (Sub.int (i := 13) rfl (by first | omega | rfl) (Sub.int (i := 14) rfl (by first | omega | rfl) (Sub.nil))))) (fun w h => h) (fun k hC0 => ?_)
  refine TC.seq ?_
  refine TC.regionL ?_
  refine TL.gets (Wants.none rfl) rfl (Gets.lss rfl rfl rfl) ?_
  refine TL.nil ?_
  refine TE.then ?_
  refine TC.seq ?_
  refine TC.split rfl (fun hq0 => ?_) (fun hq0 => ?_)
  · refine TC.skip ?_
    refine TE.then ?_
    refine TC.seq ?_
    refine TC.block ?_
    refine TC.seq ?_
    refine TC.regionL ?_
    refine TL.gets (Wants.none rfl) rfl (Gets.move rfl rfl) ?_
    refine TL.gets (Wants.none rfl) rfl (Gets.assign rfl rfl) ?_
    refine TL.nil ?_
    refine TE.then ?_
    refine TC.regionL ?_
    refine TL.gets (Wants.none rfl) rfl (Gets.move rfl rfl) ?_
    refine TL.gets (Wants.none rfl) rfl (Gets.move rfl rfl) ?_
    refine TL.gets (Wants.none rfl) rfl (Gets.move rfl rfl) ?_
    refine TL.gets (Wants.none rfl) rfl (Gets.idxSlice rfl Tryd.underlying22 size5 rfl rfl (i := k) (by omega) (by omega) (off' := k) (by omega)) ?_
    refine TL.store1 (Wants.none rfl) rfl rfl size5 rfl rfl rfl (i := 0) rfl rfl (by simp [(fillB_len N b k)] <;> omega) (cs' := ((fillB N b k).set k b).map (Value.int .u8)) (ints_set) (H' := [⟨g1, 5, ((fillB N b k).set k b).map (Value.int .u8), N⟩]) rfl ?_
    refine TL.nil ?_
    refine TE.blockN ?_
    refine TE.then ?_
    refine TC.sub (Sub.cons (i := 0) rfl (Sub.cons (i := 5) rfl (Sub.cons (i := 13) rfl (Sub.cons (i := 14) rfl (Sub.nil))))) ?_
    refine TC.regionL ?_
    refine TL.gets (Wants.none rfl) rfl (Gets.add rfl rfl rfl (r := ((k : Int) + 1)) (w64 (by omega) (by omega))) ?_
    refine TL.gets (Wants.none rfl) rfl (Gets.move rfl rfl) ?_
    refine TL.nil ?_
    exact TE.back (k + 1) (by omega) (by omega) (Sub.int (i := 0) rfl (by first | rfl | omega) (Sub.slice (i := 5) rfl rfl (by first | omega | (dsimp only; omega) | rfl) (by first | omega | (dsimp only; omega) | rfl) (Sub.int (i := 13) rfl (by first | omega | rfl) (Sub.int (i := 14) rfl (by first | omega | rfl) (Sub.nil))))) (fun w h => h)
  · obtain rfl : k = N := by omega
    have hBl := fillB_len k b k
    generalize fillB k b k = B at hBl ⊢
    refine TC.exit ?_
    refine TE.thenX ?_
    refine TE.thenX ?_
    refine TE.blockX ?_
    refine TE.then ?_
    refine TC.seq ?_
    refine TC.regionL ?_
    refine TL.call (ι := Nat) (V := fun gh1 => .pointer (some ⟨gh1, 0, none⟩)) (R := fun gh1 => w.heap.size ≤ gh1) (H' := fun gh1 => [⟨gh1, 53, IV.map (Value.int .u32) ++ ((List.replicate 64 0).map (Value.int .u8) ++ ([Value.int .i64 (([] : List Int).length : Int)])), 73⟩, ⟨g1, 5, B.map (Value.int .u8), k⟩]) (Wants.none rfl) rfl enters12 rfl rfl (fun w hs => (new_m w (by have := hs.size; omega) (hIV.keepH hs (by omega) (ne_cons (by show g1 ≠ 0; omega) ne_nil))).mono fun e w' ⟨g, he, hge, hw⟩ => ⟨g, he, Nat.le_trans hs.size hge, hs.made hw hge⟩) (fun gh1 hgh1 => ?_)
    refine TL.gets (Wants.none rfl) rfl (Gets.assign rfl rfl) ?_
    refine TL.nil ?_
    refine TE.then ?_
    refine TC.seq ?_
    refine TC.seq ?_
    refine TC.regionL ?_
    refine TL.gets (Wants.none rfl) rfl (Gets.move rfl rfl) ?_
    refine TL.gets (Wants.none rfl) rfl (Gets.ptrNil rfl Tryd.underlying28 rfl rfl) ?_
    refine TL.nil ?_
    refine TE.then ?_
    refine TC.sub (Sub.cons (i := 5) rfl (Sub.cons (i := 7) rfl (Sub.cons (i := 24) rfl (Sub.nil)))) ?_
    refine TC.no rfl ?_
    refine TC.skip ?_
    refine TE.then ?_
    refine TC.seq ?_
    refine TC.regionL ?_
    refine TL.call0 (Wants.none rfl) rfl enters9 rfl rfl (v := .bool true) (fun w hs => alive_c w (Nat.lt_of_lt_of_le h1 hs.size) (hIV.keepH hs (by omega) (ne_cons (by show gh1 ≠ 0; omega) (ne_cons (by show g1 ≠ 0; omega) ne_nil))) (hK.keepH hs h1 (ne_cons (by show gh1 ≠ 1; omega) (ne_cons (by show g1 ≠ 1; omega) ne_nil)))) ?_
    refine TL.gets (Wants.none rfl) rfl (Gets.move rfl rfl) ?_
    refine TL.gets (Wants.yes rfl rfl rfl) rfl (Gets.move rfl rfl) ?_
    refine TL.gets (Wants.yes rfl rfl rfl) rfl (Gets.move rfl rfl) ?_
    refine TL.buildSlice (Wants.yes rfl rfl rfl) rfl rfl Tryd.underlying34 size22 zero22 rfl (by decide) (by decide) (cells := #[.slice (some ⟨g1, 0, none⟩) k k]) (tot := 1) (by kernel_rfl) (cs := [.slice (some ⟨g1, 0, none⟩) k k]) rfl rfl (fun g2 hg2 => ?_)
    refine TL.call (ι := List Int × List Int) (V := fun s1 => .int .i64 (B.length : Int)) (R := fun s1 => HashOK B s1.1 s1.2) (H' := fun s1 => [⟨g2, 22, [Value.slice (some ⟨g1, 0, none⟩) k k], 1⟩, ⟨gh1, 53, s1.1.map (Value.int .u32) ++ (s1.2.map (Value.int .u8) ++ ([Value.int .i64 (B.length : Int)])), 73⟩, ⟨g1, 5, B.map (Value.int .u8), k⟩]) (Wants.yes rfl rfl rfl) rfl enters13 rfl rfl (fun w hs => (write_m ([] : List Int) IV (List.replicate 64 0) [B] B (by simp) gh1 (some ⟨g2, 0, none⟩) 1 1 w hash_nil (hs.has (⟨gh1, 53, IV.map (Value.int .u32) ++ ((List.replicate 64 0).map (Value.int .u8) ++ ([Value.int .i64 (([] : List Int).length : Int)])), 73⟩) (by simp)) (partsN_one (hs.has (⟨g2, 22, [Value.slice (some ⟨g1, 0, none⟩) k k], 1⟩) (by simp)) (pairwise_ne hs.apart (i := 0) (j := 1) rfl rfl (by omega)) (srcN_ent (hs.has (⟨g1, 5, B.map (Value.int .u8), k⟩) (by simp)) hBl (pairwise_ne hs.apart (i := 2) (j := 1) rfl rfl (by omega))) (by omega)) (by omega) (by omega) (by have lB := hBl; (try simp only [List.length_append]); omega) (Nat.lt_of_lt_of_le h1 hs.size) (hIV.keepH hs (by omega) (ne_cons (by show g2 ≠ 0; omega) (ne_cons (by show gh1 ≠ 0; omega) (ne_cons (by show g1 ≠ 0; omega) ne_nil)))) (hK.keepH hs h1 (ne_cons (by show g2 ≠ 1; omega) (ne_cons (by show gh1 ≠ 1; omega) (ne_cons (by show g1 ≠ 1; omega) ne_nil)))) (by omega)).mono fun e w' ⟨he, st', rs', h1, h2⟩ => ⟨(st', rs'), he.trans (by simp), h1, St.turn (i := 1) (e := ⟨gh1, 53, (st').map (Value.int .u32) ++ ((rs').map (Value.int .u8) ++ ([Value.int .i64 (B.length : Int)])), 73⟩) hs rfl rfl h2⟩) (fun s1 hk1 => ?_)
    have hx1 := hk1.len
    have hy1 := hk1.rlen
    refine TL.gets (Wants.yes rfl rfl rfl) rfl (Gets.move rfl rfl) ?_
    refine TL.gets (Wants.yes rfl rfl rfl) rfl (Gets.lenSlice rfl Tryd.underlying22 rfl) ?_
    refine TL.gets (Wants.yes rfl rfl rfl) rfl (Gets.isTrue (Gets.eql rfl rfl rfl) (by have lB := hBl; omega)) ?_
    refine TL.gets (Wants.none rfl) rfl (Gets.pickT rfl rfl rfl) ?_
    refine TL.gets (Wants.none rfl) rfl (Gets.move rfl rfl) ?_
    refine TL.gets (Wants.yes rfl rfl rfl) rfl (Gets.move rfl rfl) ?_
    refine TL.call0 (Wants.yes rfl rfl rfl) rfl enters14 rfl rfl (v := .agg ((shaM B).map (Value.int .u8)).toArray) (fun w hs => sum_m B s1.1 s1.2 gh1 w hk1 (hs.has (⟨gh1, 53, s1.1.map (Value.int .u32) ++ (s1.2.map (Value.int .u8) ++ ([Value.int .i64 (B.length : Int)])), 73⟩) (by simp)) (by have lB := hBl; (try simp only [List.length_append]); omega) (Nat.lt_of_lt_of_le h1 hs.size) (hIV.keepH hs (by omega) (ne_cons (by show g2 ≠ 0; omega) (ne_cons (by show gh1 ≠ 0; omega) (ne_cons (by show g1 ≠ 0; omega) ne_nil)))) (hK.keepH hs h1 (ne_cons (by show g2 ≠ 1; omega) (ne_cons (by show gh1 ≠ 1; omega) (ne_cons (by show g1 ≠ 1; omega) ne_nil))))) ?_
    refine TL.gets (Wants.yes rfl rfl rfl) rfl (Gets.move rfl rfl) ?_
    refine TL.call0 (Wants.yes rfl rfl rfl) rfl enters11 rfl rfl (v := .agg ((shaM B).map (Value.int .u8)).toArray) (fun w hs => rof_c B (some ⟨g1, 0, none⟩) k k w (src_ent (hs.has (⟨g1, 5, B.map (Value.int .u8), k⟩) (by simp)) hBl) (by omega) (by omega)) ?_
    refine TL.gets (Wants.yes rfl rfl rfl) rfl (Gets.arrSame rfl Tryd.underlying24 Tryd.underlying5 size5 geq24 rfl rfl (shaM_len B)) ?_
    refine TL.gets (Wants.none rfl) rfl (Gets.pickT rfl rfl rfl) ?_
    refine TL.gets (Wants.none rfl) rfl (Gets.move rfl rfl) ?_
    refine TL.gets (Wants.yes rfl rfl rfl) rfl (Gets.move rfl rfl) ?_
    refine TL.call0 (Wants.yes rfl rfl rfl) rfl enters15 rfl rfl (v := .int .i64 (B.length : Int)) (fun w hs => len_m B s1.1 s1.2 gh1 w hk1 (hs.has (⟨gh1, 53, s1.1.map (Value.int .u32) ++ (s1.2.map (Value.int .u8) ++ ([Value.int .i64 (B.length : Int)])), 73⟩) (by simp))) ?_
    refine TL.gets (Wants.yes rfl rfl rfl) rfl (Gets.move rfl rfl) ?_
    refine TL.gets (Wants.yes rfl rfl rfl) rfl (Gets.lenSlice rfl Tryd.underlying22 rfl) ?_
    refine TL.gets (Wants.yes rfl rfl rfl) rfl (Gets.isTrue (Gets.eql rfl rfl rfl) (by have lB := hBl; omega)) ?_
    refine TL.gets (Wants.none rfl) rfl (Gets.pickT rfl rfl rfl) ?_
    refine TL.gets (Wants.none rfl) rfl (Gets.assign rfl rfl) ?_
    refine TL.nil ?_
    refine TE.then ?_
    refine TC.ret ?_
    exact TE.ret1 rfl rfl (fun w hs => ⟨rfl, (((hs.drop (by assumption)).drop (by assumption)).drop (by assumption))⟩)


theorem shaLengths_walk (w : World) (b : Int) (hb : 0 ≤ b ∧ b ≤ 255) (n : Int) (hn : 0 ≤ n ∧ n ≤ 255) (h1 : 1 < w.heap.size) (hIV : RowI w 0 0 8 .u32 IV) (hK : RowI w 1 0 64 .u32 KT) : Calls Tryd.prog 4 #[.int .u8 b, .int .u8 n] w fun e w' => e = .returned (.bool true) ∧ St w [] w' :=
  shaLengths_walk0 w b n (n % 140).toNat (by omega) hn h1 hIV hK
end Go.Proofs.YtdcphpmkhekghaaDoor
