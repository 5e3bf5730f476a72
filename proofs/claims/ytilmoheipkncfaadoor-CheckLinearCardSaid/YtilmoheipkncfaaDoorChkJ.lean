/-
  CheckLinear: the walk.
-/
import Derived.Test.YtilmoheipkncfaaDoorChkI
namespace Go.Proofs.YtilmoheipkncfaaDoor
set_option linter.unusedVariables false
set_option linter.unusedSimpArgs false
open Go Go.RowKit


def xL (A B C : List Int) (n : Nat) : Nat → List Int
  | 0 => List.replicate n 0
  | k + 1 => (xL A B C n k).set k (xorI .u8 (xorI .u8 (A.getD k 0) (B.getD k 0)) (C.getD k 0))
theorem xL_len (A B C : List Int) (n : Nat) : ∀ k, (xL A B C n k).length = n
  | 0 => by simp [xL]
  | k + 1 => by simp [xL, xL_len A B C n k]
theorem xL_get (A B C : List Int) (n : Nat) : ∀ k, k ≤ n → ∀ j, j < k → (xL A B C n k).getD j 0 = xorI .u8 (xorI .u8 (A.getD j 0) (B.getD j 0)) (C.getD j 0)
  | 0, _, j, hj => absurd hj (Nat.not_lt_zero j)
  | k + 1, hk, j, hj => by
    have hl := xL_len A B C n k
    rw [xL, getD_set (by omega)]
    by_cases e : k = j
    · subst e; rw [if_pos rfl]
    · rw [if_neg e]; exact xL_get A B C n k (by omega) j (by omega)
theorem zipX_cons (a b : Int) (A B : List Int) : zipX (a :: A) (b :: B) = xorI .u8 a b :: zipX A B := by rw [zipX]
theorem zipX_nil : zipX [] [] = [] := by unfold zipX; rfl
theorem zipX_len : ∀ (A B : List Int), A.length = B.length → (zipX A B).length = A.length
  | [], [], _ => by rw [zipX_nil]
  | [], _ :: _, h => by simp at h
  | _ :: _, [], h => by simp at h
  | a :: A, b :: B, h => by rw [zipX_cons, List.length_cons, List.length_cons, zipX_len A B (by simpa using h)]
theorem zipX_get : ∀ (A B : List Int) (j : Nat), A.length = B.length → j < A.length → (zipX A B).getD j 0 = xorI .u8 (A.getD j 0) (B.getD j 0)
  | [], _, _, _, h => by simp at h
  | _ :: _, [], _, h, _ => by simp at h
  | a :: A, b :: B, 0, _, _ => by rw [zipX_cons]; rfl
  | a :: A, b :: B, j + 1, h, hj => by
    rw [zipX_cons]
    have := zipX_get A B j (by simpa using h) (by simpa using hj)
    simpa using this
theorem take_getD {A : List Int} {n j : Nat} (h : j < n) : (A.take n).getD j 0 = A.getD j 0 := by
  simp [List.getD_eq_getElem?_getD, List.getElem?_take, h]
theorem xL_zip {A B C : List Int} {n : Nat} (ha : n ≤ A.length) (hb : n ≤ B.length) (hc : n ≤ C.length) : xL A B C n n = zipX (zipX (A.take n) (B.take n)) (C.take n) := by
  have la : (A.take n).length = n := by rw [List.length_take]; omega
  have lb : (B.take n).length = n := by rw [List.length_take]; omega
  have lc : (C.take n).length = n := by rw [List.length_take]; omega
  have l1 := zipX_len (A.take n) (B.take n) (by omega)
  have l2 := zipX_len (zipX (A.take n) (B.take n)) (C.take n) (by omega)
  refine list_of_getD (by rw [xL_len]; omega) fun i hi => ?_
  rw [xL_len] at hi
  rw [xL_get A B C n n (Nat.le_refl _) i hi, zipX_get _ _ i (by omega) (by omega), zipX_get _ _ i (by omega) (by omega), take_getD hi, take_getD hi, take_getD hi]
theorem crc_lin {A B C : List Int} {n : Nat} (ha : n ≤ A.length) (hb : n ≤ B.length) (hc : n ≤ C.length) : crcV 0#32 (xL A B C n n) = crcV 0#32 (A.take n) ^^^ crcV 0#32 (B.take n) ^^^ crcV 0#32 (C.take n) := by
  have la : (A.take n).length = n := by rw [List.length_take]; omega
  have lb : (B.take n).length = n := by rw [List.length_take]; omega
  have lc : (C.take n).length = n := by rw [List.length_take]; omega
  exact crc3 (xL_zip ha hb hc) (by omega) (by omega)
attribute [irreducible] xL
theorem xL_zero (A B C : List Int) (n : Nat) : xL A B C n 0 = List.replicate n 0 := by unfold xL; rfl
theorem xL_succ (A B C : List Int) (n k : Nat) : xL A B C n (k + 1) = (xL A B C n k).set k (xorI .u8 (xorI .u8 (A.getD k 0) (B.getD k 0)) (C.getD k 0)) := by rw [xL]

set_option maxRecDepth 100000 in
set_option maxHeartbeats 1000000 in
theorem checkLinear_ok (w : World) (Pa : List Int) (Aa : Option Addr) (ma ca : Nat) (hsa : Src w Aa ma .u8 Pa) (hla : ma ≤ ca) (hma : ca ≤ 9223372036854775807) (Pb : List Int) (Ab : Option Addr) (mb cb : Nat) (hsb : Src w Ab mb .u8 Pb) (hlb : mb ≤ cb) (hmb : cb ≤ 9223372036854775807) (Pc : List Int) (Ac : Option Addr) (mc cc : Nat) (hsc : Src w Ac mc .u8 Pc) (hlc : mc ≤ cc) (hmc : cc ≤ 9223372036854775807) (nn : Nat) (hnn : (if (mc : Int) < (if (mb : Int) < (ma : Int) then (mb : Int) else (ma : Int)) then (mc : Int) else (if (mb : Int) < (ma : Int) then (mb : Int) else (ma : Int))) = (nn : Int)) (hna : nn ≤ Pa.length) (hnb : nn ≤ Pb.length) (hnc : nn ≤ Pc.length) (hm : nn ≤ 1000) (h1 : 1 < w.heap.size) (hLO : RowI w 0 0 16 .u32 LOWT) (hHI : RowI w 1 0 16 .u32 HIGHT) : Calls Tryd.prog 8 #[.slice Aa ma ca, .slice Ab mb cb, .slice Ac mc cc] w fun e w' => e = .returned (.bool true) ∧ St w [] w' := by
  refine calls_from (args := [.slice Aa ma ca, .slice Ab mb cb, .slice Ac mc cc]) Tryd.func8 rfl Tryd.ntmps8 (by simp) ?_
  refine TC.sub (Sub.cons (i := 0) rfl (Sub.cons (i := 1) rfl (Sub.cons (i := 2) rfl (Sub.nil)))) ?_
  refine TC.seq ?_
  refine TC.regionL ?_
  refine TL.gets (Wants.none rfl) rfl (Gets.assign rfl rfl) ?_
  refine TL.nil ?_
  refine TE.then ?_
  refine TC.seq ?_
  refine TC.regionL ?_
  refine TL.gets (Wants.none rfl) rfl (Gets.move rfl rfl) ?_
  refine TL.gets (Wants.none rfl) rfl (Gets.lenSlice rfl Tryd.underlying24 rfl) ?_
  refine TL.gets (Wants.none rfl) rfl (Gets.move rfl rfl) ?_
  refine TL.gets (Wants.none rfl) rfl (Gets.lenSlice rfl Tryd.underlying24 rfl) ?_
  refine TL.gets (Wants.none rfl) rfl (Gets.move rfl rfl) ?_
  refine TL.gets (Wants.none rfl) rfl (Gets.lenSlice rfl Tryd.underlying24 rfl) ?_
  refine TL.gets (Wants.none rfl) rfl (Gets.congr (Gets.min3 rfl rfl rfl rfl) (by rw [hnn])) ?_
  refine TL.gets (Wants.none rfl) rfl (Gets.assign rfl rfl) ?_
  refine TL.nil ?_
  refine TE.then ?_
  refine TC.sub (Sub.cons (i := 0) rfl (Sub.cons (i := 1) rfl (Sub.cons (i := 2) rfl (Sub.cons (i := 6) rfl (Sub.cons (i := 7) rfl (Sub.nil)))))) ?_
  refine TC.seq ?_
  refine TC.seq ?_
  refine TC.regionL ?_
  refine TL.gets (Wants.none rfl) rfl (Gets.move rfl rfl) ?_
  refine TL.gets (Wants.none rfl) rfl (Gets.isFalse (Gets.gtr rfl rfl rfl) (by omega)) ?_
  refine TL.nil ?_
  refine TE.then ?_
  refine TC.no rfl ?_
  refine TC.skip ?_
  refine TE.then ?_
  refine TC.seq ?_
  refine TC.regionL ?_
  refine TL.gets (Wants.none rfl) rfl (Gets.move rfl rfl) ?_
  refine TL.makeSlice1 (Wants.none rfl) rfl rfl Tryd.underlying24 mk5 rfl rfl rfl (ln := nn) (cp := nn) (by omega) (by omega) (by omega) (by omega) (by omega) (fun g1 hg1 => ?_)
  rw [show List.replicate nn (.int .u8 0) = (List.replicate nn 0).map (Value.int .u8) from (List.map_replicate ..).symm]
  refine TL.gets (Wants.none rfl) rfl (Gets.assign rfl rfl) ?_
  refine TL.nil ?_
  refine TE.then ?_
  refine TC.sub (Sub.cons (i := 0) rfl (Sub.cons (i := 1) rfl (Sub.cons (i := 2) rfl (Sub.cons (i := 6) rfl (Sub.cons (i := 7) rfl (Sub.cons (i := 8) rfl (Sub.nil))))))) ?_
  refine TC.seq ?_
  refine TC.seq ?_
  refine TC.regionL ?_
  refine TL.gets (Wants.none rfl) rfl (Gets.move rfl rfl) ?_
  refine TL.gets (Wants.none rfl) rfl (Gets.lenSlice rfl Tryd.underlying24 rfl) ?_
  refine TL.gets (Wants.none rfl) rfl (Gets.move rfl rfl) ?_
  refine TL.nil ?_
  refine TE.then ?_
  refine TC.sub (Sub.cons (i := 0) rfl (Sub.cons (i := 1) rfl (Sub.cons (i := 2) rfl (Sub.cons (i := 6) rfl (Sub.cons (i := 7) rfl (Sub.cons (i := 8) rfl (Sub.cons (i := 23) rfl (Sub.cons (i := 24) rfl (Sub.nil))))))))) ?_
  refine TC.block ?_
  refine TC.loop (ι := Nat) (fun i => [(0, .slice Aa ma ca), (1, .slice Ab mb cb), (2, .slice Ac mc cc), (7, .int .i64 (nn : Int)), (8, .slice (some ⟨g1, 0, none⟩) nn nn), (23, .int .i64 (nn : Int)), (24, .int .i64 (i : Int))]) (fun i => [⟨g1, 5, (xL Pa Pb Pc nn i).map (Value.int .u8), nn⟩]) (fun i => nn - i) (fun i => i ≤ nn) 0 (Nat.zero_le _) (Sub.slice (i := 0) rfl rfl (by first | omega | (dsimp only; omega) | rfl) (by first | omega | (dsimp only; omega) | rfl) (Sub.slice (i := 1) rfl rfl (by first | omega | (dsimp only; omega) | rfl) (by first | omega | (dsimp only; omega) | rfl) (Sub.slice (i := 2) rfl rfl (by first | omega | (dsimp only; omega) | rfl) (by first | omega | (dsimp only; omega) | rfl) (Sub.int (i := 7) rfl (by first | omega | rfl) (Sub.slice (i := 8) rfl rfl (by first | omega | (dsimp only; omega) | rfl) (by first | omega | (dsimp only; omega) | rfl) (Sub.int (i := 23) rfl (by first | omega | rfl) (Sub.int (i := 24) rfl (by first | omega | rfl) (Sub.nil)))))))) (fun w h => by rw [xL_zero]; exact h) (fun i hC0 => ?_)
  refine TC.seq ?_
  refine TC.regionL ?_
  refine TL.gets (Wants.none rfl) rfl (Gets.lss rfl rfl rfl) ?_
  refine TL.nil ?_
  refine TE.then ?_
  refine TC.seq ?_
  refine TC.split rfl (fun hq1 => ?_) (fun hq1 => ?_)
  · have la := hsa.1
    obtain ⟨ba, oa, hAa, hba, hra⟩ := hsa.2.resolve_left (by omega)
    subst hAa
    have lb := hsb.1
    obtain ⟨bb, ob, hAb, hbb, hrb⟩ := hsb.2.resolve_left (by omega)
    subst hAb
    have lc := hsc.1
    obtain ⟨bc, oc, hAc, hbc, hrc⟩ := hsc.2.resolve_left (by omega)
    subst hAc
    refine TC.skip ?_
    refine TE.then ?_
    refine TC.seq ?_
    refine TC.block ?_
    refine TC.seq ?_
    refine TC.regionL ?_
    refine TL.gets (Wants.none rfl) rfl (Gets.move rfl rfl) ?_
    refine TL.gets (Wants.none rfl) rfl (Gets.assign rfl rfl) ?_
    refine TL.nil ?_
    refine TE.then ?_
    refine TC.sub (Sub.cons (i := 0) rfl (Sub.cons (i := 1) rfl (Sub.cons (i := 2) rfl (Sub.cons (i := 7) rfl (Sub.cons (i := 8) rfl (Sub.cons (i := 9) rfl (Sub.cons (i := 23) rfl (Sub.cons (i := 24) rfl (Sub.nil))))))))) ?_
    refine TC.mix (by kernel_rfl) [0, 0, 0, 0, 0, 1, 0, 0, 0, 1, 0, 0, 0, 0, 1, 0, 0, 2] rfl (by kernel_rfl) ?_
    refine TM.free (Wants.none rfl) rfl (fun _ => Gets.move rfl rfl) ?_
    refine TM.free (Wants.none rfl) rfl (fun _ => Gets.move rfl rfl) ?_
    refine TM.free (Wants.none rfl) rfl (fun _ => Gets.move rfl rfl) ?_
    refine TM.free (Wants.none rfl) rfl (fun _ => Gets.move rfl rfl) ?_
    refine TM.free (Wants.none rfl) rfl (fun _ => Gets.idxSlice rfl Tryd.underlying24 size5 rfl rfl (i := i) (by omega) (by omega) (off' := (oa + i)) (by omega)) ?_
    refine TM.gets (Wants.none rfl) rfl (Gets.load1 rfl agg5 rfl (At.rowI hra (i := i) (by omega) (by omega) hba (ne_cons (by show g1 ≠ ba; omega) ne_nil))) ?_
    refine TM.free (Wants.none rfl) rfl (fun _ => Gets.move rfl rfl) ?_
    refine TM.free (Wants.none rfl) rfl (fun _ => Gets.move rfl rfl) ?_
    refine TM.free (Wants.none rfl) rfl (fun _ => Gets.idxSlice rfl Tryd.underlying24 size5 rfl rfl (i := i) (by omega) (by omega) (off' := (ob + i)) (by omega)) ?_
    refine TM.gets (Wants.none rfl) rfl (Gets.load1 rfl agg5 rfl (At.rowI hrb (i := i) (by omega) (by omega) hbb (ne_cons (by show g1 ≠ bb; omega) ne_nil))) ?_
    refine TM.free (Wants.none rfl) rfl (fun _ => Gets.xor rfl rfl rfl (r := (xorI .u8 (Pa.getD i 0) (Pb.getD i 0))) rfl) ?_
    refine TM.free (Wants.none rfl) rfl (fun _ => Gets.move rfl rfl) ?_
    refine TM.free (Wants.none rfl) rfl (fun _ => Gets.move rfl rfl) ?_
    refine TM.free (Wants.none rfl) rfl (fun _ => Gets.idxSlice rfl Tryd.underlying24 size5 rfl rfl (i := i) (by omega) (by omega) (off' := (oc + i)) (by omega)) ?_
    refine TM.gets (Wants.none rfl) rfl (Gets.load1 rfl agg5 rfl (At.rowI hrc (i := i) (by omega) (by omega) hbc (ne_cons (by show g1 ≠ bc; omega) ne_nil))) ?_
    refine TM.free (Wants.none rfl) rfl (fun _ => Gets.xor rfl rfl rfl (r := (xorI .u8 (xorI .u8 (Pa.getD i 0) (Pb.getD i 0)) (Pc.getD i 0))) rfl) ?_
    refine TM.free (Wants.none rfl) rfl (fun _ => Gets.idxSlice rfl Tryd.underlying24 size5 rfl rfl (i := i) (by omega) (by omega) (off' := i) (by omega)) ?_
    refine TM.store1 (Wants.none rfl) rfl rfl size5 rfl rfl rfl (i := 0) rfl rfl (by simp [(xL_len Pa Pb Pc nn i)] <;> omega) (cs' := ((xL Pa Pb Pc nn i).set i (xorI .u8 (xorI .u8 (Pa.getD i 0) (Pb.getD i 0)) (Pc.getD i 0))).map (Value.int .u8)) (ints_set) (H' := [⟨g1, 5, ((xL Pa Pb Pc nn i).set i (xorI .u8 (xorI .u8 (Pa.getD i 0) (Pb.getD i 0)) (Pc.getD i 0))).map (Value.int .u8), nn⟩]) rfl ?_
    refine TM.nil ?_
    refine TE.blockN ?_
    refine TE.then ?_
    refine TC.sub (Sub.cons (i := 0) rfl (Sub.cons (i := 1) rfl (Sub.cons (i := 2) rfl (Sub.cons (i := 7) rfl (Sub.cons (i := 8) rfl (Sub.cons (i := 23) rfl (Sub.cons (i := 24) rfl (Sub.nil)))))))) ?_
    refine TC.regionL ?_
    refine TL.gets (Wants.none rfl) rfl (Gets.add rfl rfl rfl (r := ((i : Int) + 1)) (w64 (by omega) (by omega))) ?_
    refine TL.gets (Wants.none rfl) rfl (Gets.move rfl rfl) ?_
    refine TL.nil ?_
    exact TE.back (i + 1) (by omega) (by omega) (Sub.slice (i := 0) rfl (by first | rfl | (congr 2; omega)) (by first | omega | (dsimp only; omega) | rfl) (by first | omega | (dsimp only; omega) | rfl) (Sub.slice (i := 1) rfl (by first | rfl | (congr 2; omega)) (by first | omega | (dsimp only; omega) | rfl) (by first | omega | (dsimp only; omega) | rfl) (Sub.slice (i := 2) rfl (by first | rfl | (congr 2; omega)) (by first | omega | (dsimp only; omega) | rfl) (by first | omega | (dsimp only; omega) | rfl) (Sub.int (i := 7) rfl (by first | omega | rfl) (Sub.slice (i := 8) rfl rfl (by first | omega | (dsimp only; omega) | rfl) (by first | omega | (dsimp only; omega) | rfl) (Sub.int (i := 23) rfl (by first | omega | rfl) (Sub.int (i := 24) rfl (by first | omega | rfl) (Sub.nil)))))))) (fun w h => by rw [xL_succ]; exact h)
  · have la := hsa.1; have lb := hsb.1; have lc := hsc.1
    obtain rfl : nn = i := by omega
    refine TC.exit ?_
    refine TE.thenX ?_
    refine TE.thenX ?_
    refine TE.blockX ?_
    refine TE.then ?_
    refine TC.seq ?_
    refine TC.mixQ (HB := [⟨g1, 5, (xL Pa Pb Pc nn nn).map (Value.int .u8), nn⟩]) (by kernel_rfl) [1, 0, 0, 3, 1, 0, 0, 0, 3, 1, 0, 0, 0, 3, 1, 0, 0, 0, 0, 3, 1, 0, 0, 0, 0] [0, 1, 2, 5, 6, 7, 10, 11, 12, 16, 17, 18, 3, 4, 8, 9, 13, 14, 15, 19, 20, 21, 22, 23, 24] [fun _ _ => True, fun _ _ => True, fun _ _ => True, fun v d => ∃ g, v = .slice (some ⟨g, 0, none⟩) 1 1 ∧ d = ⟨g, 24, [.slice (some ⟨g1, 0, none⟩) nn nn], 1⟩, fun _ _ => True, fun _ _ => True, fun _ _ => True, fun _ _ => True, fun v d => ∃ g, v = .slice (some ⟨g, 0, none⟩) 1 1 ∧ d = ⟨g, 24, [.slice Aa nn ca], 1⟩, fun _ _ => True, fun _ _ => True, fun _ _ => True, fun _ _ => True, fun v d => ∃ g, v = .slice (some ⟨g, 0, none⟩) 1 1 ∧ d = ⟨g, 24, [.slice Ab nn cb], 1⟩, fun _ _ => True, fun _ _ => True, fun _ _ => True, fun _ _ => True, fun _ _ => True, fun v d => ∃ g, v = .slice (some ⟨g, 0, none⟩) 1 1 ∧ d = ⟨g, 24, [.slice Ac nn cc], 1⟩, fun _ _ => True, fun _ _ => True, fun _ _ => True, fun _ _ => True, fun _ _ => True] (by kernel_rfl) ?_
    refine TQ.call0 (Wants.none rfl) rfl enters9 rfl rfl (v := .bool true) (fun Z w hZ hs => alive_c w (Nat.lt_of_lt_of_le h1 hs.size) (hLO.keepH hs (by omega) (ne_app (ne_cons (by show g1 ≠ 0; omega) ne_nil) (ne_app ne_nil (hZ.ne (Nat.lt_trans Nat.zero_lt_one h1))))) (hHI.keepH hs h1 (ne_app (ne_cons (by show g1 ≠ 1; omega) ne_nil) (ne_app ne_nil (hZ.ne h1))))) ?_
    refine TQ.free (Wants.none rfl) rfl (fun _ => Gets.move rfl rfl) ?_
    refine TQ.free (Wants.yes rfl rfl rfl) rfl (fun _ => Gets.move rfl rfl) ?_
    refine TQ.free (Wants.yes rfl rfl rfl) rfl (fun _ => Gets.move rfl rfl) ?_
    refine TQ.free (Wants.yes rfl rfl rfl) rfl (fun _ => Gets.move rfl rfl) ?_
    refine TQ.free (Wants.yes rfl rfl rfl) rfl (fun _ => Gets.sliceS rfl Tryd.underlying24 size5 rfl bnd.dflt (bnd.at_ (l := nn) rfl (by omega)) (by omega) (by omega) (cutA_zero _ _ _) (ln := nn) (cp := ca) (by omega) (by omega)) ?_
    refine TQ.free (Wants.yes rfl rfl rfl) rfl (fun _ => Gets.move rfl rfl) ?_
    refine TQ.free (Wants.yes rfl rfl rfl) rfl (fun _ => Gets.move rfl rfl) ?_
    refine TQ.free (Wants.yes rfl rfl rfl) rfl (fun _ => Gets.sliceS rfl Tryd.underlying24 size5 rfl bnd.dflt (bnd.at_ (l := nn) rfl (by omega)) (by omega) (by omega) (cutA_zero _ _ _) (ln := nn) (cp := cb) (by omega) (by omega)) ?_
    refine TQ.free (Wants.yes rfl rfl rfl) rfl (fun _ => Gets.move rfl rfl) ?_
    refine TQ.free (Wants.yes rfl rfl rfl) rfl (fun _ => Gets.move rfl rfl) ?_
    refine TQ.free (Wants.yes rfl rfl rfl) rfl (fun _ => Gets.sliceS rfl Tryd.underlying24 size5 rfl bnd.dflt (bnd.at_ (l := nn) rfl (by omega)) (by omega) (by omega) (cutA_zero _ _ _) (ln := nn) (cp := cc) (by omega) (by omega)) ?_
    refine TQ.buildSlice (Wants.yes rfl rfl rfl) rfl rfl Tryd.underlying22 size24 zero24 rfl (by decide) (by decide) (cells := #[.slice (some ⟨g1, 0, none⟩) nn nn]) (tot := 1) (by kernel_rfl) (cs := [.slice (some ⟨g1, 0, none⟩) nn nn]) rfl rfl (fun g2 hg2 => ?_)
    refine TQ.call0 (Wants.yes rfl rfl rfl) rfl enters10 rfl rfl (v := .int .u32 (vI (crcV 0#32 (xL Pa Pb Pc nn nn)))) (fun Z w hZ hs => of1_c (xL Pa Pb Pc nn nn) (some ⟨g1, 0, none⟩) nn nn g2 24 1 w (hs.has (⟨g2, 24, [Value.slice (some ⟨g1, 0, none⟩) nn nn], 1⟩) (by simp)) (src_ent (hs.has (⟨g1, 5, (xL Pa Pb Pc nn nn).map (Value.int .u8), nn⟩) (by simp)) (xL_len Pa Pb Pc nn nn)) (by omega) (by omega) (Nat.lt_of_lt_of_le h1 hs.size) (hLO.keepH hs (by omega) (ne_app (ne_cons (by show g1 ≠ 0; omega) ne_nil) (ne_app (ne_cons (by show g2 ≠ 0; omega) ne_nil) (hZ.ne (Nat.lt_trans Nat.zero_lt_one h1))))) (hHI.keepH hs h1 (ne_app (ne_cons (by show g1 ≠ 1; omega) ne_nil) (ne_app (ne_cons (by show g2 ≠ 1; omega) ne_nil) (hZ.ne h1))))) ?_
    refine TQ.buildSlice (Wants.yes rfl rfl rfl) rfl rfl Tryd.underlying22 size24 zero24 rfl (by decide) (by decide) (cells := #[.slice Aa nn ca]) (tot := 1) (by kernel_rfl) (cs := [.slice Aa nn ca]) rfl rfl (fun g3 hg3 => ?_)
    refine TQ.call0 (Wants.yes rfl rfl rfl) rfl enters10 rfl rfl (v := .int .u32 (vI (crcV 0#32 (Pa.take nn)))) (fun Z w hZ hs => of1_c (Pa.take nn) Aa nn ca g3 24 1 w (hs.has (⟨g3, 24, [Value.slice Aa nn ca], 1⟩) (by simp)) (Src.head (hsa.at_ hs (fun b hb => (ne_app (ne_cons (by show g1 ≠ b; omega) ne_nil) (ne_app (ne_cons (by show g2 ≠ b; omega) (ne_cons (by show g3 ≠ b; omega) ne_nil)) (hZ.ne hb))))) (by omega)) (by omega) (by omega) (Nat.lt_of_lt_of_le h1 hs.size) (hLO.keepH hs (by omega) (ne_app (ne_cons (by show g1 ≠ 0; omega) ne_nil) (ne_app (ne_cons (by show g2 ≠ 0; omega) (ne_cons (by show g3 ≠ 0; omega) ne_nil)) (hZ.ne (Nat.lt_trans Nat.zero_lt_one h1))))) (hHI.keepH hs h1 (ne_app (ne_cons (by show g1 ≠ 1; omega) ne_nil) (ne_app (ne_cons (by show g2 ≠ 1; omega) (ne_cons (by show g3 ≠ 1; omega) ne_nil)) (hZ.ne h1))))) ?_
    refine TQ.buildSlice (Wants.yes rfl rfl rfl) rfl rfl Tryd.underlying22 size24 zero24 rfl (by decide) (by decide) (cells := #[.slice Ab nn cb]) (tot := 1) (by kernel_rfl) (cs := [.slice Ab nn cb]) rfl rfl (fun g4 hg4 => ?_)
    refine TQ.call0 (Wants.yes rfl rfl rfl) rfl enters10 rfl rfl (v := .int .u32 (vI (crcV 0#32 (Pb.take nn)))) (fun Z w hZ hs => of1_c (Pb.take nn) Ab nn cb g4 24 1 w (hs.has (⟨g4, 24, [Value.slice Ab nn cb], 1⟩) (by simp)) (Src.head (hsb.at_ hs (fun b hb => (ne_app (ne_cons (by show g1 ≠ b; omega) ne_nil) (ne_app (ne_cons (by show g2 ≠ b; omega) (ne_cons (by show g3 ≠ b; omega) (ne_cons (by show g4 ≠ b; omega) ne_nil))) (hZ.ne hb))))) (by omega)) (by omega) (by omega) (Nat.lt_of_lt_of_le h1 hs.size) (hLO.keepH hs (by omega) (ne_app (ne_cons (by show g1 ≠ 0; omega) ne_nil) (ne_app (ne_cons (by show g2 ≠ 0; omega) (ne_cons (by show g3 ≠ 0; omega) (ne_cons (by show g4 ≠ 0; omega) ne_nil))) (hZ.ne (Nat.lt_trans Nat.zero_lt_one h1))))) (hHI.keepH hs h1 (ne_app (ne_cons (by show g1 ≠ 1; omega) ne_nil) (ne_app (ne_cons (by show g2 ≠ 1; omega) (ne_cons (by show g3 ≠ 1; omega) (ne_cons (by show g4 ≠ 1; omega) ne_nil))) (hZ.ne h1))))) ?_
    refine TQ.free (Wants.yes rfl rfl rfl) rfl (fun _ => Gets.congr (Gets.xor rfl rfl rfl rfl) (by rw [xorI_v])) ?_
    refine TQ.buildSlice (Wants.yes rfl rfl rfl) rfl rfl Tryd.underlying22 size24 zero24 rfl (by decide) (by decide) (cells := #[.slice Ac nn cc]) (tot := 1) (by kernel_rfl) (cs := [.slice Ac nn cc]) rfl rfl (fun g5 hg5 => ?_)
    refine TQ.call0 (Wants.yes rfl rfl rfl) rfl enters10 rfl rfl (v := .int .u32 (vI (crcV 0#32 (Pc.take nn)))) (fun Z w hZ hs => of1_c (Pc.take nn) Ac nn cc g5 24 1 w (hs.has (⟨g5, 24, [Value.slice Ac nn cc], 1⟩) (by simp)) (Src.head (hsc.at_ hs (fun b hb => (ne_app (ne_cons (by show g1 ≠ b; omega) ne_nil) (ne_app (ne_cons (by show g2 ≠ b; omega) (ne_cons (by show g3 ≠ b; omega) (ne_cons (by show g4 ≠ b; omega) (ne_cons (by show g5 ≠ b; omega) ne_nil)))) (hZ.ne hb))))) (by omega)) (by omega) (by omega) (Nat.lt_of_lt_of_le h1 hs.size) (hLO.keepH hs (by omega) (ne_app (ne_cons (by show g1 ≠ 0; omega) ne_nil) (ne_app (ne_cons (by show g2 ≠ 0; omega) (ne_cons (by show g3 ≠ 0; omega) (ne_cons (by show g4 ≠ 0; omega) (ne_cons (by show g5 ≠ 0; omega) ne_nil)))) (hZ.ne (Nat.lt_trans Nat.zero_lt_one h1))))) (hHI.keepH hs h1 (ne_app (ne_cons (by show g1 ≠ 1; omega) ne_nil) (ne_app (ne_cons (by show g2 ≠ 1; omega) (ne_cons (by show g3 ≠ 1; omega) (ne_cons (by show g4 ≠ 1; omega) (ne_cons (by show g5 ≠ 1; omega) ne_nil)))) (hZ.ne h1))))) ?_
    refine TQ.free (Wants.yes rfl rfl rfl) rfl (fun _ => Gets.congr (Gets.xor rfl rfl rfl rfl) (by rw [xorI_v, ← crc_lin hna hnb hnc])) ?_
    refine TQ.free (Wants.yes rfl rfl rfl) rfl (fun _ => Gets.isTrue (Gets.eql rfl rfl rfl) rfl) ?_
    refine TQ.free (Wants.none rfl) rfl (fun _ => Gets.pickT rfl rfl rfl) ?_
    refine TQ.free (Wants.none rfl) rfl (fun _ => Gets.assign rfl rfl) ?_
    refine TQ.nil ?_
    refine TE.then ?_
    refine TC.ret ?_
    exact TE.ret1 rfl rfl (fun w hs => ⟨rfl, (((((hs.drop (by assumption)).drop (by assumption)).drop (by assumption)).drop (by assumption)).drop (by assumption))⟩)

set_option maxRecDepth 100000 in
set_option maxHeartbeats 400000 in
theorem checkLinear_big (w : World) (Pa : List Int) (Aa : Option Addr) (ma ca : Nat) (hsa : Src w Aa ma .u8 Pa) (hla : ma ≤ ca) (hma : ca ≤ 9223372036854775807) (Pb : List Int) (Ab : Option Addr) (mb cb : Nat) (hsb : Src w Ab mb .u8 Pb) (hlb : mb ≤ cb) (hmb : cb ≤ 9223372036854775807) (Pc : List Int) (Ac : Option Addr) (mc cc : Nat) (hsc : Src w Ac mc .u8 Pc) (hlc : mc ≤ cc) (hmc : cc ≤ 9223372036854775807) (nn : Nat) (hnn : (if (mc : Int) < (if (mb : Int) < (ma : Int) then (mb : Int) else (ma : Int)) then (mc : Int) else (if (mb : Int) < (ma : Int) then (mb : Int) else (ma : Int))) = (nn : Int)) (hna : nn ≤ Pa.length) (hnb : nn ≤ Pb.length) (hnc : nn ≤ Pc.length) (hm : 1000 < nn) (h1 : 1 < w.heap.size) (hLO : RowI w 0 0 16 .u32 LOWT) (hHI : RowI w 1 0 16 .u32 HIGHT) : Calls Tryd.prog 8 #[.slice Aa ma ca, .slice Ab mb cb, .slice Ac mc cc] w fun e w' => e = .returned (.bool true) ∧ St w [] w' := by
  refine calls_from (args := [.slice Aa ma ca, .slice Ab mb cb, .slice Ac mc cc]) Tryd.func8 rfl Tryd.ntmps8 (by simp) ?_
  refine TC.sub (Sub.cons (i := 0) rfl (Sub.cons (i := 1) rfl (Sub.cons (i := 2) rfl (Sub.nil)))) ?_
  refine TC.seq ?_
  refine TC.regionL ?_
  refine TL.gets (Wants.none rfl) rfl (Gets.assign rfl rfl) ?_
  refine TL.nil ?_
  refine TE.then ?_
  refine TC.seq ?_
  refine TC.regionL ?_
  refine TL.gets (Wants.none rfl) rfl (Gets.move rfl rfl) ?_
  refine TL.gets (Wants.none rfl) rfl (Gets.lenSlice rfl Tryd.underlying24 rfl) ?_
  refine TL.gets (Wants.none rfl) rfl (Gets.move rfl rfl) ?_
  refine TL.gets (Wants.none rfl) rfl (Gets.lenSlice rfl Tryd.underlying24 rfl) ?_
  refine TL.gets (Wants.none rfl) rfl (Gets.move rfl rfl) ?_
  refine TL.gets (Wants.none rfl) rfl (Gets.lenSlice rfl Tryd.underlying24 rfl) ?_
  refine TL.gets (Wants.none rfl) rfl (Gets.congr (Gets.min3 rfl rfl rfl rfl) (by rw [hnn])) ?_
  refine TL.gets (Wants.none rfl) rfl (Gets.assign rfl rfl) ?_
  refine TL.nil ?_
  refine TE.then ?_
  refine TC.sub (Sub.cons (i := 0) rfl (Sub.cons (i := 1) rfl (Sub.cons (i := 2) rfl (Sub.cons (i := 6) rfl (Sub.cons (i := 7) rfl (Sub.nil)))))) ?_
  refine TC.seq ?_
  refine TC.seq ?_
  refine TC.regionL ?_
  refine TL.gets (Wants.none rfl) rfl (Gets.move rfl rfl) ?_
  refine TL.gets (Wants.none rfl) rfl (Gets.isTrue (Gets.gtr rfl rfl rfl) (by omega)) ?_
  refine TL.nil ?_
  refine TE.then ?_
  refine TC.yes rfl ?_
  refine TC.seq ?_
  refine TC.regionL ?_
  refine TL.call0 (Wants.none rfl) rfl enters9 rfl rfl (v := .bool true) (fun w hs => alive_c w (Nat.lt_of_lt_of_le h1 hs.size) (hLO.keepH hs (by omega) ne_nil) (hHI.keepH hs h1 ne_nil)) ?_
  refine TL.gets (Wants.none rfl) rfl (Gets.assign rfl rfl) ?_
  refine TL.nil ?_
  refine TE.then ?_
  refine TC.ret ?_
  refine TE.thenR ?_
  exact TE.ret1 rfl rfl (fun w hs => ⟨rfl, hs⟩)


theorem checkLinear_walk (w : World) (Pa : List Int) (Aa : Option Addr) (ma ca : Nat) (hsa : Src w Aa ma .u8 Pa) (hla : ma ≤ ca) (hma : ca ≤ 9223372036854775807) (hBa : Bytes Pa) (Pb : List Int) (Ab : Option Addr) (mb cb : Nat) (hsb : Src w Ab mb .u8 Pb) (hlb : mb ≤ cb) (hmb : cb ≤ 9223372036854775807) (hBb : Bytes Pb) (Pc : List Int) (Ac : Option Addr) (mc cc : Nat) (hsc : Src w Ac mc .u8 Pc) (hlc : mc ≤ cc) (hmc : cc ≤ 9223372036854775807) (hBc : Bytes Pc) (h1 : 1 < w.heap.size) (hLO : RowI w 0 0 16 .u32 LOWT) (hHI : RowI w 1 0 16 .u32 HIGHT) : Calls Tryd.prog 8 #[.slice Aa ma ca, .slice Ab mb cb, .slice Ac mc cc] w fun e w' => e = .returned (.bool true) ∧ St w [] w' := by
  have la := hsa.1
  have lb := hsb.1
  have lc := hsc.1
  obtain ⟨nn, hnn, hna, hnb, hnc⟩ : ∃ nn : Nat, (if (mc : Int) < (if (mb : Int) < (ma : Int) then (mb : Int) else (ma : Int)) then (mc : Int) else (if (mb : Int) < (ma : Int) then (mb : Int) else (ma : Int))) = (nn : Int) ∧ nn ≤ ma ∧ nn ≤ mb ∧ nn ≤ mc := by
    refine ⟨min mc (min mb ma), ?_, by omega, by omega, by omega⟩
    split <;> split <;> omega
  by_cases hm : 1000 < nn
  · exact checkLinear_big w Pa Aa ma ca hsa hla hma Pb Ab mb cb hsb hlb hmb Pc Ac mc cc hsc hlc hmc nn hnn (by omega) (by omega) (by omega) hm h1 hLO hHI
  · exact checkLinear_ok w Pa Aa ma ca hsa hla hma Pb Ab mb cb hsb hlb hmb Pc Ac mc cc hsc hlc hmc nn hnn (by omega) (by omega) (by omega) (by omega) h1 hLO hHI
end Go.Proofs.YtilmoheipkncfaaDoor
