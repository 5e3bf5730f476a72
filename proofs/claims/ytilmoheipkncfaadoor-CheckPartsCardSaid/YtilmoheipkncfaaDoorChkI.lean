/-
  CheckBursts: the walk.
-/
import Derived.Test.YtilmoheipkncfaaDoorChkH
namespace Go.Proofs.YtilmoheipkncfaaDoor
set_option linter.unusedVariables false
set_option linter.unusedSimpArgs false
open Go Go.RowKit


structure WB where
  k : Nat
  B : List Int
def frm (at_ : Int) (m : Nat) : Nat := (at_ % (8 * (m : Int) + 1)).toNat
theorem mask_zero (c : BitVec 32) : maskV c 0 = 0#32 := by unfold maskV; rfl
theorem shV_zero0 (k : Nat) : shV 0#32 k = 0#32 := shV_zero k
theorem vI_of {x : Int} (h : 0 ≤ x ∧ x ≤ 4294967295) : x = vI (BitVec.ofInt 32 x) := by
  unfold vI
  rw [BitVec.toNat_ofInt]
  omega
theorem sealB_cut {P : List Int} {n : Nat} (h : P.drop n = encB (crcV 0#32 (P.take n))) : P = sealB (P.take n) := by
  unfold sealB; rw [← h, List.take_append_drop]


theorem xor8_bd (a b : Int) : 0 ≤ xorI .u8 a b ∧ xorI .u8 a b ≤ 255 := by
  unfold xorI
  exact wrap8_bd _

set_option maxRecDepth 100000 in
set_option maxHeartbeats 1000000 in
theorem checkBursts_ok (P : List Int) (hP : Bytes P) (A : Option Addr) (m c : Nat) (w : World) (hsP : Src w A m .u8 P) (hmc : m ≤ c) (hcm : c ≤ 9223372036854775807) (a_ : Int) (ha : 0 ≤ a_ ∧ a_ ≤ 65535) (fr : Nat) (hfr : (fr : Int) = a_ % (8 * ((m : Int) + 4) - 31)) (hfb : fr + 32 ≤ 8 * (m + 4)) (cV : BitVec 32) (hcV : cV ≠ 0#32) (hm : m ≤ 300) (h1 : 1 < w.heap.size) (hLO : RowI w 0 0 16 .u32 LOWT) (hHI : RowI w 1 0 16 .u32 HIGHT) : Calls Tryd.prog 7 #[.slice A m c, .int .u16 a_, .int .u32 (vI cV)] w fun e w' => e = .returned (.bool true) ∧ St w [] w' := by
  refine calls_from (args := [.slice A m c, .int .u16 a_, .int .u32 (vI cV)]) Tryd.func7 rfl Tryd.ntmps7 (by simp) ?_
  refine TC.sub (Sub.cons (i := 0) rfl (Sub.cons (i := 1) rfl (Sub.cons (i := 2) rfl (Sub.nil)))) ?_
  refine TC.seq ?_
  refine TC.regionL ?_
  refine TL.gets (Wants.none rfl) rfl (Gets.assign rfl rfl) ?_
  refine TL.nil ?_
  refine TE.then ?_
  refine TC.seq ?_
  refine TC.seq ?_
  refine TC.regionL ?_
  refine TL.gets (Wants.none rfl) rfl (Gets.move rfl rfl) ?_
  refine TL.gets (Wants.none rfl) rfl (Gets.lenSlice rfl Tryd.underlying24 rfl) ?_
  refine TL.gets (Wants.none rfl) rfl (Gets.isFalse (Gets.gtr rfl rfl rfl) (by omega)) ?_
  refine TL.gets (Wants.none rfl) rfl (Gets.move rfl rfl) ?_
  refine TL.gets (Wants.yes rfl rfl rfl) rfl (Gets.move rfl rfl) ?_
  refine TL.gets (Wants.yes rfl rfl rfl) rfl (Gets.isFalse (Gets.eql rfl rfl rfl) (by rw [← vI_zero, vI_inj]; exact hcV)) ?_
  refine TL.gets (Wants.none rfl) rfl (Gets.pickF rfl rfl rfl) ?_
  refine TL.nil ?_
  refine TE.then ?_
  refine TC.sub (Sub.cons (i := 0) rfl (Sub.cons (i := 1) rfl (Sub.cons (i := 2) rfl (Sub.cons (i := 6) rfl (Sub.cons (i := 18) rfl (Sub.nil)))))) ?_
  refine TC.no rfl ?_
  refine TC.skip ?_
  refine TE.then ?_
  refine TC.seq ?_
  refine TC.regionL ?_
  refine TL.gets (Wants.none rfl) rfl (Gets.move rfl rfl) ?_
  refine TL.call (ι := Nat × Nat) (V := fun yr => .slice (some ⟨yr.1, 0, none⟩) (((m + 4))) yr.2) (R := fun yr => ((m + 4) ≤ yr.2 ∧ yr.2 ≤ maxLen) ∧ w.heap.size ≤ (⟨yr.1, 5, (sealB P).map (Value.int .u8), yr.2⟩ : Ent).g) (H' := fun yr => [⟨yr.1, 5, (sealB P).map (Value.int .u8), yr.2⟩]) (Wants.none rfl) rfl enters14 rfl rfl (fun w hs => (show Calls Tryd.prog 14 #[.slice A m c] w (fun e w' => ∃ yr : Nat × Nat, e = .returned (.slice (some ⟨yr.1, 0, none⟩) (((m + 4))) yr.2) ∧ ((m + 4) ≤ yr.2 ∧ yr.2 ≤ maxLen) ∧ w.heap.size ≤ (⟨yr.1, 5, (sealB P).map (Value.int .u8), yr.2⟩ : Ent).g ∧ St w [⟨yr.1, 5, (sealB P).map (Value.int .u8), yr.2⟩] w') from (rseal_c P hP A m c w (hsP.at_ hs (fun b hb => ne_nil)) (by omega) (by omega) (by omega)).mono fun e w' ⟨gv, cv, he, hgv, hcv, hmv, hw⟩ => ⟨(gv, cv), he, ⟨hcv, hmv⟩, hgv, hw⟩).mono fun e w' ⟨x, he, hR, hE, hw⟩ => ⟨x, he, ⟨hR, Nat.le_trans hs.size hE⟩, hs.made hw hE⟩) (fun yr ⟨hRr, hEr⟩ => ?_)
  obtain ⟨gr, cr⟩ := yr
  dsimp only at hRr hEr ⊢
  obtain ⟨hcr, hmr⟩ := hRr
  unfold maxLen at hmr
  refine TL.gets (Wants.none rfl) rfl (Gets.assign rfl rfl) ?_
  refine TL.nil ?_
  refine TE.then ?_
  refine TC.seq ?_
  refine TC.regionL ?_
  refine TL.gets (Wants.none rfl) rfl (Gets.move rfl rfl) ?_
  refine TL.gets (Wants.none rfl) rfl (Gets.conv rfl Tryd.underlying38 Tryd.underlying3 rfl (r := a_) (w64 rfl (by omega))) ?_
  refine TL.gets (Wants.none rfl) rfl (Gets.move rfl rfl) ?_
  refine TL.gets (Wants.none rfl) rfl (Gets.lenSlice rfl Tryd.underlying24 rfl) ?_
  refine TL.gets (Wants.none rfl) rfl (Gets.mul rfl rfl rfl (r := (8 * ((m + 4) : Int))) (w64 (by omega) (by omega))) ?_
  refine TL.gets (Wants.none rfl) rfl (Gets.sub rfl rfl rfl (r := (8 * ((m + 4) : Int) - 31)) (w64 (by omega) (by omega))) ?_
  refine TL.gets (Wants.none rfl) rfl (Gets.rem rfl rfl rfl (by omega) (r := (fr : Int)) (tmod_pos (by omega) (by omega))) ?_
  refine TL.gets (Wants.none rfl) rfl (Gets.assign rfl rfl) ?_
  refine TL.nil ?_
  refine TE.then ?_
  refine TC.sub (Sub.cons (i := 2) rfl (Sub.cons (i := 6) rfl (Sub.cons (i := 7) rfl (Sub.cons (i := 8) rfl (Sub.nil))))) ?_
  refine TC.seq ?_
  refine TC.seq ?_
  refine TC.regionL ?_
  refine TL.gets (Wants.none rfl) rfl (Gets.move rfl rfl) ?_
  refine TL.nil ?_
  refine TE.then ?_
  refine TC.block ?_
  refine TC.loop (ι := WB) (fun x => [(2, .int .u32 (vI cV)), (7, .slice (some ⟨gr, 0, none⟩) (m + 4) cr), (8, .int .i64 (fr : Int)), (29, .int .i64 (x.k : Int))]) (fun x => [⟨gr, 5, x.B.map (Value.int .u8), cr⟩]) (fun x => 32 - x.k) (fun x => x.k ≤ 32 ∧ x.B.length = m + 4 ∧ Bytes x.B ∧ regV (~~~ 0#32) x.B = regV (~~~ 0#32) (sealB P) ^^^ shV (maskV cV x.k) (8 * (m + 4) - fr)) (⟨0, sealB P⟩ : WB) ⟨Nat.zero_le _, sealB_len hsP.1, sealB_bytes hP, by show regV _ (sealB P) = _ ^^^ shV (maskV cV 0) _; rw [mask_zero, shV_zero0, BitVec.xor_zero]⟩ (Sub.int (i := 2) rfl (by first | rfl | omega) (Sub.slice (i := 7) rfl rfl (by first | omega | (dsimp only; omega) | rfl) (by first | omega | (dsimp only; omega) | rfl) (Sub.int (i := 8) rfl (by first | omega | rfl) (Sub.int (i := 29) rfl (by first | omega | rfl) (Sub.nil))))) (fun w h => h) (fun x hC0 => ?_)
  obtain ⟨k, B⟩ := x
  obtain ⟨hk, hlB, hB, hreg⟩ := hC0
  dsimp only at hk hlB hB hreg ⊢
  refine TC.seq ?_
  refine TC.regionL ?_
  refine TL.gets (Wants.none rfl) rfl (Gets.lss rfl rfl rfl) ?_
  refine TL.nil ?_
  refine TE.then ?_
  refine TC.seq ?_
  refine TC.split rfl (fun hq3 => ?_) (fun hq3 => ?_)
  · refine TC.skip ?_
    refine TE.then ?_
    refine TC.seq ?_
    refine TC.block ?_
    refine TC.seq ?_
    refine TC.regionL ?_
    refine TL.gets (Wants.none rfl) rfl (Gets.move rfl rfl) ?_
    refine TL.gets (Wants.none rfl) rfl (Gets.assign rfl rfl) ?_
    refine TL.nil ?_
    refine TE.then ?_
    refine TC.seq ?_
    refine TC.regionL ?_
    refine TL.gets (Wants.none rfl) rfl (Gets.move rfl rfl) ?_
    refine TL.gets (Wants.none rfl) rfl (Gets.move rfl rfl) ?_
    refine TL.gets (Wants.none rfl) rfl (Gets.shr rfl rfl rfl (by omega) (r := (shrI .u32 (vI cV) (k : Int))) rfl) ?_
    refine TL.gets (Wants.none rfl) rfl (Gets.and rfl rfl rfl (r := (andI .u32 (shrI .u32 (vI cV) (k : Int)) 1)) rfl) ?_
    refine TL.gets (Wants.none rfl) rfl (Gets.eql rfl rfl rfl) ?_
    refine TL.nil ?_
    refine TE.then ?_
    refine TC.sub (Sub.cons (i := 2) rfl (Sub.cons (i := 7) rfl (Sub.cons (i := 8) rfl (Sub.cons (i := 9) rfl (Sub.cons (i := 29) rfl (Sub.cons (i := 36) rfl (Sub.nil))))))) ?_
    refine TC.split rfl (fun hq4 => ?_) (fun hq4 => ?_)
    · have hbit : cV.getLsbD k = true := by rw [bit_is hk] at hq4; cases h : cV.getLsbD k with | true => rfl | false => rw [h] at hq4; simp at hq4
      have hlN : (B.set ((fr + k) / 8) (xorI .u8 (B.getD ((fr + k) / 8) 0) (shlI .u8 1 (((fr + k) % 8 : Nat) : Int)))).length = m + 4 := (List.length_set ..).trans hlB
      have hBN : Bytes (B.set ((fr + k) / 8) (xorI .u8 (B.getD ((fr + k) / 8) 0) (shlI .u8 1 (((fr + k) % 8 : Nat) : Int)))) := bytes_set hB (xor8_bd _ _)
      have hregN : regV (~~~ 0#32) (B.set ((fr + k) / 8) (xorI .u8 (B.getD ((fr + k) / 8) 0) (shlI .u8 1 (((fr + k) % 8 : Nat) : Int)))) = regV (~~~ 0#32) (sealB P) ^^^ shV (maskV cV (k + 1)) (8 * (m + 4) - fr) := burst_step hlB (by omega) (by omega) hbit hreg
      refine TC.mix (by kernel_rfl) [0, 0, 0, 0, 0, 0, 1, 0, 0, 0, 0, 0, 0, 0, 2] rfl (by kernel_rfl) ?_
      refine TM.free (Wants.none rfl) rfl (fun _ => Gets.move rfl rfl) ?_
      refine TM.free (Wants.none rfl) rfl (fun _ => Gets.move rfl rfl) ?_
      refine TM.free (Wants.none rfl) rfl (fun _ => Gets.move rfl rfl) ?_
      refine TM.free (Wants.none rfl) rfl (fun _ => Gets.add rfl rfl rfl (r := ((fr : Int) + (k : Int))) (w64 (by omega) (by omega))) ?_
      refine TM.free (Wants.none rfl) rfl (fun _ => Gets.quo rfl rfl rfl (by omega) (r := (((fr + k) / 8 : Nat) : Int)) (tdiv_pos (by omega) (w64 (by omega) (by omega)))) ?_
      refine TM.free (Wants.none rfl) rfl (fun _ => Gets.idxSlice rfl Tryd.underlying24 size5 rfl rfl (i := ((((fr + k) / 8)))) (by omega) (by omega) (off' := ((((fr + k) / 8)))) (by omega)) ?_
      refine TM.gets (Wants.none rfl) rfl (Gets.load1 rfl agg5 rfl (At.ent (i := 0) (ent := ⟨gr, 5, B.map (Value.int .u8), cr⟩) (off := ((((fr + k) / 8)))) rfl rfl (by have := ints_get (kd := .u8) (W := B) (i := ((((fr + k) / 8)))) (by rw [hlB]; omega); (first | exact this | (refine Eq.trans ?_ this; congr 1; omega))))) ?_
      refine TM.free (Wants.none rfl) rfl (fun _ => Gets.move rfl rfl) ?_
      refine TM.free (Wants.none rfl) rfl (fun _ => Gets.move rfl rfl) ?_
      refine TM.free (Wants.none rfl) rfl (fun _ => Gets.add rfl rfl rfl (r := ((fr : Int) + (k : Int))) (w64 (by omega) (by omega))) ?_
      refine TM.free (Wants.none rfl) rfl (fun _ => Gets.rem rfl rfl rfl (by omega) (r := (((fr + k) % 8 : Nat) : Int)) (tmod_pos (by omega) (by omega))) ?_
      refine TM.free (Wants.none rfl) rfl (fun _ => Gets.shl rfl rfl rfl (by omega) (r := (shlI .u8 1 (((fr + k) % 8) : Int))) rfl) ?_
      refine TM.free (Wants.none rfl) rfl (fun _ => Gets.xor rfl rfl rfl (r := (xorI .u8 (B.getD ((((fr + k) / 8))) 0) (shlI .u8 1 (((fr + k) % 8) : Int)))) rfl) ?_
      refine TM.free (Wants.none rfl) rfl (fun _ => Gets.idxSlice rfl Tryd.underlying24 size5 rfl rfl (i := ((((fr + k) / 8)))) (by omega) (by omega) (off' := ((((fr + k) / 8)))) (by omega)) ?_
      refine TM.store1 (Wants.none rfl) rfl rfl size5 rfl rfl rfl (i := 0) rfl rfl (by simp [hlB] <;> omega) (cs' := (B.set ((fr + k) / 8) (xorI .u8 (B.getD ((fr + k) / 8) 0) (shlI .u8 1 (((fr + k) % 8 : Nat) : Int)))).map (Value.int .u8)) (ints_set) (H' := [⟨gr, 5, (B.set ((fr + k) / 8) (xorI .u8 (B.getD ((fr + k) / 8) 0) (shlI .u8 1 (((fr + k) % 8 : Nat) : Int)))).map (Value.int .u8), cr⟩]) rfl ?_
      refine TM.nil ?_
      refine TE.blockN ?_
      refine TE.then ?_
      refine TC.sub (Sub.cons (i := 2) rfl (Sub.cons (i := 7) rfl (Sub.cons (i := 8) rfl (Sub.cons (i := 29) rfl (Sub.nil))))) ?_
      refine TC.regionL ?_
      refine TL.gets (Wants.none rfl) rfl (Gets.add rfl rfl rfl (r := ((k : Int) + 1)) (w64 (by omega) (by omega))) ?_
      refine TL.gets (Wants.none rfl) rfl (Gets.move rfl rfl) ?_
      refine TL.nil ?_
      exact TE.back (⟨k + 1, (B.set ((fr + k) / 8) (xorI .u8 (B.getD ((fr + k) / 8) 0) (shlI .u8 1 (((fr + k) % 8 : Nat) : Int))))⟩ : WB) (by show 32 - (k + 1) < 32 - k; omega) ⟨by show k + 1 ≤ 32; omega, hlN, hBN, hregN⟩ (Sub.int (i := 2) rfl (by first | rfl | omega) (Sub.slice (i := 7) rfl rfl (by first | omega | (dsimp only; omega) | rfl) (by first | omega | (dsimp only; omega) | rfl) (Sub.int (i := 8) rfl (by first | omega | rfl) (Sub.int (i := 29) rfl (by first | omega | rfl) (Sub.nil))))) (fun w h => h)
    · have hbit : cV.getLsbD k = false := by rw [bit_is hk] at hq4; cases h : cV.getLsbD k with | true => rw [h] at hq4; simp at hq4 | false => rfl
      have hlN := hlB
      have hBN := hB
      have hregN : regV (~~~ 0#32) B = regV (~~~ 0#32) (sealB P) ^^^ shV (maskV cV (k + 1)) (8 * (m + 4) - fr) := by rw [mask_no hbit]; exact hreg
      refine TC.skip ?_
      refine TE.blockN ?_
      refine TE.then ?_
      refine TC.regionL ?_
      refine TL.gets (Wants.none rfl) rfl (Gets.add rfl rfl rfl (r := ((k : Int) + 1)) (w64 (by omega) (by omega))) ?_
      refine TL.gets (Wants.none rfl) rfl (Gets.move rfl rfl) ?_
      refine TL.nil ?_
      exact TE.back (⟨k + 1, B⟩ : WB) (by show 32 - (k + 1) < 32 - k; omega) ⟨by show k + 1 ≤ 32; omega, hlN, hBN, hregN⟩ (Sub.int (i := 2) rfl (by first | rfl | omega) (Sub.slice (i := 7) rfl rfl (by first | omega | (dsimp only; omega) | rfl) (by first | omega | (dsimp only; omega) | rfl) (Sub.int (i := 8) rfl (by first | omega | rfl) (Sub.int (i := 29) rfl (by first | omega | rfl) (Sub.nil))))) (fun w h => h)
  · obtain rfl : k = 32 := by omega
    refine TC.exit ?_
    refine TE.thenX ?_
    refine TE.thenX ?_
    refine TE.blockX ?_
    refine TE.then ?_
    refine TC.seq ?_
    refine TC.regionL ?_
    refine TL.gets (Wants.none rfl) rfl (Gets.move rfl rfl) ?_
    refine TL.call0 (Wants.none rfl) rfl enters16 rfl rfl (v := .tuple #[.slice none 0 0, .bool false]) (fun w hs => open_no B hB gr 0 m cr w (src_ent (hs.has (⟨gr, 5, B.map (Value.int .u8), cr⟩) (by simp)) hlB) hcr (by omega) (by omega) (by rw [List.length_take]; omega) (fun h => burst_no hcV hreg _ (sealB_cut h)) (Nat.lt_of_lt_of_le h1 hs.size) (hLO.keepH hs (by omega) (ne_cons (by show gr ≠ 0; omega) ne_nil)) (hHI.keepH hs h1 (ne_cons (by show gr ≠ 1; omega) ne_nil))) ?_
    refine TL.gets (Wants.none rfl) rfl (Gets.move rfl rfl) ?_
    refine TL.gets (Wants.none rfl) rfl (Gets.extract rfl rfl rfl) ?_
    refine TL.gets (Wants.none rfl) rfl (Gets.extract rfl rfl rfl) ?_
    refine TL.gets (Wants.none rfl) rfl (Gets.assign rfl rfl) ?_
    refine TL.gets (Wants.none rfl) rfl (Gets.assign rfl rfl) ?_
    refine TL.nil ?_
    refine TE.then ?_
    refine TC.sub (Sub.cons (i := 10) rfl (Sub.cons (i := 11) rfl (Sub.nil))) ?_
    refine TC.seq ?_
    refine TC.regionL ?_
    refine TL.call0 (Wants.none rfl) rfl enters9 rfl rfl (v := .bool true) (fun w hs => alive_c w (Nat.lt_of_lt_of_le h1 hs.size) (hLO.keepH hs (by omega) (ne_cons (by show gr ≠ 0; omega) ne_nil)) (hHI.keepH hs h1 (ne_cons (by show gr ≠ 1; omega) ne_nil))) ?_
    refine TL.gets (Wants.none rfl) rfl (Gets.move rfl rfl) ?_
    refine TL.gets (Wants.yes rfl rfl rfl) rfl (Gets.move rfl rfl) ?_
    refine TL.gets (Wants.yes rfl rfl rfl) rfl (Gets.not rfl rfl) ?_
    refine TL.gets (Wants.none rfl) rfl (Gets.pickT rfl rfl rfl) ?_
    refine TL.gets (Wants.none rfl) rfl (Gets.move rfl rfl) ?_
    refine TL.gets (Wants.yes rfl rfl rfl) rfl (Gets.move rfl rfl) ?_
    refine TL.gets (Wants.yes rfl rfl rfl) rfl (Gets.lenSlice rfl Tryd.underlying24 rfl) ?_
    refine TL.gets (Wants.yes rfl rfl rfl) rfl (Gets.isTrue (Gets.eql rfl rfl rfl) rfl) ?_
    refine TL.gets (Wants.none rfl) rfl (Gets.pickT rfl rfl rfl) ?_
    refine TL.gets (Wants.none rfl) rfl (Gets.assign rfl rfl) ?_
    refine TL.nil ?_
    refine TE.then ?_
    refine TC.ret ?_
    exact TE.ret1 rfl rfl (fun w hs => ⟨rfl, (hs.drop (by assumption))⟩)

set_option maxRecDepth 100000 in
set_option maxHeartbeats 400000 in
theorem checkBursts_off (A : Option Addr) (m c : Nat) (w : World) (a_ ch : Int) (hoff : 300 < m ∨ ch = 0) (h1 : 1 < w.heap.size) (hLO : RowI w 0 0 16 .u32 LOWT) (hHI : RowI w 1 0 16 .u32 HIGHT) : Calls Tryd.prog 7 #[.slice A m c, .int .u16 a_, .int .u32 ch] w fun e w' => e = .returned (.bool true) ∧ St w [] w' := by
  refine calls_from (args := [.slice A m c, .int .u16 a_, .int .u32 ch]) Tryd.func7 rfl Tryd.ntmps7 (by simp) ?_
  refine TC.sub (Sub.cons (i := 0) rfl (Sub.cons (i := 1) rfl (Sub.cons (i := 2) rfl (Sub.nil)))) ?_
  refine TC.seq ?_
  refine TC.regionL ?_
  refine TL.gets (Wants.none rfl) rfl (Gets.assign rfl rfl) ?_
  refine TL.nil ?_
  refine TE.then ?_
  refine TC.seq ?_
  refine TC.seq ?_
  refine TC.regionL ?_
  refine TL.gets (Wants.none rfl) rfl (Gets.move rfl rfl) ?_
  refine TL.gets (Wants.none rfl) rfl (Gets.lenSlice rfl Tryd.underlying24 rfl) ?_
  by_cases c1 : 300 < (m : Int)
  · refine TL.gets (Wants.none rfl) rfl (Gets.isTrue (Gets.gtr rfl rfl rfl) c1) ?_
    refine TL.gets (Wants.none rfl) rfl (Gets.move rfl rfl) ?_
    refine TL.pass rfl rfl rfl rfl rfl ?_
    refine TL.pass rfl rfl rfl rfl rfl ?_
    refine TL.gets (Wants.none rfl) rfl (Gets.pickT rfl rfl rfl) ?_
    refine TL.nil ?_
    refine TE.then ?_
    refine TC.sub (Sub.cons (i := 0) rfl (Sub.cons (i := 1) rfl (Sub.cons (i := 2) rfl (Sub.cons (i := 6) rfl (Sub.cons (i := 18) rfl (Sub.nil)))))) ?_
    refine TC.yes rfl ?_
    refine TC.seq ?_
    refine TC.regionL ?_
    refine TL.call0 (Wants.none rfl) rfl enters9 rfl rfl (v := .bool true) (fun w hs => alive_c w (Nat.lt_of_lt_of_le h1 hs.size) (hLO.keepH hs (by omega) ne_nil) (hHI.keepH hs h1 ne_nil)) ?_
    refine TL.gets (Wants.none rfl) rfl (Gets.assign rfl rfl) ?_
    refine TL.nil ?_
    refine TE.then ?_
    refine TC.ret ?_
    refine TE.thenR ?_
    exact TE.ret1 rfl rfl (fun w hs => ⟨rfl, hs⟩)
  · refine TL.gets (Wants.none rfl) rfl (Gets.isFalse (Gets.gtr rfl rfl rfl) c1) ?_
    refine TL.gets (Wants.none rfl) rfl (Gets.move rfl rfl) ?_
    refine TL.gets (Wants.yes rfl rfl rfl) rfl (Gets.move rfl rfl) ?_
    by_cases c2 : ch = 0
    · refine TL.gets (Wants.yes rfl rfl rfl) rfl (Gets.isTrue (Gets.eql rfl rfl rfl) c2) ?_
      refine TL.gets (Wants.none rfl) rfl (Gets.pickF rfl rfl rfl) ?_
      refine TL.nil ?_
      refine TE.then ?_
      refine TC.sub (Sub.cons (i := 0) rfl (Sub.cons (i := 1) rfl (Sub.cons (i := 2) rfl (Sub.cons (i := 6) rfl (Sub.cons (i := 18) rfl (Sub.nil)))))) ?_
      refine TC.yes rfl ?_
      refine TC.seq ?_
      refine TC.regionL ?_
      refine TL.call0 (Wants.none rfl) rfl enters9 rfl rfl (v := .bool true) (fun w hs => alive_c w (Nat.lt_of_lt_of_le h1 hs.size) (hLO.keepH hs (by omega) ne_nil) (hHI.keepH hs h1 ne_nil)) ?_
      refine TL.gets (Wants.none rfl) rfl (Gets.assign rfl rfl) ?_
      refine TL.nil ?_
      refine TE.then ?_
      refine TC.ret ?_
      refine TE.thenR ?_
      exact TE.ret1 rfl rfl (fun w hs => ⟨rfl, hs⟩)
    · refine TL.gets (Wants.yes rfl rfl rfl) rfl (Gets.isFalse (Gets.eql rfl rfl rfl) c2) ?_
      refine TL.gets (Wants.none rfl) rfl (Gets.pickF rfl rfl rfl) ?_
      refine TL.nil ?_
      refine TE.then ?_
      refine TC.sub (Sub.cons (i := 0) rfl (Sub.cons (i := 1) rfl (Sub.cons (i := 2) rfl (Sub.cons (i := 6) rfl (Sub.cons (i := 18) rfl (Sub.nil)))))) ?_
      refine TC.no rfl ?_
      refine TC.skip ?_
      refine TE.then ?_
      refine TC.seq ?_
      exfalso; omega


theorem checkBursts_walk (w : World) (P : List Int) (A : Option Addr) (m c : Nat) (hs : Src w A m .u8 P) (hl : m ≤ c) (hm : c ≤ 9223372036854775807) (hP : Bytes P) (a_ : Int) (ha : 0 ≤ a_ ∧ a_ ≤ 65535) (ch : Int) (hch : 0 ≤ ch ∧ ch ≤ 4294967295) (h1 : 1 < w.heap.size) (hLO : RowI w 0 0 16 .u32 LOWT) (hHI : RowI w 1 0 16 .u32 HIGHT) : Calls Tryd.prog 7 #[.slice A m c, .int .u16 a_, .int .u32 ch] w fun e w' => e = .returned (.bool true) ∧ St w [] w' := by
  by_cases hoff : 300 < m ∨ ch = 0
  · exact checkBursts_off A m c w a_ ch hoff h1 hLO hHI
  have hpos : (0 : Int) < 8 * ((m : Int) + 4) - 31 := by omega
  have hlt := Int.emod_lt_of_pos a_ hpos
  have hge := Int.emod_nonneg a_ (Int.ne_of_gt hpos)
  have hc := vI_of hch
  have hcV : BitVec.ofInt 32 ch ≠ 0#32 := fun h => by
    rw [h, vI_zero] at hc
    exact hoff (.inr hc)
  rw [hc]
  exact checkBursts_ok P hP A m c w hs hl hm a_ ha (a_ % (8 * ((m : Int) + 4) - 31)).toNat (by omega) (by omega) _ hcV (by omega) h1 hLO hHI
end Go.Proofs.YtilmoheipkncfaaDoor
