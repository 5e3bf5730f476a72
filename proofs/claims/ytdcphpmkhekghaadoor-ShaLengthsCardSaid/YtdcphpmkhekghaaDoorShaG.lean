/-
  Contracts of package sha: Format; of package strings: HasPrefix.
-/
import Derived.Test.YtdcphpmkhekghaaDoorShaF
import Derived.Test.YtdcphpmkhekghaaDoorMem2
namespace Go.Proofs.YtdcphpmkhekghaaDoor
set_option linter.unusedVariables false
set_option linter.unusedSimpArgs false
open Go Go.RowKit
theorem enters28 : Enters Tryd.prog 28 := ⟨_, Tryd.func28, by kernel_rfl, by kernel_rfl⟩
theorem zero51 : (Tryd.prog.info? 51).bind (·.zero) = some (.agg #[.int .u8 0, .int .u8 0, .int .u8 0, .int .u8 0, .int .u8 0, .int .u8 0, .int .u8 0, .int .u8 0, .int .u8 0, .int .u8 0, .int .u8 0, .int .u8 0, .int .u8 0, .int .u8 0, .int .u8 0, .int .u8 0, .int .u8 0, .int .u8 0, .int .u8 0, .int .u8 0, .int .u8 0, .int .u8 0, .int .u8 0, .int .u8 0, .int .u8 0, .int .u8 0, .int .u8 0, .int .u8 0, .int .u8 0, .int .u8 0, .int .u8 0, .int .u8 0, .int .u8 0, .int .u8 0, .int .u8 0, .int .u8 0, .int .u8 0, .int .u8 0, .int .u8 0, .int .u8 0, .int .u8 0, .int .u8 0, .int .u8 0, .int .u8 0, .int .u8 0, .int .u8 0, .int .u8 0, .int .u8 0, .int .u8 0, .int .u8 0, .int .u8 0, .int .u8 0, .int .u8 0, .int .u8 0, .int .u8 0, .int .u8 0, .int .u8 0, .int .u8 0, .int .u8 0, .int .u8 0, .int .u8 0, .int .u8 0, .int .u8 0, .int .u8 0]) := by kernel_rfl

/-- A digit by its value. -/
def hexI (x : Int) : Int := ([48, 49, 50, 51, 52, 53, 54, 55, 56, 57, 97, 98, 99, 100, 101, 102] : List Int).getD x.toNat 0
theorem shr4 {x : Int} (h : 0 ≤ x) : shrI .u8 x 4 = x / 16 := by
  unfold shrI
  show x.fdiv 16 = x / 16
  rw [Int.fdiv_eq_ediv_of_nonneg _ (by omega)]
theorem and15 {x : Int} (h : 0 ≤ x) (h2 : x ≤ 255) : andI .u8 x 15 = x % 16 := by
  have : ∀ k : Fin 256, andI .u8 (k.val : Int) 15 = (k.val : Int) % 16 := by decide +kernel
  have h3 := this ⟨x.toNat, by omega⟩
  simp only at h3
  rwa [Int.toNat_of_nonneg h] at h3
theorem hex_idx {i : Nat} (h : i < (⟨#[48, 49, 50, 51, 52, 53, 54, 55, 56, 57, 97, 98, 99, 100, 101, 102]⟩ : ByteArray).size) : ((((⟨#[48, 49, 50, 51, 52, 53, 54, 55, 56, 57, 97, 98, 99, 100, 101, 102]⟩ : ByteArray)[i]'h).toNat : Nat) : Int) = hexI i := by
  have hi : i < 16 := h
  have : ∀ k : Fin 16, ((((⟨#[48, 49, 50, 51, 52, 53, 54, 55, 56, 57, 97, 98, 99, 100, 101, 102]⟩ : ByteArray)[k.val]'(show k.val < 16 from k.isLt)).toNat : Nat) : Int) = hexI k.val := by decide +kernel
  exact this ⟨i, hi⟩
def fmtF (D : List Int) : Nat → List Int
  | 0 => List.replicate 64 0
  | k + 1 => ((fmtF D k).set (2 * k) (hexI (D.getD k 0 / 16))).set (2 * k + 1) (hexI (D.getD k 0 % 16))
theorem fmtF_len (D : List Int) : ∀ k, (fmtF D k).length = 64
  | 0 => by simp [fmtF]
  | k + 1 => by simp [fmtF, fmtF_len D k]
/-- Numbers that are bytes. -/
def Bytes (D : List Int) : Prop := ∀ x ∈ D, 0 ≤ x ∧ x ≤ 255
theorem Bytes.get {D : List Int} (h : Bytes D) (j : Nat) : 0 ≤ D.getD j 0 ∧ D.getD j 0 ≤ 255 := by
  rw [List.getD_eq_getElem?_getD]
  by_cases hj : j < D.length
  · rw [List.getElem?_eq_getElem hj]; exact h _ (List.getElem_mem hj)
  · rw [List.getElem?_eq_none (by omega)]; simp

set_option maxRecDepth 100000 in
set_option maxHeartbeats 400000 in
theorem format_c (D : List Int) (w : World) (hDl : D.length = 32) (hD : Bytes D) : Calls Tryd.prog 18 #[.agg (D.map (Value.int .u8)).toArray] w fun e w' => e = .returned (.string (bs (fmtF D 32))) ∧ St w [] w' := by
  refine calls_from (args := [.agg (D.map (Value.int .u8)).toArray]) Tryd.func18 rfl Tryd.ntmps18 (by simp) ?_
  refine TC.sub (Sub.cons (i := 0) rfl (Sub.nil)) ?_
  refine TC.seq ?_
  refine TC.regionL ?_
  refine TL.box (Wants.none rfl) rfl rfl rfl (cs := D.map (Value.int .u8)) (by simp [Value.cells]) (tot := 32) (by simp [hDl]) (fun g1 hg1 => ?_)
  refine TL.gets (Wants.none rfl) rfl (Gets.assign rfl rfl) ?_
  refine TL.nil ?_
  refine TE.then ?_
  refine TC.seq ?_
  refine TC.regionL ?_
  refine TL.alloc (Wants.none rfl) rfl rfl zero51 (cs := (List.replicate 64 0).map (Value.int .u8)) rfl (tot := 64) (by simp) (fun g2 hg2 => ?_)
  refine TL.nil ?_
  refine TE.then ?_
  refine TC.seq ?_
  refine TC.seq ?_
  refine TC.regionL ?_
  refine TL.gets (Wants.none rfl) rfl (Gets.loadN rfl agg24 size24 rfl (vs := D.map (Value.int .u8)) (by simp [hDl]) (Row.all (i := 1) (ent := ⟨g1, 24, D.map (Value.int .u8), 32⟩) rfl rfl rfl)) ?_
  refine TL.gets (Wants.none rfl) rfl (Gets.move rfl rfl) ?_
  refine TL.nil ?_
  refine TE.then ?_
  refine TC.block ?_
  refine TC.loop (ι := Nat) (fun k => [(3, .pointer (some ⟨g2, 0, none⟩)), (6, .agg (D.map (Value.int .u8)).toArray), (7, .int .i64 (k : Int))]) (fun k => [⟨g2, 51, (fmtF D k).map (Value.int .u8), 64⟩, ⟨g1, 24, D.map (Value.int .u8), 32⟩]) (fun k => 32 - k) (fun k => k ≤ 32) 0 (by omega) (Sub.cons (i := 3) rfl (Sub.cons (i := 6) rfl (Sub.int (i := 7) rfl (by first | omega | rfl) (Sub.nil)))) (fun w h => h) (fun k hC0 => ?_)
  refine TC.seq ?_
  refine TC.regionL ?_
  refine TL.gets (Wants.none rfl) rfl (Gets.lss rfl rfl rfl) ?_
  refine TL.nil ?_
  refine TE.then ?_
  refine TC.seq ?_
  refine TC.split rfl (fun h0 => ?_) (fun h0 => ?_)
  · refine TC.skip ?_
    refine TE.then ?_
    refine TC.seq ?_
    refine TC.block ?_
    refine TC.seq ?_
    refine TC.regionL ?_
    refine TL.gets (Wants.none rfl) rfl (Gets.move rfl rfl) ?_
    refine TL.gets (Wants.none rfl) rfl (Gets.index1 rfl Tryd.underlying24 agg5 size5 rfl rfl (i := k) (by omega) (by omega) (arr_get (ints_get (kd := .u8) (W := D) (i := k) (by rw [hDl]; omega)))) ?_
    refine TL.gets (Wants.none rfl) rfl (Gets.assign rfl rfl) ?_
    refine TL.gets (Wants.none rfl) rfl (Gets.assign rfl rfl) ?_
    refine TL.nil ?_
    refine TE.then ?_
    refine TC.mix (by kernel_rfl) [0, 0, 0, 0, 0, 0, 0, 0, 0, 0, 0, 0, 2, 0, 2] rfl (by kernel_rfl) ?_
    refine TM.free (Wants.none rfl) rfl (fun _ => Gets.move rfl rfl) ?_
    refine TM.free (Wants.none rfl) rfl (fun _ => Gets.mul rfl rfl rfl (r := (2 * (k : Int))) (w64 (by omega) (by omega))) ?_
    refine TM.free (Wants.none rfl) rfl (fun _ => Gets.move rfl rfl) ?_
    refine TM.free (Wants.none rfl) rfl (fun _ => Gets.mul rfl rfl rfl (r := (2 * (k : Int))) (w64 (by omega) (by omega))) ?_
    refine TM.free (Wants.none rfl) rfl (fun _ => Gets.add rfl rfl rfl (r := (2 * (k : Int) + 1)) (w64 (by omega) (by omega))) ?_
    refine TM.free (Wants.none rfl) rfl (fun _ => Gets.move rfl rfl) ?_
    refine TM.free (Wants.none rfl) rfl (fun _ => Gets.shr rfl rfl rfl (by omega) (r := ((D.getD k 0) / 16)) (shr4 (hD.get k).1)) ?_
    refine TM.free (Wants.none rfl) rfl (fun _ => Gets.congr (Gets.indexStr (str := ⟨#[48, 49, 50, 51, 52, 53, 54, 55, 56, 57, 97, 98, 99, 100, 101, 102]⟩) rfl Tryd.underlying9 rfl rfl (i := ((D.getD k 0) / 16).toNat) (by have := hD.get k; omega) (show ((D.getD k 0) / 16).toNat < 16 by have := hD.get k; omega)) (v := .int .u8 (hexI ((D.getD k 0) / 16))) (by rw [hex_idx]; rw [Int.toNat_of_nonneg (by have := hD.get k; omega)])) ?_
    refine TM.free (Wants.none rfl) rfl (fun _ => Gets.move rfl rfl) ?_
    refine TM.free (Wants.none rfl) rfl (fun _ => Gets.and rfl rfl rfl (r := ((D.getD k 0) % 16)) (and15 (hD.get k).1 (hD.get k).2)) ?_
    refine TM.free (Wants.none rfl) rfl (fun _ => Gets.congr (Gets.indexStr (str := ⟨#[48, 49, 50, 51, 52, 53, 54, 55, 56, 57, 97, 98, 99, 100, 101, 102]⟩) rfl Tryd.underlying9 rfl rfl (i := ((D.getD k 0) % 16).toNat) (by have := hD.get k; omega) (show ((D.getD k 0) % 16).toNat < 16 by have := hD.get k; omega)) (v := .int .u8 (hexI ((D.getD k 0) % 16))) (by rw [hex_idx]; rw [Int.toNat_of_nonneg (by have := hD.get k; omega)])) ?_
    refine TM.free (Wants.none rfl) rfl (fun _ => Gets.idxArray rfl Tryd.underlying51 size5 rfl rfl (i := (2 * k)) (by omega) (by omega) (off' := (2 * k)) (by omega)) ?_
    refine TM.store1 (Wants.none rfl) rfl rfl size5 rfl rfl rfl (i := 0) rfl rfl (by simp [(fmtF_len D k)] <;> omega) (cs' := ((fmtF D k).set (2 * k) (hexI ((D.getD k 0) / 16))).map (Value.int .u8)) (ints_set) (H' := [⟨g2, 51, ((fmtF D k).set (2 * k) (hexI ((D.getD k 0) / 16))).map (Value.int .u8), 64⟩, ⟨g1, 24, D.map (Value.int .u8), 32⟩]) rfl ?_
    refine TM.free (Wants.none rfl) rfl (fun _ => Gets.idxArray rfl Tryd.underlying51 size5 rfl rfl (i := (2 * k + 1)) (by omega) (by omega) (off' := (2 * k + 1)) (by omega)) ?_
    refine TM.store1 (Wants.none rfl) rfl rfl size5 rfl rfl rfl (i := 0) rfl rfl (by simp [(fmtF_len D k)] <;> omega) (cs' := (((fmtF D k).set (2 * k) (hexI ((D.getD k 0) / 16))).set (2 * k + 1) (hexI ((D.getD k 0) % 16))).map (Value.int .u8)) (ints_set) (H' := [⟨g2, 51, (((fmtF D k).set (2 * k) (hexI ((D.getD k 0) / 16))).set (2 * k + 1) (hexI ((D.getD k 0) % 16))).map (Value.int .u8), 64⟩, ⟨g1, 24, D.map (Value.int .u8), 32⟩]) rfl ?_
    refine TM.nil ?_
    refine TE.blockN ?_
    refine TE.then ?_
    refine TC.sub (Sub.cons (i := 3) rfl (Sub.cons (i := 6) rfl (Sub.cons (i := 7) rfl (Sub.nil)))) ?_
    refine TC.regionL ?_
    refine TL.gets (Wants.none rfl) rfl (Gets.add rfl rfl rfl (r := ((k : Int) + 1)) (w64 (by omega) (by omega))) ?_
    refine TL.gets (Wants.none rfl) rfl (Gets.move rfl rfl) ?_
    refine TL.nil ?_
    exact TE.back (k + 1) (by omega) (by omega) (Sub.cons (i := 3) rfl (Sub.cons (i := 6) rfl (Sub.int (i := 7) rfl (by first | omega | rfl) (Sub.nil)))) (fun w h => h)
  · obtain rfl : k = 32 := by omega
    have Fl := fmtF_len D 32
    generalize hF : fmtF D 32 = F at Fl ⊢
    refine TC.exit ?_
    refine TE.thenX ?_
    refine TE.thenX ?_
    refine TE.blockX ?_
    refine TE.then ?_
    refine TC.seq ?_
    refine TC.regionL ?_
    refine TL.gets (Wants.none rfl) rfl (Gets.sliceA rfl Tryd.underlying51 size5 rfl bnd.dflt bnd.dflt (by omega) (by omega) (cutA_zero _ _ _) (ln := 64) (cp := 64) (by omega) (by omega)) ?_
    refine TL.gets (Wants.none rfl) rfl (Gets.b2s rfl Tryd.underlying22 Tryd.underlying9 Tryd.underlying5 rfl (fun w hs => src_ent (hs.has (⟨g2, 51, F.map (Value.int .u8), 64⟩) (by simp)) Fl)) ?_
    refine TL.gets (Wants.none rfl) rfl (Gets.assign rfl rfl) ?_
    refine TL.nil ?_
    refine TE.then ?_
    refine TC.ret ?_
    exact TE.ret1 rfl rfl (fun w hs => ⟨rfl, (hs.drop (by assumption)).drop (by assumption)⟩)

set_option maxRecDepth 100000 in
set_option maxHeartbeats 400000 in
theorem lhasPrefix_c (s p : ByteArray) (w : World) (hle : p.size ≤ s.size) (hpre : s.extract 0 p.size = p) : Calls Tryd.prog 28 #[.string s, .string p] w fun e w' => e = .returned (.bool true) ∧ St w [] w' := by
  refine calls_from (args := [.string s, .string p]) Tryd.func28 rfl Tryd.ntmps28 (by simp) ?_
  refine TC.sub (Sub.cons (i := 0) rfl (Sub.cons (i := 1) rfl (Sub.nil))) ?_
  refine TC.seq ?_
  refine TC.regionL ?_
  refine TL.gets (Wants.none rfl) rfl (Gets.assign rfl rfl) ?_
  refine TL.nil ?_
  refine TE.then ?_
  refine TC.seq ?_
  refine TC.regionL ?_
  refine TL.gets (Wants.none rfl) rfl (Gets.move rfl rfl) ?_
  refine TL.gets (Wants.none rfl) rfl (Gets.lenString rfl Tryd.underlying9 rfl) ?_
  refine TL.gets (Wants.none rfl) rfl (Gets.move rfl rfl) ?_
  refine TL.gets (Wants.none rfl) rfl (Gets.lenString rfl Tryd.underlying9 rfl) ?_
  refine TL.gets (Wants.none rfl) rfl (Gets.isTrue (Gets.geq rfl rfl rfl) (by omega)) ?_
  refine TL.gets (Wants.none rfl) rfl (Gets.move rfl rfl) ?_
  refine TL.gets (Wants.yes rfl rfl rfl) rfl (Gets.move rfl rfl) ?_
  refine TL.gets (Wants.yes rfl rfl rfl) rfl (Gets.move rfl rfl) ?_
  refine TL.gets (Wants.yes rfl rfl rfl) rfl (Gets.lenString rfl Tryd.underlying9 rfl) ?_
  refine TL.gets (Wants.yes rfl rfl rfl) rfl (Gets.sliceStr rfl Tryd.underlying9 rfl bnd.dflt (bnd.at_ (l := p.size) rfl (by omega)) (by omega) (by omega)) ?_
  refine TL.gets (Wants.yes rfl rfl rfl) rfl (Gets.move rfl rfl) ?_
  refine TL.gets (Wants.yes rfl rfl rfl) rfl (Gets.strEq rfl rfl rfl (v := .bool true) (fun w => by rw [hpre]; simp [Op.stringOp])) ?_
  refine TL.gets (Wants.none rfl) rfl (Gets.pickT rfl rfl rfl) ?_
  refine TL.gets (Wants.none rfl) rfl (Gets.assign rfl rfl) ?_
  refine TL.nil ?_
  refine TE.then ?_
  refine TC.ret ?_
  exact TE.ret1 rfl rfl (fun w hs => ⟨rfl, hs⟩)

set_option maxRecDepth 100000 in
set_option maxHeartbeats 400000 in
theorem hasPrefix_c (s p : ByteArray) (w : World) (hle : p.size ≤ s.size) (hpre : s.extract 0 p.size = p) : Calls Tryd.prog 21 #[.string s, .string p] w fun e w' => e = .returned (.bool true) ∧ St w [] w' := by
  refine calls_from (args := [.string s, .string p]) Tryd.func21 rfl Tryd.ntmps21 (by simp) ?_
  refine TC.sub (Sub.cons (i := 0) rfl (Sub.cons (i := 1) rfl (Sub.nil))) ?_
  refine TC.seq ?_
  refine TC.regionL ?_
  refine TL.gets (Wants.none rfl) rfl (Gets.assign rfl rfl) ?_
  refine TL.nil ?_
  refine TE.then ?_
  refine TC.seq ?_
  refine TC.regionL ?_
  refine TL.gets (Wants.none rfl) rfl (Gets.move rfl rfl) ?_
  refine TL.gets (Wants.none rfl) rfl (Gets.move rfl rfl) ?_
  refine TL.call0 (Wants.none rfl) rfl enters28 rfl rfl (v := .bool true) (fun w hs => lhasPrefix_c s p w hle hpre) ?_
  refine TL.gets (Wants.none rfl) rfl (Gets.assign rfl rfl) ?_
  refine TL.nil ?_
  refine TE.then ?_
  refine TC.ret ?_
  exact TE.ret1 rfl rfl (fun w hs => ⟨rfl, hs⟩)


theorem digB_bytes (st : List Int) : ∀ k, Bytes (digB st k)
  | 0 => fun x hx => by
    unfold digB at hx
    have := List.eq_of_mem_replicate hx
    omega
  | k + 1 => fun x hx => by
    unfold digB at hx
    have h := digB_bytes st k
    have hw : ∀ y : Int, 0 ≤ IntKind.u8.wrap y ∧ IntKind.u8.wrap y ≤ 255 := fun y => by rw [IntKind.wrap_u8]; omega
    rcases List.mem_or_eq_of_mem_set hx with hx | rfl
    · rcases List.mem_or_eq_of_mem_set hx with hx | rfl
      · rcases List.mem_or_eq_of_mem_set hx with hx | rfl
        · rcases List.mem_or_eq_of_mem_set hx with hx | rfl
          · exact h x hx
          · exact hw _
        · exact hw _
      · exact hw _
    · exact hw _
theorem shaM_bytes (M : List Int) : Bytes (shaM M) := by unfold shaM; exact digB_bytes _ _
theorem bs_prefix {l r : List Int} {p : ByteArray} (hp : p = bs r) (h : l.take r.length = r) : p.size ≤ (bs l).size ∧ (bs l).extract 0 p.size = p := by
  subst hp
  have hle : r.length ≤ l.length := by rw [← h]; simp; omega
  have hs : ∀ x : List Int, (bs x).size = x.length := fun x => by unfold bs; simp [ByteArray.size]
  refine ⟨by rw [hs, hs]; exact hle, ?_⟩
  apply ByteArray.ext
  apply Array.toList_inj.1
  rw [Lib.extract_data, hs]
  unfold bs
  simp only [List.drop_zero, Nat.sub_zero, List.toList_toArray]
  rw [← List.map_take, h]
theorem alive_nil : (fmtF (shaM []) 32).take 8 = [101, 51, 98, 48, 99, 52, 52, 50] := by decide +kernel
theorem alive_abc : (fmtF (shaM [97, 98, 99]) 32).take 8 = [98, 97, 55, 56, 49, 54, 98, 102] := by decide +kernel
end Go.Proofs.YtdcphpmkhekghaaDoor
