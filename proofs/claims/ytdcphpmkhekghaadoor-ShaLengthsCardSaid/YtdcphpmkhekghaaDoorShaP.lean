/-
  ShaDigits: the walk.
-/
import Derived.Test.YtdcphpmkhekghaaDoorShaO
namespace Go.Proofs.YtdcphpmkhekghaaDoor
set_option linter.unusedVariables false
set_option linter.unusedSimpArgs false
open Go Go.RowKit
theorem enters17 : Enters Tryd.prog 17 := ⟨_, Tryd.func17, by kernel_rfl, by kernel_rfl⟩
theorem enters19 : Enters Tryd.prog 19 := ⟨_, Tryd.func19, by kernel_rfl, by kernel_rfl⟩
theorem enters20 : Enters Tryd.prog 20 := ⟨_, Tryd.func20, by kernel_rfl, by kernel_rfl⟩

theorem getD_set {l : List Int} {i j : Nat} {v d : Int} (hi : i < l.length) : (l.set i v).getD j d = if i = j then v else l.getD j d := by
  simp only [List.getD_eq_getElem?_getD, List.getElem?_set]
  by_cases h : i = j
  · subst h; simp [hi]
  · simp [h]
theorem hexI_bd (x : Int) : 0 ≤ hexI x ∧ hexI x ≤ 255 := by
  have h : Bytes [48, 49, 50, 51, 52, 53, 54, 55, 56, 57, 97, 98, 99, 100, 101, 102] := by unfold Bytes; decide
  exact h.get _
theorem bytes_set {l : List Int} (h : Bytes l) {i : Nat} {v : Int} (hv : 0 ≤ v ∧ v ≤ 255) : Bytes (l.set i v) := fun x hx => by
  rcases List.mem_or_eq_of_mem_set hx with hx | rfl
  · exact h x hx
  · exact hv
theorem fmtF_bytes (D : List Int) : ∀ k, Bytes (fmtF D k)
  | 0 => fun x hx => by
    have := List.eq_of_mem_replicate hx
    omega
  | k + 1 => bytes_set (bytes_set (fmtF_bytes D k) (hexI_bd _)) (hexI_bd _)
theorem prs_bytes (s : ByteArray) : ∀ k, Bytes (prs s k)
  | 0 => fun x hx => by
    have := List.eq_of_mem_replicate hx
    omega
  | k + 1 => bytes_set (prs_bytes s k) (by rw [IntKind.wrap_u8]; omega)
theorem fmtF_get (D : List Int) : ∀ k, k ≤ 32 → ∀ j, j < k → (fmtF D k).getD (2 * j) 0 = hexI (D.getD j 0 / 16) ∧ (fmtF D k).getD (2 * j + 1) 0 = hexI (D.getD j 0 % 16)
  | 0, _, j, hj => absurd hj (Nat.not_lt_zero j)
  | k + 1, hk, j, hj => by
    have hl := fmtF_len D k
    show (((fmtF D k).set (2 * k) (hexI (D.getD k 0 / 16))).set (2 * k + 1) (hexI (D.getD k 0 % 16))).getD (2 * j) 0 = _ ∧ (((fmtF D k).set (2 * k) (hexI (D.getD k 0 / 16))).set (2 * k + 1) (hexI (D.getD k 0 % 16))).getD (2 * j + 1) 0 = _
    rw [getD_set (by (try simp only [List.length_set]); omega), getD_set (by (try simp only [List.length_set]); omega), getD_set (by (try simp only [List.length_set]); omega), getD_set (by (try simp only [List.length_set]); omega)]
    rw [if_neg (show ¬ 2 * k + 1 = 2 * j by omega), if_neg (show ¬ 2 * k = 2 * j + 1 by omega)]
    by_cases e : j = k
    · subst e; rw [if_pos rfl, if_pos rfl]; exact ⟨rfl, rfl⟩
    · rw [if_neg (by omega), if_neg (by omega)]
      exact fmtF_get D k (by omega) j (by omega)
theorem prs_get {s : ByteArray} (hg : goodTo s 64) : ∀ k, k ≤ 32 → ∀ j, j < k → (prs s k).getD j 0 = 16 * hexV (chrI s (2 * j)) + hexV (chrI s (2 * j + 1))
  | 0, _, j, hj => absurd hj (Nat.not_lt_zero j)
  | k + 1, hk, j, hj => by
    have hl := prs_len s k
    show ((prs s k).set k _).getD j 0 = _
    rw [getD_set (by omega)]
    by_cases e : k = j
    · subst e
      rw [if_pos rfl]
      exact join_hex (hg _ (by omega)) (hexV_hi s _).2 (hg _ (by omega)) (hexV_hi s _).2
    · rw [if_neg e]; exact prs_get hg k (by omega) j (by omega)
theorem chr_bs {l : List Int} (h : Bytes l) (k : Nat) : chrI (bs l) k = l.getD k 0 := by
  unfold chrI bs
  simp only [List.toList_toArray]
  simp only [List.getD_eq_getElem?_getD, List.getElem?_map]
  by_cases hk : k < l.length
  · have hb := h _ (List.getElem_mem hk)
    simp only [List.getElem?_eq_getElem hk, Option.map_some, Option.getD_some]
    rw [UInt8.toNat_ofNat']
    omega
  · simp [List.getElem?_eq_none (Nat.le_of_not_lt hk)]
theorem list_of_getD {l r : List Int} (h : l.length = r.length) (hg : ∀ i, i < l.length → l.getD i 0 = r.getD i 0) : l = r := by
  apply List.ext_getElem h
  intro i h1 h2
  have := hg i h1
  simpa [List.getD_eq_getElem?_getD, h1, h2] using this
theorem fmt_chr {D : List Int} (hD : Bytes D) {j : Nat} (hj : j < 32) : hexV (chrI (bs (fmtF D 32)) (2 * j)) = D.getD j 0 / 16 ∧ hexV (chrI (bs (fmtF D 32)) (2 * j + 1)) = D.getD j 0 % 16 := by
  have hd := hD.get j
  have h := fmtF_get D 32 (Nat.le_refl _) j hj
  rw [chr_bs (fmtF_bytes D 32), chr_bs (fmtF_bytes D 32), h.1, h.2]
  exact ⟨(hexVI (by omega) (by omega)).1, (hexVI (by omega) (by omega)).1⟩
theorem fmt_right {D : List Int} (hD : Bytes D) : rightP (bs (fmtF D 32)) := by
  refine ⟨by rw [bs_size, fmtF_len], fun j hj => ?_⟩
  have h := fmt_chr hD (j := j / 2) (by omega)
  have hd := hD.get (j / 2)
  by_cases e : j % 2 = 0
  · rw [show j = 2 * (j / 2) by omega, h.1]; omega
  · rw [show j = 2 * (j / 2) + 1 by omega, h.2]; omega
theorem prs_fmt {D : List Int} (hl : D.length = 32) (hD : Bytes D) : prs (bs (fmtF D 32)) 32 = D := by
  refine list_of_getD (by rw [prs_len, hl]) fun i hi => ?_
  rw [prs_len] at hi
  rw [prs_get (fmt_right hD).2 32 (Nat.le_refl _) i hi, (fmt_chr hD hi).1, (fmt_chr hD hi).2]
  omega
theorem fmt_prs {s : ByteArray} (h : rightP s) : bs (fmtF (prs s 32) 32) = s := by
  have key : ∀ i, i < 64 → (fmtF (prs s 32) 32).getD i 0 = chrI s i := by
    intro i hi
    have hb := hexV_hi s (2 * (i / 2))
    have hb2 := hexV_hi s (2 * (i / 2) + 1)
    have g1 := h.2 (2 * (i / 2)) (by omega)
    have g2 := h.2 (2 * (i / 2) + 1) (by omega)
    have hf := fmtF_get (prs s 32) 32 (Nat.le_refl _) (i / 2) (by omega)
    have hp := prs_get h.2 32 (Nat.le_refl _) (i / 2) (by omega)
    have c1 := hexV_or (chrI_bd s (2 * (i / 2))).1 (chrI_bd s (2 * (i / 2))).2
    have c2 := hexV_or (chrI_bd s (2 * (i / 2) + 1)).1 (chrI_bd s (2 * (i / 2) + 1)).2
    by_cases e : i % 2 = 0
    · have hi2 : i = 2 * (i / 2) := by omega
      rw [hi2, hf.1, hp, show (16 * hexV (chrI s (2 * (i / 2))) + hexV (chrI s (2 * (i / 2) + 1))) / 16 = hexV (chrI s (2 * (i / 2))) by omega]
      rcases c1 with c1 | c1
      · omega
      · exact c1.2.2
    · have hi2 : i = 2 * (i / 2) + 1 := by omega
      rw [hi2, hf.2, hp, show (16 * hexV (chrI s (2 * (i / 2))) + hexV (chrI s (2 * (i / 2) + 1))) % 16 = hexV (chrI s (2 * (i / 2) + 1)) by omega]
      rcases c2 with c2 | c2
      · omega
      · exact c2.2.2
  have hl := fmtF_len (prs s 32) 32
  generalize fmtF (prs s 32) 32 = F at *
  apply ByteArray.ext
  apply Array.toList_inj.1
  unfold bs
  simp only [List.toList_toArray]
  have hsl : s.data.toList.length = 64 := by rw [Array.length_toList]; exact h.1
  apply List.ext_getElem (by simp [hl, hsl])
  intro i h1 h2
  have hi : i < 64 := by omega
  have hk := key i hi
  have hiF : i < F.length := by omega
  rw [List.getElem_map]
  have e1 : F.getD i 0 = F[i] := by simp [List.getD_eq_getElem?_getD, hiF]
  rw [← e1, hk]
  unfold chrI
  have e2 : s.data.toList.getD i 0 = s.data.toList[i] := by rw [List.getD_eq_getElem?_getD, List.getElem?_eq_getElem h2]; rfl
  rw [e2]
  simp

theorem parseFmt_c (D : List Int) (w : World) (hDl : D.length = 32) (hD : Bytes D) : Calls Tryd.prog 17 #[.string (bs (fmtF D 32))] w fun e w' => e = .returned (.tuple #[.agg (D.map (Value.int .u8)).toArray, .bool true]) ∧ St w [] w' := by
  have h := parseYes_c (bs (fmtF D 32)) w (fmt_right hD) (by rw [bs_size, fmtF_len]; omega)
  rw [prs_fmt hDl hD] at h
  exact h
theorem fmtParse_c (s : ByteArray) (w : World) (hr : rightP s) : Calls Tryd.prog 18 #[.agg ((prs s 32).map (Value.int .u8)).toArray] w fun e w' => e = .returned (.string s) ∧ St w [] w' := by
  have h := format_c (prs s 32) w (prs_len s 32) (prs_bytes s 32)
  rw [fmt_prs hr] at h
  exact h
theorem rrightT_c (s : ByteArray) (w : World) (hsz : s.size ≤ 9223372036854775807) (hr : rightP s) : Calls Tryd.prog 20 #[.string s] w fun e w' => e = .returned (.bool true) ∧ St w [] w' := by
  have h := rright_c s w hsz
  rw [decide_eq_true hr] at h
  exact h
theorem rrightF_c (s : ByteArray) (w : World) (hsz : s.size ≤ 9223372036854775807) (hr : ¬ rightP s) : Calls Tryd.prog 20 #[.string s] w fun e w' => e = .returned (.bool false) ∧ St w [] w' := by
  have h := rright_c s w hsz
  rw [decide_eq_false hr] at h
  exact h

attribute [local irreducible] prs fmtF bs rightP

set_option maxRecDepth 100000 in
set_option maxHeartbeats 1000000 in
theorem shaDigitsYes_walk (w : World) (D : List Int) (hDl : D.length = 32) (hD : Bytes D) (s : ByteArray) (hsz : s.size ≤ 9223372036854775807) (hr : rightP s) (h1 : 1 < w.heap.size) (hIV : RowI w 0 0 8 .u32 IV) (hK : RowI w 1 0 64 .u32 KT) : Calls Tryd.prog 7 #[.agg (D.map (Value.int .u8)).toArray, .string s] w fun e w' => e = .returned (.bool true) ∧ St w [] w' := by
  refine calls_from (args := [.agg (D.map (Value.int .u8)).toArray, .string s]) Tryd.func7 rfl Tryd.ntmps7 (by simp) ?_
  refine TC.sub (Sub.cons (i := 0) rfl (Sub.cons (i := 1) rfl (Sub.nil))) ?_
  refine TC.seq ?_
  refine TC.regionL ?_
  refine TL.box (Wants.none rfl) rfl rfl rfl (cs := D.map (Value.int .u8)) (by simp [Value.cells]) (tot := 32) (by simp [hDl]) (fun g1 hg1 => ?_)
  refine TL.gets (Wants.none rfl) rfl (Gets.assign rfl rfl) ?_
  refine TL.nil ?_
  refine TE.then ?_
  refine TC.seq ?_
  refine TC.seq ?_
  refine TC.regionL ?_
  refine TL.gets (Wants.none rfl) rfl (Gets.move rfl rfl) ?_
  refine TL.gets (Wants.none rfl) rfl (Gets.lenString rfl Tryd.underlying9 rfl) ?_
  refine TL.gets (Wants.none rfl) rfl (Gets.gtr rfl rfl rfl) ?_
  refine TL.nil ?_
  refine TE.then ?_
  refine TC.split rfl (fun hq0 => ?_) (fun hq0 => ?_)
  · refine TC.seq ?_
    refine TC.regionL ?_
    refine TL.call0 (Wants.none rfl) rfl enters9 rfl rfl (v := .bool true) (fun w hs => alive_c w (Nat.lt_of_lt_of_le h1 hs.size) (hIV.keepH hs (by omega) (ne_cons (by show g1 ≠ 0; omega) ne_nil)) (hK.keepH hs h1 (ne_cons (by show g1 ≠ 1; omega) ne_nil))) ?_
    refine TL.gets (Wants.none rfl) rfl (Gets.assign rfl rfl) ?_
    refine TL.nil ?_
    refine TE.then ?_
    refine TC.ret ?_
    refine TE.thenR ?_
    exact TE.ret1 rfl rfl (fun w hs => ⟨rfl, (hs.drop (by assumption))⟩)
  · refine TC.skip ?_
    refine TE.then ?_
    refine TC.seq ?_
    refine TC.regionL ?_
    refine TL.gets (Wants.none rfl) rfl (Gets.loadN rfl agg24 size24 rfl (vs := D.map (Value.int .u8)) (by simp [hDl]) (Row.all (i := 0) (ent := ⟨g1, 24, D.map (Value.int .u8), 32⟩) rfl rfl rfl)) ?_
    refine TL.call0 (Wants.none rfl) rfl enters18 rfl rfl (v := .string (bs (fmtF D 32))) (fun w hs => format_c D w hDl hD) ?_
    refine TL.call0 (Wants.none rfl) rfl enters17 rfl rfl (v := .tuple #[.agg (D.map (Value.int .u8)).toArray, .bool true]) (fun w hs => parseFmt_c D w hDl hD) ?_
    refine TL.gets (Wants.none rfl) rfl (Gets.move rfl rfl) ?_
    refine TL.gets (Wants.none rfl) rfl (Gets.extract rfl rfl rfl) ?_
    refine TL.gets (Wants.none rfl) rfl (Gets.extract rfl rfl rfl) ?_
    refine TL.alloc (Wants.none rfl) rfl rfl zero24 (cs := (List.replicate 32 0).map (Value.int .u8)) rfl (tot := 32) (by simp) (fun g2 hg2 => ?_)
    refine TL.storeW (Wants.none rfl) rfl rfl size24 rfl (vs := D.map (Value.int .u8)) rfl (by simp [hDl]) ints_one (i := 0) (ent := ⟨g2, 24, (List.replicate 32 0).map (Value.int .u8), 32⟩) rfl rfl (by simp []) (H' := [⟨g2, 24, D.map (Value.int .u8), 32⟩, ⟨g1, 24, D.map (Value.int .u8), 32⟩]) rfl ?_
    refine TL.gets (Wants.none rfl) rfl (Gets.assign rfl rfl) ?_
    refine TL.nil ?_
    refine TE.then ?_
    refine TC.sub (Sub.cons (i := 1) rfl (Sub.cons (i := 2) rfl (Sub.cons (i := 4) rfl (Sub.cons (i := 5) rfl (Sub.cons (i := 6) rfl (Sub.nil)))))) ?_
    refine TC.seq ?_
    refine TC.regionL ?_
    refine TL.gets (Wants.none rfl) rfl (Gets.move rfl rfl) ?_
    refine TL.call0 (Wants.none rfl) rfl enters17 rfl rfl (v := .tuple #[.agg ((prs s 32).map (Value.int .u8)).toArray, .bool true]) (fun w hs => parseYes_c s w hr hsz) ?_
    refine TL.gets (Wants.none rfl) rfl (Gets.move rfl rfl) ?_
    refine TL.gets (Wants.none rfl) rfl (Gets.extract rfl rfl rfl) ?_
    refine TL.gets (Wants.none rfl) rfl (Gets.extract rfl rfl rfl) ?_
    refine TL.alloc (Wants.none rfl) rfl rfl zero24 (cs := (List.replicate 32 0).map (Value.int .u8)) rfl (tot := 32) (by simp) (fun g3 hg3 => ?_)
    refine TL.storeW (Wants.none rfl) rfl rfl size24 rfl (vs := (prs s 32).map (Value.int .u8)) rfl (by simp [(prs_len s 32)]) ints_one (i := 0) (ent := ⟨g3, 24, (List.replicate 32 0).map (Value.int .u8), 32⟩) rfl rfl (by simp []) (H' := [⟨g3, 24, (prs s 32).map (Value.int .u8), 32⟩, ⟨g2, 24, D.map (Value.int .u8), 32⟩, ⟨g1, 24, D.map (Value.int .u8), 32⟩]) rfl ?_
    refine TL.gets (Wants.none rfl) rfl (Gets.assign rfl rfl) ?_
    refine TL.nil ?_
    refine TE.then ?_
    refine TC.sub (Sub.cons (i := 1) rfl (Sub.cons (i := 2) rfl (Sub.cons (i := 4) rfl (Sub.cons (i := 5) rfl (Sub.cons (i := 6) rfl (Sub.cons (i := 7) rfl (Sub.cons (i := 8) rfl (Sub.nil)))))))) ?_
    refine TC.seq ?_
    refine TC.seq ?_
    refine TC.mix (by kernel_rfl) [1, 1, 1, 1, 0, 0, 0, 0, 0, 0, 1, 1, 0, 0, 0, 0, 0, 1, 0, 0] rfl (by kernel_rfl) ?_
    refine TM.gets (Wants.none rfl) rfl (Gets.loadN rfl agg24 size24 rfl (vs := D.map (Value.int .u8)) (by simp [hDl]) (Row.all (i := 2) (ent := ⟨g1, 24, D.map (Value.int .u8), 32⟩) rfl rfl rfl)) ?_
    refine TM.call0 (Wants.none rfl) rfl enters18 rfl rfl (v := .string (bs (fmtF D 32))) (fun w hs => format_c D w hDl hD) ?_
    refine TM.gets (Wants.none rfl) rfl (Gets.loadN rfl agg24 size24 rfl (vs := D.map (Value.int .u8)) (by simp [hDl]) (Row.all (i := 2) (ent := ⟨g1, 24, D.map (Value.int .u8), 32⟩) rfl rfl rfl)) ?_
    refine TM.call0 (Wants.none rfl) rfl enters19 rfl rfl (v := .string (bs (fmtF D 32))) (fun w hs => rformat_c D w hDl hD) ?_
    refine TM.free (Wants.none rfl) rfl (fun _ => Gets.strNe (b := bs (fmtF D 32)) rfl rfl rfl Tryd.underlying9) ?_
    refine TM.free (Wants.none rfl) rfl (fun _ => Gets.move rfl rfl) ?_
    refine TM.free (Wants.yes rfl rfl rfl) rfl (fun _ => Gets.move rfl rfl) ?_
    refine TM.free (Wants.yes rfl rfl rfl) rfl (fun _ => Gets.not rfl rfl) ?_
    refine TM.free (Wants.none rfl) rfl (fun _ => Gets.pickF rfl rfl rfl) ?_
    refine TM.free (Wants.none rfl) rfl (fun _ => Gets.move rfl rfl) ?_
    refine TM.gets (Wants.yes rfl rfl rfl) rfl (Gets.loadN rfl agg24 size24 rfl (vs := D.map (Value.int .u8)) (by simp [hDl]) (Row.all (i := 1) (ent := ⟨g2, 24, D.map (Value.int .u8), 32⟩) rfl rfl rfl)) ?_
    refine TM.gets (Wants.yes rfl rfl rfl) rfl (Gets.loadN rfl agg24 size24 rfl (vs := D.map (Value.int .u8)) (by simp [hDl]) (Row.all (i := 2) (ent := ⟨g1, 24, D.map (Value.int .u8), 32⟩) rfl rfl rfl)) ?_
    refine TM.free (Wants.yes rfl rfl rfl) rfl (fun _ => Gets.arrNotSame rfl Tryd.underlying24 Tryd.underlying5 size5 geq24 rfl rfl hDl) ?_
    refine TM.free (Wants.none rfl) rfl (fun _ => Gets.pickF rfl rfl rfl) ?_
    refine TM.free (Wants.none rfl) rfl (fun _ => Gets.move rfl rfl) ?_
    refine TM.free (Wants.yes rfl rfl rfl) rfl (fun _ => Gets.move rfl rfl) ?_
    refine TM.free (Wants.yes rfl rfl rfl) rfl (fun _ => Gets.move rfl rfl) ?_
    refine TM.call0 (Wants.yes rfl rfl rfl) rfl enters20 rfl rfl (v := .bool true) (fun w hs => rrightT_c s w hsz hr) ?_
    refine TM.free (Wants.yes rfl rfl rfl) rfl (fun _ => Gets.boolNe (b := true) rfl Tryd.underlying4 rfl rfl) ?_
    refine TM.free (Wants.none rfl) rfl (fun _ => Gets.pickF rfl rfl rfl) ?_
    refine TM.nil ?_
    refine TE.then ?_
    refine TC.sub (Sub.cons (i := 1) rfl (Sub.cons (i := 4) rfl (Sub.cons (i := 7) rfl (Sub.cons (i := 8) rfl (Sub.cons (i := 43) rfl (Sub.nil)))))) ?_
    refine TC.no rfl ?_
    refine TC.skip ?_
    refine TE.then ?_
    refine TC.seq ?_
    refine TC.regionL ?_
    refine TL.call0 (Wants.none rfl) rfl enters9 rfl rfl (v := .bool true) (fun w hs => alive_c w (Nat.lt_of_lt_of_le h1 hs.size) (hIV.keepH hs (by omega) (ne_cons (by show g3 ≠ 0; omega) (ne_cons (by show g2 ≠ 0; omega) (ne_cons (by show g1 ≠ 0; omega) ne_nil)))) (hK.keepH hs h1 (ne_cons (by show g3 ≠ 1; omega) (ne_cons (by show g2 ≠ 1; omega) (ne_cons (by show g1 ≠ 1; omega) ne_nil))))) ?_
    refine TL.gets (Wants.none rfl) rfl (Gets.move rfl rfl) ?_
    refine TL.gets (Wants.yes rfl rfl rfl) rfl (Gets.move rfl rfl) ?_
    refine TL.gets (Wants.yes rfl rfl rfl) rfl (Gets.move rfl rfl) ?_
    refine TL.gets (Wants.yes rfl rfl rfl) rfl (Gets.loadN rfl agg24 size24 rfl (vs := (prs s 32).map (Value.int .u8)) (by simp [(prs_len s 32)]) (Row.all (i := 0) (ent := ⟨g3, 24, (prs s 32).map (Value.int .u8), 32⟩) rfl rfl rfl)) ?_
    refine TL.call0 (Wants.yes rfl rfl rfl) rfl enters18 rfl rfl (v := .string s) (fun w hs => fmtParse_c s w hr) ?_
    refine TL.gets (Wants.yes rfl rfl rfl) rfl (Gets.move rfl rfl) ?_
    refine TL.gets (Wants.yes rfl rfl rfl) rfl (Gets.strEq (b := s) (c := s) rfl rfl rfl (v := .bool true) (fun w => by simp [Op.stringOp])) ?_
    refine TL.gets (Wants.yes rfl rfl rfl) rfl (Gets.pickT rfl rfl rfl) ?_
    refine TL.gets (Wants.yes rfl rfl rfl) rfl (Gets.move rfl rfl) ?_
    refine TL.pass rfl rfl rfl rfl rfl ?_
    refine TL.pass rfl rfl rfl rfl rfl ?_
    refine TL.pass rfl rfl rfl rfl rfl ?_
    refine TL.passU rfl rfl rfl rfl ?_
    refine TL.passU rfl rfl rfl rfl ?_
    refine TL.passU rfl rfl rfl rfl ?_
    refine TL.pass rfl rfl rfl rfl rfl ?_
    refine TL.gets (Wants.yes rfl rfl rfl) rfl (Gets.pickT rfl rfl rfl) ?_
    refine TL.gets (Wants.none rfl) rfl (Gets.pickT rfl rfl rfl) ?_
    refine TL.gets (Wants.none rfl) rfl (Gets.assign rfl rfl) ?_
    refine TL.nil ?_
    refine TE.then ?_
    refine TC.ret ?_
    exact TE.ret1 rfl rfl (fun w hs => ⟨rfl, (((hs.drop (by assumption)).drop (by assumption)).drop (by assumption))⟩)

set_option maxRecDepth 100000 in
set_option maxHeartbeats 1000000 in
theorem shaDigitsNo_walk (w : World) (D : List Int) (hDl : D.length = 32) (hD : Bytes D) (s : ByteArray) (hsz : s.size ≤ 9223372036854775807) (hr : ¬ rightP s) (h1 : 1 < w.heap.size) (hIV : RowI w 0 0 8 .u32 IV) (hK : RowI w 1 0 64 .u32 KT) : Calls Tryd.prog 7 #[.agg (D.map (Value.int .u8)).toArray, .string s] w fun e w' => e = .returned (.bool true) ∧ St w [] w' := by
  refine calls_from (args := [.agg (D.map (Value.int .u8)).toArray, .string s]) Tryd.func7 rfl Tryd.ntmps7 (by simp) ?_
  refine TC.sub (Sub.cons (i := 0) rfl (Sub.cons (i := 1) rfl (Sub.nil))) ?_
  refine TC.seq ?_
  refine TC.regionL ?_
  refine TL.box (Wants.none rfl) rfl rfl rfl (cs := D.map (Value.int .u8)) (by simp [Value.cells]) (tot := 32) (by simp [hDl]) (fun g1 hg1 => ?_)
  refine TL.gets (Wants.none rfl) rfl (Gets.assign rfl rfl) ?_
  refine TL.nil ?_
  refine TE.then ?_
  refine TC.seq ?_
  refine TC.seq ?_
  refine TC.regionL ?_
  refine TL.gets (Wants.none rfl) rfl (Gets.move rfl rfl) ?_
  refine TL.gets (Wants.none rfl) rfl (Gets.lenString rfl Tryd.underlying9 rfl) ?_
  refine TL.gets (Wants.none rfl) rfl (Gets.gtr rfl rfl rfl) ?_
  refine TL.nil ?_
  refine TE.then ?_
  refine TC.split rfl (fun hq0 => ?_) (fun hq0 => ?_)
  · refine TC.seq ?_
    refine TC.regionL ?_
    refine TL.call0 (Wants.none rfl) rfl enters9 rfl rfl (v := .bool true) (fun w hs => alive_c w (Nat.lt_of_lt_of_le h1 hs.size) (hIV.keepH hs (by omega) (ne_cons (by show g1 ≠ 0; omega) ne_nil)) (hK.keepH hs h1 (ne_cons (by show g1 ≠ 1; omega) ne_nil))) ?_
    refine TL.gets (Wants.none rfl) rfl (Gets.assign rfl rfl) ?_
    refine TL.nil ?_
    refine TE.then ?_
    refine TC.ret ?_
    refine TE.thenR ?_
    exact TE.ret1 rfl rfl (fun w hs => ⟨rfl, (hs.drop (by assumption))⟩)
  · refine TC.skip ?_
    refine TE.then ?_
    refine TC.seq ?_
    refine TC.regionL ?_
    refine TL.gets (Wants.none rfl) rfl (Gets.loadN rfl agg24 size24 rfl (vs := D.map (Value.int .u8)) (by simp [hDl]) (Row.all (i := 0) (ent := ⟨g1, 24, D.map (Value.int .u8), 32⟩) rfl rfl rfl)) ?_
    refine TL.call0 (Wants.none rfl) rfl enters18 rfl rfl (v := .string (bs (fmtF D 32))) (fun w hs => format_c D w hDl hD) ?_
    refine TL.call0 (Wants.none rfl) rfl enters17 rfl rfl (v := .tuple #[.agg (D.map (Value.int .u8)).toArray, .bool true]) (fun w hs => parseFmt_c D w hDl hD) ?_
    refine TL.gets (Wants.none rfl) rfl (Gets.move rfl rfl) ?_
    refine TL.gets (Wants.none rfl) rfl (Gets.extract rfl rfl rfl) ?_
    refine TL.gets (Wants.none rfl) rfl (Gets.extract rfl rfl rfl) ?_
    refine TL.alloc (Wants.none rfl) rfl rfl zero24 (cs := (List.replicate 32 0).map (Value.int .u8)) rfl (tot := 32) (by simp) (fun g2 hg2 => ?_)
    refine TL.storeW (Wants.none rfl) rfl rfl size24 rfl (vs := D.map (Value.int .u8)) rfl (by simp [hDl]) ints_one (i := 0) (ent := ⟨g2, 24, (List.replicate 32 0).map (Value.int .u8), 32⟩) rfl rfl (by simp []) (H' := [⟨g2, 24, D.map (Value.int .u8), 32⟩, ⟨g1, 24, D.map (Value.int .u8), 32⟩]) rfl ?_
    refine TL.gets (Wants.none rfl) rfl (Gets.assign rfl rfl) ?_
    refine TL.nil ?_
    refine TE.then ?_
    refine TC.sub (Sub.cons (i := 1) rfl (Sub.cons (i := 2) rfl (Sub.cons (i := 4) rfl (Sub.cons (i := 5) rfl (Sub.cons (i := 6) rfl (Sub.nil)))))) ?_
    refine TC.seq ?_
    refine TC.regionL ?_
    refine TL.gets (Wants.none rfl) rfl (Gets.move rfl rfl) ?_
    refine TL.call0 (Wants.none rfl) rfl enters17 rfl rfl (v := .tuple #[.agg ((List.replicate 32 (0 : Int)).map (Value.int .u8)).toArray, .bool false]) (fun w hs => parseNo_c s w hr hsz) ?_
    refine TL.gets (Wants.none rfl) rfl (Gets.move rfl rfl) ?_
    refine TL.gets (Wants.none rfl) rfl (Gets.extract rfl rfl rfl) ?_
    refine TL.gets (Wants.none rfl) rfl (Gets.extract rfl rfl rfl) ?_
    refine TL.alloc (Wants.none rfl) rfl rfl zero24 (cs := (List.replicate 32 0).map (Value.int .u8)) rfl (tot := 32) (by simp) (fun g3 hg3 => ?_)
    refine TL.storeW (Wants.none rfl) rfl rfl size24 rfl (vs := (List.replicate 32 (0 : Int)).map (Value.int .u8)) rfl (by simp []) ints_one (i := 0) (ent := ⟨g3, 24, (List.replicate 32 0).map (Value.int .u8), 32⟩) rfl rfl (by simp []) (H' := [⟨g3, 24, (List.replicate 32 (0 : Int)).map (Value.int .u8), 32⟩, ⟨g2, 24, D.map (Value.int .u8), 32⟩, ⟨g1, 24, D.map (Value.int .u8), 32⟩]) rfl ?_
    refine TL.gets (Wants.none rfl) rfl (Gets.assign rfl rfl) ?_
    refine TL.nil ?_
    refine TE.then ?_
    refine TC.sub (Sub.cons (i := 1) rfl (Sub.cons (i := 2) rfl (Sub.cons (i := 4) rfl (Sub.cons (i := 5) rfl (Sub.cons (i := 6) rfl (Sub.cons (i := 7) rfl (Sub.cons (i := 8) rfl (Sub.nil)))))))) ?_
    refine TC.seq ?_
    refine TC.seq ?_
    refine TC.mix (by kernel_rfl) [1, 1, 1, 1, 0, 0, 0, 0, 0, 0, 1, 1, 0, 0, 0, 0, 0, 1, 0, 0] rfl (by kernel_rfl) ?_
    refine TM.gets (Wants.none rfl) rfl (Gets.loadN rfl agg24 size24 rfl (vs := D.map (Value.int .u8)) (by simp [hDl]) (Row.all (i := 2) (ent := ⟨g1, 24, D.map (Value.int .u8), 32⟩) rfl rfl rfl)) ?_
    refine TM.call0 (Wants.none rfl) rfl enters18 rfl rfl (v := .string (bs (fmtF D 32))) (fun w hs => format_c D w hDl hD) ?_
    refine TM.gets (Wants.none rfl) rfl (Gets.loadN rfl agg24 size24 rfl (vs := D.map (Value.int .u8)) (by simp [hDl]) (Row.all (i := 2) (ent := ⟨g1, 24, D.map (Value.int .u8), 32⟩) rfl rfl rfl)) ?_
    refine TM.call0 (Wants.none rfl) rfl enters19 rfl rfl (v := .string (bs (fmtF D 32))) (fun w hs => rformat_c D w hDl hD) ?_
    refine TM.free (Wants.none rfl) rfl (fun _ => Gets.strNe (b := bs (fmtF D 32)) rfl rfl rfl Tryd.underlying9) ?_
    refine TM.free (Wants.none rfl) rfl (fun _ => Gets.move rfl rfl) ?_
    refine TM.free (Wants.yes rfl rfl rfl) rfl (fun _ => Gets.move rfl rfl) ?_
    refine TM.free (Wants.yes rfl rfl rfl) rfl (fun _ => Gets.not rfl rfl) ?_
    refine TM.free (Wants.none rfl) rfl (fun _ => Gets.pickF rfl rfl rfl) ?_
    refine TM.free (Wants.none rfl) rfl (fun _ => Gets.move rfl rfl) ?_
    refine TM.gets (Wants.yes rfl rfl rfl) rfl (Gets.loadN rfl agg24 size24 rfl (vs := D.map (Value.int .u8)) (by simp [hDl]) (Row.all (i := 1) (ent := ⟨g2, 24, D.map (Value.int .u8), 32⟩) rfl rfl rfl)) ?_
    refine TM.gets (Wants.yes rfl rfl rfl) rfl (Gets.loadN rfl agg24 size24 rfl (vs := D.map (Value.int .u8)) (by simp [hDl]) (Row.all (i := 2) (ent := ⟨g1, 24, D.map (Value.int .u8), 32⟩) rfl rfl rfl)) ?_
    refine TM.free (Wants.yes rfl rfl rfl) rfl (fun _ => Gets.arrNotSame rfl Tryd.underlying24 Tryd.underlying5 size5 geq24 rfl rfl hDl) ?_
    refine TM.free (Wants.none rfl) rfl (fun _ => Gets.pickF rfl rfl rfl) ?_
    refine TM.free (Wants.none rfl) rfl (fun _ => Gets.move rfl rfl) ?_
    refine TM.free (Wants.yes rfl rfl rfl) rfl (fun _ => Gets.move rfl rfl) ?_
    refine TM.free (Wants.yes rfl rfl rfl) rfl (fun _ => Gets.move rfl rfl) ?_
    refine TM.call0 (Wants.yes rfl rfl rfl) rfl enters20 rfl rfl (v := .bool false) (fun w hs => rrightF_c s w hsz hr) ?_
    refine TM.free (Wants.yes rfl rfl rfl) rfl (fun _ => Gets.boolNe (b := false) rfl Tryd.underlying4 rfl rfl) ?_
    refine TM.free (Wants.none rfl) rfl (fun _ => Gets.pickF rfl rfl rfl) ?_
    refine TM.nil ?_
    refine TE.then ?_
    refine TC.sub (Sub.cons (i := 1) rfl (Sub.cons (i := 4) rfl (Sub.cons (i := 7) rfl (Sub.cons (i := 8) rfl (Sub.cons (i := 43) rfl (Sub.nil)))))) ?_
    refine TC.no rfl ?_
    refine TC.skip ?_
    refine TE.then ?_
    refine TC.seq ?_
    refine TC.regionL ?_
    refine TL.call0 (Wants.none rfl) rfl enters9 rfl rfl (v := .bool true) (fun w hs => alive_c w (Nat.lt_of_lt_of_le h1 hs.size) (hIV.keepH hs (by omega) (ne_cons (by show g3 ≠ 0; omega) (ne_cons (by show g2 ≠ 0; omega) (ne_cons (by show g1 ≠ 0; omega) ne_nil)))) (hK.keepH hs h1 (ne_cons (by show g3 ≠ 1; omega) (ne_cons (by show g2 ≠ 1; omega) (ne_cons (by show g1 ≠ 1; omega) ne_nil))))) ?_
    refine TL.gets (Wants.none rfl) rfl (Gets.move rfl rfl) ?_
    refine TL.gets (Wants.yes rfl rfl rfl) rfl (Gets.move rfl rfl) ?_
    refine TL.gets (Wants.yes rfl rfl rfl) rfl (Gets.move rfl rfl) ?_
    refine TL.pass rfl rfl rfl rfl rfl ?_
    refine TL.pass rfl rfl rfl rfl rfl ?_
    refine TL.pass rfl rfl rfl rfl rfl ?_
    refine TL.pass rfl rfl rfl rfl rfl ?_
    refine TL.gets (Wants.yes rfl rfl rfl) rfl (Gets.pickF rfl rfl rfl) ?_
    refine TL.gets (Wants.yes rfl rfl rfl) rfl (Gets.move rfl rfl) ?_
    refine TL.gets (Wants.yes rfl rfl rfl) rfl (Gets.move rfl rfl) ?_
    refine TL.gets (Wants.yes rfl rfl rfl) rfl (Gets.not rfl rfl) ?_
    refine TL.gets (Wants.yes rfl rfl rfl) rfl (Gets.move rfl rfl) ?_
    refine TL.gets (Wants.yes rfl rfl rfl) rfl (Gets.loadN rfl agg24 size24 rfl (vs := (List.replicate 32 (0 : Int)).map (Value.int .u8)) (by simp []) (Row.all (i := 0) (ent := ⟨g3, 24, (List.replicate 32 (0 : Int)).map (Value.int .u8), 32⟩) rfl rfl rfl)) ?_
    refine TL.gets (Wants.yes rfl rfl rfl) rfl (Gets.build rfl (vs := []) rfl (fun w => by kernel_rfl) (v := .agg ((List.replicate 32 (0 : Int)).map (Value.int .u8)).toArray)) ?_
    refine TL.gets (Wants.yes rfl rfl rfl) rfl (Gets.arrSame rfl Tryd.underlying24 Tryd.underlying5 size5 geq24 rfl rfl (by simp)) ?_
    refine TL.gets (Wants.yes rfl rfl rfl) rfl (Gets.pickT rfl rfl rfl) ?_
    refine TL.gets (Wants.yes rfl rfl rfl) rfl (Gets.pickF rfl rfl rfl) ?_
    refine TL.gets (Wants.none rfl) rfl (Gets.pickT rfl rfl rfl) ?_
    refine TL.gets (Wants.none rfl) rfl (Gets.assign rfl rfl) ?_
    refine TL.nil ?_
    refine TE.then ?_
    refine TC.ret ?_
    exact TE.ret1 rfl rfl (fun w hs => ⟨rfl, (((hs.drop (by assumption)).drop (by assumption)).drop (by assumption))⟩)


theorem shaDigits_walk (w : World) (D : List Int) (hDl : D.length = 32) (hD : Bytes D) (s : ByteArray) (hsz : s.size ≤ maxLen) (h1 : 1 < w.heap.size) (hIV : RowI w 0 0 8 .u32 IV) (hK : RowI w 1 0 64 .u32 KT) : Calls Tryd.prog 7 #[.agg (D.map (Value.int .u8)).toArray, .string s] w fun e w' => e = .returned (.bool true) ∧ St w [] w' := by
  have hsz' : s.size ≤ 9223372036854775807 := by unfold maxLen at hsz; omega
  by_cases hr : rightP s
  · exact shaDigitsYes_walk w D hDl hD s hsz' hr h1 hIV hK
  · exact shaDigitsNo_walk w D hDl hD s hsz' hr h1 hIV hK
end Go.Proofs.YtdcphpmkhekghaaDoor
