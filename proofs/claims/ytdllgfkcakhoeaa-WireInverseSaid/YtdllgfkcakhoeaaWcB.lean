/-
  The code of layer 6: Append.
-/
import Derived.Test.YtdllgfkcakhoeaaWcA
import Derived.Test.YtdllgfkcakhoeaaAuto
namespace Go.Proofs.Ytdllgfkcakhoeaa
set_option linter.unusedVariables false
set_option linter.unusedSimpArgs false
open Go Go.RowKit
theorem agg36 : (isAgg 36).run Try.prog = fun w => .ok true w := isAgg_yes Try.underlying36 rfl
theorem enters23 : Enters Try.prog 23 := ⟨_, Try.func23, by kernel_rfl, by kernel_rfl⟩
theorem enters24 : Enters Try.prog 24 := ⟨_, Try.func24, by kernel_rfl, by kernel_rfl⟩
instance : Fld Try.prog 36 0 0 := ⟨⟨_, _, _, Try.underlying36, rfl, size34, rfl⟩⟩
instance : Fld Try.prog 36 1 1 := ⟨⟨_, _, _, Try.underlying36, rfl, size3, rfl⟩⟩
instance : Siz Try.prog 36 2 := ⟨size36⟩
instance : Sli Try.prog 22 5 := ⟨Try.underlying22⟩
instance : Sli Try.prog 25 36 := ⟨Try.underlying25⟩
instance : Zer Try.prog 36 [Value.int .u64 0, Value.int .i64 0] := ⟨⟨_, zero36, rfl⟩⟩
theorem fit_full {Fs : List FV} {i m : Nat} (hl : Fs.length = m) (hi : m ≤ i) (h : fitAll (Fs.take i)) : fitAll Fs := by
  rwa [List.take_of_length_le (by omega)] at h

set_option maxRecDepth 100000 in
set_option maxHeartbeats 1000000 in
theorem wapp_no (B : List Int) (Fs : List FV) (A A2 : Option Addr) (m c m2 c2 : Nat) (w : World) (hsB : Src w A m .u8 B) (hsF : SrcF w A2 m2 Fs) (hN : NumsF Fs) (hmc : m ≤ c) (hcm : c ≤ 9223372036854775807) (hmc2 : m2 ≤ c2) (hcm2 : c2 ≤ 9223372036854775807) (hm : m ≤ 1000000) (hm2 : m2 ≤ 100000) (hf : ¬ fitAll Fs) : Calls Try.prog 9 #[.slice A m c, .slice A2 m2 c2] w fun e w' => ∃ A' c' He, e = .returned (.tuple #[.slice A' 0 c', .bool false]) ∧ (∀ e ∈ He, w.heap.size ≤ e.g) ∧ St w He w' := by
  refine calls_from (args := [.slice A m c, .slice A2 m2 c2]) Try.func9 rfl Try.ntmps9 (by simp) ?_
  refine TC.pr [0, 1] ?_
  iterate 21 refine gx ?_
  refine TC.pr [0, 1, 4, 5, 6, 15, 16, 17] ?_
  refine gx ?_
  refine TC.loop (ι := Nat) (fun i => [(0, .slice A m c), (1, .slice A2 m2 c2), (15, .slice A2 m2 c2), (16, .int .i64 (m2 : Int)), (17, .int .i64 (i : Int)), (6, .int .i64 ((m : Int) + ((encF (Fs.take (i))).length : Int)))]) (fun i => []) (fun i => m2 - i) (fun i => i ≤ m2 ∧ fitAll (Fs.take (i))) 0 ⟨Nat.zero_le _, by rw [List.take_zero]; exact fitAll_nil⟩ (Sub.slice (i := 0) rfl rfl (by first | omega | (dsimp only; omega) | rfl) (by first | omega | (dsimp only; omega) | rfl) (Sub.slice (i := 1) rfl rfl (by first | omega | (dsimp only; omega) | rfl) (by first | omega | (dsimp only; omega) | rfl) (Sub.slice (i := 15) rfl rfl (by first | omega | (dsimp only; omega) | rfl) (by first | omega | (dsimp only; omega) | rfl) (Sub.int (i := 16) rfl (by first | omega | rfl) (Sub.int (i := 17) rfl (by first | omega | rfl) (Sub.int (i := 6) rfl (by rw [List.take_zero]; show (m : Int) = (m : Int) + (([] : List Int).length : Int); simp) (Sub.nil))))))) (fun w h => h) (fun i hC0 => ?_)
  obtain ⟨hi, hfi⟩ := hC0
  have hEl := encF_le hfi
  have hTl : (Fs.take i).length ≤ i := by rw [List.length_take]; omega
  iterate 6 refine gx ?_
  refine TC.split rfl (fun hq0 => ?_) (fun hq0 => ?_)
  · obtain ⟨b, off, hAe, hb, hrw⟩ := hsF.some_ (i := i) (by omega)
    subst hAe
    obtain ⟨x, hx⟩ := hsF.get (i := i) (by omega)
    have hnx := hN i x hx
    unfold NumF at hnx
    iterate 6 refine gx ?_
    refine TL.gets (Wants.none rfl) rfl (Gets.idxSlice rfl Try.underlying25 size36 rfl rfl (i := i) (by omega) (by omega) (off' := (off + 2 * i)) (by omega)) ?_
    refine TL.gets (Wants.none rfl) rfl (Gets.loadN rfl agg36 size36 rfl rfl (Row.old (fun jj u h => hrw i x hx jj u h) hb ne_nil)) ?_
    refine TL.al (fun g1 hg1 => ?_)
    iterate 3 refine gx ?_
    refine TC.pr [0, 1, 6, 8, 15, 16, 17] ?_
    iterate 2 refine gx ?_
    refine TC.mix (by kernel_rfl) [0, 1, 1, 0, 0, 0, 1, 1, 0, 1, 0, 0, 0] rfl (by kernel_rfl) ?_
    iterate 2 refine gx ?_
    by_cases c1 : 1 ≤ x.n ∧ x.n ≤ 8
    · refine TM.call0 (Wants.none rfl) rfl enters23 rfl rfl (v := .bool true) (fun w hs => (vsize_c x.n w).mono fun e w' h => by rw [decide_eq_true (p := 1 ≤ x.n ∧ x.n ≤ 8) c1] at h; exact h) ?_
      iterate 4 refine gx ?_
      refine TM.call0 (Wants.yes rfl rfl rfl) rfl enters24 rfl rfl (v := .int .i64 (lenI x.x)) (fun w hs => len64_i x.x ⟨by omega, by omega⟩ w) ?_
      iterate 2 refine gx ?_
      refine TM.free (Wants.yes rfl rfl rfl) rfl (fun _ => Gets.mul rfl rfl rfl (r := (8 * x.n)) (w64 (by omega) (by omega))) ?_
      iterate 4 refine gx ?_
      refine TC.pr [0, 1, 6, 8, 15, 16, 17, 33] ?_
      refine TC.split rfl (fun h5 => ?_) (fun h5 => ?_)
      · iterate 13 refine gx ?_
        exact TE.ret2 rfl rfl rfl (fun w hs => ⟨none, 0, [], rfl, (by intro e he; cases he), (hs.drop (by assumption))⟩)
      · iterate 6 refine gx ?_
        refine TL.gets (Wants.none rfl) rfl (Gets.add rfl rfl rfl (r := ((m : Int) + ((encF (Fs.take (i))).length : Int) + x.n)) (w64 (by omega) (by omega))) ?_
        iterate 4 refine gx ?_
        refine TC.pr [0, 1, 6, 15, 16, 17] ?_
        refine gx ?_
        refine TL.gets (Wants.none rfl) rfl (Gets.add rfl rfl rfl (r := ((i : Int) + 1)) (w64 (by omega) (by omega))) ?_
        iterate 2 refine gx ?_
        have hfx : fitV x.x x.n := Decidable.byContradiction (fun h => h5 ((len_fit hnx.1 c1).2 h))
        have hE : ((encF (Fs.take (i + 1))).length : Int) = ((encF (Fs.take i)).length : Int) + x.n := by rw [encF_take hx, List.length_append, beV_len]; omega
        exact TE.back (i + 1) (by omega) ⟨by omega, (fitAll_take hx).2 ⟨hfi, hfx⟩⟩ (Sub.slice (i := 0) rfl rfl (by first | omega | (dsimp only; omega) | rfl) (by first | omega | (dsimp only; omega) | rfl) (Sub.slice (i := 1) rfl (by first | rfl | (congr 2; omega)) (by first | omega | (dsimp only; omega) | rfl) (by first | omega | (dsimp only; omega) | rfl) (Sub.slice (i := 15) rfl (by first | rfl | (congr 2; omega)) (by first | omega | (dsimp only; omega) | rfl) (by first | omega | (dsimp only; omega) | rfl) (Sub.int (i := 16) rfl (by first | omega | rfl) (Sub.int (i := 17) rfl (by first | omega | rfl) (Sub.int (i := 6) rfl (by rw [hE]; omega) (Sub.nil))))))) (fun w h => h.drop (by assumption))
    · refine TM.call0 (Wants.none rfl) rfl enters23 rfl rfl (v := .bool false) (fun w hs => (vsize_c x.n w).mono fun e w' h => by rw [decide_eq_false (p := 1 ≤ x.n ∧ x.n ≤ 8) c1] at h; exact h) ?_
      iterate 2 refine gx ?_
      refine TM.pass rfl rfl rfl rfl rfl ?_
      refine TM.pass1 rfl rfl rfl rfl rfl ?_
      refine TM.pass1 rfl rfl rfl rfl rfl ?_
      refine TM.pass rfl rfl rfl rfl rfl ?_
      refine TM.pass1 rfl rfl rfl rfl rfl ?_
      refine TM.pass rfl rfl rfl rfl rfl ?_
      refine TM.pass rfl rfl rfl rfl rfl ?_
      iterate 3 refine gx ?_
      refine TC.pr [0, 1, 6, 8, 15, 16, 17, 33] ?_
      refine TC.yes rfl ?_
      iterate 13 refine gx ?_
      exact TE.ret2 rfl rfl rfl (fun w hs => ⟨none, 0, [], rfl, (by intro e he; cases he), (hs.drop (by assumption))⟩)
  · exact absurd (fit_full hsF.1 (by omega) hfi) hf

set_option maxRecDepth 100000 in
set_option maxHeartbeats 1000000 in
theorem wapp_yes (B : List Int) (Fs : List FV) (A A2 : Option Addr) (m c m2 c2 : Nat) (w : World) (hsB : Src w A m .u8 B) (hsF : SrcF w A2 m2 Fs) (hN : NumsF Fs) (hmc : m ≤ c) (hcm : c ≤ 9223372036854775807) (hmc2 : m2 ≤ c2) (hcm2 : c2 ≤ 9223372036854775807) (hm : m ≤ 1000000) (hm2 : m2 ≤ 100000) (hf : fitAll Fs) : Calls Try.prog 9 #[.slice A m c, .slice A2 m2 c2] w fun e w' => ∃ v He, e = .returned (.tuple #[v, .bool true]) ∧ Own w.heap.size 5 .u8 v (B ++ encF Fs) He ∧ St w He w' := by
  refine calls_from (args := [.slice A m c, .slice A2 m2 c2]) Try.func9 rfl Try.ntmps9 (by simp) ?_
  refine TC.pr [0, 1] ?_
  iterate 21 refine gx ?_
  refine TC.pr [0, 1, 4, 5, 6, 15, 16, 17] ?_
  refine gx ?_
  refine TC.loop (ι := Nat) (fun i => [(0, .slice A m c), (1, .slice A2 m2 c2), (15, .slice A2 m2 c2), (16, .int .i64 (m2 : Int)), (17, .int .i64 (i : Int)), (6, .int .i64 ((m : Int) + ((encF (Fs.take (i))).length : Int)))]) (fun i => []) (fun i => m2 - i) (fun i => i ≤ m2 ∧ fitAll (Fs.take (i))) 0 ⟨Nat.zero_le _, by rw [List.take_zero]; exact fitAll_nil⟩ (Sub.slice (i := 0) rfl rfl (by first | omega | (dsimp only; omega) | rfl) (by first | omega | (dsimp only; omega) | rfl) (Sub.slice (i := 1) rfl rfl (by first | omega | (dsimp only; omega) | rfl) (by first | omega | (dsimp only; omega) | rfl) (Sub.slice (i := 15) rfl rfl (by first | omega | (dsimp only; omega) | rfl) (by first | omega | (dsimp only; omega) | rfl) (Sub.int (i := 16) rfl (by first | omega | rfl) (Sub.int (i := 17) rfl (by first | omega | rfl) (Sub.int (i := 6) rfl (by rw [List.take_zero]; show (m : Int) = (m : Int) + (([] : List Int).length : Int); simp) (Sub.nil))))))) (fun w h => h) (fun i hC0 => ?_)
  obtain ⟨hi, hfi⟩ := hC0
  have hEl := encF_le hfi
  have hTl : (Fs.take i).length ≤ i := by rw [List.length_take]; omega
  iterate 6 refine gx ?_
  refine TC.split rfl (fun hq0 => ?_) (fun hq0 => ?_)
  · obtain ⟨b, off, hAe, hb, hrw⟩ := hsF.some_ (i := i) (by omega)
    subst hAe
    obtain ⟨x, hx⟩ := hsF.get (i := i) (by omega)
    have hnx := hN i x hx
    unfold NumF at hnx
    have hfx := hf x (List.mem_of_getElem? hx)
    have c1 : 1 ≤ x.n ∧ x.n ≤ 8 := by unfold fitV at hfx; exact ⟨hfx.1, hfx.2.1⟩
    iterate 6 refine gx ?_
    refine TL.gets (Wants.none rfl) rfl (Gets.idxSlice rfl Try.underlying25 size36 rfl rfl (i := i) (by omega) (by omega) (off' := (off + 2 * i)) (by omega)) ?_
    refine TL.gets (Wants.none rfl) rfl (Gets.loadN rfl agg36 size36 rfl rfl (Row.old (fun jj u h => hrw i x hx jj u h) hb ne_nil)) ?_
    refine TL.al (fun g1 hg1 => ?_)
    iterate 3 refine gx ?_
    refine TC.pr [0, 1, 6, 8, 15, 16, 17] ?_
    iterate 2 refine gx ?_
    refine TC.mix (by kernel_rfl) [0, 1, 1, 0, 0, 0, 1, 1, 0, 1, 0, 0, 0] rfl (by kernel_rfl) ?_
    iterate 2 refine gx ?_
    refine TM.call0 (Wants.none rfl) rfl enters23 rfl rfl (v := .bool true) (fun w hs => (vsize_c x.n w).mono fun e w' h => by rw [decide_eq_true (p := 1 ≤ x.n ∧ x.n ≤ 8) c1] at h; exact h) ?_
    iterate 4 refine gx ?_
    refine TM.call0 (Wants.yes rfl rfl rfl) rfl enters24 rfl rfl (v := .int .i64 (lenI x.x)) (fun w hs => len64_i x.x ⟨by omega, by omega⟩ w) ?_
    iterate 2 refine gx ?_
    refine TM.free (Wants.yes rfl rfl rfl) rfl (fun _ => Gets.mul rfl rfl rfl (r := (8 * x.n)) (w64 (by omega) (by omega))) ?_
    iterate 4 refine gx ?_
    refine TC.pr [0, 1, 6, 8, 15, 16, 17, 33] ?_
    refine TC.split rfl (fun h5 => ?_) (fun h5 => ?_)
    · exact absurd hfx ((len_fit hnx.1 c1).1 h5)
    · iterate 6 refine gx ?_
      refine TL.gets (Wants.none rfl) rfl (Gets.add rfl rfl rfl (r := ((m : Int) + ((encF (Fs.take (i))).length : Int) + x.n)) (w64 (by omega) (by omega))) ?_
      iterate 4 refine gx ?_
      refine TC.pr [0, 1, 6, 15, 16, 17] ?_
      refine gx ?_
      refine TL.gets (Wants.none rfl) rfl (Gets.add rfl rfl rfl (r := ((i : Int) + 1)) (w64 (by omega) (by omega))) ?_
      iterate 2 refine gx ?_
      have hE : ((encF (Fs.take (i + 1))).length : Int) = ((encF (Fs.take i)).length : Int) + x.n := by rw [encF_take hx, List.length_append, beV_len]; omega
      exact TE.back (i + 1) (by omega) ⟨by omega, (fitAll_take hx).2 ⟨hfi, hfx⟩⟩ (Sub.slice (i := 0) rfl rfl (by first | omega | (dsimp only; omega) | rfl) (by first | omega | (dsimp only; omega) | rfl) (Sub.slice (i := 1) rfl (by first | rfl | (congr 2; omega)) (by first | omega | (dsimp only; omega) | rfl) (by first | omega | (dsimp only; omega) | rfl) (Sub.slice (i := 15) rfl (by first | rfl | (congr 2; omega)) (by first | omega | (dsimp only; omega) | rfl) (by first | omega | (dsimp only; omega) | rfl) (Sub.int (i := 16) rfl (by first | omega | rfl) (Sub.int (i := 17) rfl (by first | omega | rfl) (Sub.int (i := 6) rfl (by rw [hE]; omega) (Sub.nil))))))) (fun w h => h.drop (by assumption))
  · obtain rfl : m2 = i := by omega
    have htk : Fs.take m2 = Fs := List.take_of_length_le (by have := hsF.1; omega)
    rw [htk] at hfi hEl hTl ⊢
    iterate 8 refine gx ?_
    refine TL.makeSlice1 (Wants.none rfl) rfl rfl Try.underlying22 mk5 rfl rfl rfl (ln := 0) (cp := (m + ((encF Fs).length))) rfl (by omega) (by omega) (by omega) (by omega) (fun g2 hg2 => ?_)
    rw [show List.replicate (m + ((encF Fs).length)) (.int .u8 0) = (List.replicate (m + ((encF Fs).length)) 0).map (Value.int .u8) from (List.map_replicate ..).symm]
    refine gx ?_
    refine TL.heap (H' := [] ++ [⟨g2, 5, ([] : List Int).map (Value.int .u8), (m + ((encF Fs).length))⟩]) (fun w h => St.blank h) ?_
    refine TL.appendOwn (H := []) (He := [⟨g2, 5, ([] : List Int).map (Value.int .u8), (m + ((encF Fs).length))⟩]) (Wants.none rfl) rfl rfl Try.underlying22 mk5 rfl rfl rfl (W := []) (B := B) (.inr ⟨g2, (m + ((encF Fs).length)), rfl, rfl, hg2, Nat.zero_le _, by unfold maxLen; omega⟩) (fun w hs => hsB.at_ hs (fun b hb => ne_app ne_nil (ne_cons (by show g2 ≠ b; omega) ne_nil))) (by simp only [List.length_nil]; omega) (by simp only [List.length_nil]; omega) (fun vo Ho ho hne => ?_)
    rw [List.nil_append] at ho
    iterate 3 refine gx ?_
    refine TC.pr [1, 9] ?_
    iterate 9 refine gx ?_
    refine TC.loop (ι := WN) (fun x0 => [(1, .slice A2 m2 c2), (43, .slice A2 m2 c2), (44, .int .i64 (m2 : Int)), (45, .int .i64 (x0.k : Int)), (9, x0.v)]) (fun x0 => [] ++ x0.He) (fun x0 => m2 - x0.k) (fun x0 => Own w.heap.size 5 .u8 x0.v (B ++ encF (Fs.take x0.k)) x0.He ∧ x0.k ≤ m2) (⟨0, vo, Ho⟩ : WN) ⟨by show Own _ _ _ vo (B ++ encF (Fs.take 0)) Ho; rw [List.take_zero]; show Own _ _ _ vo (B ++ []) Ho; rw [List.append_nil]; exact ho, Nat.zero_le _⟩ (Sub.slice (i := 1) rfl rfl (by first | omega | (dsimp only; omega) | rfl) (by first | omega | (dsimp only; omega) | rfl) (Sub.slice (i := 43) rfl rfl (by first | omega | (dsimp only; omega) | rfl) (by first | omega | (dsimp only; omega) | rfl) (Sub.int (i := 44) rfl (by first | omega | rfl) (Sub.int (i := 45) rfl (by first | omega | rfl) (Sub.cons (i := 9) rfl (Sub.nil)))))) (fun w h => h) (fun x0 hC1 => ?_)
    obtain ⟨i, v, He⟩ := x0
    obtain ⟨hown0, hi2⟩ := hC1
    dsimp only at hown0 hi2 ⊢
    have hown := hown0
    have hEi : (encF (Fs.take i)).length ≤ 8 * m2 := by have h1 := encF_le (Fs := Fs.take i) (fun f h => hf f (List.mem_of_mem_take h)); rw [List.length_take] at h1; omega
    iterate 6 refine gx ?_
    refine TC.split rfl (fun hq2 => ?_) (fun hq2 => ?_)
    · obtain ⟨b, off, hAe, hb, hrw⟩ := hsF.some_ (i := i) (by omega)
      subst hAe
      obtain ⟨x, hx⟩ := hsF.get (i := i) (by omega)
      have hnx := hN i x hx
      unfold NumF at hnx
      have hfx := hf x (List.mem_of_getElem? hx)
      have c1 : 1 ≤ x.n ∧ x.n ≤ 8 := by unfold fitV at hfx; exact ⟨hfx.1, hfx.2.1⟩
      iterate 6 refine gx ?_
      refine TL.gets (Wants.none rfl) rfl (Gets.idxSlice rfl Try.underlying25 size36 rfl rfl (i := i) (by omega) (by omega) (off' := (off + 2 * i)) (by omega)) ?_
      refine TL.gets (Wants.none rfl) rfl (Gets.loadN rfl agg36 size36 rfl rfl (Row.old (fun jj u h => hrw i x hx jj u h) hb (ne_app ne_nil (hown.ne hb)))) ?_
      refine TL.al (fun g3 hg3 => ?_)
      refine TL.storeW (Wants.none rfl) rfl rfl size36 rfl (vs := [Value.int .u64 x.x, Value.int .i64 x.n]) rfl (by simp []) (by simp [Value.oneCell']) (i := 0) (ent := ⟨g3, 36, [Value.int .u64 0, Value.int .i64 0], 2⟩) rfl rfl (by simp []) (H' := [⟨g3, 36, [Value.int .u64 x.x, Value.int .i64 x.n], 2⟩] ++ He) rfl ?_
      iterate 2 refine gx ?_
      refine TC.pr [1, 9, 11, 43, 44, 45] ?_
      iterate 4 refine gx ?_
      refine TL.gets (Wants.none rfl) rfl (Gets.sub rfl rfl rfl (r := (x.n - 1)) (w64 (by omega) (by omega))) ?_
      refine TL.gets (Wants.none rfl) rfl (Gets.mul rfl rfl rfl (r := (8 * x.n - 8)) (w64 (by omega) (by omega))) ?_
      iterate 3 refine gx ?_
      refine TC.pr [1, 9, 11, 12, 43, 44, 45] ?_
      refine gx ?_
      refine TC.loop (ι := WN) (fun x1 => [(1, .slice (some ⟨b, off, none⟩) m2 c2), (43, .slice (some ⟨b, off, none⟩) m2 c2), (44, .int .i64 (m2 : Int)), (45, .int .i64 (i : Int)), (11, .pointer (some ⟨g3, 0, none⟩)), (9, x1.v), (12, .int .i64 (8 * x.n - 8 * (x1.k : Int) - 8))]) (fun x1 => [⟨g3, 36, [Value.int .u64 x.x, Value.int .i64 x.n], 2⟩] ++ x1.He) (fun x1 => x.n.toNat - x1.k) (fun x1 => Own w.heap.size 5 .u8 x1.v (B ++ encF (Fs.take i) ++ beP x.x x.n x1.k) x1.He ∧ x1.k ≤ x.n.toNat) (⟨0, v, He⟩ : WN) ⟨by show Own _ _ _ v (B ++ encF (Fs.take i) ++ beP x.x x.n 0) He; rw [beP_zero, List.append_nil]; exact hown0, by show 0 ≤ x.n.toNat; omega⟩ (Sub.slice (i := 1) rfl rfl (by first | omega | (dsimp only; omega) | rfl) (by first | omega | (dsimp only; omega) | rfl) (Sub.slice (i := 43) rfl rfl (by first | omega | (dsimp only; omega) | rfl) (by first | omega | (dsimp only; omega) | rfl) (Sub.int (i := 44) rfl (by first | omega | rfl) (Sub.int (i := 45) rfl (by first | omega | rfl) (Sub.cons (i := 11) rfl (Sub.cons (i := 9) rfl (Sub.int (i := 12) rfl (by show 8 * x.n - 8 = 8 * x.n - 8 * ((0 : Nat) : Int) - 8; omega) (Sub.nil)))))))) (fun w h => h) (fun x1 hC2 => ?_)
      obtain ⟨k, v1, H1⟩ := x1
      obtain ⟨hown, hk⟩ := hC2
      dsimp only at hown hk ⊢
      iterate 7 refine gx ?_
      refine TC.pr [1, 9, 11, 12, 43, 44, 45, 54] ?_
      refine TC.split rfl (fun hq3 => ?_) (fun hq3 => ?_)
      · iterate 9 refine gx ?_
        refine TL.gets (Wants.none rfl) rfl (Gets.shr rfl rfl rfl (by omega) (r := (shrI .u64 x.x (8 * x.n - 8 * (k : Int) - 8))) rfl) ?_
        refine TL.gets (Wants.none rfl) rfl (Gets.conv rfl Try.underlying34 Try.underlying5 rfl (r := (IntKind.u8.wrap (shrI .u64 x.x (8 * x.n - 8 * (k : Int) - 8)))) rfl) ?_
        refine TL.buildSlice (Wants.none rfl) rfl rfl Try.underlying22 size5 zero5 rfl (by decide) (by decide) (cells := #[.int .u8 (IntKind.u8.wrap (shrI .u64 x.x (8 * x.n - 8 * (k : Int) - 8)))]) (tot := 1) (by kernel_rfl) (cs := [.int .u8 (IntKind.u8.wrap (shrI .u64 x.x (8 * x.n - 8 * (k : Int) - 8)))]) rfl rfl (fun g4 hg4 => ?_)
        refine TL.appendOwn (H := [⟨g4, 5, [Value.int .u8 (IntKind.u8.wrap (shrI .u64 x.x (8 * x.n - 8 * (k : Int) - 8)))], 1⟩, ⟨g3, 36, [Value.int .u64 x.x, Value.int .i64 x.n], 2⟩]) (sl := 1) (t := 22) (e := 5) (kd := .u8) (Wants.none rfl) rfl rfl Try.underlying22 mk5 rfl rfl rfl (W := B ++ encF (Fs.take i) ++ beP x.x x.n k) (B := [(IntKind.u8.wrap (shrI .u64 x.x (8 * x.n - 8 * (k : Int) - 8)))]) hown (fun w hs => src_ent (W := [(IntKind.u8.wrap (shrI .u64 x.x (8 * x.n - 8 * (k : Int) - 8)))]) (hs.has ⟨g4, 5, [Value.int .u8 (IntKind.u8.wrap (shrI .u64 x.x (8 * x.n - 8 * (k : Int) - 8)))], 1⟩ (by simp)) rfl) (by have := beP_len x.x x.n k; have hap : (B ++ encF (Fs.take i) ++ beP x.x x.n k).length = B.length + (encF (Fs.take i)).length + (beP x.x x.n k).length := (by rw [List.length_append, List.length_append]); have hBl := hsB.1; omega) (by have := beP_len x.x x.n k; have hap : (B ++ encF (Fs.take i) ++ beP x.x x.n k).length = B.length + (encF (Fs.take i)).length + (beP x.x x.n k).length := (by rw [List.length_append, List.length_append]); have hBl := hsB.1; omega) (fun vo Ho ho hne => ?_)
        iterate 4 refine gx ?_
        refine TC.pr [1, 9, 11, 12, 43, 44, 45] ?_
        iterate 2 refine gx ?_
        refine TL.gets (Wants.none rfl) rfl (Gets.sub rfl rfl rfl (r := (8 * x.n - 8 * (k : Int) - 16)) (w64 (by omega) (by omega))) ?_
        iterate 2 refine gx ?_
        exact TE.back (⟨k + 1, vo, Ho⟩ : WN) (by show x.n.toNat - (k + 1) < x.n.toNat - k; omega) ⟨by show Own _ _ _ vo (B ++ encF (Fs.take i) ++ beP x.x x.n (k + 1)) Ho; rw [beP_succ, ← List.append_assoc]; exact ho, by show k + 1 ≤ x.n.toNat; omega⟩ (Sub.slice (i := 1) rfl rfl (by first | omega | (dsimp only; omega) | rfl) (by first | omega | (dsimp only; omega) | rfl) (Sub.slice (i := 43) rfl rfl (by first | omega | (dsimp only; omega) | rfl) (by first | omega | (dsimp only; omega) | rfl) (Sub.int (i := 44) rfl (by first | omega | rfl) (Sub.int (i := 45) rfl (by first | omega | rfl) (Sub.cons (i := 11) rfl (Sub.cons (i := 9) rfl (Sub.int (i := 12) rfl (by show 8 * x.n - 8 * (k : Int) - 16 = 8 * x.n - 8 * ((k + 1 : Nat) : Int) - 8; omega) (Sub.nil)))))))) (fun w h => h.drop (by assumption))
      · have hkn : k = x.n.toNat := by omega
        iterate 7 refine gx ?_
        refine TL.gets (Wants.none rfl) rfl (Gets.add rfl rfl rfl (r := ((i : Int) + 1)) (w64 (by omega) (by omega))) ?_
        iterate 2 refine gx ?_
        exact TE.back (⟨i + 1, v1, H1⟩ : WN) (by show m2 - (i + 1) < m2 - i; omega) ⟨by show Own _ _ _ v1 (B ++ encF (Fs.take (i + 1))) H1; rw [encF_take hx, ← List.append_assoc, show beV x.x x.n = beP x.x x.n x.n.toNat from rfl, ← hkn]; exact hown, by show i + 1 ≤ m2; omega⟩ (Sub.slice (i := 1) rfl (by first | rfl | (congr 2; omega)) (by first | omega | (dsimp only; omega) | rfl) (by first | omega | (dsimp only; omega) | rfl) (Sub.slice (i := 43) rfl (by first | rfl | (congr 2; omega)) (by first | omega | (dsimp only; omega) | rfl) (by first | omega | (dsimp only; omega) | rfl) (Sub.int (i := 44) rfl (by first | omega | rfl) (Sub.int (i := 45) rfl (by first | omega | rfl) (Sub.cons (i := 9) rfl (Sub.nil)))))) (fun w h => h.drop (by assumption))
    · obtain rfl : m2 = i := by omega
      have htk : Fs.take m2 = Fs := List.take_of_length_le (by have := hsF.1; omega)
      rw [htk] at hown
      iterate 13 refine gx ?_
      exact TE.ret2 rfl rfl rfl (fun w hs => ⟨v, He, rfl, hown, hs⟩)
end Go.Proofs.Ytdllgfkcakhoeaa
