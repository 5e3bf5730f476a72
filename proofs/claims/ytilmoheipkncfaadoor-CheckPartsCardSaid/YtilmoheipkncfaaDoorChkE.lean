/-
  The chapter's examples.
-/
import Derived.Test.YtilmoheipkncfaaDoorChkD
namespace Go.Proofs.YtilmoheipkncfaaDoor
set_option linter.unusedVariables false
set_option linter.unusedSimpArgs false
open Go Go.RowKit
theorem enters13 : Enters Tryd.prog 13 := ⟨_, Tryd.func13, by kernel_rfl, by kernel_rfl⟩
theorem enters16 : Enters Tryd.prog 16 := ⟨_, Tryd.func16, by kernel_rfl, by kernel_rfl⟩

theorem sealB_take {M : List Int} {n : Nat} (h : M.length = n) : (sealB M).take n = M := by
  unfold sealB; rw [← h, List.take_left]
theorem sealB_drop {M : List Int} {n : Nat} (h : M.length = n) : (sealB M).drop n = encB (crcV 0#32 M) := by
  unfold sealB; rw [← h, List.drop_left]
theorem calls_yes {Pr : Program} {f : FuncId} {args : Array Value} {w : World} {p : Prop} [Decidable p] (hp : p) (h : Calls Pr f args w fun e w' => e = .returned (.bool (decide p)) ∧ St w [] w') : Calls Pr f args w fun e w' => e = .returned (.bool true) ∧ St w [] w' := by
  rw [decide_eq_true hp] at h; exact h
theorem open_seal (M : List Int) (hM : Bytes M) (b off n c : Nat) (w : World) (hl : M.length = n) (hsP : Src w (some ⟨b, off, none⟩) (n + 4) .u8 (sealB M)) (hmc : n + 4 ≤ c) (hcm : c ≤ 9223372036854775807) (hm : n ≤ 1000000) (h1 : 1 < w.heap.size) (hLO : RowI w 0 0 16 .u32 LOWT) (hHI : RowI w 1 0 16 .u32 HIGHT) :
    Calls Tryd.prog 16 #[.slice (some ⟨b, off, none⟩) (n + 4) c] w fun e w' => ∃ g c', e = .returned (.tuple #[.slice (some ⟨g, 0, none⟩) n c', .bool true]) ∧ w.heap.size ≤ g ∧ n ≤ c' ∧ c' ≤ maxLen ∧ St w [⟨g, 5, M.map (Value.int .u8), c'⟩] w' := by
  have h := open_yes (sealB M) (sealB_bytes hM) b off n c w hsP hmc hcm hm (by rw [sealB_take hl, hl]) (by rw [sealB_take hl, sealB_drop hl]) h1 hLO hHI
  rw [sealB_take hl] at h
  exact h
theorem crc_check : vI (crcV 0#32 [49, 50, 51, 52, 53, 54, 55, 56, 57]) = 3421780262 := by decide +kernel
theorem crc_none : vI (crcV 0#32 ([] : List (List Int)).flatten) = 0 := by decide +kernel
theorem bytes_ab : Bytes [97, 98] := by unfold Bytes; decide
theorem bytes_no : Bytes [] := fun x hx => by cases hx

set_option maxRecDepth 100000 in
set_option maxHeartbeats 1000000 in
theorem alive_c (w : World) (h1 : 1 < w.heap.size) (hLO : RowI w 0 0 16 .u32 LOWT) (hHI : RowI w 1 0 16 .u32 HIGHT) : Calls Tryd.prog 9 #[] w fun e w' => e = .returned (.bool true) ∧ St w [] w' := by
  refine calls_from (args := []) Tryd.func9 rfl Tryd.ntmps9 (by simp) ?_
  refine TC.sub (Sub.nil) ?_
  refine TC.seq ?_
  refine TC.regionL ?_
  refine TL.gets (Wants.none rfl) rfl (Gets.assign rfl rfl) ?_
  refine TL.nil ?_
  refine TE.then ?_
  refine TC.seq ?_
  refine TC.regionL ?_
  refine TL.buildSlice (Wants.none rfl) rfl rfl Tryd.underlying24 size5 zero5 rfl (by decide) (by decide) (cells := #[.int .u8 97, .int .u8 98]) (tot := 2) (by kernel_rfl) (cs := [.int .u8 97, .int .u8 98]) rfl rfl (fun g1 hg1 => ?_)
  refine TL.mark (Wants.none rfl) rfl rfl Tryd.underlying24 Tryd.underlying5 rfl (i := 0) (ent := ⟨g1, 5, [Value.int .u8 97, Value.int .u8 98], 2⟩) rfl rfl (W := [97, 98]) rfl (by omega) (fun w1 hw1 hrw1 hgw1 => ?_)
  have h1_1 : 1 < w1.heap.size := Nat.lt_of_lt_of_le h1 hw1.size
  have hLO_1 := hLO.keepH hw1 (by omega) ne_nil
  have hHI_1 := hHI.keepH hw1 h1 ne_nil
  have hsr1 : Src w1 (some ⟨g1, 0, none⟩) 2 .u8 [97, 98] := ⟨rfl, .inr ⟨g1, 0, rfl, hgw1, hrw1⟩⟩
  refine TL.call (ι := Nat × Nat) (V := fun ys => .slice (some ⟨ys.1, 0, none⟩) (((2 + 4))) ys.2) (R := fun ys => ((2 + 4) ≤ ys.2 ∧ ys.2 ≤ maxLen) ∧ w1.heap.size ≤ (⟨ys.1, 5, (sealB ([97, 98])).map (Value.int .u8), ys.2⟩ : Ent).g) (H' := fun ys => [⟨ys.1, 5, (sealB ([97, 98])).map (Value.int .u8), ys.2⟩]) (Wants.none rfl) rfl enters13 rfl rfl (fun w hs => (show Calls Tryd.prog 13 #[.slice (some ⟨g1, 0, none⟩) 2 2] w (fun e w' => ∃ ys : Nat × Nat, e = .returned (.slice (some ⟨ys.1, 0, none⟩) (((2 + 4))) ys.2) ∧ ((2 + 4) ≤ ys.2 ∧ ys.2 ≤ maxLen) ∧ w.heap.size ≤ (⟨ys.1, 5, (sealB ([97, 98])).map (Value.int .u8), ys.2⟩ : Ent).g ∧ St w [⟨ys.1, 5, (sealB ([97, 98])).map (Value.int .u8), ys.2⟩] w') from (seal_c ([97, 98]) (some ⟨g1, 0, none⟩) 2 2 w (hsr1.at_ hs (fun b hb => ne_nil)) (by omega) (by omega) (Nat.lt_of_lt_of_le h1_1 hs.size) (hLO_1.keepH hs (by omega) ne_nil) (hHI_1.keepH hs h1_1 ne_nil)).mono fun e w' ⟨gv, cv, he, hgv, hcv, hmv, hw⟩ => ⟨(gv, cv), he, ⟨hcv, hmv⟩, hgv, hw⟩).mono fun e w' ⟨x, he, hR, hE, hw⟩ => ⟨x, he, ⟨hR, Nat.le_trans hs.size hE⟩, hs.made hw hE⟩) (fun ys ⟨hRs, hEs⟩ => ?_)
  obtain ⟨gs, cs⟩ := ys
  dsimp only at hRs hEs ⊢
  obtain ⟨hcs, hms⟩ := hRs
  unfold maxLen at hms
  refine TL.call (ι := Nat × Nat) (V := fun yk => .tuple #[.slice (some ⟨yk.1, 0, none⟩) 2 yk.2, .bool true]) (R := fun yk => (2 ≤ yk.2 ∧ yk.2 ≤ maxLen) ∧ w1.heap.size ≤ (⟨yk.1, 5, ([97, 98]).map (Value.int .u8), yk.2⟩ : Ent).g) (H' := fun yk => [⟨yk.1, 5, ([97, 98]).map (Value.int .u8), yk.2⟩, ⟨gs, 5, (sealB ([97, 98])).map (Value.int .u8), cs⟩]) (Wants.none rfl) rfl enters16 rfl rfl (fun w hs => (show Calls Tryd.prog 16 #[.slice (some ⟨gs, 0, none⟩) (((2 + 4))) cs] w (fun e w' => ∃ yk : Nat × Nat, e = .returned (.tuple #[.slice (some ⟨yk.1, 0, none⟩) 2 yk.2, .bool true]) ∧ (2 ≤ yk.2 ∧ yk.2 ≤ maxLen) ∧ w.heap.size ≤ (⟨yk.1, 5, ([97, 98]).map (Value.int .u8), yk.2⟩ : Ent).g ∧ St w [⟨yk.1, 5, ([97, 98]).map (Value.int .u8), yk.2⟩] w') from (open_seal ([97, 98]) bytes_ab gs 0 2 cs w rfl (src_ent (hs.has (⟨gs, 5, (sealB ([97, 98])).map (Value.int .u8), cs⟩) (by simp)) (sealB_len (m := 2) rfl)) (by omega) (by omega) (by omega) (Nat.lt_of_lt_of_le h1_1 hs.size) (hLO_1.keepH hs (by omega) (ne_cons (by show gs ≠ 0; omega) ne_nil)) (hHI_1.keepH hs h1_1 (ne_cons (by show gs ≠ 1; omega) ne_nil))).mono fun e w' ⟨gv, cv, he, hgv, hcv, hmv, hw⟩ => ⟨(gv, cv), he, ⟨hcv, hmv⟩, hgv, hw⟩).mono fun e w' ⟨x, he, hR, hE, hw⟩ => ⟨x, he, ⟨hR, Nat.le_trans hs.size hE⟩, hs.made hw hE⟩) (fun yk ⟨hRk, hEk⟩ => ?_)
  obtain ⟨gk, ck⟩ := yk
  dsimp only at hRk hEk ⊢
  obtain ⟨hck, hmk⟩ := hRk
  unfold maxLen at hmk
  refine TL.gets (Wants.none rfl) rfl (Gets.move rfl rfl) ?_
  refine TL.gets (Wants.none rfl) rfl (Gets.extract rfl rfl rfl) ?_
  refine TL.gets (Wants.none rfl) rfl (Gets.extract rfl rfl rfl) ?_
  refine TL.gets (Wants.none rfl) rfl (Gets.assign rfl rfl) ?_
  refine TL.gets (Wants.none rfl) rfl (Gets.assign rfl rfl) ?_
  refine TL.nil ?_
  refine TE.then ?_
  refine TC.sub (Sub.cons (i := 0) rfl (Sub.cons (i := 1) rfl (Sub.cons (i := 2) rfl (Sub.nil)))) ?_
  refine TC.seq ?_
  refine TC.regionL ?_
  refine TL.buildSlice (Wants.none rfl) rfl rfl Tryd.underlying24 size5 zero5 rfl (by decide) (by decide) (cells := #[.int .u8 49, .int .u8 50, .int .u8 51, .int .u8 52, .int .u8 53, .int .u8 54, .int .u8 55, .int .u8 56, .int .u8 57]) (tot := 9) (by kernel_rfl) (cs := [.int .u8 49, .int .u8 50, .int .u8 51, .int .u8 52, .int .u8 53, .int .u8 54, .int .u8 55, .int .u8 56, .int .u8 57]) rfl rfl (fun g2 hg2 => ?_)
  refine TL.mark (Wants.none rfl) rfl rfl Tryd.underlying24 Tryd.underlying5 rfl (i := 0) (ent := ⟨g2, 5, [Value.int .u8 49, Value.int .u8 50, Value.int .u8 51, Value.int .u8 52, Value.int .u8 53, Value.int .u8 54, Value.int .u8 55, Value.int .u8 56, Value.int .u8 57], 9⟩) rfl rfl (W := [49, 50, 51, 52, 53, 54, 55, 56, 57]) rfl (by omega) (fun w2 hw2 hrw2 hgw2 => ?_)
  have h1_2 : 1 < w2.heap.size := Nat.lt_of_lt_of_le h1_1 hw2.size
  have hLO_2 := hLO_1.keepH hw2 (by omega) (ne_cons (by show gk ≠ 0; omega) (ne_cons (by show gs ≠ 0; omega) ne_nil))
  have hHI_2 := hHI_1.keepH hw2 h1_1 (ne_cons (by show gk ≠ 1; omega) (ne_cons (by show gs ≠ 1; omega) ne_nil))
  have hsr2 : Src w2 (some ⟨g2, 0, none⟩) 9 .u8 [49, 50, 51, 52, 53, 54, 55, 56, 57] := ⟨rfl, .inr ⟨g2, 0, rfl, hgw2, hrw2⟩⟩
  have hso_gk : Src w2 (some ⟨gk, 0, none⟩) 2 .u8 ([97, 98]) := src_ent (hw2.has ⟨gk, 5, ([97, 98]).map (Value.int .u8), ck⟩ (by simp)) rfl
  have hso_gs : Src w2 (some ⟨gs, 0, none⟩) (2 + 4) .u8 (sealB ([97, 98])) := src_ent (hw2.has ⟨gs, 5, (sealB ([97, 98])).map (Value.int .u8), cs⟩ (by simp)) (sealB_len (m := 2) rfl)
  refine TL.buildSlice (Wants.none rfl) rfl rfl Tryd.underlying22 size24 zero24 rfl (by decide) (by decide) (cells := #[.slice (some ⟨g2, 0, none⟩) 9 9]) (tot := 1) (by kernel_rfl) (cs := [.slice (some ⟨g2, 0, none⟩) 9 9]) rfl rfl (fun g3 hg3 => ?_)
  refine TL.call0 (Wants.none rfl) rfl enters10 rfl rfl (v := .int .u32 (vI (crcV 0#32 ([49, 50, 51, 52, 53, 54, 55, 56, 57])))) (fun w hs => of1_c ([49, 50, 51, 52, 53, 54, 55, 56, 57]) (some ⟨g2, 0, none⟩) 9 9 g3 24 1 w (hs.has (⟨g3, 24, [Value.slice (some ⟨g2, 0, none⟩) 9 9], 1⟩) (by simp)) (hsr2.at_ hs (fun b hb => (ne_cons (by show g3 ≠ b; omega) ne_nil))) (by omega) (by omega) (Nat.lt_of_lt_of_le h1_2 hs.size) (hLO_2.keepH hs (by omega) (ne_cons (by show g3 ≠ 0; omega) ne_nil)) (hHI_2.keepH hs h1_2 (ne_cons (by show g3 ≠ 1; omega) ne_nil))) ?_
  refine TL.gets (Wants.none rfl) rfl (Gets.isTrue (Gets.eql rfl rfl rfl) crc_check) ?_
  refine TL.gets (Wants.none rfl) rfl (Gets.move rfl rfl) ?_
  refine TL.call0 (Wants.yes rfl rfl rfl) rfl enters10 rfl rfl (v := .int .u32 (vI (crcV 0#32 ([] : List (List Int)).flatten))) (fun w hs => of_c [] none 0 0 w ⟨rfl, .inl rfl⟩ (Nat.le_refl _) (by omega) (fun i hi => absurd hi (Nat.not_lt_zero i)) (Nat.lt_of_lt_of_le h1_2 hs.size) (hLO_2.keepH hs (by omega) (ne_cons (by show g3 ≠ 0; omega) ne_nil)) (hHI_2.keepH hs h1_2 (ne_cons (by show g3 ≠ 1; omega) ne_nil))) ?_
  refine TL.gets (Wants.yes rfl rfl rfl) rfl (Gets.isTrue (Gets.eql rfl rfl rfl) crc_none) ?_
  refine TL.gets (Wants.none rfl) rfl (Gets.pickT rfl rfl rfl) ?_
  refine TL.gets (Wants.none rfl) rfl (Gets.move rfl rfl) ?_
  refine TL.gets (Wants.yes rfl rfl rfl) rfl (Gets.move rfl rfl) ?_
  refine TL.gets (Wants.yes rfl rfl rfl) rfl (Gets.b2s rfl Tryd.underlying24 Tryd.underlying9 Tryd.underlying5 rfl (fun w hs => hso_gk.at_ hs (fun b hb => (ne_cons (by show g3 ≠ b; omega) ne_nil)))) ?_
  refine TL.gets (Wants.yes rfl rfl rfl) rfl (Gets.strEq (b := bs [97, 98]) (c := ⟨#[97, 98]⟩) rfl rfl rfl (v := .bool true) (fun w => by rw [show (⟨#[97, 98]⟩ : ByteArray) = bs [97, 98] from by kernel_rfl]; simp [Op.stringOp])) ?_
  refine TL.gets (Wants.none rfl) rfl (Gets.pickT rfl rfl rfl) ?_
  refine TL.gets (Wants.none rfl) rfl (Gets.move rfl rfl) ?_
  refine TL.gets (Wants.yes rfl rfl rfl) rfl (Gets.move rfl rfl) ?_
  refine TL.gets (Wants.none rfl) rfl (Gets.pickT rfl rfl rfl) ?_
  refine TL.gets (Wants.none rfl) rfl (Gets.assign rfl rfl) ?_
  refine TL.nil ?_
  refine TE.then ?_
  refine TC.ret ?_
  exact TE.ret1 rfl rfl (fun w hs => ⟨rfl, St.call' hw1 (((hw2.call' (hs.drop (by assumption))).drop (by assumption)).drop (by assumption))⟩)
end Go.Proofs.YtilmoheipkncfaaDoor
