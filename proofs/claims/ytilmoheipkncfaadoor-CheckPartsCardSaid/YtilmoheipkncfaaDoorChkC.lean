/-
  Equal, Clone, Open, and the reference's Open.
-/
import Derived.Test.YtilmoheipkncfaaDoorChkB
namespace Go.Proofs.YtilmoheipkncfaaDoor
set_option linter.unusedVariables false
set_option linter.unusedSimpArgs false
open Go Go.RowKit
theorem enters14 : Enters Tryd.prog 14 := ⟨_, Tryd.func14, by kernel_rfl, by kernel_rfl⟩
theorem enters23 : Enters Tryd.prog 23 := ⟨_, Tryd.func23, by kernel_rfl, by kernel_rfl⟩
theorem enters24 : Enters Tryd.prog 24 := ⟨_, Tryd.func24, by kernel_rfl, by kernel_rfl⟩

theorem eq_succ {A B : List Int} {i : Nat} (h : ∀ j, j < i → A.getD j 0 = B.getD j 0) (h2 : A.getD i 0 = B.getD i 0) : ∀ j, j < i + 1 → A.getD j 0 = B.getD j 0 := fun j hj => by
  by_cases e : j = i
  · rw [e]; exact h2
  · exact h j (by omega)

set_option maxRecDepth 100000 in
set_option maxHeartbeats 400000 in
theorem sequal_c (PA PB : List Int) (A A2 : Option Addr) (m c m2 c2 : Nat) (w : World) (hsA : Src w A m .u8 PA) (hsB : Src w A2 m2 .u8 PB) (hmc : m ≤ c) (hmc2 : m2 ≤ c2) (hcm : c ≤ 9223372036854775807) (hcm2 : c2 ≤ 9223372036854775807) : Calls Tryd.prog 15 #[.slice A m c, .slice A2 m2 c2] w fun e w' => e = .returned (.bool (decide (PA = PB))) ∧ St w [] w' := by
  refine calls_from (args := [.slice A m c, .slice A2 m2 c2]) Tryd.func15 rfl Tryd.ntmps15 (by simp) ?_
  refine TC.sub (Sub.cons (i := 0) rfl (Sub.cons (i := 1) rfl (Sub.nil))) ?_
  refine TC.seq ?_
  refine TC.regionL ?_
  refine TL.gets (Wants.none rfl) rfl (Gets.assign rfl rfl) ?_
  refine TL.nil ?_
  refine TE.then ?_
  refine TC.seq ?_
  refine TC.seq ?_
  refine TC.regionL ?_
  refine TL.gets (Wants.none rfl) rfl (Gets.move rfl rfl) ?_
  refine TL.gets (Wants.none rfl) rfl (Gets.lenSlice rfl Tryd.underlying24 rfl) ?_
  refine TL.gets (Wants.none rfl) rfl (Gets.move rfl rfl) ?_
  refine TL.gets (Wants.none rfl) rfl (Gets.lenSlice rfl Tryd.underlying24 rfl) ?_
  refine TL.gets (Wants.none rfl) rfl (Gets.neq rfl rfl rfl) ?_
  refine TL.nil ?_
  refine TE.then ?_
  refine TC.split rfl (fun hq0 => ?_) (fun hq0 => ?_)
  · refine TC.seq ?_
    refine TC.regionL ?_
    refine TL.gets (Wants.none rfl) rfl (Gets.assign rfl rfl) ?_
    refine TL.nil ?_
    refine TE.then ?_
    refine TC.ret ?_
    refine TE.thenR ?_
    exact TE.ret1 rfl rfl (fun w hs => ⟨by rw [decide_eq_false (fun he => by have l1 := hsA.1; have l2 := hsB.1; have l3 := congrArg List.length he; have l4 := fun j => congrArg (fun z : List Int => z.getD j 0) he; first | omega | exact absurd (l4 i) hq2)], hs⟩)
  · refine TC.skip ?_
    refine TE.then ?_
    refine TC.seq ?_
    refine TC.seq ?_
    refine TC.regionL ?_
    refine TL.gets (Wants.none rfl) rfl (Gets.move rfl rfl) ?_
    refine TL.gets (Wants.none rfl) rfl (Gets.lenSlice rfl Tryd.underlying24 rfl) ?_
    refine TL.gets (Wants.none rfl) rfl (Gets.move rfl rfl) ?_
    refine TL.nil ?_
    refine TE.then ?_
    refine TC.sub (Sub.cons (i := 0) rfl (Sub.cons (i := 1) rfl (Sub.cons (i := 4) rfl (Sub.cons (i := 12) rfl (Sub.cons (i := 13) rfl (Sub.nil)))))) ?_
    refine TC.block ?_
    refine TC.loop (ι := Nat) (fun i => [(0, .slice A m c), (1, .slice A2 m2 c2), (12, .int .i64 (m : Int)), (13, .int .i64 (i : Int))]) (fun i => []) (fun i => m - i) (fun i => i ≤ m ∧ ∀ j, j < i → PA.getD j 0 = PB.getD j 0) 0 ⟨Nat.zero_le _, fun j hj => absurd hj (Nat.not_lt_zero j)⟩ (Sub.slice (i := 0) rfl rfl (by first | omega | (dsimp only; omega) | rfl) (by first | omega | (dsimp only; omega) | rfl) (Sub.slice (i := 1) rfl rfl (by first | omega | (dsimp only; omega) | rfl) (by first | omega | (dsimp only; omega) | rfl) (Sub.int (i := 12) rfl (by first | omega | rfl) (Sub.int (i := 13) rfl (by first | omega | rfl) (Sub.nil))))) (fun w h => h) (fun i hC0 => ?_)
    obtain ⟨hC0, hC1⟩ := hC0
    refine TC.seq ?_
    refine TC.regionL ?_
    refine TL.gets (Wants.none rfl) rfl (Gets.lss rfl rfl rfl) ?_
    refine TL.nil ?_
    refine TE.then ?_
    refine TC.seq ?_
    refine TC.split rfl (fun hq1 => ?_) (fun hq1 => ?_)
    · obtain ⟨b, off, hA, hb, hr⟩ := hsA.2.resolve_left (by omega)
      obtain ⟨b2, off2, hA2, hb2, hr2⟩ := hsB.2.resolve_left (by omega)
      subst hA; subst hA2
      refine TC.skip ?_
      refine TE.then ?_
      refine TC.seq ?_
      refine TC.block ?_
      refine TC.seq ?_
      refine TC.regionL ?_
      refine TL.gets (Wants.none rfl) rfl (Gets.move rfl rfl) ?_
      refine TL.gets (Wants.none rfl) rfl (Gets.assign rfl rfl) ?_
      refine TL.nil ?_
      refine TE.then ?_
      refine TC.seq ?_
      refine TC.mix (by kernel_rfl) [0, 0, 0, 1, 0, 0, 0, 1, 0] rfl (by kernel_rfl) ?_
      refine TM.free (Wants.none rfl) rfl (fun _ => Gets.move rfl rfl) ?_
      refine TM.free (Wants.none rfl) rfl (fun _ => Gets.move rfl rfl) ?_
      refine TM.free (Wants.none rfl) rfl (fun _ => Gets.idxSlice rfl Tryd.underlying24 size5 rfl rfl (i := i) (by omega) (by omega) (off' := (off + i)) (by omega)) ?_
      refine TM.gets (Wants.none rfl) rfl (Gets.load1 rfl agg5 rfl (At.rowI hr (i := i) (by omega) (by omega) hb ne_nil)) ?_
      refine TM.free (Wants.none rfl) rfl (fun _ => Gets.move rfl rfl) ?_
      refine TM.free (Wants.none rfl) rfl (fun _ => Gets.move rfl rfl) ?_
      refine TM.free (Wants.none rfl) rfl (fun _ => Gets.idxSlice rfl Tryd.underlying24 size5 rfl rfl (i := i) (by omega) (by omega) (off' := (off2 + i)) (by omega)) ?_
      refine TM.gets (Wants.none rfl) rfl (Gets.load1 rfl agg5 rfl (At.rowI hr2 (i := i) (by omega) (by omega) hb2 ne_nil)) ?_
      refine TM.free (Wants.none rfl) rfl (fun _ => Gets.neq rfl rfl rfl) ?_
      refine TM.nil ?_
      refine TE.then ?_
      refine TC.sub (Sub.cons (i := 0) rfl (Sub.cons (i := 1) rfl (Sub.cons (i := 12) rfl (Sub.cons (i := 13) rfl (Sub.cons (i := 24) rfl (Sub.nil)))))) ?_
      refine TC.split rfl (fun hq2 => ?_) (fun hq2 => ?_)
      · refine TC.seq ?_
        refine TC.regionL ?_
        refine TL.gets (Wants.none rfl) rfl (Gets.assign rfl rfl) ?_
        refine TL.nil ?_
        refine TE.then ?_
        refine TC.ret ?_
        refine TE.blockR ?_
        refine TE.thenR ?_
        refine TE.thenR ?_
        refine TE.blockR ?_
        refine TE.thenR ?_
        exact TE.ret1 rfl rfl (fun w hs => ⟨by rw [decide_eq_false (fun he => by have l1 := hsA.1; have l2 := hsB.1; have l3 := congrArg List.length he; have l4 := fun j => congrArg (fun z : List Int => z.getD j 0) he; first | omega | exact absurd (l4 i) hq2)], hs⟩)
      · refine TC.skip ?_
        refine TE.blockN ?_
        refine TE.then ?_
        refine TC.regionL ?_
        refine TL.gets (Wants.none rfl) rfl (Gets.add rfl rfl rfl (r := ((i : Int) + 1)) (w64 (by omega) (by omega))) ?_
        refine TL.gets (Wants.none rfl) rfl (Gets.move rfl rfl) ?_
        refine TL.nil ?_
        exact TE.back (i + 1) (by omega) ⟨by omega, eq_succ hC1 (by omega)⟩ (Sub.slice (i := 0) rfl (by first | rfl | (congr 2; omega)) (by first | omega | (dsimp only; omega) | rfl) (by first | omega | (dsimp only; omega) | rfl) (Sub.slice (i := 1) rfl (by first | rfl | (congr 2; omega)) (by first | omega | (dsimp only; omega) | rfl) (by first | omega | (dsimp only; omega) | rfl) (Sub.int (i := 12) rfl (by first | omega | rfl) (Sub.int (i := 13) rfl (by first | omega | rfl) (Sub.nil))))) (fun w h => h)
    · refine TC.exit ?_
      refine TE.thenX ?_
      refine TE.thenX ?_
      refine TE.blockX ?_
      refine TE.then ?_
      refine TC.seq ?_
      refine TC.regionL ?_
      refine TL.gets (Wants.none rfl) rfl (Gets.assign rfl rfl) ?_
      refine TL.nil ?_
      refine TE.then ?_
      refine TC.ret ?_
      exact TE.ret1 rfl rfl (fun w hs => ⟨by rw [decide_eq_true (list_of_getD (by have := hsA.1; have := hsB.1; omega) (fun j hj => hC1 j (by have := hsA.1; omega)))], hs⟩)

set_option maxRecDepth 100000 in
set_option maxHeartbeats 400000 in
theorem bequal_c (PA PB : List Int) (hBA : Bytes PA) (hBB : Bytes PB) (A A2 : Option Addr) (m c m2 c2 : Nat) (w : World) (hsA : Src w A m .u8 PA) (hsB : Src w A2 m2 .u8 PB) : Calls Tryd.prog 23 #[.slice A m c, .slice A2 m2 c2] w fun e w' => e = .returned (.bool (decide (PA = PB))) ∧ St w [] w' := by
  refine calls_from (args := [.slice A m c, .slice A2 m2 c2]) Tryd.func23 rfl Tryd.ntmps23 (by simp) ?_
  refine TC.sub (Sub.cons (i := 0) rfl (Sub.cons (i := 1) rfl (Sub.nil))) ?_
  refine TC.seq ?_
  refine TC.regionL ?_
  refine TL.gets (Wants.none rfl) rfl (Gets.assign rfl rfl) ?_
  refine TL.nil ?_
  refine TE.then ?_
  refine TC.seq ?_
  refine TC.regionL ?_
  refine TL.gets (Wants.none rfl) rfl (Gets.move rfl rfl) ?_
  refine TL.gets (Wants.none rfl) rfl (Gets.b2s rfl Tryd.underlying24 Tryd.underlying9 Tryd.underlying5 rfl (fun w hs => (hsA.at_ hs (fun b hb => ne_nil)))) ?_
  refine TL.gets (Wants.none rfl) rfl (Gets.move rfl rfl) ?_
  refine TL.gets (Wants.none rfl) rfl (Gets.b2s rfl Tryd.underlying24 Tryd.underlying9 Tryd.underlying5 rfl (fun w hs => (hsB.at_ hs (fun b hb => ne_nil)))) ?_
  refine TL.gets (Wants.none rfl) rfl (Gets.bytesEq rfl rfl rfl hBA hBB) ?_
  refine TL.gets (Wants.none rfl) rfl (Gets.assign rfl rfl) ?_
  refine TL.nil ?_
  refine TE.then ?_
  refine TC.ret ?_
  exact TE.ret1 rfl rfl (fun w hs => ⟨rfl, hs⟩)

set_option maxRecDepth 100000 in
set_option maxHeartbeats 400000 in
theorem bclone_c (M : List Int) (ad : Addr) (m c : Nat) (w : World) (hsM : Src w (some ad) m .u8 M) (hmc : m ≤ c) (hm : m ≤ 1000010) : Calls Tryd.prog 24 #[.slice (some ad) m c] w fun e w' => ∃ g c', e = .returned (.slice (some ⟨g, 0, none⟩) m c') ∧ w.heap.size ≤ g ∧ m ≤ c' ∧ c' ≤ maxLen ∧ St w [⟨g, 5, (M).map (Value.int .u8), c'⟩] w' := by
  refine calls_from (args := [.slice (some ad) m c]) Tryd.func24 rfl Tryd.ntmps24 (by simp) ?_
  refine TC.sub (Sub.cons (i := 0) rfl (Sub.nil)) ?_
  refine TC.seq ?_
  refine TC.regionL ?_
  refine TL.gets (Wants.none rfl) rfl (Gets.assign rfl rfl) ?_
  refine TL.nil ?_
  refine TE.then ?_
  refine TC.seq ?_
  refine TC.seq ?_
  refine TC.regionL ?_
  refine TL.gets (Wants.none rfl) rfl (Gets.move rfl rfl) ?_
  refine TL.gets (Wants.none rfl) rfl (Gets.sliceNil (A := some ad) rfl Tryd.underlying24 rfl rfl) ?_
  refine TL.nil ?_
  refine TE.then ?_
  refine TC.no rfl ?_
  refine TC.skip ?_
  refine TE.then ?_
  refine TC.seq ?_
  refine TC.regionL ?_
  refine TL.emptySlice (Wants.none rfl) rfl rfl Tryd.underlying24 size5 (fun g1 hg1 => ?_)
  refine TL.gets (Wants.none rfl) rfl (Gets.move rfl rfl) ?_
  refine TL.appendOwn (H := []) (He := [⟨g1, 5, ([] : List Int).map (Value.int .u8), 0⟩]) (Wants.none rfl) rfl rfl Tryd.underlying24 mk5 rfl rfl rfl (W := []) (B := M) (.inr ⟨g1, 0, rfl, rfl, hg1, Nat.le_refl _, by unfold maxLen; omega⟩) (fun w hs => hsM.at_ hs (fun b hb => ne_app ne_nil (ne_cons (by show g1 ≠ b; omega) ne_nil))) (by simp only [List.length_nil]; omega) (by simp only [List.length_nil]; omega) (fun vo Ho ho hne => ?_)
  rw [List.nil_append] at ho
  obtain ⟨gs, cs, rfl, rfl, hgs, hcs, hms⟩ := own_some ho (hne (by intro h; cases h))
  have hls := hsM.1
  rw [hls] at hcs ⊢
  refine TL.gets (Wants.none rfl) rfl (Gets.assign rfl rfl) ?_
  refine TL.nil ?_
  refine TE.then ?_
  refine TC.ret ?_
  exact TE.ret1 rfl rfl (fun w hs => ⟨gs, cs, rfl, hgs, hcs, hms, hs⟩)

set_option maxRecDepth 100000 in
set_option maxHeartbeats 400000 in
theorem open_no (P : List Int) (hP : Bytes P) (b off n c : Nat) (w : World) (hsP : Src w (some ⟨b, off, none⟩) (n + 4) .u8 P) (hmc : n + 4 ≤ c) (hcm : c ≤ 9223372036854775807) (hm : n ≤ 1000000) (hlt : (P.take n).length = n) (heq : ¬ (P.drop n = encB (crcV 0#32 (P.take n)))) (h1 : 1 < w.heap.size) (hLO : RowI w 0 0 16 .u32 LOWT) (hHI : RowI w 1 0 16 .u32 HIGHT) : Calls Tryd.prog 16 #[.slice (some ⟨b, off, none⟩) (n + 4) c] w fun e w' => e = .returned (.tuple #[.slice none 0 0, .bool false]) ∧ St w [] w' := by
  refine calls_from (args := [.slice (some ⟨b, off, none⟩) (n + 4) c]) Tryd.func16 rfl Tryd.ntmps16 (by simp) ?_
  refine TC.sub (Sub.cons (i := 0) rfl (Sub.nil)) ?_
  refine TC.seq ?_
  refine TC.regionL ?_
  refine TL.gets (Wants.none rfl) rfl (Gets.assign rfl rfl) ?_
  refine TL.gets (Wants.none rfl) rfl (Gets.assign rfl rfl) ?_
  refine TL.nil ?_
  refine TE.then ?_
  refine TC.seq ?_
  refine TC.regionL ?_
  refine TL.gets (Wants.none rfl) rfl (Gets.move rfl rfl) ?_
  refine TL.gets (Wants.none rfl) rfl (Gets.lenSlice rfl Tryd.underlying24 rfl) ?_
  refine TL.gets (Wants.none rfl) rfl (Gets.sub rfl rfl rfl (r := (n : Int)) (w64 (by omega) (by omega))) ?_
  refine TL.gets (Wants.none rfl) rfl (Gets.assign rfl rfl) ?_
  refine TL.nil ?_
  refine TE.then ?_
  refine TC.seq ?_
  refine TC.seq ?_
  refine TC.regionL ?_
  refine TL.gets (Wants.none rfl) rfl (Gets.move rfl rfl) ?_
  refine TL.gets (Wants.none rfl) rfl (Gets.isFalse (Gets.lss rfl rfl rfl) (by omega)) ?_
  refine TL.nil ?_
  refine TE.then ?_
  refine TC.sub (Sub.cons (i := 0) rfl (Sub.cons (i := 2) rfl (Sub.cons (i := 3) rfl (Sub.cons (i := 4) rfl (Sub.cons (i := 12) rfl (Sub.nil)))))) ?_
  refine TC.no rfl ?_
  refine TC.skip ?_
  refine TE.then ?_
  refine TC.seq ?_
  refine TC.mix (by kernel_rfl) [0, 0, 0, 0, 0, 0, 0, 0, 0, 0, 0, 0, 0] rfl (by kernel_rfl) ?_
  refine TM.free (Wants.none rfl) rfl (fun _ => Gets.move rfl rfl) ?_
  refine TM.free (Wants.none rfl) rfl (fun _ => Gets.move rfl rfl) ?_
  refine TM.free (Wants.none rfl) rfl (fun _ => Gets.move rfl rfl) ?_
  refine TM.free (Wants.none rfl) rfl (fun _ => Gets.sliceS3 rfl Tryd.underlying24 size5 rfl (l := 0) (h := n) (c := n) bnd.dflt (bnd.at_ (l := n) rfl (by omega)) (bnd.at_ (l := n) rfl (by omega)) (by omega) (by omega) (by omega) (cutA_zero _ _ _) (ln := n) (cp := n) (by omega) (by omega)) ?_
  refine TM.free (Wants.none rfl) rfl (fun _ => Gets.move rfl rfl) ?_
  refine TM.free (Wants.none rfl) rfl (fun _ => Gets.move rfl rfl) ?_
  refine TM.free (Wants.none rfl) rfl (fun _ => Gets.move rfl rfl) ?_
  refine TM.free (Wants.none rfl) rfl (fun _ => Gets.lenSlice rfl Tryd.underlying24 rfl) ?_
  refine TM.free (Wants.none rfl) rfl (fun _ => Gets.move rfl rfl) ?_
  refine TM.free (Wants.none rfl) rfl (fun _ => Gets.lenSlice rfl Tryd.underlying24 rfl) ?_
  refine TM.free (Wants.none rfl) rfl (fun _ => Gets.sliceS3 rfl Tryd.underlying24 size5 rfl (l := n) (h := (n + 4)) (c := (n + 4)) (bnd.at_ (l := n) rfl (by omega)) (bnd.at_ (l := (n + 4)) rfl (by omega)) (bnd.at_ (l := (n + 4)) rfl (by omega)) (by omega) (by omega) (by omega) (A' := some ⟨b, (off + n), none⟩) (cut_is (by omega) (by omega)) (ln := 4) (cp := 4) (by omega) (by omega)) ?_
  refine TM.free (Wants.none rfl) rfl (fun _ => Gets.assign rfl rfl) ?_
  refine TM.free (Wants.none rfl) rfl (fun _ => Gets.assign rfl rfl) ?_
  refine TM.nil ?_
  refine TE.then ?_
  refine TC.sub (Sub.cons (i := 2) rfl (Sub.cons (i := 3) rfl (Sub.cons (i := 5) rfl (Sub.cons (i := 6) rfl (Sub.nil))))) ?_
  refine TC.seq ?_
  refine TC.seq ?_
  refine TC.regionL ?_
  refine TL.gets (Wants.none rfl) rfl (Gets.move rfl rfl) ?_
  refine TL.buildSlice (Wants.none rfl) rfl rfl Tryd.underlying22 size24 zero24 rfl (by decide) (by decide) (cells := #[.slice (some ⟨b, off, none⟩) n n]) (tot := 1) (by kernel_rfl) (cs := [.slice (some ⟨b, off, none⟩) n n]) rfl rfl (fun g1 hg1 => ?_)
  refine TL.call0 (Wants.none rfl) rfl enters10 rfl rfl (v := .int .u32 (vI (crcV 0#32 (P.take n)))) (fun w hs => of1_c (P.take n) (some ⟨b, off, none⟩) n n g1 24 1 w (hs.has (⟨g1, 24, [Value.slice (some ⟨b, off, none⟩) n n], 1⟩) (by simp)) (Src.head (hsP.at_ hs (fun b hb => (ne_cons (by show g1 ≠ b; omega) ne_nil))) (by omega)) (by omega) (by omega) (Nat.lt_of_lt_of_le h1 hs.size) (hLO.keepH hs (by omega) (ne_cons (by show g1 ≠ 0; omega) ne_nil)) (hHI.keepH hs h1 (ne_cons (by show g1 ≠ 1; omega) ne_nil))) ?_
  refine TL.call0 (Wants.none rfl) rfl enters22 rfl rfl (v := .agg ((encB (crcV 0#32 (P.take n))).map (Value.int .u8)).toArray) (fun w hs => encode_c (crcV 0#32 (P.take n)) w) ?_
  refine TL.alloc (Wants.none rfl) rfl rfl zero44 (cs := [Value.int .u8 0, Value.int .u8 0, Value.int .u8 0, Value.int .u8 0]) rfl (tot := 4) (by simp) (fun g2 hg2 => ?_)
  refine TL.storeW (Wants.none rfl) rfl rfl size44 rfl (vs := (encB (crcV 0#32 (P.take n))).map (Value.int .u8)) rfl (by simp [(encB_len (crcV 0#32 (P.take n)))]) ints_one (i := 0) (ent := ⟨g2, 44, [Value.int .u8 0, Value.int .u8 0, Value.int .u8 0, Value.int .u8 0], 4⟩) rfl rfl (by simp []) (H' := [⟨g2, 44, (encB (crcV 0#32 (P.take n))).map (Value.int .u8), 4⟩, ⟨g1, 24, [Value.slice (some ⟨b, off, none⟩) n n], 1⟩]) rfl ?_
  refine TL.nil ?_
  refine TE.then ?_
  refine TC.sub (Sub.cons (i := 2) rfl (Sub.cons (i := 3) rfl (Sub.cons (i := 5) rfl (Sub.cons (i := 6) rfl (Sub.cons (i := 7) rfl (Sub.nil)))))) ?_
  refine TC.seq ?_
  refine TC.regionL ?_
  refine TL.gets (Wants.none rfl) rfl (Gets.move rfl rfl) ?_
  refine TL.gets (Wants.none rfl) rfl (Gets.sliceA rfl Tryd.underlying44 size5 rfl bnd.dflt bnd.dflt (by omega) (by omega) (cutA_zero _ _ _) (ln := 4) (cp := 4) (by omega) (by omega)) ?_
  refine TL.call0 (Wants.none rfl) rfl enters23 rfl rfl (v := .bool (decide ((P.drop n) = (encB (crcV 0#32 (P.take n)))))) (fun w hs => bequal_c (P.drop n) (encB (crcV 0#32 (P.take n))) (hP.drop n) (encB_bytes _) (some ⟨b, (off + n), none⟩) (some ⟨g2, 0, none⟩) 4 4 4 4 w (Src.tail (hsP.at_ hs (fun b hb => (ne_cons (by show g2 ≠ b; omega) (ne_cons (by show g1 ≠ b; omega) ne_nil)))) rfl) (src_ent (hs.has (⟨g2, 44, (encB (crcV 0#32 (P.take n))).map (Value.int .u8), 4⟩) (by simp)) (encB_len _))) ?_
  refine TL.gets (Wants.none rfl) rfl (Gets.notP rfl rfl) ?_
  refine TL.nil ?_
  refine TE.then ?_
  refine TC.sub (Sub.cons (i := 2) rfl (Sub.cons (i := 3) rfl (Sub.cons (i := 5) rfl (Sub.cons (i := 31) rfl (Sub.nil))))) ?_
  refine TC.split rfl (fun hq1 => ?_) (fun hq1 => ?_)
  · refine TC.seq ?_
    refine TC.regionL ?_
    refine TL.gets (Wants.none rfl) rfl (Gets.assign rfl rfl) ?_
    refine TL.gets (Wants.none rfl) rfl (Gets.assign rfl rfl) ?_
    refine TL.nil ?_
    refine TE.then ?_
    refine TC.ret ?_
    refine TE.thenR ?_
    exact TE.ret2 rfl rfl rfl (fun w hs => ⟨rfl, ((hs.drop (by assumption)).drop (by assumption))⟩)
  · exact absurd heq hq1

set_option maxRecDepth 100000 in
set_option maxHeartbeats 400000 in
theorem open_yes (P : List Int) (hP : Bytes P) (b off n c : Nat) (w : World) (hsP : Src w (some ⟨b, off, none⟩) (n + 4) .u8 P) (hmc : n + 4 ≤ c) (hcm : c ≤ 9223372036854775807) (hm : n ≤ 1000000) (hlt : (P.take n).length = n) (heq : P.drop n = encB (crcV 0#32 (P.take n))) (h1 : 1 < w.heap.size) (hLO : RowI w 0 0 16 .u32 LOWT) (hHI : RowI w 1 0 16 .u32 HIGHT) : Calls Tryd.prog 16 #[.slice (some ⟨b, off, none⟩) (n + 4) c] w fun e w' => ∃ g c', e = .returned (.tuple #[.slice (some ⟨g, 0, none⟩) n c', .bool true]) ∧ w.heap.size ≤ g ∧ n ≤ c' ∧ c' ≤ maxLen ∧ St w [⟨g, 5, (P.take n).map (Value.int .u8), c'⟩] w' := by
  refine calls_from (args := [.slice (some ⟨b, off, none⟩) (n + 4) c]) Tryd.func16 rfl Tryd.ntmps16 (by simp) ?_
  refine TC.sub (Sub.cons (i := 0) rfl (Sub.nil)) ?_
  refine TC.seq ?_
  refine TC.regionL ?_
  refine TL.gets (Wants.none rfl) rfl (Gets.assign rfl rfl) ?_
  refine TL.gets (Wants.none rfl) rfl (Gets.assign rfl rfl) ?_
  refine TL.nil ?_
  refine TE.then ?_
  refine TC.seq ?_
  refine TC.regionL ?_
  refine TL.gets (Wants.none rfl) rfl (Gets.move rfl rfl) ?_
  refine TL.gets (Wants.none rfl) rfl (Gets.lenSlice rfl Tryd.underlying24 rfl) ?_
  refine TL.gets (Wants.none rfl) rfl (Gets.sub rfl rfl rfl (r := (n : Int)) (w64 (by omega) (by omega))) ?_
  refine TL.gets (Wants.none rfl) rfl (Gets.assign rfl rfl) ?_
  refine TL.nil ?_
  refine TE.then ?_
  refine TC.seq ?_
  refine TC.seq ?_
  refine TC.regionL ?_
  refine TL.gets (Wants.none rfl) rfl (Gets.move rfl rfl) ?_
  refine TL.gets (Wants.none rfl) rfl (Gets.isFalse (Gets.lss rfl rfl rfl) (by omega)) ?_
  refine TL.nil ?_
  refine TE.then ?_
  refine TC.sub (Sub.cons (i := 0) rfl (Sub.cons (i := 2) rfl (Sub.cons (i := 3) rfl (Sub.cons (i := 4) rfl (Sub.cons (i := 12) rfl (Sub.nil)))))) ?_
  refine TC.no rfl ?_
  refine TC.skip ?_
  refine TE.then ?_
  refine TC.seq ?_
  refine TC.mix (by kernel_rfl) [0, 0, 0, 0, 0, 0, 0, 0, 0, 0, 0, 0, 0] rfl (by kernel_rfl) ?_
  refine TM.free (Wants.none rfl) rfl (fun _ => Gets.move rfl rfl) ?_
  refine TM.free (Wants.none rfl) rfl (fun _ => Gets.move rfl rfl) ?_
  refine TM.free (Wants.none rfl) rfl (fun _ => Gets.move rfl rfl) ?_
  refine TM.free (Wants.none rfl) rfl (fun _ => Gets.sliceS3 rfl Tryd.underlying24 size5 rfl (l := 0) (h := n) (c := n) bnd.dflt (bnd.at_ (l := n) rfl (by omega)) (bnd.at_ (l := n) rfl (by omega)) (by omega) (by omega) (by omega) (cutA_zero _ _ _) (ln := n) (cp := n) (by omega) (by omega)) ?_
  refine TM.free (Wants.none rfl) rfl (fun _ => Gets.move rfl rfl) ?_
  refine TM.free (Wants.none rfl) rfl (fun _ => Gets.move rfl rfl) ?_
  refine TM.free (Wants.none rfl) rfl (fun _ => Gets.move rfl rfl) ?_
  refine TM.free (Wants.none rfl) rfl (fun _ => Gets.lenSlice rfl Tryd.underlying24 rfl) ?_
  refine TM.free (Wants.none rfl) rfl (fun _ => Gets.move rfl rfl) ?_
  refine TM.free (Wants.none rfl) rfl (fun _ => Gets.lenSlice rfl Tryd.underlying24 rfl) ?_
  refine TM.free (Wants.none rfl) rfl (fun _ => Gets.sliceS3 rfl Tryd.underlying24 size5 rfl (l := n) (h := (n + 4)) (c := (n + 4)) (bnd.at_ (l := n) rfl (by omega)) (bnd.at_ (l := (n + 4)) rfl (by omega)) (bnd.at_ (l := (n + 4)) rfl (by omega)) (by omega) (by omega) (by omega) (A' := some ⟨b, (off + n), none⟩) (cut_is (by omega) (by omega)) (ln := 4) (cp := 4) (by omega) (by omega)) ?_
  refine TM.free (Wants.none rfl) rfl (fun _ => Gets.assign rfl rfl) ?_
  refine TM.free (Wants.none rfl) rfl (fun _ => Gets.assign rfl rfl) ?_
  refine TM.nil ?_
  refine TE.then ?_
  refine TC.sub (Sub.cons (i := 2) rfl (Sub.cons (i := 3) rfl (Sub.cons (i := 5) rfl (Sub.cons (i := 6) rfl (Sub.nil))))) ?_
  refine TC.seq ?_
  refine TC.seq ?_
  refine TC.regionL ?_
  refine TL.gets (Wants.none rfl) rfl (Gets.move rfl rfl) ?_
  refine TL.buildSlice (Wants.none rfl) rfl rfl Tryd.underlying22 size24 zero24 rfl (by decide) (by decide) (cells := #[.slice (some ⟨b, off, none⟩) n n]) (tot := 1) (by kernel_rfl) (cs := [.slice (some ⟨b, off, none⟩) n n]) rfl rfl (fun g1 hg1 => ?_)
  refine TL.call0 (Wants.none rfl) rfl enters10 rfl rfl (v := .int .u32 (vI (crcV 0#32 (P.take n)))) (fun w hs => of1_c (P.take n) (some ⟨b, off, none⟩) n n g1 24 1 w (hs.has (⟨g1, 24, [Value.slice (some ⟨b, off, none⟩) n n], 1⟩) (by simp)) (Src.head (hsP.at_ hs (fun b hb => (ne_cons (by show g1 ≠ b; omega) ne_nil))) (by omega)) (by omega) (by omega) (Nat.lt_of_lt_of_le h1 hs.size) (hLO.keepH hs (by omega) (ne_cons (by show g1 ≠ 0; omega) ne_nil)) (hHI.keepH hs h1 (ne_cons (by show g1 ≠ 1; omega) ne_nil))) ?_
  refine TL.call0 (Wants.none rfl) rfl enters22 rfl rfl (v := .agg ((encB (crcV 0#32 (P.take n))).map (Value.int .u8)).toArray) (fun w hs => encode_c (crcV 0#32 (P.take n)) w) ?_
  refine TL.alloc (Wants.none rfl) rfl rfl zero44 (cs := [Value.int .u8 0, Value.int .u8 0, Value.int .u8 0, Value.int .u8 0]) rfl (tot := 4) (by simp) (fun g2 hg2 => ?_)
  refine TL.storeW (Wants.none rfl) rfl rfl size44 rfl (vs := (encB (crcV 0#32 (P.take n))).map (Value.int .u8)) rfl (by simp [(encB_len (crcV 0#32 (P.take n)))]) ints_one (i := 0) (ent := ⟨g2, 44, [Value.int .u8 0, Value.int .u8 0, Value.int .u8 0, Value.int .u8 0], 4⟩) rfl rfl (by simp []) (H' := [⟨g2, 44, (encB (crcV 0#32 (P.take n))).map (Value.int .u8), 4⟩, ⟨g1, 24, [Value.slice (some ⟨b, off, none⟩) n n], 1⟩]) rfl ?_
  refine TL.nil ?_
  refine TE.then ?_
  refine TC.sub (Sub.cons (i := 2) rfl (Sub.cons (i := 3) rfl (Sub.cons (i := 5) rfl (Sub.cons (i := 6) rfl (Sub.cons (i := 7) rfl (Sub.nil)))))) ?_
  refine TC.seq ?_
  refine TC.regionL ?_
  refine TL.gets (Wants.none rfl) rfl (Gets.move rfl rfl) ?_
  refine TL.gets (Wants.none rfl) rfl (Gets.sliceA rfl Tryd.underlying44 size5 rfl bnd.dflt bnd.dflt (by omega) (by omega) (cutA_zero _ _ _) (ln := 4) (cp := 4) (by omega) (by omega)) ?_
  refine TL.call0 (Wants.none rfl) rfl enters23 rfl rfl (v := .bool (decide ((P.drop n) = (encB (crcV 0#32 (P.take n)))))) (fun w hs => bequal_c (P.drop n) (encB (crcV 0#32 (P.take n))) (hP.drop n) (encB_bytes _) (some ⟨b, (off + n), none⟩) (some ⟨g2, 0, none⟩) 4 4 4 4 w (Src.tail (hsP.at_ hs (fun b hb => (ne_cons (by show g2 ≠ b; omega) (ne_cons (by show g1 ≠ b; omega) ne_nil)))) rfl) (src_ent (hs.has (⟨g2, 44, (encB (crcV 0#32 (P.take n))).map (Value.int .u8), 4⟩) (by simp)) (encB_len _))) ?_
  refine TL.gets (Wants.none rfl) rfl (Gets.notP rfl rfl) ?_
  refine TL.nil ?_
  refine TE.then ?_
  refine TC.sub (Sub.cons (i := 2) rfl (Sub.cons (i := 3) rfl (Sub.cons (i := 5) rfl (Sub.cons (i := 31) rfl (Sub.nil))))) ?_
  refine TC.split rfl (fun hq1 => ?_) (fun hq1 => ?_)
  · exact absurd heq hq1
  · refine TC.skip ?_
    refine TE.then ?_
    refine TC.seq ?_
    refine TC.regionL ?_
    refine TL.gets (Wants.none rfl) rfl (Gets.move rfl rfl) ?_
    refine TL.call (ι := Nat × Nat) (V := fun yk => .slice (some ⟨yk.1, 0, none⟩) n yk.2) (R := fun yk => (n ≤ yk.2 ∧ yk.2 ≤ maxLen) ∧ w.heap.size ≤ (⟨yk.1, 5, (P.take n).map (Value.int .u8), yk.2⟩ : Ent).g) (H' := fun yk => [⟨yk.1, 5, (P.take n).map (Value.int .u8), yk.2⟩, ⟨g2, 44, (encB (crcV 0#32 (P.take n))).map (Value.int .u8), 4⟩, ⟨g1, 24, [Value.slice (some ⟨b, off, none⟩) n n], 1⟩]) (Wants.none rfl) rfl enters24 rfl rfl (fun w hs => (show Calls Tryd.prog 24 #[.slice (some ⟨b, off, none⟩) n n] w (fun e w' => ∃ yk : Nat × Nat, e = .returned (.slice (some ⟨yk.1, 0, none⟩) n yk.2) ∧ (n ≤ yk.2 ∧ yk.2 ≤ maxLen) ∧ w.heap.size ≤ (⟨yk.1, 5, (P.take n).map (Value.int .u8), yk.2⟩ : Ent).g ∧ St w [⟨yk.1, 5, (P.take n).map (Value.int .u8), yk.2⟩] w') from (bclone_c (P.take n) ⟨b, off, none⟩ n n w (Src.head (hsP.at_ hs (fun b hb => (ne_cons (by show g2 ≠ b; omega) (ne_cons (by show g1 ≠ b; omega) ne_nil)))) (by omega)) (by omega) (by omega)).mono fun e w' ⟨gv, cv, he, hgv, hcv, hmv, hw⟩ => ⟨(gv, cv), he, ⟨hcv, hmv⟩, hgv, hw⟩).mono fun e w' ⟨x, he, hR, hE, hw⟩ => ⟨x, he, ⟨hR, Nat.le_trans hs.size hE⟩, hs.made hw hE⟩) (fun yk ⟨hRk, hEk⟩ => ?_)
    obtain ⟨gk, ck⟩ := yk
    dsimp only at hRk hEk ⊢
    obtain ⟨hck, hmk⟩ := hRk
    unfold maxLen at hmk
    refine TL.gets (Wants.none rfl) rfl (Gets.assign rfl rfl) ?_
    refine TL.gets (Wants.none rfl) rfl (Gets.assign rfl rfl) ?_
    refine TL.nil ?_
    refine TE.then ?_
    refine TC.ret ?_
    exact TE.ret2 rfl rfl rfl (fun w hs => ⟨gk, ck, rfl, hEk, hck, by unfold maxLen; omega, (hs.erase (i := 2) rfl (by assumption)).erase (i := 1) rfl (by assumption)⟩)

set_option maxRecDepth 100000 in
set_option maxHeartbeats 400000 in
theorem open_short (A : Option Addr) (m c : Nat) (w : World) (hm : m < 4) : Calls Tryd.prog 16 #[.slice A m c] w fun e w' => e = .returned (.tuple #[.slice none 0 0, .bool false]) ∧ St w [] w' := by
  refine calls_from (args := [.slice A m c]) Tryd.func16 rfl Tryd.ntmps16 (by simp) ?_
  refine TC.sub (Sub.cons (i := 0) rfl (Sub.nil)) ?_
  refine TC.seq ?_
  refine TC.regionL ?_
  refine TL.gets (Wants.none rfl) rfl (Gets.assign rfl rfl) ?_
  refine TL.gets (Wants.none rfl) rfl (Gets.assign rfl rfl) ?_
  refine TL.nil ?_
  refine TE.then ?_
  refine TC.seq ?_
  refine TC.regionL ?_
  refine TL.gets (Wants.none rfl) rfl (Gets.move rfl rfl) ?_
  refine TL.gets (Wants.none rfl) rfl (Gets.lenSlice rfl Tryd.underlying24 rfl) ?_
  refine TL.gets (Wants.none rfl) rfl (Gets.sub rfl rfl rfl (r := ((m : Int) - 4)) (w64 (by omega) (by omega))) ?_
  refine TL.gets (Wants.none rfl) rfl (Gets.assign rfl rfl) ?_
  refine TL.nil ?_
  refine TE.then ?_
  refine TC.seq ?_
  refine TC.seq ?_
  refine TC.regionL ?_
  refine TL.gets (Wants.none rfl) rfl (Gets.move rfl rfl) ?_
  refine TL.gets (Wants.none rfl) rfl (Gets.isTrue (Gets.lss rfl rfl rfl) (by omega)) ?_
  refine TL.nil ?_
  refine TE.then ?_
  refine TC.sub (Sub.cons (i := 0) rfl (Sub.cons (i := 2) rfl (Sub.cons (i := 3) rfl (Sub.cons (i := 4) rfl (Sub.cons (i := 12) rfl (Sub.nil)))))) ?_
  refine TC.yes rfl ?_
  refine TC.seq ?_
  refine TC.regionL ?_
  refine TL.gets (Wants.none rfl) rfl (Gets.assign rfl rfl) ?_
  refine TL.gets (Wants.none rfl) rfl (Gets.assign rfl rfl) ?_
  refine TL.nil ?_
  refine TE.then ?_
  refine TC.ret ?_
  refine TE.thenR ?_
  exact TE.ret2 rfl rfl rfl (fun w hs => ⟨rfl, hs⟩)

set_option maxRecDepth 100000 in
set_option maxHeartbeats 400000 in
theorem ropen_no (P : List Int) (hP : Bytes P) (b off n c : Nat) (w : World) (hsP : Src w (some ⟨b, off, none⟩) (n + 4) .u8 P) (hmc : n + 4 ≤ c) (hcm : c ≤ 9223372036854775807) (hm : n ≤ 1000000) (hlt : (P.take n).length = n) (heq : ¬ (sealB (P.take n) = P)) : Calls Tryd.prog 17 #[.slice (some ⟨b, off, none⟩) (n + 4) c] w fun e w' => e = .returned (.int .i64 (-1)) ∧ St w [] w' := by
  refine calls_from (args := [.slice (some ⟨b, off, none⟩) (n + 4) c]) Tryd.func17 rfl Tryd.ntmps17 (by simp) ?_
  refine TC.sub (Sub.cons (i := 0) rfl (Sub.nil)) ?_
  refine TC.seq ?_
  refine TC.regionL ?_
  refine TL.gets (Wants.none rfl) rfl (Gets.assign rfl rfl) ?_
  refine TL.nil ?_
  refine TE.then ?_
  refine TC.seq ?_
  refine TC.regionL ?_
  refine TL.gets (Wants.none rfl) rfl (Gets.move rfl rfl) ?_
  refine TL.gets (Wants.none rfl) rfl (Gets.lenSlice rfl Tryd.underlying24 rfl) ?_
  refine TL.gets (Wants.none rfl) rfl (Gets.sub rfl rfl rfl (r := (n : Int)) (w64 (by omega) (by omega))) ?_
  refine TL.gets (Wants.none rfl) rfl (Gets.assign rfl rfl) ?_
  refine TL.nil ?_
  refine TE.then ?_
  refine TC.seq ?_
  refine TC.seq ?_
  refine TC.mixQ (HB := []) (by kernel_rfl) [0, 0, 0, 0, 0, 0, 3, 1, 0, 0, 0, 0] [0, 1, 2, 3, 4, 5, 8, 9, 6, 7, 10, 11] [fun _ _ => True, fun _ _ => True, fun _ _ => True, fun _ _ => True, fun _ _ => True, fun _ _ => True, fun v e => ∃ yr : Nat × Nat, ((n + 4) ≤ yr.2 ∧ yr.2 ≤ maxLen) ∧ v = .slice (some ⟨yr.1, 0, none⟩) (((n + 4))) yr.2 ∧ e = ⟨yr.1, 5, (sealB (P.take n)).map (Value.int .u8), yr.2⟩, fun _ _ => True, fun _ _ => True, fun _ _ => True, fun _ _ => True, fun _ _ => True] (by kernel_rfl) ?_
  refine TQ.free (Wants.none rfl) rfl (fun _ => Gets.move rfl rfl) ?_
  refine TQ.free (Wants.none rfl) rfl (fun _ => Gets.isFalse (Gets.lss rfl rfl rfl) (by omega)) ?_
  refine TQ.free (Wants.none rfl) rfl (fun _ => Gets.move rfl rfl) ?_
  refine TQ.free (Wants.yes rfl rfl rfl) rfl (fun _ => Gets.move rfl rfl) ?_
  refine TQ.free (Wants.yes rfl rfl rfl) rfl (fun _ => Gets.move rfl rfl) ?_
  refine TQ.free (Wants.yes rfl rfl rfl) rfl (fun _ => Gets.sliceS rfl Tryd.underlying24 size5 rfl bnd.dflt (bnd.at_ (l := n) rfl (by omega)) (by omega) (by omega) (cutA_zero _ _ _) (ln := n) (cp := c) (by omega) (by omega)) ?_
  refine TQ.free (Wants.yes rfl rfl rfl) rfl (fun _ => Gets.move rfl rfl) ?_
  refine TQ.stay (Wants.yes rfl rfl rfl) rfl (fun Z hZ => Gets.b2s rfl Tryd.underlying24 Tryd.underlying9 Tryd.underlying5 rfl (fun w hs => hsP.at_ hs (fun b hb => (ne_app ne_nil (hZ.ne hb))))) ?_
  refine TQ.call (ι := Nat × Nat) (V := fun yr => .slice (some ⟨yr.1, 0, none⟩) (((n + 4))) yr.2) (R := fun yr => (n + 4) ≤ yr.2 ∧ yr.2 ≤ maxLen) (E := fun yr => ⟨yr.1, 5, (sealB (P.take n)).map (Value.int .u8), yr.2⟩) (Wants.yes rfl rfl rfl) rfl enters14 rfl rfl (fun Z w hZ hs => (rseal_c (P.take n) (hP.take n) (some ⟨b, off, none⟩) n c w (Src.head (hsP.at_ hs (fun b hb => (ne_app ne_nil (hZ.ne hb)))) (by omega)) (by omega) (by omega) (by omega)).mono fun e w' ⟨gv, cv, he, hgv, hcv, hmv, hw⟩ => ⟨(gv, cv), he, ⟨hcv, hmv⟩, hgv, hw⟩) (fun yr hRr hEr => ?_)
  obtain ⟨gr, cr⟩ := yr
  dsimp only at hRr hEr ⊢
  obtain ⟨hcr, hmr⟩ := hRr
  unfold maxLen at hmr
  refine TQ.gets (Wants.yes rfl rfl rfl) rfl (fun Z hZ => Gets.b2s rfl Tryd.underlying24 Tryd.underlying9 Tryd.underlying5 rfl (fun w hs => src_ent (hs.has (⟨gr, 5, (sealB (P.take n)).map (Value.int .u8), cr⟩) (by simp)) (sealB_len hlt))) ?_
  refine TQ.free (Wants.yes rfl rfl rfl) rfl (fun _ => Gets.isTrue (Gets.bytesNe rfl rfl rfl Tryd.underlying9 (sealB_bytes (hP.take n)) hP) heq) ?_
  refine TQ.free (Wants.none rfl) rfl (fun _ => Gets.pickF rfl rfl rfl) ?_
  refine TQ.nil ?_
  refine TE.then ?_
  refine TC.sub (Sub.cons (i := 2) rfl (Sub.cons (i := 3) rfl (Sub.cons (i := 18) rfl (Sub.nil)))) ?_
  refine TC.yes rfl ?_
  refine TC.seq ?_
  refine TC.regionL ?_
  refine TL.gets (Wants.none rfl) rfl (Gets.assign rfl rfl) ?_
  refine TL.nil ?_
  refine TE.then ?_
  refine TC.ret ?_
  refine TE.thenR ?_
  exact TE.ret1 rfl rfl (fun w hs => ⟨rfl, (hs.drop (by assumption))⟩)

set_option maxRecDepth 100000 in
set_option maxHeartbeats 400000 in
theorem ropen_yes (P : List Int) (hP : Bytes P) (b off n c : Nat) (w : World) (hsP : Src w (some ⟨b, off, none⟩) (n + 4) .u8 P) (hmc : n + 4 ≤ c) (hcm : c ≤ 9223372036854775807) (hm : n ≤ 1000000) (hlt : (P.take n).length = n) (heq : sealB (P.take n) = P) : Calls Tryd.prog 17 #[.slice (some ⟨b, off, none⟩) (n + 4) c] w fun e w' => e = .returned (.int .i64 (n : Int)) ∧ St w [] w' := by
  refine calls_from (args := [.slice (some ⟨b, off, none⟩) (n + 4) c]) Tryd.func17 rfl Tryd.ntmps17 (by simp) ?_
  refine TC.sub (Sub.cons (i := 0) rfl (Sub.nil)) ?_
  refine TC.seq ?_
  refine TC.regionL ?_
  refine TL.gets (Wants.none rfl) rfl (Gets.assign rfl rfl) ?_
  refine TL.nil ?_
  refine TE.then ?_
  refine TC.seq ?_
  refine TC.regionL ?_
  refine TL.gets (Wants.none rfl) rfl (Gets.move rfl rfl) ?_
  refine TL.gets (Wants.none rfl) rfl (Gets.lenSlice rfl Tryd.underlying24 rfl) ?_
  refine TL.gets (Wants.none rfl) rfl (Gets.sub rfl rfl rfl (r := (n : Int)) (w64 (by omega) (by omega))) ?_
  refine TL.gets (Wants.none rfl) rfl (Gets.assign rfl rfl) ?_
  refine TL.nil ?_
  refine TE.then ?_
  refine TC.seq ?_
  refine TC.seq ?_
  refine TC.mixQ (HB := []) (by kernel_rfl) [0, 0, 0, 0, 0, 0, 3, 1, 0, 0, 0, 0] [0, 1, 2, 3, 4, 5, 8, 9, 6, 7, 10, 11] [fun _ _ => True, fun _ _ => True, fun _ _ => True, fun _ _ => True, fun _ _ => True, fun _ _ => True, fun v e => ∃ yr : Nat × Nat, ((n + 4) ≤ yr.2 ∧ yr.2 ≤ maxLen) ∧ v = .slice (some ⟨yr.1, 0, none⟩) (((n + 4))) yr.2 ∧ e = ⟨yr.1, 5, (sealB (P.take n)).map (Value.int .u8), yr.2⟩, fun _ _ => True, fun _ _ => True, fun _ _ => True, fun _ _ => True, fun _ _ => True] (by kernel_rfl) ?_
  refine TQ.free (Wants.none rfl) rfl (fun _ => Gets.move rfl rfl) ?_
  refine TQ.free (Wants.none rfl) rfl (fun _ => Gets.isFalse (Gets.lss rfl rfl rfl) (by omega)) ?_
  refine TQ.free (Wants.none rfl) rfl (fun _ => Gets.move rfl rfl) ?_
  refine TQ.free (Wants.yes rfl rfl rfl) rfl (fun _ => Gets.move rfl rfl) ?_
  refine TQ.free (Wants.yes rfl rfl rfl) rfl (fun _ => Gets.move rfl rfl) ?_
  refine TQ.free (Wants.yes rfl rfl rfl) rfl (fun _ => Gets.sliceS rfl Tryd.underlying24 size5 rfl bnd.dflt (bnd.at_ (l := n) rfl (by omega)) (by omega) (by omega) (cutA_zero _ _ _) (ln := n) (cp := c) (by omega) (by omega)) ?_
  refine TQ.free (Wants.yes rfl rfl rfl) rfl (fun _ => Gets.move rfl rfl) ?_
  refine TQ.stay (Wants.yes rfl rfl rfl) rfl (fun Z hZ => Gets.b2s rfl Tryd.underlying24 Tryd.underlying9 Tryd.underlying5 rfl (fun w hs => hsP.at_ hs (fun b hb => (ne_app ne_nil (hZ.ne hb))))) ?_
  refine TQ.call (ι := Nat × Nat) (V := fun yr => .slice (some ⟨yr.1, 0, none⟩) (((n + 4))) yr.2) (R := fun yr => (n + 4) ≤ yr.2 ∧ yr.2 ≤ maxLen) (E := fun yr => ⟨yr.1, 5, (sealB (P.take n)).map (Value.int .u8), yr.2⟩) (Wants.yes rfl rfl rfl) rfl enters14 rfl rfl (fun Z w hZ hs => (rseal_c (P.take n) (hP.take n) (some ⟨b, off, none⟩) n c w (Src.head (hsP.at_ hs (fun b hb => (ne_app ne_nil (hZ.ne hb)))) (by omega)) (by omega) (by omega) (by omega)).mono fun e w' ⟨gv, cv, he, hgv, hcv, hmv, hw⟩ => ⟨(gv, cv), he, ⟨hcv, hmv⟩, hgv, hw⟩) (fun yr hRr hEr => ?_)
  obtain ⟨gr, cr⟩ := yr
  dsimp only at hRr hEr ⊢
  obtain ⟨hcr, hmr⟩ := hRr
  unfold maxLen at hmr
  refine TQ.gets (Wants.yes rfl rfl rfl) rfl (fun Z hZ => Gets.b2s rfl Tryd.underlying24 Tryd.underlying9 Tryd.underlying5 rfl (fun w hs => src_ent (hs.has (⟨gr, 5, (sealB (P.take n)).map (Value.int .u8), cr⟩) (by simp)) (sealB_len hlt))) ?_
  refine TQ.free (Wants.yes rfl rfl rfl) rfl (fun _ => Gets.isFalse (Gets.bytesNe rfl rfl rfl Tryd.underlying9 (sealB_bytes (hP.take n)) hP) (fun h => h heq)) ?_
  refine TQ.free (Wants.none rfl) rfl (fun _ => Gets.pickF rfl rfl rfl) ?_
  refine TQ.nil ?_
  refine TE.then ?_
  refine TC.sub (Sub.cons (i := 2) rfl (Sub.cons (i := 3) rfl (Sub.cons (i := 18) rfl (Sub.nil)))) ?_
  refine TC.no rfl ?_
  refine TC.skip ?_
  refine TE.then ?_
  refine TC.seq ?_
  refine TC.regionL ?_
  refine TL.gets (Wants.none rfl) rfl (Gets.move rfl rfl) ?_
  refine TL.gets (Wants.none rfl) rfl (Gets.assign rfl rfl) ?_
  refine TL.nil ?_
  refine TE.then ?_
  refine TC.ret ?_
  exact TE.ret1 rfl rfl (fun w hs => ⟨rfl, (hs.drop (by assumption))⟩)

set_option maxRecDepth 100000 in
set_option maxHeartbeats 400000 in
theorem ropen_short (A : Option Addr) (m c : Nat) (w : World) (hm : m < 4) : Calls Tryd.prog 17 #[.slice A m c] w fun e w' => e = .returned (.int .i64 (-1)) ∧ St w [] w' := by
  refine calls_from (args := [.slice A m c]) Tryd.func17 rfl Tryd.ntmps17 (by simp) ?_
  refine TC.sub (Sub.cons (i := 0) rfl (Sub.nil)) ?_
  refine TC.seq ?_
  refine TC.regionL ?_
  refine TL.gets (Wants.none rfl) rfl (Gets.assign rfl rfl) ?_
  refine TL.nil ?_
  refine TE.then ?_
  refine TC.seq ?_
  refine TC.regionL ?_
  refine TL.gets (Wants.none rfl) rfl (Gets.move rfl rfl) ?_
  refine TL.gets (Wants.none rfl) rfl (Gets.lenSlice rfl Tryd.underlying24 rfl) ?_
  refine TL.gets (Wants.none rfl) rfl (Gets.sub rfl rfl rfl (r := ((m : Int) - 4)) (w64 (by omega) (by omega))) ?_
  refine TL.gets (Wants.none rfl) rfl (Gets.assign rfl rfl) ?_
  refine TL.nil ?_
  refine TE.then ?_
  refine TC.seq ?_
  refine TC.seq ?_
  refine TC.mixQ (HB := []) (by kernel_rfl) [0, 0, 0, 0, 0, 0, 0, 0, 0, 0, 0, 0] [0, 1, 2, 3, 4, 5, 6, 7, 8, 9, 10, 11] [fun _ _ => True, fun _ _ => True, fun _ _ => True, fun _ _ => True, fun _ _ => True, fun _ _ => True, fun _ _ => True, fun _ _ => True, fun _ _ => True, fun _ _ => True, fun _ _ => True, fun _ _ => True] (by kernel_rfl) ?_
  refine TQ.free (Wants.none rfl) rfl (fun _ => Gets.move rfl rfl) ?_
  refine TQ.free (Wants.none rfl) rfl (fun _ => Gets.isTrue (Gets.lss rfl rfl rfl) (by omega)) ?_
  refine TQ.free (Wants.none rfl) rfl (fun _ => Gets.move rfl rfl) ?_
  refine TQ.pass rfl rfl rfl rfl rfl ?_
  refine TQ.pass rfl rfl rfl rfl rfl ?_
  refine TQ.pass rfl rfl rfl rfl rfl ?_
  refine TQ.pass rfl rfl rfl rfl rfl ?_
  refine TQ.pass rfl rfl rfl rfl rfl ?_
  refine TQ.pass rfl rfl rfl rfl rfl ?_
  refine TQ.pass rfl rfl rfl rfl rfl ?_
  refine TQ.pass rfl rfl rfl rfl rfl ?_
  refine TQ.free (Wants.none rfl) rfl (fun _ => Gets.pickT rfl rfl rfl) ?_
  refine TQ.nil ?_
  refine TE.then ?_
  refine TC.sub (Sub.cons (i := 2) rfl (Sub.cons (i := 3) rfl (Sub.cons (i := 18) rfl (Sub.nil)))) ?_
  refine TC.yes rfl ?_
  refine TC.seq ?_
  refine TC.regionL ?_
  refine TL.gets (Wants.none rfl) rfl (Gets.assign rfl rfl) ?_
  refine TL.nil ?_
  refine TE.then ?_
  refine TC.ret ?_
  refine TE.thenR ?_
  exact TE.ret1 rfl rfl (fun w hs => ⟨rfl, hs⟩)
end Go.Proofs.YtilmoheipkncfaaDoor
