/-
  CheckOpens: the walk.
-/
import Derived.Test.YtilmoheipkncfaaDoorChkE
namespace Go.Proofs.YtilmoheipkncfaaDoor
set_option linter.unusedVariables false
set_option linter.unusedSimpArgs false
open Go Go.RowKit
theorem enters9 : Enters Tryd.prog 9 := ⟨_, Tryd.func9, by kernel_rfl, by kernel_rfl⟩
theorem enters15 : Enters Tryd.prog 15 := ⟨_, Tryd.func15, by kernel_rfl, by kernel_rfl⟩
theorem enters17 : Enters Tryd.prog 17 := ⟨_, Tryd.func17, by kernel_rfl, by kernel_rfl⟩

theorem seal_iff {P : List Int} {n : Nat} (h : P.drop n = encB (crcV 0#32 (P.take n))) : sealB (P.take n) = P := by
  unfold sealB; rw [← h, List.take_append_drop]
theorem iff_seal {P : List Int} {n : Nat} (hl : (P.take n).length = n) (h : sealB (P.take n) = P) : P.drop n = encB (crcV 0#32 (P.take n)) := by
  have h2 := sealB_drop hl
  rw [h] at h2
  exact h2

set_option maxRecDepth 100000 in
set_option maxHeartbeats 400000 in
theorem checkOpens_yes (P : List Int) (hP : Bytes P) (b off n c : Nat) (w : World) (hsP : Src w (some ⟨b, off, none⟩) (n + 4) .u8 P) (hmc : n + 4 ≤ c) (hcm : c ≤ 9223372036854775807) (hlt : (P.take n).length = n) (hm : n + 4 ≤ 1000) (heq : P.drop n = encB (crcV 0#32 (P.take n))) (h1 : 1 < w.heap.size) (hLO : RowI w 0 0 16 .u32 LOWT) (hHI : RowI w 1 0 16 .u32 HIGHT) : Calls Tryd.prog 5 #[.slice (some ⟨b, off, none⟩) (n + 4) c] w fun e w' => e = .returned (.bool true) ∧ St w [] w' := by
  refine calls_from (args := [.slice (some ⟨b, off, none⟩) (n + 4) c]) Tryd.func5 rfl Tryd.ntmps5 (by simp) ?_
  refine TC.sub (Sub.cons (i := 0) rfl (Sub.nil)) ?_
  refine TC.seq ?_
  refine TC.regionL ?_
  refine TL.gets (Wants.none rfl) rfl (Gets.assign rfl rfl) ?_
  refine TL.nil ?_
  refine TE.then ?_
  refine TC.seq ?_
  refine TC.seq ?_
  refine TC.regionL ?_
  refine TL.gets (Wants.none rfl) rfl (Gets.move rfl rfl) ?_
  refine TL.gets (Wants.none rfl) rfl (Gets.lenSlice rfl Tryd.underlying24 rfl) ?_
  refine TL.gets (Wants.none rfl) rfl (Gets.isFalse (Gets.gtr rfl rfl rfl) (by omega)) ?_
  refine TL.nil ?_
  refine TE.then ?_
  refine TC.no rfl ?_
  refine TC.skip ?_
  refine TE.then ?_
  refine TC.seq ?_
  refine TC.regionL ?_
  refine TL.gets (Wants.none rfl) rfl (Gets.move rfl rfl) ?_
  refine TL.call (ι := Nat × Nat) (V := fun yk => .tuple #[.slice (some ⟨yk.1, 0, none⟩) n yk.2, .bool true]) (R := fun yk => (n ≤ yk.2 ∧ yk.2 ≤ maxLen) ∧ w.heap.size ≤ (⟨yk.1, 5, (P.take n).map (Value.int .u8), yk.2⟩ : Ent).g) (H' := fun yk => [⟨yk.1, 5, (P.take n).map (Value.int .u8), yk.2⟩]) (Wants.none rfl) rfl enters16 rfl rfl (fun w hs => (show Calls Tryd.prog 16 #[.slice (some ⟨b, off, none⟩) (n + 4) c] w (fun e w' => ∃ yk : Nat × Nat, e = .returned (.tuple #[.slice (some ⟨yk.1, 0, none⟩) n yk.2, .bool true]) ∧ (n ≤ yk.2 ∧ yk.2 ≤ maxLen) ∧ w.heap.size ≤ (⟨yk.1, 5, (P.take n).map (Value.int .u8), yk.2⟩ : Ent).g ∧ St w [⟨yk.1, 5, (P.take n).map (Value.int .u8), yk.2⟩] w') from (open_yes P hP b off n c w (hsP.at_ hs (fun b hb => ne_nil)) hmc hcm (by omega) hlt heq (Nat.lt_of_lt_of_le h1 hs.size) (hLO.keepH hs (by omega) ne_nil) (hHI.keepH hs h1 ne_nil)).mono fun e w' ⟨gv, cv, he, hgv, hcv, hmv, hw⟩ => ⟨(gv, cv), he, ⟨hcv, hmv⟩, hgv, hw⟩).mono fun e w' ⟨x, he, hR, hE, hw⟩ => ⟨x, he, ⟨hR, Nat.le_trans hs.size hE⟩, hs.made hw hE⟩) (fun yk ⟨hRk, hEk⟩ => ?_)
  obtain ⟨gk, ck⟩ := yk
  dsimp only at hRk hEk ⊢
  obtain ⟨hck, hmk⟩ := hRk
  unfold maxLen at hmk
  refine TL.gets (Wants.none rfl) rfl (Gets.move rfl rfl) ?_
  refine TL.gets (Wants.none rfl) rfl (Gets.extract rfl rfl rfl) ?_
  refine TL.gets (Wants.none rfl) rfl (Gets.extract rfl rfl rfl) ?_
  refine TL.gets (Wants.none rfl) rfl (Gets.assign rfl rfl) ?_
  refine TL.gets (Wants.none rfl) rfl (Gets.assign rfl rfl) ?_
  refine TL.nil ?_
  refine TE.then ?_
  refine TC.sub (Sub.cons (i := 0) rfl (Sub.cons (i := 2) rfl (Sub.cons (i := 3) rfl (Sub.cons (i := 4) rfl (Sub.nil))))) ?_
  refine TC.seq ?_
  refine TC.regionL ?_
  refine TL.gets (Wants.none rfl) rfl (Gets.move rfl rfl) ?_
  refine TL.call0 (Wants.none rfl) rfl enters17 rfl rfl (v := .int .i64 (n : Int)) (fun w hs => ropen_yes P hP b off n c w (hsP.at_ hs (fun b hb => (ne_cons (by show gk ≠ b; omega) ne_nil))) hmc hcm (by omega) hlt (seal_iff heq)) ?_
  refine TL.gets (Wants.none rfl) rfl (Gets.assign rfl rfl) ?_
  refine TL.nil ?_
  refine TE.then ?_
  refine TC.seq ?_
  refine TC.seq ?_
  refine TC.regionL ?_
  refine TL.gets (Wants.none rfl) rfl (Gets.move rfl rfl) ?_
  refine TL.gets (Wants.none rfl) rfl (Gets.isFalse (Gets.lss rfl rfl rfl) (by omega)) ?_
  refine TL.nil ?_
  refine TE.then ?_
  refine TC.sub (Sub.cons (i := 0) rfl (Sub.cons (i := 2) rfl (Sub.cons (i := 3) rfl (Sub.cons (i := 4) rfl (Sub.cons (i := 5) rfl (Sub.cons (i := 18) rfl (Sub.nil))))))) ?_
  refine TC.no rfl ?_
  refine TC.skip ?_
  refine TE.then ?_
  refine TC.seq ?_
  refine TC.regionL ?_
  refine TL.call0 (Wants.none rfl) rfl enters9 rfl rfl (v := .bool true) (fun w hs => alive_c w (Nat.lt_of_lt_of_le h1 hs.size) (hLO.keepH hs (by omega) (ne_cons (by show gk ≠ 0; omega) ne_nil)) (hHI.keepH hs h1 (ne_cons (by show gk ≠ 1; omega) ne_nil))) ?_
  refine TL.gets (Wants.none rfl) rfl (Gets.move rfl rfl) ?_
  refine TL.gets (Wants.yes rfl rfl rfl) rfl (Gets.move rfl rfl) ?_
  refine TL.gets (Wants.none rfl) rfl (Gets.pickT rfl rfl rfl) ?_
  refine TL.gets (Wants.none rfl) rfl (Gets.move rfl rfl) ?_
  refine TL.gets (Wants.yes rfl rfl rfl) rfl (Gets.move rfl rfl) ?_
  refine TL.gets (Wants.yes rfl rfl rfl) rfl (Gets.move rfl rfl) ?_
  refine TL.gets (Wants.yes rfl rfl rfl) rfl (Gets.move rfl rfl) ?_
  refine TL.gets (Wants.yes rfl rfl rfl) rfl (Gets.sliceS rfl Tryd.underlying24 size5 rfl bnd.dflt (bnd.at_ (l := n) rfl (by omega)) (by omega) (by omega) (cutA_zero _ _ _) (ln := n) (cp := c) (by omega) (by omega)) ?_
  refine TL.call0 (Wants.yes rfl rfl rfl) rfl enters15 rfl rfl (v := .bool true) (fun w hs => calls_yes rfl (sequal_c (P.take n) (P.take n) (some ⟨gk, 0, none⟩) (some ⟨b, off, none⟩) n ck n c w (src_ent (hs.has (⟨gk, 5, (P.take n).map (Value.int .u8), ck⟩) (by simp)) hlt) (Src.head (hsP.at_ hs (fun b hb => (ne_cons (by show gk ≠ b; omega) ne_nil))) (by omega)) (by omega) (by omega) (by omega) (by omega))) ?_
  refine TL.gets (Wants.none rfl) rfl (Gets.pickT rfl rfl rfl) ?_
  refine TL.gets (Wants.none rfl) rfl (Gets.assign rfl rfl) ?_
  refine TL.nil ?_
  refine TE.then ?_
  refine TC.ret ?_
  exact TE.ret1 rfl rfl (fun w hs => ⟨rfl, (hs.drop (by assumption))⟩)

set_option maxRecDepth 100000 in
set_option maxHeartbeats 400000 in
theorem checkOpens_no (P : List Int) (hP : Bytes P) (b off n c : Nat) (w : World) (hsP : Src w (some ⟨b, off, none⟩) (n + 4) .u8 P) (hmc : n + 4 ≤ c) (hcm : c ≤ 9223372036854775807) (hlt : (P.take n).length = n) (hm : n + 4 ≤ 1000) (heq : ¬ (P.drop n = encB (crcV 0#32 (P.take n)))) (h1 : 1 < w.heap.size) (hLO : RowI w 0 0 16 .u32 LOWT) (hHI : RowI w 1 0 16 .u32 HIGHT) : Calls Tryd.prog 5 #[.slice (some ⟨b, off, none⟩) (n + 4) c] w fun e w' => e = .returned (.bool true) ∧ St w [] w' := by
  refine calls_from (args := [.slice (some ⟨b, off, none⟩) (n + 4) c]) Tryd.func5 rfl Tryd.ntmps5 (by simp) ?_
  refine TC.sub (Sub.cons (i := 0) rfl (Sub.nil)) ?_
  refine TC.seq ?_
  refine TC.regionL ?_
  refine TL.gets (Wants.none rfl) rfl (Gets.assign rfl rfl) ?_
  refine TL.nil ?_
  refine TE.then ?_
  refine TC.seq ?_
  refine TC.seq ?_
  refine TC.regionL ?_
  refine TL.gets (Wants.none rfl) rfl (Gets.move rfl rfl) ?_
  refine TL.gets (Wants.none rfl) rfl (Gets.lenSlice rfl Tryd.underlying24 rfl) ?_
  refine TL.gets (Wants.none rfl) rfl (Gets.isFalse (Gets.gtr rfl rfl rfl) (by omega)) ?_
  refine TL.nil ?_
  refine TE.then ?_
  refine TC.no rfl ?_
  refine TC.skip ?_
  refine TE.then ?_
  refine TC.seq ?_
  refine TC.regionL ?_
  refine TL.gets (Wants.none rfl) rfl (Gets.move rfl rfl) ?_
  refine TL.call0 (Wants.none rfl) rfl enters16 rfl rfl (v := .tuple #[.slice none 0 0, .bool false]) (fun w hs => open_no P hP b off n c w (hsP.at_ hs (fun b hb => ne_nil)) hmc hcm (by omega) hlt heq (Nat.lt_of_lt_of_le h1 hs.size) (hLO.keepH hs (by omega) ne_nil) (hHI.keepH hs h1 ne_nil)) ?_
  refine TL.gets (Wants.none rfl) rfl (Gets.move rfl rfl) ?_
  refine TL.gets (Wants.none rfl) rfl (Gets.extract rfl rfl rfl) ?_
  refine TL.gets (Wants.none rfl) rfl (Gets.extract rfl rfl rfl) ?_
  refine TL.gets (Wants.none rfl) rfl (Gets.assign rfl rfl) ?_
  refine TL.gets (Wants.none rfl) rfl (Gets.assign rfl rfl) ?_
  refine TL.nil ?_
  refine TE.then ?_
  refine TC.sub (Sub.cons (i := 0) rfl (Sub.cons (i := 2) rfl (Sub.cons (i := 3) rfl (Sub.cons (i := 4) rfl (Sub.nil))))) ?_
  refine TC.seq ?_
  refine TC.regionL ?_
  refine TL.gets (Wants.none rfl) rfl (Gets.move rfl rfl) ?_
  refine TL.call0 (Wants.none rfl) rfl enters17 rfl rfl (v := .int .i64 (-1)) (fun w hs => ropen_no P hP b off n c w (hsP.at_ hs (fun b hb => ne_nil)) hmc hcm (by omega) hlt (fun h => heq (iff_seal hlt h))) ?_
  refine TL.gets (Wants.none rfl) rfl (Gets.assign rfl rfl) ?_
  refine TL.nil ?_
  refine TE.then ?_
  refine TC.seq ?_
  refine TC.seq ?_
  refine TC.regionL ?_
  refine TL.gets (Wants.none rfl) rfl (Gets.move rfl rfl) ?_
  refine TL.gets (Wants.none rfl) rfl (Gets.isTrue (Gets.lss rfl rfl rfl) (by omega)) ?_
  refine TL.nil ?_
  refine TE.then ?_
  refine TC.sub (Sub.cons (i := 0) rfl (Sub.cons (i := 2) rfl (Sub.cons (i := 3) rfl (Sub.cons (i := 4) rfl (Sub.cons (i := 5) rfl (Sub.cons (i := 18) rfl (Sub.nil))))))) ?_
  refine TC.yes rfl ?_
  refine TC.seq ?_
  refine TC.regionL ?_
  refine TL.call0 (Wants.none rfl) rfl enters9 rfl rfl (v := .bool true) (fun w hs => alive_c w (Nat.lt_of_lt_of_le h1 hs.size) (hLO.keepH hs (by omega) ne_nil) (hHI.keepH hs h1 ne_nil)) ?_
  refine TL.gets (Wants.none rfl) rfl (Gets.move rfl rfl) ?_
  refine TL.gets (Wants.yes rfl rfl rfl) rfl (Gets.move rfl rfl) ?_
  refine TL.gets (Wants.yes rfl rfl rfl) rfl (Gets.not rfl rfl) ?_
  refine TL.gets (Wants.none rfl) rfl (Gets.pickT rfl rfl rfl) ?_
  refine TL.gets (Wants.none rfl) rfl (Gets.move rfl rfl) ?_
  refine TL.gets (Wants.yes rfl rfl rfl) rfl (Gets.move rfl rfl) ?_
  refine TL.gets (Wants.yes rfl rfl rfl) rfl (Gets.lenSlice rfl Tryd.underlying24 rfl) ?_
  refine TL.gets (Wants.yes rfl rfl rfl) rfl (Gets.isTrue (Gets.eql rfl rfl rfl) rfl) ?_
  refine TL.gets (Wants.none rfl) rfl (Gets.pickT rfl rfl rfl) ?_
  refine TL.gets (Wants.none rfl) rfl (Gets.assign rfl rfl) ?_
  refine TL.nil ?_
  refine TE.then ?_
  refine TC.ret ?_
  refine TE.thenR ?_
  exact TE.ret1 rfl rfl (fun w hs => ⟨rfl, hs⟩)

set_option maxRecDepth 100000 in
set_option maxHeartbeats 400000 in
theorem checkOpens_short (A : Option Addr) (m c : Nat) (w : World) (hm : m < 4) (h1 : 1 < w.heap.size) (hLO : RowI w 0 0 16 .u32 LOWT) (hHI : RowI w 1 0 16 .u32 HIGHT) : Calls Tryd.prog 5 #[.slice A m c] w fun e w' => e = .returned (.bool true) ∧ St w [] w' := by
  refine calls_from (args := [.slice A m c]) Tryd.func5 rfl Tryd.ntmps5 (by simp) ?_
  refine TC.sub (Sub.cons (i := 0) rfl (Sub.nil)) ?_
  refine TC.seq ?_
  refine TC.regionL ?_
  refine TL.gets (Wants.none rfl) rfl (Gets.assign rfl rfl) ?_
  refine TL.nil ?_
  refine TE.then ?_
  refine TC.seq ?_
  refine TC.seq ?_
  refine TC.regionL ?_
  refine TL.gets (Wants.none rfl) rfl (Gets.move rfl rfl) ?_
  refine TL.gets (Wants.none rfl) rfl (Gets.lenSlice rfl Tryd.underlying24 rfl) ?_
  refine TL.gets (Wants.none rfl) rfl (Gets.isFalse (Gets.gtr rfl rfl rfl) (by omega)) ?_
  refine TL.nil ?_
  refine TE.then ?_
  refine TC.no rfl ?_
  refine TC.skip ?_
  refine TE.then ?_
  refine TC.seq ?_
  refine TC.regionL ?_
  refine TL.gets (Wants.none rfl) rfl (Gets.move rfl rfl) ?_
  refine TL.call0 (Wants.none rfl) rfl enters16 rfl rfl (v := .tuple #[.slice none 0 0, .bool false]) (fun w hs => open_short A m c w hm) ?_
  refine TL.gets (Wants.none rfl) rfl (Gets.move rfl rfl) ?_
  refine TL.gets (Wants.none rfl) rfl (Gets.extract rfl rfl rfl) ?_
  refine TL.gets (Wants.none rfl) rfl (Gets.extract rfl rfl rfl) ?_
  refine TL.gets (Wants.none rfl) rfl (Gets.assign rfl rfl) ?_
  refine TL.gets (Wants.none rfl) rfl (Gets.assign rfl rfl) ?_
  refine TL.nil ?_
  refine TE.then ?_
  refine TC.sub (Sub.cons (i := 0) rfl (Sub.cons (i := 2) rfl (Sub.cons (i := 3) rfl (Sub.cons (i := 4) rfl (Sub.nil))))) ?_
  refine TC.seq ?_
  refine TC.regionL ?_
  refine TL.gets (Wants.none rfl) rfl (Gets.move rfl rfl) ?_
  refine TL.call0 (Wants.none rfl) rfl enters17 rfl rfl (v := .int .i64 (-1)) (fun w hs => ropen_short A m c w hm) ?_
  refine TL.gets (Wants.none rfl) rfl (Gets.assign rfl rfl) ?_
  refine TL.nil ?_
  refine TE.then ?_
  refine TC.seq ?_
  refine TC.seq ?_
  refine TC.regionL ?_
  refine TL.gets (Wants.none rfl) rfl (Gets.move rfl rfl) ?_
  refine TL.gets (Wants.none rfl) rfl (Gets.isTrue (Gets.lss rfl rfl rfl) (by omega)) ?_
  refine TL.nil ?_
  refine TE.then ?_
  refine TC.sub (Sub.cons (i := 0) rfl (Sub.cons (i := 2) rfl (Sub.cons (i := 3) rfl (Sub.cons (i := 4) rfl (Sub.cons (i := 5) rfl (Sub.cons (i := 18) rfl (Sub.nil))))))) ?_
  refine TC.yes rfl ?_
  refine TC.seq ?_
  refine TC.regionL ?_
  refine TL.call0 (Wants.none rfl) rfl enters9 rfl rfl (v := .bool true) (fun w hs => alive_c w (Nat.lt_of_lt_of_le h1 hs.size) (hLO.keepH hs (by omega) ne_nil) (hHI.keepH hs h1 ne_nil)) ?_
  refine TL.gets (Wants.none rfl) rfl (Gets.move rfl rfl) ?_
  refine TL.gets (Wants.yes rfl rfl rfl) rfl (Gets.move rfl rfl) ?_
  refine TL.gets (Wants.yes rfl rfl rfl) rfl (Gets.not rfl rfl) ?_
  refine TL.gets (Wants.none rfl) rfl (Gets.pickT rfl rfl rfl) ?_
  refine TL.gets (Wants.none rfl) rfl (Gets.move rfl rfl) ?_
  refine TL.gets (Wants.yes rfl rfl rfl) rfl (Gets.move rfl rfl) ?_
  refine TL.gets (Wants.yes rfl rfl rfl) rfl (Gets.lenSlice rfl Tryd.underlying24 rfl) ?_
  refine TL.gets (Wants.yes rfl rfl rfl) rfl (Gets.isTrue (Gets.eql rfl rfl rfl) rfl) ?_
  refine TL.gets (Wants.none rfl) rfl (Gets.pickT rfl rfl rfl) ?_
  refine TL.gets (Wants.none rfl) rfl (Gets.assign rfl rfl) ?_
  refine TL.nil ?_
  refine TE.then ?_
  refine TC.ret ?_
  refine TE.thenR ?_
  exact TE.ret1 rfl rfl (fun w hs => ⟨rfl, hs⟩)

set_option maxRecDepth 100000 in
set_option maxHeartbeats 400000 in
theorem checkOpens_big (A : Option Addr) (m c : Nat) (w : World) (hm : 1000 < m) (h1 : 1 < w.heap.size) (hLO : RowI w 0 0 16 .u32 LOWT) (hHI : RowI w 1 0 16 .u32 HIGHT) : Calls Tryd.prog 5 #[.slice A m c] w fun e w' => e = .returned (.bool true) ∧ St w [] w' := by
  refine calls_from (args := [.slice A m c]) Tryd.func5 rfl Tryd.ntmps5 (by simp) ?_
  refine TC.sub (Sub.cons (i := 0) rfl (Sub.nil)) ?_
  refine TC.seq ?_
  refine TC.regionL ?_
  refine TL.gets (Wants.none rfl) rfl (Gets.assign rfl rfl) ?_
  refine TL.nil ?_
  refine TE.then ?_
  refine TC.seq ?_
  refine TC.seq ?_
  refine TC.regionL ?_
  refine TL.gets (Wants.none rfl) rfl (Gets.move rfl rfl) ?_
  refine TL.gets (Wants.none rfl) rfl (Gets.lenSlice rfl Tryd.underlying24 rfl) ?_
  refine TL.gets (Wants.none rfl) rfl (Gets.isTrue (Gets.gtr rfl rfl rfl) (by omega)) ?_
  refine TL.nil ?_
  refine TE.then ?_
  refine TC.yes rfl ?_
  refine TC.seq ?_
  refine TC.regionL ?_
  refine TL.call0 (Wants.none rfl) rfl enters9 rfl rfl (v := .bool true) (fun w hs => alive_c w (Nat.lt_of_lt_of_le h1 hs.size) (hLO.keepH hs (by omega) ne_nil) (hHI.keepH hs h1 ne_nil)) ?_
  refine TL.gets (Wants.none rfl) rfl (Gets.assign rfl rfl) ?_
  refine TL.nil ?_
  refine TE.then ?_
  refine TC.ret ?_
  refine TE.thenR ?_
  exact TE.ret1 rfl rfl (fun w hs => ⟨rfl, hs⟩)


theorem checkOpens_walk (w : World) (P : List Int) (A : Option Addr) (m c : Nat) (hs : Src w A m .u8 P) (hl : m ≤ c) (hm : c ≤ 9223372036854775807) (hP : Bytes P) (h1 : 1 < w.heap.size) (hLO : RowI w 0 0 16 .u32 LOWT) (hHI : RowI w 1 0 16 .u32 HIGHT) : Calls Tryd.prog 5 #[.slice A m c] w fun e w' => e = .returned (.bool true) ∧ St w [] w' := by
  by_cases hb : 1000 < m
  · exact checkOpens_big A m c w hb h1 hLO hHI
  by_cases h4 : m < 4
  · exact checkOpens_short A m c w h4 h1 hLO hHI
  obtain ⟨n, rfl⟩ : ∃ n, m = n + 4 := ⟨m - 4, by omega⟩
  obtain ⟨b, off, rfl, hb2, hr⟩ := hs.2.resolve_left (by omega)
  have hlt : (P.take n).length = n := by rw [List.length_take, hs.1]; omega
  by_cases heq : P.drop n = encB (crcV 0#32 (P.take n))
  · exact checkOpens_yes P hP b off n c w hs hl hm hlt (by omega) heq h1 hLO hHI
  · exact checkOpens_no P hP b off n c w hs hl hm hlt (by omega) heq h1 hLO hHI
end Go.Proofs.YtilmoheipkncfaaDoor
