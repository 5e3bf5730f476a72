/-
  CheckSeals: the walk.
-/
import Derived.Test.YtilmoheipkncfaaDoorChkF
namespace Go.Proofs.YtilmoheipkncfaaDoor
set_option linter.unusedVariables false
set_option linter.unusedSimpArgs false
open Go Go.RowKit


def bump (W : List Int) : Nat → List Int
  | 0 => W
  | k + 1 => (bump W k).set k (addW .u8 ((bump W k).getD k 0) 1)
theorem bump_len (W : List Int) {n : Nat} (h : W.length = n) : ∀ k, (bump W k).length = n
  | 0 => h
  | k + 1 => by simp [bump, bump_len W h k]

set_option maxRecDepth 100000 in
set_option maxHeartbeats 1000000 in
theorem checkSeals_small (P : List Int) (hP : Bytes P) (A : Option Addr) (m c : Nat) (w : World) (hsP : Src w A m .u8 P) (hmc : m ≤ c) (hcm : c ≤ 9223372036854775807) (hm : m ≤ 1000) (h1 : 1 < w.heap.size) (hLO : RowI w 0 0 16 .u32 LOWT) (hHI : RowI w 1 0 16 .u32 HIGHT) : Calls Tryd.prog 4 #[.slice A m c] w fun e w' => e = .returned (.bool true) ∧ St w [] w' := by
  refine calls_from (args := [.slice A m c]) Tryd.func4 rfl Tryd.ntmps4 (by simp) ?_
  refine TC.sub (Sub.cons (i := 0) rfl (Sub.nil)) ?_
  refine TC.seq ?_
  refine TC.regionL ?_
  refine TL.gets (Wants.none rfl) rfl (Gets.assign rfl rfl) ?_
  refine TL.nil ?_
  refine TE.then ?_
  refine TC.seq ?_
  refine TC.seq ?_
  refine TC.regionL ?_
  refine TL.gets (Wants.none rfl) rfl (Gets.move rfl rfl) ?_
  refine TL.gets (Wants.none rfl) rfl (Gets.lenSlice rfl Tryd.underlying24 rfl) ?_
  refine TL.gets (Wants.none rfl) rfl (Gets.isFalse (Gets.gtr rfl rfl rfl) (by omega)) ?_
  refine TL.nil ?_
  refine TE.then ?_
  refine TC.no rfl ?_
  refine TC.skip ?_
  refine TE.then ?_
  refine TC.seq ?_
  refine TC.regionL ?_
  refine TL.emptySlice (Wants.none rfl) rfl rfl Tryd.underlying24 size5 (fun g1 hg1 => ?_)
  refine TL.gets (Wants.none rfl) rfl (Gets.move rfl rfl) ?_
  refine TL.appendOwn (H := []) (He := [⟨g1, 5, ([] : List Int).map (Value.int .u8), 0⟩]) (Wants.none rfl) rfl rfl Tryd.underlying24 mk5 rfl rfl rfl (W := []) (B := P) (.inr ⟨g1, 0, rfl, rfl, hg1, Nat.le_refl _, by unfold maxLen; omega⟩) (fun w hs => hsP.at_ hs (fun b hb => ne_app ne_nil (ne_cons (by show g1 ≠ b; omega) ne_nil))) (by simp only [List.length_nil]; omega) (by simp only [List.length_nil]; omega) (fun vo Ho ho hne => ?_)
  rw [List.nil_append] at ho
  obtain ⟨go, co, rfl, rfl, hgo, hco, hmo⟩ := own_some ho (hne (by intro h; cases h))
  have hlP := hsP.1
  unfold maxLen at hmo
  rw [hlP] at hco ⊢
  refine TL.gets (Wants.none rfl) rfl (Gets.assign rfl rfl) ?_
  refine TL.nil ?_
  refine TE.then ?_
  refine TC.sub (Sub.cons (i := 0) rfl (Sub.cons (i := 2) rfl (Sub.cons (i := 3) rfl (Sub.nil)))) ?_
  refine TC.seq ?_
  refine TC.regionL ?_
  refine TL.gets (Wants.none rfl) rfl (Gets.move rfl rfl) ?_
  refine TL.call (ι := Nat × Nat) (V := fun ys => .slice (some ⟨ys.1, 0, none⟩) (((m + 4))) ys.2) (R := fun ys => ((m + 4) ≤ ys.2 ∧ ys.2 ≤ maxLen) ∧ w.heap.size ≤ (⟨ys.1, 5, (sealB P).map (Value.int .u8), ys.2⟩ : Ent).g) (H' := fun ys => [⟨ys.1, 5, (sealB P).map (Value.int .u8), ys.2⟩, ⟨go, 5, P.map (Value.int .u8), co⟩]) (Wants.none rfl) rfl enters13 rfl rfl (fun w hs => (show Calls Tryd.prog 13 #[.slice (some ⟨go, 0, none⟩) m co] w (fun e w' => ∃ ys : Nat × Nat, e = .returned (.slice (some ⟨ys.1, 0, none⟩) (((m + 4))) ys.2) ∧ ((m + 4) ≤ ys.2 ∧ ys.2 ≤ maxLen) ∧ w.heap.size ≤ (⟨ys.1, 5, (sealB P).map (Value.int .u8), ys.2⟩ : Ent).g ∧ St w [⟨ys.1, 5, (sealB P).map (Value.int .u8), ys.2⟩] w') from (seal_c P (some ⟨go, 0, none⟩) m co w (src_ent (hs.has (⟨go, 5, P.map (Value.int .u8), co⟩) (by simp)) hlP) (by omega) (by omega) (Nat.lt_of_lt_of_le h1 hs.size) (hLO.keepH hs (by omega) (ne_cons (by show go ≠ 0; omega) ne_nil)) (hHI.keepH hs h1 (ne_cons (by show go ≠ 1; omega) ne_nil))).mono fun e w' ⟨gv, cv, he, hgv, hcv, hmv, hw⟩ => ⟨(gv, cv), he, ⟨hcv, hmv⟩, hgv, hw⟩).mono fun e w' ⟨x, he, hR, hE, hw⟩ => ⟨x, he, ⟨hR, Nat.le_trans hs.size hE⟩, hs.made hw hE⟩) (fun ys ⟨hRs, hEs⟩ => ?_)
  obtain ⟨gs, cs⟩ := ys
  dsimp only at hRs hEs ⊢
  obtain ⟨hcs, hms⟩ := hRs
  unfold maxLen at hms
  refine TL.gets (Wants.none rfl) rfl (Gets.assign rfl rfl) ?_
  refine TL.nil ?_
  refine TE.then ?_
  refine TC.seq ?_
  refine TC.regionL ?_
  refine TL.gets (Wants.none rfl) rfl (Gets.move rfl rfl) ?_
  refine TL.call (ι := Nat × Nat) (V := fun yr => .slice (some ⟨yr.1, 0, none⟩) (((m + 4))) yr.2) (R := fun yr => ((m + 4) ≤ yr.2 ∧ yr.2 ≤ maxLen) ∧ w.heap.size ≤ (⟨yr.1, 5, (sealB P).map (Value.int .u8), yr.2⟩ : Ent).g) (H' := fun yr => [⟨yr.1, 5, (sealB P).map (Value.int .u8), yr.2⟩, ⟨gs, 5, (sealB P).map (Value.int .u8), cs⟩, ⟨go, 5, P.map (Value.int .u8), co⟩]) (Wants.none rfl) rfl enters14 rfl rfl (fun w hs => (show Calls Tryd.prog 14 #[.slice A m c] w (fun e w' => ∃ yr : Nat × Nat, e = .returned (.slice (some ⟨yr.1, 0, none⟩) (((m + 4))) yr.2) ∧ ((m + 4) ≤ yr.2 ∧ yr.2 ≤ maxLen) ∧ w.heap.size ≤ (⟨yr.1, 5, (sealB P).map (Value.int .u8), yr.2⟩ : Ent).g ∧ St w [⟨yr.1, 5, (sealB P).map (Value.int .u8), yr.2⟩] w') from (rseal_c P hP A m c w (hsP.at_ hs (fun b hb => (ne_cons (by show gs ≠ b; omega) (ne_cons (by show go ≠ b; omega) ne_nil)))) (by omega) (by omega) (by omega)).mono fun e w' ⟨gv, cv, he, hgv, hcv, hmv, hw⟩ => ⟨(gv, cv), he, ⟨hcv, hmv⟩, hgv, hw⟩).mono fun e w' ⟨x, he, hR, hE, hw⟩ => ⟨x, he, ⟨hR, Nat.le_trans hs.size hE⟩, hs.made hw hE⟩) (fun yr ⟨hRr, hEr⟩ => ?_)
  obtain ⟨gr, cr⟩ := yr
  dsimp only at hRr hEr ⊢
  obtain ⟨hcr, hmr⟩ := hRr
  unfold maxLen at hmr
  refine TL.gets (Wants.none rfl) rfl (Gets.assign rfl rfl) ?_
  refine TL.nil ?_
  refine TE.then ?_
  refine TC.sub (Sub.cons (i := 0) rfl (Sub.cons (i := 2) rfl (Sub.cons (i := 3) rfl (Sub.cons (i := 4) rfl (Sub.cons (i := 5) rfl (Sub.nil)))))) ?_
  refine TC.seq ?_
  refine TC.seq ?_
  refine TC.regionL ?_
  refine TL.gets (Wants.none rfl) rfl (Gets.move rfl rfl) ?_
  refine TL.gets (Wants.none rfl) rfl (Gets.move rfl rfl) ?_
  refine TL.call0 (Wants.none rfl) rfl enters15 rfl rfl (v := .bool true) (fun w hs => calls_yes rfl (sequal_c (sealB P) (sealB P) (some ⟨gs, 0, none⟩) (some ⟨gr, 0, none⟩) (((m + 4))) cs (((m + 4))) cr w (src_ent (hs.has (⟨gs, 5, (sealB P).map (Value.int .u8), cs⟩) (by simp)) (sealB_len hsP.1)) (src_ent (hs.has (⟨gr, 5, (sealB P).map (Value.int .u8), cr⟩) (by simp)) (sealB_len hsP.1)) (by omega) (by omega) (by omega) (by omega))) ?_
  refine TL.gets (Wants.none rfl) rfl (Gets.not rfl rfl) ?_
  refine TL.gets (Wants.none rfl) rfl (Gets.move rfl rfl) ?_
  refine TL.gets (Wants.yes rfl rfl rfl) rfl (Gets.move rfl rfl) ?_
  refine TL.gets (Wants.yes rfl rfl rfl) rfl (Gets.move rfl rfl) ?_
  refine TL.call0 (Wants.yes rfl rfl rfl) rfl enters15 rfl rfl (v := .bool true) (fun w hs => calls_yes rfl (sequal_c P P (some ⟨go, 0, none⟩) A m co m c w (src_ent (hs.has (⟨go, 5, P.map (Value.int .u8), co⟩) (by simp)) hlP) (hsP.at_ hs (fun b hb => (ne_cons (by show gr ≠ b; omega) (ne_cons (by show gs ≠ b; omega) (ne_cons (by show go ≠ b; omega) ne_nil))))) (by omega) (by omega) (by omega) (by omega))) ?_
  refine TL.gets (Wants.yes rfl rfl rfl) rfl (Gets.not rfl rfl) ?_
  refine TL.gets (Wants.none rfl) rfl (Gets.pickF rfl rfl rfl) ?_
  refine TL.nil ?_
  refine TE.then ?_
  refine TC.sub (Sub.cons (i := 0) rfl (Sub.cons (i := 2) rfl (Sub.cons (i := 4) rfl (Sub.cons (i := 5) rfl (Sub.cons (i := 29) rfl (Sub.nil)))))) ?_
  refine TC.no rfl ?_
  refine TC.skip ?_
  refine TE.then ?_
  refine TC.seq ?_
  refine TC.regionL ?_
  refine TL.gets (Wants.none rfl) rfl (Gets.move rfl rfl) ?_
  refine TL.call (ι := Nat × Nat) (V := fun yk => .tuple #[.slice (some ⟨yk.1, 0, none⟩) m yk.2, .bool true]) (R := fun yk => (m ≤ yk.2 ∧ yk.2 ≤ maxLen) ∧ w.heap.size ≤ (⟨yk.1, 5, P.map (Value.int .u8), yk.2⟩ : Ent).g) (H' := fun yk => [⟨yk.1, 5, P.map (Value.int .u8), yk.2⟩, ⟨gr, 5, (sealB P).map (Value.int .u8), cr⟩, ⟨gs, 5, (sealB P).map (Value.int .u8), cs⟩, ⟨go, 5, P.map (Value.int .u8), co⟩]) (Wants.none rfl) rfl enters16 rfl rfl (fun w hs => (show Calls Tryd.prog 16 #[.slice (some ⟨gs, 0, none⟩) (((m + 4))) cs] w (fun e w' => ∃ yk : Nat × Nat, e = .returned (.tuple #[.slice (some ⟨yk.1, 0, none⟩) m yk.2, .bool true]) ∧ (m ≤ yk.2 ∧ yk.2 ≤ maxLen) ∧ w.heap.size ≤ (⟨yk.1, 5, P.map (Value.int .u8), yk.2⟩ : Ent).g ∧ St w [⟨yk.1, 5, P.map (Value.int .u8), yk.2⟩] w') from (open_seal P hP gs 0 m cs w hlP (src_ent (hs.has (⟨gs, 5, (sealB P).map (Value.int .u8), cs⟩) (by simp)) (sealB_len (m := m) hlP)) (by omega) (by omega) (by omega) (Nat.lt_of_lt_of_le h1 hs.size) (hLO.keepH hs (by omega) (ne_cons (by show gr ≠ 0; omega) (ne_cons (by show gs ≠ 0; omega) (ne_cons (by show go ≠ 0; omega) ne_nil)))) (hHI.keepH hs h1 (ne_cons (by show gr ≠ 1; omega) (ne_cons (by show gs ≠ 1; omega) (ne_cons (by show go ≠ 1; omega) ne_nil))))).mono fun e w' ⟨gv, cv, he, hgv, hcv, hmv, hw⟩ => ⟨(gv, cv), he, ⟨hcv, hmv⟩, hgv, hw⟩).mono fun e w' ⟨x, he, hR, hE, hw⟩ => ⟨x, he, ⟨hR, Nat.le_trans hs.size hE⟩, hs.made hw hE⟩) (fun yk ⟨hRk, hEk⟩ => ?_)
  obtain ⟨gk, ck⟩ := yk
  dsimp only at hRk hEk ⊢
  obtain ⟨hck, hmk⟩ := hRk
  unfold maxLen at hmk
  refine TL.gets (Wants.none rfl) rfl (Gets.move rfl rfl) ?_
  refine TL.gets (Wants.none rfl) rfl (Gets.extract rfl rfl rfl) ?_
  refine TL.gets (Wants.none rfl) rfl (Gets.extract rfl rfl rfl) ?_
  refine TL.gets (Wants.none rfl) rfl (Gets.assign rfl rfl) ?_
  refine TL.gets (Wants.none rfl) rfl (Gets.assign rfl rfl) ?_
  refine TL.nil ?_
  refine TE.then ?_
  refine TC.sub (Sub.cons (i := 0) rfl (Sub.cons (i := 2) rfl (Sub.cons (i := 4) rfl (Sub.cons (i := 5) rfl (Sub.cons (i := 6) rfl (Sub.cons (i := 7) rfl (Sub.nil))))))) ?_
  refine TC.seq ?_
  refine TC.seq ?_
  refine TC.regionL ?_
  refine TL.gets (Wants.none rfl) rfl (Gets.move rfl rfl) ?_
  refine TL.gets (Wants.none rfl) rfl (Gets.not rfl rfl) ?_
  refine TL.gets (Wants.none rfl) rfl (Gets.move rfl rfl) ?_
  refine TL.gets (Wants.yes rfl rfl rfl) rfl (Gets.move rfl rfl) ?_
  refine TL.gets (Wants.yes rfl rfl rfl) rfl (Gets.move rfl rfl) ?_
  refine TL.call0 (Wants.yes rfl rfl rfl) rfl enters15 rfl rfl (v := .bool true) (fun w hs => calls_yes rfl (sequal_c P P (some ⟨gk, 0, none⟩) A m ck m c w (src_ent (hs.has (⟨gk, 5, P.map (Value.int .u8), ck⟩) (by simp)) hlP) (hsP.at_ hs (fun b hb => (ne_cons (by show gk ≠ b; omega) (ne_cons (by show gr ≠ b; omega) (ne_cons (by show gs ≠ b; omega) (ne_cons (by show go ≠ b; omega) ne_nil)))))) (by omega) (by omega) (by omega) (by omega))) ?_
  refine TL.gets (Wants.yes rfl rfl rfl) rfl (Gets.not rfl rfl) ?_
  refine TL.gets (Wants.none rfl) rfl (Gets.pickF rfl rfl rfl) ?_
  refine TL.nil ?_
  refine TE.then ?_
  refine TC.sub (Sub.cons (i := 2) rfl (Sub.cons (i := 4) rfl (Sub.cons (i := 5) rfl (Sub.cons (i := 6) rfl (Sub.cons (i := 42) rfl (Sub.nil)))))) ?_
  refine TC.no rfl ?_
  refine TC.skip ?_
  refine TE.then ?_
  refine TC.seq ?_
  refine TC.seq ?_
  refine TC.regionL ?_
  refine TL.gets (Wants.none rfl) rfl (Gets.move rfl rfl) ?_
  refine TL.gets (Wants.none rfl) rfl (Gets.lenSlice rfl Tryd.underlying24 rfl) ?_
  refine TL.gets (Wants.none rfl) rfl (Gets.move rfl rfl) ?_
  refine TL.nil ?_
  refine TE.then ?_
  refine TC.block ?_
  refine TC.loop (ι := Nat) (fun k => [(4, .slice (some ⟨gs, 0, none⟩) (m + 4) cs), (5, .slice (some ⟨gr, 0, none⟩) (m + 4) cr), (6, .slice (some ⟨gk, 0, none⟩) m ck), (44, .int .i64 (m : Int)), (45, .int .i64 (k : Int))]) (fun k => [⟨gk, 5, (bump P k).map (Value.int .u8), ck⟩, ⟨gr, 5, (sealB P).map (Value.int .u8), cr⟩, ⟨gs, 5, (sealB P).map (Value.int .u8), cs⟩, ⟨go, 5, P.map (Value.int .u8), co⟩]) (fun k => m - k) (fun k => k ≤ m) 0 (Nat.zero_le _) (Sub.slice (i := 4) rfl rfl (by first | omega | (dsimp only; omega) | rfl) (by first | omega | (dsimp only; omega) | rfl) (Sub.slice (i := 5) rfl rfl (by first | omega | (dsimp only; omega) | rfl) (by first | omega | (dsimp only; omega) | rfl) (Sub.slice (i := 6) rfl rfl (by first | omega | (dsimp only; omega) | rfl) (by first | omega | (dsimp only; omega) | rfl) (Sub.int (i := 44) rfl (by first | omega | rfl) (Sub.int (i := 45) rfl (by first | omega | rfl) (Sub.nil)))))) (fun w h => h) (fun k hC0 => ?_)
  refine TC.seq ?_
  refine TC.regionL ?_
  refine TL.gets (Wants.none rfl) rfl (Gets.lss rfl rfl rfl) ?_
  refine TL.nil ?_
  refine TE.then ?_
  refine TC.seq ?_
  refine TC.split rfl (fun hq3 => ?_) (fun hq3 => ?_)
  · refine TC.skip ?_
    refine TE.then ?_
    refine TC.seq ?_
    refine TC.block ?_
    refine TC.seq ?_
    refine TC.regionL ?_
    refine TL.gets (Wants.none rfl) rfl (Gets.move rfl rfl) ?_
    refine TL.gets (Wants.none rfl) rfl (Gets.assign rfl rfl) ?_
    refine TL.nil ?_
    refine TE.then ?_
    refine TC.regionL ?_
    refine TL.gets (Wants.none rfl) rfl (Gets.move rfl rfl) ?_
    refine TL.gets (Wants.none rfl) rfl (Gets.move rfl rfl) ?_
    refine TL.gets (Wants.none rfl) rfl (Gets.idxSlice rfl Tryd.underlying24 size5 rfl rfl (i := k) (by omega) (by omega) (off' := k) (by omega)) ?_
    refine TL.gets (Wants.none rfl) rfl (Gets.load1 rfl agg5 rfl (At.ent (i := 0) (ent := ⟨gk, 5, (bump P k).map (Value.int .u8), ck⟩) (off := k) rfl rfl (by have := ints_get (kd := .u8) (W := (bump P k)) (i := k) (by rw [(bump_len P hlP k)]; omega); (first | exact this | (refine Eq.trans ?_ this; congr 1; omega))))) ?_
    refine TL.gets (Wants.none rfl) rfl (Gets.addU rfl rfl rfl) ?_
    refine TL.gets (Wants.none rfl) rfl (Gets.idxSlice rfl Tryd.underlying24 size5 rfl rfl (i := k) (by omega) (by omega) (off' := k) (by omega)) ?_
    refine TL.store1 (Wants.none rfl) rfl rfl size5 rfl rfl rfl (i := 0) rfl rfl (by simp [(bump_len P hlP k)] <;> omega) (cs' := ((bump P k).set k (addW .u8 ((bump P k).getD k 0) 1)).map (Value.int .u8)) (ints_set) (H' := [⟨gk, 5, ((bump P k).set k (addW .u8 ((bump P k).getD k 0) 1)).map (Value.int .u8), ck⟩, ⟨gr, 5, (sealB P).map (Value.int .u8), cr⟩, ⟨gs, 5, (sealB P).map (Value.int .u8), cs⟩, ⟨go, 5, P.map (Value.int .u8), co⟩]) rfl ?_
    refine TL.nil ?_
    refine TE.blockN ?_
    refine TE.then ?_
    refine TC.sub (Sub.cons (i := 4) rfl (Sub.cons (i := 5) rfl (Sub.cons (i := 6) rfl (Sub.cons (i := 44) rfl (Sub.cons (i := 45) rfl (Sub.nil)))))) ?_
    refine TC.regionL ?_
    refine TL.gets (Wants.none rfl) rfl (Gets.add rfl rfl rfl (r := ((k : Int) + 1)) (w64 (by omega) (by omega))) ?_
    refine TL.gets (Wants.none rfl) rfl (Gets.move rfl rfl) ?_
    refine TL.nil ?_
    exact TE.back (k + 1) (by omega) (by omega) (Sub.slice (i := 4) rfl rfl (by first | omega | (dsimp only; omega) | rfl) (by first | omega | (dsimp only; omega) | rfl) (Sub.slice (i := 5) rfl rfl (by first | omega | (dsimp only; omega) | rfl) (by first | omega | (dsimp only; omega) | rfl) (Sub.slice (i := 6) rfl rfl (by first | omega | (dsimp only; omega) | rfl) (by first | omega | (dsimp only; omega) | rfl) (Sub.int (i := 44) rfl (by first | omega | rfl) (Sub.int (i := 45) rfl (by first | omega | rfl) (Sub.nil)))))) (fun w h => h)
  · refine TC.exit ?_
    refine TE.thenX ?_
    refine TE.thenX ?_
    refine TE.blockX ?_
    refine TE.then ?_
    refine TC.seq ?_
    refine TC.regionL ?_
    refine TL.call0 (Wants.none rfl) rfl enters9 rfl rfl (v := .bool true) (fun w hs => alive_c w (Nat.lt_of_lt_of_le h1 hs.size) (hLO.keepH hs (by omega) (ne_cons (by show gk ≠ 0; omega) (ne_cons (by show gr ≠ 0; omega) (ne_cons (by show gs ≠ 0; omega) (ne_cons (by show go ≠ 0; omega) ne_nil))))) (hHI.keepH hs h1 (ne_cons (by show gk ≠ 1; omega) (ne_cons (by show gr ≠ 1; omega) (ne_cons (by show gs ≠ 1; omega) (ne_cons (by show go ≠ 1; omega) ne_nil)))))) ?_
    refine TL.gets (Wants.none rfl) rfl (Gets.move rfl rfl) ?_
    refine TL.gets (Wants.yes rfl rfl rfl) rfl (Gets.move rfl rfl) ?_
    refine TL.gets (Wants.yes rfl rfl rfl) rfl (Gets.move rfl rfl) ?_
    refine TL.call0 (Wants.yes rfl rfl rfl) rfl enters15 rfl rfl (v := .bool true) (fun w hs => calls_yes rfl (sequal_c (sealB P) (sealB P) (some ⟨gs, 0, none⟩) (some ⟨gr, 0, none⟩) (m + 4) cs (m + 4) cr w (src_ent (hs.has (⟨gs, 5, (sealB P).map (Value.int .u8), cs⟩) (by simp)) (sealB_len hsP.1)) (src_ent (hs.has (⟨gr, 5, (sealB P).map (Value.int .u8), cr⟩) (by simp)) (sealB_len hsP.1)) (by omega) (by omega) (by omega) (by omega))) ?_
    refine TL.gets (Wants.none rfl) rfl (Gets.pickT rfl rfl rfl) ?_
    refine TL.gets (Wants.none rfl) rfl (Gets.assign rfl rfl) ?_
    refine TL.nil ?_
    refine TE.then ?_
    refine TC.ret ?_
    exact TE.ret1 rfl rfl (fun w hs => ⟨rfl, ((((hs.drop (by assumption)).drop (by assumption)).drop (by assumption)).drop (by assumption))⟩)

set_option maxRecDepth 100000 in
set_option maxHeartbeats 400000 in
theorem checkSeals_big (A : Option Addr) (m c : Nat) (w : World) (hm : 1000 < m) (h1 : 1 < w.heap.size) (hLO : RowI w 0 0 16 .u32 LOWT) (hHI : RowI w 1 0 16 .u32 HIGHT) : Calls Tryd.prog 4 #[.slice A m c] w fun e w' => e = .returned (.bool true) ∧ St w [] w' := by
  refine calls_from (args := [.slice A m c]) Tryd.func4 rfl Tryd.ntmps4 (by simp) ?_
  refine TC.sub (Sub.cons (i := 0) rfl (Sub.nil)) ?_
  refine TC.seq ?_
  refine TC.regionL ?_
  refine TL.gets (Wants.none rfl) rfl (Gets.assign rfl rfl) ?_
  refine TL.nil ?_
  refine TE.then ?_
  refine TC.seq ?_
  refine TC.seq ?_
  refine TC.regionL ?_
  refine TL.gets (Wants.none rfl) rfl (Gets.move rfl rfl) ?_
  refine TL.gets (Wants.none rfl) rfl (Gets.lenSlice rfl Tryd.underlying24 rfl) ?_
  refine TL.gets (Wants.none rfl) rfl (Gets.isTrue (Gets.gtr rfl rfl rfl) (by omega)) ?_
  refine TL.nil ?_
  refine TE.then ?_
  refine TC.yes rfl ?_
  refine TC.seq ?_
  refine TC.regionL ?_
  refine TL.call0 (Wants.none rfl) rfl enters9 rfl rfl (v := .bool true) (fun w hs => alive_c w (Nat.lt_of_lt_of_le h1 hs.size) (hLO.keepH hs (by omega) ne_nil) (hHI.keepH hs h1 ne_nil)) ?_
  refine TL.gets (Wants.none rfl) rfl (Gets.assign rfl rfl) ?_
  refine TL.nil ?_
  refine TE.then ?_
  refine TC.ret ?_
  refine TE.thenR ?_
  exact TE.ret1 rfl rfl (fun w hs => ⟨rfl, hs⟩)


theorem checkSeals_walk (w : World) (P : List Int) (A : Option Addr) (m c : Nat) (hs : Src w A m .u8 P) (hl : m ≤ c) (hm : c ≤ 9223372036854775807) (hP : Bytes P) (h1 : 1 < w.heap.size) (hLO : RowI w 0 0 16 .u32 LOWT) (hHI : RowI w 1 0 16 .u32 HIGHT) : Calls Tryd.prog 4 #[.slice A m c] w fun e w' => e = .returned (.bool true) ∧ St w [] w' := by
  by_cases hb : 1000 < m
  · exact checkSeals_big A m c w hb h1 hLO hHI
  · exact checkSeals_small P hP A m c w hs hl hm (by omega) h1 hLO hHI
end Go.Proofs.YtilmoheipkncfaaDoor
