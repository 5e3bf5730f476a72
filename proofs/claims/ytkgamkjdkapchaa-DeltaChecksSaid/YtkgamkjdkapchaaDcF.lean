/-
  The code of layer 5: Clone, With.
-/
import Derived.Test.YtkgamkjdkapchaaDcE
import Derived.Test.YtkgamkjdkapchaaCln
namespace Go.Proofs.Ytkgamkjdkapchaa
set_option linter.unusedVariables false
set_option linter.unusedSimpArgs false
open Go Go.RowKit
theorem enters36 : Enters Try.prog 36 := ⟨_, Try.func36, by kernel_rfl, by kernel_rfl⟩

theorem clone_any (x : CV) (w : World) (hs : Src w x.A x.m .u8 x.B) (hB : Bytes x.B) (hn : NumC x) : Calls Try.prog 36 #[.agg ([Value.int .i64 x.k, Value.int .i64 x.t, Value.int .i64 x.f, Value.int .i64 x.l, Value.slice x.A x.m x.c]).toArray] w fun e w' => ∃ y : (Option Addr × Nat) × List Ent, e = .returned (.agg ([Value.int .i64 x.k, Value.int .i64 x.t, Value.int .i64 x.f, Value.int .i64 x.l, Value.slice y.1.1 x.m y.1.2]).toArray) ∧ CloneR w.heap.size x y.1.1 y.1.2 y.2 ∧ St w y.2 w' := by
  obtain ⟨k, t, f, l, A, m, c, B⟩ := x
  dsimp only at hs hB ⊢
  have hn2 := hn
  unfold NumC at hn2
  dsimp only at hn2
  cases A with
  | none =>
    have hm : m = 0 := by
      rcases hs.2 with h | ⟨b, off, h, _⟩
      · exact h
      · cases h
    subst hm
    refine (clone_nil k t f l 0 c w).mono ?_
    rintro e w' ⟨he, hw⟩
    refine ⟨((none, 0), []), he, ⟨fun e he => (nomatch he), ?_, fun W _ => ⟨⟨hs.1, .inl rfl⟩, hB⟩⟩, hw⟩
    unfold NumC clV; dsimp only; omega
  | some ad =>
    refine (clone_some k t f l ad m c B w hs (by omega) (by omega)).mono ?_
    rintro e w' ⟨g, c', he, hg, hmc, hmx, hw⟩
    refine ⟨((some ⟨g, 0, none⟩, c'), [⟨g, 5, B.map (Value.int .u8), c'⟩]), he, ⟨fun e he => (by rw [List.mem_singleton.1 he]; exact hg), ?_, fun W hl => ⟨src_ent (hl _ List.mem_cons_self) hs.1, hB⟩⟩, hw⟩
    unfold maxLen at hmx
    unfold NumC clV; dsimp only; omega


structure WW where
  i : Nat
  Fs : List CV
  He : List Ent

set_option maxRecDepth 100000 in
set_option maxHeartbeats 1000000 in
theorem dwith_c (o n : Int) (H1 H2 : List Int) (hH1 : H1.length = 32) (hH2 : H2.length = 32) (A : Option Addr) (m c : Nat) (A2 : Option Addr) (m2 c2 : Nat) (Es : List CV) (hmm2 : m2 ≤ 1000000000) (hN2 : NumsC Es) (w : World) (hC2 : SrcC w A2 m2 Es) (hE : DatC w Es) (hf2 : fewQ Es)  : Calls Try.prog 21 #[.agg ([Value.int .i64 o, Value.int .i64 n] ++ (H1.map (Value.int .u8) ++ (H2.map (Value.int .u8) ++ ([Value.slice A m c])))).toArray, .slice A2 m2 c2] w fun e w' => ∃ A' c' Fs He, e = .returned (.agg ([Value.int .i64 o, Value.int .i64 n] ++ (H1.map (Value.int .u8) ++ (H2.map (Value.int .u8) ++ ([Value.slice A' m2 ((c'))])))).toArray) ∧ (m2 ≤ c' ∧ c' ≤ 9223372036854775807) ∧ OwnD w.heap.size A' m2 Fs He ∧ sameE Fs Es ∧ St w He w' := by
  refine calls_from (args := [.agg ([Value.int .i64 o, Value.int .i64 n] ++ (H1.map (Value.int .u8) ++ (H2.map (Value.int .u8) ++ ([Value.slice A m c])))).toArray, .slice A2 m2 c2]) Try.func21 rfl Try.ntmps21 (by simp) ?_
  refine TC.sub (Sub.cons (i := 0) rfl (Sub.cons (i := 1) rfl (Sub.nil))) ?_
  refine TC.seq ?_
  refine TC.regionL ?_
  refine TL.box (Wants.none rfl) rfl rfl rfl (cs := [Value.int .i64 o, Value.int .i64 n] ++ (H1.map (Value.int .u8) ++ (H2.map (Value.int .u8) ++ ([Value.slice A m c])))) (by simp [Value.cells]) (tot := 67) (by simp [hH1, hH2]) (fun g1 hg1 => ?_)
  refine TL.alloc (Wants.none rfl) rfl rfl zero25 (cs := [Value.int .i64 0, Value.int .i64 0] ++ ((List.replicate 64 0).map (Value.int .u8) ++ ([Value.slice none 0 0]))) rfl (tot := 67) (by simp) (fun g2 hg2 => ?_)
  refine TL.nil ?_
  refine TE.then ?_
  refine TC.seq ?_
  refine TC.regionL ?_
  refine TL.gets (Wants.none rfl) rfl (Gets.move rfl rfl) ?_
  refine TL.gets (Wants.none rfl) rfl (Gets.lenSlice rfl Try.underlying23 rfl) ?_
  refine TL.makeSliceS (Wants.none rfl) rfl rfl Try.underlying23 mk40 (zs := [Value.int .i64 0, Value.int .i64 0, Value.int .i64 0, Value.int .i64 0, Value.slice none 0 0]) rfl rfl (by decide) rfl rfl (ln := m2) (cp := m2) (by omega) (by omega) (by omega) (by omega) (by omega) (cs := flatC (stC [] m2)) (tot := m2 * 5) (stC_rep m2) rfl (fun g3 hg3 => ?_)
  refine TL.gets (Wants.none rfl) rfl (Gets.fieldAddr rfl Try.underlying25 rfl size23 rfl (off' := 66) (by first | rfl | omega)) ?_
  refine TL.store1 (Wants.none rfl) rfl rfl size23 rfl rfl rfl (i := 2) rfl rfl (by simp [hH1, hH2] <;> omega) (cs' := [Value.int .i64 o, Value.int .i64 n] ++ (H1.map (Value.int .u8) ++ (H2.map (Value.int .u8) ++ ([Value.slice (some ⟨g3, 0, none⟩) m2 m2])))) (set_right (a := 2) (i := 64) (rfl) (set_right (a := 32) (i := 32) (ints_len hH1) (set_right (a := 32) (i := 0) (ints_len hH2) (rfl)))) (H' := [⟨g3, 40, flatC (stC [] m2), (m2 * 5)⟩, ⟨g2, 25, [Value.int .i64 0, Value.int .i64 0] ++ ((List.replicate 64 0).map (Value.int .u8) ++ ([Value.slice none 0 0])), 67⟩, ⟨g1, 25, [Value.int .i64 o, Value.int .i64 n] ++ (H1.map (Value.int .u8) ++ (H2.map (Value.int .u8) ++ ([Value.slice (some ⟨g3, 0, none⟩) m2 m2]))), 67⟩]) rfl ?_
  refine TL.nil ?_
  refine TE.then ?_
  refine TC.seq ?_
  refine TC.seq ?_
  refine TC.regionL ?_
  refine TL.gets (Wants.none rfl) rfl (Gets.move rfl rfl) ?_
  refine TL.gets (Wants.none rfl) rfl (Gets.lenSlice rfl Try.underlying23 rfl) ?_
  refine TL.gets (Wants.none rfl) rfl (Gets.move rfl rfl) ?_
  refine TL.nil ?_
  refine TE.then ?_
  refine TC.sub (Sub.cons (i := 2) rfl (Sub.cons (i := 4) rfl (Sub.cons (i := 11) rfl (Sub.cons (i := 12) rfl (Sub.cons (i := 13) rfl (Sub.nil)))))) ?_
  refine TC.block ?_
  refine TC.loop (ι := WW) (fun x0 => [(2, .pointer (some ⟨g1, 0, none⟩)), (4, .pointer (some ⟨g2, 0, none⟩)), (11, .slice A2 m2 c2), (12, .int .i64 (m2 : Int)), (13, .int .i64 (x0.i : Int))]) (fun x0 => [⟨g3, 40, flatC (stC x0.Fs (m2 - x0.i)), (m2 * 5)⟩, ⟨g2, 25, [Value.int .i64 0, Value.int .i64 0] ++ ((List.replicate 64 0).map (Value.int .u8) ++ ([Value.slice none 0 0])), 67⟩, ⟨g1, 25, [Value.int .i64 o, Value.int .i64 n] ++ (H1.map (Value.int .u8) ++ (H2.map (Value.int .u8) ++ ([Value.slice (some ⟨g3, 0, none⟩) m2 m2]))), 67⟩] ++ x0.He) (fun x0 => m2 - x0.i) (fun x0 => OwnB w.heap.size x0.Fs x0.He ∧ sameE x0.Fs (Es.take x0.i) ∧ x0.i ≤ m2) (⟨0, [], []⟩ : WW) ⟨OwnB.nil _, rfl, Nat.zero_le _⟩ (Sub.cons (i := 2) rfl (Sub.cons (i := 4) rfl (Sub.slice (i := 11) rfl rfl (by first | omega | (dsimp only; omega) | rfl) (by first | omega | (dsimp only; omega) | rfl) (Sub.int (i := 12) rfl (by first | omega | rfl) (Sub.int (i := 13) rfl rfl (Sub.nil)))))) (fun w h => by rw [List.append_nil]; exact h) (fun x0 hC0 => ?_)
  obtain ⟨i, Fs, He⟩ := x0
  obtain ⟨hOw, hsm, him⟩ := hC0
  dsimp only at hOw hsm him ⊢
  have hF : Fresh w He := hOw.1
  have hFl : Fs.length = i := by have h1 := hsm.len; have h2 := hC2.1; rw [List.length_take] at h1; omega
  refine TC.seq ?_
  refine TC.regionL ?_
  refine TL.gets (Wants.none rfl) rfl (Gets.lss rfl rfl rfl) ?_
  refine TL.nil ?_
  refine TE.then ?_
  refine TC.seq ?_
  refine TC.split rfl (fun hq0 => ?_) (fun hq0 => ?_)
  · obtain ⟨b, off, hAe, hb, hrw⟩ := hC2.some_ (i := i) (by omega)
    subst hAe
    obtain ⟨x, hx⟩ := hC2.get (i := i) (by omega)
    refine TC.skip ?_
    refine TE.then ?_
    refine TC.seq ?_
    refine TC.block ?_
    refine TC.seq ?_
    refine TC.regionL ?_
    refine TL.gets (Wants.none rfl) rfl (Gets.move rfl rfl) ?_
    refine TL.gets (Wants.none rfl) rfl (Gets.idxSlice rfl Try.underlying23 size40 rfl rfl (i := i) (by omega) (by omega) (off' := (off + 5 * i)) (by omega)) ?_
    refine TL.gets (Wants.none rfl) rfl (Gets.loadN rfl agg40 size40 rfl rfl (Row.old (fun jj u h => hrw i x hx jj u h) hb (ne_app (ne_cons (by show g3 ≠ b; omega) (ne_cons (by show g2 ≠ b; omega) (ne_cons (by show g1 ≠ b; omega) ne_nil))) (hF.ne hb)))) ?_
    refine TL.alloc (Wants.none rfl) rfl rfl zero40 (cs := [Value.int .i64 0, Value.int .i64 0, Value.int .i64 0, Value.int .i64 0, Value.slice none 0 0]) rfl (tot := 5) (by simp) (fun g4 hg4 => ?_)
    refine TL.gets (Wants.none rfl) rfl (Gets.assign rfl rfl) ?_
    refine TL.storeW (Wants.none rfl) rfl rfl size40 rfl (vs := [Value.int .i64 x.k, Value.int .i64 x.t, Value.int .i64 x.f, Value.int .i64 x.l, Value.slice x.A x.m x.c]) rfl (by simp []) (by simp [Value.oneCell']) (i := 0) (ent := ⟨g4, 40, [Value.int .i64 0, Value.int .i64 0, Value.int .i64 0, Value.int .i64 0, Value.slice none 0 0], 5⟩) rfl rfl (by simp []) (H' := [⟨g4, 40, [Value.int .i64 x.k, Value.int .i64 x.t, Value.int .i64 x.f, Value.int .i64 x.l, Value.slice x.A x.m x.c], 5⟩, ⟨g3, 40, flatC (stC Fs (m2 - i)), (m2 * 5)⟩, ⟨g2, 25, [Value.int .i64 0, Value.int .i64 0] ++ ((List.replicate 64 0).map (Value.int .u8) ++ ([Value.slice none 0 0])), 67⟩, ⟨g1, 25, [Value.int .i64 o, Value.int .i64 n] ++ (H1.map (Value.int .u8) ++ (H2.map (Value.int .u8) ++ ([Value.slice (some ⟨g3, 0, none⟩) m2 m2]))), 67⟩] ++ He) rfl ?_
    refine TL.nil ?_
    refine TE.then ?_
    refine TC.sub (Sub.cons (i := 2) rfl (Sub.cons (i := 4) rfl (Sub.cons (i := 5) rfl (Sub.cons (i := 6) rfl (Sub.cons (i := 11) rfl (Sub.cons (i := 12) rfl (Sub.cons (i := 13) rfl (Sub.nil)))))))) ?_
    refine TC.mixS ([Ent.mk g4 40 ([Value.int .i64 x.k, Value.int .i64 x.t, Value.int .i64 x.f, Value.int .i64 x.l, Value.slice x.A x.m x.c]) 5, Ent.mk g2 25 ([Value.int .i64 0, Value.int .i64 0] ++ ((List.replicate 64 0).map (Value.int .u8) ++ ([Value.slice none 0 0]))) 67, Ent.mk g1 25 ([Value.int .i64 o, Value.int .i64 n] ++ (H1.map (Value.int .u8) ++ (H2.map (Value.int .u8) ++ ([Value.slice (some ⟨g3, 0, none⟩) m2 m2])))) 67] ++ He) [⟨g3, 40, flatC (stC Fs (m2 - i)), (m2 * 5)⟩] (by kernel_rfl) [0, 1, 0, 1, 3, 0, 4] [0, 1, 2, 3, 4, 5, 6] [fun _ _ => True, fun _ _ => True, fun _ _ => True, fun _ _ => True, fun v e => ∃ y : (Option Addr × Nat) × List Ent, (CloneR w.heap.size x y.1.1 y.1.2 y.2) ∧ v = .agg ([Value.int .i64 x.k, Value.int .i64 x.t, Value.int .i64 x.f, Value.int .i64 x.l, Value.slice y.1.1 x.m y.1.2]).toArray ∧ e = y.2, fun _ _ => True, fun _ _ => True] (by kernel_rfl) (by kernel_rfl) (perm_midE (A := [Ent.mk g4 40 ([Value.int .i64 x.k, Value.int .i64 x.t, Value.int .i64 x.f, Value.int .i64 x.l, Value.slice x.A x.m x.c]) 5]) (g := Ent.mk g3 40 (flatC (stC Fs (m2 - i))) (m2 * 5)) (B := [Ent.mk g2 25 ([Value.int .i64 0, Value.int .i64 0] ++ ((List.replicate 64 0).map (Value.int .u8) ++ ([Value.slice none 0 0]))) 67, Ent.mk g1 25 ([Value.int .i64 o, Value.int .i64 n] ++ (H1.map (Value.int .u8) ++ (H2.map (Value.int .u8) ++ ([Value.slice (some ⟨g3, 0, none⟩) m2 m2])))) 67] ++ He)) (Fresh.cons (by assumption) Fresh.nil) ?_
    refine TR.free (Wants.none rfl) rfl (fun _ => Gets.fieldAddr rfl Try.underlying25 rfl size23 rfl (off' := 66) (by first | rfl | omega)) ?_
    refine TR.gets (Wants.none rfl) rfl (fun Z hZ => Gets.load1 rfl agg23 rfl (At.ent (i := 2) (ent := ⟨g1, 25, [Value.int .i64 o, Value.int .i64 n] ++ (H1.map (Value.int .u8) ++ (H2.map (Value.int .u8) ++ ([Value.slice (some ⟨g3, 0, none⟩) m2 m2]))), 67⟩) (off := 66) rfl rfl (by exact app_right (a := 2) (i := 64) (rfl) (app_right (a := 32) (i := 32) (ints_len hH1) (app_right (a := 32) (i := 0) (ints_len hH2) (rfl)))))) ?_
    refine TR.free (Wants.none rfl) rfl (fun _ => Gets.move rfl rfl) ?_
    refine TR.gets (Wants.none rfl) rfl (fun Z hZ => Gets.loadN rfl agg40 size40 rfl (vs := [Value.int .i64 x.k, Value.int .i64 x.t, Value.int .i64 x.f, Value.int .i64 x.l, Value.slice x.A x.m x.c]) (by simp []) (Row.all (i := 0) (ent := ⟨g4, 40, [Value.int .i64 x.k, Value.int .i64 x.t, Value.int .i64 x.f, Value.int .i64 x.l, Value.slice x.A x.m x.c], 5⟩) rfl rfl rfl)) ?_
    refine TR.call3 (ι := (Option Addr × Nat) × List Ent) (V := fun y => .agg ([Value.int .i64 x.k, Value.int .i64 x.t, Value.int .i64 x.f, Value.int .i64 x.l, Value.slice y.1.1 x.m y.1.2]).toArray) (R := fun y => CloneR w.heap.size x y.1.1 y.1.2 y.2) (E := fun y => y.2) (Wants.none rfl) rfl enters36 rfl rfl (fun Z w hZ hs => (clone_any x w ((hE i x hx).1.at_ hs (fun b hb => (ne_app (ne_app (ne_cons (by show g4 ≠ b; omega) (ne_cons (by show g2 ≠ b; omega) (ne_cons (by show g1 ≠ b; omega) ne_nil))) (hF.ne hb)) (hZ.ne hb)))) (hE i x hx).2 (hN2 i x hx)).mono fun e w' ⟨y, he, hR, hw⟩ => ⟨y, he, hR.mono hs.size, hR.1, hw⟩) (fun y hR hFy => ?_)
    refine TR.free (Wants.none rfl) rfl (fun _ => Gets.idxSlice rfl Try.underlying23 size40 rfl rfl (i := i) (by omega) (by omega) (off' := (5 * i)) (by omega)) ?_
    refine TR.storeN (Wants.none rfl) rfl rfl size40 rfl (vs := [Value.int .i64 x.k, Value.int .i64 x.t, Value.int .i64 x.f, Value.int .i64 x.l, Value.slice y.1.1 x.m y.1.2]) rfl rfl (by simp [Value.oneCell']) (i := 0) (ent := ⟨g3, 40, flatC (stC Fs (m2 - i)), (m2 * 5)⟩) rfl rfl (by show (5 * i) + 5 ≤ (flatC (stC Fs (m2 - i))).length; rw [flatC_len, stC_len]; omega) (cs' := flatC (stC (Fs ++ [clV x y.1.1 y.1.2]) (m2 - (i + 1)))) (stC_step (i := i) (m := m2) (z := clV x y.1.1 y.1.2) hFl (by omega)) (D' := [⟨g3, 40, flatC (stC (Fs ++ [clV x y.1.1 y.1.2]) (m2 - (i + 1))), (m2 * 5)⟩]) rfl (Fresh.cons (by assumption) Fresh.nil) ?_
    refine TR.nil ?_
    refine TE.heap (H' := [Ent.mk g3 40 (flatC (stC (Fs ++ [clV x y.1.1 y.1.2]) (m2 - (i + 1)))) (m2 * 5), Ent.mk g2 25 ([Value.int .i64 0, Value.int .i64 0] ++ ((List.replicate 64 0).map (Value.int .u8) ++ ([Value.slice none 0 0]))) 67, Ent.mk g1 25 ([Value.int .i64 o, Value.int .i64 n] ++ (H1.map (Value.int .u8) ++ (H2.map (Value.int .u8) ++ ([Value.slice (some ⟨g3, 0, none⟩) m2 m2])))) 67] ++ (He ++ y.2)) (fun w h => with_keep h (by assumption)) ?_
    have hOw2 := hOw.add hR
    have hF2 : Fresh w (He ++ y.2) := hOw2.1
    refine TE.blockN ?_
    refine TE.then ?_
    refine TC.sub (Sub.cons (i := 2) rfl (Sub.cons (i := 4) rfl (Sub.cons (i := 11) rfl (Sub.cons (i := 12) rfl (Sub.cons (i := 13) rfl (Sub.nil)))))) ?_
    refine TC.regionL ?_
    refine TL.gets (Wants.none rfl) rfl (Gets.add rfl rfl rfl (r := ((i : Int) + 1)) (w64 (by omega) (by omega))) ?_
    refine TL.gets (Wants.none rfl) rfl (Gets.move rfl rfl) ?_
    refine TL.nil ?_
    exact TE.back (⟨i + 1, Fs ++ [clV x y.1.1 y.1.2], He ++ y.2⟩ : WW) (by show m2 - (i + 1) < m2 - i; omega) ⟨hOw2, sameE_add hsm hx, (by show i + 1 ≤ m2; omega)⟩ (Sub.cons (i := 2) rfl (Sub.cons (i := 4) rfl (Sub.slice (i := 11) rfl (by first | rfl | (congr 2; omega)) (by first | omega | (dsimp only; omega) | rfl) (by first | omega | (dsimp only; omega) | rfl) (Sub.int (i := 12) rfl (by first | omega | rfl) (Sub.int (i := 13) rfl rfl (Sub.nil)))))) (fun w h => h)
  · have hiq : i = m2 := by omega
    have hsmE : sameE Fs Es := by rw [List.take_of_length_le (by have := hC2.1; omega)] at hsm; exact hsm
    refine TC.exit ?_
    refine TE.thenX ?_
    refine TE.thenX ?_
    refine TE.blockX ?_
    refine TE.then ?_
    refine TC.seq ?_
    refine TC.regionL ?_
    refine TL.gets (Wants.none rfl) rfl (Gets.loadN rfl agg25 size25 rfl (vs := [Value.int .i64 o, Value.int .i64 n] ++ (H1.map (Value.int .u8) ++ (H2.map (Value.int .u8) ++ ([Value.slice (some ⟨g3, 0, none⟩) m2 m2])))) (by simp [hH1, hH2]) (Row.all (i := 2) (ent := ⟨g1, 25, [Value.int .i64 o, Value.int .i64 n] ++ (H1.map (Value.int .u8) ++ (H2.map (Value.int .u8) ++ ([Value.slice (some ⟨g3, 0, none⟩) m2 m2]))), 67⟩) rfl rfl rfl)) ?_
    refine TL.storeW (Wants.none rfl) rfl rfl size25 rfl (vs := [Value.int .i64 o, Value.int .i64 n] ++ (H1.map (Value.int .u8) ++ (H2.map (Value.int .u8) ++ ([Value.slice (some ⟨g3, 0, none⟩) m2 m2])))) rfl (by simp [hH1, hH2]) (ones_app (by simp [Value.oneCell']) (ones_app ints_one (ones_app ints_one (by simp [Value.oneCell'])))) (i := 1) (ent := ⟨g2, 25, [Value.int .i64 0, Value.int .i64 0] ++ ((List.replicate 64 0).map (Value.int .u8) ++ ([Value.slice none 0 0])), 67⟩) rfl rfl (by simp []) (H' := [⟨g3, 40, flatC (stC Fs (m2 - i)), (m2 * 5)⟩, ⟨g2, 25, [Value.int .i64 o, Value.int .i64 n] ++ (H1.map (Value.int .u8) ++ (H2.map (Value.int .u8) ++ ([Value.slice (some ⟨g3, 0, none⟩) m2 m2]))), 67⟩, ⟨g1, 25, [Value.int .i64 o, Value.int .i64 n] ++ (H1.map (Value.int .u8) ++ (H2.map (Value.int .u8) ++ ([Value.slice (some ⟨g3, 0, none⟩) m2 m2]))), 67⟩] ++ He) rfl ?_
    refine TL.nil ?_
    refine TE.then ?_
    refine TC.ret ?_
    exact TE.retC rfl agg25 size25 rfl (vs := [Value.int .i64 o, Value.int .i64 n] ++ (H1.map (Value.int .u8) ++ (H2.map (Value.int .u8) ++ ([Value.slice (some ⟨g3, 0, none⟩) m2 m2])))) (by simp [hH1, hH2]) (Row.all (i := 1) (ent := ⟨g2, 25, [Value.int .i64 o, Value.int .i64 n] ++ (H1.map (Value.int .u8) ++ (H2.map (Value.int .u8) ++ ([Value.slice (some ⟨g3, 0, none⟩) m2 m2]))), 67⟩) rfl rfl rfl) (fun w hs => ⟨some ⟨g3, 0, none⟩, m2, Fs, _, rfl, ⟨Nat.le_refl _, by omega⟩, hOw.ownD hg3 (hFl.trans hiq) (stC_end hiq), hsmE, (hs.erase (i := 1) rfl (by assumption)).erase (i := 1) rfl (by assumption)⟩)
end Go.Proofs.Ytkgamkjdkapchaa
