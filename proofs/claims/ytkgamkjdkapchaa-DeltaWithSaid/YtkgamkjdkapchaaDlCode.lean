/-
  The code of layer 5: Sort.
-/
import Derived.Test.YtkgamkjdkapchaaDcF
namespace Go.Proofs.Ytkgamkjdkapchaa
set_option linter.unusedVariables false
set_option linter.unusedSimpArgs false
open Go Go.RowKit
theorem enters21 : Enters Try.prog 21 := ⟨_, Try.func21, by kernel_rfl, by kernel_rfl⟩
set_option maxRecDepth 100000 in
set_option maxHeartbeats 1000000 in
theorem dsort_c (o n : Int) (H1 H2 : List Int) (hH1 : H1.length = 32) (hH2 : H2.length = 32) (A : Option Addr) (m c : Nat) (Cs : List CV) (hmm : m ≤ 1000000000) (hN : NumsC Cs) (w : World) (hC : SrcC w A m Cs) (hD : DatC w Cs) (hf : fewQ Cs) (hVC : ValidC o n Cs)  : Calls Try.prog 16 #[.agg ([Value.int .i64 o, Value.int .i64 n] ++ (H1.map (Value.int .u8) ++ (H2.map (Value.int .u8) ++ ([Value.slice A m c])))).toArray] w fun e w' => ∃ A' c' Fs He, e = .returned (.agg ([Value.int .i64 o, Value.int .i64 n] ++ (H1.map (Value.int .u8) ++ (H2.map (Value.int .u8) ++ ([Value.slice A' m ((c'))])))).toArray) ∧ (m ≤ c' ∧ c' ≤ 9223372036854775807) ∧ OwnD w.heap.size A' m Fs He ∧ (∃ Gs : List CV, Gs.Perm Cs ∧ Gs.Pairwise leC ∧ sameE Fs Gs) ∧ St w He w' := by
  have hk12 : ∀ (i : Nat) (x : CV), Cs[i]? = some x → x.k = 1 ∨ x.k = 2 := fun i x hx => code_kind (single_vld (hVC.single i x hx)).2.2.2.1
  refine calls_from (args := [.agg ([Value.int .i64 o, Value.int .i64 n] ++ (H1.map (Value.int .u8) ++ (H2.map (Value.int .u8) ++ ([Value.slice A m c])))).toArray]) Try.func16 rfl Try.ntmps16 (by simp) ?_
  refine TC.sub (Sub.cons (i := 0) rfl (Sub.nil)) ?_
  refine TC.seq ?_
  refine TC.regionL ?_
  refine TL.box (Wants.none rfl) rfl rfl rfl (cs := [Value.int .i64 o, Value.int .i64 n] ++ (H1.map (Value.int .u8) ++ (H2.map (Value.int .u8) ++ ([Value.slice A m c])))) (by simp [Value.cells]) (tot := 67) (by simp [hH1, hH2]) (fun g1 hg1 => ?_)
  refine TL.alloc (Wants.none rfl) rfl rfl zero25 (cs := [Value.int .i64 0, Value.int .i64 0] ++ ((List.replicate 64 0).map (Value.int .u8) ++ ([Value.slice none 0 0]))) rfl (tot := 67) (by simp) (fun g2 hg2 => ?_)
  refine TL.nil ?_
  refine TE.then ?_
  refine TC.seq ?_
  refine TC.regionL ?_
  refine TL.gets (Wants.none rfl) rfl (Gets.fieldAddr rfl Try.underlying25 rfl size23 rfl (off' := 66) (by first | rfl | omega)) ?_
  refine TL.gets (Wants.none rfl) rfl (Gets.load1 rfl agg23 rfl (At.ent (i := 1) (ent := ⟨g1, 25, [Value.int .i64 o, Value.int .i64 n] ++ (H1.map (Value.int .u8) ++ (H2.map (Value.int .u8) ++ ([Value.slice A m c]))), 67⟩) (off := 66) rfl rfl (by exact app_right (a := 2) (i := 64) (rfl) (app_right (a := 32) (i := 32) (ints_len hH1) (app_right (a := 32) (i := 0) (ints_len hH2) (rfl)))))) ?_
  refine TL.gets (Wants.none rfl) rfl (Gets.lenSlice rfl Try.underlying23 rfl) ?_
  refine TL.makeSliceS (Wants.none rfl) rfl rfl Try.underlying23 mk40 (zs := [Value.int .i64 0, Value.int .i64 0, Value.int .i64 0, Value.int .i64 0, Value.slice none 0 0]) rfl rfl (by decide) rfl rfl (ln := 0) (cp := m) rfl (by omega) (by omega) (by omega) (by omega) (cs := flatC (stC [] m)) (tot := m * 5) (stC_rep m) rfl (fun g3 hg3 => ?_)
  refine TL.gets (Wants.none rfl) rfl (Gets.assign rfl rfl) ?_
  refine TL.nil ?_
  refine TE.then ?_
  refine TC.seq ?_
  refine TC.seq ?_
  refine TC.regionL ?_
  refine TL.gets (Wants.none rfl) rfl (Gets.fieldAddr rfl Try.underlying25 rfl size23 rfl (off' := 66) (by first | rfl | omega)) ?_
  refine TL.gets (Wants.none rfl) rfl (Gets.load1 rfl agg23 rfl (At.ent (i := 2) (ent := ⟨g1, 25, [Value.int .i64 o, Value.int .i64 n] ++ (H1.map (Value.int .u8) ++ (H2.map (Value.int .u8) ++ ([Value.slice A m c]))), 67⟩) (off := 66) rfl rfl (by exact app_right (a := 2) (i := 64) (rfl) (app_right (a := 32) (i := 32) (ints_len hH1) (app_right (a := 32) (i := 0) (ints_len hH2) (rfl)))))) ?_
  refine TL.call (ι := Nat × List TV) (V := fun y => .slice (some ⟨y.1, 0, none⟩) m m) (R := fun y => (y.2.Perm (tvOf Cs) ∧ y.2.Pairwise leT) ∧ w.heap.size ≤ y.1) (H' := fun y => [⟨g3, 40, flatC (stC [] m), (m * 5)⟩, ⟨g2, 25, [Value.int .i64 0, Value.int .i64 0] ++ ((List.replicate 64 0).map (Value.int .u8) ++ ([Value.slice none 0 0])), 67⟩, ⟨g1, 25, [Value.int .i64 o, Value.int .i64 n] ++ (H1.map (Value.int .u8) ++ (H2.map (Value.int .u8) ++ ([Value.slice A m c]))), 67⟩, ⟨y.1, 59, flatT y.2, (m * 3)⟩]) (Wants.none rfl) rfl enters35 rfl rfl (fun w hs => (asc_c A m c Cs hk12 (by omega) hN w (hC.at_ hs (fun b hb => (ne_cons (by show g3 ≠ b; omega) (ne_cons (by show g2 ≠ b; omega) (ne_cons (by show g1 ≠ b; omega) ne_nil)))))).mono fun e w' ⟨y, he, hR, hg, hw⟩ => ⟨y, he, ⟨hR, Nat.le_trans hs.size hg⟩, st_call hs hw (fun e he => by rw [List.mem_singleton.1 he]; exact hg)⟩) (fun y hR => ?_)
  obtain ⟨gt, Ts⟩ := y
  obtain ⟨⟨hTp, hTs⟩, hgt⟩ := hR
  dsimp only at hTp hTs hgt ⊢
  refine TL.gets (Wants.none rfl) rfl (Gets.lenSlice rfl Try.underlying56 rfl) ?_
  refine TL.gets (Wants.none rfl) rfl (Gets.move rfl rfl) ?_
  refine TL.nil ?_
  refine TE.then ?_
  refine TC.sub (Sub.cons (i := 1) rfl (Sub.cons (i := 2) rfl (Sub.cons (i := 3) rfl (Sub.cons (i := 12) rfl (Sub.cons (i := 13) rfl (Sub.cons (i := 14) rfl (Sub.nil))))))) ?_
  refine TC.block ?_
  refine TC.loop (ι := WS) (fun x0 => [(1, .pointer (some ⟨g1, 0, none⟩)), (2, .pointer (some ⟨g2, 0, none⟩)), (3, x0.v), (12, .slice (some ⟨gt, 0, none⟩) m m), (13, .int .i64 (m : Int)), (14, .int .i64 (x0.i : Int))]) (fun x0 => [⟨g2, 25, [Value.int .i64 0, Value.int .i64 0] ++ ((List.replicate 64 0).map (Value.int .u8) ++ ([Value.slice none 0 0])), 67⟩, ⟨g1, 25, [Value.int .i64 o, Value.int .i64 n] ++ (H1.map (Value.int .u8) ++ (H2.map (Value.int .u8) ++ ([Value.slice A m c]))), 67⟩, ⟨gt, 59, flatT Ts, (m * 3)⟩] ++ x0.He) (fun x0 => m - x0.i) (fun x0 => OwnS w.heap.size 40 5 x0.v x0.i (flatC x0.Es) x0.He ∧ x0.Es = pickC Cs (Ts.take x0.i) ∧ x0.i ≤ m) (⟨0, .slice (some ⟨g3, 0, none⟩) 0 m, [], [⟨g3, 40, [], m * 5⟩]⟩ : WS) ⟨OwnS.room hg3 (by unfold maxLen; omega), rfl, Nat.zero_le _⟩ (Sub.cons (i := 1) rfl (Sub.cons (i := 2) rfl (Sub.cons (i := 3) rfl (Sub.slice (i := 12) rfl rfl (by first | omega | (dsimp only; omega) | rfl) (by first | omega | (dsimp only; omega) | rfl) (Sub.int (i := 13) rfl (by first | omega | rfl) (Sub.int (i := 14) rfl rfl (Sub.nil))))))) (fun w h => (St.less h).perm (List.perm_append_singleton _ _).symm) (fun x0 hC0 => ?_)
  obtain ⟨i, v, Es, He⟩ := x0
  obtain ⟨hown, hEq, him⟩ := hC0
  dsimp only at hown hEq him ⊢
  have hF : Fresh w He := hown.new
  obtain ⟨Ao, co, rfl, hco, hco2⟩ := hown.form
  refine TC.seq ?_
  refine TC.regionL ?_
  refine TL.gets (Wants.none rfl) rfl (Gets.lss rfl rfl rfl) ?_
  refine TL.nil ?_
  refine TE.then ?_
  refine TC.seq ?_
  refine TC.split rfl (fun hq0 => ?_) (fun hq0 => ?_)
  · obtain ⟨tv, htv⟩ : ∃ tv, Ts[i]? = some tv := ⟨_, List.getElem?_eq_getElem (by have h1 := hTp.length_eq; rw [tvA_len] at h1; have := hC.1; omega)⟩
    obtain ⟨x, hx, htx⟩ := tv_key hTp (List.mem_of_getElem? htv)
    have hxm : tv.x < m := by have h1 := (List.getElem?_eq_some_iff.1 hx).1; have := hC.1; omega
    obtain ⟨b, off, hAe, hb, hrw⟩ := hC.some_ (i := tv.x) hxm
    subst hAe
    refine TC.skip ?_
    refine TE.then ?_
    refine TC.seq ?_
    refine TC.block ?_
    refine TC.seq ?_
    refine TC.regionL ?_
    refine TL.gets (Wants.none rfl) rfl (Gets.idxSlice rfl Try.underlying56 size59 rfl rfl (i := i) (by omega) (by omega) (off' := (3 * i)) (by omega)) ?_
    refine TL.gets (Wants.none rfl) rfl (Gets.loadN rfl agg59 size59 rfl (vs := [Value.int .i64 tv.o, Value.int .i64 tv.l, Value.int .i64 (tv.x : Int)]) rfl (Row.ent (i := 2) (ent := ⟨gt, 59, flatT Ts, (m * 3)⟩) rfl rfl (fun j u h => flatT_get htv h))) ?_
    refine TL.alloc (Wants.none rfl) rfl rfl zero59 (cs := [Value.int .i64 0, Value.int .i64 0, Value.int .i64 0]) rfl (tot := 3) (by simp) (fun g4 hg4 => ?_)
    refine TL.storeW (Wants.none rfl) rfl rfl size59 rfl (vs := [Value.int .i64 tv.o, Value.int .i64 tv.l, Value.int .i64 (tv.x : Int)]) rfl (by simp []) (by simp [Value.oneCell']) (i := 0) (ent := ⟨g4, 59, [Value.int .i64 0, Value.int .i64 0, Value.int .i64 0], 3⟩) rfl rfl (by simp []) (H' := [⟨g4, 59, [Value.int .i64 tv.o, Value.int .i64 tv.l, Value.int .i64 (tv.x : Int)], 3⟩, ⟨g2, 25, [Value.int .i64 0, Value.int .i64 0] ++ ((List.replicate 64 0).map (Value.int .u8) ++ ([Value.slice none 0 0])), 67⟩, ⟨g1, 25, [Value.int .i64 o, Value.int .i64 n] ++ (H1.map (Value.int .u8) ++ (H2.map (Value.int .u8) ++ ([Value.slice (some ⟨b, off, none⟩) m c]))), 67⟩, ⟨gt, 59, flatT Ts, (m * 3)⟩] ++ He) rfl ?_
    refine TL.nil ?_
    refine TE.then ?_
    refine TC.sub (Sub.cons (i := 1) rfl (Sub.cons (i := 2) rfl (Sub.cons (i := 3) rfl (Sub.cons (i := 5) rfl (Sub.cons (i := 12) rfl (Sub.cons (i := 13) rfl (Sub.cons (i := 14) rfl (Sub.nil)))))))) ?_
    refine TC.regionL ?_
    refine TL.gets (Wants.none rfl) rfl (Gets.move rfl rfl) ?_
    refine TL.gets (Wants.none rfl) rfl (Gets.fieldAddr rfl Try.underlying25 rfl size23 rfl (off' := 66) (by first | rfl | omega)) ?_
    refine TL.gets (Wants.none rfl) rfl (Gets.load1 rfl agg23 rfl (At.ent (i := 2) (ent := ⟨g1, 25, [Value.int .i64 o, Value.int .i64 n] ++ (H1.map (Value.int .u8) ++ (H2.map (Value.int .u8) ++ ([Value.slice (some ⟨b, off, none⟩) m c]))), 67⟩) (off := 66) rfl rfl (by exact app_right (a := 2) (i := 64) (rfl) (app_right (a := 32) (i := 32) (ints_len hH1) (app_right (a := 32) (i := 0) (ints_len hH2) (rfl)))))) ?_
    refine TL.gets (Wants.none rfl) rfl (Gets.fieldAddr rfl Try.underlying59 rfl size3 rfl (off' := 2) (by first | rfl | omega)) ?_
    refine TL.gets (Wants.none rfl) rfl (Gets.load1 rfl agg3 rfl (At.ent (i := 0) (ent := ⟨g4, 59, [Value.int .i64 tv.o, Value.int .i64 tv.l, Value.int .i64 (tv.x : Int)], 3⟩) (off := 2) rfl rfl (by exact rfl))) ?_
    refine TL.gets (Wants.none rfl) rfl (Gets.idxSlice rfl Try.underlying23 size40 rfl rfl (i := tv.x) (by omega) (by omega) (off' := (off + 5 * tv.x)) (by omega)) ?_
    refine TL.gets (Wants.none rfl) rfl (Gets.loadN rfl agg40 size40 rfl rfl (Row.old (fun jj u h => hrw tv.x x hx jj u h) hb (ne_app (ne_cons (by show g4 ≠ b; omega) (ne_cons (by show g2 ≠ b; omega) (ne_cons (by show g1 ≠ b; omega) (ne_cons (by show gt ≠ b; omega) ne_nil)))) (hF.ne hb)))) ?_
    refine TL.buildSlice (Wants.none rfl) rfl rfl Try.underlying23 size40 zero40 rfl (by decide) (by decide) (cells := #[.int .i64 x.k, .int .i64 x.t, .int .i64 x.f, .int .i64 x.l, .slice x.A x.m x.c]) (tot := 5) (by kernel_rfl) (cs := [.int .i64 x.k, .int .i64 x.t, .int .i64 x.f, .int .i64 x.l, .slice x.A x.m x.c]) rfl rfl (fun g5 hg5 => ?_)
    refine TL.appendS (H := [Ent.mk g5 40 ([Value.int .i64 x.k, Value.int .i64 x.t, Value.int .i64 x.f, Value.int .i64 x.l, Value.slice x.A x.m x.c]) 5, Ent.mk g4 59 ([Value.int .i64 tv.o, Value.int .i64 tv.l, Value.int .i64 (tv.x : Int)]) 3, Ent.mk g2 25 ([Value.int .i64 0, Value.int .i64 0] ++ ((List.replicate 64 0).map (Value.int .u8) ++ ([Value.slice none 0 0]))) 67, Ent.mk g1 25 ([Value.int .i64 o, Value.int .i64 n] ++ (H1.map (Value.int .u8) ++ (H2.map (Value.int .u8) ++ ([Value.slice (some ⟨b, off, none⟩) m c])))) 67, Ent.mk gt 59 (flatT Ts) (m * 3)]) (He := He) (Wants.none rfl) rfl rfl Try.underlying23 mk40 rfl (by decide) rfl rfl (s := 5) (nn := i) (m := 1) (cs := flatC Es) (news := cellsC x) hown rfl (fun w hs => lies_srcV (hs.has (Ent.mk g5 40 ([Value.int .i64 x.k, Value.int .i64 x.t, Value.int .i64 x.f, Value.int .i64 x.l, Value.slice x.A x.m x.c]) 5) (by simp))) (by intro u hu; exact flatC_one' [x] u (by rw [flatC_one]; exact hu)) (by unfold maxLen; omega) (by omega) (fun v2 He2 hown2 => ?_)
    have hF2 : Fresh w He2 := hown2.new
    refine TL.gets (Wants.none rfl) rfl (Gets.assign rfl rfl) ?_
    refine TL.nil ?_
    refine TE.blockN ?_
    refine TE.then ?_
    refine TC.sub (Sub.cons (i := 1) rfl (Sub.cons (i := 2) rfl (Sub.cons (i := 3) rfl (Sub.cons (i := 12) rfl (Sub.cons (i := 13) rfl (Sub.cons (i := 14) rfl (Sub.nil))))))) ?_
    refine TC.regionL ?_
    refine TL.gets (Wants.none rfl) rfl (Gets.add rfl rfl rfl (r := ((i : Int) + 1)) (w64 (by omega) (by omega))) ?_
    refine TL.gets (Wants.none rfl) rfl (Gets.move rfl rfl) ?_
    refine TL.nil ?_
    exact TE.back (⟨i + 1, v2, Es ++ [x], He2⟩ : WS) (by show m - (i + 1) < m - i; omega) ⟨(by show OwnS _ _ _ _ _ (flatC (Es ++ [x])) _; rw [flatC_app, flatC_one]; exact hown2), (by show Es ++ [x] = _; rw [hEq, pick_at htv hx]), (by show i + 1 ≤ m; omega)⟩ (Sub.cons (i := 1) rfl (Sub.cons (i := 2) rfl (Sub.cons (i := 3) rfl (Sub.slice (i := 12) rfl rfl (by first | omega | (dsimp only; omega) | rfl) (by first | omega | (dsimp only; omega) | rfl) (Sub.int (i := 13) rfl (by first | omega | rfl) (Sub.int (i := 14) rfl rfl (Sub.nil))))))) (fun w h => ((h.erase (i := 1) rfl (by assumption)).erase (i := 0) rfl (by assumption)))
  · obtain rfl : m = i := by omega
    have hTl : Ts.length = m := by have h1 := hTp.length_eq; rw [tvA_len] at h1; have := hC.1; omega
    rw [List.take_of_length_le (by omega)] at hEq
    have hEp : Es.Perm Cs := by rw [hEq]; exact pick_perm hTp
    have hEs : Es.Pairwise leC := by rw [hEq]; exact pick_sorted hTp hTs
    refine TC.exit ?_
    refine TE.thenX ?_
    refine TE.thenX ?_
    refine TE.blockX ?_
    refine TE.then ?_
    refine TC.seq ?_
    refine TC.regionL ?_
    refine TL.gets (Wants.none rfl) rfl (Gets.loadN rfl agg25 size25 rfl (vs := [Value.int .i64 o, Value.int .i64 n] ++ (H1.map (Value.int .u8) ++ (H2.map (Value.int .u8) ++ ([Value.slice A m c])))) (by simp [hH1, hH2]) (Row.all (i := 1) (ent := ⟨g1, 25, [Value.int .i64 o, Value.int .i64 n] ++ (H1.map (Value.int .u8) ++ (H2.map (Value.int .u8) ++ ([Value.slice A m c]))), 67⟩) rfl rfl rfl)) ?_
    refine TL.gets (Wants.none rfl) rfl (Gets.move rfl rfl) ?_
    refine TL.call (ι := (Option Addr × Nat) × (List CV × List Ent)) (V := fun y => .agg ([Value.int .i64 o, Value.int .i64 n] ++ (H1.map (Value.int .u8) ++ (H2.map (Value.int .u8) ++ ([Value.slice y.1.1 m y.1.2])))).toArray) (R := fun y => (m ≤ y.1.2 ∧ y.1.2 ≤ 9223372036854775807) ∧ OwnD w.heap.size y.1.1 m y.2.1 y.2.2 ∧ sameE y.2.1 Es) (H' := fun y => [⟨g2, 25, [Value.int .i64 0, Value.int .i64 0] ++ ((List.replicate 64 0).map (Value.int .u8) ++ ([Value.slice none 0 0])), 67⟩, ⟨g1, 25, [Value.int .i64 o, Value.int .i64 n] ++ (H1.map (Value.int .u8) ++ (H2.map (Value.int .u8) ++ ([Value.slice A m c]))), 67⟩, ⟨gt, 59, flatT Ts, (m * 3)⟩] ++ He ++ y.2.2) (Wants.none rfl) rfl enters21 rfl rfl (fun w hs => (dwith_c o n H1 H2 hH1 hH2 A m c Ao m co Es hmm (hN.sub fun x hx => hEp.mem_iff.1 hx) w (hown.srcC (fun e he => hs.has e (by simp [he]))) ((hD.at_ hs (fun b hb => (ne_app (ne_cons (by show g2 ≠ b; omega) (ne_cons (by show g1 ≠ b; omega) (ne_cons (by show gt ≠ b; omega) ne_nil))) (hF.ne hb)))).sub fun x hx => hEp.mem_iff.1 hx) (hf.sub2 hEp)).mono fun e w' ⟨A', c', Fs, He, he, hc, ho, hsm, hw⟩ => ⟨((A', c'), (Fs, He)), he, ⟨hc, ho.mono hs.size, hsm⟩, st_call hs hw ho.1⟩) (fun y hR => ?_)
    obtain ⟨⟨As, cs⟩, Fs, Hw⟩ := y
    obtain ⟨hcs, hos, hsm⟩ := hR
    dsimp only at hcs hos hsm ⊢
    have hFw : Fresh w Hw := hos.1
    refine TL.heap (H' := [⟨g2, 25, [Value.int .i64 0, Value.int .i64 0] ++ ((List.replicate 64 0).map (Value.int .u8) ++ ([Value.slice none 0 0])), 67⟩, ⟨g1, 25, [Value.int .i64 o, Value.int .i64 n] ++ (H1.map (Value.int .u8) ++ (H2.map (Value.int .u8) ++ ([Value.slice A m c]))), 67⟩, ⟨gt, 59, flatT Ts, (m * 3)⟩] ++ (He ++ Hw)) (fun w h => by rw [← List.append_assoc]; exact h) ?_
    have hFtHw := Fresh.app hF hFw
    refine TL.storeW (Wants.none rfl) rfl rfl size25 rfl (vs := [Value.int .i64 o, Value.int .i64 n] ++ (H1.map (Value.int .u8) ++ (H2.map (Value.int .u8) ++ ([Value.slice As m cs])))) rfl (by simp [hH1, hH2]) (ones_app (by simp [Value.oneCell']) (ones_app ints_one (ones_app ints_one (by simp [Value.oneCell'])))) (i := 0) (ent := ⟨g2, 25, [Value.int .i64 0, Value.int .i64 0] ++ ((List.replicate 64 0).map (Value.int .u8) ++ ([Value.slice none 0 0])), 67⟩) rfl rfl (by simp []) (H' := [⟨g2, 25, [Value.int .i64 o, Value.int .i64 n] ++ (H1.map (Value.int .u8) ++ (H2.map (Value.int .u8) ++ ([Value.slice As m cs]))), 67⟩, ⟨g1, 25, [Value.int .i64 o, Value.int .i64 n] ++ (H1.map (Value.int .u8) ++ (H2.map (Value.int .u8) ++ ([Value.slice A m c]))), 67⟩, ⟨gt, 59, flatT Ts, (m * 3)⟩] ++ (He ++ Hw)) rfl ?_
    refine TL.nil ?_
    refine TE.then ?_
    refine TC.ret ?_
    exact TE.retC rfl agg25 size25 rfl (vs := [Value.int .i64 o, Value.int .i64 n] ++ (H1.map (Value.int .u8) ++ (H2.map (Value.int .u8) ++ ([Value.slice As m cs])))) (by simp [hH1, hH2]) (Row.all (i := 0) (ent := ⟨g2, 25, [Value.int .i64 o, Value.int .i64 n] ++ (H1.map (Value.int .u8) ++ (H2.map (Value.int .u8) ++ ([Value.slice As m cs]))), 67⟩) rfl rfl rfl) (fun w hs => ⟨As, cs, Fs, Hw, rfl, hcs, hos, ⟨Es, hEp, hEs, hsm⟩, St.dropAll He (((hs.erase (i := 0) rfl (by assumption)).erase (i := 0) rfl (by assumption)).erase (i := 0) rfl (by assumption)) hown.new⟩)
end Go.Proofs.Ytkgamkjdkapchaa
