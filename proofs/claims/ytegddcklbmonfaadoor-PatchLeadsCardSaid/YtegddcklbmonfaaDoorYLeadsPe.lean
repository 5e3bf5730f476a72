/-
 PatchLeads: the frame.
-/
import Derived.Test.YtegddcklbmonfaaDoorYLeadsPd
import Derived.Test.YtegddcklbmonfaaDoorYLeadsPb
import Derived.Test.YtegddcklbmonfaaDoorTie
import Derived.Test.YtegddcklbmonfaaDoorCards
import Derived.SevenTiedAt
/-
 The code of layer 8: Apply.
-/
namespace Go.Proofs.YtegddcklbmonfaaDoor
set_option maxRecDepth 100000
set_option maxHeartbeats 2000000
open Go.Value (int slice)
set_option linter.unusedVariables false
set_option linter.unusedSimpArgs false
open Go Go.RowKit
theorem enters20 : Enters Tryd.prog 20 := ⟨_, Tryd.func20, by kernel_rfl, by kernel_rfl⟩
theorem enters21 : Enters Tryd.prog 21 := ⟨_, Tryd.func21, by kernel_rfl, by kernel_rfl⟩
theorem apply8_yes (B : List Int) (Ao : Option Addr) (mo co : Nat) (hmo : mo ≤ co) (hco : co ≤ 9223372036854775807) (o n : Int) (H1 H2 : List Int) (hH1 : H1.length = 32) (hH2 : H2.length = 32) (A : Option Addr) (m c : Nat) (Cs : List CV) (hmm : m ≤ 1000000000) (hN : NumsC Cs) (w : World) (hC : SrcC w A m Cs) (hD : DatC w Cs) (hsB : Src w Ao mo .u8 B) (bo : -9223372036854775808 ≤ o ∧ o ≤ 9223372036854775807) (bn : -9223372036854775808 ≤ n ∧ n ≤ 9223372036854775807) (hft : o = (mo : Int) ∧ (faultI o n Cs).1 = 0) (hn3 : n ≤ 3000) : Calls Tryd.prog 9 #[.slice Ao mo co, .agg (dV o n H1 H2 (slice A m c)).toArray] w fun e w' => ∃ g, e = .returned (.slice (some ⟨g, 0, none⟩) n.toNat n.toNat) ∧ w.heap.size ≤ g ∧ St w [⟨g, 5, (newB B Cs n).map (int .u8), n.toNat⟩] w' := by
 have hVC : ValidC o n Cs := validC hft.2
 have ho := hft.1
 have hlen := hVC.len
 unfold okLen at hlen
 refine qN (args := [.slice Ao mo co, .agg (dV o n H1 H2 (slice A m c)).toArray]) Tryd.func9 rfl Tryd.ntmps9 (by simp) ?_
 refine qD [0, 1] ?_
 iterate 2 refine gx ?_
 refine TL.box (qA rfl) rfl rfl rfl (cs := dV o n H1 H2 (slice A m c)) (by simp [Value.cells]) (tot := 67) (by simp [hH1, hH2]) (fun g1 hg1 => ?_)
 iterate 8 refine gx ?_
 refine qM (qA rfl) rfl enters20 rfl rfl (v := .bool true) (fun w hs => (fits8_c Ao mo co hco hmo o n H1 H2 hH1 hH2 A m c Cs hmm hN w (hC.at_ hs (fun b hb => (qC (by show g1 ≠ b; omega) qE))) (hD.at_ hs (fun b hb => (qC (by show g1 ≠ b; omega) qE))) bo bn).mono fun e w' h => by rw [decide_eq_true (p := o = (mo : Int) ∧ (faultI o n Cs).1 = 0) hft] at h; exact h) ?_
 iterate 3 refine gx ?_
 refine TC.no rfl ?_
 iterate 6 refine gx ?_
 refine TL.makeSlice1 (qA rfl) rfl rfl Tryd.underlying22 mk5 rfl rfl rfl (ln := ((n).toNat)) (cp := ((n).toNat)) (by omega) (by omega) (by omega) (by omega) (by omega) (fun g2 hg2 => ?_)
 rw [show List.replicate ((n).toNat) (.int .u8 0) = (List.replicate ((n).toNat) 0).map (int .u8) from (List.map_replicate ..).symm]
 iterate 3 refine gx ?_
 refine qD [0, 3, 4, 5] ?_
 iterate 10 refine gx ?_
 refine qk (ι := Nat × List Int) (fun x0 => [(0, .slice Ao mo co), (5, .slice (some ⟨g2, 0, none⟩) ((n).toNat) ((n).toNat)), (16, .slice A m c), (17, .int .i64 (m : Int)), (18, .int .i64 (x0.1 : Int))]) (fun x0 => [⟨g2, 5, x0.2.map (int .u8), n.toNat⟩, ⟨g1, 27, dV o n H1 H2 (slice A m c), 67⟩]) (fun x0 => m - x0.1) (fun x0 => x0.1 ≤ m ∧ putI B Cs n x0.1 x0.2) (0, List.replicate n.toNat 0) ⟨Nat.zero_le _, putI.zero B Cs n⟩ (qP (i := 0) rfl rfl (by first | omega | (dsimp only; omega) | rfl) (by first | omega | (dsimp only; omega) | rfl) (qP (i := 5) rfl rfl (by first | omega | (dsimp only; omega) | rfl) (by first | omega | (dsimp only; omega) | rfl) (qP (i := 16) rfl rfl (by first | omega | (dsimp only; omega) | rfl) (by first | omega | (dsimp only; omega) | rfl) (qG (i := 17) rfl (by first | omega | rfl) (qG (i := 18) rfl rfl (qO)))))) (fun w h => h) (fun x0 hC0 => ?_)
 obtain ⟨i, L0⟩ := x0
 obtain ⟨hC0, hpt⟩ := hC0
 dsimp only at hC0 hpt ⊢
 have hL0 := hpt.1
 iterate 6 refine gx ?_
 refine qQ rfl (fun hq0 => ?_) (fun hq0 => ?_)
 ·obtain ⟨x, hx⟩ := hC.get (i := i) (by omega)
  obtain ⟨b, off, hAe, hb, hrw⟩ := hC.some_ (i := i) (by omega)
  subst hAe
  have hnx := hN i x hx
  unfold NumC at hnx
  have hox := hVC.tidy.1 _ (List.mem_map_of_mem (f := tg) (List.mem_of_getElem? hx))
  unfold okT at hox
  have htx : (tg x).1 = x.t := rfl
  iterate 6 refine gx ?_
  refine qB (qA rfl) rfl (qc rfl Tryd.underlying25 size38 rfl rfl (i := i) (by omega) (by omega) (off' := (off + 5 * i)) (by omega)) ?_
  refine qB (qA rfl) rfl (qa rfl agg38 size38 rfl rfl (Row.old (fun jj u h => hrw i x hx jj u h) hb (qC (by show g2 ≠ b; omega) (qC (by show g1 ≠ b; omega) qE)))) ?_
  refine qW (fun g3 hg3 => ?_)
  iterate 3 refine gx ?_
  refine qD [0, 5, 7, 16, 17, 18] ?_
  refine TC.heap (H' := [⟨g3, 38, [int .i64 x.k, int .i64 x.t, int .i64 x.f, int .i64 x.l, slice x.A x.m x.c], 5⟩, ⟨g1, 27, [int .i64 o, int .i64 n] ++ (H1.map (int .u8) ++ (H2.map (int .u8) ++ ([slice (some ⟨b, off, none⟩) m c]))), 67⟩, ⟨g2, 5, L0.map (int .u8), n.toNat⟩]) (fun w h => h.perm (perm_pick (p := [0, 2, 1]) (by kernel_rfl) rfl)) ?_
  refine TC.heap (H' := [⟨g3, 38, [int .i64 x.k, int .i64 x.t, int .i64 x.f, int .i64 x.l, slice x.A x.m x.c], 5⟩, ⟨g1, 27, [int .i64 o, int .i64 n] ++ (H1.map (int .u8) ++ (H2.map (int .u8) ++ ([slice (some ⟨b, off, none⟩) m c]))), 67⟩] ++ ([⟨g2, 5, L0.map (int .u8), n.toNat⟩])) (fun w h => h) ?_
  refine TC.mixB (HB := [Ent.mk g3 38 ([int .i64 x.k, int .i64 x.t, int .i64 x.f, int .i64 x.l, slice x.A x.m x.c]) 5, Ent.mk g1 27 ([int .i64 o, int .i64 n] ++ (H1.map (int .u8) ++ (H2.map (int .u8) ++ ([slice (some ⟨b, off, none⟩) m c])))) 67]) (H := [Ent.mk g2 5 (L0.map (int .u8)) n.toNat]) (by kernel_rfl) [0, 0, 0, 0, 0, 0, 3, 3] [0, 1, 2, 3, 4, 5, 6, 7] (by kernel_rfl) ?_
  refine TP.free (qA rfl) rfl (fun _ => qr rfl rfl) ?_
  refine TP.free (qA rfl) rfl (fun _ => Gets.fieldAddr rfl Tryd.underlying38 rfl size3 rfl (off' := 1) (by first | rfl | omega)) ?_
  refine TP.stay (qA rfl) rfl (fun H' => qJ rfl agg3 rfl (qR (i := 0) (ent := ⟨g3, 38, [int .i64 x.k, int .i64 x.t, int .i64 x.f, int .i64 x.l, slice x.A x.m x.c], 5⟩) (off := 1) rfl rfl (by exact rfl))) ?_
  refine TP.free (qA rfl) rfl (fun _ => qu rfl Tryd.underlying22 size5 rfl (bnd.at_ (l := ((x.t).toNat)) rfl (by omega)) bnd.dflt (by omega) (by omega) (A' := some ⟨g2, ((x.t).toNat), none⟩) (cut_is (by omega) (by omega)) (ln := ((n).toNat - (x.t).toNat)) (cp := ((n).toNat - (x.t).toNat)) (by omega) (by omega)) ?_
  refine TP.free (qA rfl) rfl (fun _ => qr rfl rfl) ?_
  refine TP.stay (qA rfl) rfl (fun H' => qa rfl agg38 size38 rfl (vs := [int .i64 x.k, int .i64 x.t, int .i64 x.f, int .i64 x.l, slice x.A x.m x.c]) (by simp []) (qS (i := 0) (ent := ⟨g3, 38, [int .i64 x.k, int .i64 x.t, int .i64 x.f, int .i64 x.l, slice x.A x.m x.c], 5⟩) rfl rfl rfl)) ?_
  refine TP.call (ι := Unit) (V := fun _ => contV Ao co x) (R := fun _ => True) (H' := fun _ => [⟨g2, 5, L0.map (int .u8), n.toNat⟩]) (qA rfl) rfl enters21 rfl rfl (fun w hs => (content_c Ao mo co hmo hco o n Cs i x hVC hx ho w).mono fun e w' ⟨he, hw⟩ => ⟨(), he, trivial, hs.call' hw⟩) (fun _ _ => ?_)
  obtain ⟨Ac, mc, cc, hcv, hcsrc, hcm, hcc, hcl⟩ := contV_src (Ao := Ao) (co := co) hVC hx hsB ho hmo hco (hD i x hx).1 (hN i x hx)
  rw [hcv]
  have hnew : (L0.take x.t.toNat ++ segP B (valC x) ++ L0.drop (x.t.toNat + (segP B (valC x)).length)).length = n.toNat := (putI.next hpt hVC hx (hD i x hx).1.1.symm (by rw [hsB.1]; exact ho.symm)).1
  have hsl : (segP B (valC x)).length = mc := hcsrc.1
  refine TP.copyP (qA rfl) rfl rfl Tryd.underlying22 size5 rfl rfl (i := 2) (ent := ⟨g2, 5, L0.map (int .u8), n.toNat⟩) rfl rfl (by simp only [List.length_map]; omega) (fun w hs => hcsrc.at_ hs (fun b hb => (qU (qC (by show g3 ≠ b; omega) (qC (by show g1 ≠ b; omega) qE)) (qC (by show g2 ≠ b; omega) qE)))) (c := mc) (by omega) (cs' := (L0.take x.t.toNat ++ segP B (valC x) ++ L0.drop (x.t.toNat + (segP B (valC x)).length)).map (int .u8)) (by show (L0.map (int .u8)).take x.t.toNat ++ ((segP B (valC x)).take mc).map (int .u8) ++ (L0.map (int .u8)).drop (x.t.toNat + mc) = _; rw [List.take_of_length_le (l := segP B (valC x)) (by omega), ← List.map_take, ← List.map_drop, ← List.map_append, ← List.map_append, hsl]) (H' := [⟨g2, 5, (L0.take x.t.toNat ++ segP B (valC x) ++ L0.drop (x.t.toNat + (segP B (valC x)).length)).map (int .u8), n.toNat⟩]) rfl ?_
  refine TP.nil ?_
  refine TE.heap (H' := [⟨g3, 38, [int .i64 x.k, int .i64 x.t, int .i64 x.f, int .i64 x.l, slice x.A x.m x.c], 5⟩, ⟨g1, 27, [int .i64 o, int .i64 n] ++ (H1.map (int .u8) ++ (H2.map (int .u8) ++ ([slice (some ⟨b, off, none⟩) m c]))), 67⟩, ⟨g2, 5, (L0.take x.t.toNat ++ segP B (valC x) ++ L0.drop (x.t.toNat + (segP B (valC x)).length)).map (int .u8), n.toNat⟩]) (fun w h => h) ?_
  iterate 2 refine gx ?_
  refine qD [0, 5, 16, 17, 18] ?_
  refine gx ?_
  refine qB (qA rfl) rfl (qT rfl rfl rfl (r := ((i : Int) + 1)) (w64 (by omega) (by omega))) ?_
  iterate 2 refine gx ?_
  exact qj (i + 1, (L0.take x.t.toNat ++ segP B (valC x) ++ L0.drop (x.t.toNat + (segP B (valC x)).length))) (by show m - (i + 1) < m - i; omega) ⟨by show i + 1 ≤ m; omega, putI.next hpt hVC hx (hD i x hx).1.1.symm (by rw [hsB.1]; exact ho.symm)⟩ (qP (i := 0) rfl rfl (by first | omega | (dsimp only; omega) | rfl) (by first | omega | (dsimp only; omega) | rfl) (qP (i := 5) rfl rfl (by first | omega | (dsimp only; omega) | rfl) (by first | omega | (dsimp only; omega) | rfl) (qP (i := 16) rfl (by first | rfl | (congr 2; omega)) (by first | omega | (dsimp only; omega) | rfl) (by first | omega | (dsimp only; omega) | rfl) (qG (i := 17) rfl (by first | omega | rfl) (qG (i := 18) rfl rfl (qO)))))) (fun w h => ((h.erase (i := 0) rfl (by assumption)).perm (perm_pick (p := [1, 0]) (by kernel_rfl) rfl)))
 ·iterate 12 refine gx ?_
  exact qK rfl rfl (fun w hs => ⟨g2, rfl, by assumption, by rw [← putI.done hpt hVC (by have := hC.1; omega)]; exact (hs.erase (i := 1) rfl (by assumption))⟩)
/-
 The code of layer 8: Byte.
-/
/-
 The code of layer 8: contents.
-/
theorem enters35 : Enters Tryd.prog 35 := ⟨_, Tryd.func35, by kernel_rfl, by kernel_rfl⟩
theorem mk22 : (Tryd.prog.info? 22).map (fun i => (i.zero, i.size, i.bytes)) = some (some (.slice none 0 0), 1, 24) := by kernel_rfl
structure PsS where
 i : Nat
 v : Value
 He : List Ent
theorem d_field {a b v : Value} {D1 D2 : List Int} (h1 : D1.length = 32) (h2 : D2.length = 32) : ([a, b] ++ (D1.map (int .u8) ++ (D2.map (int .u8) ++ [v])))[66]? = some v := by
 rw [List.getElem?_append_right (by simp), List.getElem?_append_right (by simp [h1]), List.getElem?_append_right (by simp [h1, h2])]
 simp [h1, h2]
theorem contV_form (Ao : Option Addr) (co : Nat) (x : CV) : ∃ A m c, contV Ao co x = .slice A m c := by
 unfold contV
 by_cases h : x.k = 1
 ·rw [if_pos h]; exact ⟨_, _, _, rfl⟩
 ·rw [if_neg h]; exact ⟨_, _, _, rfl⟩
theorem take_cont {Ao : Option Addr} {co i : Nat} {x : CV} {Fs : List CV} (hx : Fs[i]? = some x) : (Fs.take (i + 1)).map (contV Ao co) = (Fs.take i).map (contV Ao co) ++ [contV Ao co x] := by
 obtain ⟨h1, rfl⟩ := List.getElem?_eq_some_iff.1 hx
 rw [List.take_succ_eq_append_getElem h1, List.map_append]; rfl
theorem parts_cont {w : World} {N m c mo co : Nat} {t : TypeId} {A Ao : Option Addr} {B : List Int} {o n : Int} {Fs : List CV} {He : List Ent} (hown : OwnS N t 1 (.slice A m c) m ((Fs.take m).map (contV Ao co)) He) (hl : ∀ e ∈ He, e.lies w) (hF : Fs.length = m) (hVF : ValidC o n Fs) (hsB : Src w Ao mo .u8 B) (ho : o = mo) (hmo : mo ≤ co) (hco : co ≤ 9223372036854775807) (hD : DatC w Fs) (hN : NumsC Fs) : PartsO w A m (Fs.map fun x => segP B (valC x)) := by
 refine ⟨by rw [List.length_map, hF], ?_⟩
 by_cases h0 : m = 0
 ·exact .inl h0
 ·obtain ⟨g, rfl, _, hHe, hg, _⟩ := hown.at0 (by omega)
  have hlie := hl ⟨g, t, (Fs.take m).map (contV Ao co), c * 1⟩ (by rw [hHe]; exact List.mem_cons_self)
  refine .inr ⟨g, 0, rfl, hlie.lt, fun i hi => ?_⟩
  obtain ⟨x, hx⟩ : ∃ x, Fs[i]? = some x := ⟨_, List.getElem?_eq_getElem (by omega)⟩
  obtain ⟨Ai, mi, ci, h1, h2, h3, _⟩ := contV_src (Ao := Ao) (co := co) hVF hx hsB ho hmo hco (hD i x hx).1 (hN i x hx)
  refine ⟨Ai, mi, ci, ?_, ?_, h3⟩
  ·rw [← h1]
   have := hlie.cell (o := i) (v := contV Ao co x) (by show ((Fs.take m).map (contV Ao co))[i]? = _; rw [List.getElem?_map, List.getElem?_take_of_lt hi, hx]; rfl)
   rw [Nat.zero_add]; exact this
  ·rw [show (Fs.map fun x => segP B (valC x)).getD i [] = segP B (valC x) by rw [List.getD_eq_getElem?_getD, List.getElem?_map, hx]; rfl]
   exact h2
theorem parts_flat {B : List Int} {o n : Int} {Cs Fs Gs : List CV} (hVC : ValidC o n Cs) (hp : Gs.Perm Cs) (hs : Gs.Pairwise leC) (hsm : sameE Fs Gs) (hm : ∀ x ∈ Cs, x.m = x.B.length) (hB : (B.length : Int) = o) : (Fs.map fun x => segP B (valC x)).flatten = newB B Cs n := by
 have hVG : ValidC o n Gs := validC (by rw [hVC.permV hp])
 have hmG : ∀ x ∈ Gs, x.m = x.B.length := fun x hx => hm x (hp.mem_iff.1 hx)
 obtain ⟨hc, hsum⟩ := hVC.chain hp hs
 have h1 := byte_chain (old := B) hVG.tidy (fun x hx => by
  obtain ⟨i, hi⟩ := List.getElem?_of_mem hx
  exact ⟨vokp hVG hi (hmG x hx) hB, hmG x hx⟩) Gs [] 0 rfl hc
 rw [hsum] at h1
 have h2 : Fs.map valC = Gs.map valC := by
  have h3 := congrArg (List.map Prod.fst) (show Fs.map keyE = Gs.map keyE from hsm)
  rw [List.map_map, List.map_map] at h3
  exact h3
 rw [show (Fs.map fun x => segP B (valC x)) = (Fs.map valC).map (segP B) by rw [List.map_map]; rfl, h2, ← h1, ← newB_perm hVC hp.symm]
 unfold newB
 rw [List.range_eq_range']
theorem contents_c (B : List Int) (Ao : Option Addr) (mo co : Nat) (hmo : mo ≤ co) (hco : co ≤ 9223372036854775807) (o n : Int) (H1 H2 : List Int) (hH1 : H1.length = 32) (hH2 : H2.length = 32) (A : Option Addr) (m c : Nat) (Cs : List CV) (hmm : m ≤ 1000000000) (hN : NumsC Cs) (w : World) (hC : SrcC w A m Cs) (hD : DatC w Cs) (hf : fewQ Cs) (hsB : Src w Ao mo .u8 B) (bo : -9223372036854775808 ≤ o ∧ o ≤ 9223372036854775807) (bn : -9223372036854775808 ≤ n ∧ n ≤ 9223372036854775807) (hVC : ValidC o n Cs) (ho : o = mo)  : Calls Tryd.prog 19 #[.slice Ao mo co, .agg (dV o n H1 H2 (slice A m c)).toArray] w fun e w' => ∃ A' c' Ps He, e = .returned (.slice A' m c') ∧ (m ≤ c' ∧ c' ≤ 9223372036854775807) ∧ (∀ e ∈ He, w.heap.size ≤ e.g) ∧ Ps.flatten = newB B Cs n ∧ (∀ w2 : World, (∀ e ∈ He, e.lies w2) → Src w2 Ao mo .u8 B → PartsO w2 A' m Ps) ∧ St w He w' := by
 refine qN (args := [.slice Ao mo co, .agg (dV o n H1 H2 (slice A m c)).toArray]) Tryd.func19 rfl Tryd.ntmps19 (by simp) ?_
 refine qD [0, 1] ?_
 iterate 2 refine gx ?_
 refine TL.box (qA rfl) rfl rfl rfl (cs := dV o n H1 H2 (slice A m c)) (by simp [Value.cells]) (tot := 67) (by simp [hH1, hH2]) (fun g1 hg1 => ?_)
 iterate 12 refine gx ?_
 refine qg (ι := (Option Addr × Nat) × (List CV × List Ent)) (V := fun y => .agg (dV o n H1 H2 (slice y.1.1 m y.1.2)).toArray) (R := fun y => (m ≤ y.1.2 ∧ y.1.2 ≤ 9223372036854775807) ∧ OwnD w.heap.size y.1.1 m y.2.1 y.2.2 ∧ ∃ Gs : List CV, Gs.Perm Cs ∧ Gs.Pairwise leC ∧ sameE y.2.1 Gs) (H' := fun y => [⟨g1, 27, dV o n H1 H2 (slice A m c), 67⟩] ++ y.2.2) (qA rfl) rfl enters35 rfl rfl (fun w hs => (dsort_c o n H1 H2 hH1 hH2 A m c Cs hmm hN w (hC.at_ hs (fun b hb => (qC (by show g1 ≠ b; omega) qE))) (hD.at_ hs (fun b hb => (qC (by show g1 ≠ b; omega) qE))) hf hVC).mono fun e w' ⟨A', c', Fs, He, he, hc, ho, hsm, hw⟩ => ⟨((A', c'), (Fs, He)), he, ⟨hc, ho.mono hs.size, hsm⟩, st_call hs hw ho.1⟩) (fun y hR => ?_)
 obtain ⟨⟨As, cs⟩, Fs, Hw⟩ := y
 obtain ⟨hcs, hos, Gs, hGp, hGs, hsms⟩ := hR
 dsimp only at hcs hos hsms ⊢
 have hFw : Fresh w Hw := hos.1
 have hvG := hVC.permV hGp
 have hvF : faultI o n Fs = (0, 0) := by rw [faultI_same hsms]; exact hvG
 have hVF := validC (o := o) (n := n) (Cs := Fs) (by rw [hvF])
 have hFl : Fs.length = m := by rw [hsms.len, hGp.length_eq]; exact hC.1
 refine qB (qA rfl) rfl (Gets.field1 rfl Tryd.underlying27 rfl rfl agg25 (d_field hH1 hH2)) ?_
 iterate 4 refine gx ?_
 refine qD [0, 4, 5, 10, 11, 12] ?_
 refine gx ?_
 refine qk (ι := PsS) (fun x0 => [(0, .slice Ao mo co), (5, x0.v), (10, .slice As m cs), (11, .int .i64 (m : Int)), (12, .int .i64 (x0.i : Int))]) (fun x0 => [⟨g1, 27, dV o n H1 H2 (slice A m c), 67⟩] ++ (Hw ++ x0.He)) (fun x0 => m - x0.i) (fun x0 => OwnS w.heap.size 22 1 x0.v x0.i ((Fs.take x0.i).map (contV Ao co)) x0.He ∧ x0.i ≤ m) (⟨0, .slice none 0 0, []⟩ : PsS) ⟨OwnS.nil _ _ _, Nat.zero_le _⟩ (qP (i := 0) rfl rfl (by first | omega | (dsimp only; omega) | rfl) (by first | omega | (dsimp only; omega) | rfl) (qI (i := 5) rfl (qP (i := 10) rfl rfl (by first | omega | (dsimp only; omega) | rfl) (by first | omega | (dsimp only; omega) | rfl) (qG (i := 11) rfl (by first | omega | rfl) (qG (i := 12) rfl rfl (qO)))))) (fun w h => by rw [List.append_nil]; exact h) (fun x0 hC0 => ?_)
 obtain ⟨i, v, He⟩ := x0
 obtain ⟨hown, him⟩ := hC0
 dsimp only at hown him ⊢
 have hF : Fresh w (Hw ++ He) := ql hFw hown.new
 obtain ⟨Ap, cp, rfl, hcp, hcp2⟩ := hown.form
 iterate 6 refine gx ?_
 refine qQ rfl (fun hq0 => ?_) (fun hq0 => ?_)
 ·obtain ⟨x, hx⟩ : ∃ x, Fs[i]? = some x := ⟨_, List.getElem?_eq_getElem (by omega)⟩
  obtain ⟨b, off, hAe⟩ := hos.addr (by omega)
  subst hAe
  have hnx := hos.num i x hx
  unfold NumC at hnx
  iterate 6 refine gx ?_
  refine qB (qA rfl) rfl (qc rfl Tryd.underlying25 size38 rfl rfl (i := i) (by omega) (by omega) (off' := (off + 5 * i)) (by omega)) ?_
  refine qB (qA rfl) rfl (qa rfl agg38 size38 rfl (vs := cellsC x) rfl (b := b) (off := off + 5 * i) (fun w hs j u hj => (hos.rows (by omega) (fun e he => hs.has e (by simp [he]))) i x hx j u hj)) ?_
  refine qW (fun g2 hg2 => ?_)
  refine qs (qA rfl) rfl rfl size38 rfl (vs := [int .i64 x.k, int .i64 x.t, int .i64 x.f, int .i64 x.l, slice x.A x.m x.c]) rfl (by simp []) (by simp [Value.oneCell']) (i := 0) (ent := ⟨g2, 38, [int .i64 0, int .i64 0, int .i64 0, int .i64 0, slice none 0 0], 5⟩) rfl rfl (by simp []) (H' := [⟨g2, 38, [int .i64 x.k, int .i64 x.t, int .i64 x.f, int .i64 x.l, slice x.A x.m x.c], 5⟩, ⟨g1, 27, dV o n H1 H2 (slice A m c), 67⟩] ++ (Hw ++ He)) rfl ?_
  iterate 2 refine gx ?_
  refine qD [0, 5, 7, 10, 11, 12] ?_
  iterate 4 refine gx ?_
  refine qM (qA rfl) rfl enters21 rfl rfl (v := contV Ao co x) (fun w hs => content_c Ao mo co hmo hco o n Fs i x hVF hx ho w) ?_
  obtain ⟨Ac, mc, cc, hcv⟩ := contV_form Ao co x
  rw [hcv]
  refine qw (qA rfl) rfl rfl Tryd.underlying52 size22 zero22 rfl (by decide) (by decide) (cells := #[.slice Ac mc cc]) (tot := 1) (by kernel_rfl) (cs := [.slice Ac mc cc]) rfl rfl (fun g3 hg3 => ?_)
  refine TL.heap (H' := ([Ent.mk g3 22 ([slice Ac mc cc]) 1, Ent.mk g2 38 ([int .i64 x.k, int .i64 x.t, int .i64 x.f, int .i64 x.l, slice x.A x.m x.c]) 5, Ent.mk g1 27 (dV o n H1 H2 (slice A m c)) 67] ++ Hw) ++ He) (fun w h => by rw [List.append_assoc]; exact h) ?_
  refine TL.appendS (H := [Ent.mk g3 22 ([slice Ac mc cc]) 1, Ent.mk g2 38 ([int .i64 x.k, int .i64 x.t, int .i64 x.f, int .i64 x.l, slice x.A x.m x.c]) 5, Ent.mk g1 27 (dV o n H1 H2 (slice A m c)) 67] ++ Hw) (He := He) (qA rfl) rfl rfl Tryd.underlying52 mk22 rfl (by decide) rfl rfl (s := 1) (nn := i) (m := 1) (cs := (Fs.take i).map (contV Ao co)) (news := [.slice Ac mc cc]) hown rfl (fun w hs => lies_srcV (hs.has (Ent.mk g3 22 ([slice Ac mc cc]) 1) (by simp))) (by intro u hu; rw [List.mem_singleton.1 hu]; rfl) (by unfold maxLen; omega) (by omega) (fun v2 He2 hown2 => ?_)
  refine TL.heap (H' := [Ent.mk g3 22 ([slice Ac mc cc]) 1, Ent.mk g2 38 ([int .i64 x.k, int .i64 x.t, int .i64 x.f, int .i64 x.l, slice x.A x.m x.c]) 5, Ent.mk g1 27 (dV o n H1 H2 (slice A m c)) 67] ++ (Hw ++ He2)) (fun w h => by rw [← List.append_assoc]; exact h) ?_
  rw [← hcv, ← take_cont hx] at hown2
  have hF2 : Fresh w (Hw ++ He2) := ql hFw hown2.new
  iterate 4 refine gx ?_
  refine qD [0, 5, 10, 11, 12] ?_
  refine gx ?_
  refine qB (qA rfl) rfl (qT rfl rfl rfl (r := ((i : Int) + 1)) (w64 (by omega) (by omega))) ?_
  iterate 2 refine gx ?_
  exact qj (⟨i + 1, v2, He2⟩ : PsS) (by show m - (i + 1) < m - i; omega) ⟨hown2, (by show i + 1 ≤ m; omega)⟩ (qP (i := 0) rfl rfl (by first | omega | (dsimp only; omega) | rfl) (by first | omega | (dsimp only; omega) | rfl) (qI (i := 5) rfl (qP (i := 10) rfl (by first | rfl | (congr 2; omega)) (by first | omega | (dsimp only; omega) | rfl) (by first | omega | (dsimp only; omega) | rfl) (qG (i := 11) rfl (by first | omega | rfl) (qG (i := 12) rfl rfl (qO)))))) (fun w h => ((h.erase (i := 1) rfl (by assumption)).erase (i := 0) rfl (by assumption)))
 ·iterate 12 refine gx ?_
  obtain rfl : m = i := by omega
  exact qK rfl rfl (fun w hs => ⟨Ap, cp, _, Hw ++ He, rfl, ⟨hcp, hcp2⟩, fun e he => hF e he, parts_flat hVC hGp hGs hsms (fun x hx => by obtain ⟨i, hi⟩ := List.getElem?_of_mem hx; exact (hD i x hi).1.1.symm) (by rw [hsB.1]; exact ho.symm), fun w2 hl2 hs2 => parts_cont hown (fun e he => hl2 e (List.mem_append_right _ he)) hFl hVF hs2 ho hmo hco (hos.dat (fun e he => hl2 e (List.mem_append_left _ he))) hos.num, (hs.erase (i := 0) rfl (by assumption))⟩)
/-
 The code of layer 8: Verify.
-/
theorem enters19 : Enters Tryd.prog 19 := ⟨_, Tryd.func19, by kernel_rfl, by kernel_rfl⟩
theorem geq24 : Tryd.prog.eqGuardType Tryd.prog.depth 24 = false := by kernel_rfl
instance : AgY Tryd.prog 32 := ⟨agg32⟩
theorem verify8_c (B : List Int) (Ao : Option Addr) (mo co : Nat) (hmo : mo ≤ co) (hco : co ≤ 9223372036854775807) (hmo3 : mo ≤ 1000000) (o n : Int) (H1 H2 : List Int) (hH1 : H1.length = 32) (hH2 : H2.length = 32) (A : Option Addr) (m c : Nat) (Cs : List CV) (hmm : m ≤ 1000000000) (hN : NumsC Cs) (w : World) (hC : SrcC w A m Cs) (hD : DatC w Cs) (hf : fewQ Cs) (hsB : Src w Ao mo .u8 B) (hn : n ≤ 1000000000) (bo : -9223372036854775808 ≤ o ∧ o ≤ 9223372036854775807) (bn : -9223372036854775808 ≤ n ∧ n ≤ 9223372036854775807) (h1 : 2 < w.heap.size) (hIV : RowI w 1 0 8 .u32 IV) (hK : RowI w 2 0 64 .u32 KT) : Calls Tryd.prog 7 #[.slice Ao mo co, .agg (dV o n H1 H2 (slice A m c)).toArray] w fun e w' => e = .returned (.agg ([int .i64 ((verI B mo o n H1 H2 Cs).1), int .i64 ((verI B mo o n H1 H2 Cs).2)]).toArray) ∧ St w [] w' := by
 have hmo2 := hsB.1
 refine qN (args := [.slice Ao mo co, .agg (dV o n H1 H2 (slice A m c)).toArray]) Tryd.func7 rfl Tryd.ntmps7 (by simp) ?_
 refine qD [0, 1] ?_
 iterate 2 refine gx ?_
 refine TL.box (qA rfl) rfl rfl rfl (cs := dV o n H1 H2 (slice A m c)) (by simp [Value.cells]) (tot := 67) (by simp [hH1, hH2]) (fun g1 hg1 => ?_)
 refine qW (fun g2 hg2 => ?_)
 iterate 6 refine gx ?_
 refine qM (qA rfl) rfl enters17 rfl rfl (v := .agg ([int .i64 ((faultI o n Cs).1), int .i64 ((faultI o n Cs).2)]).toArray) (fun w hs => dcheck_c o n H1 H2 hH1 hH2 A m c Cs hmm hN w (hC.at_ hs (fun b hb => (qC (by show g2 ≠ b; omega) (qC (by show g1 ≠ b; omega) qE)))) (hD.at_ hs (fun b hb => (qC (by show g2 ≠ b; omega) (qC (by show g1 ≠ b; omega) qE)))) bo bn) ?_
 refine qW (fun g3 hg3 => ?_)
 iterate 6 refine gx ?_
 refine qB (qA rfl) rfl (qf rfl (vs := []) rfl (fun w => by first | rfl | kernel_rfl) (v := .agg ([int .i64 0, int .i64 0]).toArray)) ?_
 refine qB (qA rfl) rfl (Gets.pairNe rfl Tryd.underlying32 (by decide) (by decide) rfl rfl Tryd.underlying30 Tryd.underlying3 sih32 geq32 rfl rfl) ?_
 iterate 2 refine gx ?_
 refine qD [0, 3, 4, 5, 10] ?_
 refine qQ rfl (fun c1q => ?_) (fun c1q => ?_)
 ·have c1 : (faultI o n Cs).1 ≠ 0 := fun h => c1q ⟨h, fault_zero h⟩
  iterate 8 refine gx ?_
  exact qb rfl agg32 size32 rfl (vs := [int .i64 ((faultI o n Cs).1), int .i64 ((faultI o n Cs).2)]) (by simp []) (qS (i := 1) (ent := ⟨g2, 32, [int .i64 ((faultI o n Cs).1), int .i64 ((faultI o n Cs).2)], 2⟩) rfl rfl rfl) (fun w hs => ⟨by rw [verI_1 c1] <;> rfl, ((((hs.drop (by assumption)).drop (by assumption)).drop (by assumption)))⟩)
 ·have c1 : ¬ (faultI o n Cs).1 ≠ 0 := fun h => h (Classical.not_not.1 c1q).1
  have hVC : ValidC o n Cs := validC (by omega)
  iterate 11 refine gx ?_
  by_cases c2 : o ≠ (mo : Int)
  ·refine qB (qA rfl) rfl (qh (Gets.assign rfl rfl) c2) ?_
   iterate 2 refine gx ?_
   refine qD [0, 3, 4, 12] ?_
   refine TC.yes rfl ?_
   iterate 4 refine gx ?_
   refine qB (qA rfl) rfl (qf rfl (vs := [(0, int .i64 13), (1, int .i64 (mo : Int))]) rfl (fun w => by first | rfl | kernel_rfl) (v := .agg ([int .i64 13, int .i64 (mo : Int)]).toArray)) ?_
   iterate 6 refine gx ?_
   exact qb rfl agg32 size32 rfl (vs := [int .i64 13, int .i64 (mo : Int)]) (by simp []) (qS (i := 1) (ent := ⟨g2, 32, [int .i64 13, int .i64 (mo : Int)], 2⟩) rfl rfl rfl) (fun w hs => ⟨by rw [verI_2 c1 c2] <;> rfl, ((((hs.drop (by assumption)).drop (by assumption)).drop (by assumption)))⟩)
  ·have hoo : o = (mo : Int) := by omega
   refine qB (qA rfl) rfl (qi (Gets.assign rfl rfl) c2) ?_
   iterate 2 refine gx ?_
   refine qD [0, 3, 4, 12] ?_
   refine TC.no rfl ?_
   refine gx ?_
   refine TC.heap (H' := [⟨g3, 32, [int .i64 ((faultI o n Cs).1), int .i64 ((faultI o n Cs).2)], 2⟩, ⟨g2, 32, [int .i64 0, int .i64 0], 2⟩, ⟨g1, 27, dV o n H1 H2 (slice A m c), 67⟩] ++ ([])) (fun w h => h) ?_
   refine TC.mixB (HB := [Ent.mk g3 32 ([int .i64 ((faultI o n Cs).1), int .i64 ((faultI o n Cs).2)]) 2, Ent.mk g2 32 ([int .i64 0, int .i64 0]) 2, Ent.mk g1 27 (dV o n H1 H2 (slice A m c)) 67]) (H := []) (by kernel_rfl) [0, 0, 0, 3, 3, 0, 0] [0, 1, 2, 3, 4, 5, 6] (by kernel_rfl) ?_
   refine TP.free (qA rfl) rfl (fun _ => Gets.fieldAddr rfl Tryd.underlying27 rfl size24 rfl (off' := 2) (by first | rfl | omega)) ?_
   refine TP.stay (qA rfl) rfl (fun H' => qa rfl agg24 size24 rfl (vs := H1.map (int .u8)) (by simp [hH1]) (Row.part (i := 2) (ent := ⟨g1, 27, dV o n H1 H2 (slice A m c), 67⟩) rfl rfl (by exact seg_mid (by simp [])))) ?_
   refine TP.free (qA rfl) rfl (fun _ => qr rfl rfl) ?_
   refine TP.buildSlice (qA rfl) rfl rfl Tryd.underlying52 size22 zero22 rfl (by decide) (by decide) (cells := #[.slice Ao mo co]) (tot := 1) (by kernel_rfl) (cs := [.slice Ao mo co]) rfl rfl (fun g4 hg4 => ?_)
   refine TP.call0 (qA rfl) rfl enters18 rfl rfl (v := .agg ((shaM B).map (int .u8)).toArray) (fun w hs => of_m [B] B (by simp) (some ⟨g4, 0, none⟩) 1 1 w (parts_one (hs.has (⟨g4, 22, [slice Ao mo co], 1⟩) (List.mem_of_getElem? (i := 3) rfl)) (hsB.at_ hs (fun b hb => (qU (qC (by show g3 ≠ b; omega) (qC (by show g2 ≠ b; omega) (qC (by show g1 ≠ b; omega) qE))) (qC (by show g4 ≠ b; omega) qE)))) (by omega)) (by omega) (by omega) (by have h1 := hsB.1; omega) (Nat.lt_of_lt_of_le h1 hs.size) (hIV.keepH hs (by omega) (qU (qC (by show g3 ≠ 1; omega) (qC (by show g2 ≠ 1; omega) (qC (by show g1 ≠ 1; omega) qE))) (qC (by show g4 ≠ 1; omega) qE))) (hK.keepH hs h1 (qU (qC (by show g3 ≠ 2; omega) (qC (by show g2 ≠ 2; omega) (qC (by show g1 ≠ 2; omega) qE))) (qC (by show g4 ≠ 2; omega) qE)))) ?_
   refine TP.free (qA rfl) rfl (fun _ => Gets.arrNe rfl Tryd.underlying24 Tryd.underlying5 size5 geq24 rfl rfl hH1 (shaM_len B)) ?_
   refine TP.free (qA rfl) rfl (fun _ => Gets.assign rfl rfl) ?_
   refine TP.nil ?_
   refine TE.heap (H' := [⟨g3, 32, [int .i64 ((faultI o n Cs).1), int .i64 ((faultI o n Cs).2)], 2⟩, ⟨g2, 32, [int .i64 0, int .i64 0], 2⟩, ⟨g1, 27, dV o n H1 H2 (slice A m c), 67⟩, ⟨g4, 22, [slice Ao mo co], 1⟩]) (fun w h => h) ?_
   refine gx ?_
   refine qD [0, 3, 4, 21] ?_
   refine qQ rfl (fun c3q => ?_) (fun c3q => ?_)
   ·have c3 := Ne.symm c3q
    iterate 2 refine gx ?_
    refine qB (qA rfl) rfl (qf rfl (vs := [(0, int .i64 14)]) rfl (fun w => by first | rfl | kernel_rfl) (v := .agg ([int .i64 14, int .i64 0]).toArray)) ?_
    iterate 6 refine gx ?_
    exact qb rfl agg32 size32 rfl (vs := [int .i64 14, int .i64 0]) (by simp []) (qS (i := 1) (ent := ⟨g2, 32, [int .i64 14, int .i64 0], 2⟩) rfl rfl rfl) (fun w hs => ⟨by rw [verI_3 c1 c2 c3] <;> rfl, (((((hs.drop (by assumption)).drop (by assumption)).drop (by assumption)).drop (by assumption)))⟩)
   ·have c3 := fun h : shaM B ≠ H1 => c3q (Ne.symm h)
    refine gx ?_
    refine TC.heap (H' := [⟨g3, 32, [int .i64 ((faultI o n Cs).1), int .i64 ((faultI o n Cs).2)], 2⟩, ⟨g2, 32, [int .i64 0, int .i64 0], 2⟩, ⟨g1, 27, dV o n H1 H2 (slice A m c), 67⟩, ⟨g4, 22, [slice Ao mo co], 1⟩] ++ ([])) (fun w h => h) ?_
    refine TC.mixB (HB := [Ent.mk g3 32 ([int .i64 ((faultI o n Cs).1), int .i64 ((faultI o n Cs).2)]) 2, Ent.mk g2 32 ([int .i64 0, int .i64 0]) 2, Ent.mk g1 27 (dV o n H1 H2 (slice A m c)) 67, Ent.mk g4 22 ([slice Ao mo co]) 1]) (H := []) (by kernel_rfl) [0, 0, 0, 0, 3, 3, 0, 0] [0, 1, 2, 3, 4, 5, 6, 7] (by kernel_rfl) ?_
    refine TP.free (qA rfl) rfl (fun _ => Gets.fieldAddr rfl Tryd.underlying27 rfl size24 rfl (off' := 34) (by first | rfl | omega)) ?_
    refine TP.stay (qA rfl) rfl (fun H' => qa rfl agg24 size24 rfl (vs := H2.map (int .u8)) (by simp [hH2]) (Row.part (i := 2) (ent := ⟨g1, 27, [int .i64 o, int .i64 n] ++ (H1.map (int .u8) ++ (H2.map (int .u8) ++ ([slice A m c]))), 67⟩) rfl rfl (by rw [← List.append_assoc]; exact seg_mid (by simp [hH1])))) ?_
    refine TP.free (qA rfl) rfl (fun _ => qr rfl rfl) ?_
    refine TP.stay (qA rfl) rfl (fun H' => qa rfl agg27 size27 rfl (vs := dV o n H1 H2 (slice A m c)) (by simp [hH1, hH2]) (qS (i := 2) (ent := ⟨g1, 27, dV o n H1 H2 (slice A m c), 67⟩) rfl rfl rfl)) ?_
    refine TP.call (ι := (Option Addr × Nat) × (List (List Int) × List Ent)) (V := fun y => .slice y.1.1 m y.1.2) (R := fun y => (m ≤ y.1.2 ∧ y.1.2 ≤ 9223372036854775807) ∧ (∀ e ∈ y.2.2, w.heap.size ≤ e.g) ∧ y.2.1.flatten = newB B Cs n ∧ (∀ w2 : World, (∀ e ∈ y.2.2, e.lies w2) → Src w2 Ao mo .u8 B → PartsO w2 y.1.1 m y.2.1)) (H' := fun y => [] ++ y.2.2) (qA rfl) rfl enters19 rfl rfl (fun w hs => (contents_c B Ao mo co hmo hco o n H1 H2 hH1 hH2 A m c Cs hmm hN w (hC.at_ hs (fun b hb => (qU (qC (by show g3 ≠ b; omega) (qC (by show g2 ≠ b; omega) (qC (by show g1 ≠ b; omega) (qC (by show g4 ≠ b; omega) qE)))) qE))) (hD.at_ hs (fun b hb => (qU (qC (by show g3 ≠ b; omega) (qC (by show g2 ≠ b; omega) (qC (by show g1 ≠ b; omega) (qC (by show g4 ≠ b; omega) qE)))) qE))) hf (hsB.at_ hs (fun b hb => (qU (qC (by show g3 ≠ b; omega) (qC (by show g2 ≠ b; omega) (qC (by show g1 ≠ b; omega) (qC (by show g4 ≠ b; omega) qE)))) qE))) bo bn hVC hoo).mono fun e w' ⟨A', c', Ps, He, he, hc, hf, hfl, hp, hw⟩ => ⟨((A', c'), (Ps, He)), he, ⟨hc, fun e he => Nat.le_trans hs.size (hf e he), hfl, hp⟩, by rw [← List.append_assoc]; exact st_call hs hw hf⟩) (fun y hR => ?_)
    obtain ⟨⟨Ac, cc⟩, Ps, Hp⟩ := y
    obtain ⟨hcc, hFp, hPf, hPs⟩ := hR
    dsimp only at hcc hFp hPf hPs ⊢
    have hFp' : Fresh w Hp := hFp
    refine TP.call0 (qA rfl) rfl enters18 rfl rfl (v := .agg ((shaM (newB B Cs n)).map (int .u8)).toArray) (fun w hs => of_m Ps (newB B Cs n) hPf Ac m cc w (hPs w (fun e he => hs.has e (by simp [he])) (hsB.at_ hs (fun b hb => (qU (qC (by show g3 ≠ b; omega) (qC (by show g2 ≠ b; omega) (qC (by show g1 ≠ b; omega) (qC (by show g4 ≠ b; omega) qE)))) (qU qE (hFp'.ne hb)))))) (by omega) (by omega) (by rw [newB_len]; omega) (Nat.lt_of_lt_of_le h1 hs.size) (hIV.keepH hs (by omega) (qU (qC (by show g3 ≠ 1; omega) (qC (by show g2 ≠ 1; omega) (qC (by show g1 ≠ 1; omega) (qC (by show g4 ≠ 1; omega) qE)))) (qU qE (hFp'.ne (by omega))))) (hK.keepH hs h1 (qU (qC (by show g3 ≠ 2; omega) (qC (by show g2 ≠ 2; omega) (qC (by show g1 ≠ 2; omega) (qC (by show g4 ≠ 2; omega) qE)))) (qU qE (hFp'.ne h1))))) ?_
    refine TP.free (qA rfl) rfl (fun _ => Gets.arrNe rfl Tryd.underlying24 Tryd.underlying5 size5 geq24 rfl rfl hH2 (shaM_len (newB B Cs n))) ?_
    refine TP.free (qA rfl) rfl (fun _ => Gets.assign rfl rfl) ?_
    refine TP.nil ?_
    refine TE.heap (H' := [⟨g3, 32, [int .i64 ((faultI o n Cs).1), int .i64 ((faultI o n Cs).2)], 2⟩, ⟨g2, 32, [int .i64 0, int .i64 0], 2⟩, ⟨g1, 27, dV o n H1 H2 (slice A m c), 67⟩, ⟨g4, 22, [slice Ao mo co], 1⟩] ++ Hp) (fun w h => h) ?_
    refine gx ?_
    refine qD [4, 29] ?_
    refine qQ rfl (fun c4q => ?_) (fun c4q => ?_)
    ·have c4 := Ne.symm c4q
     iterate 2 refine gx ?_
     refine qB (qA rfl) rfl (qf rfl (vs := [(0, int .i64 15)]) rfl (fun w => by first | rfl | kernel_rfl) (v := .agg ([int .i64 15, int .i64 0]).toArray)) ?_
     refine qs (qA rfl) rfl rfl size32 rfl (vs := [int .i64 15, int .i64 0]) rfl (by simp []) (by simp [Value.oneCell']) (i := 1) (ent := ⟨g2, 32, [int .i64 0, int .i64 0], 2⟩) rfl rfl (by simp []) (H' := [⟨g3, 32, [int .i64 ((faultI o n Cs).1), int .i64 ((faultI o n Cs).2)], 2⟩, ⟨g2, 32, [int .i64 15, int .i64 0], 2⟩, ⟨g1, 27, dV o n H1 H2 (slice A m c), 67⟩, ⟨g4, 22, [slice Ao mo co], 1⟩] ++ Hp) rfl ?_
     iterate 5 refine gx ?_
     exact qb rfl agg32 size32 rfl (vs := [int .i64 15, int .i64 0]) (by simp []) (qS (i := 1) (ent := ⟨g2, 32, [int .i64 15, int .i64 0], 2⟩) rfl rfl rfl) (fun w hs => ⟨by rw [verI_4 c1 c2 c3 c4] <;> rfl, (St.left (H := []) hs (qF (by assumption) (qF (by assumption) (qF (by assumption) (qF (by assumption) hFp')))))⟩)
    ·have c4 := fun h : shaM (newB B Cs n) ≠ H2 => c4q (Ne.symm h)
     iterate 5 refine gx ?_
     refine qB (qA rfl) rfl (qf rfl (vs := []) rfl (fun w => by first | rfl | kernel_rfl) (v := .agg ([int .i64 0, int .i64 0]).toArray)) ?_
     refine qs (qA rfl) rfl rfl size32 rfl (vs := [int .i64 0, int .i64 0]) rfl (by simp []) (by simp [Value.oneCell']) (i := 1) (ent := ⟨g2, 32, [int .i64 0, int .i64 0], 2⟩) rfl rfl (by simp []) (H' := [⟨g3, 32, [int .i64 ((faultI o n Cs).1), int .i64 ((faultI o n Cs).2)], 2⟩, ⟨g2, 32, [int .i64 0, int .i64 0], 2⟩, ⟨g1, 27, dV o n H1 H2 (slice A m c), 67⟩, ⟨g4, 22, [slice Ao mo co], 1⟩] ++ Hp) rfl ?_
     iterate 3 refine gx ?_
     exact qb rfl agg32 size32 rfl (vs := [int .i64 0, int .i64 0]) (by simp []) (qS (i := 1) (ent := ⟨g2, 32, [int .i64 0, int .i64 0], 2⟩) rfl rfl rfl) (fun w hs => ⟨by rw [verI_5 c1 c2 c3 c4] <;> rfl, (St.left (H := []) hs (qF (by assumption) (qF (by assumption) (qF (by assumption) (qF (by assumption) hFp')))))⟩)
/-
 The chapter's example.
-/
theorem enters10 : Enters Tryd.prog 10 := ⟨_, Tryd.func10, by kernel_rfl, by kernel_rfl⟩
theorem enters5 : Enters Tryd.prog 5 := ⟨_, Tryd.func5, by kernel_rfl, by kernel_rfl⟩
theorem enters9 : Enters Tryd.prog 9 := ⟨_, Tryd.func9, by kernel_rfl, by kernel_rfl⟩
def exO : List Int := [97, 98, 99, 100, 101, 102]
def exN : List Int := [120, 99, 100, 101, 102, 97, 98]
def exX : List Int := [120]
theorem exO_bytes : Bytes exO := by intro x hx; unfold exO at hx; simp only [List.mem_cons, List.not_mem_nil, or_false] at hx; omega
theorem exN_bytes : Bytes exN := by intro x hx; unfold exN at hx; simp only [List.mem_cons, List.not_mem_nil, or_false] at hx; omega
theorem exX_bytes : Bytes exX := by intro x hx; unfold exX at hx; simp only [List.mem_cons, List.not_mem_nil, or_false] at hx; omega
def ex8 (g : Nat) : List CV := [⟨2, 0, 0, 0, some ⟨g, 0, none⟩, 1, 1, exX⟩, ⟨1, 1, 2, 4, none, 0, 0, []⟩, ⟨1, 5, 0, 2, none, 0, 0, []⟩]
theorem ex8_cmds (g : Nat) : cmdsL exO exN 2 = (ex8 g).map valC := by
 show _ = [(2, 0, 0, 0, [120]), (1, 1, 2, 4, []), (1, 5, 0, 2, [])]
 decide
theorem ex8_num (g : Nat) : NumsC (ex8 g) := fun i x hx => by
 match i, hx with
 | 0, hx => simp [ex8] at hx; subst hx; unfold NumC; dsimp only; omega
 | 1, hx => simp [ex8] at hx; subst hx; unfold NumC; dsimp only; omega
 | 2, hx => simp [ex8] at hx; subst hx; unfold NumC; dsimp only; omega
 | i + 3, hx => simp [ex8] at hx
theorem ex8_dat {w : World} {g : Nat} (h : Src w (some ⟨g, 0, none⟩) 1 .u8 exX) : DatC w (ex8 g) := fun i x hx => by
 match i, hx with
 | 0, hx => simp [ex8] at hx; subst hx; exact ⟨h, exX_bytes⟩
 | 1, hx => simp [ex8] at hx; subst hx; exact ⟨src_no, bytes_no⟩
 | 2, hx => simp [ex8] at hx; subst hx; exact ⟨src_no, bytes_no⟩
 | i + 3, hx => simp [ex8] at hx
theorem St.grow {w0 w1 w : World} {H : List Ent} (h1 : St w0 H w1) (h : St w1 [] w) : St w1 H w :=
 ⟨h.os, h.tape, h.output, h.size, fun e he => (h1.has e he).of_block (h.old _ (h1.has e he).lt (by simp)), fun b hb _ => h.old b hb (by simp), h1.apart⟩
theorem alive8_c (w : World) (hMX : MaxC w) (h1 : 2 < w.heap.size) (hIV : RowI w 1 0 8 .u32 IV) (hK : RowI w 2 0 64 .u32 KT) : Calls Tryd.prog 4 #[] w fun e w' => e = .returned (.bool true) ∧ St w [] w' := by
 refine qN (args := []) Tryd.func4 rfl Tryd.ntmps4 (by simp) ?_
 refine qD [] ?_
 iterate 7 refine gx ?_
 refine qw (qA rfl) rfl rfl Tryd.underlying22 size5 zero5 rfl (by decide) (by decide) (cells := #[.int .u8 97, .int .u8 98, .int .u8 99, .int .u8 100, .int .u8 101, .int .u8 102]) (tot := 6) (by kernel_rfl) (cs := [.int .u8 97, .int .u8 98, .int .u8 99, .int .u8 100, .int .u8 101, .int .u8 102]) rfl rfl (fun g1 hg1 => ?_)
 refine TL.mark2 (qA rfl) rfl rfl Tryd.underlying22 Tryd.underlying5 rfl (i := 0) (ent := ⟨g1, 5, [int .u8 97, int .u8 98, int .u8 99, int .u8 100, int .u8 101, int .u8 102], 6⟩) rfl rfl (W := exO) rfl (by omega) (fun wm1 hap1 hw1 hr1 hgw1 => ?_)
 change St _ ([]) wm1 at hw1
 refine TL.heap (H' := []) (fun w h => hw1.grow h) ?_
 have hwB1 : St w [] wm1 := qv ([]) (by rw [List.append_nil]; exact hw1) qX
 have hwz1 := hw1.size
 have hwy1 := hwB1.size
 have hsL1 : Src wm1 (some ⟨g1, 0, none⟩) exO.length .u8 exO := ⟨rfl, .inr ⟨g1, 0, rfl, hgw1, hr1⟩⟩
 have hnT1 : ∀ e ∈ ([] : List Ent), e.g ≠ g1 := hap1
 have hg1l : g1 < wm1.heap.size := hgw1
 refine qw (qA rfl) rfl rfl Tryd.underlying22 size5 zero5 rfl (by decide) (by decide) (cells := #[.int .u8 120, .int .u8 99, .int .u8 100, .int .u8 101, .int .u8 102, .int .u8 97, .int .u8 98]) (tot := 7) (by kernel_rfl) (cs := [.int .u8 120, .int .u8 99, .int .u8 100, .int .u8 101, .int .u8 102, .int .u8 97, .int .u8 98]) rfl rfl (fun g2 hg2 => ?_)
 refine TL.mark2 (qA rfl) rfl rfl Tryd.underlying22 Tryd.underlying5 rfl (i := 0) (ent := ⟨g2, 5, [int .u8 120, int .u8 99, int .u8 100, int .u8 101, int .u8 102, int .u8 97, int .u8 98], 7⟩) rfl rfl (W := exN) rfl (by omega) (fun wm2 hap2 hw2 hr2 hgw2 => ?_)
 change St _ ([]) wm2 at hw2
 refine TL.heap (H' := []) (fun w h => hw2.grow h) ?_
 have hwB2 : St w [] wm2 := qv ([]) (by rw [List.append_nil]; exact (hwB1.rebase hw2 qX)) qX
 have hwz2 := hw2.size
 have hwy2 := hwB2.size
 have hsL2 : Src wm2 (some ⟨g2, 0, none⟩) exN.length .u8 exN := ⟨rfl, .inr ⟨g2, 0, rfl, hgw2, hr2⟩⟩
 have hsL1 := hsL1.at_ hw2 (by simp)
 have hnT2 : ∀ e ∈ ([] : List Ent), e.g ≠ g2 := hap2
 have hg2l : g2 < wm2.heap.size := hgw2
 refine qg (ι := (Option Addr × Nat) × (List CV × List Ent)) (V := fun y => .agg (dV 6 7 (shaM exO) (shaM exN) (slice y.1.1 3 y.1.2)).toArray) (R := fun y => (3 ≤ y.1.2 ∧ y.1.2 ≤ 9223372036854775807) ∧ OwnD wm2.heap.size y.1.1 3 y.2.1 y.2.2 ∧ (y.2.1.map valC = cmdsL exO exN 2 ∧ ∀ x ∈ y.2.1, x.m = x.B.length) ∧ y.2.1.length = 3) (H' := fun y => [] ++ y.2.2) (qA rfl) rfl enters5 rfl rfl (fun w hs => ?hmk) (fun y hR => ?_)
 case hmk =>
  have hs0 := hs; have hs := hwB2.rebase hs0 qX
  refine (make8_c exO exN (some ⟨g1, 0, none⟩) (some ⟨g2, 0, none⟩) 6 6 7 7 2 (by omega) (by omega) (by omega) (by omega) (by omega) (by omega) (by omega) exO_bytes exN_bytes w (hsL1.at_ hs0 (fun b hb => qE)) (hsL2.at_ hs0 (fun b hb => qE)) (hMX.at_ hs qE) (Nat.lt_of_lt_of_le h1 hs.size) (hIV.keepH hs (by omega) qE) (hK.keepH hs h1 qE)).mono fun e w' ⟨A', c', nL, Fs, He, he, hc, ho, hv, hl, hw⟩ => ?_
  obtain rfl : nL = 3 := by have h1 := congrArg List.length hv.1; rw [ex8_cmds 0, List.length_map] at h1; rw [← hl, h1]; rfl
  exact ⟨((A', c'), (Fs, He)), he, ⟨hc, ho.mono hs0.size, hv, hl⟩, st_call hs0 hw ho.1⟩
 obtain ⟨⟨As, cs⟩, Fs, Hw⟩ := y
 obtain ⟨hcs, hos, hFv, hFl⟩ := hR
 dsimp only at hcs hos hFv hFl ⊢
 have hFw : Fresh w Hw := fun e he => Nat.le_trans hwy2 (hos.1 e he)
 obtain ⟨hval, hnew⟩ := cmdsL_valid hFv.1 hFv.2 (by decide) (by decide)
 have hvi : (faultI 6 7 Fs).1 = 0 := by have h9 : faultI 6 7 Fs = (0, 0) := hval; rw [h9]
 have hnew : newB exO Fs 7 = exN := hnew
 have hsame : ∀ g, sameC Fs (ex8 g) := fun g => by unfold sameC; rw [hFv.1, ex8_cmds g]
 refine TL.alloc (qA rfl) rfl rfl zero27 (cs := [int .i64 0, int .i64 0] ++ ((List.replicate 64 0).map (int .u8) ++ ([slice none 0 0]))) rfl (tot := 67) (by simp) (fun g3 hg3 => ?_)
 refine qs (qA rfl) rfl rfl size27 rfl (vs := dV 6 7 (shaM exO) (shaM exN) (slice As 3 cs)) rfl (by simp [(shaM_len exO), (shaM_len exN)]) (qq (by simp [Value.oneCell']) (qq qn (qq qn (by simp [Value.oneCell'])))) (i := 0) (ent := ⟨g3, 27, [int .i64 0, int .i64 0] ++ ((List.replicate 64 0).map (int .u8) ++ ([slice none 0 0])), 67⟩) rfl rfl (by simp []) (H' := [⟨g3, 27, dV 6 7 (shaM exO) (shaM exN) (slice As 3 cs), 67⟩] ++ Hw) rfl ?_
 iterate 4 refine gx ?_
 refine qw (qA rfl) rfl rfl Tryd.underlying22 size5 zero5 rfl (by decide) (by decide) (cells := #[.int .u8 120]) (tot := 1) (by kernel_rfl) (cs := [.int .u8 120]) rfl rfl (fun g4 hg4 => ?_)
 refine TL.mark2 (qA rfl) rfl rfl Tryd.underlying22 Tryd.underlying5 rfl (i := 0) (ent := ⟨g4, 5, [int .u8 120], 1⟩) rfl rfl (W := exX) rfl (by omega) (fun wm3 hap3 hw3 hr3 hgw3 => ?_)
 change St _ ([Ent.mk g3 27 (dV 6 7 (shaM exO) (shaM exN) (slice As 3 cs)) 67] ++ Hw) wm3 at hw3
 refine TL.heap (H' := [Ent.mk g3 27 (dV 6 7 (shaM exO) (shaM exN) (slice As 3 cs)) 67] ++ Hw) (fun w h => hw3.grow h) ?_
 have hwB3 : St w [] wm3 := qv ([Ent.mk g3 27 (dV 6 7 (shaM exO) (shaM exN) (slice As 3 cs)) 67] ++ Hw) (by rw [List.append_nil]; exact (hwB2.rebase hw3 (ql (qF (by first | assumption | (dsimp only; omega)) qX) hFw))) (ql (qF (by first | assumption | (dsimp only; omega)) qX) hFw)
 have hwz3 := hw3.size
 have hwy3 := hwB3.size
 have hsL3 : Src wm3 (some ⟨g4, 0, none⟩) exX.length .u8 exX := ⟨rfl, .inr ⟨g4, 0, rfl, hgw3, hr3⟩⟩
 have hnT3 : ∀ e ∈ ([Ent.mk g3 27 (dV 6 7 (shaM exO) (shaM exN) (slice As 3 cs)) 67] ++ Hw : List Ent), e.g ≠ g4 := hap3
 have hg3l : g4 < wm3.heap.size := hgw3
 refine qB (qA rfl) rfl (qf rfl (vs := [(0, int .i64 2), (4, slice (some ⟨g4, 0, none⟩) 1 1)]) rfl (fun w => by first | rfl | kernel_rfl) (v := .agg ([int .i64 2, int .i64 0, int .i64 0, int .i64 0, slice (some ⟨g4, 0, none⟩) 1 1]).toArray)) ?_
 refine qB (qA rfl) rfl (qf rfl (vs := [(0, int .i64 1), (1, int .i64 1), (2, int .i64 2), (3, int .i64 4)]) rfl (fun w => by first | rfl | kernel_rfl) (v := .agg ([int .i64 1, int .i64 1, int .i64 2, int .i64 4, slice none 0 0]).toArray)) ?_
 refine qB (qA rfl) rfl (qf rfl (vs := [(0, int .i64 1), (1, int .i64 5), (3, int .i64 2)]) rfl (fun w => by first | rfl | kernel_rfl) (v := .agg ([int .i64 1, int .i64 5, int .i64 0, int .i64 2, slice none 0 0]).toArray)) ?_
 refine qw (qA rfl) rfl rfl Tryd.underlying25 size38 zero38 rfl (by decide) (by decide) (cells := #[.int .i64 2, .int .i64 0, .int .i64 0, .int .i64 0, .slice (some ⟨g4, 0, none⟩) 1 1, .int .i64 1, .int .i64 1, .int .i64 2, .int .i64 4, .slice none 0 0, .int .i64 1, .int .i64 5, .int .i64 0, .int .i64 2, .slice none 0 0]) (tot := 15) (by kernel_rfl) (cs := [.int .i64 2, .int .i64 0, .int .i64 0, .int .i64 0, .slice (some ⟨g4, 0, none⟩) 1 1, .int .i64 1, .int .i64 1, .int .i64 2, .int .i64 4, .slice none 0 0, .int .i64 1, .int .i64 5, .int .i64 0, .int .i64 2, .slice none 0 0]) rfl rfl (fun g5 hg5 => ?_)
 iterate 3 refine gx ?_
 refine qD [0, 1, 2] ?_
 iterate 3 refine gx ?_
 refine qB (qA rfl) rfl (qJ rfl agg25 rfl (qR (i := 1) (ent := ⟨g3, 27, dV 6 7 (shaM exO) (shaM exN) (slice As 3 cs), 67⟩) (off := 66) rfl rfl (by exact app_right (a := 2) (i := 64) (rfl) (app_right (a := 32) (i := 32) (ints_len (shaM_len exO)) (app_right (a := 32) (i := 0) (ints_len (shaM_len exN)) (rfl)))))) ?_
 refine gx ?_
 refine qM (qA rfl) rfl enters10 rfl rfl (v := .bool true) (fun w hs => (rall_c As (some ⟨g5, 0, none⟩) 3 cs 3 3 Fs (ex8 g4) (by omega) (by omega) hos.num w (hos.src (fun e he => hs.has e (by simp [he]))) (lies_srcC (hs.has (⟨g5, 38, [int .i64 2, int .i64 0, int .i64 0, int .i64 0, slice (some ⟨g4, 0, none⟩) 1 1, int .i64 1, int .i64 1, int .i64 2, int .i64 4, slice none 0 0, int .i64 1, int .i64 5, int .i64 0, int .i64 2, slice none 0 0], 15⟩) (List.mem_of_getElem? (i := 0) rfl)) rfl rfl) (hos.dat (fun e he => hs.has e (by simp [he]))) (ex8_dat ⟨rfl, .inr ⟨g4, 0, rfl, Nat.lt_of_lt_of_le hgw3 hs.size, hr3.keepH hs hgw3 (List.forall_mem_cons.2 ⟨by dsimp only; omega, hnT3⟩)⟩⟩)).mono fun e w' h => by rw [decide_eq_true (p := sameC Fs (ex8 g4)) (hsame _)] at h; exact h) ?_
 iterate 3 refine gx ?_
 refine qB (qL rfl rfl rfl) rfl (qh (qm rfl rfl rfl) rfl) ?_
 iterate 4 refine gx ?_
 refine qB (qL rfl rfl rfl) rfl (qh (qm rfl rfl rfl) rfl) ?_
 iterate 2 refine gx ?_
 refine qw (qL rfl rfl rfl) rfl rfl Tryd.underlying22 size5 zero5 rfl (by decide) (by decide) (cells := #[.int .u8 97, .int .u8 98, .int .u8 99, .int .u8 100, .int .u8 101, .int .u8 102]) (tot := 6) (by kernel_rfl) (cs := [.int .u8 97, .int .u8 98, .int .u8 99, .int .u8 100, .int .u8 101, .int .u8 102]) rfl rfl (fun g6 hg6 => ?_)
 refine TL.mark2 (qL rfl rfl rfl) rfl rfl Tryd.underlying22 Tryd.underlying5 rfl (i := 0) (ent := ⟨g6, 5, [int .u8 97, int .u8 98, int .u8 99, int .u8 100, int .u8 101, int .u8 102], 6⟩) rfl rfl (W := exO) rfl (by omega) (fun wm4 hap4 hw4 hr4 hgw4 => ?_)
 change St _ ([Ent.mk g5 38 ([int .i64 2, int .i64 0, int .i64 0, int .i64 0, slice (some ⟨g4, 0, none⟩) 1 1, int .i64 1, int .i64 1, int .i64 2, int .i64 4, slice none 0 0, int .i64 1, int .i64 5, int .i64 0, int .i64 2, slice none 0 0]) 15, Ent.mk g3 27 (dV 6 7 (shaM exO) (shaM exN) (slice As 3 cs)) 67] ++ Hw) wm4 at hw4
 refine TL.heap (H' := [Ent.mk g5 38 ([int .i64 2, int .i64 0, int .i64 0, int .i64 0, slice (some ⟨g4, 0, none⟩) 1 1, int .i64 1, int .i64 1, int .i64 2, int .i64 4, slice none 0 0, int .i64 1, int .i64 5, int .i64 0, int .i64 2, slice none 0 0]) 15, Ent.mk g3 27 (dV 6 7 (shaM exO) (shaM exN) (slice As 3 cs)) 67] ++ Hw) (fun w h => hw4.grow h) ?_
 have hwB4 : St w [] wm4 := qv ([Ent.mk g5 38 ([int .i64 2, int .i64 0, int .i64 0, int .i64 0, slice (some ⟨g4, 0, none⟩) 1 1, int .i64 1, int .i64 1, int .i64 2, int .i64 4, slice none 0 0, int .i64 1, int .i64 5, int .i64 0, int .i64 2, slice none 0 0]) 15, Ent.mk g3 27 (dV 6 7 (shaM exO) (shaM exN) (slice As 3 cs)) 67] ++ Hw) (by rw [List.append_nil]; exact (hwB3.rebase hw4 (ql (qF (by first | assumption | (dsimp only; omega)) (qF (by first | assumption | (dsimp only; omega)) qX)) hFw))) (ql (qF (by first | assumption | (dsimp only; omega)) (qF (by first | assumption | (dsimp only; omega)) qX)) hFw)
 have hwz4 := hw4.size
 have hwy4 := hwB4.size
 have hsL4 : Src wm4 (some ⟨g6, 0, none⟩) exO.length .u8 exO := ⟨rfl, .inr ⟨g6, 0, rfl, hgw4, hr4⟩⟩
 have hnT4 : ∀ e ∈ ([Ent.mk g5 38 ([int .i64 2, int .i64 0, int .i64 0, int .i64 0, slice (some ⟨g4, 0, none⟩) 1 1, int .i64 1, int .i64 1, int .i64 2, int .i64 4, slice none 0 0, int .i64 1, int .i64 5, int .i64 0, int .i64 2, slice none 0 0]) 15, Ent.mk g3 27 (dV 6 7 (shaM exO) (shaM exN) (slice As 3 cs)) 67] ++ Hw : List Ent), e.g ≠ g6 := hap4
 have hg4l : g6 < wm4.heap.size := hgw4
 refine qB (qL rfl rfl rfl) rfl (qa rfl agg27 size27 rfl (vs := dV 6 7 (shaM exO) (shaM exN) (slice As 3 cs)) (by simp [(shaM_len exO), (shaM_len exN)]) (qS (i := 1) (ent := ⟨g3, 27, dV 6 7 (shaM exO) (shaM exN) (slice As 3 cs), 67⟩) rfl rfl rfl)) ?_
 refine qg (ι := Nat) (V := fun y => .slice (some ⟨y, 0, none⟩) 7 7) (R := fun y => wm4.heap.size ≤ y) (H' := fun y => [Ent.mk g5 38 ([int .i64 2, int .i64 0, int .i64 0, int .i64 0, slice (some ⟨g4, 0, none⟩) 1 1, int .i64 1, int .i64 1, int .i64 2, int .i64 4, slice none 0 0, int .i64 1, int .i64 5, int .i64 0, int .i64 2, slice none 0 0]) 15, Ent.mk g3 27 (dV 6 7 (shaM exO) (shaM exN) (slice As 3 cs)) 67] ++ Hw ++ [Ent.mk y 5 (exN.map (int .u8)) 7]) (qL rfl rfl rfl) rfl enters9 rfl rfl (fun w hs => ?hap) (fun y hR => ?_)
 case hap =>
  have hs0 := hs; have hs := hwB4.rebase hs0 (ql (qF (by first | assumption | (dsimp only; omega)) (qF (by first | assumption | (dsimp only; omega)) qX)) hFw)
  refine (apply8_yes exO (some ⟨g6, 0, none⟩) 6 6 (by omega) (by omega) 6 7 (shaM exO) (shaM exN) (shaM_len exO) (shaM_len exN) As 3 cs Fs (by omega) hos.num w (hos.src (fun e he => hs.has e (by simp [he]))) (hos.dat (fun e he => hs.has e (by simp [he]))) ⟨rfl, .inr ⟨g6, 0, rfl, Nat.lt_of_lt_of_le hgw4 hs0.size, hr4.keepH hs0 hgw4 hnT4⟩⟩ (by omega) (by omega) ⟨rfl, hvi⟩ (by omega)).mono fun e w' ⟨g, he, hg, hw⟩ => ?_
  rw [hnew] at hw
  exact ⟨g, he, Nat.le_trans hs0.size hg, st_call hs0 hw (qF hg qX)⟩
 have hFy : Fresh w [Ent.mk y 5 (exN.map (int .u8)) 7] := qF (by show w.heap.size ≤ y; omega) qX
 refine TL.heap (H' := [Ent.mk g5 38 ([int .i64 2, int .i64 0, int .i64 0, int .i64 0, slice (some ⟨g4, 0, none⟩) 1 1, int .i64 1, int .i64 1, int .i64 2, int .i64 4, slice none 0 0, int .i64 1, int .i64 5, int .i64 0, int .i64 2, slice none 0 0]) 15, Ent.mk g3 27 (dV 6 7 (shaM exO) (shaM exN) (slice As 3 cs)) 67] ++ (Hw ++ [Ent.mk y 5 (exN.map (int .u8)) 7])) (fun w h => by rw [← List.append_assoc]; exact h) ?_
 have hFwy := ql hFw hFy
 refine qB (qL rfl rfl rfl) rfl (Gets.b2s rfl Tryd.underlying22 Tryd.underlying9 Tryd.underlying5 rfl (fun w hs => src_ent (hs.has (Ent.mk y 5 (exN.map (int .u8)) 7) (by simp)) rfl)) ?_
 refine qB (qL rfl rfl rfl) rfl (qh (Gets.bytesEq (C := exN) rfl rfl rfl exN_bytes exN_bytes) rfl) ?_
 iterate 5 refine gx ?_
 exact qK rfl rfl (fun w hs => ⟨rfl, qv ([Ent.mk g5 38 ([int .i64 2, int .i64 0, int .i64 0, int .i64 0, slice (some ⟨g4, 0, none⟩) 1 1, int .i64 1, int .i64 1, int .i64 2, int .i64 4, slice none 0 0, int .i64 1, int .i64 5, int .i64 0, int .i64 2, slice none 0 0]) 15, Ent.mk g3 27 (dV 6 7 (shaM exO) (shaM exN) (slice As 3 cs)) 67] ++ (Hw ++ [Ent.mk y 5 (exN.map (int .u8)) 7])) (by rw [List.append_nil]; exact hwB4.rebase hs (ql (qF (by first | assumption | (dsimp only; omega)) (qF (by first | assumption | (dsimp only; omega)) qX)) hFwy)) (ql (qF (by first | assumption | (dsimp only; omega)) (qF (by first | assumption | (dsimp only; omega)) qX)) hFwy)⟩)
/-
 PatchVerifies: the walk.
-/
/-
 slices.Equal of bytes.
-/
theorem eq_succ {A B : List Int} {i : Nat} (h : ∀ j, j < i → A.getD j 0 = B.getD j 0) (h2 : A.getD i 0 = B.getD i 0) : ∀ j, j < i + 1 → A.getD j 0 = B.getD j 0 := fun j hj => by
 by_cases e : j = i
 ·rw [e]; exact h2
 ·exact h j (by omega)
theorem sequal_c (PA PB : List Int) (A A2 : Option Addr) (m c m2 c2 : Nat) (w : World) (hsA : Src w A m .u8 PA) (hsB : Src w A2 m2 .u8 PB) (hmc : m ≤ c) (hmc2 : m2 ≤ c2) (hcm : c ≤ 9223372036854775807) (hcm2 : c2 ≤ 9223372036854775807) : Calls Tryd.prog 8 #[.slice A m c, .slice A2 m2 c2] w fun e w' => e = .returned (.bool (decide (PA = PB))) ∧ St w [] w' := by
 refine qN (args := [.slice A m c, .slice A2 m2 c2]) Tryd.func8 rfl Tryd.ntmps8 (by simp) ?_
 refine qD [0, 1] ?_
 iterate 15 refine gx ?_
 refine qQ rfl (fun hq0 => ?_) (fun hq0 => ?_)
 ·iterate 7 refine gx ?_
  exact qK rfl rfl (fun w hs => ⟨by rw [decide_eq_false (fun he => by have l1 := hsA.1; have l2 := hsB.1; have l3 := congrArg List.length he; have l4 := fun j => congrArg (fun z : List Int => z.getD j 0) he; first | omega | exact absurd (l4 i) hq2)], hs⟩)
 ·iterate 10 refine gx ?_
  refine qD [0, 1, 4, 12, 13] ?_
  refine gx ?_
  refine qk (ι := Nat) (fun i => [(0, .slice A m c), (1, .slice A2 m2 c2), (12, .int .i64 (m : Int)), (13, .int .i64 (i : Int))]) (fun i => []) (fun i => m - i) (fun i => i ≤ m ∧ ∀ j, j < i → PA.getD j 0 = PB.getD j 0) 0 ⟨Nat.zero_le _, fun j hj => absurd hj (Nat.not_lt_zero j)⟩ (qP (i := 0) rfl rfl (by first | omega | (dsimp only; omega) | rfl) (by first | omega | (dsimp only; omega) | rfl) (qP (i := 1) rfl rfl (by first | omega | (dsimp only; omega) | rfl) (by first | omega | (dsimp only; omega) | rfl) (qG (i := 12) rfl (by first | omega | rfl) (qG (i := 13) rfl (by first | omega | rfl) (qO))))) (fun w h => h) (fun i hC0 => ?_)
  obtain ⟨hC0, hC1⟩ := hC0
  iterate 6 refine gx ?_
  refine qQ rfl (fun hq1 => ?_) (fun hq1 => ?_)
  ·obtain ⟨b, off, hA, hb, hr⟩ := hsA.2.resolve_left (by omega)
   obtain ⟨b2, off2, hA2, hb2, hr2⟩ := hsB.2.resolve_left (by omega)
   subst hA; subst hA2
   iterate 11 refine gx ?_
   refine TC.mix (by kernel_rfl) [0, 0, 0, 1, 0, 0, 0, 1, 0] rfl (by kernel_rfl) ?_
   iterate 2 refine gx ?_
   refine qH (qA rfl) rfl (fun _ => qc rfl Tryd.underlying22 size5 rfl rfl (i := i) (by omega) (by omega) (off' := (off + i)) (by omega)) ?_
   refine qV (qA rfl) rfl (qJ rfl agg5 rfl (At.rowI hr (i := i) (by omega) (by omega) hb qE)) ?_
   iterate 2 refine gx ?_
   refine qH (qA rfl) rfl (fun _ => qc rfl Tryd.underlying22 size5 rfl rfl (i := i) (by omega) (by omega) (off' := (off2 + i)) (by omega)) ?_
   refine qV (qA rfl) rfl (qJ rfl agg5 rfl (At.rowI hr2 (i := i) (by omega) (by omega) hb2 qE)) ?_
   iterate 3 refine gx ?_
   refine qD [0, 1, 12, 13, 24] ?_
   refine qQ rfl (fun hq2 => ?_) (fun hq2 => ?_)
   ·iterate 11 refine gx ?_
    exact qK rfl rfl (fun w hs => ⟨by rw [decide_eq_false (fun he => by have l1 := hsA.1; have l2 := hsB.1; have l3 := congrArg List.length he; have l4 := fun j => congrArg (fun z : List Int => z.getD j 0) he; first | omega | exact absurd (l4 i) hq2)], hs⟩)
   ·iterate 4 refine gx ?_
    refine qB (qA rfl) rfl (qT rfl rfl rfl (r := ((i : Int) + 1)) (w64 (by omega) (by omega))) ?_
    iterate 2 refine gx ?_
    exact qj (i + 1) (by omega) ⟨by omega, eq_succ hC1 (by omega)⟩ (qP (i := 0) rfl (by first | rfl | (congr 2; omega)) (by first | omega | (dsimp only; omega) | rfl) (by first | omega | (dsimp only; omega) | rfl) (qP (i := 1) rfl (by first | rfl | (congr 2; omega)) (by first | omega | (dsimp only; omega) | rfl) (by first | omega | (dsimp only; omega) | rfl) (qG (i := 12) rfl (by first | omega | rfl) (qG (i := 13) rfl (by first | omega | rfl) (qO))))) (fun w h => h)
  ·iterate 11 refine gx ?_
   exact qK rfl rfl (fun w hs => ⟨by rw [decide_eq_true (list_of_getD (by have := hsA.1; have := hsB.1; omega) (fun j hj => hC1 j (by have := hsA.1; omega)))], hs⟩)
/-
 PatchLeads: the walk.
-/
theorem enters4 : Enters Tryd.prog 4 := ⟨_, Tryd.func4, by kernel_rfl, by kernel_rfl⟩
theorem enters7 : Enters Tryd.prog 7 := ⟨_, Tryd.func7, by kernel_rfl, by kernel_rfl⟩
theorem enters8 : Enters Tryd.prog 8 := ⟨_, Tryd.func8, by kernel_rfl, by kernel_rfl⟩
theorem sum_ge {old : List Int} : ∀ {l : List PC}, (∀ c ∈ l, okPC old c) → (l.length : Int) ≤ sumT (l.map tgP)
 | [], _ => by simp [sumT]
 | c :: l, h => by
  have h1 := sum_ge (old := old) (l := l) (fun d hd => h d (List.mem_cons_of_mem _ hd))
  have h2 := h c List.mem_cons_self
  have h3 : 1 ≤ (tgP c).2 := by
   unfold tgP lenPC
   dsimp only
   rcases h2 with ⟨e, _, h4, _⟩ | ⟨e, _, _, h4⟩
   ·rw [if_pos e]; exact h4
   ·rw [if_neg (by rw [e]; decide)]
    have : 0 < c.2.2.2.2.length := List.length_pos_iff.2 h4
    omega
  have h5 : sumT ((c :: l).map tgP) = (tgP c).2 + sumT (l.map tgP) := by simp [sumT]
  rw [h5, List.length_cons]
  omega
theorem cmdsL_len (old new : List Int) (k : Int) : (cmdsL old new k).length ≤ new.length := by
 have h := cmdsL_leads old new k
 have h1 := sum_ge h.1
 have h2 := h.2.2.1
 omega
set_option maxHeartbeats 4000000 in
theorem patchLeads_walk (Ao : Option Addr) (mo co : Nat) (B : List Int) (A2 : Option Addr) (m2 c2 : Nat) (P2 : List Int) (k : Int) (w : World) (hsB : Src w Ao mo .u8 B) (hmo : mo ≤ co) (hco : co ≤ 9223372036854775807) (hBB : Bytes B) (hs2 : Src w A2 m2 .u8 P2) (hm2 : m2 ≤ c2) (hcm2 : c2 ≤ 9223372036854775807) (hPP : Bytes P2) (bk : -9223372036854775808 ≤ k ∧ k ≤ 9223372036854775807) (hMX : MaxC w) (h1 : 2 < w.heap.size) (hIV : RowI w 1 0 8 .u32 IV) (hK : RowI w 2 0 64 .u32 KT) : Calls Tryd.prog 3 #[.slice Ao mo co, .slice A2 m2 c2, .int .i64 k] w fun e w' => e = .returned (.bool true) ∧ St w [] w' := by
 refine qN (args := [.slice Ao mo co, .slice A2 m2 c2, .int .i64 k]) Tryd.func3 rfl Tryd.ntmps3 (by simp) ?_
 refine qD [0, 1, 2] ?_
 iterate 10 refine gx ?_
 by_cases q1 : 200 < (mo : Int)
 ·refine qB (qA rfl) rfl (qh (Gets.gtr rfl rfl rfl) q1) ?_
  iterate 7 refine gx ?_
  refine qD [0, 1, 2, 6, 15] ?_
  refine TC.yes rfl ?_
  iterate 2 refine gx ?_
  refine qM (qA rfl) rfl enters4 rfl rfl (v := .bool true) (fun w hs => alive8_c w (hMX.at_ hs qE) (Nat.lt_of_lt_of_le h1 hs.size) (hIV.keepH hs (by omega) qE) (hK.keepH hs h1 qE)) ?_
  iterate 5 refine gx ?_
  exact qK rfl rfl (fun w hs => ⟨rfl, (hs)⟩)
 ·refine qB (qA rfl) rfl (qi (Gets.gtr rfl rfl rfl) q1) ?_
  iterate 3 refine gx ?_
  by_cases q2 : 200 < (m2 : Int)
  ·refine qB (qL rfl rfl rfl) rfl (qh (Gets.gtr rfl rfl rfl) q2) ?_
   iterate 3 refine gx ?_
   refine qD [0, 1, 2, 6, 15] ?_
   refine TC.yes rfl ?_
   iterate 2 refine gx ?_
   refine qM (qA rfl) rfl enters4 rfl rfl (v := .bool true) (fun w hs => alive8_c w (hMX.at_ hs qE) (Nat.lt_of_lt_of_le h1 hs.size) (hIV.keepH hs (by omega) qE) (hK.keepH hs h1 qE)) ?_
   iterate 5 refine gx ?_
   exact qK rfl rfl (fun w hs => ⟨rfl, (hs)⟩)
  ·refine qB (qL rfl rfl rfl) rfl (qi (Gets.gtr rfl rfl rfl) q2) ?_
   iterate 3 refine gx ?_
   refine qD [0, 1, 2, 6, 15] ?_
   refine TC.no rfl ?_
   iterate 7 refine gx ?_
   refine qg (ι := ((Option Addr × Nat) × Nat) × (List CV × List Ent)) (V := fun y => .agg (dV (mo : Int) (m2 : Int) (shaM B) (shaM P2) (slice y.1.1.1 y.1.2 y.1.1.2)).toArray) (R := fun y => (y.1.2 ≤ y.1.1.2 ∧ y.1.1.2 ≤ 9223372036854775807) ∧ OwnD w.heap.size y.1.1.1 y.1.2 y.2.1 y.2.2 ∧ (y.2.1.map valC = cmdsL B P2 k ∧ ∀ x ∈ y.2.1, x.m = x.B.length) ∧ y.2.1.length = y.1.2) (H' := fun y => [] ++ y.2.2) (qA rfl) rfl enters5 rfl rfl (fun w hs => (make8_c B P2 Ao A2 mo co m2 c2 k hmo hm2 hco hcm2 (by omega) (by omega) bk hBB hPP w (hsB.at_ hs (fun b hb => qE)) (hs2.at_ hs (fun b hb => qE)) (hMX.at_ hs qE) (Nat.lt_of_lt_of_le h1 hs.size) (hIV.keepH hs (by omega) qE) (hK.keepH hs h1 qE)).mono fun e w' ⟨A', c', nL, Fs, He, he, hc, ho, hv, hl, hw⟩ => ⟨(((A', c'), nL), (Fs, He)), he, ⟨hc, ho.mono hs.size, hv, hl⟩, st_call hs hw ho.1⟩) (fun y hR => ?_)
   obtain ⟨⟨⟨As, cs⟩, nL⟩, Fs, Hw⟩ := y
   obtain ⟨hcs, hos, hFv, hFl⟩ := hR
   dsimp only at hcs hos hFv hFl ⊢
   have hFw : Fresh w Hw := hos.1
   have hl1 := hsB.1
   have hl2 := hs2.1
   have hcl := cmdsL_len B P2 k
   have hnL : nL ≤ 200 := by rw [← hFl, ← List.length_map (f := valC), hFv.1]; omega
   obtain ⟨hval, hnew⟩ := cmdsL_valid hFv.1 hFv.2 (by omega) (by omega)
   rw [hl1, hl2] at hval
   rw [hl2] at hnew
   have hvi : (faultI (mo : Int) (m2 : Int) Fs).1 = 0 := by rw [hval]
   have hfw : fewQ Fs := cmds_few hFv.1 hFv.2 (by omega) (by omega)
   have hver : verI B mo (mo : Int) (m2 : Int) (shaM B) (shaM P2) Fs = (0, 0) := verI_5 (by omega) (by simp) (by simp) (by rw [hnew]; simp)
   refine TL.alloc (qA rfl) rfl rfl zero27 (cs := [int .i64 0, int .i64 0] ++ ((List.replicate 64 0).map (int .u8) ++ ([slice none 0 0]))) rfl (tot := 67) (by simp) (fun g1 hg1 => ?_)
   refine qs (qA rfl) rfl rfl size27 rfl (vs := dV (mo : Int) (m2 : Int) (shaM B) (shaM P2) (slice As nL cs)) rfl (by simp [(shaM_len B), (shaM_len P2)]) (qq (by simp [Value.oneCell']) (qq qn (qq qn (by simp [Value.oneCell'])))) (i := 0) (ent := ⟨g1, 27, [int .i64 0, int .i64 0] ++ ((List.replicate 64 0).map (int .u8) ++ ([slice none 0 0])), 67⟩) rfl rfl (by simp []) (H' := [⟨g1, 27, dV (mo : Int) (m2 : Int) (shaM B) (shaM P2) (slice As nL cs), 67⟩] ++ Hw) rfl ?_
   iterate 2 refine gx ?_
   refine qD [0, 1, 6, 7] ?_
   iterate 2 refine gx ?_
   refine qM (qA rfl) rfl enters4 rfl rfl (v := .bool true) (fun w hs => alive8_c w (hMX.at_ hs (qU (qC (by show g1 ≠ 0; omega) qE) (hFw.ne hMX.1))) (Nat.lt_of_lt_of_le h1 hs.size) (hIV.keepH hs (by omega) (qU (qC (by show g1 ≠ 1; omega) qE) (hFw.ne (by omega)))) (hK.keepH hs h1 (qU (qC (by show g1 ≠ 2; omega) qE) (hFw.ne h1)))) ?_
   refine gx ?_
   refine qB (qL rfl rfl rfl) rfl (qa rfl agg27 size27 rfl (vs := dV (mo : Int) (m2 : Int) (shaM B) (shaM P2) (slice As nL cs)) (by simp [(shaM_len B), (shaM_len P2)]) (qS (i := 0) (ent := ⟨g1, 27, dV (mo : Int) (m2 : Int) (shaM B) (shaM P2) (slice As nL cs), 67⟩) rfl rfl rfl)) ?_
   refine qM (qL rfl rfl rfl) rfl enters6 rfl rfl (v := .bool true) (fun w hs => (dvalid_c (mo : Int) (m2 : Int) (shaM B) (shaM P2) (shaM_len B) (shaM_len P2) As nL cs Fs (by omega) hos.num w (hos.src (fun e he => hs.has e (by simp [he]))) (hos.dat (fun e he => hs.has e (by simp [he]))) (by omega) (by omega)).mono fun e w' h => by rw [decide_eq_true (p := (faultI (mo : Int) (m2 : Int) Fs).1 = 0) hvi] at h; exact h) ?_
   iterate 3 refine gx ?_
   refine qB (qL rfl rfl rfl) rfl (qa rfl agg27 size27 rfl (vs := dV (mo : Int) (m2 : Int) (shaM B) (shaM P2) (slice As nL cs)) (by simp [(shaM_len B), (shaM_len P2)]) (qS (i := 0) (ent := ⟨g1, 27, dV (mo : Int) (m2 : Int) (shaM B) (shaM P2) (slice As nL cs), 67⟩) rfl rfl rfl)) ?_
   refine qM (qL rfl rfl rfl) rfl enters7 rfl rfl (v := .agg ([int .i64 0, int .i64 0]).toArray) (fun w hs => (verify8_c B Ao mo co hmo hco (by omega) (mo : Int) (m2 : Int) (shaM B) (shaM P2) (shaM_len B) (shaM_len P2) As nL cs Fs (by omega) hos.num w (hos.src (fun e he => hs.has e (by simp [he]))) (hos.dat (fun e he => hs.has e (by simp [he]))) hfw (hsB.at_ hs (fun b hb => (qU (qC (by show g1 ≠ b; omega) qE) (hFw.ne hb)))) (by omega) (by omega) (by omega) (Nat.lt_of_lt_of_le h1 hs.size) (hIV.keepH hs (by omega) (qU (qC (by show g1 ≠ 1; omega) qE) (hFw.ne (by omega)))) (hK.keepH hs h1 (qU (qC (by show g1 ≠ 2; omega) qE) (hFw.ne h1)))).mono fun e w' h => by rw [hver] at h; exact h) ?_
   refine qB (qL rfl rfl rfl) rfl (qf rfl (vs := []) rfl (fun w => by first | rfl | kernel_rfl) (v := .agg ([int .i64 0, int .i64 0]).toArray)) ?_
   refine qB (qL rfl rfl rfl) rfl (qh (Gets.pairEq rfl Tryd.underlying32 (by decide) (by decide) rfl rfl Tryd.underlying30 Tryd.underlying3 sih32 geq32 rfl rfl) ⟨rfl, rfl⟩) ?_
   iterate 3 refine gx ?_
   refine qB (qL rfl rfl rfl) rfl (qa rfl agg27 size27 rfl (vs := dV (mo : Int) (m2 : Int) (shaM B) (shaM P2) (slice As nL cs)) (by simp [(shaM_len B), (shaM_len P2)]) (qS (i := 0) (ent := ⟨g1, 27, dV (mo : Int) (m2 : Int) (shaM B) (shaM P2) (slice As nL cs), 67⟩) rfl rfl rfl)) ?_
   refine qg (ι := Nat) (V := fun y => .slice (some ⟨y, 0, none⟩) m2 m2) (R := fun y => w.heap.size ≤ y) (H' := fun y => [⟨g1, 27, dV (mo : Int) (m2 : Int) (shaM B) (shaM P2) (slice As nL cs), 67⟩] ++ Hw ++ [Ent.mk y 5 (P2.map (int .u8)) m2]) (qL rfl rfl rfl) rfl enters9 rfl rfl (fun w hs => (apply8_yes B Ao mo co hmo hco (mo : Int) (m2 : Int) (shaM B) (shaM P2) (shaM_len B) (shaM_len P2) As nL cs Fs (by omega) hos.num w (hos.src (fun e he => hs.has e (by simp [he]))) (hos.dat (fun e he => hs.has e (by simp [he]))) (hsB.at_ hs (fun b hb => (qU (qC (by show g1 ≠ b; omega) qE) (hFw.ne hb)))) (by omega) (by omega) ⟨rfl, hvi⟩ (by omega)).mono fun e w' ⟨g, he, hg, hw⟩ => ⟨g, he, Nat.le_trans hs.size hg, by rw [hnew] at hw; exact st_call hs hw (qF hg qX)⟩) (fun y hR => ?_)
   dsimp only
   have hFy0 : Fresh w [Ent.mk y 5 (P2.map (int .u8)) m2] := qF hR qX
   generalize hHy : ([Ent.mk y 5 (P2.map (int .u8)) m2] : List Ent) = Hy at hFy0 ⊢
   have hFy : Fresh w Hy := hFy0
   refine TL.heap (H' := [⟨g1, 27, dV (mo : Int) (m2 : Int) (shaM B) (shaM P2) (slice As nL cs), 67⟩] ++ (Hw ++ Hy)) (fun w h => by rw [← List.append_assoc]; exact h) ?_
   have hFtHy := ql hFw hFy
   refine gx ?_
   refine qM (qL rfl rfl rfl) rfl enters8 rfl rfl (v := .bool true) (fun w hs => calls_yes rfl (sequal_c P2 P2 (some ⟨y, 0, none⟩) A2 m2 m2 m2 c2 w (src_ent (hs.has (Ent.mk y 5 (P2.map (int .u8)) m2) (by simp [← hHy])) hs2.1) (hs2.at_ hs (fun b hb => (qU (qC (by show g1 ≠ b; omega) qE) (hFtHy.ne hb)))) (by omega) (by omega) (by omega) (by omega))) ?_
   iterate 5 refine gx ?_
   exact qK rfl rfl (fun w hs => ⟨rfl, (St.left (H := []) hs (qF (by assumption) hFtHy))⟩)
open Go Go.RowKit Go.ChangeShapes Go.WideShapes Go.ChangeAt Go.Joins Go.Deep
theorem patchLeads_lifted (os : Os) (started : os.Started) (H : Type) (enc : TypeId × Value → H) :
  ReturnsInHanded {} Tryd.checked os 3 .any (fun w args => (Rows.patchLeadsSpec.pre enc Tryd.prog Tryd.f3 [] false w args ∧ laidMetH Tryd.prog [("graft/sha.squareRoots", Rows.laid_graft_sha_squareRoots), ("graft/sha.cubeRoots", Rows.laid_graft_sha_cubeRoots)] w) ∧ sizedMet enc Tryd.prog Tryd.f3 (OpenSpec.ofChange Rows.patchLeadsSpec) false w args) (Rows.patchLeadsSpec.post enc Tryd.prog Tryd.f3 false true false false) := by
 refine returnsInHanded_both (C := Tryd.checked) (X := fun w _ => laidMetH Tryd.prog [("graft/sha.squareRoots", Rows.laid_graft_sha_squareRoots), ("graft/sha.cubeRoots", Rows.laid_graft_sha_cubeRoots)] w) (fun _ _ _ hh h => h.of_heap hh) own_knob started (by kernel_rfl) Tryd.func3
  (ChangeSpec.witness_shaped (enc := enc) (C := Tryd.checked) (os := os) (X := fun w _ => laidMetH Tryd.prog [("graft/sha.squareRoots", Rows.laid_graft_sha_squareRoots), ("graft/sha.cubeRoots", Rows.laid_graft_sha_cubeRoots)] w) false (World.doorLaid Tryd.prog 100 os) #[.slice none 0 0, .slice none 0 0, .int .i64 0] 8 rfl (World.shaped_of_RefB (by kernel_rfl) (by kernel_rfl)) (by kernel_rfl) (by kernel_rfl) (by kernel_rfl) (door_met os _)) ?_
 intro W base args ds gs before hval0 hW hsz0 hL hSh
 have hval : ∀ (j : Nat) t v, Tryd.f3.params[j]? = some t → args[j]? = some v → Value.okWide Tryd.prog W .any base t v := hval0
 have hW' := hW
 obtain ⟨p, q, hA0, hV, rfl, hfz, hnd⟩ := hW
 have hA : DataW.TrodAll enc Tryd.prog W 0 (fun _ => true) true Tryd.f3.params.toList args.toList ds p := hA0
 have hsz : (DataW.weightsEach Tryd.prog (Tryd.f3.params.toList ++ Rows.patchLeadsSpec.plain.varTypes Tryd.prog) (ds ++ gs)).all (· ≤ reachBytes) = true := hsz0
 rw [Tryd.params3] at hA hval hsz
 obtain ⟨v0, vs0, d0, ds0, p0, q0, hargs, rfl, rfl, h0, r0⟩ := trodAll_cons hA
 obtain ⟨v1, vs1, d1, ds1, p1, q1, rfl, rfl, rfl, h1, r1⟩ := trodAll_cons r0
 obtain ⟨v2, vs2, d2, ds2, p2, q2, rfl, rfl, rfl, h2, r2⟩ := trodAll_cons r1
 obtain ⟨rfl, rfl, rfl⟩ := trodAll_nil r2
 obtain rfl : args = #[v0, v1, v2] := by cases args; simp_all
 obtain ⟨rfl, rfl⟩ := trodVars_none hV
 have k0 := h0
 have lt0 : ∀ x ∈ p0, x.block < W.heap.size := by obtain ⟨m, hm⟩ := k0; exact DataW.trod_lt m _ _ _ hm
 have k1 := h1
 have lt1 : ∀ x ∈ p1, x.block < W.heap.size := by obtain ⟨m, hm⟩ := k1; exact DataW.trod_lt m _ _ _ hm
 have k2 := h2
 have lt2 : ∀ x ∈ p2, x.block < W.heap.size := by obtain ⟨m, hm⟩ := k2; exact DataW.trod_lt m _ _ _ hm
 obtain ⟨Aa, ma, ca, Ba, hv0, hmc0, hcm0, hs0, hB0⟩ := open_bytes Tryd.underlying22 Tryd.underlying5 (by kernel_rfl) (hval 0 22 v0 rfl rfl) h0
 subst hv0
 obtain ⟨Ab, mb, cb, Bb, hv1, hmc1, hcm1, hs1, hB1⟩ := open_bytes Tryd.underlying22 Tryd.underlying5 (by kernel_rfl) (hval 1 22 v1 rfl rfl) h1
 subst hv1
 obtain ⟨k, hv2, hd2, hp2, wf2⟩ := open_int Tryd.underlying3 (hval 2 3 v2 rfl rfl) h2
 have bd2 := wf_i64b wf2
 subst hv2
 obtain ⟨h1, hIV, hK⟩ := of_laid hL
 clear hA0 hval0 hsz0
 refine (patchLeads_walk Aa ma ca Ba Ab mb cb Bb k W hs0 hmc0 hcm0 hB0 hs1 hmc1 hcm1 hB1 bd2 (maxC_of hSh) h1 hIV hK).mono fun e W' ⟨he, hst⟩ => ?_
 have bel := hst.below
 subst he
 exact ⟨_, rfl, _, _, _, [], _, [], hW', trodAll_mk1 (shut_bool Tryd.underlying4 _), (trodAll_cons_mk (Below.trod laid_out (by kernel_rfl) (of_decide_eq_true (by kernel_rfl)) k0 bel lt0) (trodAll_cons_mk (Below.trod laid_out (by kernel_rfl) (of_decide_eq_true (by kernel_rfl)) k1 bel lt1) (trodAll_cons_mk (Below.trod laid_out (by kernel_rfl) (of_decide_eq_true (by kernel_rfl)) k2 bel lt2) trodAll_mk0))), rfl, bel.frame _, fun h => by cases h⟩
theorem patchLeads_said : Rows.PatchLeadsSaid :=
 OpenClaim.holds_of_wide 3 Tryd.f3 rfl rfl rfl rfl rfl rfl rfl ⟨rfl, rfl, rfl, rfl, rfl⟩ rfl rfl rfl rfl rfl (by kernel_rfl) Tryd.func3 (by kernel_rfl)
  (of_decide_eq_true (by kernel_rfl)) (by unfold Func.isWrapper; first | (rw [if_pos (by decide +kernel)]; kernel_rfl) | (rw [if_neg (by decide +kernel)]; exact ⟨rfl, rfl⟩))
  (fun os started H enc _ => patchLeads_lifted os started H enc)
theorem patchLeads_holds : Rows.PatchLeadsCardSaid :=
 Claim7.holds_tied_plain_at .later [] [.data, .data] true (true, "1a1c34c91ecf46124ce0f9c046a8b42c27f626d5da71694725f9f498f4c332eb") false
  patchLeads_said (fun _ h => by cases h) (by kernel_rfl) (fun _ h => by cases h) patchLeads_row_tie rfl ⟨rfl, rfl⟩ (by kernel_rfl) rfl
  (fun f fn hf hfn => by
   obtain rfl : f = 3 := Option.some.inj ((show Tryd.prog.funcNamed "graft/graftlaw08.PatchLeads" = some 3 by kernel_rfl).symm.trans hf) |>.symm
   obtain rfl : fn = Tryd.f3 := (Option.some.inj (Tryd.func3.symm.trans hfn)).symm
   exact ⟨by kernel_rfl, fun j t ht => by
    rw [Tryd.params3] at ht
    have hm : t ∈ ([3, 22] : List Nat) := by have := Array.mem_of_getElem? ht; simp at this ⊢; first | omega | (rcases this with h | h <;> simp [h]) | (rcases this with h | h | h <;> simp [h])
    have hall : (([3, 22] : List Nat).all fun u => !Tryd.prog.wantsStandIn u) = true := by kernel_rfl
    exact (show Tryd.prog.wantsStandIn t = false by simpa using List.all_eq_true.1 hall t hm)⟩)
  (by kernel_rfl)
end Go.Proofs.YtegddcklbmonfaaDoor
