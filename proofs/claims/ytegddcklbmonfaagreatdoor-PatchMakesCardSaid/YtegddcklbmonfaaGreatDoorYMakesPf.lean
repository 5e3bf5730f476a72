/-
 PatchMakes: the frame.
-/
import Derived.Test.YtegddcklbmonfaaGreatDoorYMakesPe
import Derived.Test.YtegddcklbmonfaaGreatDoorYMakesPb
import Derived.Test.YtegddcklbmonfaaGreatDoorTie
import Derived.Test.YtegddcklbmonfaaGreatDoorCards
import Derived.SevenTiedAt
/-
 The code of layer 8: fits, content.
-/
namespace Go.Proofs.YtegddcklbmonfaaGreatDoor
set_option maxRecDepth 100000
set_option maxHeartbeats 2000000
open Go.Value (int slice)
set_option linter.unusedVariables false
set_option linter.unusedSimpArgs false
open Go Go.RowKit
theorem enters48 : Enters Tryz.prog 48 := ⟨_, Tryz.func48, by kernel_rfl, by kernel_rfl⟩
theorem fits8_c (Ao : Option Addr) (mo co : Nat) (hco : co ≤ 9223372036854775807) (hmo : mo ≤ co) (o n : Int) (H1 H2 : List Int) (hH1 : H1.length = 32) (hH2 : H2.length = 32) (A : Option Addr) (m c : Nat) (Cs : List CV) (hmm : m ≤ 1000000000) (hN : NumsC Cs) (w : World) (hC : SrcC w A m Cs) (hD : DatC w Cs) (bo : -9223372036854775808 ≤ o ∧ o ≤ 9223372036854775807) (bn : -9223372036854775808 ≤ n ∧ n ≤ 9223372036854775807)  : Calls Tryz.prog 28 #[.slice Ao mo co, .agg (dV o n H1 H2 (slice A m c)).toArray] w fun e w' => e = .returned (.bool (decide (o = (mo : Int) ∧ (faultI o n Cs).1 = 0))) ∧ St w [] w' := by
 refine qP (args := [.slice Ao mo co, .agg (dV o n H1 H2 (slice A m c)).toArray]) Tryz.func28 rfl Tryz.ntmps28 (by simp) ?_
 refine qC [0, 1] ?_
 iterate 2 refine gx ?_
 refine TL.box (qA rfl) rfl rfl rfl (cs := dV o n H1 H2 (slice A m c)) (by simp [Value.cells]) (tot := 67) (by simp [hH1, hH2]) (fun g1 hg1 => ?_)
 iterate 9 refine gx ?_
 by_cases c1 : o = (mo : Int)
 ·refine qB (qA rfl) rfl (qi (qo rfl rfl rfl) c1) ?_
  iterate 2 refine gx ?_
  by_cases c2 : (faultI o n Cs).1 = 0
  ·refine qR (qM rfl rfl rfl) rfl enters48 rfl rfl (v := .bool true) (fun w hs => (dvalid_c o n H1 H2 hH1 hH2 A m c Cs hmm hN w (hC.at_ hs (fun b hb => (qD (by show g1 ≠ b; omega) qF))) (hD.at_ hs (fun b hb => (qD (by show g1 ≠ b; omega) qF))) bo bn).mono fun e w' h => by rw [decide_eq_true (p := (faultI o n Cs).1 = 0) c2] at h; exact h) ?_
   iterate 5 refine gx ?_
   exact qN rfl rfl (fun w hs => ⟨dec_t (by first | exact ⟨c1, c2⟩ | exact fun h => c2 h.2 | exact fun h => c1 h.1), (hs.drop (by assumption))⟩)
  ·refine qR (qM rfl rfl rfl) rfl enters48 rfl rfl (v := .bool false) (fun w hs => (dvalid_c o n H1 H2 hH1 hH2 A m c Cs hmm hN w (hC.at_ hs (fun b hb => (qD (by show g1 ≠ b; omega) qF))) (hD.at_ hs (fun b hb => (qD (by show g1 ≠ b; omega) qF))) bo bn).mono fun e w' h => by rw [decide_eq_false (p := (faultI o n Cs).1 = 0) c2] at h; exact h) ?_
   iterate 5 refine gx ?_
   exact qN rfl rfl (fun w hs => ⟨dec_f (by first | exact ⟨c1, c2⟩ | exact fun h => c2 h.2 | exact fun h => c1 h.1), (hs.drop (by assumption))⟩)
 ·refine qB (qA rfl) rfl (qg (qo rfl rfl rfl) c1) ?_
  iterate 8 refine gx ?_
  exact qN rfl rfl (fun w hs => ⟨dec_f (by first | exact ⟨c1, c2⟩ | exact fun h => c2 h.2 | exact fun h => c1 h.1), (hs.drop (by assumption))⟩)
theorem content1_c (Ao : Option Addr) (mo co : Nat) (hmo : mo ≤ co) (hco : co ≤ 9223372036854775807) (t : Int) (fn ln : Nat) (A : Option Addr) (m c : Nat) (hl : 1 ≤ ln) (hq : fn + ln ≤ mo) (w : World) : Calls Tryz.prog 29 #[.slice Ao mo co, .agg ([int .i64 1, int .i64 t, int .i64 (fn : Int), int .i64 (ln : Int), slice A m c]).toArray] w fun e w' => e = .returned (.slice (cutA Ao co fn 1) ln (co - fn)) ∧ St w [] w' := by
 refine qP (args := [.slice Ao mo co, .agg ([int .i64 1, int .i64 t, int .i64 (fn : Int), int .i64 (ln : Int), slice A m c]).toArray]) Tryz.func29 rfl Tryz.ntmps29 (by simp) ?_
 refine qC [0, 1] ?_
 iterate 2 refine gx ?_
 refine qx (fun g1 hg1 => ?_)
 iterate 7 refine gx ?_
 refine qR (qA rfl) rfl enters49 rfl rfl (v := .tuple #[.agg ([int .i64 (fn : Int), int .i64 (ln : Int)]).toArray, .bool true]) (fun w hs => source1 t (fn : Int) (ln : Int) A m c w) ?_
 iterate 3 refine gx ?_
 refine qb (fun g2 hg2 => ?_)
 iterate 4 refine gx ?_
 refine qC [0, 3, 4, 5, 6] ?_
 iterate 5 refine gx ?_
 refine qq rfl ?_
 iterate 9 refine gx ?_
 refine qB (qA rfl) rfl (qU rfl rfl rfl (r := ((fn : Int) + (ln : Int))) (w64 (by omega) (by omega))) ?_
 refine qB (qA rfl) rfl (zG rfl Tryz.underlying22 size5 rfl (bnd.at_ (l := fn) rfl (by omega)) (bnd.at_ (l := (fn + ln)) rfl (by omega)) (by omega) (by omega) rfl (ln := ln) (cp := (co - fn)) (by omega) (by omega)) ?_
 iterate 5 refine gx ?_
 exact qN rfl rfl (fun w hs => ⟨rfl, ((hs.drop (by assumption)).drop (by assumption))⟩)
theorem content2_c (Ao : Option Addr) (mo co : Nat) (hmo : mo ≤ co) (hco : co ≤ 9223372036854775807) (t f l : Int) (A : Option Addr) (m c : Nat) (w : World) : Calls Tryz.prog 29 #[.slice Ao mo co, .agg ([int .i64 2, int .i64 t, int .i64 f, int .i64 l, slice A m c]).toArray] w fun e w' => e = .returned (.slice A m c) ∧ St w [] w' := by
 refine qP (args := [.slice Ao mo co, .agg ([int .i64 2, int .i64 t, int .i64 f, int .i64 l, slice A m c]).toArray]) Tryz.func29 rfl Tryz.ntmps29 (by simp) ?_
 refine qC [0, 1] ?_
 iterate 2 refine gx ?_
 refine qx (fun g1 hg1 => ?_)
 iterate 7 refine gx ?_
 refine qR (qA rfl) rfl enters49 rfl rfl (v := .tuple #[.agg ([int .i64 0, int .i64 0]).toArray, .bool false]) (fun w hs => source2 t f l A m c w) ?_
 iterate 3 refine gx ?_
 refine qb (fun g2 hg2 => ?_)
 iterate 4 refine gx ?_
 refine qC [0, 3, 4, 5, 6] ?_
 iterate 5 refine gx ?_
 refine ql rfl ?_
 iterate 10 refine gx ?_
 exact qN rfl rfl (fun w hs => ⟨rfl, ((hs.drop (by assumption)).drop (by assumption))⟩)
theorem content_c (Ao : Option Addr) (mo co : Nat) (hmo : mo ≤ co) (hco : co ≤ 9223372036854775807) (o n : Int) (Cs : List CV) (i : Nat) (x : CV) (hv : ValidC o n Cs) (hx : Cs[i]? = some x) (ho : o = mo) (w : World) : Calls Tryz.prog 29 #[.slice Ao mo co, .agg ([int .i64 x.k, int .i64 x.t, int .i64 x.f, int .i64 x.l, slice x.A x.m x.c]).toArray] w fun e w' => e = .returned (contV Ao co x) ∧ St w [] w' := by
 unfold contV
 rcases vkinds hv hx with h | h
 ·rw [if_pos h.1]
  obtain ⟨k, t, f, l, A, m, c, D⟩ := x
  dsimp only at h ⊢
  obtain ⟨rfl, h2, h3, h4, h5⟩ := h
  obtain ⟨fn, rfl⟩ : ∃ fn : Nat, f = fn := ⟨f.toNat, by omega⟩
  obtain ⟨ln, rfl⟩ : ∃ ln : Nat, l = ln := ⟨l.toNat, by omega⟩
  simp only [Int.toNat_natCast]
  exact content1_c Ao mo co hmo hco t fn ln A m c (by omega) (by omega) w
 ·rw [if_neg (by omega)]
  obtain ⟨k, t, f, l, A, m, c, D⟩ := x
  dsimp only at h ⊢
  obtain ⟨rfl, h2⟩ := h
  exact content2_c Ao mo co hmo hco t f l A m c w
/-
 The code of layer 8: Apply.
-/
theorem enters28 : Enters Tryz.prog 28 := ⟨_, Tryz.func28, by kernel_rfl, by kernel_rfl⟩
theorem enters29 : Enters Tryz.prog 29 := ⟨_, Tryz.func29, by kernel_rfl, by kernel_rfl⟩
theorem apply8_yes (B : List Int) (Ao : Option Addr) (mo co : Nat) (hmo : mo ≤ co) (hco : co ≤ 9223372036854775807) (o n : Int) (H1 H2 : List Int) (hH1 : H1.length = 32) (hH2 : H2.length = 32) (A : Option Addr) (m c : Nat) (Cs : List CV) (hmm : m ≤ 1000000000) (hN : NumsC Cs) (w : World) (hC : SrcC w A m Cs) (hD : DatC w Cs) (hsB : Src w Ao mo .u8 B) (bo : -9223372036854775808 ≤ o ∧ o ≤ 9223372036854775807) (bn : -9223372036854775808 ≤ n ∧ n ≤ 9223372036854775807) (hft : o = (mo : Int) ∧ (faultI o n Cs).1 = 0) (hn3 : n ≤ 3000) : Calls Tryz.prog 11 #[.slice Ao mo co, .agg (dV o n H1 H2 (slice A m c)).toArray] w fun e w' => ∃ g, e = .returned (.slice (some ⟨g, 0, none⟩) n.toNat n.toNat) ∧ w.heap.size ≤ g ∧ St w [⟨g, 5, (newB B Cs n).map (int .u8), n.toNat⟩] w' := by
 have hVC : ValidC o n Cs := validC hft.2
 have ho := hft.1
 have hlen := hVC.len
 unfold okLen at hlen
 refine qP (args := [.slice Ao mo co, .agg (dV o n H1 H2 (slice A m c)).toArray]) Tryz.func11 rfl Tryz.ntmps11 (by simp) ?_
 refine qC [0, 1] ?_
 iterate 2 refine gx ?_
 refine TL.box (qA rfl) rfl rfl rfl (cs := dV o n H1 H2 (slice A m c)) (by simp [Value.cells]) (tot := 67) (by simp [hH1, hH2]) (fun g1 hg1 => ?_)
 iterate 8 refine gx ?_
 refine qR (qA rfl) rfl enters28 rfl rfl (v := .bool true) (fun w hs => (fits8_c Ao mo co hco hmo o n H1 H2 hH1 hH2 A m c Cs hmm hN w (hC.at_ hs (fun b hb => (qD (by show g1 ≠ b; omega) qF))) (hD.at_ hs (fun b hb => (qD (by show g1 ≠ b; omega) qF))) bo bn).mono fun e w' h => by rw [decide_eq_true (p := o = (mo : Int) ∧ (faultI o n Cs).1 = 0) hft] at h; exact h) ?_
 iterate 3 refine gx ?_
 refine ql rfl ?_
 iterate 6 refine gx ?_
 refine TL.makeSlice1 (qA rfl) rfl rfl Tryz.underlying22 mk5 rfl rfl rfl (ln := ((n).toNat)) (cp := ((n).toNat)) (by omega) (by omega) (by omega) (by omega) (by omega) (fun g2 hg2 => ?_)
 rw [show List.replicate ((n).toNat) (.int .u8 0) = (List.replicate ((n).toNat) 0).map (int .u8) from (List.map_replicate ..).symm]
 iterate 3 refine gx ?_
 refine qC [0, 3, 4, 5] ?_
 iterate 10 refine gx ?_
 refine qe (ι := Nat × List Int) (fun x0 => [(0, .slice Ao mo co), (5, .slice (some ⟨g2, 0, none⟩) ((n).toNat) ((n).toNat)), (16, .slice A m c), (17, .int .i64 (m : Int)), (18, .int .i64 (x0.1 : Int))]) (fun x0 => [⟨g2, 5, x0.2.map (int .u8), n.toNat⟩, ⟨g1, 26, dV o n H1 H2 (slice A m c), 67⟩]) (fun x0 => m - x0.1) (fun x0 => x0.1 ≤ m ∧ putI B Cs n x0.1 x0.2) (0, List.replicate n.toNat 0) ⟨Nat.zero_le _, putI.zero B Cs n⟩ (qL (i := 0) rfl rfl (by first | omega | (dsimp only; omega) | rfl) (by first | omega | (dsimp only; omega) | rfl) (qL (i := 5) rfl rfl (by first | omega | (dsimp only; omega) | rfl) (by first | omega | (dsimp only; omega) | rfl) (qL (i := 16) rfl rfl (by first | omega | (dsimp only; omega) | rfl) (by first | omega | (dsimp only; omega) | rfl) (qE (i := 17) rfl (by first | omega | rfl) (qE (i := 18) rfl rfl (qK)))))) (fun w h => h) (fun x0 hC0 => ?_)
 obtain ⟨i, L0⟩ := x0
 obtain ⟨hC0, hpt⟩ := hC0
 dsimp only at hC0 hpt ⊢
 have hL0 := hpt.1
 iterate 6 refine gx ?_
 refine qQ rfl (fun hq0 => ?_) (fun hq0 => ?_)
 ·obtain ⟨x, hx⟩ := hC.get (i := i) (by omega)
  obtain ⟨b, off, hAe, hb, hrw⟩ := hC.some_ (i := i) (by omega)
  subst hAe
  have hnx := hN i x hx
  unfold NumC at hnx
  have hox := hVC.tidy.1 _ (List.mem_map_of_mem (f := tg) (List.mem_of_getElem? hx))
  unfold okT at hox
  have htx : (tg x).1 = x.t := rfl
  iterate 6 refine gx ?_
  refine qB (qA rfl) rfl (qW rfl Tryz.underlying24 size54 rfl rfl (i := i) (by omega) (by omega) (off' := (off + 5 * i)) (by omega)) ?_
  refine qB (qA rfl) rfl (qh rfl agg54 size54 rfl rfl (Row.old (fun jj u h => hrw i x hx jj u h) hb (qD (by show g2 ≠ b; omega) (qD (by show g1 ≠ b; omega) qF)))) ?_
  refine qb (fun g3 hg3 => ?_)
  iterate 3 refine gx ?_
  refine qC [0, 5, 7, 16, 17, 18] ?_
  refine TC.heap (H' := [⟨g3, 54, [int .i64 x.k, int .i64 x.t, int .i64 x.f, int .i64 x.l, slice x.A x.m x.c], 5⟩, ⟨g1, 26, [int .i64 o, int .i64 n] ++ (H1.map (int .u8) ++ (H2.map (int .u8) ++ ([slice (some ⟨b, off, none⟩) m c]))), 67⟩, ⟨g2, 5, L0.map (int .u8), n.toNat⟩]) (fun w h => h.perm (perm_pick (p := [0, 2, 1]) (by kernel_rfl) rfl)) ?_
  refine TC.heap (H' := [⟨g3, 54, [int .i64 x.k, int .i64 x.t, int .i64 x.f, int .i64 x.l, slice x.A x.m x.c], 5⟩, ⟨g1, 26, [int .i64 o, int .i64 n] ++ (H1.map (int .u8) ++ (H2.map (int .u8) ++ ([slice (some ⟨b, off, none⟩) m c]))), 67⟩] ++ ([⟨g2, 5, L0.map (int .u8), n.toNat⟩])) (fun w h => h) ?_
  refine TC.mixB (HB := [Ent.mk g3 54 ([int .i64 x.k, int .i64 x.t, int .i64 x.f, int .i64 x.l, slice x.A x.m x.c]) 5, Ent.mk g1 26 ([int .i64 o, int .i64 n] ++ (H1.map (int .u8) ++ (H2.map (int .u8) ++ ([slice (some ⟨b, off, none⟩) m c])))) 67]) (H := [Ent.mk g2 5 (L0.map (int .u8)) n.toNat]) (by kernel_rfl) [0, 0, 0, 0, 0, 0, 3, 3] [0, 1, 2, 3, 4, 5, 6, 7] (by kernel_rfl) ?_
  refine qw (qA rfl) rfl (fun _ => qV rfl rfl) ?_
  refine qw (qA rfl) rfl (fun _ => zN rfl Tryz.underlying54 rfl size3 rfl (off' := 1) (by first | rfl | omega)) ?_
  refine TP.stay (qA rfl) rfl (fun H' => qJ rfl agg3 rfl (qO (i := 0) (ent := ⟨g3, 54, [int .i64 x.k, int .i64 x.t, int .i64 x.f, int .i64 x.l, slice x.A x.m x.c], 5⟩) (off := 1) rfl rfl (by exact rfl))) ?_
  refine qw (qA rfl) rfl (fun _ => zG rfl Tryz.underlying22 size5 rfl (bnd.at_ (l := ((x.t).toNat)) rfl (by omega)) bnd.dflt (by omega) (by omega) (A' := some ⟨g2, ((x.t).toNat), none⟩) (cut_is (by omega) (by omega)) (ln := ((n).toNat - (x.t).toNat)) (cp := ((n).toNat - (x.t).toNat)) (by omega) (by omega)) ?_
  refine qw (qA rfl) rfl (fun _ => qV rfl rfl) ?_
  refine TP.stay (qA rfl) rfl (fun H' => qh rfl agg54 size54 rfl (vs := [int .i64 x.k, int .i64 x.t, int .i64 x.f, int .i64 x.l, slice x.A x.m x.c]) (by simp []) (qZ (i := 0) (ent := ⟨g3, 54, [int .i64 x.k, int .i64 x.t, int .i64 x.f, int .i64 x.l, slice x.A x.m x.c], 5⟩) rfl rfl rfl)) ?_
  refine TP.call (ι := Unit) (V := fun _ => contV Ao co x) (R := fun _ => True) (H' := fun _ => [⟨g2, 5, L0.map (int .u8), n.toNat⟩]) (qA rfl) rfl enters29 rfl rfl (fun w hs => (content_c Ao mo co hmo hco o n Cs i x hVC hx ho w).mono fun e w' ⟨he, hw⟩ => ⟨(), he, trivial, hs.call' hw⟩) (fun _ _ => ?_)
  obtain ⟨Ac, mc, cc, hcv, hcsrc, hcm, hcc, hcl⟩ := contV_src (Ao := Ao) (co := co) hVC hx hsB ho hmo hco (hD i x hx).1 (hN i x hx)
  rw [hcv]
  have hnew : (L0.take x.t.toNat ++ segP B (valC x) ++ L0.drop (x.t.toNat + (segP B (valC x)).length)).length = n.toNat := (putI.next hpt hVC hx (hD i x hx).1.1.symm (by rw [hsB.1]; exact ho.symm)).1
  have hsl : (segP B (valC x)).length = mc := hcsrc.1
  refine TP.copyP (qA rfl) rfl rfl Tryz.underlying22 size5 rfl rfl (i := 2) (ent := ⟨g2, 5, L0.map (int .u8), n.toNat⟩) rfl rfl (by simp only [List.length_map]; omega) (fun w hs => hcsrc.at_ hs (fun b hb => (qY (qD (by show g3 ≠ b; omega) (qD (by show g1 ≠ b; omega) qF)) (qD (by show g2 ≠ b; omega) qF)))) (c := mc) (by omega) (cs' := (L0.take x.t.toNat ++ segP B (valC x) ++ L0.drop (x.t.toNat + (segP B (valC x)).length)).map (int .u8)) (by show (L0.map (int .u8)).take x.t.toNat ++ ((segP B (valC x)).take mc).map (int .u8) ++ (L0.map (int .u8)).drop (x.t.toNat + mc) = _; rw [List.take_of_length_le (l := segP B (valC x)) (by omega), ← List.map_take, ← List.map_drop, ← List.map_append, ← List.map_append, hsl]) (H' := [⟨g2, 5, (L0.take x.t.toNat ++ segP B (valC x) ++ L0.drop (x.t.toNat + (segP B (valC x)).length)).map (int .u8), n.toNat⟩]) rfl ?_
  refine TP.nil ?_
  refine TE.heap (H' := [⟨g3, 54, [int .i64 x.k, int .i64 x.t, int .i64 x.f, int .i64 x.l, slice x.A x.m x.c], 5⟩, ⟨g1, 26, [int .i64 o, int .i64 n] ++ (H1.map (int .u8) ++ (H2.map (int .u8) ++ ([slice (some ⟨b, off, none⟩) m c]))), 67⟩, ⟨g2, 5, (L0.take x.t.toNat ++ segP B (valC x) ++ L0.drop (x.t.toNat + (segP B (valC x)).length)).map (int .u8), n.toNat⟩]) (fun w h => h) ?_
  iterate 2 refine gx ?_
  refine qC [0, 5, 16, 17, 18] ?_
  refine gx ?_
  refine qB (qA rfl) rfl (qU rfl rfl rfl (r := ((i : Int) + 1)) (w64 (by omega) (by omega))) ?_
  iterate 2 refine gx ?_
  exact qc (i + 1, (L0.take x.t.toNat ++ segP B (valC x) ++ L0.drop (x.t.toNat + (segP B (valC x)).length))) (by show m - (i + 1) < m - i; omega) ⟨by show i + 1 ≤ m; omega, putI.next hpt hVC hx (hD i x hx).1.1.symm (by rw [hsB.1]; exact ho.symm)⟩ (qL (i := 0) rfl rfl (by first | omega | (dsimp only; omega) | rfl) (by first | omega | (dsimp only; omega) | rfl) (qL (i := 5) rfl rfl (by first | omega | (dsimp only; omega) | rfl) (by first | omega | (dsimp only; omega) | rfl) (qL (i := 16) rfl (by first | rfl | (congr 2; omega)) (by first | omega | (dsimp only; omega) | rfl) (by first | omega | (dsimp only; omega) | rfl) (qE (i := 17) rfl (by first | omega | rfl) (qE (i := 18) rfl rfl (qK)))))) (fun w h => ((h.erase (i := 0) rfl (by assumption)).perm (perm_pick (p := [1, 0]) (by kernel_rfl) rfl)))
 ·iterate 12 refine gx ?_
  exact qN rfl rfl (fun w hs => ⟨g2, rfl, by assumption, by rw [← putI.done hpt hVC (by have := hC.1; omega)]; exact (hs.erase (i := 1) rfl (by assumption))⟩)
/-
 The code of layer 8: Byte.
-/
/-
 The code of layer 8: contents.
-/
/-
 The code of layer 8: Verify.
-/
instance : AgY Tryz.prog 40 := ⟨agg40⟩
/-
 The chapter's example.
-/
theorem enters11 : Enters Tryz.prog 11 := ⟨_, Tryz.func11, by kernel_rfl, by kernel_rfl⟩
theorem enters22 : Enters Tryz.prog 22 := ⟨_, Tryz.func22, by kernel_rfl, by kernel_rfl⟩
def exO : List Int := [97, 98, 99, 100, 101, 102]
def exN : List Int := [120, 99, 100, 101, 102, 97, 98]
def exX : List Int := [120]
theorem exO_bytes : Bytes exO := by intro x hx; unfold exO at hx; simp only [List.mem_cons, List.not_mem_nil, or_false] at hx; omega
theorem exN_bytes : Bytes exN := by intro x hx; unfold exN at hx; simp only [List.mem_cons, List.not_mem_nil, or_false] at hx; omega
theorem exX_bytes : Bytes exX := by intro x hx; unfold exX at hx; simp only [List.mem_cons, List.not_mem_nil, or_false] at hx; omega
def ex8 (g : Nat) : List CV := [⟨2, 0, 0, 0, some ⟨g, 0, none⟩, 1, 1, exX⟩, ⟨1, 1, 2, 4, none, 0, 0, []⟩, ⟨1, 5, 0, 2, none, 0, 0, []⟩]
theorem ex8_cmds (g : Nat) : cmdsL exO exN 2 = (ex8 g).map valC := by
 show _ = [(2, 0, 0, 0, [120]), (1, 1, 2, 4, []), (1, 5, 0, 2, [])]
 decide
theorem ex8_num (g : Nat) : NumsC (ex8 g) := fun i x hx => by
 match i, hx with
 | 0, hx => simp [ex8] at hx; subst hx; unfold NumC; dsimp only; omega
 | 1, hx => simp [ex8] at hx; subst hx; unfold NumC; dsimp only; omega
 | 2, hx => simp [ex8] at hx; subst hx; unfold NumC; dsimp only; omega
 | i + 3, hx => simp [ex8] at hx
theorem ex8_dat {w : World} {g : Nat} (h : Src w (some ⟨g, 0, none⟩) 1 .u8 exX) : DatC w (ex8 g) := fun i x hx => by
 match i, hx with
 | 0, hx => simp [ex8] at hx; subst hx; exact ⟨h, exX_bytes⟩
 | 1, hx => simp [ex8] at hx; subst hx; exact ⟨src_no, bytes_no⟩
 | 2, hx => simp [ex8] at hx; subst hx; exact ⟨src_no, bytes_no⟩
 | i + 3, hx => simp [ex8] at hx
theorem St.grow {w0 w1 w : World} {H : List Ent} (h1 : St w0 H w1) (h : St w1 [] w) : St w1 H w :=
 ⟨h.os, h.tape, h.output, h.size, fun e he => (h1.has e he).of_block (h.old _ (h1.has e he).lt (by simp)), fun b hb _ => h.old b hb (by simp), h1.apart⟩
theorem alive8_c (w : World) (hMX : MaxC w) (h1 : 2 < w.heap.size) (hIV : RowI w 0 0 8 .u32 IV) (hK : RowI w 2 0 64 .u32 KT) : Calls Tryz.prog 10 #[] w fun e w' => e = .returned (.bool true) ∧ St w [] w' := by
 refine qP (args := []) Tryz.func10 rfl Tryz.ntmps10 (by simp) ?_
 refine qC [] ?_
 iterate 7 refine gx ?_
 refine zF (qA rfl) rfl rfl Tryz.underlying22 size5 zero5 rfl (by decide) (by decide) (cells := #[.int .u8 97, .int .u8 98, .int .u8 99, .int .u8 100, .int .u8 101, .int .u8 102]) (tot := 6) (by kernel_rfl) (cs := [.int .u8 97, .int .u8 98, .int .u8 99, .int .u8 100, .int .u8 101, .int .u8 102]) rfl rfl (fun g1 hg1 => ?_)
 refine TL.mark2 (qA rfl) rfl rfl Tryz.underlying22 Tryz.underlying5 rfl (i := 0) (ent := ⟨g1, 5, [int .u8 97, int .u8 98, int .u8 99, int .u8 100, int .u8 101, int .u8 102], 6⟩) rfl rfl (W := exO) rfl (by omega) (fun wm1 hap1 hw1 hr1 hgw1 => ?_)
 change St _ ([]) wm1 at hw1
 refine TL.heap (H' := []) (fun w h => hw1.grow h) ?_
 have hwB1 : St w [] wm1 := zL ([]) (by rw [List.append_nil]; exact hw1) qa
 have hwz1 := hw1.size
 have hwy1 := hwB1.size
 have hsL1 : Src wm1 (some ⟨g1, 0, none⟩) exO.length .u8 exO := ⟨rfl, .inr ⟨g1, 0, rfl, hgw1, hr1⟩⟩
 have hnT1 : ∀ e ∈ ([] : List Ent), e.g ≠ g1 := hap1
 have hg1l : g1 < wm1.heap.size := hgw1
 refine zF (qA rfl) rfl rfl Tryz.underlying22 size5 zero5 rfl (by decide) (by decide) (cells := #[.int .u8 120, .int .u8 99, .int .u8 100, .int .u8 101, .int .u8 102, .int .u8 97, .int .u8 98]) (tot := 7) (by kernel_rfl) (cs := [.int .u8 120, .int .u8 99, .int .u8 100, .int .u8 101, .int .u8 102, .int .u8 97, .int .u8 98]) rfl rfl (fun g2 hg2 => ?_)
 refine TL.mark2 (qA rfl) rfl rfl Tryz.underlying22 Tryz.underlying5 rfl (i := 0) (ent := ⟨g2, 5, [int .u8 120, int .u8 99, int .u8 100, int .u8 101, int .u8 102, int .u8 97, int .u8 98], 7⟩) rfl rfl (W := exN) rfl (by omega) (fun wm2 hap2 hw2 hr2 hgw2 => ?_)
 change St _ ([]) wm2 at hw2
 refine TL.heap (H' := []) (fun w h => hw2.grow h) ?_
 have hwB2 : St w [] wm2 := zL ([]) (by rw [List.append_nil]; exact (hwB1.rebase hw2 qa)) qa
 have hwz2 := hw2.size
 have hwy2 := hwB2.size
 have hsL2 : Src wm2 (some ⟨g2, 0, none⟩) exN.length .u8 exN := ⟨rfl, .inr ⟨g2, 0, rfl, hgw2, hr2⟩⟩
 have hsL1 := hsL1.at_ hw2 (by simp)
 have hnT2 : ∀ e ∈ ([] : List Ent), e.g ≠ g2 := hap2
 have hg2l : g2 < wm2.heap.size := hgw2
 refine qr (ι := (Option Addr × Nat) × (List CV × List Ent)) (V := fun y => .agg (dV 6 7 (shaM exO) (shaM exN) (slice y.1.1 3 y.1.2)).toArray) (R := fun y => (3 ≤ y.1.2 ∧ y.1.2 ≤ 9223372036854775807) ∧ OwnD wm2.heap.size y.1.1 3 y.2.1 y.2.2 ∧ (y.2.1.map valC = cmdsL exO exN 2 ∧ ∀ x ∈ y.2.1, x.m = x.B.length) ∧ y.2.1.length = 3) (H' := fun y => [] ++ y.2.2) (qA rfl) rfl enters22 rfl rfl (fun w hs => ?hmk) (fun y hR => ?_)
 case hmk =>
  have hs0 := hs; have hs := hwB2.rebase hs0 qa
  refine (make8_c exO exN (some ⟨g1, 0, none⟩) (some ⟨g2, 0, none⟩) 6 6 7 7 2 (by omega) (by omega) (by omega) (by omega) (by omega) (by omega) (by omega) exO_bytes exN_bytes w (hsL1.at_ hs0 (fun b hb => qF)) (hsL2.at_ hs0 (fun b hb => qF)) (hMX.at_ hs qF) (Nat.lt_of_lt_of_le h1 hs.size) (hIV.keepH hs (by omega) qF) (hK.keepH hs h1 qF)).mono fun e w' ⟨A', c', nL, Fs, He, he, hc, ho, hv, hl, hw⟩ => ?_
  obtain rfl : nL = 3 := by have h1 := congrArg List.length hv.1; rw [ex8_cmds 0, List.length_map] at h1; rw [← hl, h1]; rfl
  exact ⟨((A', c'), (Fs, He)), he, ⟨hc, ho.mono hs0.size, hv, hl⟩, st_call hs0 hw ho.1⟩
 obtain ⟨⟨As, cs⟩, Fs, Hw⟩ := y
 obtain ⟨hcs, hos, hFv, hFl⟩ := hR
 dsimp only at hcs hos hFv hFl ⊢
 have hFw : Fresh w Hw := fun e he => Nat.le_trans hwy2 (hos.1 e he)
 obtain ⟨hval, hnew⟩ := cmdsL_valid hFv.1 hFv.2 (by decide) (by decide)
 have hvi : (faultI 6 7 Fs).1 = 0 := by have h9 : faultI 6 7 Fs = (0, 0) := hval; rw [h9]
 have hnew : newB exO Fs 7 = exN := hnew
 have hsame : ∀ g, sameC Fs (ex8 g) := fun g => by unfold sameC; rw [hFv.1, ex8_cmds g]
 refine zK (qA rfl) rfl rfl zero26 (cs := [int .i64 0, int .i64 0] ++ ((List.replicate 64 0).map (int .u8) ++ ([slice none 0 0]))) rfl (tot := 67) (by simp) (fun g3 hg3 => ?_)
 refine qz (qA rfl) rfl rfl size26 rfl (vs := dV 6 7 (shaM exO) (shaM exN) (slice As 3 cs)) rfl (by simp [(shaM_len exO), (shaM_len exN)]) (zH (by simp [Value.oneCell']) (zH qk (zH qk (by simp [Value.oneCell'])))) (i := 0) (ent := ⟨g3, 26, [int .i64 0, int .i64 0] ++ ((List.replicate 64 0).map (int .u8) ++ ([slice none 0 0])), 67⟩) rfl rfl (by simp []) (H' := [⟨g3, 26, dV 6 7 (shaM exO) (shaM exN) (slice As 3 cs), 67⟩] ++ Hw) rfl ?_
 iterate 4 refine gx ?_
 refine zF (qA rfl) rfl rfl Tryz.underlying22 size5 zero5 rfl (by decide) (by decide) (cells := #[.int .u8 120]) (tot := 1) (by kernel_rfl) (cs := [.int .u8 120]) rfl rfl (fun g4 hg4 => ?_)
 refine TL.mark2 (qA rfl) rfl rfl Tryz.underlying22 Tryz.underlying5 rfl (i := 0) (ent := ⟨g4, 5, [int .u8 120], 1⟩) rfl rfl (W := exX) rfl (by omega) (fun wm3 hap3 hw3 hr3 hgw3 => ?_)
 change St _ ([Ent.mk g3 26 (dV 6 7 (shaM exO) (shaM exN) (slice As 3 cs)) 67] ++ Hw) wm3 at hw3
 refine TL.heap (H' := [Ent.mk g3 26 (dV 6 7 (shaM exO) (shaM exN) (slice As 3 cs)) 67] ++ Hw) (fun w h => hw3.grow h) ?_
 have hwB3 : St w [] wm3 := zL ([Ent.mk g3 26 (dV 6 7 (shaM exO) (shaM exN) (slice As 3 cs)) 67] ++ Hw) (by rw [List.append_nil]; exact (hwB2.rebase hw3 (qt (qI (by first | assumption | (dsimp only; omega)) qa) hFw))) (qt (qI (by first | assumption | (dsimp only; omega)) qa) hFw)
 have hwz3 := hw3.size
 have hwy3 := hwB3.size
 have hsL3 : Src wm3 (some ⟨g4, 0, none⟩) exX.length .u8 exX := ⟨rfl, .inr ⟨g4, 0, rfl, hgw3, hr3⟩⟩
 have hnT3 : ∀ e ∈ ([Ent.mk g3 26 (dV 6 7 (shaM exO) (shaM exN) (slice As 3 cs)) 67] ++ Hw : List Ent), e.g ≠ g4 := hap3
 have hg3l : g4 < wm3.heap.size := hgw3
 refine qB (qA rfl) rfl (qm rfl (vs := [(0, int .i64 2), (4, slice (some ⟨g4, 0, none⟩) 1 1)]) rfl (fun w => by first | rfl | kernel_rfl) (v := .agg ([int .i64 2, int .i64 0, int .i64 0, int .i64 0, slice (some ⟨g4, 0, none⟩) 1 1]).toArray)) ?_
 refine qB (qA rfl) rfl (qm rfl (vs := [(0, int .i64 1), (1, int .i64 1), (2, int .i64 2), (3, int .i64 4)]) rfl (fun w => by first | rfl | kernel_rfl) (v := .agg ([int .i64 1, int .i64 1, int .i64 2, int .i64 4, slice none 0 0]).toArray)) ?_
 refine qB (qA rfl) rfl (qm rfl (vs := [(0, int .i64 1), (1, int .i64 5), (3, int .i64 2)]) rfl (fun w => by first | rfl | kernel_rfl) (v := .agg ([int .i64 1, int .i64 5, int .i64 0, int .i64 2, slice none 0 0]).toArray)) ?_
 refine zF (qA rfl) rfl rfl Tryz.underlying24 size54 zero54 rfl (by decide) (by decide) (cells := #[.int .i64 2, .int .i64 0, .int .i64 0, .int .i64 0, .slice (some ⟨g4, 0, none⟩) 1 1, .int .i64 1, .int .i64 1, .int .i64 2, .int .i64 4, .slice none 0 0, .int .i64 1, .int .i64 5, .int .i64 0, .int .i64 2, .slice none 0 0]) (tot := 15) (by kernel_rfl) (cs := [.int .i64 2, .int .i64 0, .int .i64 0, .int .i64 0, .slice (some ⟨g4, 0, none⟩) 1 1, .int .i64 1, .int .i64 1, .int .i64 2, .int .i64 4, .slice none 0 0, .int .i64 1, .int .i64 5, .int .i64 0, .int .i64 2, .slice none 0 0]) rfl rfl (fun g5 hg5 => ?_)
 iterate 3 refine gx ?_
 refine qC [0, 1, 2] ?_
 iterate 3 refine gx ?_
 refine qB (qA rfl) rfl (qJ rfl agg24 rfl (qO (i := 1) (ent := ⟨g3, 26, dV 6 7 (shaM exO) (shaM exN) (slice As 3 cs), 67⟩) (off := 66) rfl rfl (by exact app_right (a := 2) (i := 64) (rfl) (app_right (a := 32) (i := 32) (ints_len (shaM_len exO)) (app_right (a := 32) (i := 0) (ints_len (shaM_len exN)) (rfl)))))) ?_
 refine gx ?_
 refine qR (qA rfl) rfl enters27 rfl rfl (v := .bool true) (fun w hs => (rall_c As (some ⟨g5, 0, none⟩) 3 cs 3 3 Fs (ex8 g4) (by omega) (by omega) hos.num w (hos.src (fun e he => hs.has e (by simp [he]))) (lies_srcC (hs.has (⟨g5, 54, [int .i64 2, int .i64 0, int .i64 0, int .i64 0, slice (some ⟨g4, 0, none⟩) 1 1, int .i64 1, int .i64 1, int .i64 2, int .i64 4, slice none 0 0, int .i64 1, int .i64 5, int .i64 0, int .i64 2, slice none 0 0], 15⟩) (List.mem_of_getElem? (i := 0) rfl)) rfl rfl) (hos.dat (fun e he => hs.has e (by simp [he]))) (ex8_dat ⟨rfl, .inr ⟨g4, 0, rfl, Nat.lt_of_lt_of_le hgw3 hs.size, hr3.keepH hs hgw3 (List.forall_mem_cons.2 ⟨by dsimp only; omega, hnT3⟩)⟩⟩)).mono fun e w' h => by rw [decide_eq_true (p := sameC Fs (ex8 g4)) (hsame _)] at h; exact h) ?_
 iterate 3 refine gx ?_
 refine qB (qM rfl rfl rfl) rfl (qi (qo rfl rfl rfl) rfl) ?_
 iterate 4 refine gx ?_
 refine qB (qM rfl rfl rfl) rfl (qi (qo rfl rfl rfl) rfl) ?_
 iterate 2 refine gx ?_
 refine zF (qM rfl rfl rfl) rfl rfl Tryz.underlying22 size5 zero5 rfl (by decide) (by decide) (cells := #[.int .u8 97, .int .u8 98, .int .u8 99, .int .u8 100, .int .u8 101, .int .u8 102]) (tot := 6) (by kernel_rfl) (cs := [.int .u8 97, .int .u8 98, .int .u8 99, .int .u8 100, .int .u8 101, .int .u8 102]) rfl rfl (fun g6 hg6 => ?_)
 refine TL.mark2 (qM rfl rfl rfl) rfl rfl Tryz.underlying22 Tryz.underlying5 rfl (i := 0) (ent := ⟨g6, 5, [int .u8 97, int .u8 98, int .u8 99, int .u8 100, int .u8 101, int .u8 102], 6⟩) rfl rfl (W := exO) rfl (by omega) (fun wm4 hap4 hw4 hr4 hgw4 => ?_)
 change St _ ([Ent.mk g5 54 ([int .i64 2, int .i64 0, int .i64 0, int .i64 0, slice (some ⟨g4, 0, none⟩) 1 1, int .i64 1, int .i64 1, int .i64 2, int .i64 4, slice none 0 0, int .i64 1, int .i64 5, int .i64 0, int .i64 2, slice none 0 0]) 15, Ent.mk g3 26 (dV 6 7 (shaM exO) (shaM exN) (slice As 3 cs)) 67] ++ Hw) wm4 at hw4
 refine TL.heap (H' := [Ent.mk g5 54 ([int .i64 2, int .i64 0, int .i64 0, int .i64 0, slice (some ⟨g4, 0, none⟩) 1 1, int .i64 1, int .i64 1, int .i64 2, int .i64 4, slice none 0 0, int .i64 1, int .i64 5, int .i64 0, int .i64 2, slice none 0 0]) 15, Ent.mk g3 26 (dV 6 7 (shaM exO) (shaM exN) (slice As 3 cs)) 67] ++ Hw) (fun w h => hw4.grow h) ?_
 have hwB4 : St w [] wm4 := zL ([Ent.mk g5 54 ([int .i64 2, int .i64 0, int .i64 0, int .i64 0, slice (some ⟨g4, 0, none⟩) 1 1, int .i64 1, int .i64 1, int .i64 2, int .i64 4, slice none 0 0, int .i64 1, int .i64 5, int .i64 0, int .i64 2, slice none 0 0]) 15, Ent.mk g3 26 (dV 6 7 (shaM exO) (shaM exN) (slice As 3 cs)) 67] ++ Hw) (by rw [List.append_nil]; exact (hwB3.rebase hw4 (qt (qI (by first | assumption | (dsimp only; omega)) (qI (by first | assumption | (dsimp only; omega)) qa)) hFw))) (qt (qI (by first | assumption | (dsimp only; omega)) (qI (by first | assumption | (dsimp only; omega)) qa)) hFw)
 have hwz4 := hw4.size
 have hwy4 := hwB4.size
 have hsL4 : Src wm4 (some ⟨g6, 0, none⟩) exO.length .u8 exO := ⟨rfl, .inr ⟨g6, 0, rfl, hgw4, hr4⟩⟩
 have hnT4 : ∀ e ∈ ([Ent.mk g5 54 ([int .i64 2, int .i64 0, int .i64 0, int .i64 0, slice (some ⟨g4, 0, none⟩) 1 1, int .i64 1, int .i64 1, int .i64 2, int .i64 4, slice none 0 0, int .i64 1, int .i64 5, int .i64 0, int .i64 2, slice none 0 0]) 15, Ent.mk g3 26 (dV 6 7 (shaM exO) (shaM exN) (slice As 3 cs)) 67] ++ Hw : List Ent), e.g ≠ g6 := hap4
 have hg4l : g6 < wm4.heap.size := hgw4
 refine qB (qM rfl rfl rfl) rfl (qh rfl agg26 size26 rfl (vs := dV 6 7 (shaM exO) (shaM exN) (slice As 3 cs)) (by simp [(shaM_len exO), (shaM_len exN)]) (qZ (i := 1) (ent := ⟨g3, 26, dV 6 7 (shaM exO) (shaM exN) (slice As 3 cs), 67⟩) rfl rfl rfl)) ?_
 refine qr (ι := Nat) (V := fun y => .slice (some ⟨y, 0, none⟩) 7 7) (R := fun y => wm4.heap.size ≤ y) (H' := fun y => [Ent.mk g5 54 ([int .i64 2, int .i64 0, int .i64 0, int .i64 0, slice (some ⟨g4, 0, none⟩) 1 1, int .i64 1, int .i64 1, int .i64 2, int .i64 4, slice none 0 0, int .i64 1, int .i64 5, int .i64 0, int .i64 2, slice none 0 0]) 15, Ent.mk g3 26 (dV 6 7 (shaM exO) (shaM exN) (slice As 3 cs)) 67] ++ Hw ++ [Ent.mk y 5 (exN.map (int .u8)) 7]) (qM rfl rfl rfl) rfl enters11 rfl rfl (fun w hs => ?hap) (fun y hR => ?_)
 case hap =>
  have hs0 := hs; have hs := hwB4.rebase hs0 (qt (qI (by first | assumption | (dsimp only; omega)) (qI (by first | assumption | (dsimp only; omega)) qa)) hFw)
  refine (apply8_yes exO (some ⟨g6, 0, none⟩) 6 6 (by omega) (by omega) 6 7 (shaM exO) (shaM exN) (shaM_len exO) (shaM_len exN) As 3 cs Fs (by omega) hos.num w (hos.src (fun e he => hs.has e (by simp [he]))) (hos.dat (fun e he => hs.has e (by simp [he]))) ⟨rfl, .inr ⟨g6, 0, rfl, Nat.lt_of_lt_of_le hgw4 hs0.size, hr4.keepH hs0 hgw4 hnT4⟩⟩ (by omega) (by omega) ⟨rfl, hvi⟩ (by omega)).mono fun e w' ⟨g, he, hg, hw⟩ => ?_
  rw [hnew] at hw
  exact ⟨g, he, Nat.le_trans hs0.size hg, st_call hs0 hw (qI hg qa)⟩
 have hFy : Fresh w [Ent.mk y 5 (exN.map (int .u8)) 7] := qI (by show w.heap.size ≤ y; omega) qa
 refine TL.heap (H' := [Ent.mk g5 54 ([int .i64 2, int .i64 0, int .i64 0, int .i64 0, slice (some ⟨g4, 0, none⟩) 1 1, int .i64 1, int .i64 1, int .i64 2, int .i64 4, slice none 0 0, int .i64 1, int .i64 5, int .i64 0, int .i64 2, slice none 0 0]) 15, Ent.mk g3 26 (dV 6 7 (shaM exO) (shaM exN) (slice As 3 cs)) 67] ++ (Hw ++ [Ent.mk y 5 (exN.map (int .u8)) 7])) (fun w h => by rw [← List.append_assoc]; exact h) ?_
 have hFwy := qt hFw hFy
 refine qB (qM rfl rfl rfl) rfl (Gets.b2s rfl Tryz.underlying22 Tryz.underlying9 Tryz.underlying5 rfl (fun w hs => src_ent (hs.has (Ent.mk y 5 (exN.map (int .u8)) 7) (by simp)) rfl)) ?_
 refine qB (qM rfl rfl rfl) rfl (qi (Gets.bytesEq (C := exN) rfl rfl rfl exN_bytes exN_bytes) rfl) ?_
 iterate 5 refine gx ?_
 exact qN rfl rfl (fun w hs => ⟨rfl, zL ([Ent.mk g5 54 ([int .i64 2, int .i64 0, int .i64 0, int .i64 0, slice (some ⟨g4, 0, none⟩) 1 1, int .i64 1, int .i64 1, int .i64 2, int .i64 4, slice none 0 0, int .i64 1, int .i64 5, int .i64 0, int .i64 2, slice none 0 0]) 15, Ent.mk g3 26 (dV 6 7 (shaM exO) (shaM exN) (slice As 3 cs)) 67] ++ (Hw ++ [Ent.mk y 5 (exN.map (int .u8)) 7])) (by rw [List.append_nil]; exact hwB4.rebase hs (qt (qI (by first | assumption | (dsimp only; omega)) (qI (by first | assumption | (dsimp only; omega)) qa)) hFwy)) (qt (qI (by first | assumption | (dsimp only; omega)) (qI (by first | assumption | (dsimp only; omega)) qa)) hFwy)⟩)
/-
 PatchVerifies: the walk.
-/
theorem agg38 : (isAgg 38).run Tryz.prog = fun w => .ok false w := isAgg_no Tryz.underlying38 rfl
theorem enters10 : Enters Tryz.prog 10 := ⟨_, Tryz.func10, by kernel_rfl, by kernel_rfl⟩
theorem size38 : (Tryz.prog.info? 38).map (·.size) = some 1 := by kernel_rfl
instance : AgN Tryz.prog 38 := ⟨agg38⟩
instance : Fld Tryz.prog 40 0 0 := ⟨⟨_, _, _, Tryz.underlying40, rfl, size38, rfl⟩⟩
instance : Fld Tryz.prog 40 1 1 := ⟨⟨_, _, _, Tryz.underlying40, rfl, size3, rfl⟩⟩
/-
 slices.Equal of bytes.
-/
/-
 PatchBytes: the walk.
-/
/-
 PatchApplies: the walk.
-/
/-
 slices.Reverse of commands.
-/
theorem sum_ge {old : List Int} : ∀ {l : List PC}, (∀ c ∈ l, okPC old c) → (l.length : Int) ≤ sumT (l.map tgP)
 | [], _ => by simp [sumT]
 | c :: l, h => by
  have h1 := sum_ge (old := old) (l := l) (fun d hd => h d (List.mem_cons_of_mem _ hd))
  have h2 := h c List.mem_cons_self
  have h3 : 1 ≤ (tgP c).2 := by
   unfold tgP lenPC
   dsimp only
   rcases h2 with ⟨e, _, h4, _⟩ | ⟨e, _, _, h4⟩
   ·rw [if_pos e]; exact h4
   ·rw [if_neg (by rw [e]; decide)]
    have : 0 < c.2.2.2.2.length := List.length_pos_iff.2 h4
    omega
  have h5 : sumT ((c :: l).map tgP) = (tgP c).2 + sumT (l.map tgP) := by simp [sumT]
  rw [h5, List.length_cons]
  omega
theorem cmdsL_len (old new : List Int) (k : Int) : (cmdsL old new k).length ≤ new.length := by
 have h := cmdsL_leads old new k
 have h1 := sum_ge h.1
 have h2 := h.2.2.1
 omega
/-
 slices.Reverse of no commands.
-/
/-
 PatchOrder: the walk.
-/
/-
 A cell of a block of the call's own is written in a region that draws its order; commands whose last one grows.
-/
section
open Go.Instr
variable {P : Program} {ops : Array Oper} {Q : Exit → Act → World → Prop} {n : Sz} {w0 : World} {L L' : List (Nat × Value)} {HB X X0 : List Ent}
variable {o : Oper} {rest : List Oper} {v u : Value} {x y z : Operand} {t t' e : TypeId} {ks : List Nat} {kd : IntKind} {rs : List (Value → List Ent → Prop)}
theorem TT.store1 {g off : Nat} {ent : Ent} {Y0 : List Ent} {r : Value → List Ent → Prop} (hg : Wants n ops L o) (hd : o.dst = none) (ho : o.op = .store t x y) (hsz : (P.info? t).map (·.size) = some 1)
  (hx : ev L x = some (.pointer (some ⟨g, off, none⟩))) (hy : ev L y = some v) (hv : v.oneCell' = true) (hXp : X.Perm (X0 ++ (Y0 ++ [ent]))) (he : ent.g = g) (hN : w0.heap.size ≤ g) (hY : Fresh w0 Y0) (hoff : off < ent.cs.length)
  {cs' : List Value} (hcs : ent.cs.set off v = cs') (hrel : r undef (Y0 ++ [⟨ent.g, ent.t, cs', ent.tot⟩])) (hr : ∀ v' E, Fresh w0 E → r v' E → TT P ops Q n w0 HB ks rs rest L (X0 ++ E)) : TT P ops Q n w0 HB (7 :: ks) (r :: rs) (o :: rest) L X :=
 fun a hf => .inr (.inr ⟨rfl, X0, Y0 ++ [ent], hXp, fun Z w hZ hs => by
  have hperm : ∀ d : Ent, (HB ++ ((X0 ++ (Y0 ++ [d])) ++ Z)).Perm (d :: (HB ++ ((X0 ++ Y0) ++ Z))) := fun d => by
   have e1 : HB ++ ((X0 ++ (Y0 ++ [d])) ++ Z) = (HB ++ (X0 ++ Y0)) ++ d :: Z := by simp
   rw [e1, ← List.append_assoc HB (X0 ++ Y0) Z]
   exact List.perm_middle
  subst he
  subst hcs
  have hs1 := hs.perm (hperm ent)
  have hi : (ent :: (HB ++ ((X0 ++ Y0) ++ Z)))[0]? = some ent := rfl
  have h2 := hs1.set hi off v
  have h3 : St w0 (HB ++ ((X0 ++ (Y0 ++ [Ent.mk ent.g ent.t (ent.cs.set off v) ent.tot])) ++ Z)) (w.setCell ⟨ent.g, off, none⟩ v) := (show St w0 (Ent.mk ent.g ent.t (ent.cs.set off v) ent.tot :: (HB ++ ((X0 ++ Y0) ++ Z))) _ from h2).perm (hperm _).symm
  refine ⟨.inr (.inl ⟨Y0 ++ [Ent.mk ent.g ent.t (ent.cs.set off v) ent.tot], w.setCell ⟨ent.g, off, none⟩ v, hd, ?_, hrel, hY.app (fun d hd => by rw [List.mem_singleton.1 hd]; exact hN), h3⟩), hg a hf⟩
  simp only [execOp, ho, hf.eval hx, hf.eval hy]
  refine run_unit ?_
  have hl := hs1.has ent (List.mem_of_getElem? hi)
  have hc := hl.cell (o := off) (List.getElem?_eq_getElem hoff)
  have hfz := hl.free off
  simp only [Instr.storeAt, Instr.sureAddr, storeVar, Sem.run_bind, Sem.run_pure, Result.andThen_ok, run_size hsz, oneCell_cells hv]
  simp only [List.size_toArray, List.length_cons, List.length_nil, Nat.zero_add, ne_eq, not_true_eq_false, if_false, storeCells, Sem.run_bind, Addr.add, if_true, store]
  cases v <;> first | (simp [Value.oneCell'] at hv; done) | simp [Sem.run, hc, hfz], fun v' d hE hR => by
   rw [hd]
   exact hr v' d hE hR a hf⟩)
end
theorem OwnB.sub {N : Nat} {Cs Es : List CV} {He : List Ent} (h : OwnB N Cs He) (hs : ∀ x ∈ Es, x ∈ Cs) : OwnB N Es He := ⟨h.1, h.2.1.sub hs, fun w hl => (h.2.2 w hl).sub hs⟩
theorem OwnB.addX {N g tt tot : Nat} {Fs : List CV} {He : List Ent} (h : OwnB N Fs He) {z : CV} (hg : N ≤ g) (hA : z.A = some ⟨g, 0, none⟩) (hP : z.B.length = z.m) (hb : Bytes z.B) (hn : NumC z) :
  OwnB N (Fs ++ [z]) (He ++ [⟨g, tt, z.B.map (int .u8), tot⟩]) :=
 ⟨fun e he => by
  rcases List.mem_append.1 he with he | he
  ·exact h.1 e he
  ·rw [List.mem_singleton.1 he]; exact hg, nums_add h.2.1 hn, fun w hl => dat_add (h.2.2 w fun e he => hl e (List.mem_append.2 (.inl he))) ⟨by rw [hA]; exact src_ent (hl _ (List.mem_append.2 (.inr List.mem_cons_self))) hP, hb⟩⟩
def withB (x : CV) (g m c : Nat) (P : List Int) : CV := ⟨x.k, x.t, x.f, x.l, some ⟨g, 0, none⟩, m, c, P⟩
theorem flatC_last {Fs : List CV} {x : CV} {j : Nat} {u : Value} (h : (cellsC x)[j]? = some u) : (flatC (Fs ++ [x]))[5 * Fs.length + j]? = some u := flatC_get (by simp) h
theorem flatC_setB {Fs : List CV} {x : CV} {g m c : Nat} {P : List Int} : (flatC (Fs ++ [x])).set (5 * Fs.length + 4) (.slice (some ⟨g, 0, none⟩) m c) = flatC (Fs ++ [withB x g m c P]) := by
 rw [flatC_app, flatC_app, flatC_one, flatC_one, List.set_append_right _ _ (by rw [flatC_len]; omega), flatC_len, show 5 * Fs.length + 4 - Fs.length * 5 = 4 by omega]
 rfl
theorem push_last {Fs : List CV} {x : CV} {p : Nat} {v : Int} {g m c : Nat} (h : x.k = 2) : pushL ((Fs ++ [x]).map valC) p v = (Fs ++ [withB x g m c (x.B ++ [v])]).map valC := by
 unfold pushL
 rw [List.map_append, List.getLast?_append]
 simp only [List.map_cons, List.map_nil, List.getLast?_singleton, Option.some_or]
 rw [if_pos (show (valC x).1 = 2 from h), List.dropLast_concat, List.map_append]
 rfl
theorem push_other {Fs : List CV} {x : CV} {p : Nat} {v : Int} (h : ¬ x.k = 2) : pushL ((Fs ++ [x]).map valC) p v = (Fs ++ [x]).map valC ++ [(2, (p : Int), 0, 0, [v])] := by
 unfold pushL
 rw [List.map_append, List.getLast?_append]
 simp only [List.map_cons, List.map_nil, List.getLast?_singleton, Option.some_or]
 rw [if_neg (show ¬ (valC x).1 = 2 from h)]
theorem cons_last {Cs : List CV} (h : Cs ≠ []) : ∃ Fs x, Cs = Fs ++ [x] := ⟨Cs.dropLast, Cs.getLast h, (List.dropLast_concat_getLast h).symm⟩
def datB (ps : List PC) (p : Nat) : Prop := ∀ c ∈ ps, c.2.2.2.2.length ≤ p ∧ Bytes c.2.2.2.2
theorem datB.mono {ps : List PC} {p q : Nat} (h : datB ps p) (hq : p ≤ q) : datB ps q := fun c hc => ⟨Nat.le_trans (h c hc).1 hq, (h c hc).2⟩
theorem datB.add {ps : List PC} {p : Nat} {c : PC} (h : datB ps p) (hc : c.2.2.2.2.length ≤ p) (hb : Bytes c.2.2.2.2) : datB (ps ++ [c]) p := fun d hd => by
 rcases List.mem_append.1 hd with hd | hd
 ·exact h d hd
 ·rw [List.mem_singleton.1 hd]; exact ⟨hc, hb⟩
theorem bytes_one {v : Int} (h : 0 ≤ v ∧ v ≤ 255) : Bytes [v] := fun y hy => by rw [List.mem_singleton.1 hy]; exact h
theorem bytes_snoc {P : List Int} {v : Int} (hP : Bytes P) (h : 0 ≤ v ∧ v ≤ 255) : Bytes (P ++ [v]) := fun y hy => by
 rcases List.mem_append.1 hy with hy | hy
 ·exact hP y hy
 ·exact bytes_one h y hy
theorem datB.push {ps : List PC} {p : Nat} {v : Int} (h : datB ps p) (hv : 0 ≤ v ∧ v ≤ 255) : datB (pushL ps p v) (p + 1) := by
 unfold pushL
 cases hl : ps.getLast? with
 | none => exact (h.mono (Nat.le_succ p)).add (by simp) (bytes_one hv)
 | some c =>
  dsimp only
  by_cases e : c.1 = 2
  ·rw [if_pos e]
   intro d hd
   rcases List.mem_append.1 hd with hd | hd
   ·have := h d (List.dropLast_subset _ hd)
    exact ⟨Nat.le_succ_of_le this.1, this.2⟩
   ·rw [List.mem_singleton.1 hd]
    have := h c (List.mem_of_getLast? hl)
    refine ⟨?_, bytes_snoc this.2 hv⟩
    simp only [addLit, List.length_append, List.length_singleton]
    omega
  ·rw [if_neg e]
   exact (h.mono (Nat.le_succ p)).add (by simp) (bytes_one hv)
theorem src_srcV {w : World} {A : Option Addr} {m : Nat} {kd : IntKind} {B : List Int} (h : Src w A m kd B) : SrcV w A m (B.map (int kd)) := by
 obtain ⟨h1, h2⟩ := h
 rcases h2 with h2 | ⟨b, off, rfl, hb, hr⟩
 ·have hB : B = [] := List.length_eq_zero_iff.1 (h1.trans h2)
  subst hB
  cases A with
  | none => exact .inl ⟨rfl, h2⟩
  | some a => exact .inr ⟨a, rfl, fun j u hu => by simp at hu⟩
 ·refine .inr ⟨_, rfl, fun j u hu => ?_⟩
  have hj : j < B.length := by have := (List.getElem?_eq_some_iff.1 hu).1; simpa using this
  have h3 := qS (kd := kd) (W := B) (i := j) hj
  rw [h3] at hu
  cases hu
  have h4 := hr j (by omega)
  rw [addr_add]; exact h4
theorem ext_keep {w0 w : World} {Hd : List Ent} {b g l : Ent} (h : St w0 (([] ++ Hd) ++ (([b] ++ [g]) ++ [l])) w) (hb : w0.heap.size ≤ b.g) : St w0 ([] ++ ([l] ++ (Hd ++ [g]))) w := by
 have hp : (([] ++ Hd) ++ (([b] ++ [g]) ++ [l])).Perm (b :: ([] ++ ([l] ++ (Hd ++ [g])))) := by
  rw [List.nil_append, List.nil_append]
  have e1 : Hd ++ (([b] ++ [g]) ++ [l]) = Hd ++ b :: ([g] ++ [l]) := by simp
  rw [e1]
  refine List.perm_middle.trans (List.Perm.cons b ?_)
  rw [← List.append_assoc]
  exact List.perm_append_comm
 exact (h.perm hp).drop hb
structure CmS where
 p : Nat
 v : Value
 ps : List PC
 He : List Ent
/-
 The reference of layer 8: Commands.
-/
theorem enters45 : Enters Tryz.prog 45 := ⟨_, Tryz.func45, by kernel_rfl, by kernel_rfl⟩
theorem match_yes {old b : List Int} {k rq rn : Int} (h : matchR old b k = (rq, rn)) (h0 : 0 ≤ rq) : ∃ q nn : Nat, matchI old b k = some q ∧ rq = (q : Int) ∧ rn = (nn : Int) ∧ nn = eqN (old.drop q) b := by
 cases e : matchI old b k with
 | none => rw [matchR_no e] at h; cases h; omega
 | some q => rw [matchR_yes e] at h; cases h; exact ⟨q, _, rfl, rfl, rfl, rfl⟩
theorem match_no' {old b : List Int} {k rq rn : Int} (h : matchR old b k = (rq, rn)) (h0 : ¬ 0 ≤ rq) : matchI old b k = none := by
 cases e : matchI old b k with
 | none => rfl
 | some q => rw [matchR_yes e] at h; cases h; omega
theorem perm_lit (d : Ent) (Hd Hs : List Ent) : ([d] ++ (Hd ++ Hs)).Perm ([] ++ (Hs ++ (Hd ++ [d]))) := by
 rw [List.nil_append]
 refine (List.perm_append_comm (l₁ := [d]) (l₂ := Hd ++ Hs)).trans ?_
 rw [List.append_assoc]
 refine (List.Perm.append_left Hd List.perm_append_comm).trans ?_
 rw [← List.append_assoc]
 exact List.perm_append_comm
set_option maxHeartbeats 4000000 in
theorem commands_c (B P2 : List Int) (Ao A2 : Option Addr) (mo co m2 c2 : Nat) (k : Int) (hmo : mo ≤ co) (hm2 : m2 ≤ c2) (hco : co ≤ 9223372036854775807) (hcm2 : c2 ≤ 9223372036854775807) (hmo3 : mo ≤ 300) (hm23 : m2 ≤ 300) (bk : -9223372036854775808 ≤ k ∧ k ≤ 9223372036854775807) (hBB : Bytes B) (hPP : Bytes P2) (w : World) (hsB : Src w Ao mo .u8 B) (hs2 : Src w A2 m2 .u8 P2) : Calls Tryz.prog 23 #[.slice Ao mo co, .slice A2 m2 c2, .int .i64 k] w fun e w' => ∃ v He, e = .returned v ∧ OwnL w.heap.size 54 v (cmdsL B P2 k) He ∧ St w He w' := by
 have hl1 := hsB.1
 have hl2 := hs2.1
 refine qP (args := [.slice Ao mo co, .slice A2 m2 c2, .int .i64 k]) Tryz.func23 rfl Tryz.ntmps23 (by simp) ?_
 refine qC [0, 1, 2] ?_
 iterate 17 refine gx ?_
 refine qe (ι := CmS) (fun x0 => [(0, .slice Ao mo co), (1, .slice A2 m2 c2), (2, .int .i64 k), (7, x0.v), (8, .int .i64 (x0.p : Int))]) (fun x0 => [] ++ x0.He) (fun x0 => m2 - x0.p) (fun x0 => greedy B P2 k x0.p x0.ps ∧ OwnL w.heap.size 54 x0.v x0.ps x0.He ∧ x0.ps.length ≤ x0.p ∧ datB x0.ps x0.p) (⟨0, .slice none 0 0, [], []⟩ : CmS) ⟨greedy_zero B P2 k, OwnL.nil _ _, Nat.le_refl _, fun c hc => by cases hc⟩ (qL (i := 0) rfl rfl (by first | omega | (dsimp only; omega) | rfl) (by first | omega | (dsimp only; omega) | rfl) (qL (i := 1) rfl rfl (by first | omega | (dsimp only; omega) | rfl) (by first | omega | (dsimp only; omega) | rfl) (qE (i := 2) rfl (by first | rfl | omega) (qH (i := 7) rfl (qE (i := 8) rfl rfl (qK)))))) (fun w h => h) (fun x0 hC0 => ?_)
 obtain ⟨p, v, ps, He⟩ := x0
 obtain ⟨hgr, hL, hpl, hdl⟩ := hC0
 dsimp only at hgr hL hpl hdl ⊢
 have hpm := hgr.1
 obtain ⟨Cs, Hs, Hd, rfl, hCm, rfl, hS, hD⟩ := hL
 have hF : Fresh w (Hs ++ Hd) := qt hS.new hD.1
 have hDf : Fresh w Hd := hD.1
 obtain ⟨Av, cv, rfl, hcv, hcv2⟩ := hS.form
 obtain ⟨lp, hlp⟩ : ∃ lp, lp = Cs.length := ⟨_, rfl⟩
 rw [← hlp] at hcv
 have hS0 := hS
 rw [← hlp]
 have hpl2 : lp ≤ p := by rw [hlp, ← List.length_map (f := valC)]; exact hpl
 iterate 9 refine gx ?_
 refine qC [0, 1, 2, 7, 8, 15] ?_
 refine qQ rfl (fun hq0 => ?_) (fun hq0 => ?_)
 ·obtain ⟨b2, o2, hA2, hb2, hr2⟩ := hs2.2.resolve_left (by omega)
  subst hA2
  obtain ⟨rq, rn, hrr⟩ : ∃ rq rn : Int, matchR B (P2.drop p) k = (rq, rn) := ⟨_, _, rfl⟩
  have hbp := hPP.get p
  iterate 8 refine gx ?_
  refine qB (qA rfl) rfl (zG rfl Tryz.underlying22 size5 rfl (bnd.at_ (l := p) rfl (by omega)) bnd.dflt (by omega) (by omega) (A' := some ⟨b2, (o2 + p), none⟩) (cut_is (by omega) (by omega)) (ln := (m2 - p)) (cp := (c2 - p)) (by omega) (by omega)) ?_
  refine gx ?_
  refine qR (qA rfl) rfl enters45 rfl rfl (v := .tuple #[.int .i64 rq, .int .i64 rn]) (fun w hs => (rmatch_c B (P2.drop p) Ao (some ⟨b2, (o2 + p), none⟩) mo co (m2 - p) (c2 - p) w (hsB.at_ hs (fun b hb => (qY qF (hF.ne hb)))) (((hs2.at_ hs (fun b hb => (qY qF (hF.ne hb)))) : Src _ (some ⟨b2, o2, none⟩) m2 .u8 P2).dropS (q := p) (by omega)) (by omega) (by omega) (by omega) (by omega) k (by omega) (by omega) (by omega) (by omega)).mono fun e w' h => by rw [hrr] at h; exact h) ?_
  iterate 7 refine gx ?_
  refine qC [0, 1, 2, 7, 8, 9, 10] ?_
  iterate 7 refine gx ?_
  refine qC [0, 1, 2, 7, 8, 9, 10, 26] ?_
  refine qQ rfl (fun hq1 => ?_) (fun hq1 => ?_)
  ·obtain ⟨q, nn, hmq, hrq2, hrn2, hnn⟩ := match_yes hrr hq1
   subst hrq2
   subst hrn2
   have hsp := matchI_spec hmq
   rw [← hnn, List.length_drop] at hsp
   iterate 6 refine gx ?_
   refine qB (qA rfl) rfl (qm rfl (vs := [(0, int .i64 1), (1, int .i64 (p : Int)), (2, int .i64 (q : Int)), (3, int .i64 (nn : Int))]) rfl (fun w => by first | rfl | kernel_rfl) (v := .agg ([int .i64 1, int .i64 (p : Int), int .i64 (q : Int), int .i64 (nn : Int), slice none 0 0]).toArray)) ?_
   refine zF (qA rfl) rfl rfl Tryz.underlying24 size54 zero54 rfl (by decide) (by decide) (cells := #[.int .i64 1, .int .i64 (p : Int), .int .i64 (q : Int), .int .i64 (nn : Int), .slice none 0 0]) (tot := 5) (by kernel_rfl) (cs := [.int .i64 1, .int .i64 (p : Int), .int .i64 (q : Int), .int .i64 (nn : Int), .slice none 0 0]) rfl rfl (fun g1 hg1 => ?_)
   refine TL.heap (H' := ([Ent.mk g1 54 ([int .i64 1, int .i64 (p : Int), int .i64 (q : Int), int .i64 (nn : Int), slice none 0 0]) 5] ++ Hd) ++ Hs) (fun w h => St.perm (H := [Ent.mk g1 54 ([int .i64 1, int .i64 (p : Int), int .i64 (q : Int), int .i64 (nn : Int), slice none 0 0]) 5] ++ (Hs ++ Hd)) h (by rw [List.append_assoc]; exact List.Perm.append_left _ List.perm_append_comm)) ?_
   refine TL.appendS (H := [Ent.mk g1 54 ([int .i64 1, int .i64 (p : Int), int .i64 (q : Int), int .i64 (nn : Int), slice none 0 0]) 5] ++ Hd) (He := Hs) (qA rfl) rfl rfl Tryz.underlying24 mk54 rfl (by decide) rfl rfl (s := 5) (nn := Cs.length) (m := 1) (cs := flatC Cs) (news := cellsC ⟨1, (p : Int), (q : Int), (nn : Int), none, 0, 0, []⟩) (by rw [hlp]; exact hS) rfl (fun w hs => lies_srcV (hs.has ⟨g1, 54, [int .i64 1, int .i64 (p : Int), int .i64 (q : Int), int .i64 (nn : Int), slice none 0 0], 5⟩ (by simp))) (by intro u hu; exact flatC_one' [⟨1, (p : Int), (q : Int), (nn : Int), none, 0, 0, []⟩] u (by rw [flatC_one]; exact hu)) (by unfold maxLen; omega) (by omega) (fun v3 Hs3 hS3 => ?_)
   have hF3 : Fresh w (Hd ++ Hs3) := qt hD.1 hS3.new
   refine TL.heap (H' := [⟨g1, 54, [int .i64 1, int .i64 (p : Int), int .i64 (q : Int), int .i64 (nn : Int), slice none 0 0], 5⟩] ++ (Hd ++ Hs3)) (fun w h => by rw [← List.append_assoc]; exact h) ?_
   iterate 3 refine gx ?_
   refine qC [0, 1, 2, 7, 8, 10] ?_
   iterate 4 refine gx ?_
   refine qB (qA rfl) rfl (qU rfl rfl rfl (r := ((p : Int) + (nn : Int))) (w64 (by omega) (by omega))) ?_
   iterate 6 refine gx ?_
   exact qc (⟨p + nn, v3, Cs.map valC ++ [(1, (p : Int), (q : Int), (nn : Int), [])], Hs3 ++ Hd⟩ : CmS) (by show m2 - _ < m2 - p; (try dsimp only); omega) ⟨by rw [hnn]; exact greedy_copy hgr (by omega) hmq, ⟨Cs ++ [⟨1, (p : Int), (q : Int), (nn : Int), none, 0, 0, []⟩], Hs3, Hd, by rw [List.map_append]; rfl, ms_add hCm rfl, rfl, by rw [List.length_append, flatC_app, flatC_one]; exact hS3, OwnB.addC hD (by unfold NumC; dsimp only; omega)⟩, by simp only [List.length_append, List.length_singleton]; omega, (hdl.mono (q := p + nn) (by omega)).add (Nat.zero_le _) bytes_no⟩ (qL (i := 0) rfl rfl (by first | omega | (dsimp only; omega) | rfl) (by first | omega | (dsimp only; omega) | rfl) (qL (i := 1) rfl rfl (by first | omega | (dsimp only; omega) | rfl) (by first | omega | (dsimp only; omega) | rfl) (qE (i := 2) rfl (by first | rfl | omega) (qH (i := 7) rfl (qE (i := 8) rfl (by (try dsimp only); omega) (qK)))))) (fun w h => (h.drop (by first | assumption | (dsimp only; omega))).perm (show (Hd ++ Hs3).Perm (Hs3 ++ Hd) from List.perm_append_comm))
  ·have hmq := match_no' hrr (by omega)
   iterate 6 refine gx ?_
   refine qB (qA rfl) rfl (qu rfl rfl rfl (r := ((lp : Int) - 1)) (w64 (by omega) (by omega))) ?_
   iterate 3 refine gx ?_
   refine qC [0, 1, 2, 7, 8, 11] ?_
   iterate 4 refine gx ?_
   by_cases e1 : 0 ≤ ((lp : Int) - 1)
   ·obtain ⟨Fs, x, rfl⟩ := cons_last (Cs := Cs) (by intro h; rw [h] at hlp; simp at hlp; omega)
    obtain ⟨gl, rfl, _, rfl, hgl, _⟩ := hS.at0 (by simp)
    have hlf : lp = Fs.length + 1 := by rw [hlp]; simp
    have hnx := hD.2.1 Fs.length x (by simp)
    unfold NumC at hnx
    have hxm : x.m = x.B.length := hCm x (by simp)
    have hxd : x.B.length ≤ p := (hdl (valC x) (by simp)).1
    have hxb : Bytes x.B := (hdl (valC x) (by simp)).2
    refine TL.heap (H' := [⟨gl, 54, flatC (Fs ++ [x]), (cv * 5)⟩] ++ Hd) (fun w h => h) ?_
    refine qB (qA rfl) rfl (qi (Gets.geq rfl rfl rfl) e1) ?_
    iterate 3 refine gx ?_
    refine qB (qM rfl rfl rfl) rfl (qW rfl Tryz.underlying24 size54 rfl rfl (i := (lp - 1)) (by omega) (by omega) (off' := (5 * lp - 5)) (by omega)) ?_
    refine qB (qM rfl rfl rfl) rfl (zN rfl Tryz.underlying54 rfl size3 rfl (off' := (5 * lp - 5)) (by first | rfl | omega)) ?_
    refine qB (qM rfl rfl rfl) rfl (qJ rfl agg3 rfl (ad := ⟨gl, 5 * lp - 5, none⟩) (fun w hs => by rw [show 5 * lp - 5 = 5 * Fs.length + 0 by omega]; exact (hs.has (Ent.mk gl 54 (flatC (Fs ++ [x])) (cv * 5)) (by simp)).cell (flatC_last rfl))) ?_
    by_cases hk2 : x.k = 2
    ·refine qB (qM rfl rfl rfl) rfl (qi (qo rfl rfl rfl) hk2) ?_
     iterate 3 refine gx ?_
     refine qC [0, 1, 2, 7, 8, 11, 49] ?_
     refine qq rfl ?_
     refine TC.mixT ([] ++ Hd) [⟨gl, 54, flatC (Fs ++ [x]), (cv * 5)⟩] (by kernel_rfl) [0, 0, 3, 0, 0, 0, 0, 7, 7, 0, 0, 0, 0, 3, 7, 0, 0, 7] [0, 1, 3, 4, 9, 10, 5, 6, 11, 12, 7, 2, 8, 13, 14, 15, 16, 17] [fun _ _ => True, fun _ _ => True, fun v d => ∃ g, v = .slice (some ⟨g, 0, none⟩) 0 0 ∧ d = [⟨g, 5, [], 0⟩], fun _ _ => True, fun _ _ => True, fun _ _ => True, fun _ _ => True, fun u d => u = slice x.A x.m x.c ∧ d = [], fun v' d => OwnS w.heap.size 5 1 v' (0 + x.m) ([] ++ (x.B.map (int .u8))) d, fun _ _ => True, fun _ _ => True, fun _ _ => True, fun _ _ => True, fun v d => ∃ g, v = .slice (some ⟨g, 0, none⟩) 1 1 ∧ d = [⟨g, 5, [int .u8 (P2.getD p 0)], 1⟩], fun v' d => OwnS w.heap.size 5 1 v' (0 + x.m + 1) (([] ++ (x.B.map (int .u8))) ++ [int .u8 (P2.getD p 0)]) d, fun _ _ => True, fun _ _ => True, fun _ d => ∃ g9 c9 : Nat, (w.heap.size ≤ g9 ∧ x.m + 1 ≤ c9 ∧ c9 ≤ 9223372036854775807) ∧ d = [(Ent.mk g9 5 ((x.B ++ [P2.getD p 0]).map (int .u8)) (c9 * 1)), (Ent.mk gl 54 (flatC (Fs ++ [(withB x g9 (x.m + 1) c9 (x.B ++ [P2.getD p 0]))])) (cv * 5))]] (by kernel_rfl) (by kernel_rfl) List.perm_append_comm (qI (by assumption) qa) ?_
     refine TT.free (qA rfl) rfl (fun Z hZ => qV rfl rfl) ?_
     refine TT.free (qA rfl) rfl (fun Z hZ => qV rfl rfl) ?_
     refine TT.free (qA rfl) rfl (fun Z hZ => qV rfl rfl) ?_
     refine TT.free (qA rfl) rfl (fun Z hZ => qV rfl rfl) ?_
     refine TT.free (qA rfl) rfl (fun Z hZ => qV rfl rfl) ?_
     refine TT.free (qA rfl) rfl (fun Z hZ => qV rfl rfl) ?_
     refine TT.free (qA rfl) rfl (fun Z hZ => qW rfl Tryz.underlying24 size54 rfl rfl (i := (lp - 1)) (by omega) (by omega) (off' := (5 * lp - 5)) (by omega)) ?_
     refine TT.free (qA rfl) rfl (fun Z hZ => zN rfl Tryz.underlying54 rfl size22 rfl (off' := 5 * lp - 5 + 4) rfl) ?_
     refine TT.free (qA rfl) rfl (fun Z hZ => qW rfl Tryz.underlying22 size5 rfl rfl (i := p) (by omega) (by omega) (off' := (o2 + p)) (by omega)) ?_
     refine TT.free (qA rfl) rfl (fun Z hZ => qJ rfl agg5 rfl (zA hr2 (i := p) (by omega) (by omega) hb2 (qY (qY qF (hDf.ne hb2)) (hZ.ne hb2)))) ?_
     refine TT.reads (qA rfl) rfl (qI (by assumption) qa) (fun Z hZ => qJ rfl agg22 rfl (ad := ⟨gl, 5 * lp - 5 + 4, none⟩) (fun w hs => by rw [show 5 * lp - 5 + 4 = 5 * Fs.length + 4 by omega]; exact (hs.has (Ent.mk gl 54 (flatC (Fs ++ [x])) (cv * 5)) (by simp)).cell (flatC_last rfl))) ?_
     refine TT.emptySlice (qA rfl) rfl rfl Tryz.underlying22 size5 (fun ge hge => ?_)
     refine TT.appendS (X0 := [(Ent.mk gl 54 (flatC (Fs ++ [x])) (cv * 5))]) (qA rfl) rfl rfl Tryz.underlying22 mk5 rfl (by decide) rfl rfl (s := 1) (nn := 0) (m := x.m) (cs := []) (news := (x.B.map (int .u8))) (OwnS.empty hge rfl) (List.Perm.refl _) (by rw [List.length_map]; omega) (fun Z w hZ hs => src_srcV (hD.2.2 w (fun e he => hs.has e (by simp [he])) Fs.length x (by simp)).1) (by intro u hu; obtain ⟨i, _, rfl⟩ := List.mem_map.1 hu; rfl) (by unfold maxLen; omega) (by omega) (fun v1 H1 hv1 => ?_)
     refine TT.buildSlice (qA rfl) rfl rfl Tryz.underlying22 size5 zero5 rfl (by decide) (by decide) (cells := #[int .u8 (P2.getD p 0)]) (tot := 1) (by kernel_rfl) (cs := [int .u8 (P2.getD p 0)]) rfl rfl (fun gb hgb => ?_)
     refine TT.appendS (X0 := [(Ent.mk gl 54 (flatC (Fs ++ [x])) (cv * 5))] ++ [(Ent.mk gb 5 [int .u8 (P2.getD p 0)] 1)]) (qA rfl) rfl rfl Tryz.underlying22 mk5 rfl (by decide) rfl rfl (s := 1) (nn := 0 + x.m) (m := 1) (cs := [] ++ (x.B.map (int .u8))) (news := [int .u8 (P2.getD p 0)]) hv1 (by rw [List.append_assoc, List.append_assoc]; exact List.Perm.append_left _ List.perm_append_comm) rfl (fun Z w hZ hs => lies_srcV (hs.has (Ent.mk gb 5 [int .u8 (P2.getD p 0)] 1) (by simp))) (by intro u hu; rw [List.mem_singleton.1 hu]; rfl) (by unfold maxLen; omega) (by omega) (fun v2 H2 hv2 => ?_)
     have hv3 : OwnS w.heap.size 5 1 v2 (x.m + 1) ((x.B ++ [P2.getD p 0]).map (int .u8)) H2 := by rw [List.map_append]; rw [Nat.zero_add, List.nil_append] at hv2; exact hv2
     obtain ⟨A2x, c2x, rfl, hc2x, hc2y⟩ := hv3.form
     obtain ⟨g2, rfl, _, rfl, hg2, _⟩ := hv3.at0 (by omega)
     refine TT.free (qA rfl) rfl (fun Z hZ => qW rfl Tryz.underlying24 size54 rfl rfl (i := (lp - 1)) (by omega) (by omega) (off' := (5 * lp - 5)) (by omega)) ?_
     refine TT.free (qA rfl) rfl (fun Z hZ => zN rfl Tryz.underlying54 rfl size22 rfl (off' := 5 * lp - 5 + 4) rfl) ?_
     refine TT.store1 (X0 := [(Ent.mk gb 5 [int .u8 (P2.getD p 0)] 1)]) (Y0 := [(Ent.mk g2 5 ((x.B ++ [P2.getD p 0]).map (int .u8)) (c2x * 1))]) (ent := (Ent.mk gl 54 (flatC (Fs ++ [x])) (cv * 5))) (qA rfl) rfl rfl size22 (g := gl) (off := 5 * lp - 5 + 4) rfl rfl rfl (List.perm_append_comm (l₁ := [(Ent.mk gl 54 (flatC (Fs ++ [x])) (cv * 5))]) (l₂ := [(Ent.mk gb 5 [int .u8 (P2.getD p 0)] 1), (Ent.mk g2 5 ((x.B ++ [P2.getD p 0]).map (int .u8)) (c2x * 1))])) rfl hgl (qI hg2 qa) (by show 5 * lp - 5 + 4 < (flatC (Fs ++ [x])).length; rw [flatC_len]; simp only [List.length_append, List.length_singleton]; omega) (cs' := flatC (Fs ++ [(withB x g2 (x.m + 1) c2x (x.B ++ [P2.getD p 0]))])) (by show (flatC (Fs ++ [x])).set (5 * lp - 5 + 4) _ = _; rw [show 5 * lp - 5 + 4 = 5 * Fs.length + 4 by omega]; exact flatC_setB) ⟨g2, c2x, ⟨hg2, hc2x, hc2y⟩, rfl⟩ (fun v9 E9 hE9 hR9 => ?_)
     obtain ⟨g9, c9, ⟨hg9, hc9, hc9y⟩, rfl⟩ := hR9
     refine TT.nil ?_
     refine TE.heap (H' := [] ++ ([(Ent.mk gl 54 (flatC (Fs ++ [(withB x g9 (x.m + 1) c9 (x.B ++ [P2.getD p 0]))])) (cv * 5))] ++ (Hd ++ [(Ent.mk g9 5 ((x.B ++ [P2.getD p 0]).map (int .u8)) (c9 * 1))]))) (fun w h => ext_keep h hgb) ?_
     have hF9 : Fresh w ([(Ent.mk gl 54 (flatC (Fs ++ [(withB x g9 (x.m + 1) c9 (x.B ++ [P2.getD p 0]))])) (cv * 5))] ++ (Hd ++ [(Ent.mk g9 5 ((x.B ++ [P2.getD p 0]).map (int .u8)) (c9 * 1))])) := qt (qI hgl qa) (qt hDf (qI hg9 qa))
     refine gx ?_
     refine qC [0, 1, 2, 7, 8] ?_
     iterate 2 refine gx ?_
     refine qB (qA rfl) rfl (qU rfl rfl rfl (r := ((p : Int) + 1)) (w64 (by omega) (by omega))) ?_
     iterate 3 refine gx ?_
     exact qc (⟨p + 1, .slice (some ⟨gl, 0, none⟩) lp cv, (Fs ++ [(withB x g9 (x.m + 1) c9 (x.B ++ [P2.getD p 0]))]).map valC, [(Ent.mk gl 54 (flatC (Fs ++ [(withB x g9 (x.m + 1) c9 (x.B ++ [P2.getD p 0]))])) (cv * 5))] ++ (Hd ++ [(Ent.mk g9 5 ((x.B ++ [P2.getD p 0]).map (int .u8)) (c9 * 1))])⟩ : CmS) (by show m2 - _ < m2 - p; (try dsimp only); omega) ⟨by have h9 := greedy_lit hgr (by omega) hmq; rw [push_last (g := g9) (m := x.m + 1) (c := c9) hk2] at h9; exact h9, ⟨Fs ++ [(withB x g9 (x.m + 1) c9 (x.B ++ [P2.getD p 0]))], [(Ent.mk gl 54 (flatC (Fs ++ [(withB x g9 (x.m + 1) c9 (x.B ++ [P2.getD p 0]))])) (cv * 5))], Hd ++ [(Ent.mk g9 5 ((x.B ++ [P2.getD p 0]).map (int .u8)) (c9 * 1))], rfl, ms_add (fun y hy => hCm y (List.mem_append.2 (.inl hy))) (by unfold withB; dsimp only; rw [List.length_append, ← hxm]; rfl), rfl, ⟨by rw [flatC_len], .inr ⟨gl, cv, by rw [show (Fs ++ [(withB x g9 (x.m + 1) c9 (x.B ++ [P2.getD p 0]))]).length = lp by rw [hlp]; simp], rfl, hgl, by rw [show (Fs ++ [(withB x g9 (x.m + 1) c9 (x.B ++ [P2.getD p 0]))]).length = lp by rw [hlp]; simp]; exact hcv, by unfold maxLen; omega⟩⟩, OwnB.addX (hD.sub fun y hy => List.mem_append.2 (.inl hy)) hg9 rfl (by unfold withB; dsimp only; rw [List.length_append, ← hxm]; rfl) (fun y hy => by rcases List.mem_append.1 hy with h | h; exact hxb y h; rw [List.mem_singleton.1 h]; exact hbp) (by unfold NumC withB at *; dsimp only at *; omega)⟩, by simp only [List.length_map, List.length_append, List.length_singleton] at hpl ⊢; omega, by have h9 := hdl.push (v := P2.getD p 0) hbp; rw [push_last (g := g9) (m := x.m + 1) (c := c9) hk2] at h9; exact h9⟩ (qL (i := 0) rfl rfl (by first | omega | (dsimp only; omega) | rfl) (by first | omega | (dsimp only; omega) | rfl) (qL (i := 1) rfl rfl (by first | omega | (dsimp only; omega) | rfl) (by first | omega | (dsimp only; omega) | rfl) (qE (i := 2) rfl (by first | rfl | omega) (qL (i := 7) rfl rfl (by first | omega | (dsimp only; omega) | rfl) (by first | omega | (dsimp only; omega) | rfl) (qE (i := 8) rfl (by (try dsimp only); omega) (qK)))))) (fun w h => h)
    ·refine qB (qM rfl rfl rfl) rfl (qg (qo rfl rfl rfl) hk2) ?_
     iterate 3 refine gx ?_
     refine qC [0, 1, 2, 7, 8, 11, 49] ?_
     refine ql rfl ?_
     iterate 5 refine gx ?_
     refine qB (qA rfl) rfl (qW rfl Tryz.underlying22 size5 rfl rfl (i := p) (by omega) (by omega) (off' := (o2 + p)) (by omega)) ?_
     refine qB (qA rfl) rfl (qJ rfl agg5 rfl (zA hr2 (i := p) (by omega) (by omega) hb2 (qY (qD (by show gl ≠ b2; omega) qF) (hDf.ne hb2)))) ?_
     refine zF (qA rfl) rfl rfl Tryz.underlying22 size5 zero5 rfl (by decide) (by decide) (cells := #[.int .u8 (P2.getD p 0)]) (tot := 1) (by kernel_rfl) (cs := [.int .u8 (P2.getD p 0)]) rfl rfl (fun g2 hg2 => ?_)
     refine qB (qA rfl) rfl (qm rfl (vs := [(0, int .i64 2), (1, int .i64 (p : Int)), (4, slice (some ⟨g2, 0, none⟩) 1 1)]) rfl (fun w => by first | rfl | kernel_rfl) (v := .agg ([int .i64 2, int .i64 (p : Int), int .i64 0, int .i64 0, slice (some ⟨g2, 0, none⟩) 1 1]).toArray)) ?_
     refine zF (qA rfl) rfl rfl Tryz.underlying24 size54 zero54 rfl (by decide) (by decide) (cells := #[.int .i64 2, .int .i64 (p : Int), .int .i64 0, .int .i64 0, .slice (some ⟨g2, 0, none⟩) 1 1]) (tot := 5) (by kernel_rfl) (cs := [.int .i64 2, .int .i64 (p : Int), .int .i64 0, .int .i64 0, .slice (some ⟨g2, 0, none⟩) 1 1]) rfl rfl (fun g3 hg3 => ?_)
     refine TL.heap (H' := ([Ent.mk g3 54 ([int .i64 2, int .i64 (p : Int), int .i64 0, int .i64 0, slice (some ⟨g2, 0, none⟩) 1 1]) 5, Ent.mk g2 5 ([int .u8 (P2.getD p 0)]) 1] ++ Hd) ++ [(Ent.mk gl 54 (flatC (Fs ++ [x])) (cv * 5))]) (fun w h => St.perm (H := [Ent.mk g3 54 ([int .i64 2, int .i64 (p : Int), int .i64 0, int .i64 0, slice (some ⟨g2, 0, none⟩) 1 1]) 5, Ent.mk g2 5 ([int .u8 (P2.getD p 0)]) 1] ++ ([(Ent.mk gl 54 (flatC (Fs ++ [x])) (cv * 5))] ++ Hd)) h (by rw [List.append_assoc]; exact List.Perm.append_left _ List.perm_append_comm)) ?_
     refine TL.appendS (H := [Ent.mk g3 54 ([int .i64 2, int .i64 (p : Int), int .i64 0, int .i64 0, slice (some ⟨g2, 0, none⟩) 1 1]) 5, Ent.mk g2 5 ([int .u8 (P2.getD p 0)]) 1] ++ Hd) (He := [(Ent.mk gl 54 (flatC (Fs ++ [x])) (cv * 5))]) (qA rfl) rfl rfl Tryz.underlying24 mk54 rfl (by decide) rfl rfl (s := 5) (nn := (Fs ++ [x]).length) (m := 1) (cs := flatC (Fs ++ [x])) (news := cellsC ⟨2, (p : Int), 0, 0, some ⟨g2, 0, none⟩, 1, 1, [P2.getD p 0]⟩) (by rw [hlp]; exact hS) rfl (fun w hs => lies_srcV (hs.has ⟨g3, 54, [int .i64 2, int .i64 (p : Int), int .i64 0, int .i64 0, slice (some ⟨g2, 0, none⟩) 1 1], 5⟩ (by simp))) (by intro u hu; exact flatC_one' [⟨2, (p : Int), 0, 0, some ⟨g2, 0, none⟩, 1, 1, [P2.getD p 0]⟩] u (by rw [flatC_one]; exact hu)) (by unfold maxLen; omega) (by omega) (fun v3 Hs3 hS3 => ?_)
     have hF3 : Fresh w (Hd ++ Hs3) := qt hD.1 hS3.new
     refine TL.heap (H' := [⟨g3, 54, [int .i64 2, int .i64 (p : Int), int .i64 0, int .i64 0, slice (some ⟨g2, 0, none⟩) 1 1], 5⟩, ⟨g2, 5, [int .u8 (P2.getD p 0)], 1⟩] ++ (Hd ++ Hs3)) (fun w h => by rw [← List.append_assoc]; exact h) ?_
     iterate 3 refine gx ?_
     refine qC [0, 1, 2, 7, 8] ?_
     iterate 2 refine gx ?_
     refine qB (qA rfl) rfl (qU rfl rfl rfl (r := ((p : Int) + 1)) (w64 (by omega) (by omega))) ?_
     iterate 3 refine gx ?_
     exact qc (⟨p + 1, v3, (Fs ++ [x]).map valC ++ [(2, (p : Int), 0, 0, [P2.getD p 0])], Hs3 ++ (Hd ++ [Ent.mk g2 5 ([int .u8 (P2.getD p 0)]) 1])⟩ : CmS) (by show m2 - _ < m2 - p; (try dsimp only); omega) ⟨by have h9 := greedy_lit hgr (by omega) hmq; rw [show pushL ((Fs ++ [x]).map valC) p (P2.getD p 0) = (Fs ++ [x]).map valC ++ [(2, (p : Int), 0, 0, [P2.getD p 0])] from push_other hk2] at h9; exact h9, ⟨(Fs ++ [x]) ++ [⟨2, (p : Int), 0, 0, some ⟨g2, 0, none⟩, 1, 1, [P2.getD p 0]⟩], Hs3, Hd ++ [Ent.mk g2 5 ([int .u8 (P2.getD p 0)]) 1], by rw [List.map_append]; rfl, ms_add hCm rfl, rfl, by rw [List.length_append, flatC_app, flatC_one]; exact hS3, OwnB.addX hD (by first | assumption | (dsimp only; omega)) rfl rfl (fun y hy => by rw [List.mem_singleton.1 hy]; exact hbp) (by unfold NumC; dsimp only; omega)⟩, by simp only [List.length_append, List.length_singleton] at hpl ⊢; omega, (hdl.mono (q := p + 1) (by omega)).add (by simp) (bytes_one hbp)⟩ (qL (i := 0) rfl rfl (by first | omega | (dsimp only; omega) | rfl) (by first | omega | (dsimp only; omega) | rfl) (qL (i := 1) rfl rfl (by first | omega | (dsimp only; omega) | rfl) (by first | omega | (dsimp only; omega) | rfl) (qE (i := 2) rfl (by first | rfl | omega) (qH (i := 7) rfl (qE (i := 8) rfl (by (try dsimp only); omega) (qK)))))) (fun w h => (h.drop (by first | assumption | (dsimp only; omega))).perm (perm_lit _ _ _))
   ·have hC00 : Cs = [] := List.length_eq_zero_iff.1 (by omega)
    refine qB (qA rfl) rfl (qg (Gets.geq rfl rfl rfl) e1) ?_
    iterate 10 refine gx ?_
    refine qC [0, 1, 2, 7, 8, 11, 49] ?_
    refine ql rfl ?_
    iterate 5 refine gx ?_
    refine qB (qA rfl) rfl (qW rfl Tryz.underlying22 size5 rfl rfl (i := p) (by omega) (by omega) (off' := (o2 + p)) (by omega)) ?_
    refine qB (qA rfl) rfl (qJ rfl agg5 rfl (zA hr2 (i := p) (by omega) (by omega) hb2 (qY qF (hF.ne hb2)))) ?_
    refine zF (qA rfl) rfl rfl Tryz.underlying22 size5 zero5 rfl (by decide) (by decide) (cells := #[.int .u8 (P2.getD p 0)]) (tot := 1) (by kernel_rfl) (cs := [.int .u8 (P2.getD p 0)]) rfl rfl (fun g4 hg4 => ?_)
    refine qB (qA rfl) rfl (qm rfl (vs := [(0, int .i64 2), (1, int .i64 (p : Int)), (4, slice (some ⟨g4, 0, none⟩) 1 1)]) rfl (fun w => by first | rfl | kernel_rfl) (v := .agg ([int .i64 2, int .i64 (p : Int), int .i64 0, int .i64 0, slice (some ⟨g4, 0, none⟩) 1 1]).toArray)) ?_
    refine zF (qA rfl) rfl rfl Tryz.underlying24 size54 zero54 rfl (by decide) (by decide) (cells := #[.int .i64 2, .int .i64 (p : Int), .int .i64 0, .int .i64 0, .slice (some ⟨g4, 0, none⟩) 1 1]) (tot := 5) (by kernel_rfl) (cs := [.int .i64 2, .int .i64 (p : Int), .int .i64 0, .int .i64 0, .slice (some ⟨g4, 0, none⟩) 1 1]) rfl rfl (fun g5 hg5 => ?_)
    refine TL.heap (H' := ([Ent.mk g5 54 ([int .i64 2, int .i64 (p : Int), int .i64 0, int .i64 0, slice (some ⟨g4, 0, none⟩) 1 1]) 5, Ent.mk g4 5 ([int .u8 (P2.getD p 0)]) 1] ++ Hd) ++ Hs) (fun w h => St.perm (H := [Ent.mk g5 54 ([int .i64 2, int .i64 (p : Int), int .i64 0, int .i64 0, slice (some ⟨g4, 0, none⟩) 1 1]) 5, Ent.mk g4 5 ([int .u8 (P2.getD p 0)]) 1] ++ (Hs ++ Hd)) h (by rw [List.append_assoc]; exact List.Perm.append_left _ List.perm_append_comm)) ?_
    refine TL.appendS (H := [Ent.mk g5 54 ([int .i64 2, int .i64 (p : Int), int .i64 0, int .i64 0, slice (some ⟨g4, 0, none⟩) 1 1]) 5, Ent.mk g4 5 ([int .u8 (P2.getD p 0)]) 1] ++ Hd) (He := Hs) (qA rfl) rfl rfl Tryz.underlying24 mk54 rfl (by decide) rfl rfl (s := 5) (nn := Cs.length) (m := 1) (cs := flatC Cs) (news := cellsC ⟨2, (p : Int), 0, 0, some ⟨g4, 0, none⟩, 1, 1, [P2.getD p 0]⟩) (by rw [hlp]; exact hS) rfl (fun w hs => lies_srcV (hs.has ⟨g5, 54, [int .i64 2, int .i64 (p : Int), int .i64 0, int .i64 0, slice (some ⟨g4, 0, none⟩) 1 1], 5⟩ (by simp))) (by intro u hu; exact flatC_one' [⟨2, (p : Int), 0, 0, some ⟨g4, 0, none⟩, 1, 1, [P2.getD p 0]⟩] u (by rw [flatC_one]; exact hu)) (by unfold maxLen; omega) (by omega) (fun v3 Hs3 hS3 => ?_)
    have hF3 : Fresh w (Hd ++ Hs3) := qt hD.1 hS3.new
    refine TL.heap (H' := [⟨g5, 54, [int .i64 2, int .i64 (p : Int), int .i64 0, int .i64 0, slice (some ⟨g4, 0, none⟩) 1 1], 5⟩, ⟨g4, 5, [int .u8 (P2.getD p 0)], 1⟩] ++ (Hd ++ Hs3)) (fun w h => by rw [← List.append_assoc]; exact h) ?_
    iterate 3 refine gx ?_
    refine qC [0, 1, 2, 7, 8] ?_
    iterate 2 refine gx ?_
    refine qB (qA rfl) rfl (qU rfl rfl rfl (r := ((p : Int) + 1)) (w64 (by omega) (by omega))) ?_
    iterate 3 refine gx ?_
    exact qc (⟨p + 1, v3, Cs.map valC ++ [(2, (p : Int), 0, 0, [P2.getD p 0])], Hs3 ++ (Hd ++ [Ent.mk g4 5 ([int .u8 (P2.getD p 0)]) 1])⟩ : CmS) (by show m2 - _ < m2 - p; (try dsimp only); omega) ⟨by have h9 := greedy_lit hgr (by omega) hmq; rw [show pushL (Cs.map valC) p (P2.getD p 0) = Cs.map valC ++ [(2, (p : Int), 0, 0, [P2.getD p 0])] from (by rw [hC00]; rfl)] at h9; exact h9, ⟨Cs ++ [⟨2, (p : Int), 0, 0, some ⟨g4, 0, none⟩, 1, 1, [P2.getD p 0]⟩], Hs3, Hd ++ [Ent.mk g4 5 ([int .u8 (P2.getD p 0)]) 1], by rw [List.map_append]; rfl, ms_add hCm rfl, rfl, by rw [List.length_append, flatC_app, flatC_one]; exact hS3, OwnB.addX hD (by first | assumption | (dsimp only; omega)) rfl rfl (fun y hy => by rw [List.mem_singleton.1 hy]; exact hbp) (by unfold NumC; dsimp only; omega)⟩, by simp only [List.length_append, List.length_singleton] at hpl ⊢; omega, (hdl.mono (q := p + 1) (by omega)).add (by simp) (bytes_one hbp)⟩ (qL (i := 0) rfl rfl (by first | omega | (dsimp only; omega) | rfl) (by first | omega | (dsimp only; omega) | rfl) (qL (i := 1) rfl rfl (by first | omega | (dsimp only; omega) | rfl) (by first | omega | (dsimp only; omega) | rfl) (qE (i := 2) rfl (by first | rfl | omega) (qH (i := 7) rfl (qE (i := 8) rfl (by (try dsimp only); omega) (qK)))))) (fun w h => (h.drop (by first | assumption | (dsimp only; omega))).perm (perm_lit _ _ _))
 ·iterate 12 refine gx ?_
  exact qN rfl rfl (fun w hs => ⟨_, Hs ++ Hd, rfl, by rw [← greedy_end hgr (by omega), hlp]; exact ⟨Cs, Hs, Hd, rfl, hCm, rfl, hS, hD⟩, hs⟩)
/-
 PatchMakes: the walk.
-/
theorem enters18 : Enters Tryz.prog 18 := ⟨_, Tryz.func18, by kernel_rfl, by kernel_rfl⟩
theorem enters20 : Enters Tryz.prog 20 := ⟨_, Tryz.func20, by kernel_rfl, by kernel_rfl⟩
theorem enters23 : Enters Tryz.prog 23 := ⟨_, Tryz.func23, by kernel_rfl, by kernel_rfl⟩
set_option maxHeartbeats 4000000 in
theorem patchMakes_walk (Ao : Option Addr) (mo co : Nat) (B : List Int) (A2 : Option Addr) (m2 c2 : Nat) (P2 : List Int) (k : Int) (w : World) (hsB : Src w Ao mo .u8 B) (hmo : mo ≤ co) (hco : co ≤ 9223372036854775807) (hBB : Bytes B) (hs2 : Src w A2 m2 .u8 P2) (hm2 : m2 ≤ c2) (hcm2 : c2 ≤ 9223372036854775807) (hPP : Bytes P2) (bk : -9223372036854775808 ≤ k ∧ k ≤ 9223372036854775807) (hMX : MaxC w) (h1 : 2 < w.heap.size) (hIV : RowI w 0 0 8 .u32 IV) (hK : RowI w 2 0 64 .u32 KT) : Calls Tryz.prog 7 #[.slice Ao mo co, .slice A2 m2 c2, .int .i64 k] w fun e w' => e = .returned (.bool true) ∧ St w [] w' := by
 refine qP (args := [.slice Ao mo co, .slice A2 m2 c2, .int .i64 k]) Tryz.func7 rfl Tryz.ntmps7 (by simp) ?_
 refine qC [0, 1, 2] ?_
 iterate 10 refine gx ?_
 by_cases q1 : 200 < (mo : Int)
 ·refine qB (qA rfl) rfl (qi (Gets.gtr rfl rfl rfl) q1) ?_
  iterate 7 refine gx ?_
  refine qC [0, 1, 2, 6, 15] ?_
  refine qq rfl ?_
  iterate 2 refine gx ?_
  refine qR (qA rfl) rfl enters10 rfl rfl (v := .bool true) (fun w hs => alive8_c w (hMX.at_ hs qF) (Nat.lt_of_lt_of_le h1 hs.size) (hIV.keepH hs (by omega) qF) (hK.keepH hs h1 qF)) ?_
  iterate 5 refine gx ?_
  exact qN rfl rfl (fun w hs => ⟨rfl, (hs)⟩)
 ·refine qB (qA rfl) rfl (qg (Gets.gtr rfl rfl rfl) q1) ?_
  iterate 3 refine gx ?_
  by_cases q2 : 200 < (m2 : Int)
  ·refine qB (qM rfl rfl rfl) rfl (qi (Gets.gtr rfl rfl rfl) q2) ?_
   iterate 3 refine gx ?_
   refine qC [0, 1, 2, 6, 15] ?_
   refine qq rfl ?_
   iterate 2 refine gx ?_
   refine qR (qA rfl) rfl enters10 rfl rfl (v := .bool true) (fun w hs => alive8_c w (hMX.at_ hs qF) (Nat.lt_of_lt_of_le h1 hs.size) (hIV.keepH hs (by omega) qF) (hK.keepH hs h1 qF)) ?_
   iterate 5 refine gx ?_
   exact qN rfl rfl (fun w hs => ⟨rfl, (hs)⟩)
  ·refine qB (qM rfl rfl rfl) rfl (qg (Gets.gtr rfl rfl rfl) q2) ?_
   iterate 3 refine gx ?_
   refine qC [0, 1, 2, 6, 15] ?_
   refine ql rfl ?_
   iterate 7 refine gx ?_
   refine qr (ι := ((Option Addr × Nat) × Nat) × (List CV × List Ent)) (V := fun y => .agg (dV (mo : Int) (m2 : Int) (shaM B) (shaM P2) (slice y.1.1.1 y.1.2 y.1.1.2)).toArray) (R := fun y => (y.1.2 ≤ y.1.1.2 ∧ y.1.1.2 ≤ 9223372036854775807) ∧ OwnD w.heap.size y.1.1.1 y.1.2 y.2.1 y.2.2 ∧ (y.2.1.map valC = cmdsL B P2 k ∧ ∀ x ∈ y.2.1, x.m = x.B.length) ∧ y.2.1.length = y.1.2) (H' := fun y => [] ++ y.2.2) (qA rfl) rfl enters22 rfl rfl (fun w hs => (make8_c B P2 Ao A2 mo co m2 c2 k hmo hm2 hco hcm2 (by omega) (by omega) bk hBB hPP w (hsB.at_ hs (fun b hb => qF)) (hs2.at_ hs (fun b hb => qF)) (hMX.at_ hs qF) (Nat.lt_of_lt_of_le h1 hs.size) (hIV.keepH hs (by omega) qF) (hK.keepH hs h1 qF)).mono fun e w' ⟨A', c', nL, Fs, He, he, hc, ho, hv, hl, hw⟩ => ⟨(((A', c'), nL), (Fs, He)), he, ⟨hc, ho.mono hs.size, hv, hl⟩, st_call hs hw ho.1⟩) (fun y hR => ?_)
   obtain ⟨⟨⟨As, cs⟩, nL⟩, Fs, Hw⟩ := y
   obtain ⟨hcs, hos, hFv, hFl⟩ := hR
   dsimp only at hcs hos hFv hFl ⊢
   have hFw : Fresh w Hw := hos.1
   have hl1 := hsB.1
   have hl2 := hs2.1
   have hcl := cmdsL_len B P2 k
   have hnL : nL ≤ 200 := by rw [← hFl, ← List.length_map (f := valC), hFv.1]; omega
   obtain ⟨hval, hnew⟩ := cmdsL_valid hFv.1 hFv.2 (by omega) (by omega)
   rw [hl1, hl2] at hval
   rw [hl2] at hnew
   have hvi : (faultI (mo : Int) (m2 : Int) Fs).1 = 0 := by rw [hval]
   have hfw : fewQ Fs := cmds_few hFv.1 hFv.2 (by omega) (by omega)
   have hver : verI B mo (mo : Int) (m2 : Int) (shaM B) (shaM P2) Fs = (0, 0) := verI_5 (by omega) (by simp) (by simp) (by rw [hnew]; simp)
   refine zK (qA rfl) rfl rfl zero26 (cs := [int .i64 0, int .i64 0] ++ ((List.replicate 64 0).map (int .u8) ++ ([slice none 0 0]))) rfl (tot := 67) (by simp) (fun g1 hg1 => ?_)
   refine qz (qA rfl) rfl rfl size26 rfl (vs := dV (mo : Int) (m2 : Int) (shaM B) (shaM P2) (slice As nL cs)) rfl (by simp [(shaM_len B), (shaM_len P2)]) (zH (by simp [Value.oneCell']) (zH qk (zH qk (by simp [Value.oneCell'])))) (i := 0) (ent := ⟨g1, 26, [int .i64 0, int .i64 0] ++ ((List.replicate 64 0).map (int .u8) ++ ([slice none 0 0])), 67⟩) rfl rfl (by simp []) (H' := [⟨g1, 26, dV (mo : Int) (m2 : Int) (shaM B) (shaM P2) (slice As nL cs), 67⟩] ++ Hw) rfl ?_
   iterate 2 refine gx ?_
   refine qC [0, 1, 2, 6, 7] ?_
   refine gx ?_
   refine TC.heap (H' := [⟨g1, 26, dV (mo : Int) (m2 : Int) (shaM B) (shaM P2) (slice As nL cs), 67⟩] ++ ([] ++ Hw)) (fun w h => h) ?_
   refine TC.mixB (HB := [Ent.mk g1 26 (dV (mo : Int) (m2 : Int) (shaM B) (shaM P2) (slice As nL cs)) 67]) (H := [] ++ Hw) (by kernel_rfl) [3, 0, 0, 0, 0, 0, 0, 0, 3, 3, 3, 0, 0] [0, 1, 2, 3, 4, 5, 6, 7, 8, 9, 10, 11, 12] (by kernel_rfl) ?_
   refine TP.call0 (qA rfl) rfl enters10 rfl rfl (v := .bool true) (fun w hs => alive8_c w (hMX.at_ hs (qY (qD (by show g1 ≠ 1; omega) qF) (qY qF (hFw.ne hMX.1)))) (Nat.lt_of_lt_of_le h1 hs.size) (hIV.keepH hs (by omega) (qY (qD (by show g1 ≠ 0; omega) qF) (qY qF (hFw.ne (by omega))))) (hK.keepH hs h1 (qY (qD (by show g1 ≠ 2; omega) qF) (qY qF (hFw.ne h1))))) ?_
   refine qw (qA rfl) rfl (fun _ => qV rfl rfl) ?_
   refine TP.stay (qM rfl rfl rfl) rfl (fun H' => qh rfl agg26 size26 rfl (vs := dV (mo : Int) (m2 : Int) (shaM B) (shaM P2) (slice As nL cs)) (by simp [(shaM_len B), (shaM_len P2)]) (qZ (i := 0) (ent := ⟨g1, 26, dV (mo : Int) (m2 : Int) (shaM B) (shaM P2) (slice As nL cs), 67⟩) rfl rfl rfl)) ?_
   refine qw (qM rfl rfl rfl) rfl (fun _ => qV rfl rfl) ?_
   refine qw (qM rfl rfl rfl) rfl (fun _ => qV rfl rfl) ?_
   refine qw (qM rfl rfl rfl) rfl (fun _ => qV rfl rfl) ?_
   refine qw (qM rfl rfl rfl) rfl (fun _ => qV rfl rfl) ?_
   refine qw (qM rfl rfl rfl) rfl (fun _ => qV rfl rfl) ?_
   refine TP.call (ι := Value × List Ent) (V := fun y => y.1) (R := fun y => OwnL w.heap.size 54 y.1 (cmdsL B P2 k) y.2) (H' := fun y => ([] ++ Hw) ++ y.2) (qM rfl rfl rfl) rfl enters23 rfl rfl (fun w hs => (commands_c B P2 Ao A2 mo co m2 c2 k hmo hm2 hco hcm2 (by omega) (by omega) bk hBB hPP w (hsB.at_ hs (fun b hb => (qY (qD (by show g1 ≠ b; omega) qF) (qY qF (hFw.ne hb))))) (hs2.at_ hs (fun b hb => (qY (qD (by show g1 ≠ b; omega) qF) (qY qF (hFw.ne hb)))))).mono fun e w' ⟨v, He, he, ho, hw⟩ => ⟨(v, He), he, ho.mono hs.size, by rw [← List.append_assoc]; exact st_call hs hw ho.new⟩) (fun y hR => ?_)
   obtain ⟨vl, Hl⟩ := y
   dsimp only at hR ⊢
   have hFl9 : Fresh w Hl := hR.new
   obtain ⟨Al, cl, hvl, hcl9, hcl8⟩ := hR.form
   subst hvl
   obtain ⟨Cx, hCx, hCm, hml, hOD⟩ := hR.ownD
   obtain ⟨nC, hnC⟩ : ∃ nC : Nat, nC = (cmdsL B P2 k).length := ⟨_, rfl⟩
   rw [← hnC] at hOD hcl9 hcl ⊢
   have hsmx : sameC Fs Cx := by unfold sameC; rw [hFv.1, hCx]
   have hFwl := qt hFw hFl9
   refine TP.perm (H' := [] ++ (Hw ++ Hl)) (by exact List.Perm.refl _) ?_
   refine TP.call0 (qM rfl rfl rfl) rfl enters18 rfl rfl (v := .agg (dV (mo : Int) (m2 : Int) (shaM B) (shaM P2) (slice Al nC cl)).toArray) (fun w hs => rdescribe_c B P2 Ao A2 mo co m2 c2 Al nC cl hmo hm2 (by omega) (by omega) w (hsB.at_ hs (fun b hb => (qY (qD (by show g1 ≠ b; omega) qF) (qY qF (hFwl.ne hb))))) (hs2.at_ hs (fun b hb => (qY (qD (by show g1 ≠ b; omega) qF) (qY qF (hFwl.ne hb)))))) ?_
   refine TP.call0 (qM rfl rfl rfl) rfl enters20 rfl rfl (v := .bool true) (fun w hs => calls_yes (show sameD (mo : Int) (m2 : Int) (shaM B) (shaM P2) Fs (mo : Int) (m2 : Int) (shaM B) (shaM P2) Cx from ⟨rfl, rfl, rfl, rfl, hsmx⟩) (rdsame_c (mo : Int) (m2 : Int) (shaM B) (shaM P2) (shaM_len B) (shaM_len P2) As nL cs Fs (mo : Int) (m2 : Int) (shaM B) (shaM P2) (shaM_len B) (shaM_len P2) Al nC cl Cx (by omega) (by omega) hos.num w (hos.src (fun e he => hs.has e (by simp [he]))) (hOD.src (fun e he => hs.has e (by simp [he]))) (hos.dat (fun e he => hs.has e (by simp [he]))) (hOD.dat (fun e he => hs.has e (by simp [he]))))) ?_
   refine qw (qA rfl) rfl (fun _ => Gets.pickT rfl rfl rfl) ?_
   refine qw (qA rfl) rfl (fun _ => Gets.assign rfl rfl) ?_
   refine TP.nil ?_
   refine TE.heap (H' := [⟨g1, 26, dV (mo : Int) (m2 : Int) (shaM B) (shaM P2) (slice As nL cs), 67⟩] ++ (Hw ++ Hl)) (fun w h => h) ?_
   iterate 2 refine gx ?_
   exact qN rfl rfl (fun w hs => ⟨rfl, (St.left (H := []) hs (qI (by assumption) hFwl))⟩)
open Go Go.RowKit Go.ChangeShapes Go.WideShapes Go.ChangeAt Go.Joins Go.Deep
theorem patchMakes_lifted (os : Os) (started : os.Started) (H : Type) (enc : TypeId × Value → H) :
  ReturnsInHanded {} Tryz.checked os 7 .any (fun w args => (Rows.patchMakesSpec.pre enc Tryz.prog Tryz.f7 [] false w args ∧ laidMetH Tryz.prog [("graft/sha.squareRoots", Rows.laid_graft_sha_squareRoots), ("graft/sha.cubeRoots", Rows.laid_graft_sha_cubeRoots)] w) ∧ sizedMet enc Tryz.prog Tryz.f7 (OpenSpec.ofChange Rows.patchMakesSpec) false w args) (Rows.patchMakesSpec.post enc Tryz.prog Tryz.f7 false true false false) := by
 refine returnsInHanded_both (C := Tryz.checked) (X := fun w _ => laidMetH Tryz.prog [("graft/sha.squareRoots", Rows.laid_graft_sha_squareRoots), ("graft/sha.cubeRoots", Rows.laid_graft_sha_cubeRoots)] w) (fun _ _ _ hh h => h.of_heap hh) own_knob started (by kernel_rfl) Tryz.func7
  (ChangeSpec.witness_shaped (enc := enc) (C := Tryz.checked) (os := os) (X := fun w _ => laidMetH Tryz.prog [("graft/sha.squareRoots", Rows.laid_graft_sha_squareRoots), ("graft/sha.cubeRoots", Rows.laid_graft_sha_cubeRoots)] w) false (World.doorLaid Tryz.prog 100 os) #[.slice none 0 0, .slice none 0 0, .int .i64 0] 8 rfl (World.shaped_of_RefB (by kernel_rfl) (by kernel_rfl)) (by kernel_rfl) (by kernel_rfl) (by kernel_rfl) (door_met os _)) ?_
 intro W base args ds gs before hval0 hW hsz0 hL hSh
 have hval : ∀ (j : Nat) t v, Tryz.f7.params[j]? = some t → args[j]? = some v → Value.okWide Tryz.prog W .any base t v := hval0
 have hW' := hW
 obtain ⟨p, q, hA0, hV, rfl, hfz, hnd⟩ := hW
 have hA : DataW.TrodAll enc Tryz.prog W 0 (fun _ => true) true Tryz.f7.params.toList args.toList ds p := hA0
 have hsz : (DataW.weightsEach Tryz.prog (Tryz.f7.params.toList ++ Rows.patchMakesSpec.plain.varTypes Tryz.prog) (ds ++ gs)).all (· ≤ reachBytes) = true := hsz0
 rw [Tryz.params7] at hA hval hsz
 obtain ⟨v0, vs0, d0, ds0, p0, q0, hargs, rfl, rfl, h0, r0⟩ := trodAll_cons hA
 obtain ⟨v1, vs1, d1, ds1, p1, q1, rfl, rfl, rfl, h1, r1⟩ := trodAll_cons r0
 obtain ⟨v2, vs2, d2, ds2, p2, q2, rfl, rfl, rfl, h2, r2⟩ := trodAll_cons r1
 obtain ⟨rfl, rfl, rfl⟩ := trodAll_nil r2
 obtain rfl : args = #[v0, v1, v2] := by cases args; simp_all
 obtain ⟨rfl, rfl⟩ := trodVars_none hV
 have k0 := h0
 have lt0 : ∀ x ∈ p0, x.block < W.heap.size := by obtain ⟨m, hm⟩ := k0; exact DataW.trod_lt m _ _ _ hm
 have k1 := h1
 have lt1 : ∀ x ∈ p1, x.block < W.heap.size := by obtain ⟨m, hm⟩ := k1; exact DataW.trod_lt m _ _ _ hm
 have k2 := h2
 have lt2 : ∀ x ∈ p2, x.block < W.heap.size := by obtain ⟨m, hm⟩ := k2; exact DataW.trod_lt m _ _ _ hm
 obtain ⟨Aa, ma, ca, Ba, hv0, hmc0, hcm0, hs0, hB0⟩ := open_bytes Tryz.underlying22 Tryz.underlying5 (by kernel_rfl) (hval 0 22 v0 rfl rfl) h0
 subst hv0
 obtain ⟨Ab, mb, cb, Bb, hv1, hmc1, hcm1, hs1, hB1⟩ := open_bytes Tryz.underlying22 Tryz.underlying5 (by kernel_rfl) (hval 1 22 v1 rfl rfl) h1
 subst hv1
 obtain ⟨k, hv2, hd2, hp2, wf2⟩ := open_int Tryz.underlying3 (hval 2 3 v2 rfl rfl) h2
 have bd2 := wf_i64b wf2
 subst hv2
 obtain ⟨h1, hIV, hK⟩ := of_laid hL
 clear hA0 hval0 hsz0
 refine (patchMakes_walk Aa ma ca Ba Ab mb cb Bb k W hs0 hmc0 hcm0 hB0 hs1 hmc1 hcm1 hB1 bd2 (maxC_of hSh) h1 hIV hK).mono fun e W' ⟨he, hst⟩ => ?_
 have bel := hst.below
 subst he
 exact ⟨_, rfl, _, _, _, [], _, [], hW', trodAll_mk1 (shut_bool Tryz.underlying4 _), (trodAll_cons_mk (Below.trod laid_out (by kernel_rfl) (of_decide_eq_true (by kernel_rfl)) k0 bel lt0) (trodAll_cons_mk (Below.trod laid_out (by kernel_rfl) (of_decide_eq_true (by kernel_rfl)) k1 bel lt1) (trodAll_cons_mk (Below.trod laid_out (by kernel_rfl) (of_decide_eq_true (by kernel_rfl)) k2 bel lt2) trodAll_mk0))), rfl, bel.frame _, fun h => by cases h⟩
theorem patchMakes_said : Rows.PatchMakesSaid :=
 OpenClaim.holds_of_wide 7 Tryz.f7 rfl rfl rfl rfl rfl rfl rfl ⟨rfl, rfl, rfl, rfl, rfl⟩ rfl rfl rfl rfl rfl (by kernel_rfl) Tryz.func7 (by kernel_rfl)
  (of_decide_eq_true (by kernel_rfl)) (by unfold Func.isWrapper; first | (rw [if_pos (by decide +kernel)]; kernel_rfl) | (rw [if_neg (by decide +kernel)]; exact ⟨rfl, rfl⟩))
  (fun os started H enc _ => patchMakes_lifted os started H enc)
theorem patchMakes_holds : Rows.PatchMakesCardSaid :=
 Claim7.holds_tied_plain_at .later [] [.data, .data] true (true, "a5b5658e4295244dfd33ca341262ac0e53bd1c66653a9260470d657c4bf4a125") false
  patchMakes_said (fun _ h => by cases h) (by kernel_rfl) (fun _ h => by cases h) patchMakes_row_tie rfl ⟨rfl, rfl⟩ (by kernel_rfl) rfl
  (fun f fn hf hfn => by
   obtain rfl : f = 7 := Option.some.inj ((show Tryz.prog.funcNamed "graft/graftlaw08.PatchMakes" = some 7 by kernel_rfl).symm.trans hf) |>.symm
   obtain rfl : fn = Tryz.f7 := (Option.some.inj (Tryz.func7.symm.trans hfn)).symm
   exact ⟨by kernel_rfl, fun j t ht => by
    rw [Tryz.params7] at ht
    have hm : t ∈ ([3, 22] : List Nat) := by have := Array.mem_of_getElem? ht; simp at this ⊢; first | omega | (rcases this with h | h <;> simp [h]) | (rcases this with h | h | h <;> simp [h])
    have hall : (([3, 22] : List Nat).all fun u => !Tryz.prog.wantsStandIn u) = true := by kernel_rfl
    exact (show Tryz.prog.wantsStandIn t = false by simpa using List.all_eq_true.1 hall t hm)⟩)
  (by kernel_rfl)
end Go.Proofs.YtegddcklbmonfaaGreatDoor
