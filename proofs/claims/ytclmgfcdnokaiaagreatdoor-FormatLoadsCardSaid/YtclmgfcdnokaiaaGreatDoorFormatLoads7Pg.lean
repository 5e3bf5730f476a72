/-
 The code of layer 7: hash.
-/
import Derived.Test.YtclmgfcdnokaiaaGreatDoorFormatLoads7Pf
import Derived.Test.YtclmgfcdnokaiaaGreatDoorFormatLoads7Pb
import Derived.Test.YtclmgfcdnokaiaaGreatDoorFormatLoads7Pa
import Derived.Test.YtclmgfcdnokaiaaGreatDoorFormatLoads7Pe
import Derived.Test.YtclmgfcdnokaiaaGreatDoorFormatLoads7Pd
import Derived.MapKept
/-
 The code of layer 7: what a delta must meet to be encoded.
-/
namespace Go.Proofs.YtclmgfcdnokaiaaGreatDoor
set_option maxRecDepth 100000
set_option maxHeartbeats 2000000
open Go.Value (int slice)
set_option linter.unusedVariables false
set_option linter.unusedSimpArgs false
open Go Go.RowKit
theorem enters115 : Enters Tryz.prog 115 := ⟨_, Tryz.func115, by kernel_rfl, by kernel_rfl⟩
theorem enters57 : Enters Tryz.prog 57 := ⟨_, Tryz.func57, by kernel_rfl, by kernel_rfl⟩
theorem enters58 : Enters Tryz.prog 58 := ⟨_, Tryz.func58, by kernel_rfl, by kernel_rfl⟩
theorem enters59 : Enters Tryz.prog 59 := ⟨_, Tryz.func59, by kernel_rfl, by kernel_rfl⟩
theorem enters60 : Enters Tryz.prog 60 := ⟨_, Tryz.func60, by kernel_rfl, by kernel_rfl⟩
theorem enters91 : Enters Tryz.prog 91 := ⟨_, Tryz.func91, by kernel_rfl, by kernel_rfl⟩
theorem enters92 : Enters Tryz.prog 92 := ⟨_, Tryz.func92, by kernel_rfl, by kernel_rfl⟩
theorem enters93 : Enters Tryz.prog 93 := ⟨_, Tryz.func93, by kernel_rfl, by kernel_rfl⟩
instance : Sli Tryz.prog 139 3 := ⟨Tryz.underlying139⟩
instance (x : CV) : Decidable (okK x) := by unfold okK; infer_instance
instance (x : CV) : Decidable (okV x) := by unfold okV; infer_instance
def allK (Cs : List CV) : Prop := ∀ (i : Nat) (x : CV), Cs[i]? = some x → okK x
def allV (Cs : List CV) : Prop := ∀ (i : Nat) (x : CV), Cs[i]? = some x → okV x
noncomputable instance (Cs : List CV) : Decidable (allK Cs) := Classical.propDecidable _
noncomputable instance (Cs : List CV) : Decidable (allV Cs) := Classical.propDecidable _
theorem wrongI_notK {o n : Int} {Cs : List CV} (h : ¬ allK Cs) : wrongI o n Cs = 11 := by unfold wrongI; exact if_neg h
theorem wrongI_notV {o n : Int} {Cs : List CV} (hk : allK Cs) (hl : inR o ∧ inR n) (h : ¬ allV Cs) : wrongI o n Cs = 2 := by unfold wrongI; exact (if_pos hk).trans ((if_pos hl).trans (if_neg h))
def allR (B : List Int) : Prop := ∀ x ∈ B, inR x
instance (B : List Int) : Decidable (allR B) := by unfold allR; infer_instance
theorem allR2 {a b : Int} : allR [a, b] ↔ inR a ∧ inR b := by unfold allR; simp
theorem allR3 {a b c : Int} : allR [a, b, c] ↔ (inR a ∧ inR b ∧ inR c) := by unfold allR; simp
theorem allR_iff {B : List Int} {m : Nat} (hl : B.length = m) : allR B ↔ ∀ i, i < m → inR (B.getD i 0) := by
 subst hl
 unfold allR
 constructor
 ·intro h i hi
  rw [List.getD_eq_getElem?_getD, List.getElem?_eq_getElem hi]
  exact h _ (List.getElem_mem hi)
 ·intro h x hx
  obtain ⟨i, hi, rfl⟩ := List.getElem_of_mem hx
  have := h i hi
  rw [List.getD_eq_getElem?_getD, List.getElem?_eq_getElem hi] at this; exact this
theorem unk_c (x : CV) (w : World) : Calls Tryz.prog 58 #[.agg ([int .i64 x.k, int .i64 x.t, int .i64 x.f, int .i64 x.l, slice x.A x.m x.c]).toArray] w fun e w' => e = .returned (.bool (decide (¬ okK x))) ∧ St w [] w' := by
 refine qL (args := [.agg ([int .i64 x.k, int .i64 x.t, int .i64 x.f, int .i64 x.l, slice x.A x.m x.c]).toArray]) Tryz.func58 rfl Tryz.ntmps58 (by simp) ?_
 refine qC [0] ?_
 iterate 2 refine gx ?_
 refine qv (fun g1 hg1 => ?_)
 iterate 7 refine gx ?_
 by_cases c1 : x.k ≠ 1
 ·refine qB (qA rfl) rfl (qP (qs rfl rfl rfl) c1) ?_
  iterate 3 refine gx ?_
  by_cases c2 : x.k ≠ 2
  ·refine qB (qJ rfl rfl rfl) rfl (qP (qs rfl rfl rfl) c2) ?_
   iterate 5 refine gx ?_
   exact qK rfl rfl (fun w hs => ⟨dec_t (by unfold okK; omega), (hs.drop (by assumption))⟩)
  ·refine qB (qJ rfl rfl rfl) rfl (qU (qs rfl rfl rfl) c2) ?_
   iterate 5 refine gx ?_
   exact qK rfl rfl (fun w hs => ⟨dec_f (by unfold okK; omega), (hs.drop (by assumption))⟩)
 ·refine qB (qA rfl) rfl (qU (qs rfl rfl rfl) c1) ?_
  iterate 9 refine gx ?_
  exact qK rfl rfl (fun w hs => ⟨dec_f (by unfold okK; omega), (hs.drop (by assumption))⟩)
theorem inr1_c (n : Int) (w : World) : Calls Tryz.prog 93 #[.int .i64 n] w fun e w' => e = .returned (.bool (decide (¬ inR n))) ∧ St w [] w' := by
 refine qL (args := [.int .i64 n]) Tryz.func93 rfl Tryz.ntmps93 (by simp) ?_
 refine qC [0] ?_
 iterate 8 refine gx ?_
 by_cases c1 : n < 0
 ·refine qB (qA rfl) rfl (qP (zC rfl rfl rfl) c1) ?_
  iterate 8 refine gx ?_
  exact qK rfl rfl (fun w hs => ⟨dec_t (by unfold inR; omega), hs⟩)
 ·refine qB (qA rfl) rfl (qU (zC rfl rfl rfl) c1) ?_
  iterate 2 refine gx ?_
  by_cases c2 : 4611686018427387903 < n
  ·refine qB (qJ rfl rfl rfl) rfl (qP (zJ rfl rfl rfl) c2) ?_
   iterate 5 refine gx ?_
   exact qK rfl rfl (fun w hs => ⟨dec_t (by unfold inR; omega), hs⟩)
  ·refine qB (qJ rfl rfl rfl) rfl (qU (zJ rfl rfl rfl) c2) ?_
   iterate 5 refine gx ?_
   exact qK rfl rfl (fun w hs => ⟨dec_f (by unfold inR; omega), hs⟩)
theorem idxi_c (B : List Int) (A : Option Addr) (m c : Nat) (w : World) (hs0 : Src w A m .i64 B) (hm : m ≤ 1000) : Calls Tryz.prog 115 #[.slice A m c, .func (.func 93) #[] #[]] w fun e w' => ∃ r : Int, e = .returned (.int .i64 r) ∧ ((0 : Int) ≤ r ↔ ¬ allR B) ∧ St w [] w' := by
 refine qL (args := [.slice A m c, .func (.func 93) #[] #[]]) Tryz.func115 rfl Tryz.ntmps115 (by simp) ?_
 refine qC [0, 1] ?_
 iterate 14 refine gx ?_
 refine qr (ι := Nat) (fun i => [(0, .slice A m c), (1, .func (.func 93) #[] #[]), (7, .int .i64 (m : Int)), (8, .int .i64 (i : Int))]) (fun i => []) (fun i => m - i) (fun i => i ≤ m ∧ ∀ j, j < i → inR (B.getD j 0)) 0 ⟨Nat.zero_le _, fun j h => absurd h (Nat.not_lt_zero j)⟩ (qT (i := 0) rfl rfl (by first | omega | (dsimp only; omega) | rfl) (by first | omega | (dsimp only; omega) | rfl) (qI (i := 1) rfl (qH (i := 7) rfl (by first | omega | rfl) (qH (i := 8) rfl (by first | omega | rfl) (qN))))) (fun w h => h) (fun i hC0 => ?_)
 obtain ⟨hi0, hC1⟩ := hC0
 iterate 6 refine gx ?_
 refine qX rfl (fun hq0 => ?_) (fun hq0 => ?_)
 ·obtain ⟨b, off, hAe, hb, hr⟩ := hs0.2.resolve_left (by omega)
  subst hAe
  iterate 15 refine gx ?_
  refine qB (qA rfl) rfl (ql rfl Tryz.underlying139 size3 rfl rfl (i := i) (by omega) (by omega) (off' := (off + i)) (by omega)) ?_
  refine qB (qA rfl) rfl (qS rfl agg3 rfl (At.rowI hr (i := i) (by omega) (by omega) hb qF)) ?_
  refine TL.call0F (qA rfl) rfl enters93 rfl rfl rfl (u := .bool (decide (¬ inR (B.getD i 0)))) (fun w hs => inr1_c (B.getD i 0) w) ?_
  iterate 2 refine gx ?_
  refine qC [0, 1, 5, 7, 8, 16] ?_
  refine qX rfl (fun hq1 => ?_) (fun hq1 => ?_)
  ·iterate 12 refine gx ?_
   exact qK rfl rfl (fun w hs => ⟨_, rfl, ⟨fun _ h => hq1 ((allR_iff hs0.1).1 h i (by omega)), fun _ => by omega⟩, hs⟩)
  ·iterate 4 refine gx ?_
   refine qB (qA rfl) rfl (qR rfl rfl rfl (r := ((i : Int) + 1)) (w64 (by omega) (by omega))) ?_
   iterate 2 refine gx ?_
   exact qj (i + 1) (by omega) ⟨by omega, fun j hj => by rcases Nat.lt_succ_iff_lt_or_eq.1 hj with hj | rfl; exact hC1 j hj; exact Decidable.not_not.1 hq1⟩ (qT (i := 0) rfl (by first | rfl | (congr 2; omega)) (by first | omega | (dsimp only; omega) | rfl) (by first | omega | (dsimp only; omega) | rfl) (qI (i := 1) rfl (qH (i := 7) rfl (by first | omega | rfl) (qH (i := 8) rfl (by first | omega | rfl) (qN))))) (fun w h => h)
 ·iterate 11 refine gx ?_
  exact qK rfl rfl (fun w hs => ⟨_, rfl, ⟨fun h => absurd h (by decide), fun h => absurd ((allR_iff hs0.1).2 (fun j hj => hC1 j (by omega))) h⟩, hs⟩)
theorem coni_c (B : List Int) (A : Option Addr) (m c : Nat) (w : World) (hs0 : Src w A m .i64 B) (hm : m ≤ 1000) : Calls Tryz.prog 92 #[.slice A m c, .func (.func 93) #[] #[]] w fun e w' => e = .returned (.bool (decide (¬ allR B))) ∧ St w [] w' := by
 refine qL (args := [.slice A m c, .func (.func 93) #[] #[]]) Tryz.func92 rfl Tryz.ntmps92 (by simp) ?_
 refine qC [0, 1] ?_
 iterate 9 refine gx ?_
 refine qY (ι := Int) (V := fun yr => .int .i64 yr) (R := fun yr => (0 : Int) ≤ yr ↔ ¬ allR B) (H' := fun _ => []) (qA rfl) rfl enters115 rfl rfl (fun w hs => (idxi_c B A m c w (hs0.at_ hs (fun b hb => qF)) (by omega)).mono fun e w' ⟨y, he, hR, hw⟩ => ⟨y, he, hR, hs.call' hw⟩) (fun yr hyr => ?_)
 iterate 5 refine gx ?_
 exact qK rfl rfl (fun w hs => ⟨dec_iff (hyr), hs⟩)
theorem inrange_c (B : List Int) (A : Option Addr) (m c : Nat) (w : World) (hs0 : Src w A m .i64 B) (hm : m ≤ 1000) : Calls Tryz.prog 59 #[.slice A m c] w fun e w' => e = .returned (.bool (decide (allR B))) ∧ St w [] w' := by
 refine qL (args := [.slice A m c]) Tryz.func59 rfl Tryz.ntmps59 (by simp) ?_
 refine qC [0] ?_
 iterate 8 refine gx ?_
 refine qM (qA rfl) rfl enters92 rfl rfl (v := .bool (decide (¬ allR B))) (fun w hs => coni_c B A m c w (hs0.at_ hs (fun b hb => qF)) (by omega)) ?_
 iterate 5 refine gx ?_
 exact qK rfl rfl (fun w hs => ⟨dec_iff (Decidable.not_not), hs⟩)
theorem unfit_c (x : CV) (hk : okK x) (w : World) : Calls Tryz.prog 60 #[.agg ([int .i64 x.k, int .i64 x.t, int .i64 x.f, int .i64 x.l, slice x.A x.m x.c]).toArray] w fun e w' => e = .returned (.bool (decide (¬ okV x))) ∧ St w [] w' := by
 have hk2 := hk
 unfold okK at hk2
 refine qL (args := [.agg ([int .i64 x.k, int .i64 x.t, int .i64 x.f, int .i64 x.l, slice x.A x.m x.c]).toArray]) Tryz.func60 rfl Tryz.ntmps60 (by simp) ?_
 refine qC [0] ?_
 iterate 2 refine gx ?_
 refine qv (fun g1 hg1 => ?_)
 iterate 12 refine gx ?_
 refine zc (qA rfl) rfl rfl Tryz.underlying139 size3 zero3 rfl (by decide) (by decide) (cells := #[.int .i64 x.t, .int .i64 x.f, .int .i64 x.l]) (tot := 3) (by kernel_rfl) (cs := [.int .i64 x.t, .int .i64 x.f, .int .i64 x.l]) rfl rfl (fun g2 hg2 => ?_)
 by_cases c1 : inR x.t ∧ inR x.f ∧ inR x.l
 ·refine qM (qA rfl) rfl enters59 rfl rfl (v := .bool true) (fun w hs => ((inrange_c [x.t, x.f, x.l] (some ⟨g2, 0, none⟩) 3 3 w (zT (W := [x.t, x.f, x.l]) (hs.has (⟨g2, 3, [int .i64 x.t, int .i64 x.f, int .i64 x.l], 3⟩) (by simp)) rfl) (by omega)).mono fun e w' h => by rw [decide_eq_decide.2 allR3] at h; exact h).mono fun e w' h => by rw [decide_eq_true (p := inR x.t ∧ inR x.f ∧ inR x.l) c1] at h; exact h) ?_
  iterate 3 refine gx ?_
  refine qC [1, 2, 11] ?_
  refine qW rfl ?_
  iterate 10 refine gx ?_
  refine qX rfl (fun h1 => ?_) (fun h1 => ?_)
  ·iterate 11 refine gx ?_
   exact qK rfl rfl (fun w hs => ⟨dec_iff (by unfold okV; simp only [inR] at *; omega), ((hs.drop (by assumption)).drop (by assumption))⟩)
  ·iterate 6 refine gx ?_
   by_cases c2 : x.f ≠ 0
   ·refine qB (qA rfl) rfl (qP (qs rfl rfl rfl) c2) ?_
    iterate 9 refine gx ?_
    exact qK rfl rfl (fun w hs => ⟨dec_t (by unfold okV; simp only [inR] at *; omega), ((hs.drop (by assumption)).drop (by assumption))⟩)
   ·refine qB (qA rfl) rfl (qU (qs rfl rfl rfl) c2) ?_
    iterate 9 refine gx ?_
    exact qK rfl rfl (fun w hs => ⟨dec_iff (by unfold okV; simp only [inR] at *; omega), ((hs.drop (by assumption)).drop (by assumption))⟩)
 ·refine qM (qA rfl) rfl enters59 rfl rfl (v := .bool false) (fun w hs => ((inrange_c [x.t, x.f, x.l] (some ⟨g2, 0, none⟩) 3 3 w (zT (W := [x.t, x.f, x.l]) (hs.has (⟨g2, 3, [int .i64 x.t, int .i64 x.f, int .i64 x.l], 3⟩) (by simp)) rfl) (by omega)).mono fun e w' h => by rw [decide_eq_decide.2 allR3] at h; exact h).mono fun e w' h => by rw [decide_eq_false (p := inR x.t ∧ inR x.f ∧ inR x.l) c1] at h; exact h) ?_
  iterate 3 refine gx ?_
  refine qC [1, 2, 11] ?_
  refine qd rfl ?_
  iterate 7 refine gx ?_
  exact qK rfl rfl (fun w hs => ⟨dec_t (by unfold okV; simp only [inR] at *; omega), ((hs.drop (by assumption)).drop (by assumption))⟩)
theorem idxunk_c (A : Option Addr) (m c : Nat) (Cs : List CV) (hmm : m ≤ 1000000000) (hN : NumsC Cs) (w : World) (hC : SrcC w A m Cs) : Calls Tryz.prog 91 #[.slice A m c, .func (.func 58) #[] #[]] w fun e w' => ∃ r : Int, e = .returned (.int .i64 r) ∧ ((0 : Int) ≤ r ↔ ¬ allK Cs) ∧ St w [] w' := by
 refine qL (args := [.slice A m c, .func (.func 58) #[] #[]]) Tryz.func91 rfl Tryz.ntmps91 (by simp) ?_
 refine qC [0, 1] ?_
 iterate 14 refine gx ?_
 refine qr (ι := Nat) (fun i => [(0, .slice A m c), (1, .func (.func 58) #[] #[]), (7, .int .i64 (m : Int)), (8, .int .i64 (i : Int))]) (fun i => []) (fun i => m - i) (fun i => i ≤ m ∧ ∀ (j : Nat) (y : CV), j < i → Cs[j]? = some y → okK y) 0 ⟨Nat.zero_le _, fun j y h => absurd h (Nat.not_lt_zero j)⟩ (qT (i := 0) rfl rfl (by first | omega | (dsimp only; omega) | rfl) (by first | omega | (dsimp only; omega) | rfl) (qI (i := 1) rfl (qH (i := 7) rfl (by first | omega | rfl) (qH (i := 8) rfl (by first | omega | rfl) (qN))))) (fun w h => h) (fun i hC0 => ?_)
 obtain ⟨hi0, hC1⟩ := hC0
 iterate 6 refine gx ?_
 refine qX rfl (fun hq0 => ?_) (fun hq0 => ?_)
 ·obtain ⟨b, off, hAe, hb, hrw⟩ := hC.some_ (i := i) (by omega)
  subst hAe
  obtain ⟨x, hx⟩ := hC.get (i := i) (by omega)
  have hnx := hN i x hx
  unfold NumC at hnx
  have hlbx := lenV_bd (k := x.k) (l := x.l) (m := x.m) (by omega) (by omega)
  iterate 15 refine gx ?_
  refine qB (qA rfl) rfl (ql rfl Tryz.underlying25 size61 rfl rfl (i := i) (by omega) (by omega) (off' := (off + 5 * i)) (by omega)) ?_
  refine qB (qA rfl) rfl (qg rfl agg61 size61 rfl rfl (zS (fun jj u h => hrw i x hx jj u h) hb qF)) ?_
  refine TL.call0F (qA rfl) rfl enters58 rfl rfl rfl (u := .bool (decide (¬ okK x))) (fun w hs => unk_c x w) ?_
  iterate 2 refine gx ?_
  refine qC [0, 1, 5, 7, 8, 16] ?_
  refine qX rfl (fun hq1 => ?_) (fun hq1 => ?_)
  ·iterate 12 refine gx ?_
   exact qK rfl rfl (fun w hs => ⟨_, rfl, ⟨fun _ h => hq1 (h i x hx), fun _ => by omega⟩, hs⟩)
  ·iterate 4 refine gx ?_
   refine qB (qA rfl) rfl (qR rfl rfl rfl (r := ((i : Int) + 1)) (w64 (by omega) (by omega))) ?_
   iterate 2 refine gx ?_
   exact qj (i + 1) (by omega) ⟨by omega, all_succ hC1 hx (Decidable.not_not.1 hq1)⟩ (qT (i := 0) rfl (by first | rfl | (congr 2; omega)) (by first | omega | (dsimp only; omega) | rfl) (by first | omega | (dsimp only; omega) | rfl) (qI (i := 1) rfl (qH (i := 7) rfl (by first | omega | rfl) (qH (i := 8) rfl (by first | omega | rfl) (qN))))) (fun w h => h)
 ·iterate 11 refine gx ?_
  exact qK rfl rfl (fun w hs => ⟨_, rfl, ⟨fun h => absurd h (by decide), fun h => absurd (all_of (m := m) (by have := hC.1; omega) (fun j y hj => hC1 j y (by omega))) h⟩, hs⟩)
theorem conunk_c (A : Option Addr) (m c : Nat) (Cs : List CV) (hmm : m ≤ 1000000000) (hN : NumsC Cs) (w : World) (hC : SrcC w A m Cs) : Calls Tryz.prog 57 #[.slice A m c, .func (.func 58) #[] #[]] w fun e w' => e = .returned (.bool (decide (¬ allK Cs))) ∧ St w [] w' := by
 refine qL (args := [.slice A m c, .func (.func 58) #[] #[]]) Tryz.func57 rfl Tryz.ntmps57 (by simp) ?_
 refine qC [0, 1] ?_
 iterate 9 refine gx ?_
 refine qY (ι := Int) (V := fun yr => .int .i64 yr) (R := fun yr => (0 : Int) ≤ yr ↔ ¬ allK Cs) (H' := fun _ => []) (qA rfl) rfl enters91 rfl rfl (fun w hs => (idxunk_c A m c Cs (by omega) hN w (hC.at_ hs (fun b hb => qF))).mono fun e w' ⟨y, he, hR, hw⟩ => ⟨y, he, hR, hs.call' hw⟩) (fun yr hyr => ?_)
 iterate 5 refine gx ?_
 exact qK rfl rfl (fun w hs => ⟨dec_iff (hyr), hs⟩)
theorem idxunf_c (A : Option Addr) (m c : Nat) (Cs : List CV) (hk : allK Cs) (hmm : m ≤ 1000000000) (hN : NumsC Cs) (w : World) (hC : SrcC w A m Cs) : Calls Tryz.prog 91 #[.slice A m c, .func (.func 60) #[] #[]] w fun e w' => ∃ r : Int, e = .returned (.int .i64 r) ∧ ((0 : Int) ≤ r ↔ ¬ allV Cs) ∧ St w [] w' := by
 refine qL (args := [.slice A m c, .func (.func 60) #[] #[]]) Tryz.func91 rfl Tryz.ntmps91 (by simp) ?_
 refine qC [0, 1] ?_
 iterate 14 refine gx ?_
 refine qr (ι := Nat) (fun i => [(0, .slice A m c), (1, .func (.func 60) #[] #[]), (7, .int .i64 (m : Int)), (8, .int .i64 (i : Int))]) (fun i => []) (fun i => m - i) (fun i => i ≤ m ∧ ∀ (j : Nat) (y : CV), j < i → Cs[j]? = some y → okV y) 0 ⟨Nat.zero_le _, fun j y h => absurd h (Nat.not_lt_zero j)⟩ (qT (i := 0) rfl rfl (by first | omega | (dsimp only; omega) | rfl) (by first | omega | (dsimp only; omega) | rfl) (qI (i := 1) rfl (qH (i := 7) rfl (by first | omega | rfl) (qH (i := 8) rfl (by first | omega | rfl) (qN))))) (fun w h => h) (fun i hC0 => ?_)
 obtain ⟨hi0, hC1⟩ := hC0
 iterate 6 refine gx ?_
 refine qX rfl (fun hq0 => ?_) (fun hq0 => ?_)
 ·obtain ⟨b, off, hAe, hb, hrw⟩ := hC.some_ (i := i) (by omega)
  subst hAe
  obtain ⟨x, hx⟩ := hC.get (i := i) (by omega)
  have hnx := hN i x hx
  unfold NumC at hnx
  have hlbx := lenV_bd (k := x.k) (l := x.l) (m := x.m) (by omega) (by omega)
  iterate 15 refine gx ?_
  refine qB (qA rfl) rfl (ql rfl Tryz.underlying25 size61 rfl rfl (i := i) (by omega) (by omega) (off' := (off + 5 * i)) (by omega)) ?_
  refine qB (qA rfl) rfl (qg rfl agg61 size61 rfl rfl (zS (fun jj u h => hrw i x hx jj u h) hb qF)) ?_
  refine TL.call0F (qA rfl) rfl enters60 rfl rfl rfl (u := .bool (decide (¬ okV x))) (fun w hs => unfit_c x (hk i x hx) w) ?_
  iterate 2 refine gx ?_
  refine qC [0, 1, 5, 7, 8, 16] ?_
  refine qX rfl (fun hq1 => ?_) (fun hq1 => ?_)
  ·iterate 12 refine gx ?_
   exact qK rfl rfl (fun w hs => ⟨_, rfl, ⟨fun _ h => hq1 (h i x hx), fun _ => by omega⟩, hs⟩)
  ·iterate 4 refine gx ?_
   refine qB (qA rfl) rfl (qR rfl rfl rfl (r := ((i : Int) + 1)) (w64 (by omega) (by omega))) ?_
   iterate 2 refine gx ?_
   exact qj (i + 1) (by omega) ⟨by omega, all_succ hC1 hx (Decidable.not_not.1 hq1)⟩ (qT (i := 0) rfl (by first | rfl | (congr 2; omega)) (by first | omega | (dsimp only; omega) | rfl) (by first | omega | (dsimp only; omega) | rfl) (qI (i := 1) rfl (qH (i := 7) rfl (by first | omega | rfl) (qH (i := 8) rfl (by first | omega | rfl) (qN))))) (fun w h => h)
 ·iterate 11 refine gx ?_
  exact qK rfl rfl (fun w hs => ⟨_, rfl, ⟨fun h => absurd h (by decide), fun h => absurd (all_of (m := m) (by have := hC.1; omega) (fun j y hj => hC1 j y (by omega))) h⟩, hs⟩)
theorem conunf_c (A : Option Addr) (m c : Nat) (Cs : List CV) (hk : allK Cs) (hmm : m ≤ 1000000000) (hN : NumsC Cs) (w : World) (hC : SrcC w A m Cs) : Calls Tryz.prog 57 #[.slice A m c, .func (.func 60) #[] #[]] w fun e w' => e = .returned (.bool (decide (¬ allV Cs))) ∧ St w [] w' := by
 refine qL (args := [.slice A m c, .func (.func 60) #[] #[]]) Tryz.func57 rfl Tryz.ntmps57 (by simp) ?_
 refine qC [0, 1] ?_
 iterate 9 refine gx ?_
 refine qY (ι := Int) (V := fun yr => .int .i64 yr) (R := fun yr => (0 : Int) ≤ yr ↔ ¬ allV Cs) (H' := fun _ => []) (qA rfl) rfl enters91 rfl rfl (fun w hs => (idxunf_c A m c Cs hk (by omega) hN w (hC.at_ hs (fun b hb => qF))).mono fun e w' ⟨y, he, hR, hw⟩ => ⟨y, he, hR, hs.call' hw⟩) (fun yr hyr => ?_)
 iterate 5 refine gx ?_
 exact qK rfl rfl (fun w hs => ⟨dec_iff (hyr), hs⟩)
theorem check7_c (o n : Int) (H1 H2 : List Int) (hH1 : H1.length = 32) (hH2 : H2.length = 32) (A : Option Addr) (m c : Nat) (Cs : List CV) (hmc : m ≤ c) (hcm : c ≤ 9223372036854775807) (hm : m ≤ 1000000) (hN : NumsC Cs) (w : World) (hC : SrcC w A m Cs) : Calls Tryz.prog 22 #[.agg (dV o n H1 H2 (slice A m c)).toArray] w fun e w' => e = .returned (.int .i64 (wrongI o n Cs)) ∧ St w [] w' := by
 refine qL (args := [.agg (dV o n H1 H2 (slice A m c)).toArray]) Tryz.func22 rfl Tryz.ntmps22 (by simp) ?_
 refine qC [0] ?_
 iterate 2 refine gx ?_
 refine zQ (qA rfl) rfl rfl rfl (cs := dV o n H1 H2 (slice A m c)) (by simp [Value.cells]) (tot := 67) (by simp [hH1, hH2]) (fun g1 hg1 => ?_)
 iterate 8 refine gx ?_
 refine qM (qA rfl) rfl enters57 rfl rfl (v := .bool (decide (¬ allK Cs))) (fun w hs => conunk_c A m c Cs (by omega) hN w (hC.at_ hs (fun b hb => (qE (by show g1 ≠ b; omega) qF)))) ?_
 iterate 2 refine gx ?_
 refine qX rfl (fun h0 => ?_) (fun h0 => ?_)
 ·iterate 7 refine gx ?_
  exact qK rfl rfl (fun w hs => ⟨ret_i ((wrongI_notK h0).symm), (hs.drop (by assumption))⟩)
 ·have hkk : allK Cs := Decidable.not_not.1 h0
  iterate 9 refine gx ?_
  refine zc (qA rfl) rfl rfl Tryz.underlying139 size3 zero3 rfl (by decide) (by decide) (cells := #[.int .i64 o, .int .i64 n]) (tot := 2) (by kernel_rfl) (cs := [.int .i64 o, .int .i64 n]) rfl rfl (fun g2 hg2 => ?_)
  by_cases q1 : inR o ∧ inR n
  ·refine qM (qA rfl) rfl enters59 rfl rfl (v := .bool true) (fun w hs => ((inrange_c [o, n] (some ⟨g2, 0, none⟩) 2 2 w (zT (W := [o, n]) (hs.has (⟨g2, 3, [int .i64 o, int .i64 n], 2⟩) (by simp)) rfl) (by omega)).mono fun e w' h => by rw [decide_eq_decide.2 allR2] at h; exact h).mono fun e w' h => by rw [decide_eq_true (p := inR o ∧ inR n) q1] at h; exact h) ?_
   iterate 5 refine gx ?_
   refine qB (qJ rfl rfl rfl) rfl (qU (zJ rfl rfl rfl) (by omega)) ?_
   iterate 4 refine gx ?_
   by_cases q2 : ¬ allV Cs
   ·refine qM (qJ rfl rfl rfl) rfl enters57 rfl rfl (v := .bool true) (fun w hs => (conunf_c A m c Cs hkk (by omega) hN w (hC.at_ hs (fun b hb => (qE (by show g2 ≠ b; omega) (qE (by show g1 ≠ b; omega) qF))))).mono fun e w' h => by rw [decide_eq_true (p := ¬ allV Cs) q2] at h; exact h) ?_
    iterate 3 refine gx ?_
    refine qC [2, 23] ?_
    refine qd rfl ?_
    iterate 7 refine gx ?_
    exact qK rfl rfl (fun w hs => ⟨ret_i (by first | exact (wrongI_len hkk q1).symm | exact (wrongI_notV hkk q1 q2).symm), ((hs.drop (by assumption)).drop (by assumption))⟩)
   ·refine qM (qJ rfl rfl rfl) rfl enters57 rfl rfl (v := .bool false) (fun w hs => (conunf_c A m c Cs hkk (by omega) hN w (hC.at_ hs (fun b hb => (qE (by show g2 ≠ b; omega) (qE (by show g1 ≠ b; omega) qF))))).mono fun e w' h => by rw [decide_eq_false (p := ¬ allV Cs) q2] at h; exact h) ?_
    iterate 3 refine gx ?_
    refine qC [2, 23] ?_
    refine qW rfl ?_
    iterate 8 refine gx ?_
    exact qK rfl rfl (fun w hs => ⟨ret_i ((wrongI_0 hkk q1 (show allV Cs from Classical.not_not.1 q2)).symm), ((hs.drop (by assumption)).drop (by assumption))⟩)
  ·refine qM (qA rfl) rfl enters59 rfl rfl (v := .bool false) (fun w hs => ((inrange_c [o, n] (some ⟨g2, 0, none⟩) 2 2 w (zT (W := [o, n]) (hs.has (⟨g2, 3, [int .i64 o, int .i64 n], 2⟩) (by simp)) rfl) (by omega)).mono fun e w' h => by rw [decide_eq_decide.2 allR2] at h; exact h).mono fun e w' h => by rw [decide_eq_false (p := inR o ∧ inR n) q1] at h; exact h) ?_
   iterate 14 refine gx ?_
   refine qC [2, 23] ?_
   refine qd rfl ?_
   iterate 7 refine gx ?_
   exact qK rfl rfl (fun w hs => ⟨ret_i (by first | exact (wrongI_len hkk q1).symm | exact (wrongI_notV hkk q1 q2).symm), ((hs.drop (by assumption)).drop (by assumption))⟩)
/-
 A region that draws its order, with a constant text among its operations: a block that is made, marked, and read at the region's end.
-/
structure GEnt where
 g : Nat
 t : TypeId
 cs : List Value
 fl : Nat × Nat
def GEnt.lies (d : GEnt) (w : World) : Prop := w.heap[d.g]? = some (.cells d.cs.toArray d.t d.fl)
structure StG (w0 : World) (H : List Ent) (D : List GEnt) (w : World) : Prop where
 st : St w0 H w
 ds : ∀ d ∈ D, d.lies w ∧ w0.heap.size ≤ d.g ∧ ∀ e ∈ H, e.g ≠ d.g
section
variable {P : Program} {ops : Array Oper} {md : Region.Mode} {w0 : World} {HB : List Ent}
theorem GEnt.lies.lt {d : GEnt} {w : World} (h : d.lies w) : d.g < w.heap.size := (Array.getElem?_eq_some_iff.1 h).1
theorem StG.perm {w : World} {H H' : List Ent} {D : List GEnt} (h : StG w0 H D w) (hp : H.Perm H') : StG w0 H' D w :=
 ⟨h.st.perm hp, fun d hd => ⟨(h.ds d hd).1, (h.ds d hd).2.1, fun e he => (h.ds d hd).2.2 e (hp.mem_iff.2 he)⟩⟩
theorem StG.call {w w' : World} {H E : List Ent} {D : List GEnt} (h : StG w0 H D w) (hw : St w E w') (hE : Fresh w E) : StG w0 (H ++ E) D w' :=
 ⟨st_call h.st hw hE, fun d hd => by
  obtain ⟨h1, h2, h3⟩ := h.ds d hd
  refine ⟨(hw.old d.g h1.lt (hE.ne h1.lt)).trans h1, h2, fun e he => ?_⟩
  rcases List.mem_append.1 he with he | he
  ·exact h3 e he
  ·exact hE.ne h1.lt e he⟩
def OneG (P : Program) (o : Oper) (v : Value) (a : Act) (w : World) : Prop :=
 (execOp a.eval o).run P w = .ok (.value v) w ∨ ∃ f vs, (execOp a.eval o).run P w = .ok (.enter f vs) w ∧ Calls P f vs w fun e w' => e = .returned v ∧ St w [] w'
def ValG (P : Program) (ops : Array Oper) (w0 : World) (HB : List Ent) (k : Nat) (X : List Ent) (o : Oper) (v : Value) (a : Act) : Prop :=
 Region.wanted o (yielded ops a.tmps) = true ∧ ∀ Z w, Fresh w0 Z → St w0 (HB ++ (if k = 0 then Z else X ++ Z)) w → OneG P o v a w
theorem ValG.of_same {k : Nat} {X : List Ent} {o : Oper} {v : Value} {a a' : Act} (h : ValG P ops w0 HB k X o v a) (he : execOp a'.eval o = execOp a.eval o)
  (hw : Region.wanted o (yielded ops a'.tmps) = Region.wanted o (yielded ops a.tmps)) : ValG P ops w0 HB k X o v a' := by
 unfold ValG OneG at *; rw [he, hw]; exact h
theorem ValG.perm {k : Nat} {X X' : List Ent} {o : Oper} {v : Value} {a : Act} (h : ValG P ops w0 HB k X o v a) (hp : X.Perm X') : ValG P ops w0 HB k X' o v a := ⟨h.1, fun Z w hZ hs => by
 refine h.2 Z w hZ ?_
 by_cases hk : k = 0
 ·rw [if_pos hk] at hs ⊢; exact hs
 ·rw [if_neg hk] at hs ⊢
  exact hs.perm (List.Perm.append_left HB (List.Perm.append_right Z hp.symm))⟩
theorem ValG.more {k : Nat} {X E : List Ent} {o : Oper} {v : Value} {a : Act} (h : ValG P ops w0 HB k X o v a) (he : Fresh w0 E) : ValG P ops w0 HB k (X ++ E) o v a := ⟨h.1, fun Z w hZ hs => by
 by_cases hk : k = 0
 ·refine h.2 Z w hZ ?_
  rw [if_pos hk] at hs ⊢; exact hs
 ·refine h.2 (E ++ Z) w (he.app hZ) ?_
  rw [if_neg hk] at hs ⊢
  rw [← List.append_assoc X]; exact hs⟩
def MakesG (P : Program) (ops : Array Oper) (o : Oper) (a : Act) (R : Value → GEnt → Prop) (w : World) : Prop :=
 (∃ v d w', (execOp a.eval o).run P w = .ok (.value v) w' ∧ R v d ∧ w.heap.size ≤ d.g ∧ d.lies w' ∧ St w [] w') ∧ Region.wanted o (yielded ops a.tmps) = true
theorem MakesG.of_same {o : Oper} {a a' : Act} {w : World} {R : Value → GEnt → Prop} (h : MakesG P ops o a R w) (he : execOp a'.eval o = execOp a.eval o)
  (hw : Region.wanted o (yielded ops a'.tmps) = Region.wanted o (yielded ops a.tmps)) : MakesG P ops o a' R w := by
 unfold MakesG at *; rw [he, hw]; exact h
def MarksG (P : Program) (ops : Array Oper) (w0 : World) (D D' : List GEnt) (o : Oper) (v : Value) (a : Act) : Prop :=
 (∀ w H, StG w0 H D w → ∃ w', (execOp a.eval o).run P w = .ok (.value v) w' ∧ StG w0 H D' w') ∧ Region.wanted o (yielded ops a.tmps) = true
theorem MarksG.of_same {D D' : List GEnt} {o : Oper} {v : Value} {a a' : Act} (h : MarksG P ops w0 D D' o v a) (he : execOp a'.eval o = execOp a.eval o)
  (hw : Region.wanted o (yielded ops a'.tmps) = Region.wanted o (yielded ops a.tmps)) : MarksG P ops w0 D D' o v a' := by
 unfold MarksG at *; rw [he, hw]; exact h
def compatG (i j : Nat) : Bool :=
 match j with
 | 0 => Nat.beq i 0 || Nat.beq i 1 || Nat.beq i 4
 | 1 => Nat.beq i 0 || Nat.beq i 1 || Nat.beq i 4
 | 3 => Nat.beq i 0 || Nat.beq i 1 || Nat.beq i 4 || Nat.beq i 3 || Nat.beq i 5 || Nat.beq i 6
 | 4 => Nat.beq i 0 || Nat.beq i 1
 | 5 => Nat.beq i 0 || Nat.beq i 1
 | 6 => Nat.beq i 0 || Nat.beq i 1 || Nat.beq i 4 || Nat.beq i 5
 | _ => false
def pairOKG (md : Region.Mode) (ops : Array Oper) (ks ms : List Nat) (i j : Nat) : Bool :=
 !Nat.beq i j &&
 ((ms.getD j 0).testBit i || (match ops[i]? with
  | some oi => (match ops[j]? with | some oj => oi.apart ops oj && compatG (ks.getD i 2) (ks.getD j 2) | none => true)
  | none => true)) &&
 (match ops[i]? with | some oi => oi.after.all (fun e => !Region.binds md e || !Nat.beq e.on j) | none => true)
def mixOKG (md : Region.Mode) (ops : Array Oper) (ks p : List Nat) : Bool :=
 Region.noSelect ops && Nat.beq p.length ops.size && ((List.range ops.size).all fun q => p.any (Nat.beq q)) &&
 (let ms := masks md ops
  p.all (fun i => decide (i < ops.size) && (match ops[i]? with | some oi => oi.after.all (fun e => !Region.binds md e || (!Nat.beq e.on i && decide (e.on < ops.size))) | none => true)) &&
  pairsOK (pairOKG md ops ks ms) p)
def PairG (md : Region.Mode) (ops : Array Oper) (ks : List Nat) (i j : Nat) : Prop :=
 i ≠ j ∧ (∀ oi oj, ops[i]? = some oi → ops[j]? = some oj → Before md ops j i ∨ (oi.apart ops oj = true ∧ compatG (ks.getD i 2) (ks.getD j 2) = true)) ∧
 ∀ oi, ops[i]? = some oi → ∀ e ∈ oi.after, Region.binds md e = true → e.on ≠ j
theorem pairOKG_spec {ks : List Nat} {i j : Nat} (h : pairOKG md ops ks (masks md ops) i j = true) : PairG md ops ks i j := by
 unfold pairOKG at h
 simp only [Bool.and_eq_true, Bool.or_eq_true, Bool.not_eq_true'] at h
 obtain ⟨⟨h1, h2⟩, h3⟩ := h
 refine ⟨nbeq_ne h1, fun oi oj hi hj => ?_, fun oi hi e he hb => ?_⟩
 ·rcases h2 with h2 | h2
  ·exact .inl (masks_spec h2)
  ·rw [hi, hj] at h2
   simp only [Bool.and_eq_true] at h2
   exact .inr h2
 ·rw [hi] at h3
  simp only [Array.all_eq_true_iff_forall_mem, Bool.or_eq_true, Bool.not_eq_true'] at h3
  exact nbeq_ne ((h3 e he).resolve_left (by simp [hb]))
theorem mixOKG_spec {ks p : List Nat} (h : mixOKG md ops ks p = true) : Region.noSelect ops = true ∧ p.length = ops.size ∧ (∀ q, q < ops.size → q ∈ p) ∧
  (∀ i ∈ p, i < ops.size ∧ ∀ oi, ops[i]? = some oi → ∀ e ∈ oi.after, Region.binds md e = true → e.on ≠ i ∧ e.on < ops.size) ∧ p.Pairwise (PairG md ops ks) := by
 unfold mixOKG at h
 simp only [Bool.and_eq_true, List.all_eq_true, decide_eq_true_eq] at h
 obtain ⟨⟨⟨h1, h2⟩, h7⟩, h3, h4⟩ := h
 refine ⟨h1, Nat.eq_of_beq_eq_true h2, fun q hq => ?_, fun i hi => ⟨(h3 i hi).1, fun oi hoi e he hb => ?_⟩, (pairsOK_spec h4).imp pairOKG_spec⟩
 ·obtain ⟨r, hr, hqr⟩ := List.any_eq_true.1 (h7 q (List.mem_range.2 hq))
  rw [Nat.eq_of_beq_eq_true hqr]; exact hr
 have h5 := (h3 i hi).2
 rw [hoi] at h5
 simp only [Array.all_eq_true_iff_forall_mem, Bool.or_eq_true, Bool.and_eq_true, Bool.not_eq_true', decide_eq_true_eq] at h5
 have h6 := (h5 e he).resolve_left (by simp [hb])
 exact ⟨nbeq_ne h6.1, h6.2⟩
def isN (k : Nat) : Prop := k = 3 ∨ k = 6
def MixG (P : Program) (ops : Array Oper) (w0 : World) (HB : List Ent) (K : Nat → Nat) (RR : Nat → Value → List Ent → Prop) (T : Act → World → Prop) : List Nat → Act → List Ent → List GEnt → Prop
 | [], a, X, D => ∀ w, StG w0 (HB ++ X) D w → T a w
 | i :: is, a, X, D => ∃ o, ops[i]? = some o ∧ (
   (K i < 2 ∧ ∃ v, ValG P ops w0 HB (K i) X o v a ∧ MixG P ops w0 HB K RR T is (a.put o.dst v) X D) ∨
   (isN (K i) ∧ (∀ Z w, Fresh w0 Z → St w0 (HB ++ zOf (K i) X Z) w → MakesL P ops o a (RR i) w) ∧ ∀ v E, Fresh w0 E → RR i v E → MixG P ops w0 HB K RR T is (a.put o.dst v) (X ++ E) D) ∨
   (K i = 5 ∧ ∃ R, (∀ w, MakesG P ops o a R w) ∧ ∀ v d, w0.heap.size ≤ d.g → R v d → MixG P ops w0 HB K RR T is (a.put o.dst v) X (d :: D)) ∨
   (K i = 4 ∧ ∃ v D', MarksG P ops w0 D D' o v a ∧ MixG P ops w0 HB K RR T is (a.put o.dst v) X D') ∨
   (K i = 8 ∧ ∃ R, (∀ w, StG w0 (HB ++ X) D w → MakesL P ops o a R w) ∧ ∀ v E, Fresh w0 E → R v E → MixG P ops w0 HB K RR T is (a.put o.dst v) (X ++ E) D))
theorem MixG.perm {K : Nat → Nat} {RR : Nat → Value → List Ent → Prop} {T : Act → World → Prop} : ∀ (is : List Nat) (a : Act) (X X' : List Ent) (D : List GEnt), X.Perm X' → MixG P ops w0 HB K RR T is a X D → MixG P ops w0 HB K RR T is a X' D
 | [], a, X, X', D, hp, h => fun w hs => h w (hs.perm (List.Perm.append_left HB hp.symm))
 | i :: is, a, X, X', D, hp, h => by
  obtain ⟨o, ho, h⟩ := h
  refine ⟨o, ho, ?_⟩
  rcases h with ⟨h1, v, h2, h3⟩ | ⟨h1, h2, h3⟩ | ⟨h1, R, h2, h3⟩ | ⟨h1, v, D', h2, h3⟩ | ⟨h1, R, h2, h3⟩
  ·exact .inl ⟨h1, v, h2.perm hp, MixG.perm is _ X X' _ hp h3⟩
  ·exact .inr (.inl ⟨h1, fun Z w hZ hw => h2 Z w hZ (hw.perm (List.Perm.append_left HB (zOf_perm hp.symm))), fun v E hE hR => MixG.perm is _ _ _ _ (List.Perm.append_right E hp) (h3 v E hE hR)⟩)
  ·exact .inr (.inr (.inl ⟨h1, R, h2, fun v d hd hR => MixG.perm is _ _ _ _ hp (h3 v d hd hR)⟩))
  ·exact .inr (.inr (.inr (.inl ⟨h1, v, D', h2, MixG.perm is _ _ _ _ hp h3⟩)))
  ·exact .inr (.inr (.inr (.inr ⟨h1, R, fun w hw => h2 w (hw.perm (List.Perm.append_left HB hp.symm)), fun v E hE hR => MixG.perm is _ _ _ _ (List.Perm.append_right E hp) (h3 v E hE hR)⟩)))
theorem compatG_01 {i j : Nat} (h : compatG i j = true) (hj : j < 2) : i < 2 ∨ i = 4 := by
 unfold compatG at h
 match j, hj with
 | 0, _ => simp at h; omega
 | 1, _ => simp at h; omega
theorem compatG_45 {i j : Nat} (hj : j = 4 ∨ j = 5) (h : compatG i j = true) : i < 2 := by
 rcases hj with rfl | rfl <;> (simp [compatG] at h; omega)
theorem compatG_N {i j : Nat} (hj : isN j) (h : compatG i j = true) : i < 2 ∨ (isN i ∧ j = 3) ∨ i = 4 ∨ i = 5 := by
 unfold isN at *
 rcases hj with rfl | rfl <;> (simp [compatG] at h; omega)
theorem compatG_8 {i : Nat} (h : compatG i 8 = true) : False := by simp [compatG] at h
theorem MixG.first01 {K : Nat → Nat} {RR : Nat → Value → List Ent → Prop} {T : Act → World → Prop} (hsel : ∀ (j : Nat) (o : Oper) cs b, ops[j]? = some o → o.op ≠ .select cs b) {j : Nat} {oj : Oper} (hj : ops[j]? = some oj) (hk : K j < 2) (post : List Nat) :
  ∀ (pre : List Nat) (a : Act) (X : List Ent) (D : List GEnt), (∀ i oi, i ∈ pre → ops[i]? = some oi → oi.apart ops oj = true ∧ compatG (K i) (K j) = true) → MixG P ops w0 HB K RR T (pre ++ j :: post) a X D →
   ∃ v, ValG P ops w0 HB (K j) X oj v a ∧ MixG P ops w0 HB K RR T (pre ++ post) (a.put oj.dst v) X D
 | [], a, X, D, _, h => by
  obtain ⟨o, ho, h⟩ := h
  rw [hj] at ho; cases ho
  rcases h with ⟨_, v, h2, h3⟩ | ⟨h1, _⟩ | ⟨h1, _⟩ | ⟨h1, _⟩ | ⟨h1, _⟩
  ·exact ⟨v, h2, h3⟩
  all_goals first | omega | (unfold isN at *; omega)
 | i :: pre, a, X, D, hap, h => by
  obtain ⟨oi, hi, h⟩ := h
  obtain ⟨hap1, hcomp⟩ := hap i oi List.mem_cons_self hi
  obtain ⟨h1, h2, h3⟩ := Oper.apart_spec hap1
  have hap' := fun k ok hk => hap k ok (List.mem_cons_of_mem _ hk)
  have hc := compatG_01 hcomp hk
  rcases h with ⟨hki, vi, hf, hs⟩ | ⟨hki, _⟩ | ⟨hki, _⟩ | ⟨hki, vi, Di, hw, hs⟩ | ⟨hki, _⟩
  ·obtain ⟨vj, hfj, hsj⟩ := MixG.first01 hsel hj hk post pre (a.put oi.dst vi) X D hap' hs
   exact ⟨vj, hfj.of_same (execOp_put oj (fun cs b => hsel j oj cs b hj) a oi.dst vi h1).symm (wanted_put oj a oi.dst vi h1).symm, oi, hi,
    .inl ⟨hki, vi, hf.of_same (execOp_put oi (fun cs b => hsel i oi cs b hi) a oj.dst vj h3) (wanted_put oi a oj.dst vj h3), by rw [← Act.put_comm a vi vj h2]; exact hsj⟩⟩
  ·unfold isN at hki; omega
  ·omega
  ·obtain ⟨vj, hfj, hsj⟩ := MixG.first01 hsel hj hk post pre (a.put oi.dst vi) X Di hap' hs
   exact ⟨vj, hfj.of_same (execOp_put oj (fun cs b => hsel j oj cs b hj) a oi.dst vi h1).symm (wanted_put oj a oi.dst vi h1).symm, oi, hi,
    .inr (.inr (.inr (.inl ⟨hki, vi, Di, hw.of_same (execOp_put oi (fun cs b => hsel i oi cs b hi) a oj.dst vj h3) (wanted_put oi a oj.dst vj h3), by rw [← Act.put_comm a vi vj h2]; exact hsj⟩)))⟩
  ·omega
theorem MixG.first45 {K : Nat → Nat} {RR : Nat → Value → List Ent → Prop} {T : Act → World → Prop} (hsel : ∀ (j : Nat) (o : Oper) cs b, ops[j]? = some o → o.op ≠ .select cs b) {j : Nat} {oj : Oper} (hj : ops[j]? = some oj) (hk : K j = 4 ∨ K j = 5) (post : List Nat) :
  ∀ (pre : List Nat) (a : Act) (X : List Ent) (D : List GEnt), (∀ i oi, i ∈ pre → ops[i]? = some oi → oi.apart ops oj = true ∧ compatG (K i) (K j) = true) → MixG P ops w0 HB K RR T (pre ++ j :: post) a X D →
   (∃ R, (∀ w, MakesG P ops oj a R w) ∧ ∀ v d, w0.heap.size ≤ d.g → R v d → MixG P ops w0 HB K RR T (pre ++ post) (a.put oj.dst v) X (d :: D)) ∨
   (∃ v D', MarksG P ops w0 D D' oj v a ∧ MixG P ops w0 HB K RR T (pre ++ post) (a.put oj.dst v) X D')
 | [], a, X, D, _, h => by
  obtain ⟨o, ho, h⟩ := h
  rw [hj] at ho; cases ho
  rcases h with ⟨h1, _⟩ | ⟨h1, _⟩ | ⟨_, R, h2, h3⟩ | ⟨_, v, D', h2, h3⟩ | ⟨h1, _⟩
  ·omega
  ·unfold isN at h1; omega
  ·exact .inl ⟨R, h2, h3⟩
  ·exact .inr ⟨v, D', h2, h3⟩
  ·omega
 | i :: pre, a, X, D, hap, h => by
  obtain ⟨oi, hi, h⟩ := h
  obtain ⟨hap1, hcomp⟩ := hap i oi List.mem_cons_self hi
  obtain ⟨h1, h2, h3⟩ := Oper.apart_spec hap1
  have hap' := fun k ok hk => hap k ok (List.mem_cons_of_mem _ hk)
  have hc := compatG_45 hk hcomp
  have ej := fun v => (execOp_put oj (fun cs b => hsel j oj cs b hj) a oi.dst v h1).symm
  have wj := fun v => (wanted_put oj a oi.dst v h1).symm
  have ei := fun v => execOp_put oi (fun cs b => hsel i oi cs b hi) a oj.dst v h3
  have wi := fun v => wanted_put oi a oj.dst v h3
  rcases h with ⟨hki, vi, hf, hs⟩ | ⟨hki, _⟩ | ⟨hki, _⟩ | ⟨hki, _⟩ | ⟨hki, _⟩
  ·rcases MixG.first45 hsel hj hk post pre (a.put oi.dst vi) X D hap' hs with ⟨R, hm, hsj⟩ | ⟨vj, Dj, hm, hsj⟩
   ·exact .inl ⟨R, fun w => (hm w).of_same (ej vi) (wj vi), fun v d hd hR => ⟨oi, hi, .inl ⟨hki, vi, hf.of_same (ei v) (wi v), by rw [← Act.put_comm a vi v h2]; exact hsj v d hd hR⟩⟩⟩
   ·exact .inr ⟨vj, Dj, hm.of_same (ej vi) (wj vi), oi, hi, .inl ⟨hki, vi, hf.of_same (ei vj) (wi vj), by rw [← Act.put_comm a vi vj h2]; exact hsj⟩⟩
  ·unfold isN at hki; omega
  ·omega
  ·omega
  ·omega
theorem MixG.firstN {K : Nat → Nat} {RR : Nat → Value → List Ent → Prop} {T : Act → World → Prop} (hsel : ∀ (j : Nat) (o : Oper) cs b, ops[j]? = some o → o.op ≠ .select cs b) {j : Nat} {oj : Oper} (hj : ops[j]? = some oj) (hk : isN (K j)) (post : List Nat) :
  ∀ (pre : List Nat) (a : Act) (X : List Ent) (D : List GEnt), (∀ i oi, i ∈ pre → ops[i]? = some oi → oi.apart ops oj = true ∧ compatG (K i) (K j) = true) → MixG P ops w0 HB K RR T (pre ++ j :: post) a X D →
   ((∃ Z w, Fresh w0 (X ++ Z) ∧ St w0 (HB ++ (X ++ Z)) w) → ∀ Z w, Fresh w0 Z → St w0 (HB ++ zOf (K j) X Z) w → MakesL P ops oj a (RR j) w) ∧
    ∀ v E, Fresh w0 E → RR j v E → MixG P ops w0 HB K RR T (pre ++ post) (a.put oj.dst v) (X ++ E) D
 | [], a, X, D, _, h => by
  obtain ⟨o, ho, h⟩ := h
  rw [hj] at ho; cases ho
  rcases h with ⟨h1, _⟩ | ⟨_, h2, h3⟩ | ⟨h1, _⟩ | ⟨h1, _⟩ | ⟨h1, _⟩
  ·unfold isN at hk; omega
  ·exact ⟨fun _ => h2, h3⟩
  all_goals (unfold isN at hk; omega)
 | i :: pre, a, X, D, hap, h => by
  obtain ⟨oi, hi, h⟩ := h
  obtain ⟨hap1, hcomp⟩ := hap i oi List.mem_cons_self hi
  obtain ⟨h1, h2, h3⟩ := Oper.apart_spec hap1
  have hap' := fun k ok hk => hap k ok (List.mem_cons_of_mem _ hk)
  have hc := compatG_N hk hcomp
  have ej := fun v => (execOp_put oj (fun cs b => hsel j oj cs b hj) a oi.dst v h1).symm
  have wj := fun v => (wanted_put oj a oi.dst v h1).symm
  have ei := fun v => execOp_put oi (fun cs b => hsel i oi cs b hi) a oj.dst v h3
  have wi := fun v => wanted_put oi a oj.dst v h3
  rcases h with ⟨hki, vi, hf, hs⟩ | ⟨hki, hm, hs⟩ | ⟨hki, R, hm, hs⟩ | ⟨hki, vi, Di, hw, hs⟩ | ⟨hki, _⟩
  ·obtain ⟨hmj, hsj⟩ := MixG.firstN hsel hj hk post pre (a.put oi.dst vi) X D hap' hs
   refine ⟨fun hex Z w hZ hst => (hmj hex Z w hZ hst).of_same (ej vi) (wj vi), fun v E hE hR => ⟨oi, hi, .inl ⟨hki, vi, ?_, ?_⟩⟩⟩
   ·exact (hf.of_same (ei v) (wi v)).more hE
   ·rw [← Act.put_comm a vi v h2]; exact hsj v E hE hR
  ·have rec_ := fun v E (hE : Fresh w0 E) (hR : RR i v E) => MixG.firstN hsel hj hk post pre (a.put oi.dst v) (X ++ E) D hap' (hs v E hE hR)
   have hc2 : K j ≠ 6 := by unfold isN at *; omega
   refine ⟨fun hex Z w hZ hst => ?_, fun v E hE hR => ⟨oi, hi, .inr (.inl ⟨hki, fun Z w hZ hst => ?_, fun vi Ei hEi hRi => ?_⟩)⟩⟩
   ·obtain ⟨Z1, w1, hZ1, hs1⟩ := hex
    have hone : ∃ v E w', RR i v E ∧ Fresh w1 E ∧ St w1 E w' := by
     by_cases h6 : K i = 6
     ·refine (hm Z1 w1 (fun e he => hZ1 e (List.mem_append.2 (.inr he))) ?_).one
      unfold zOf; rw [if_pos h6]; exact hs1
     ·refine (hm (X ++ Z1) w1 hZ1 ?_).one
      unfold zOf; rw [if_neg h6]; exact hs1
    obtain ⟨vi, Ei, w', hRi, hEi, hst'⟩ := hone
    have hEi0 : Fresh w0 Ei := fun e he => Nat.le_trans hs1.size (hEi e he)
    have hall := st_call hs1 hst' hEi
    have hex' : ∃ Z w, Fresh w0 ((X ++ Ei) ++ Z) ∧ St w0 (HB ++ ((X ++ Ei) ++ Z)) w := by
     refine ⟨Z1, w', fun e he => ?_, hall.perm ?_⟩
     ·simp only [List.append_assoc, List.mem_append] at he
      rcases he with he | he | he
      ·exact hZ1 e (List.mem_append.2 (.inl he))
      ·exact hEi0 e he
      ·exact hZ1 e (List.mem_append.2 (.inr he))
     ·simp only [List.append_assoc]
      exact List.Perm.append_left HB (List.Perm.append_left X List.perm_append_comm)
    refine ((rec_ vi Ei hEi0 hRi).1 hex' Z w hZ ?_).of_same (ej vi) (wj vi)
    unfold zOf at hst ⊢
    rw [if_neg hc2] at hst ⊢; exact hst
   ·by_cases h6 : K i = 6
    ·unfold zOf at hst; rw [if_pos h6] at hst
     refine (hm (E ++ Z) w (hE.app hZ) ?_).of_same (ei v) (wi v)
     unfold zOf; rw [if_pos h6, ← List.append_assoc X]; exact hst
    ·unfold zOf at hst; rw [if_neg h6] at hst
     refine (hm Z w hZ ?_).of_same (ei v) (wi v)
     unfold zOf; rw [if_neg h6]; exact hst
   ·have := (rec_ vi Ei hEi hRi).2 v E hE hR
    rw [Act.put_comm a vi v h2] at this
    refine MixG.perm _ _ _ _ _ ?_ this
    rw [List.append_assoc, List.append_assoc]
    exact List.Perm.append_left X List.perm_append_comm
  ·have rec_ := fun v d (hd : w0.heap.size ≤ d.g) (hR : R v d) => MixG.firstN hsel hj hk post pre (a.put oi.dst v) X (d :: D) hap' (hs v d hd hR)
   refine ⟨fun hex Z w hZ hst => ?_, fun v E hE hR => ⟨oi, hi, .inr (.inr (.inl ⟨hki, R, fun w => (hm w).of_same (ei v) (wi v), fun vi d hd hRi => ?_⟩))⟩⟩
   ·obtain ⟨Z1, w1, hZ1, hs1⟩ := hex
    obtain ⟨⟨vi, d, w', _, hRi, hd, _, _⟩, _⟩ := hm w1
    exact ((rec_ vi d (Nat.le_trans hs1.size hd) hRi).1 ⟨Z1, w1, hZ1, hs1⟩ Z w hZ hst).of_same (ej vi) (wj vi)
   ·have := (rec_ vi d hd hRi).2 v E hE hR
    rw [Act.put_comm a vi v h2] at this; exact this
  ·obtain ⟨hmj, hsj⟩ := MixG.firstN hsel hj hk post pre (a.put oi.dst vi) X Di hap' hs
   exact ⟨fun hex Z w hZ hst => (hmj hex Z w hZ hst).of_same (ej vi) (wj vi), fun v E hE hR => ⟨oi, hi, .inr (.inr (.inr (.inl ⟨hki, vi, Di, hw.of_same (ei v) (wi v), by rw [← Act.put_comm a vi v h2]; exact hsj v E hE hR⟩)))⟩⟩
  ·unfold isN at *; omega
def kindsOKG (ks p : List Nat) : Bool := p.all fun i => Nat.blt (ks.getD i 2) 2 || (Nat.beq (ks.getD i 2) 3 || Nat.beq (ks.getD i 2) 6) || (Nat.beq (ks.getD i 2) 4 || Nat.beq (ks.getD i 2) 5) || Nat.beq (ks.getD i 2) 8
theorem kindsOKG_spec {ks p : List Nat} (h : kindsOKG ks p = true) : ∀ i ∈ p, ks.getD i 2 < 2 ∨ isN (ks.getD i 2) ∨ (ks.getD i 2 = 4 ∨ ks.getD i 2 = 5) ∨ ks.getD i 2 = 8 := fun i hi => by
 unfold kindsOKG at h
 have := List.all_eq_true.1 h i hi
 simp only [Bool.or_eq_true, Nat.blt_eq] at this
 unfold isN
 rcases this with ((h1 | h1 | h1) | h1 | h1) | h1
 ·exact .inl h1
 ·exact .inr (.inl (.inl (Nat.eq_of_beq_eq_true h1)))
 ·exact .inr (.inl (.inr (Nat.eq_of_beq_eq_true h1)))
 ·exact .inr (.inr (.inl (.inl (Nat.eq_of_beq_eq_true h1))))
 ·exact .inr (.inr (.inl (.inr (Nat.eq_of_beq_eq_true h1))))
 ·exact .inr (.inr (.inr (Nat.eq_of_beq_eq_true h1)))
theorem wpAny_of_mixG {Q : Exit → Act → World → Prop} {RR : Nat → Value → List Ent → Prop} {ks p : List Nat} (hks : ∀ i ∈ p, ks.getD i 2 < 2 ∨ isN (ks.getD i 2) ∨ (ks.getD i 2 = 4 ∨ ks.getD i 2 = 5) ∨ ks.getD i 2 = 8) (hns : Region.noSelect ops = true) (hself : ∀ i ∈ p, i < ops.size ∧ ∀ oi, ops[i]? = some oi → ∀ e ∈ oi.after, Region.binds md e = true → e.on ≠ i ∧ e.on < ops.size) :
  ∀ (n : Nat) (is : List Nat) (listed : Array Bool) (a : Act) (w : World) (X : List Ent) (D : List GEnt), is.length = n → is.Pairwise (PairG md ops ks) → (∀ i ∈ is, i ∈ p) → Lists ops.size md ops is listed → MixG P ops w0 HB (ks.getD · 2) RR (Q .normal) is a X D → Fresh w0 X → StG w0 (HB ++ X) D w →
   wpAny P md ops Q n listed a w := by
 have hsel := Region.noSelect_spec hns
 intro n
 induction n with
 | zero =>
  intro is listed a w X D hlen _ _ hl hs hX hS
  obtain rfl : is = [] := List.length_eq_zero_iff.1 hlen
  exact wpAny_end hl (hs w hS)
 | succ n ih =>
  intro is listed a w X D hlen hpw hlt hl hs hX hS
  have hnd : is.Nodup := hpw.imp (fun h => h.1)
  refine ⟨fun hnone => ?_, fun j hj => ?_⟩
  ·exfalso
   obtain ⟨i, is', rfl⟩ : ∃ i is', is = i :: is' := by
    cases is with
    | nil => simp at hlen
    | cons i is' => exact ⟨i, is', rfl⟩
   obtain ⟨him, hafter⟩ := hself i (hlt i List.mem_cons_self)
   have hi : ops[i]? = some ops[i] := Array.getElem?_eq_getElem him
   have hmem : i ∈ Region.ready md ops listed := by
    rw [mem_ready]
    refine ⟨(hl.2.1 i him).2 (.inl List.mem_cons_self), _, hi, fun e he hb => ?_⟩
    obtain ⟨hne, hon⟩ := hafter _ hi e he hb
    rw [getD_false_of (by rw [hl.1]; exact hon), hl.2.1 e.on hon]
    rintro (h | h)
    ·rcases List.mem_cons.1 h with h | h
     ·exact hne h
     ·exact ((List.pairwise_cons.1 hpw).1 _ h).2.2 _ hi e he hb rfl
    ·omega
   rw [hnone] at hmem
   cases hmem
  ·obtain ⟨hjun, oj, hoj, hall⟩ := mem_ready.1 hj
   have hjs : j < ops.size := (Array.getElem?_eq_some_iff.1 hoj).1
   have hnw : ∀ i ∈ is, ¬ Before md ops j i := fun i hi hw => by
    have h1 := hw listed hl.2.2 (fun o ho' e he hb => by rw [hoj] at ho'; cases ho'; exact hall e he hb)
    have him := (hself i (hlt i hi)).1
    exact (getD_false_of (by rw [hl.1]; omega)).1 h1 ((hl.2.1 i him).2 (.inl hi))
   have hjin : j ∈ is := by
    rcases (hl.2.1 j hjs).1 hjun with h | h
    ·exact h
    ·omega
   obtain ⟨pre, post, rfl⟩ := List.append_of_mem hjin
   have hap : ∀ i oi, i ∈ pre → ops[i]? = some oi → oi.apart ops oj = true ∧ compatG (ks.getD i 2) (ks.getD j 2) = true := fun i oi hi hoi => by
    have hij := (List.pairwise_append.1 hpw).2.2 i hi j List.mem_cons_self
    rcases hij.2.1 oi oj hoi hoj with hw | hap
    ·exact absurd hw (hnw i (by simp [hi]))
    ·exact hap
   have hsub : (pre ++ post).Sublist (pre ++ j :: post) := List.Sublist.append_left (List.sublist_cons_self _ _) _
   have next := fun a' w' X' D' => ih (pre ++ post) (listed.setIfInBounds j true) a' w' X' D' (by simp at hlen ⊢; omega) (hpw.sublist hsub) (fun i hi => hlt i (hsub.subset hi)) (hl.next rfl hnd hjs (Nat.le_refl _) hj)
   have made : ∀ R : Value → List Ent → Prop, MakesL P ops oj a R w → (∀ v E, Fresh w0 E → R v E → MixG P ops w0 HB (ks.getD · 2) RR (Q .normal) (pre ++ post) (a.put oj.dst v) (X ++ E) D) → Go.wpOp P ops Q j (fun a w => wpAny P md ops Q n (listed.setIfInBounds j true) a w) a w := fun R hmk hs' => by
    obtain ⟨hr, hw⟩ := hmk
    unfold Go.wpOp
    simp only [hoj, hw, if_true, Oper.wp]
    refine .inl ?_
    have go : ∀ v E w', R v E → Fresh w E → St w E w' → wpAny P md ops Q n (listed.setIfInBounds j true) (a.put oj.dst v) w' := fun v E w' hR hE hw' => by
     have hE0 : Fresh w0 E := fun e he => Nat.le_trans hS.st.size (hE e he)
     refine next _ w' _ _ (hs' v E hE0 hR) (hX.app hE0) ?_
     rw [← List.append_assoc]; exact hS.call hw' hE
    rcases hr with ⟨v, E, w', hr, hR, hE, hw'⟩ | ⟨f, vs, hr, hc⟩
    ·rw [hr]; exact go v E w' hR hE hw'
    ·rw [hr]
     refine hc.mono ?_
     rintro e w'' ⟨v, E, rfl, hR, hE, hw'⟩
     exact go v E w'' hR hE hw'
   rcases hks j (hlt j hjin) with hk | hk | hk | hk
   ·obtain ⟨vj, ⟨hw, hf⟩, hs'⟩ := MixG.first01 (K := (ks.getD · 2)) hsel hoj hk post pre a X D hap hs
    have hone : OneG P oj vj a w := by
     by_cases hk0 : ks.getD j 2 = 0
     ·refine hf X w hX ?_
      rw [if_pos hk0]; exact hS.st
     ·refine hf [] w zA ?_
      rw [if_neg hk0, List.append_nil]; exact hS.st
    unfold Go.wpOp
    simp only [hoj, hw, if_true, Oper.wp]
    refine .inl ?_
    rcases hone with hr | ⟨f, vs, hr, hc⟩
    ·rw [hr]; exact next _ w X D hs' hX hS
    ·rw [hr]
     refine hc.mono ?_
     rintro e w'' ⟨rfl, hw'⟩
     refine next _ w'' X D hs' hX ?_
     have := hS.call hw' zA
     rwa [List.append_nil] at this
   ·obtain ⟨hf, hs'⟩ := MixG.firstN (K := (ks.getD · 2)) hsel hoj hk post pre a X D hap hs
    refine made _ ?_ hs'
    by_cases h6 : ks.getD j 2 = 6
    ·refine hf ⟨[], w, by rw [List.append_nil]; exact hX, by rw [List.append_nil]; exact hS.st⟩ [] w zA ?_
     unfold zOf; rw [if_pos h6, List.append_nil]; exact hS.st
    ·refine hf ⟨[], w, by rw [List.append_nil]; exact hX, by rw [List.append_nil]; exact hS.st⟩ X w hX ?_
     unfold zOf; rw [if_neg h6]; exact hS.st
   ·rcases MixG.first45 (K := (ks.getD · 2)) hsel hoj hk post pre a X D hap hs with ⟨R, hm, hs'⟩ | ⟨vj, D', ⟨hm, hw⟩, hs'⟩
    ·obtain ⟨⟨v, d, w', hr, hR, hd, hl', hw'⟩, hw⟩ := hm w
     unfold Go.wpOp
     simp only [hoj, hw, if_true, Oper.wp]
     refine .inl ?_
     rw [hr]
     have hd0 := Nat.le_trans hS.st.size hd
     have h0 := hS.call hw' zA
     rw [List.append_nil] at h0
     refine next _ w' X (d :: D) (hs' v d hd0 hR) hX ⟨h0.st, fun c hc => ?_⟩
     rcases List.mem_cons.1 hc with rfl | hc
     ·exact ⟨hl', hd0, fun e he => by have := (hS.st.has e he).lt; omega⟩
     ·exact h0.ds c hc
    ·obtain ⟨w', hr, hS'⟩ := hm w _ hS
     unfold Go.wpOp
     simp only [hoj, hw, if_true, Oper.wp]
     refine .inl ?_
     rw [hr]
     exact next _ w' X D' hs' hX hS'
   ·obtain rfl : pre = [] := by
     cases pre with
     | nil => rfl
     | cons i pre =>
      have him := (hself i (hlt i (by simp))).1
      have hcc := (hap i ops[i] List.mem_cons_self (Array.getElem?_eq_getElem him)).2
      rw [hk] at hcc
      exact (compatG_8 hcc).elim
    obtain ⟨o, ho, hseq⟩ := hs
    rw [hoj] at ho; cases ho
    rcases hseq with ⟨h1, _⟩ | ⟨h1, _⟩ | ⟨h1, _⟩ | ⟨h1, _⟩ | ⟨_, R, h2, h3⟩
    ·have h1' : ks.getD j 2 < 2 := h1
     omega
    ·have h1' : isN (ks.getD j 2) := h1
     unfold isN at h1'; omega
    ·have h1' : ks.getD j 2 = 5 := h1
     omega
    ·have h1' : ks.getD j 2 = 4 := h1
     omega
    ·exact made R (h2 w hS) h3
def MixMG (P : Program) (ops : Array Oper) (w0 : World) (HB : List Ent) (T : Act → World → Prop) : List Nat → List (Value → List Ent → Prop) → List Oper → Act → List Ent → List GEnt → Prop
 | [], [], [], a, X, D => ∀ w, StG w0 (HB ++ X) D w → T a w
 | k :: ks, r :: rs, o :: rest, a, X, D => (k < 2 ∧ ∃ v, ValG P ops w0 HB k X o v a ∧ MixMG P ops w0 HB T ks rs rest (a.put o.dst v) X D) ∨
   (isN k ∧ (∀ Z w, Fresh w0 Z → St w0 (HB ++ zOf k X Z) w → MakesL P ops o a r w) ∧ ∀ v E, Fresh w0 E → r v E → MixMG P ops w0 HB T ks rs rest (a.put o.dst v) (X ++ E) D) ∨
   (k = 5 ∧ ∃ R, (∀ w, MakesG P ops o a R w) ∧ ∀ v d, w0.heap.size ≤ d.g → R v d → MixMG P ops w0 HB T ks rs rest (a.put o.dst v) X (d :: D)) ∨
   (k = 4 ∧ ∃ v D', MarksG P ops w0 D D' o v a ∧ MixMG P ops w0 HB T ks rs rest (a.put o.dst v) X D') ∨
   (k = 8 ∧ ∃ R, (∀ w, StG w0 (HB ++ X) D w → MakesL P ops o a R w) ∧ ∀ v E, Fresh w0 E → R v E → MixMG P ops w0 HB T ks rs rest (a.put o.dst v) (X ++ E) D)
 | _, _, _, _, _, _ => False
theorem MixMG.seqp {T : Act → World → Prop} {l : List Oper} {ks : List Nat} {rs : List (Value → List Ent → Prop)} : ∀ (p : List Nat) (a : Act) (X : List Ent) (D : List GEnt), (∀ i ∈ p, i < l.length) → MixMG P l.toArray w0 HB T (pickK ks p) (pickRL rs p) (pickO l p) a X D →
  MixG P l.toArray w0 HB (ks.getD · 2) (rs.getD · (fun _ _ => False)) T p a X D
 | [], _, _, _, _, h => h
 | i :: is, a, X, D, hp, h => by
  have hlt := hp i List.mem_cons_self
  have hi : l[i]? = some l[i] := List.getElem?_eq_getElem hlt
  unfold pickO pickK pickRL at h
  rw [hi] at h
  have rec_ : ∀ a X D, MixMG P l.toArray w0 HB T (pickK ks is) (pickRL rs is) (pickO l is) a X D → MixG P l.toArray w0 HB (ks.getD · 2) (rs.getD · (fun _ _ => False)) T is a X D := fun a X D h => MixMG.seqp is a X D (fun j hj => hp j (List.mem_cons_of_mem _ hj)) h
  refine ⟨l[i], by rw [List.getElem?_toArray]; exact hi, ?_⟩
  rcases h with ⟨h1, v, h2, h3⟩ | ⟨h1, h2, h3⟩ | ⟨h1, R, h2, h3⟩ | ⟨h1, v, D', h2, h3⟩ | ⟨h1, R, h2, h3⟩
  ·exact .inl ⟨h1, v, h2, rec_ _ _ _ h3⟩
  ·exact .inr (.inl ⟨h1, h2, fun v E hE hR => rec_ _ _ _ (h3 v E hE hR)⟩)
  ·exact .inr (.inr (.inl ⟨h1, R, h2, fun v d hd hR => rec_ _ _ _ (h3 v d hd hR)⟩))
  ·exact .inr (.inr (.inr (.inl ⟨h1, v, D', h2, rec_ _ _ _ h3⟩)))
  ·exact .inr (.inr (.inr (.inr ⟨h1, R, h2, fun v E hE hR => rec_ _ _ _ (h3 v E hE hR)⟩)))
theorem wp_mixG {md0 : Md} {Q : Exit → Act → World → Prop} {id : Nat} {l : List Oper} {a : Act} {w : World} (hmix : P.follows .mixedOrders = true) (ks p : List Nat) (rs : List (Value → List Ent → Prop)) (hks : kindsOKG ks p = true) (ho : mixOKG .any l.toArray ks p = true)
  (hS : St w0 HB w.drew) (h : MixMG P l.toArray w0 HB (Q .normal) (pickK ks p) (pickRL rs p) (pickO l p) a [] []) (hok : OkR md0 l.toArray Q) : wpn md0 P (Code.region id l.toArray true) Q a w := by
 refine wpnFrom_start hok hmix ?_
 intro listed hl
 have hsz : l.toArray.size = l.length := by simp
 obtain ⟨hns, hlen, hall, hself, hpw⟩ := mixOKG_spec ho
 have := wpAny_of_mixG (P := P) (Q := Q) (ks := ks) (kindsOKG_spec hks) hns hself l.length p listed a w.drew [] [] (hlen.trans hsz) hpw (fun i hi => hi)
  ⟨hl.1, fun q hq => by
   rw [hl.2.1 q hq]
   have := hall q hq
   simp [this], hl.2.2⟩ (MixMG.seqp p a [] [] (fun i hi => by rw [← hsz]; exact (hself i hi).1) h) zA ⟨by rw [List.append_nil]; exact hS, fun d hd => by cases hd⟩
 rw [hsz, Nat.sub_zero]
 exact this
end
section
variable {P : Program} {ops : Array Oper} {Q : Exit → Act → World → Prop} {n : Sz} {w0 : World} {L L' : List (Nat × Value)} {HB X : List Ent} {D : List GEnt}
variable {o : Oper} {rest : List Oper} {v u : Value} {x y z : Operand} {k m j : Nat} {t t' e : TypeId} {ks : List Nat} {kd : IntKind} {r : Value → List Ent → Prop} {rs : List (Value → List Ent → Prop)}
def TG (P : Program) (ops : Array Oper) (Q : Exit → Act → World → Prop) (n : Sz) (w0 : World) (HB : List Ent) (ks : List Nat) (rs : List (Value → List Ent → Prop)) (rest : List Oper) (L : List (Nat × Value)) (X : List Ent) (D : List GEnt) : Prop :=
 ∀ a, Fr n L a → MixMG P ops w0 HB (Q .normal) ks rs rest a X D
theorem TC.mixG {id : Nat} {l : List Oper} (HB : List Ent) (hmix : P.follows .mixedOrders = true) (ks p : List Nat) (rs : List (Value → List Ent → Prop)) (hks : kindsOKG ks p = true) (ho : mixOKG .any l.toArray ks p = true)
  (h : TG P l.toArray Q n w0 HB (pickK ks p) (pickRL rs p) (pickO l p) L [] []) (hok : OkR n.md l.toArray Q := by exact trivial) : TC P Q n w0 (.region id l.toArray true) L HB :=
 fun a w hf hs => wp_mixG hmix ks p rs hks ho hs.drew (h a hf) hok
theorem TG.nil (h : TE Q .normal n w0 L (HB ++ X)) : TG P ops Q n w0 HB [] [] [] L X D := fun a hf w hs => h a w hf hs.st
theorem TG.free (hg : Wants n ops L o) (hi : inside n o.dst = true) (h : ∀ w0, Gets P n w0 o L [] v) (hr : TG P ops Q n w0 HB ks rs rest (put L o.dst v) X D) : TG P ops Q n w0 HB (0 :: ks) (r :: rs) (o :: rest) L X D :=
 fun a hf => .inl ⟨by decide, v, ⟨hg a hf, fun Z w _ _ => .inl (h w a w hf (St.refl w))⟩, hr _ (hf.put o.dst v hi)⟩
theorem TG.gets (hg : Wants n ops L o) (hi : inside n o.dst = true) (h : ∀ Z, Fresh w0 Z → Gets P n w0 o L (HB ++ (X ++ Z)) v) (hr : TG P ops Q n w0 HB ks rs rest (put L o.dst v) X D) : TG P ops Q n w0 HB (1 :: ks) (r :: rs) (o :: rest) L X D :=
 fun a hf => .inl ⟨by decide, v, ⟨hg a hf, fun Z w hZ hS => .inl (by rw [if_neg (by decide)] at hS; exact h Z hZ a w hf hS)⟩, hr _ (hf.put o.dst v hi)⟩
theorem TG.call0 {f : FuncId} {xs : List Operand} {ts : Array TypeId} {vs : List Value} (hg : Wants n ops L o) (hi : inside n o.dst = true) (h : Enters P f)
  (ho : o.op = .call { callee := .value (.func f), args := xs.toArray, argTypes := ts }) (hx : evs L xs = some vs)
  (hc : ∀ Z w, Fresh w0 Z → St w0 (HB ++ (X ++ Z)) w → Calls P f vs.toArray w fun e w' => e = .returned v ∧ St w [] w')
  (hr : TG P ops Q n w0 HB ks rs rest (put L o.dst v) X D) : TG P ops Q n w0 HB (1 :: ks) (r :: rs) (o :: rest) L X D :=
 fun a hf => .inl ⟨by decide, v, ⟨hg a hf, fun Z w hZ hS => .inr (by rw [if_neg (by decide)] at hS; exact ⟨f, vs.toArray, run_enter h ho hf hx, hc Z w hZ hS⟩)⟩, hr _ (hf.put o.dst v hi)⟩
theorem TG.call3 {ι : Type} {f : FuncId} {xs : List Operand} {ts : Array TypeId} {vs : List Value} {V : ι → Value} {R : ι → Prop} {E : ι → List Ent} (hg : Wants n ops L o) (hi : inside n o.dst = true) (h : Enters P f)
  (ho : o.op = .call { callee := .value (.func f), args := xs.toArray, argTypes := ts }) (hx : evs L xs = some vs)
  (hc : ∀ Z w, Fresh w0 Z → St w0 (HB ++ Z) w → Calls P f vs.toArray w fun e w' => ∃ i, e = .returned (V i) ∧ R i ∧ Fresh w (E i) ∧ St w (E i) w')
  (hr : ∀ i, R i → Fresh w0 (E i) → TG P ops Q n w0 HB ks rs rest (put L o.dst (V i)) (X ++ E i) D) : TG P ops Q n w0 HB (3 :: ks) ((fun v e => ∃ i, R i ∧ v = V i ∧ e = E i) :: rs) (o :: rest) L X D :=
 fun a hf => .inr (.inl ⟨.inl rfl, fun Z w hZ hs => ⟨.inr ⟨f, vs.toArray, run_enter h ho hf hx, (hc Z w hZ hs).mono fun e w' ⟨i, he, hR, hE, hs'⟩ => ⟨V i, E i, he, ⟨i, hR, rfl, rfl⟩, hE, hs'⟩⟩, hg a hf⟩,
  fun v e hE ⟨i, hR, h1, h2⟩ => by subst h1; subst h2; exact hr i hR hE _ (hf.put o.dst _ hi)⟩)
theorem TG.call6 {ι : Type} {f : FuncId} {xs : List Operand} {ts : Array TypeId} {vs : List Value} {V : ι → Value} {R : ι → Prop} {E : ι → List Ent} (hg : Wants n ops L o) (hi : inside n o.dst = true) (h : Enters P f)
  (ho : o.op = .call { callee := .value (.func f), args := xs.toArray, argTypes := ts }) (hx : evs L xs = some vs)
  (hc : ∀ Z w, Fresh w0 Z → St w0 (HB ++ (X ++ Z)) w → Calls P f vs.toArray w fun e w' => ∃ i, e = .returned (V i) ∧ R i ∧ Fresh w (E i) ∧ St w (E i) w')
  (hr : ∀ i, R i → Fresh w0 (E i) → TG P ops Q n w0 HB ks rs rest (put L o.dst (V i)) (X ++ E i) D) : TG P ops Q n w0 HB (6 :: ks) ((fun v e => ∃ i, R i ∧ v = V i ∧ e = E i) :: rs) (o :: rest) L X D :=
 fun a hf => .inr (.inl ⟨.inr rfl, fun Z w hZ hs => ⟨.inr ⟨f, vs.toArray, run_enter h ho hf hx, (hc Z w hZ hs).mono fun e w' ⟨i, he, hR, hE, hs'⟩ => ⟨V i, E i, he, ⟨i, hR, rfl, rfl⟩, hE, hs'⟩⟩, hg a hf⟩,
  fun v e hE ⟨i, hR, h1, h2⟩ => by subst h1; subst h2; exact hr i hR hE _ (hf.put o.dst _ hi)⟩)
theorem TG.call8 {ι : Type} {f : FuncId} {xs : List Operand} {ts : Array TypeId} {vs : List Value} {V : ι → Value} {R : ι → Prop} {E : ι → List Ent} (hg : Wants n ops L o) (hi : inside n o.dst = true) (h : Enters P f)
  (ho : o.op = .call { callee := .value (.func f), args := xs.toArray, argTypes := ts }) (hx : evs L xs = some vs)
  (hc : ∀ w, StG w0 (HB ++ X) D w → Calls P f vs.toArray w fun e w' => ∃ i, e = .returned (V i) ∧ R i ∧ Fresh w (E i) ∧ St w (E i) w')
  (hr : ∀ i, R i → Fresh w0 (E i) → TG P ops Q n w0 HB ks rs rest (put L o.dst (V i)) (X ++ E i) D) : TG P ops Q n w0 HB (8 :: ks) (r :: rs) (o :: rest) L X D :=
 fun a hf => .inr (.inr (.inr (.inr ⟨rfl, (fun v e => ∃ i, R i ∧ v = V i ∧ e = E i), fun w hs => ⟨.inr ⟨f, vs.toArray, run_enter h ho hf hx, (hc w hs).mono fun e w' ⟨i, he, hR, hE, hs'⟩ => ⟨V i, E i, he, ⟨i, hR, rfl, rfl⟩, hE, hs'⟩⟩, hg a hf⟩,
  fun v e hE ⟨i, hR, h1, h2⟩ => by subst h1; subst h2; exact hr i hR hE _ (hf.put o.dst _ hi)⟩)))
theorem run_buildS {len s : Nat} {ps : List (Nat × Operand)} {vs : List (Nat × Value)} {cells : Array Value} {zv : Value} {a : Act} {w : World} (hf : Fr n L a) (ho : o.op = .buildSlice t len ps.toArray)
  (h1 : P.underlying t = some (.slice e)) (hsz : (P.info? e).map (·.size) = some s) (hz : (P.info? e).bind (·.zero) = some zv) (hv : operVals L ps = some vs) (hlen : len * s ≤ 2 ^ 24) (hpos : (len * s = 0) = False)
  (hfill : Instr.fill (fun i => some (i * s, s)) ((Array.range (len * s)).map (zv.cells[· % zv.cells.size]!)) vs = some cells) :
  (execOp a.eval o).run P w = .ok (.value (.slice (some ⟨w.heap.size, 0, none⟩) len len)) (w.alloc (.cells cells e)) := by
 have hm := operVals_eval hf hv
 have hm2 : (ps.map fun (x : Nat × Operand) => match x with | (i, x) => (i, a.eval x)) = vs := hm
 simp only [execOp, ho]
 refine run_value ?_
 simp only [Instr.buildSlice, Sem.run_bind, run_under h1, Result.andThen_ok, run_size hsz, List.map_toArray, hm2]
 rw [if_neg (by omega), if_neg (by simp [hpos])]
 simp only [Sem.run_bind, run_zero hz, Result.andThen_ok, Sem.run_pure, hfill]
 simp [newRow, newObj, Sem.run_bind, Sem.run]
theorem TG.buildSlice {len s : Nat} {ps : List (Nat × Operand)} {vs : List (Nat × Value)} {cells : Array Value} {cs : List Value} {zv : Value} (hg : Wants n ops L o) (hi : inside n o.dst = true) (ho : o.op = .buildSlice t len ps.toArray)
  (h1 : P.underlying t = some (.slice e)) (hsz : (P.info? e).map (·.size) = some s) (hz : (P.info? e).bind (·.zero) = some zv) (hv : operVals L ps = some vs) (hlen : len * s ≤ 2 ^ 24) (hpos : (len * s = 0) = False)
  {tot : Nat} (hfill : Instr.fill (fun i => some (i * s, s)) ((Array.range (len * s)).map (zv.cells[· % zv.cells.size]!)) vs = some cells) (hcs : cells.toList = cs) (htot : cs.length = tot)
  (hr : ∀ g, w0.heap.size ≤ g → TG P ops Q n w0 HB ks rs rest (put L o.dst (.slice (some ⟨g, 0, none⟩) len len)) (X ++ [⟨g, e, cs, tot⟩]) D) :
  TG P ops Q n w0 HB (3 :: ks) ((fun v d => ∃ g, v = .slice (some ⟨g, 0, none⟩) len len ∧ d = [⟨g, e, cs, tot⟩]) :: rs) (o :: rest) L X D :=
 fun a hf => .inr (.inl ⟨.inl rfl, fun Z w hZ hs => by
  have hrun := run_buildS (w := w) hf ho h1 hsz hz hv hlen hpos hfill
  subst htot
  exact ⟨.inl ⟨_, _, _, hrun, ⟨_, rfl, rfl⟩, fresh_one (Nat.le_refl _), (St.refl w).alloc e cs cells hcs⟩, hg a hf⟩,
  fun v d hE ⟨g, h2, h3⟩ => by subst h2; subst h3; exact hr g (fresh_head hE) _ (hf.put o.dst _ hi)⟩)
theorem TG.build8 {len s : Nat} {ps : List (Nat × Operand)} {vs : List (Nat × Value)} {cells : Array Value} {cs : List Value} {zv : Value} (hg : Wants n ops L o) (hi : inside n o.dst = true) (ho : o.op = .buildSlice t len ps.toArray)
  (h1 : P.underlying t = some (.slice e)) (hsz : (P.info? e).map (·.size) = some s) (hz : (P.info? e).bind (·.zero) = some zv) (hv : operVals L ps = some vs) (hlen : len * s ≤ 2 ^ 24) (hpos : (len * s = 0) = False)
  {tot : Nat} (hfill : Instr.fill (fun i => some (i * s, s)) ((Array.range (len * s)).map (zv.cells[· % zv.cells.size]!)) vs = some cells) (hcs : cells.toList = cs) (htot : cs.length = tot)
  (hr : ∀ g, w0.heap.size ≤ g → TG P ops Q n w0 HB ks rs rest (put L o.dst (.slice (some ⟨g, 0, none⟩) len len)) (X ++ [⟨g, e, cs, tot⟩]) D) : TG P ops Q n w0 HB (8 :: ks) (r :: rs) (o :: rest) L X D :=
 fun a hf => .inr (.inr (.inr (.inr ⟨rfl, (fun v d => ∃ g, v = .slice (some ⟨g, 0, none⟩) len len ∧ d = [⟨g, e, cs, tot⟩]), fun w hs => by
  have hrun := run_buildS (w := w) hf ho h1 hsz hz hv hlen hpos hfill
  subst htot
  exact ⟨.inl ⟨_, _, _, hrun, ⟨_, rfl, rfl⟩, fresh_one (Nat.le_refl _), (St.refl w).alloc e cs cells hcs⟩, hg a hf⟩,
  fun v d hE ⟨g, h2, h3⟩ => by subst h2; subst h3; exact hr g (fresh_head hE) _ (hf.put o.dst _ hi)⟩)))
theorem TG.buildG {len s : Nat} {ps : List (Nat × Operand)} {vs : List (Nat × Value)} {cells : Array Value} {cs : List Value} {zv : Value} (hg : Wants n ops L o) (hi : inside n o.dst = true) (ho : o.op = .buildSlice t len ps.toArray)
  (h1 : P.underlying t = some (.slice e)) (hsz : (P.info? e).map (·.size) = some s) (hz : (P.info? e).bind (·.zero) = some zv) (hv : operVals L ps = some vs) (hlen : len * s ≤ 2 ^ 24) (hpos : (len * s = 0) = False)
  (hfill : Instr.fill (fun i => some (i * s, s)) ((Array.range (len * s)).map (zv.cells[· % zv.cells.size]!)) vs = some cells) (hcs : cells = cs.toArray)
  (hr : ∀ g, w0.heap.size ≤ g → TG P ops Q n w0 HB ks rs rest (put L o.dst (.slice (some ⟨g, 0, none⟩) len len)) X (⟨g, e, cs, (0, 0)⟩ :: D)) : TG P ops Q n w0 HB (5 :: ks) (r :: rs) (o :: rest) L X D :=
 fun a hf => .inr (.inr (.inl ⟨rfl, fun v d => ∃ g, v = .slice (some ⟨g, 0, none⟩) len len ∧ d = ⟨g, e, cs, (0, 0)⟩, fun w => by
  have hrun := run_buildS (w := w) hf ho h1 hsz hz hv hlen hpos hfill
  subst hcs
  refine ⟨⟨_, ⟨w.heap.size, e, cs, (0, 0)⟩, _, hrun, ⟨_, rfl, rfl⟩, Nat.le_refl _, heap_alloc_new w _, ?_⟩, hg a hf⟩
  exact ((St.refl w).alloc e cs cs.toArray (by simp)).drop (Nat.le_refl _),
  fun v d hd ⟨g, h2, h3⟩ => by subst h2; subst h3; exact hr g hd _ (hf.put o.dst _ hi)⟩))
theorem st_free {H : List Ent} {w : World} {g k : Nat} (h : St w0 H w) (hg : w0.heap.size ≤ g) (hne : ∀ e ∈ H, e.g ≠ g) : St w0 H (w.freeze ⟨g, k, none⟩ 1) := by
 have hother : ∀ b, b ≠ g → (w.freeze ⟨g, k, none⟩ 1).heap[b]? = w.heap[b]? := by
  intro b hb
  unfold World.freeze
  rw [if_neg (by omega)]
  simp [Array.getElem?_modify, hb.symm]
 have hsize : (w.freeze ⟨g, k, none⟩ 1).heap.size = w.heap.size := by
  unfold World.freeze
  rw [if_neg (by omega)]
  simp
 exact ⟨by unfold World.freeze; rw [if_neg (by omega)]; exact h.os, by unfold World.freeze; rw [if_neg (by omega)]; exact h.tape, by unfold World.freeze; rw [if_neg (by omega)]; exact h.output, by rw [hsize]; exact h.size,
  fun c hc => (h.has c hc).of_block (hother _ (hne c hc)), fun b hb hne' => (hother b (by omega)).trans (h.old b hb hne'), h.apart⟩
theorem TG.mark {g ln cp : Nat} {cs : List Value} (hg : Wants n ops L o) (hi' : inside n o.dst = true) (ho : o.op = .convert t t x) (h1 : P.underlying t = some (.slice e)) (h2 : P.underlying e = some (.int .u8))
  (hx : ev L x = some (.slice (some ⟨g, 0, none⟩) ln cp))
  (hr : TG P ops Q n w0 HB ks rs rest (put L o.dst (.slice (some ⟨g, 0, none⟩) ln cp)) X [⟨g, e, cs, (cs.length, cs.length + 1)⟩]) : TG P ops Q n w0 HB (4 :: ks) (r :: rs) (o :: rest) L X [⟨g, e, cs, (0, 0)⟩] :=
 fun a hf => .inr (.inr (.inr (.inl ⟨rfl, _, [⟨g, e, cs, (cs.length, cs.length + 1)⟩], ⟨fun w H hs => by
  obtain ⟨hl, h3, h4⟩ := hs.ds _ (List.mem_singleton.2 rfl)
  have hc1 : w.heap[g]? = some (.cells cs.toArray e (0, 0)) := hl
  have hsh : w.shape? g = some (e, cs.length) := by simp [World.shape?, hc1]
  refine ⟨w.freeze ⟨g, cs.length, none⟩ 1, ?_, st_free hs.st h3 h4, fun d hd => ?_⟩
  ·simp only [execOp, ho, hf.eval hx]
   refine run_value ?_
   simp [convert, Sem.run_bind, run_under h1, run_under h2, markStringish, shape, Sem.run, hsh, freeze]
  ·rw [List.mem_singleton.1 hd]
   exact ⟨frozen_mark hc1, h3, h4⟩, hg a hf⟩, hr _ (hf.put o.dst _ hi')⟩)))
theorem GEnt.src {d : GEnt} {w : World} {W : List Int} {m : Nat} (h : d.lies w) (hc : d.cs = W.map (int kd)) (hm : W.length = m) : Src w (some ⟨d.g, 0, none⟩) m kd W := by
 refine ⟨hm, .inr ⟨d.g, 0, rfl, h.lt, fun j hj => ?_⟩⟩
 have h2 : w.heap[d.g]? = some (.cells d.cs.toArray d.t d.fl) := h
 rw [hc] at h2
 have h3 : (W.map (int kd))[j]? = some (.int kd (W.getD j 0)) := qf (by omega)
 simp [World.cell?, h2] at h3 ⊢
 exact h3
end
theorem St.madeB {w0 w w' : World} {HB H : List Ent} {e : Ent} (hs : St w0 (HB ++ H) w) (hw : St w [e] w') (hE : w.heap.size ≤ e.g) : St w0 (HB ++ e :: H) w' := (hs.made hw hE).perm List.perm_middle.symm
theorem seg_store {A B C V : List Value} {a : Nat} (ha : A.length = a) (hb : B.length = V.length) : (A ++ (B ++ C)).take a ++ V ++ (A ++ (B ++ C)).drop (a + V.length) = A ++ (V ++ C) := by
 subst ha
 rw [List.take_left, ← hb, ← List.drop_drop, List.drop_left, List.drop_left, List.append_assoc]
theorem seg_store2 {A0 A B C V : List Value} {a : Nat} (ha : A0.length + A.length = a) (hb : B.length = V.length) : (A0 ++ (A ++ (B ++ C))).take a ++ V ++ (A0 ++ (A ++ (B ++ C))).drop (a + V.length) = A0 ++ (A ++ (V ++ C)) := by
 have := seg_store (A := A0 ++ A) (B := B) (C := C) (V := V) (a := a) (by rw [List.length_append]; exact ha) hb
 simpa only [List.append_assoc] using this
structure PV where
 A : Option Addr
 m : Nat
 c : Nat
 B : List Int
def catP (Vs : List PV) : List Int := Vs.flatMap (·.B)
def Reads (w0 : World) (H : List Ent) (A : Option Addr) (m : Nat) (B : List Int) : Prop := ∀ w Hx, Fresh w0 Hx → St w0 (H ++ Hx) w → Src w A m .u8 B
def PartsF (w0 : World) (H : List Ent) (A : Option Addr) (m : Nat) (Vs : List PV) : Prop :=
 Vs.length = m ∧ (m = 0 ∨ ∃ b off, A = some ⟨b, off, none⟩ ∧ ∀ w Hx, Fresh w0 Hx → St w0 (H ++ Hx) w → ∀ (i : Nat) (x : PV), Vs[i]? = some x → w.cell? ⟨b, off + i, none⟩ = some (.slice x.A x.m x.c)) ∧
  ∀ (i : Nat) (x : PV), Vs[i]? = some x → x.B.length = x.m ∧ Reads w0 H x.A x.m x.B
theorem catP_take {Vs : List PV} {i : Nat} {x : PV} (h : Vs[i]? = some x) : catP (Vs.take (i + 1)) = catP (Vs.take i) ++ x.B := by
 obtain ⟨hi, rfl⟩ := List.getElem?_eq_some_iff.1 h
 unfold catP
 rw [List.take_succ_eq_append_getElem hi, List.flatMap_append]; simp
theorem catP_le {Vs : List PV} {i : Nat} : (catP (Vs.take i)).length ≤ (catP Vs).length := by
 have h : catP Vs = catP (Vs.take i) ++ catP (Vs.drop i) := by unfold catP; rw [← List.flatMap_append, List.take_append_drop]
 rw [h, List.length_append]; omega
theorem PartsF.some_ {w0 : World} {H : List Ent} {A : Option Addr} {m i : Nat} {Vs : List PV} (h : PartsF w0 H A m Vs) (hi : i < m) : ∃ b off, A = some ⟨b, off, none⟩ ∧ ∀ w Hx, Fresh w0 Hx → St w0 (H ++ Hx) w → ∀ (i : Nat) (x : PV), Vs[i]? = some x → w.cell? ⟨b, off + i, none⟩ = some (.slice x.A x.m x.c) := h.2.1.resolve_left (by omega)
theorem PartsF.get {w0 : World} {H : List Ent} {A : Option Addr} {m i : Nat} {Vs : List PV} (h : PartsF w0 H A m Vs) (hi : i < m) : ∃ x, Vs[i]? = some x := ⟨_, List.getElem?_eq_getElem (by rw [h.1]; exact hi)⟩
theorem Src.reads {w0 : World} {H : List Ent} {A : Option Addr} {m : Nat} {B : List Int} (h : Src w0 A m .u8 B) (hH : Fresh w0 H) : Reads w0 H A m B := fun w Hx hx hs =>
 h.at_ hs fun b hb e he => (hH.app hx).ne hb e he
theorem Reads.more {w0 : World} {H E : List Ent} {A : Option Addr} {m : Nat} {B : List Int} (h : Reads w0 H A m B) (hE : Fresh w0 E) : Reads w0 (E ++ H) A m B := fun w Hx hx hs =>
 h w (E ++ Hx) (hE.app hx) (hs.perm (by rw [List.append_assoc]; exact (List.perm_append_comm_assoc E H Hx)))
theorem reads_ent {w0 : World} {H : List Ent} {e : Ent} {W : List Int} {m : Nat} (he : e ∈ H) (hc : e.cs = W.map (int .u8)) (hm : W.length = m) : Reads w0 H (some ⟨e.g, 0, none⟩) m W := fun w Hx hx hs => by
 have hl := hs.has e (List.mem_append.2 (.inl he))
 obtain ⟨g, t, cs, tot⟩ := e
 subst hc
 exact zT hl hm
theorem parts_ent {w0 : World} {H : List Ent} {e : Ent} {Vs : List PV} {m : Nat} (he : e ∈ H) (hc : e.cs = Vs.map (fun x => slice x.A x.m x.c)) (hm : Vs.length = m) (hv : ∀ x ∈ Vs, x.B.length = x.m ∧ Reads w0 H x.A x.m x.B) : PartsF w0 H (some ⟨e.g, 0, none⟩) m Vs :=
 ⟨hm, .inr ⟨e.g, 0, rfl, fun w Hx hx hs i x hi => by
  have hl := hs.has e (List.mem_append.2 (.inl he))
  refine hl.cell ?_
  rw [hc, Nat.zero_add, List.getElem?_map, hi]; rfl⟩, fun i x hi => hv x (List.mem_of_getElem? hi)⟩
theorem parts_lies {w : World} {e : Ent} {Vs : List PV} {m : Nat} (hl : e.lies w) (hc : e.cs = Vs.map (fun x => slice x.A x.m x.c)) (hm : Vs.length = m) (hv : ∀ x ∈ Vs, x.B.length = x.m ∧ Src w x.A x.m .u8 x.B) : PartsF w [] (some ⟨e.g, 0, none⟩) m Vs :=
 ⟨hm, .inr ⟨e.g, 0, rfl, fun w' Hx hx hs i x hi => by
  have h1 : w.cell? ⟨e.g, i, none⟩ = some (.slice x.A x.m x.c) := hl.cell (by rw [hc, List.getElem?_map, hi]; rfl)
  rw [Nat.zero_add]
  exact (hs.old_cell (ad := ⟨e.g, i, none⟩) hl.lt (hx.ne hl.lt)).trans h1⟩, fun i x hi => ⟨(hv x (List.mem_of_getElem? hi)).1, (hv x (List.mem_of_getElem? hi)).2.reads zA⟩⟩
theorem lies_srcF {w : World} {g t tot m : Nat} {cs : List Value} {Fs : List FV} (h : Ent.lies ⟨g, t, cs, tot⟩ w) (hc : cs = flatF Fs) (hm : Fs.length = m) : SrcF w (some ⟨g, 0, none⟩) m Fs := ⟨hm, .inr ⟨g, 0, rfl, h.lt, fun i x hx j u hu => by
 subst hc
 rw [Nat.zero_add]
 exact h.cell (flatF_get hx hu)⟩⟩
/-
 The code of layer 7: the bytes of numbers, parts and commands.
-/
theorem enters23 : Enters Tryz.prog 23 := ⟨_, Tryz.func23, by kernel_rfl, by kernel_rfl⟩
theorem enters24 : Enters Tryz.prog 24 := ⟨_, Tryz.func24, by kernel_rfl, by kernel_rfl⟩
theorem enters25 : Enters Tryz.prog 25 := ⟨_, Tryz.func25, by kernel_rfl, by kernel_rfl⟩
theorem enters61 : Enters Tryz.prog 61 := ⟨_, Tryz.func61, by kernel_rfl, by kernel_rfl⟩
instance : Sli Tryz.prog 48 22 := ⟨Tryz.underlying48⟩
theorem length_c (n : Int) (h : 0 ≤ n ∧ n ≤ 4611686018427387903) (w : World) : Calls Tryz.prog 25 #[.int .i64 n] w fun e w' => e = .returned (.agg ([int .u64 n, int .i64 8]).toArray) ∧ St w [] w' := by
 refine qL (args := [.int .i64 n]) Tryz.func25 rfl Tryz.ntmps25 (by simp) ?_
 refine qC [0] ?_
 iterate 2 refine gx ?_
 refine qc (fun g1 hg1 => ?_)
 iterate 5 refine gx ?_
 refine qB (qA rfl) rfl (qt rfl Tryz.underlying3 Tryz.underlying37 rfl (r := n) (wu64 rfl (by omega))) ?_
 refine qB (qA rfl) rfl (qm rfl (vs := [(0, int .u64 n), (1, int .i64 8)]) rfl (fun w => by first | rfl | kernel_rfl) (v := .agg ([int .u64 n, int .i64 8]).toArray)) ?_
 iterate 4 refine gx ?_
 exact qu rfl agg58 size58 rfl (vs := [int .u64 n, int .i64 8]) rfl (qQ (i := 0) (ent := ⟨g1, 58, [int .u64 n, int .i64 8], 2⟩) rfl rfl rfl) (fun w hs => ⟨rfl, (hs.drop (by assumption))⟩)
theorem numbers_c (Fs : List FV) (A2 : Option Addr) (m2 c2 : Nat) (w : World) (hsF : SrcF w A2 m2 Fs) (hNF : NumsF Fs) (hmc2 : m2 ≤ c2) (hcm2 : c2 ≤ 9223372036854775807) (hm2 : m2 ≤ 100000) (hf : fitAll Fs) : Calls Tryz.prog 24 #[.slice A2 m2 c2] w fun e w' => ∃ v He, e = .returned v ∧ Own w.heap.size 5 .u8 v (encF Fs) He ∧ St w He w' := by
 refine qL (args := [.slice A2 m2 c2]) Tryz.func24 rfl Tryz.ntmps24 (by simp) ?_
 refine qC [0] ?_
 iterate 8 refine gx ?_
 refine qY (ι := Value × List Ent) (V := fun yl => .tuple #[yl.1, .bool true]) (R := fun yl => Own w.heap.size 5 .u8 yl.1 (encF Fs) yl.2) (H' := fun yl => [] ++ yl.2) (qA rfl) rfl enters61 rfl rfl (fun w hs => (wapp_yes [] Fs none A2 0 0 m2 c2 w ⟨rfl, .inl rfl⟩ (hsF.at_ hs (fun b hb => qF)) hNF (by omega) (by omega) hmc2 hcm2 (by omega) hm2 hf).mono fun e w' ⟨v, He, he, ho, hw⟩ => ⟨(v, He), he, own_mono ho hs.size, st_call hs hw ho.new⟩) (fun yl hOl => ?_)
 obtain ⟨vl, Hl⟩ := yl
 dsimp only at hOl ⊢
 obtain ⟨Al, cl, hvl, hcl, hdl⟩ := hOl.form
 subst hvl
 iterate 7 refine gx ?_
 refine qC [2, 3] ?_
 iterate 7 refine gx ?_
 exact qK rfl rfl (fun w hs => ⟨_, Hl, rfl, hOl, hs⟩)
theorem numbers_o (Fs : List FV) (A2 : Option Addr) (m2 c2 : Nat) (w : World) (hsF : SrcF w A2 m2 Fs) (hNF : NumsF Fs) (hmc2 : m2 ≤ c2) (hcm2 : c2 ≤ 9223372036854775807) (hm2 : m2 ≤ 100000) (hf : fitAll Fs) (h0 : 0 < (encF Fs).length) : Calls Tryz.prog 24 #[.slice A2 m2 c2] w fun e w' =>
  ∃ y : Nat × Nat, e = .returned (.slice (some ⟨y.1, 0, none⟩) (encF Fs).length y.2) ∧ ((encF Fs).length ≤ y.2 ∧ y.2 ≤ 9223372036854775807) ∧ w.heap.size ≤ (⟨y.1, 5, (encF Fs).map (int .u8), y.2⟩ : Ent).g ∧ St w [⟨y.1, 5, (encF Fs).map (int .u8), y.2⟩] w' :=
 (numbers_c Fs A2 m2 c2 w hsF hNF hmc2 hcm2 hm2 hf).mono fun e w' ⟨v, He, he, ho, hs⟩ => by
  obtain ⟨A', c', rfl, h1, h2⟩ := ho.form
  rcases ho with ⟨h3, h4, _⟩ | ⟨g, c, h3, h4, h5, h6, h7⟩
  ·rw [h4] at h0; exact absurd h0 (Nat.lt_irrefl 0)
  ·subst h4
   exact ⟨(g, c), by rw [he, h3], ⟨h6, by unfold maxLen at h7; omega⟩, h5, hs⟩
theorem num8 {x : Int} (h : inR x) : NumF ⟨x, 8⟩ := by unfold inR at h; unfold NumF; dsimp only; omega
theorem numsF_of {Fs : List FV} (h : ∀ f ∈ Fs, NumF f) : NumsF Fs := fun i f hf => h f (List.mem_of_getElem? hf)
theorem add_c (W : List Int) (v0 : Value) (Vs : List PV) (A : Option Addr) (m c : Nat) (H He : List Ent) (w w1 : World) (hown0 : Own w.heap.size 5 .u8 v0 W He) (hs1 : St w (H ++ He) w1) (hP : PartsF w H A m Vs) (hmc : m ≤ c) (hcm : c ≤ 9223372036854775807) (hT : W.length + (catP Vs).length ≤ 1000000) : Calls Tryz.prog 23 #[v0, .slice A m c] w1 fun e w' => ∃ v' He', e = .returned v' ∧ Own w.heap.size 5 .u8 v' (W ++ catP Vs) He' ∧ St w (H ++ He') w' := by
 refine calls_over (w0 := w) (H := [] ++ H ++ He) (args := [v0, .slice A m c]) Tryz.func23 rfl Tryz.ntmps23 (by simp) hs1 ?_
 refine qC [0, 1] ?_
 iterate 14 refine gx ?_
 refine qr (ι := WN) (fun x0 => [(0, x0.v), (7, .slice A m c), (8, .int .i64 (m : Int)), (9, .int .i64 (x0.k : Int))]) (fun x0 => [] ++ H ++ x0.He) (fun x0 => m - x0.k) (fun x0 => Own w.heap.size 5 .u8 x0.v (W ++ catP (Vs.take x0.k)) x0.He ∧ x0.k ≤ m) (⟨0, v0, He⟩ : WN) ⟨by show Own _ _ _ v0 (W ++ []) He; rw [List.append_nil]; exact hown0, Nat.zero_le _⟩ (qI (i := 0) rfl (qT (i := 7) rfl rfl (by first | omega | (dsimp only; omega) | rfl) (by first | omega | (dsimp only; omega) | rfl) (qH (i := 8) rfl (by first | omega | rfl) (qH (i := 9) rfl rfl (qN))))) (fun w h => h) (fun x0 hC0 => ?_)
 obtain ⟨i, v1, H1⟩ := x0
 obtain ⟨hown, hi⟩ := hC0
 dsimp only at hown hi ⊢
 iterate 6 refine gx ?_
 refine qX rfl (fun hq0 => ?_) (fun hq0 => ?_)
 ·obtain ⟨b, off, hAe, hcell⟩ := hP.some_ (i := i) (by omega)
  subst hAe
  obtain ⟨x, hx⟩ := hP.get (i := i) (by omega)
  obtain ⟨hxl, hxr⟩ := hP.2.2 i x hx
  have hct := catP_take hx
  have hcl := catP_le (Vs := Vs) (i := i + 1)
  rw [hct, List.length_append] at hcl
  have hFr : Fresh w H1 := hown.new
  iterate 6 refine gx ?_
  refine qB (qA rfl) rfl (ql rfl Tryz.underlying48 size22 rfl rfl (i := i) (by omega) (by omega) (off' := (off + i)) (by omega)) ?_
  refine qB (qA rfl) rfl (qS rfl agg22 rfl ((fun w hs => hcell w H1 hFr hs i x hx))) ?_
  iterate 6 refine gx ?_
  refine zd (H := [] ++ H) (He := H1) (qA rfl) rfl rfl Tryz.underlying22 mk5 rfl rfl rfl (W := W ++ catP (Vs.take i)) (B := x.B) hown (fun w hs => hxr w H1 hFr hs) (by rw [List.length_append]; omega) (by rw [List.length_append]; omega) (fun vo Ho ho hne => ?_)
  iterate 4 refine gx ?_
  refine qC [0, 7, 8, 9] ?_
  refine gx ?_
  refine qB (qA rfl) rfl (qR rfl rfl rfl (r := ((i : Int) + 1)) (w64 (by omega) (by omega))) ?_
  iterate 2 refine gx ?_
  exact qj (⟨i + 1, vo, Ho⟩ : WN) (by show m - (i + 1) < m - i; omega) ⟨by show Own _ _ _ vo (W ++ catP (Vs.take (i + 1))) Ho; rw [hct, ← List.append_assoc]; exact ho, by show i + 1 ≤ m; omega⟩ (qI (i := 0) rfl (qT (i := 7) rfl (by first | rfl | (congr 2; omega)) (by first | omega | (dsimp only; omega) | rfl) (by first | omega | (dsimp only; omega) | rfl) (qH (i := 8) rfl (by first | omega | rfl) (qH (i := 9) rfl (by show (i : Int) + 1 = ((i + 1 : Nat) : Int); omega) (qN))))) (fun w h => h)
 ·obtain rfl : m = i := by omega
  rw [List.take_of_length_le (by have := hP.1; omega)] at hown
  iterate 12 refine gx ?_
  exact qK rfl rfl (fun w hs => ⟨_, H1, rfl, hown, hs⟩)
theorem encC_copy {x : CV} (h : x.k = 1) : encC (cmC x) = encF [⟨x.k, 1⟩, ⟨x.t, 8⟩, ⟨x.f, 8⟩, ⟨x.l, 8⟩] := by
 unfold encC
 show beV x.k 1 ++ (beV x.t 8 ++ (if x.k = 1 then beV x.f 8 ++ beV x.l 8 else beV (x.B.length : Int) 8 ++ x.B)) = _
 rw [if_pos h]; simp [encF]
theorem encC_lit {x : CV} (h : ¬ x.k = 1) : encC (cmC x) = encF [⟨x.k, 1⟩, ⟨x.t, 8⟩, ⟨(x.B.length : Int), 8⟩] ++ x.B := by
 unfold encC
 show beV x.k 1 ++ (beV x.t 8 ++ (if x.k = 1 then beV x.f 8 ++ beV x.l 8 else beV (x.B.length : Int) 8 ++ x.B)) = _
 rw [if_neg h]; simp [encF]
theorem encC_room {x : CV} (hv : okV x) (hm : x.B.length = x.m) : x.B.length ≤ (encC (cmC x)).length := by
 by_cases h : x.k = 1
 ·have h2 : ¬ 0 < x.m := fun h2 => hv.2.2.2.1 ⟨h, h2⟩
  omega
 ·rw [encC_lit h, List.length_append]; omega
theorem fit1 {x : Int} (h : x = 1 ∨ x = 2) : fitV x 1 := by rcases h with rfl | rfl <;> exact ⟨by decide, by decide, .inr (by decide +kernel)⟩
theorem fit8' (x : Int) : fitV x 8 := ⟨by decide, by decide, .inl rfl⟩
theorem num1 {x : Int} (h : x = 1 ∨ x = 2) : NumF ⟨x, 1⟩ := by unfold NumF; dsimp only; omega
theorem encF_4 (a b c d : Int) : (encF [⟨a, 1⟩, ⟨b, 8⟩, ⟨c, 8⟩, ⟨d, 8⟩]).length = 25 := by simp [encF, beV_len]
theorem encF_3 (a b c : Int) : (encF [⟨a, 1⟩, ⟨b, 8⟩, ⟨c, 8⟩]).length = 17 := by simp [encF, beV_len]
theorem encF_2 (a b : Int) : (encF [⟨a, 8⟩, ⟨b, 8⟩]).length = 16 := by simp [encF, beV_len]
theorem encF_14 (a : Int) : (encF [⟨a, 4⟩]).length = 4 := by simp [encF, beV_len]
theorem addc_c (W : List Int) (v0 : Value) (x : CV) (H He : List Ent) (w w1 : World) (hown0 : Own w.heap.size 5 .u8 v0 W He) (hs1 : St w (H ++ He) w1) (hk : okK x) (hv : okV x) (hxm : x.B.length = x.m) (hxc : x.m ≤ x.c ∧ x.c ≤ 9223372036854775807) (hr : Reads w H x.A x.m x.B) (hT : W.length + (encC (cmC x)).length ≤ 1000000) : Calls Tryz.prog 26 #[v0, .agg ([int .i64 x.k, int .i64 x.t, int .i64 x.f, int .i64 x.l, slice x.A x.m x.c]).toArray] w1 fun e w' => ∃ v' He', e = .returned v' ∧ Own w.heap.size 5 .u8 v' (W ++ encC (cmC x)) He' ∧ St w (H ++ He') w' := by
 have hk2 := hk
 unfold okK at hk2
 have hv2 := hv
 unfold okV inR at hv2
 have hbl := encC_room hv hxm
 refine calls_over (w0 := w) (H := [] ++ H ++ He) (args := [v0, .agg ([int .i64 x.k, int .i64 x.t, int .i64 x.f, int .i64 x.l, slice x.A x.m x.c]).toArray]) Tryz.func26 rfl Tryz.ntmps26 (by simp) hs1 ?_
 refine qC [0, 1] ?_
 iterate 2 refine gx ?_
 refine qv (fun g1 hg1 => ?_)
 iterate 7 refine gx ?_
 refine qB (qA rfl) rfl (qt rfl Tryz.underlying3 Tryz.underlying37 rfl (r := x.k) (wu64 rfl (by omega))) ?_
 refine qB (qA rfl) rfl (qm rfl (vs := [(0, int .u64 x.k), (1, int .i64 1)]) rfl (fun w => by first | rfl | kernel_rfl) (v := .agg ([int .u64 x.k, int .i64 1]).toArray)) ?_
 refine qc (fun g2 hg2 => ?_)
 refine qn (qA rfl) rfl rfl size58 rfl (vs := [int .u64 x.k, int .i64 1]) rfl (by simp []) (by simp [Value.oneCell']) (i := 0) (ent := ⟨g2, 58, [int .u64 0, int .i64 0], 2⟩) rfl rfl (by simp []) (H' := [⟨g2, 58, [int .u64 x.k, int .i64 1], 2⟩, ⟨g1, 61, [int .i64 x.k, int .i64 x.t, int .i64 x.f, int .i64 x.l, slice x.A x.m x.c], 5⟩] ++ H ++ He) rfl ?_
 iterate 2 refine gx ?_
 refine qC [0, 3, 4, 5] ?_
 iterate 8 refine gx ?_
 refine qX rfl (fun h0 => ?_) (fun h0 => ?_)
 ·refine gx ?_
  refine qe (H' := [⟨g2, 58, [int .u64 x.k, int .i64 1], 2⟩, ⟨g1, 61, [int .i64 x.k, int .i64 x.t, int .i64 x.f, int .i64 x.l, slice x.A x.m x.c], 5⟩] ++ ([] ++ H ++ He)) (fun w h => h) ?_
  refine TC.mixB (HB := [Ent.mk g2 58 ([int .u64 x.k, int .i64 1]) 2, Ent.mk g1 61 ([int .i64 x.k, int .i64 x.t, int .i64 x.f, int .i64 x.l, slice x.A x.m x.c]) 5]) (H := [] ++ H ++ He) (by kernel_rfl) [0, 0, 0, 0, 3, 0, 0, 3, 0, 0, 3, 3, 3, 3, 3, 0] [0, 1, 2, 3, 5, 6, 8, 9, 4, 7, 10, 11, 12, 13, 14, 15] (by kernel_rfl) ?_
  refine qz (qA rfl) rfl (fun _ => qp rfl rfl) ?_
  refine zO (qA rfl) rfl (fun H' => qg rfl agg58 size58 rfl (vs := [int .u64 x.k, int .i64 1]) (by simp []) (qQ (i := 0) (ent := ⟨g2, 58, [int .u64 x.k, int .i64 1], 2⟩) rfl rfl rfl)) ?_
  refine qz (qA rfl) rfl (fun _ => zE rfl Tryz.underlying61 rfl size3 rfl (off' := 1) (by first | rfl | omega)) ?_
  refine zO (qA rfl) rfl (fun H' => qS rfl agg3 rfl (qZ (i := 1) (ent := ⟨g1, 61, [int .i64 x.k, int .i64 x.t, int .i64 x.f, int .i64 x.l, slice x.A x.m x.c], 5⟩) (off := 1) rfl rfl (by exact rfl))) ?_
  refine qz (qA rfl) rfl (fun _ => zE rfl Tryz.underlying61 rfl size3 rfl (off' := 2) (by first | rfl | omega)) ?_
  refine zO (qA rfl) rfl (fun H' => qS rfl agg3 rfl (qZ (i := 1) (ent := ⟨g1, 61, [int .i64 x.k, int .i64 x.t, int .i64 x.f, int .i64 x.l, slice x.A x.m x.c], 5⟩) (off := 2) rfl rfl (by exact rfl))) ?_
  refine qz (qA rfl) rfl (fun _ => zE rfl Tryz.underlying61 rfl size3 rfl (off' := 3) (by first | rfl | omega)) ?_
  refine zO (qA rfl) rfl (fun H' => qS rfl agg3 rfl (qZ (i := 1) (ent := ⟨g1, 61, [int .i64 x.k, int .i64 x.t, int .i64 x.f, int .i64 x.l, slice x.A x.m x.c], 5⟩) (off := 3) rfl rfl (by exact rfl))) ?_
  refine TP.call0 (qA rfl) rfl enters25 rfl rfl (v := .agg ([int .u64 x.t, int .i64 8]).toArray) (fun w hs => length_c x.t (by omega) w) ?_
  refine TP.call0 (qA rfl) rfl enters25 rfl rfl (v := .agg ([int .u64 x.f, int .i64 8]).toArray) (fun w hs => length_c x.f (by omega) w) ?_
  refine TP.call0 (qA rfl) rfl enters25 rfl rfl (v := .agg ([int .u64 x.l, int .i64 8]).toArray) (fun w hs => length_c x.l (by omega) w) ?_
  refine TP.buildSlice (qA rfl) rfl rfl Tryz.underlying109 size58 zero58 rfl (by decide) (by decide) (cells := #[.int .u64 x.k, .int .i64 1, .int .u64 x.t, .int .i64 8, .int .u64 x.f, .int .i64 8, .int .u64 x.l, .int .i64 8]) (tot := 8) (by kernel_rfl) (cs := [.int .u64 x.k, .int .i64 1, .int .u64 x.t, .int .i64 8, .int .u64 x.f, .int .i64 8, .int .u64 x.l, .int .i64 8]) rfl rfl (fun g3 hg3 => ?_)
  refine zW (ι := Nat × Nat) (V := fun y25 => .slice (some ⟨y25.1, 0, none⟩) (((encF [⟨x.k, 1⟩, ⟨x.t, 8⟩, ⟨x.f, 8⟩, ⟨x.l, 8⟩]).length)) y25.2) (R := fun y25 => ((encF [⟨x.k, 1⟩, ⟨x.t, 8⟩, ⟨x.f, 8⟩, ⟨x.l, 8⟩]).length ≤ y25.2 ∧ y25.2 ≤ 9223372036854775807) ∧ w.heap.size ≤ (⟨y25.1, 5, (encF [⟨x.k, 1⟩, ⟨x.t, 8⟩, ⟨x.f, 8⟩, ⟨x.l, 8⟩]).map (int .u8), y25.2⟩ : Ent).g) (H' := fun y25 => [⟨y25.1, 5, (encF [⟨x.k, 1⟩, ⟨x.t, 8⟩, ⟨x.f, 8⟩, ⟨x.l, 8⟩]).map (int .u8), y25.2⟩, ⟨g3, 58, [int .u64 x.k, int .i64 1, int .u64 x.t, int .i64 8, int .u64 x.f, int .i64 8, int .u64 x.l, int .i64 8], 8⟩] ++ H ++ He) (qA rfl) rfl enters24 rfl rfl (fun w hs => (show Calls Tryz.prog 24 #[.slice (some ⟨g3, 0, none⟩) 4 4] w (fun e w' => ∃ y25 : Nat × Nat, e = .returned (.slice (some ⟨y25.1, 0, none⟩) (((encF [⟨x.k, 1⟩, ⟨x.t, 8⟩, ⟨x.f, 8⟩, ⟨x.l, 8⟩]).length)) y25.2) ∧ ((encF [⟨x.k, 1⟩, ⟨x.t, 8⟩, ⟨x.f, 8⟩, ⟨x.l, 8⟩]).length ≤ y25.2 ∧ y25.2 ≤ 9223372036854775807) ∧ w.heap.size ≤ (⟨y25.1, 5, (encF [⟨x.k, 1⟩, ⟨x.t, 8⟩, ⟨x.f, 8⟩, ⟨x.l, 8⟩]).map (int .u8), y25.2⟩ : Ent).g ∧ St w [⟨y25.1, 5, (encF [⟨x.k, 1⟩, ⟨x.t, 8⟩, ⟨x.f, 8⟩, ⟨x.l, 8⟩]).map (int .u8), y25.2⟩] w') from numbers_o [⟨x.k, 1⟩, ⟨x.t, 8⟩, ⟨x.f, 8⟩, ⟨x.l, 8⟩] (some ⟨g3, 0, none⟩) 4 4 w (lies_srcF (Fs := [⟨x.k, 1⟩, ⟨x.t, 8⟩, ⟨x.f, 8⟩, ⟨x.l, 8⟩]) (hs.has (⟨g3, 58, [int .u64 x.k, int .i64 1, int .u64 x.t, int .i64 8, int .u64 x.f, int .i64 8, int .u64 x.l, int .i64 8], 8⟩) (by simp)) rfl rfl) (numsF_of (by simp only [List.mem_cons, List.not_mem_nil, or_false, forall_eq_or_imp, forall_eq]; exact ⟨num1 hk, num8 hv.1, num8 hv.2.1, num8 hv.2.2.1⟩)) (by omega) (by omega) (by omega) (by unfold fitAll; simp only [List.mem_cons, List.not_mem_nil, or_false, forall_eq_or_imp, forall_eq]; exact ⟨fit1 hk, fit8' _, fit8' _, fit8' _⟩) (by rw [encF_4]; omega)).mono fun e w' ⟨x, he, hR, hE, hw⟩ => ⟨x, he, ⟨hR, Nat.le_trans hs.size hE⟩, St.madeB hs hw hE⟩) (fun y25 ⟨hn25, hgn25⟩ => ?_)
  obtain ⟨gn25, c25⟩ := y25
  dsimp only at hn25 hgn25 ⊢
  refine TP.buildSlice (qA rfl) rfl rfl Tryz.underlying48 size22 zero22 rfl (by decide) (by decide) (cells := #[.slice (some ⟨gn25, 0, none⟩) (((encF [⟨x.k, 1⟩, ⟨x.t, 8⟩, ⟨x.f, 8⟩, ⟨x.l, 8⟩]).length)) c25]) (tot := 1) (by kernel_rfl) (cs := [.slice (some ⟨gn25, 0, none⟩) (((encF [⟨x.k, 1⟩, ⟨x.t, 8⟩, ⟨x.f, 8⟩, ⟨x.l, 8⟩]).length)) c25]) rfl rfl (fun g4 hg4 => ?_)
  have hcat : catP [⟨(some ⟨gn25, 0, none⟩), (((encF [⟨x.k, 1⟩, ⟨x.t, 8⟩, ⟨x.f, 8⟩, ⟨x.l, 8⟩]).length)), c25, encF [⟨x.k, 1⟩, ⟨x.t, 8⟩, ⟨x.f, 8⟩, ⟨x.l, 8⟩]⟩] = encC (cmC x) := by rw [encC_copy h0]; simp [catP]
  refine zW (ι := Value × List Ent) (V := fun y => y.1) (R := fun y => Own w.heap.size 5 .u8 y.1 (W ++ encC (cmC x)) y.2) (H' := fun y => [⟨g4, 22, [slice (some ⟨gn25, 0, none⟩) (((encF [⟨x.k, 1⟩, ⟨x.t, 8⟩, ⟨x.f, 8⟩, ⟨x.l, 8⟩]).length)) c25], 1⟩, ⟨gn25, 5, (encF [⟨x.k, 1⟩, ⟨x.t, 8⟩, ⟨x.f, 8⟩, ⟨x.l, 8⟩]).map (int .u8), c25⟩, ⟨g3, 58, [int .u64 x.k, int .i64 1, int .u64 x.t, int .i64 8, int .u64 x.f, int .i64 8, int .u64 x.l, int .i64 8], 8⟩] ++ H ++ y.2) (qA rfl) rfl enters23 rfl rfl (fun w' hs => (add_c W v0 [⟨(some ⟨gn25, 0, none⟩), (((encF [⟨x.k, 1⟩, ⟨x.t, 8⟩, ⟨x.f, 8⟩, ⟨x.l, 8⟩]).length)), c25, encF [⟨x.k, 1⟩, ⟨x.t, 8⟩, ⟨x.f, 8⟩, ⟨x.l, 8⟩]⟩] (some ⟨g4, 0, none⟩) 1 1 ([⟨g2, 58, [int .u64 x.k, int .i64 1], 2⟩, ⟨g1, 61, [int .i64 x.k, int .i64 x.t, int .i64 x.f, int .i64 x.l, slice x.A x.m x.c], 5⟩, ⟨g4, 22, [slice (some ⟨gn25, 0, none⟩) (((encF [⟨x.k, 1⟩, ⟨x.t, 8⟩, ⟨x.f, 8⟩, ⟨x.l, 8⟩]).length)) c25], 1⟩, ⟨gn25, 5, (encF [⟨x.k, 1⟩, ⟨x.t, 8⟩, ⟨x.f, 8⟩, ⟨x.l, 8⟩]).map (int .u8), c25⟩, ⟨g3, 58, [int .u64 x.k, int .i64 1, int .u64 x.t, int .i64 8, int .u64 x.f, int .i64 8, int .u64 x.l, int .i64 8], 8⟩] ++ H) He w w' hown0 hs (parts_ent (e := ⟨g4, 22, [slice (some ⟨gn25, 0, none⟩) (((encF [⟨x.k, 1⟩, ⟨x.t, 8⟩, ⟨x.f, 8⟩, ⟨x.l, 8⟩]).length)) c25], 1⟩) (by simp) rfl rfl (by simp only [List.mem_cons, List.not_mem_nil, or_false, forall_eq_or_imp, forall_eq]; exact ⟨by first | exact trivial | rfl, reads_ent (e := ⟨gn25, 5, (encF [⟨x.k, 1⟩, ⟨x.t, 8⟩, ⟨x.f, 8⟩, ⟨x.l, 8⟩]).map (int .u8), c25⟩) (by simp) rfl rfl⟩)) (by omega) (by omega) (by rw [hcat]; exact hT)).mono fun e w'' ⟨v', He', he, ho, hs'⟩ => ⟨(v', He'), he, by rw [← hcat]; exact ho, hs'⟩) (fun y hR => ?_)
  obtain ⟨vo, Ho⟩ := y
  dsimp only at hR ⊢
  refine qz (qA rfl) rfl (fun _ => zf rfl rfl) ?_
  refine TP.nil ?_
  refine zU (H' := [⟨g2, 58, [int .u64 x.k, int .i64 1], 2⟩, ⟨g1, 61, [int .i64 x.k, int .i64 x.t, int .i64 x.f, int .i64 x.l, slice x.A x.m x.c], 5⟩, ⟨g4, 22, [slice (some ⟨gn25, 0, none⟩) (((encF [⟨x.k, 1⟩, ⟨x.t, 8⟩, ⟨x.f, 8⟩, ⟨x.l, 8⟩]).length)) c25], 1⟩, ⟨gn25, 5, (encF [⟨x.k, 1⟩, ⟨x.t, 8⟩, ⟨x.f, 8⟩, ⟨x.l, 8⟩]).map (int .u8), c25⟩, ⟨g3, 58, [int .u64 x.k, int .i64 1, int .u64 x.t, int .i64 8, int .u64 x.f, int .i64 8, int .u64 x.l, int .i64 8], 8⟩] ++ H ++ Ho) (fun w h => h) ?_
  iterate 3 refine gx ?_
  exact qK rfl rfl (fun w hs => ⟨_, Ho, rfl, hR, (((((hs.drop (by assumption)).drop (by assumption)).drop (by assumption)).drop (by assumption)).drop (by assumption))⟩)
 ·iterate 3 refine gx ?_
  refine qe (H' := [⟨g2, 58, [int .u64 x.k, int .i64 1], 2⟩, ⟨g1, 61, [int .i64 x.k, int .i64 x.t, int .i64 x.f, int .i64 x.l, slice x.A x.m x.c], 5⟩] ++ ([] ++ H ++ He)) (fun w h => h) ?_
  refine TC.mixB (HB := [Ent.mk g2 58 ([int .u64 x.k, int .i64 1]) 2, Ent.mk g1 61 ([int .i64 x.k, int .i64 x.t, int .i64 x.f, int .i64 x.l, slice x.A x.m x.c]) 5]) (H := [] ++ H ++ He) (by kernel_rfl) [0, 0, 0, 0, 3, 0, 0, 0, 3, 3, 3, 0, 0, 3, 3, 0] [0, 1, 2, 3, 5, 6, 7, 11, 12, 4, 8, 9, 10, 13, 14, 15] (by kernel_rfl) ?_
  refine qz (qA rfl) rfl (fun _ => qp rfl rfl) ?_
  refine zO (qA rfl) rfl (fun H' => qg rfl agg58 size58 rfl (vs := [int .u64 x.k, int .i64 1]) (by simp []) (qQ (i := 0) (ent := ⟨g2, 58, [int .u64 x.k, int .i64 1], 2⟩) rfl rfl rfl)) ?_
  refine qz (qA rfl) rfl (fun _ => zE rfl Tryz.underlying61 rfl size3 rfl (off' := 1) (by first | rfl | omega)) ?_
  refine zO (qA rfl) rfl (fun H' => qS rfl agg3 rfl (qZ (i := 1) (ent := ⟨g1, 61, [int .i64 x.k, int .i64 x.t, int .i64 x.f, int .i64 x.l, slice x.A x.m x.c], 5⟩) (off := 1) rfl rfl (by exact rfl))) ?_
  refine qz (qA rfl) rfl (fun _ => zE rfl Tryz.underlying61 rfl size22 rfl (off' := 4) (by first | rfl | omega)) ?_
  refine zO (qA rfl) rfl (fun H' => qS rfl agg22 rfl (qZ (i := 1) (ent := ⟨g1, 61, [int .i64 x.k, int .i64 x.t, int .i64 x.f, int .i64 x.l, slice x.A x.m x.c], 5⟩) (off := 4) rfl rfl (by exact rfl))) ?_
  refine qz (qA rfl) rfl (fun _ => Gets.lenSlice rfl Tryz.underlying22 rfl) ?_
  refine qz (qA rfl) rfl (fun _ => zE rfl Tryz.underlying61 rfl size22 rfl (off' := 4) (by first | rfl | omega)) ?_
  refine zO (qA rfl) rfl (fun H' => qS rfl agg22 rfl (qZ (i := 1) (ent := ⟨g1, 61, [int .i64 x.k, int .i64 x.t, int .i64 x.f, int .i64 x.l, slice x.A x.m x.c], 5⟩) (off := 4) rfl rfl (by exact rfl))) ?_
  refine TP.call0 (qA rfl) rfl enters25 rfl rfl (v := .agg ([int .u64 x.t, int .i64 8]).toArray) (fun w hs => length_c x.t (by omega) w) ?_
  refine TP.call0 (qA rfl) rfl enters25 rfl rfl (v := .agg ([int .u64 (x.m : Int), int .i64 8]).toArray) (fun w hs => length_c (x.m : Int) (by omega) w) ?_
  refine TP.buildSlice (qA rfl) rfl rfl Tryz.underlying109 size58 zero58 rfl (by decide) (by decide) (cells := #[.int .u64 x.k, .int .i64 1, .int .u64 x.t, .int .i64 8, .int .u64 (x.m : Int), .int .i64 8]) (tot := 6) (by kernel_rfl) (cs := [.int .u64 x.k, .int .i64 1, .int .u64 x.t, .int .i64 8, .int .u64 (x.m : Int), .int .i64 8]) rfl rfl (fun g5 hg5 => ?_)
  refine zW (ι := Nat × Nat) (V := fun y38 => .slice (some ⟨y38.1, 0, none⟩) (((encF [⟨x.k, 1⟩, ⟨x.t, 8⟩, ⟨(x.m : Int), 8⟩]).length)) y38.2) (R := fun y38 => ((encF [⟨x.k, 1⟩, ⟨x.t, 8⟩, ⟨(x.m : Int), 8⟩]).length ≤ y38.2 ∧ y38.2 ≤ 9223372036854775807) ∧ w.heap.size ≤ (⟨y38.1, 5, (encF [⟨x.k, 1⟩, ⟨x.t, 8⟩, ⟨(x.m : Int), 8⟩]).map (int .u8), y38.2⟩ : Ent).g) (H' := fun y38 => [⟨y38.1, 5, (encF [⟨x.k, 1⟩, ⟨x.t, 8⟩, ⟨(x.m : Int), 8⟩]).map (int .u8), y38.2⟩, ⟨g5, 58, [int .u64 x.k, int .i64 1, int .u64 x.t, int .i64 8, int .u64 (x.m : Int), int .i64 8], 6⟩] ++ H ++ He) (qA rfl) rfl enters24 rfl rfl (fun w hs => (show Calls Tryz.prog 24 #[.slice (some ⟨g5, 0, none⟩) 3 3] w (fun e w' => ∃ y38 : Nat × Nat, e = .returned (.slice (some ⟨y38.1, 0, none⟩) (((encF [⟨x.k, 1⟩, ⟨x.t, 8⟩, ⟨(x.m : Int), 8⟩]).length)) y38.2) ∧ ((encF [⟨x.k, 1⟩, ⟨x.t, 8⟩, ⟨(x.m : Int), 8⟩]).length ≤ y38.2 ∧ y38.2 ≤ 9223372036854775807) ∧ w.heap.size ≤ (⟨y38.1, 5, (encF [⟨x.k, 1⟩, ⟨x.t, 8⟩, ⟨(x.m : Int), 8⟩]).map (int .u8), y38.2⟩ : Ent).g ∧ St w [⟨y38.1, 5, (encF [⟨x.k, 1⟩, ⟨x.t, 8⟩, ⟨(x.m : Int), 8⟩]).map (int .u8), y38.2⟩] w') from numbers_o [⟨x.k, 1⟩, ⟨x.t, 8⟩, ⟨(x.m : Int), 8⟩] (some ⟨g5, 0, none⟩) 3 3 w (lies_srcF (Fs := [⟨x.k, 1⟩, ⟨x.t, 8⟩, ⟨(x.m : Int), 8⟩]) (hs.has (⟨g5, 58, [int .u64 x.k, int .i64 1, int .u64 x.t, int .i64 8, int .u64 (x.m : Int), int .i64 8], 6⟩) (by simp)) rfl rfl) (numsF_of (by simp only [List.mem_cons, List.not_mem_nil, or_false, forall_eq_or_imp, forall_eq]; exact ⟨num1 hk, num8 hv.1, num8 (by unfold inR; omega)⟩)) (by omega) (by omega) (by omega) (by unfold fitAll; simp only [List.mem_cons, List.not_mem_nil, or_false, forall_eq_or_imp, forall_eq]; exact ⟨fit1 hk, fit8' _, fit8' _⟩) (by rw [encF_3]; omega)).mono fun e w' ⟨x, he, hR, hE, hw⟩ => ⟨x, he, ⟨hR, Nat.le_trans hs.size hE⟩, St.madeB hs hw hE⟩) (fun y38 ⟨hn38, hgn38⟩ => ?_)
  obtain ⟨gn38, c38⟩ := y38
  dsimp only at hn38 hgn38 ⊢
  refine TP.buildSlice (qA rfl) rfl rfl Tryz.underlying48 size22 zero22 rfl (by decide) (by decide) (cells := #[.slice (some ⟨gn38, 0, none⟩) (((encF [⟨x.k, 1⟩, ⟨x.t, 8⟩, ⟨(x.m : Int), 8⟩]).length)) c38, .slice x.A x.m x.c]) (tot := 2) (by kernel_rfl) (cs := [.slice (some ⟨gn38, 0, none⟩) (((encF [⟨x.k, 1⟩, ⟨x.t, 8⟩, ⟨(x.m : Int), 8⟩]).length)) c38, .slice x.A x.m x.c]) rfl rfl (fun g6 hg6 => ?_)
  have hcat : catP [⟨(some ⟨gn38, 0, none⟩), (((encF [⟨x.k, 1⟩, ⟨x.t, 8⟩, ⟨(x.m : Int), 8⟩]).length)), c38, encF [⟨x.k, 1⟩, ⟨x.t, 8⟩, ⟨(x.m : Int), 8⟩]⟩, ⟨x.A, x.m, x.c, x.B⟩] = encC (cmC x) := by rw [encC_lit h0, hxm]; simp [catP]
  refine zW (ι := Value × List Ent) (V := fun y => y.1) (R := fun y => Own w.heap.size 5 .u8 y.1 (W ++ encC (cmC x)) y.2) (H' := fun y => [⟨g6, 22, [slice (some ⟨gn38, 0, none⟩) (((encF [⟨x.k, 1⟩, ⟨x.t, 8⟩, ⟨(x.m : Int), 8⟩]).length)) c38, slice x.A x.m x.c], 2⟩, ⟨gn38, 5, (encF [⟨x.k, 1⟩, ⟨x.t, 8⟩, ⟨(x.m : Int), 8⟩]).map (int .u8), c38⟩, ⟨g5, 58, [int .u64 x.k, int .i64 1, int .u64 x.t, int .i64 8, int .u64 (x.m : Int), int .i64 8], 6⟩] ++ H ++ y.2) (qA rfl) rfl enters23 rfl rfl (fun w' hs => (add_c W v0 [⟨(some ⟨gn38, 0, none⟩), (((encF [⟨x.k, 1⟩, ⟨x.t, 8⟩, ⟨(x.m : Int), 8⟩]).length)), c38, encF [⟨x.k, 1⟩, ⟨x.t, 8⟩, ⟨(x.m : Int), 8⟩]⟩, ⟨x.A, x.m, x.c, x.B⟩] (some ⟨g6, 0, none⟩) 2 2 ([⟨g2, 58, [int .u64 x.k, int .i64 1], 2⟩, ⟨g1, 61, [int .i64 x.k, int .i64 x.t, int .i64 x.f, int .i64 x.l, slice x.A x.m x.c], 5⟩, ⟨g6, 22, [slice (some ⟨gn38, 0, none⟩) (((encF [⟨x.k, 1⟩, ⟨x.t, 8⟩, ⟨(x.m : Int), 8⟩]).length)) c38, slice x.A x.m x.c], 2⟩, ⟨gn38, 5, (encF [⟨x.k, 1⟩, ⟨x.t, 8⟩, ⟨(x.m : Int), 8⟩]).map (int .u8), c38⟩, ⟨g5, 58, [int .u64 x.k, int .i64 1, int .u64 x.t, int .i64 8, int .u64 (x.m : Int), int .i64 8], 6⟩] ++ H) He w w' hown0 hs (parts_ent (e := ⟨g6, 22, [slice (some ⟨gn38, 0, none⟩) (((encF [⟨x.k, 1⟩, ⟨x.t, 8⟩, ⟨(x.m : Int), 8⟩]).length)) c38, slice x.A x.m x.c], 2⟩) (by simp) rfl rfl (by simp only [List.mem_cons, List.not_mem_nil, or_false, forall_eq_or_imp, forall_eq]; exact ⟨⟨by first | exact trivial | rfl, reads_ent (e := ⟨gn38, 5, (encF [⟨x.k, 1⟩, ⟨x.t, 8⟩, ⟨(x.m : Int), 8⟩]).map (int .u8), c38⟩) (by simp) rfl rfl⟩, hxm, hr.more (E := [⟨g2, 58, [int .u64 x.k, int .i64 1], 2⟩, ⟨g1, 61, [int .i64 x.k, int .i64 x.t, int .i64 x.f, int .i64 x.l, slice x.A x.m x.c], 5⟩, ⟨g6, 22, [slice (some ⟨gn38, 0, none⟩) (((encF [⟨x.k, 1⟩, ⟨x.t, 8⟩, ⟨(x.m : Int), 8⟩]).length)) c38, slice x.A x.m x.c], 2⟩, ⟨gn38, 5, (encF [⟨x.k, 1⟩, ⟨x.t, 8⟩, ⟨(x.m : Int), 8⟩]).map (int .u8), c38⟩, ⟨g5, 58, [int .u64 x.k, int .i64 1, int .u64 x.t, int .i64 8, int .u64 (x.m : Int), int .i64 8], 6⟩]) (qx (by assumption) (qx (by assumption) (qx (by assumption) (qx (by assumption) (qx (by assumption) zA)))))⟩)) (by omega) (by omega) (by rw [hcat]; exact hT)).mono fun e w'' ⟨v', He', he, ho, hs'⟩ => ⟨(v', He'), he, by rw [← hcat]; exact ho, hs'⟩) (fun y hR => ?_)
  obtain ⟨vo, Ho⟩ := y
  dsimp only at hR ⊢
  refine qz (qA rfl) rfl (fun _ => zf rfl rfl) ?_
  refine TP.nil ?_
  refine zU (H' := [⟨g2, 58, [int .u64 x.k, int .i64 1], 2⟩, ⟨g1, 61, [int .i64 x.k, int .i64 x.t, int .i64 x.f, int .i64 x.l, slice x.A x.m x.c], 5⟩, ⟨g6, 22, [slice (some ⟨gn38, 0, none⟩) (((encF [⟨x.k, 1⟩, ⟨x.t, 8⟩, ⟨(x.m : Int), 8⟩]).length)) c38, slice x.A x.m x.c], 2⟩, ⟨gn38, 5, (encF [⟨x.k, 1⟩, ⟨x.t, 8⟩, ⟨(x.m : Int), 8⟩]).map (int .u8), c38⟩, ⟨g5, 58, [int .u64 x.k, int .i64 1, int .u64 x.t, int .i64 8, int .u64 (x.m : Int), int .i64 8], 6⟩] ++ H ++ Ho) (fun w h => h) ?_
  iterate 2 refine gx ?_
  exact qK rfl rfl (fun w hs => ⟨_, Ho, rfl, hR, (((((hs.drop (by assumption)).drop (by assumption)).drop (by assumption)).drop (by assumption)).drop (by assumption))⟩)
/-
 The code of layer 7: Encode, Size.
-/
theorem enters22 : Enters Tryz.prog 22 := ⟨_, Tryz.func22, by kernel_rfl, by kernel_rfl⟩
theorem enters26 : Enters Tryz.prog 26 := ⟨_, Tryz.func26, by kernel_rfl, by kernel_rfl⟩
theorem enters29 : Enters Tryz.prog 29 := ⟨_, Tryz.func29, by kernel_rfl, by kernel_rfl⟩
open Classical in
noncomputable def sizeI (o n : Int) (H1 H2 : List Int) (Cs : List CV) : Int := if wrongI o n Cs = 0 then ((encD o n H1 H2 (Cs.map cmC)).length : Int) else 0
theorem sizeI_0 {o n : Int} {H1 H2 : List Int} {Cs : List CV} (h : wrongI o n Cs ≠ 0) : sizeI o n H1 H2 Cs = 0 := by unfold sizeI; rw [if_neg h]
theorem sizeI_len {o n : Int} {H1 H2 : List Int} {Cs : List CV} (h : wrongI o n Cs = 0) : sizeI o n H1 H2 Cs = ((encD o n H1 H2 (Cs.map cmC)).length : Int) := by unfold sizeI; rw [if_pos h]
theorem encD_len_le {o n : Int} {H1 H2 : List Int} {Cs : List CV} {m : Nat} (h1 : H1.length = 32) (h2 : H2.length = 32) (hm : Cs.length = m) (hD : ∀ (i : Nat) (x : CV), Cs[i]? = some x → x.B.length ≤ 300) : (encD o n H1 H2 (Cs.map cmC)).length ≤ 89 + 325 * m := by
 rw [← encD_is (o := o) (n := n) (H1 := H1) (H2 := H2) rfl]
 have hc : ∀ (l : List CV), (∀ x ∈ l, x.B.length ≤ 300) → (encCs (l.map cmC)).length ≤ 325 * l.length := by
  intro l
  induction l with
  | nil => intro _; exact Nat.le_refl _
  | cons x l ih =>
   intro h
   have h3 := ih (fun y hy => h y (by simp [hy]))
   have h4 := h x (by simp)
   show (encC (cmC x) ++ encCs (l.map cmC)).length ≤ 325 * (l.length + 1)
   have h5 : (encC (cmC x)).length ≤ 325 := by
    unfold encC
    rw [List.length_append, List.length_append, be1_len, be8_len]
    split <;> rw [List.length_append, be8_len] <;> first | (rw [be8_len]; omega) | (show 1 + (8 + (8 + x.B.length)) ≤ 325; omega)
   rw [List.length_append]; omega
 have h3 := hc Cs (fun x hx => by obtain ⟨i, hi⟩ := List.mem_iff_getElem?.1 hx; exact hD i x hi)
 have e1 : (magicB ++ [1]).length = 5 := rfl
 rw [List.length_append, List.length_append, List.length_append, List.length_append, List.length_append, List.length_append, e1, be8_len, be8_len, be4_len, h1, h2]
 omega
theorem encCs_take_le {Cs : List CV} {i : Nat} : (encCs ((Cs.take i).map cmC)).length ≤ (encCs (Cs.map cmC)).length := by
 have h : Cs.map cmC = (Cs.take i).map cmC ++ (Cs.drop i).map cmC := by rw [← List.map_append, List.take_append_drop]
 rw [h, encCs_app, List.length_append]; omega
theorem encCs_count (l : List CM) : l.length ≤ (encCs l).length := by
 induction l with
 | nil => exact Nat.le_refl _
 | cons c l ih =>
  show l.length + 1 ≤ (encC c ++ encCs l).length
  have h : 1 ≤ (encC c).length := by unfold encC; rw [List.length_append, be1_len]; omega
  rw [List.length_append]; omega
theorem few_len {o n : Int} {H1 H2 : List Int} {Cs : List CV} {m : Nat} (hm : Cs.length = m) (hL : (encD o n H1 H2 (Cs.map cmC)).length ≤ 100000) : m ≤ 100000 := by
 rw [← encD_is (o := o) (n := n) (H1 := H1) (H2 := H2) rfl, List.length_append] at hL
 have h := encCs_count (Cs.map cmC)
 rw [List.length_map] at h; omega
theorem fenc_no (o n : Int) (H1 H2 : List Int) (hH1 : H1.length = 32) (hH2 : H2.length = 32) (A : Option Addr) (m c : Nat) (Cs : List CV) (hmc : m ≤ c) (hcm : c ≤ 9223372036854775807) (hN : NumsC Cs) (hL : (encD o n H1 H2 (Cs.map cmC)).length ≤ 100000) (w : World) (hC : SrcC w A m Cs) (hD : DatC w Cs) (hw : wrongI o n Cs ≠ 0) : Calls Tryz.prog 11 #[.agg (dV o n H1 H2 (slice A m c)).toArray] w fun e w' => ∃ y : Option Addr × Nat, e = .returned (.tuple #[.slice y.1 0 y.2, .int .i64 (wrongI o n Cs)]) ∧ y.2 ≤ 9223372036854775807 ∧ St w [] w' := by
 have hm7 : m ≤ 100000 := few_len hC.1 hL
 refine qL (args := [.agg (dV o n H1 H2 (slice A m c)).toArray]) Tryz.func11 rfl Tryz.ntmps11 (by simp) ?_
 refine qC [0] ?_
 iterate 2 refine gx ?_
 refine zQ (qA rfl) rfl rfl rfl (cs := dV o n H1 H2 (slice A m c)) (by simp [Value.cells]) (tot := 67) (by simp [hH1, hH2]) (fun g1 hg1 => ?_)
 iterate 8 refine gx ?_
 refine qM (qA rfl) rfl enters22 rfl rfl (v := .int .i64 (wrongI o n Cs)) (fun w hs => check7_c o n H1 H2 hH1 hH2 A m c Cs (by omega) (by omega) (by omega) hN w (hC.at_ hs (fun b hb => (qE (by show g1 ≠ b; omega) qF)))) ?_
 iterate 6 refine gx ?_
 refine qB (qA rfl) rfl (qP (qs rfl rfl rfl) hw) ?_
 iterate 2 refine gx ?_
 refine qC [1, 2, 3, 4, 11] ?_
 refine qd rfl ?_
 iterate 9 refine gx ?_
 exact TE.ret2 rfl rfl rfl (fun w hs => ⟨(none, 0), rfl, by omega, (hs.drop (by assumption))⟩)
theorem num4 {x : Int} (h : 0 ≤ x ∧ x ≤ 100000) : NumF ⟨x, 4⟩ := by unfold NumF; dsimp only; omega
theorem fit4 {x : Int} (h : 0 ≤ x ∧ x ≤ 100000) : fitV x 4 := by
 obtain ⟨y, rfl⟩ := Int.eq_ofNat_of_zero_le h.1
 refine ⟨by decide, by decide, .inr ?_⟩
 rw [show (8 * (4 : Int)) = ((32 : Nat) : Int) by decide, shr_nat (by decide), Nat.div_eq_of_lt (by omega)]; rfl
theorem fenc_yes (o n : Int) (H1 H2 : List Int) (hH1 : H1.length = 32) (hH2 : H2.length = 32) (A : Option Addr) (m c : Nat) (Cs : List CV) (hmc : m ≤ c) (hcm : c ≤ 9223372036854775807) (hN : NumsC Cs) (hL : (encD o n H1 H2 (Cs.map cmC)).length ≤ 100000) (w : World) (hC : SrcC w A m Cs) (hD : DatC w Cs) (hw : wrongI o n Cs = 0) : Calls Tryz.prog 11 #[.agg (dV o n H1 H2 (slice A m c)).toArray] w fun e w' => ∃ v He, e = .returned (.tuple #[v, .int .i64 0]) ∧ Own w.heap.size 5 .u8 v (encD o n H1 H2 (Cs.map cmC)) He ∧ St w He w' := by
 have hm7 : m ≤ 100000 := few_len hC.1 hL
 have hok := wrongI_ok hw
 have hok3 := hok.2.1
 unfold inR at hok3
 refine qL (args := [.agg (dV o n H1 H2 (slice A m c)).toArray]) Tryz.func11 rfl Tryz.ntmps11 (by simp) ?_
 refine qC [0] ?_
 iterate 2 refine gx ?_
 refine zQ (qA rfl) rfl rfl rfl (cs := dV o n H1 H2 (slice A m c)) (by simp [Value.cells]) (tot := 67) (by simp [hH1, hH2]) (fun g1 hg1 => ?_)
 iterate 8 refine gx ?_
 refine qM (qA rfl) rfl enters22 rfl rfl (v := .int .i64 (wrongI o n Cs)) (fun w hs => check7_c o n H1 H2 hH1 hH2 A m c Cs (by omega) (by omega) (by omega) hN w (hC.at_ hs (fun b hb => (qE (by show g1 ≠ b; omega) qF)))) ?_
 iterate 6 refine gx ?_
 refine qB (qA rfl) rfl (qU (qs rfl rfl rfl) (fun h => h hw)) ?_
 iterate 2 refine gx ?_
 refine qC [1, 2, 3, 4, 11] ?_
 refine qW rfl ?_
 iterate 3 refine gx ?_
 refine TC.mixG [⟨g1, 27, dV o n H1 H2 (slice A m c), 67⟩] (by kernel_rfl) [5, 4, 3, 0, 1, 1, 0, 1, 1, 3, 6, 0, 0, 0, 0, 0, 1, 0, 1, 0, 3, 6, 8, 8, 0] [3, 4, 5, 6, 7, 8, 11, 12, 13, 14, 15, 16, 17, 18, 19, 0, 1, 9, 10, 20, 21, 2, 22, 23, 24] [fun _ _ => True, fun _ _ => True, fun v d => ∃ g, v = .slice (some ⟨g, 0, none⟩) 1 1 ∧ d = [⟨g, 5, [.int .u8 1], 1⟩], fun _ _ => True, fun _ _ => True, fun _ _ => True, fun _ _ => True, fun _ _ => True, fun _ _ => True, fun v d => ∃ g, v = .slice (some ⟨g, 0, none⟩) 2 2 ∧ d = [⟨g, 58, [.int .u64 o, .int .i64 8, .int .u64 n, .int .i64 8], 4⟩], fun v e => ∃ y23 : Nat × Nat, ((encF [⟨o, 8⟩, ⟨n, 8⟩]).length ≤ y23.2 ∧ y23.2 ≤ 9223372036854775807) ∧ v = .slice (some ⟨y23.1, 0, none⟩) (((encF [⟨o, 8⟩, ⟨n, 8⟩]).length)) y23.2 ∧ e = [⟨y23.1, 5, (encF [⟨o, 8⟩, ⟨n, 8⟩]).map (int .u8), y23.2⟩], fun _ _ => True, fun _ _ => True, fun _ _ => True, fun _ _ => True, fun _ _ => True, fun _ _ => True, fun _ _ => True, fun _ _ => True, fun _ _ => True, fun v d => ∃ g, v = .slice (some ⟨g, 0, none⟩) 1 1 ∧ d = [⟨g, 58, [.int .u64 (m : Int), .int .i64 4], 2⟩], fun v e => ∃ y34 : Nat × Nat, ((encF [⟨(m : Int), 4⟩]).length ≤ y34.2 ∧ y34.2 ≤ 9223372036854775807) ∧ v = .slice (some ⟨y34.1, 0, none⟩) (((encF [⟨(m : Int), 4⟩]).length)) y34.2 ∧ e = [⟨y34.1, 5, (encF [⟨(m : Int), 4⟩]).map (int .u8), y34.2⟩], fun _ _ => True, fun _ _ => True, fun _ _ => True] (by kernel_rfl) (by kernel_rfl) ?_
 refine TG.free (qA rfl) rfl (fun _ => zE rfl Tryz.underlying27 rfl size3 rfl (off' := 0) (by first | rfl | omega)) ?_
 refine TG.gets (qA rfl) rfl (fun Z hZ => qS rfl agg3 rfl (qZ (i := 0) (ent := ⟨g1, 27, dV o n H1 H2 (slice A m c), 67⟩) (off := 0) rfl rfl (by exact app_left (i := 0) (B := H1.map (int .u8) ++ (H2.map (int .u8) ++ ([slice A m c]))) (rfl)))) ?_
 refine TG.call0 (qA rfl) rfl enters25 rfl rfl (v := .agg ([int .u64 o, int .i64 8]).toArray) (fun Z w hZ hs => length_c o (by omega) w) ?_
 refine TG.free (qA rfl) rfl (fun _ => zE rfl Tryz.underlying27 rfl size3 rfl (off' := 1) (by first | rfl | omega)) ?_
 refine TG.gets (qA rfl) rfl (fun Z hZ => qS rfl agg3 rfl (qZ (i := 0) (ent := ⟨g1, 27, dV o n H1 H2 (slice A m c), 67⟩) (off := 1) rfl rfl (by exact app_left (i := 1) (B := H1.map (int .u8) ++ (H2.map (int .u8) ++ ([slice A m c]))) (rfl)))) ?_
 refine TG.call0 (qA rfl) rfl enters25 rfl rfl (v := .agg ([int .u64 n, int .i64 8]).toArray) (fun Z w hZ hs => length_c n (by omega) w) ?_
 refine TG.free (qA rfl) rfl (fun _ => zE rfl Tryz.underlying27 rfl size24 rfl (off' := 2) (by first | rfl | omega)) ?_
 refine TG.free (qA rfl) rfl (fun _ => Gets.sliceA rfl Tryz.underlying24 size5 rfl bnd.dflt bnd.dflt (by omega) (by omega) (cutA_zero _ _ _) (ln := 32) (cp := 32) (by omega) (by omega)) ?_
 refine TG.free (qA rfl) rfl (fun _ => zE rfl Tryz.underlying27 rfl size24 rfl (off' := 34) (by first | rfl | omega)) ?_
 refine TG.free (qA rfl) rfl (fun _ => Gets.sliceA rfl Tryz.underlying24 size5 rfl bnd.dflt bnd.dflt (by omega) (by omega) (cutA_zero _ _ _) (ln := 32) (cp := 32) (by omega) (by omega)) ?_
 refine TG.free (qA rfl) rfl (fun _ => zE rfl Tryz.underlying27 rfl size25 rfl (off' := 66) (by first | rfl | omega)) ?_
 refine TG.gets (qA rfl) rfl (fun Z hZ => qS rfl agg25 rfl (qZ (i := 0) (ent := ⟨g1, 27, dV o n H1 H2 (slice A m c), 67⟩) (off := 66) rfl rfl (by exact app_right (a := 2) (i := 64) (rfl) (app_right (a := 32) (i := 32) (ints_len hH1) (app_right (a := 32) (i := 0) (ints_len hH2) (rfl)))))) ?_
 refine TG.free (qA rfl) rfl (fun _ => Gets.lenSlice rfl Tryz.underlying25 rfl) ?_
 refine TG.gets (qA rfl) rfl (fun Z hZ => qt rfl Tryz.underlying3 Tryz.underlying37 rfl (r := (m : Int)) (wu64 rfl (by omega))) ?_
 refine TG.free (qA rfl) rfl (fun _ => qm rfl (vs := [(0, int .u64 (m : Int)), (1, int .i64 4)]) rfl (fun w => by first | rfl | kernel_rfl) (v := .agg ([int .u64 (m : Int), int .i64 4]).toArray)) ?_
 refine TG.buildG (qA rfl) rfl rfl Tryz.underlying22 size5 zero5 rfl (by decide) (by decide) (cells := #[.int .u8 71, .int .u8 82, .int .u8 70, .int .u8 84]) (by kernel_rfl) (cs := magicB.map (int .u8)) rfl (fun gm hgm => ?_)
 refine TG.mark (qA rfl) rfl rfl Tryz.underlying22 Tryz.underlying5 rfl ?_
 refine TG.buildSlice (qA rfl) rfl rfl Tryz.underlying109 size58 zero58 rfl (by decide) (by decide) (cells := #[.int .u64 o, .int .i64 8, .int .u64 n, .int .i64 8]) (tot := 4) (by kernel_rfl) (cs := [.int .u64 o, .int .i64 8, .int .u64 n, .int .i64 8]) rfl rfl (fun g2 hg2 => ?_)
 refine TG.call6 (ι := Nat × Nat) (V := fun y23 => .slice (some ⟨y23.1, 0, none⟩) (((encF [⟨o, 8⟩, ⟨n, 8⟩]).length)) y23.2) (R := fun y23 => (encF [⟨o, 8⟩, ⟨n, 8⟩]).length ≤ y23.2 ∧ y23.2 ≤ 9223372036854775807) (E := fun y23 => [⟨y23.1, 5, (encF [⟨o, 8⟩, ⟨n, 8⟩]).map (int .u8), y23.2⟩]) (qA rfl) rfl enters24 rfl rfl (fun Z w hZ hs => (show Calls Tryz.prog 24 #[.slice (some ⟨g2, 0, none⟩) 2 2] w (fun e w' => ∃ y23 : Nat × Nat, e = .returned (.slice (some ⟨y23.1, 0, none⟩) (((encF [⟨o, 8⟩, ⟨n, 8⟩]).length)) y23.2) ∧ ((encF [⟨o, 8⟩, ⟨n, 8⟩]).length ≤ y23.2 ∧ y23.2 ≤ 9223372036854775807) ∧ w.heap.size ≤ (⟨y23.1, 5, (encF [⟨o, 8⟩, ⟨n, 8⟩]).map (int .u8), y23.2⟩ : Ent).g ∧ St w [⟨y23.1, 5, (encF [⟨o, 8⟩, ⟨n, 8⟩]).map (int .u8), y23.2⟩] w') from numbers_o [⟨o, 8⟩, ⟨n, 8⟩] (some ⟨g2, 0, none⟩) 2 2 w (lies_srcF (Fs := [⟨o, 8⟩, ⟨n, 8⟩]) (hs.has (⟨g2, 58, [int .u64 o, int .i64 8, int .u64 n, int .i64 8], 4⟩) (by simp)) rfl rfl) (numsF_of (by simp only [List.mem_cons, List.not_mem_nil, or_false, forall_eq_or_imp, forall_eq]; exact ⟨num8 hok.2.1.1, num8 hok.2.1.2⟩)) (by omega) (by omega) (by omega) (by unfold fitAll; simp only [List.mem_cons, List.not_mem_nil, or_false, forall_eq_or_imp, forall_eq]; exact ⟨fit8' _, fit8' _⟩) (by rw [encF_2]; omega)).mono fun e w' ⟨x, he, hR, hE, hw⟩ => ⟨x, he, hR, fresh_one hE, hw⟩) (fun y23 hn23 hgn23 => ?_)
 have hgn23 := fresh_head hgn23
 obtain ⟨gn23, c23⟩ := y23
 dsimp only at hn23 hgn23 ⊢
 refine TG.buildSlice (qA rfl) rfl rfl Tryz.underlying109 size58 zero58 rfl (by decide) (by decide) (cells := #[.int .u64 (m : Int), .int .i64 4]) (tot := 2) (by kernel_rfl) (cs := [.int .u64 (m : Int), .int .i64 4]) rfl rfl (fun g3 hg3 => ?_)
 refine TG.call6 (ι := Nat × Nat) (V := fun y34 => .slice (some ⟨y34.1, 0, none⟩) (((encF [⟨(m : Int), 4⟩]).length)) y34.2) (R := fun y34 => (encF [⟨(m : Int), 4⟩]).length ≤ y34.2 ∧ y34.2 ≤ 9223372036854775807) (E := fun y34 => [⟨y34.1, 5, (encF [⟨(m : Int), 4⟩]).map (int .u8), y34.2⟩]) (qA rfl) rfl enters24 rfl rfl (fun Z w hZ hs => (show Calls Tryz.prog 24 #[.slice (some ⟨g3, 0, none⟩) 1 1] w (fun e w' => ∃ y34 : Nat × Nat, e = .returned (.slice (some ⟨y34.1, 0, none⟩) (((encF [⟨(m : Int), 4⟩]).length)) y34.2) ∧ ((encF [⟨(m : Int), 4⟩]).length ≤ y34.2 ∧ y34.2 ≤ 9223372036854775807) ∧ w.heap.size ≤ (⟨y34.1, 5, (encF [⟨(m : Int), 4⟩]).map (int .u8), y34.2⟩ : Ent).g ∧ St w [⟨y34.1, 5, (encF [⟨(m : Int), 4⟩]).map (int .u8), y34.2⟩] w') from numbers_o [⟨(m : Int), 4⟩] (some ⟨g3, 0, none⟩) 1 1 w (lies_srcF (Fs := [⟨(m : Int), 4⟩]) (hs.has (⟨g3, 58, [int .u64 (m : Int), int .i64 4], 2⟩) (by simp)) rfl rfl) (numsF_of (by simp only [List.mem_cons, List.not_mem_nil, or_false, forall_eq_or_imp, forall_eq]; exact num4 (by omega))) (by omega) (by omega) (by omega) (by unfold fitAll; simp only [List.mem_cons, List.not_mem_nil, or_false, forall_eq_or_imp, forall_eq]; exact fit4 (by omega)) (by rw [encF_14]; omega)).mono fun e w' ⟨x, he, hR, hE, hw⟩ => ⟨x, he, hR, fresh_one hE, hw⟩) (fun y34 hn34 hgn34 => ?_)
 have hgn34 := fresh_head hgn34
 obtain ⟨gn34, c34⟩ := y34
 dsimp only at hn34 hgn34 ⊢
 refine TG.buildSlice (qA rfl) rfl rfl Tryz.underlying22 size5 zero5 rfl (by decide) (by decide) (cells := #[.int .u8 1]) (tot := 1) (by kernel_rfl) (cs := [.int .u8 1]) rfl rfl (fun g4 hg4 => ?_)
 refine TG.build8 (qA rfl) rfl rfl Tryz.underlying48 size22 zero22 rfl (by decide) (by decide) (cells := #[.slice (some ⟨gm, 0, none⟩) 4 4, .slice (some ⟨g4, 0, none⟩) 1 1, .slice (some ⟨gn23, 0, none⟩) (((encF [⟨o, 8⟩, ⟨n, 8⟩]).length)) c23, .slice (some ⟨g1, 2, none⟩) 32 32, .slice (some ⟨g1, 34, none⟩) 32 32, .slice (some ⟨gn34, 0, none⟩) (((encF [⟨(m : Int), 4⟩]).length)) c34]) (tot := 6) (by kernel_rfl) (cs := [.slice (some ⟨gm, 0, none⟩) 4 4, .slice (some ⟨g4, 0, none⟩) 1 1, .slice (some ⟨gn23, 0, none⟩) (((encF [⟨o, 8⟩, ⟨n, 8⟩]).length)) c23, .slice (some ⟨g1, 2, none⟩) 32 32, .slice (some ⟨g1, 34, none⟩) 32 32, .slice (some ⟨gn34, 0, none⟩) (((encF [⟨(m : Int), 4⟩]).length)) c34]) rfl rfl (fun g5 hg5 => ?_)
 have hcat : catP [⟨(some ⟨gm, 0, none⟩), 4, 4, magicB⟩, ⟨(some ⟨g4, 0, none⟩), 1, 1, [1]⟩, ⟨(some ⟨gn23, 0, none⟩), (((encF [⟨o, 8⟩, ⟨n, 8⟩]).length)), c23, encF [⟨o, 8⟩, ⟨n, 8⟩]⟩, ⟨(some ⟨g1, 2, none⟩), 32, 32, H1⟩, ⟨(some ⟨g1, 34, none⟩), 32, 32, H2⟩, ⟨(some ⟨gn34, 0, none⟩), (((encF [⟨(m : Int), 4⟩]).length)), c34, encF [⟨(m : Int), 4⟩]⟩] = (magicB ++ [1] ++ beV o 8 ++ beV n 8 ++ H1 ++ H2 ++ beV (m : Int) 4) := by simp [catP, encF]
 have hlP : ((magicB ++ [1] ++ beV o 8 ++ beV n 8 ++ H1 ++ H2 ++ beV (m : Int) 4)).length ≤ 100000 := by have h := hL; rw [← encD_is (o := o) (n := n) (H1 := H1) (H2 := H2) hC.1, List.length_append] at h; omega
 refine TG.call8 (ι := Value × List Ent) (V := fun y => y.1) (R := fun y => Own w.heap.size 5 .u8 y.1 (magicB ++ [1] ++ beV o 8 ++ beV n 8 ++ H1 ++ H2 ++ beV (m : Int) 4) y.2) (E := fun y => y.2) (qA rfl) rfl enters23 rfl rfl (fun w1 hs => (add_c [] (.slice none 0 0) [⟨(some ⟨gm, 0, none⟩), 4, 4, magicB⟩, ⟨(some ⟨g4, 0, none⟩), 1, 1, [1]⟩, ⟨(some ⟨gn23, 0, none⟩), (((encF [⟨o, 8⟩, ⟨n, 8⟩]).length)), c23, encF [⟨o, 8⟩, ⟨n, 8⟩]⟩, ⟨(some ⟨g1, 2, none⟩), 32, 32, H1⟩, ⟨(some ⟨g1, 34, none⟩), 32, 32, H2⟩, ⟨(some ⟨gn34, 0, none⟩), (((encF [⟨(m : Int), 4⟩]).length)), c34, encF [⟨(m : Int), 4⟩]⟩] (some ⟨g5, 0, none⟩) 6 6 [] [] w1 w1 (Own.nil _ _ _) (St.refl w1) (parts_lies (e := ⟨g5, 22, [slice (some ⟨gm, 0, none⟩) 4 4, slice (some ⟨g4, 0, none⟩) 1 1, slice (some ⟨gn23, 0, none⟩) (((encF [⟨o, 8⟩, ⟨n, 8⟩]).length)) c23, slice (some ⟨g1, 2, none⟩) 32 32, slice (some ⟨g1, 34, none⟩) 32 32, slice (some ⟨gn34, 0, none⟩) (((encF [⟨(m : Int), 4⟩]).length)) c34], 6⟩) (hs.st.has (⟨g5, 22, [slice (some ⟨gm, 0, none⟩) 4 4, slice (some ⟨g4, 0, none⟩) 1 1, slice (some ⟨gn23, 0, none⟩) (((encF [⟨o, 8⟩, ⟨n, 8⟩]).length)) c23, slice (some ⟨g1, 2, none⟩) 32 32, slice (some ⟨g1, 34, none⟩) 32 32, slice (some ⟨gn34, 0, none⟩) (((encF [⟨(m : Int), 4⟩]).length)) c34], 6⟩) (by simp)) rfl rfl (by simp only [List.mem_cons, List.not_mem_nil, or_false, forall_eq_or_imp, forall_eq]; exact ⟨⟨by first | exact trivial | rfl, GEnt.src (hs.ds _ (List.mem_singleton.2 rfl)).1 rfl rfl⟩, ⟨by first | exact trivial | rfl, zT (W := [1]) (hs.st.has (⟨g4, 5, [int .u8 1], 1⟩) (by simp)) rfl⟩, ⟨by first | exact trivial | rfl, zT (W := encF [⟨o, 8⟩, ⟨n, 8⟩]) (hs.st.has (⟨gn23, 5, (encF [⟨o, 8⟩, ⟨n, 8⟩]).map (int .u8), c23⟩) (by simp)) rfl⟩, ⟨hH1, src_seg (g := g1) (t := 27) (tot := 67) (X := [int .i64 o, int .i64 n]) (R := (H2.map (int .u8) ++ [.slice A m c])) (W := H1) (hs.st.has (⟨g1, 27, dV o n H1 H2 (slice A m c), 67⟩) (by simp)) rfl hH1⟩, ⟨hH2, src_seg (g := g1) (t := 27) (tot := 67) (X := [int .i64 o, int .i64 n] ++ H1.map (int .u8)) (R := [.slice A m c]) (W := H2) (by rw [List.append_assoc]; exact (hs.st.has (⟨g1, 27, dV o n H1 H2 (slice A m c), 67⟩) (by simp))) (by simp [hH1]) hH2⟩, ⟨by first | exact trivial | rfl, zT (W := encF [⟨(m : Int), 4⟩]) (hs.st.has (⟨gn34, 5, (encF [⟨(m : Int), 4⟩]).map (int .u8), c34⟩) (by simp)) rfl⟩⟩)) (by omega) (by omega) (by rw [hcat]; show 0 + _ ≤ _; omega)).mono fun e w' ⟨v', He', he, ho, hs'⟩ => ⟨(v', He'), he, by rw [← hcat]; exact own_mono ho hs.st.size, ho.new, hs'⟩) (fun y hR0 hRF => ?_)
 obtain ⟨v36, H36⟩ := y
 dsimp only at hR0 hRF ⊢
 refine TG.free (qA rfl) rfl (fun _ => zf rfl rfl) ?_
 refine TG.nil ?_
 refine zU (H' := [⟨g1, 27, dV o n H1 H2 (slice A m c), 67⟩] ++ H36) (fun w h => st_dm (A := [⟨g1, 27, dV o n H1 H2 (slice A m c), 67⟩]) (B := [⟨g2, 58, [int .u64 o, int .i64 8, int .u64 n, int .i64 8], 4⟩, ⟨gn23, 5, (encF [⟨o, 8⟩, ⟨n, 8⟩]).map (int .u8), c23⟩, ⟨g3, 58, [int .u64 (m : Int), int .i64 4], 2⟩, ⟨gn34, 5, (encF [⟨(m : Int), 4⟩]).map (int .u8), c34⟩, ⟨g4, 5, [int .u8 1], 1⟩, ⟨g5, 22, [slice (some ⟨gm, 0, none⟩) 4 4, slice (some ⟨g4, 0, none⟩) 1 1, slice (some ⟨gn23, 0, none⟩) (((encF [⟨o, 8⟩, ⟨n, 8⟩]).length)) c23, slice (some ⟨g1, 2, none⟩) 32 32, slice (some ⟨g1, 34, none⟩) 32 32, slice (some ⟨gn34, 0, none⟩) (((encF [⟨(m : Int), 4⟩]).length)) c34], 6⟩]) (C := H36) h (qx (by assumption) (qx (by assumption) (qx (by assumption) (qx (by assumption) (qx (by assumption) (qx (by assumption) zA))))))) ?_
 refine gx ?_
 refine qC [1, 2, 3, 5] ?_
 iterate 10 refine gx ?_
 refine qr (ι := WN) (fun x0 => [(5, x0.v), (38, .slice A m c), (39, .int .i64 (m : Int)), (40, .int .i64 (x0.k : Int))]) (fun x0 => [⟨g1, 27, dV o n H1 H2 (slice A m c), 67⟩] ++ x0.He) (fun x0 => m - x0.k) (fun x0 => Own w.heap.size 5 .u8 x0.v ((magicB ++ [1] ++ beV o 8 ++ beV n 8 ++ H1 ++ H2 ++ beV (m : Int) 4) ++ encCs ((Cs.take x0.k).map cmC)) x0.He ∧ x0.k ≤ m) (⟨0, v36, H36⟩ : WN) ⟨by show Own _ _ _ v36 ((magicB ++ [1] ++ beV o 8 ++ beV n 8 ++ H1 ++ H2 ++ beV (m : Int) 4) ++ []) H36; rw [List.append_nil]; exact hR0, Nat.zero_le _⟩ (qI (i := 5) rfl (qT (i := 38) rfl rfl (by first | omega | (dsimp only; omega) | rfl) (by first | omega | (dsimp only; omega) | rfl) (qH (i := 39) rfl (by first | omega | rfl) (qH (i := 40) rfl rfl (qN))))) (fun w h => h) (fun x0 hC0 => ?_)
 obtain ⟨i, v1, H1_⟩ := x0
 obtain ⟨hown, hi⟩ := hC0
 dsimp only at hown hi ⊢
 iterate 6 refine gx ?_
 refine qX rfl (fun hq1 => ?_) (fun hq1 => ?_)
 ·obtain ⟨b, off, hAe, hb, hrw⟩ := hC.some_ (i := i) (by omega)
  subst hAe
  obtain ⟨x, hx⟩ := hC.get (i := i) (by omega)
  have hnx := hN i x hx
  unfold NumC at hnx
  have hlbx := lenV_bd (k := x.k) (l := x.l) (m := x.m) (by omega) (by omega)
  have hkx := hok.1 i x hx
  have hvx := hok.2.2 i x hx
  have hdx := hD i x hx
  have hlx : ((magicB ++ [1] ++ beV o 8 ++ beV n 8 ++ H1 ++ H2 ++ beV (m : Int) 4) ++ encCs ((Cs.take i).map cmC)).length + (encC (cmC x)).length ≤ 100000 := by have h := hL; rw [← encD_is (o := o) (n := n) (H1 := H1) (H2 := H2) hC.1, List.length_append] at h; have h2 := encCs_take_le (Cs := Cs) (i := i + 1); rw [enc_take hx, List.length_append] at h2; rw [List.length_append]; omega
  iterate 6 refine gx ?_
  refine qB (qA rfl) rfl (ql rfl Tryz.underlying25 size61 rfl rfl (i := i) (by omega) (by omega) (off' := (off + 5 * i)) (by omega)) ?_
  refine qB (qA rfl) rfl (qg rfl agg61 size61 rfl rfl (zS (fun jj u h => hrw i x hx jj u h) hb (qV (qE (by show g1 ≠ b; omega) qF) (hown.fr7.ne hb)))) ?_
  refine qc (fun g6 hg6 => ?_)
  refine qn (qA rfl) rfl rfl size61 rfl (vs := [int .i64 x.k, int .i64 x.t, int .i64 x.f, int .i64 x.l, slice x.A x.m x.c]) rfl (by simp []) (by simp [Value.oneCell']) (i := 0) (ent := ⟨g6, 61, [int .i64 0, int .i64 0, int .i64 0, int .i64 0, slice none 0 0], 5⟩) rfl rfl (by simp []) (H' := [⟨g6, 61, [int .i64 x.k, int .i64 x.t, int .i64 x.f, int .i64 x.l, slice x.A x.m x.c], 5⟩, ⟨g1, 27, [int .i64 o, int .i64 n] ++ (H1.map (int .u8) ++ (H2.map (int .u8) ++ ([slice (some ⟨b, off, none⟩) m c]))), 67⟩] ++ H1_) rfl ?_
  iterate 5 refine gx ?_
  refine qY (ι := Value × List Ent) (V := fun y => y.1) (R := fun y => Own w.heap.size 5 .u8 y.1 (((magicB ++ [1] ++ beV o 8 ++ beV n 8 ++ H1 ++ H2 ++ beV (m : Int) 4) ++ encCs ((Cs.take i).map cmC)) ++ encC (cmC x)) y.2) (H' := fun y => [⟨g6, 61, [int .i64 x.k, int .i64 x.t, int .i64 x.f, int .i64 x.l, slice x.A x.m x.c], 5⟩, ⟨g1, 27, [int .i64 o, int .i64 n] ++ (H1.map (int .u8) ++ (H2.map (int .u8) ++ ([slice (some ⟨b, off, none⟩) m c]))), 67⟩] ++ y.2) (qA rfl) rfl enters26 rfl rfl (fun w' hs => (addc_c ((magicB ++ [1] ++ beV o 8 ++ beV n 8 ++ H1 ++ H2 ++ beV (m : Int) 4) ++ encCs ((Cs.take i).map cmC)) v1 x [⟨g6, 61, [int .i64 x.k, int .i64 x.t, int .i64 x.f, int .i64 x.l, slice x.A x.m x.c], 5⟩, ⟨g1, 27, [int .i64 o, int .i64 n] ++ (H1.map (int .u8) ++ (H2.map (int .u8) ++ ([slice (some ⟨b, off, none⟩) m c]))), 67⟩] H1_ w w' hown hs hkx hvx hdx.1.1 ⟨by omega, by omega⟩ (hdx.1.reads (qx (by assumption) (qx (by assumption) zA))) (by omega)).mono fun e w'' ⟨v', He', he, ho, hs'⟩ => ⟨(v', He'), he, ho, hs'⟩) (fun y hR => ?_)
  obtain ⟨vo, Ho⟩ := y
  dsimp only at hR ⊢
  iterate 4 refine gx ?_
  refine qC [5, 38, 39, 40] ?_
  refine gx ?_
  refine qB (qA rfl) rfl (qR rfl rfl rfl (r := ((i : Int) + 1)) (w64 (by omega) (by omega))) ?_
  iterate 2 refine gx ?_
  exact qj (⟨i + 1, vo, Ho⟩ : WN) (by show m - (i + 1) < m - i; omega) ⟨by show Own _ _ _ vo ((magicB ++ [1] ++ beV o 8 ++ beV n 8 ++ H1 ++ H2 ++ beV (m : Int) 4) ++ encCs ((Cs.take (i + 1)).map cmC)) Ho; rw [enc_take hx, ← List.append_assoc]; exact hR, by show i + 1 ≤ m; omega⟩ (qI (i := 5) rfl (qT (i := 38) rfl (by first | rfl | (congr 2; omega)) (by first | omega | (dsimp only; omega) | rfl) (by first | omega | (dsimp only; omega) | rfl) (qH (i := 39) rfl (by first | omega | rfl) (qH (i := 40) rfl (by show (i : Int) + 1 = ((i + 1 : Nat) : Int); omega) (qN))))) (fun w h => (h.drop (by assumption)))
 ·obtain rfl : m = i := by omega
  have htk : Cs.take m = Cs := List.take_of_length_le (by have := hC.1; omega)
  rw [htk] at hown
  iterate 13 refine gx ?_
  exact TE.ret2 rfl rfl rfl (fun w hs => ⟨_, H1_, rfl, by rw [← encD_is hC.1]; exact hown, hs.drop (by assumption)⟩)
theorem enc_size {x : CV} (hv : okV x) (hm : x.B.length = x.m) : (encC (cmC x)).length = if x.k = 1 then 25 else 17 + x.m := by
 by_cases h : x.k = 1
 ·rw [if_pos h, encC_copy h, encF_4]
 ·rw [if_neg h, encC_lit h, List.length_append, encF_3, hm]
theorem csize_c (x : CV) (hv : okV x) (hm : x.B.length = x.m) (hm2 : x.m ≤ 1000000) (w : World) : Calls Tryz.prog 29 #[.agg ([int .i64 x.k, int .i64 x.t, int .i64 x.f, int .i64 x.l, slice x.A x.m x.c]).toArray] w fun e w' => e = .returned (.int .i64 ((encC (cmC x)).length : Int)) ∧ St w [] w' := by
 refine qL (args := [.agg ([int .i64 x.k, int .i64 x.t, int .i64 x.f, int .i64 x.l, slice x.A x.m x.c]).toArray]) Tryz.func29 rfl Tryz.ntmps29 (by simp) ?_
 refine qC [0] ?_
 iterate 2 refine gx ?_
 refine qv (fun g1 hg1 => ?_)
 iterate 11 refine gx ?_
 refine qX rfl (fun h0 => ?_) (fun h0 => ?_)
 ·iterate 7 refine gx ?_
  exact qK rfl rfl (fun w hs => ⟨ret_i (by rw [enc_size hv hm]; simp [h0] <;> omega), (hs.drop (by assumption))⟩)
 ·iterate 7 refine gx ?_
  refine qB (qA rfl) rfl (qR rfl rfl rfl (r := ((x.m : Int) + 17)) (w64 (by omega) (by omega))) ?_
  iterate 4 refine gx ?_
  exact qK rfl rfl (fun w hs => ⟨ret_i (by rw [enc_size hv hm]; simp [h0] <;> omega), (hs.drop (by assumption))⟩)
theorem fsize_no (o n : Int) (H1 H2 : List Int) (hH1 : H1.length = 32) (hH2 : H2.length = 32) (A : Option Addr) (m c : Nat) (Cs : List CV) (hmc : m ≤ c) (hcm : c ≤ 9223372036854775807) (hN : NumsC Cs) (hL : (encD o n H1 H2 (Cs.map cmC)).length ≤ 100000) (w : World) (hC : SrcC w A m Cs) (hD : DatC w Cs) (hw : wrongI o n Cs ≠ 0) : Calls Tryz.prog 13 #[.agg (dV o n H1 H2 (slice A m c)).toArray] w fun e w' => e = .returned (.int .i64 (sizeI o n H1 H2 Cs)) ∧ St w [] w' := by
 have hm7 : m ≤ 100000 := few_len hC.1 hL
 refine qL (args := [.agg (dV o n H1 H2 (slice A m c)).toArray]) Tryz.func13 rfl Tryz.ntmps13 (by simp) ?_
 refine qC [0] ?_
 iterate 2 refine gx ?_
 refine zQ (qA rfl) rfl rfl rfl (cs := dV o n H1 H2 (slice A m c)) (by simp [Value.cells]) (tot := 67) (by simp [hH1, hH2]) (fun g1 hg1 => ?_)
 iterate 7 refine gx ?_
 refine qM (qA rfl) rfl enters22 rfl rfl (v := .int .i64 (wrongI o n Cs)) (fun w hs => check7_c o n H1 H2 hH1 hH2 A m c Cs (by omega) (by omega) (by omega) hN w (hC.at_ hs (fun b hb => (qE (by show g1 ≠ b; omega) qF)))) ?_
 refine qB (qA rfl) rfl (qP (qs rfl rfl rfl) hw) ?_
 iterate 2 refine gx ?_
 refine qd rfl ?_
 iterate 7 refine gx ?_
 exact qK rfl rfl (fun w hs => ⟨ret_i ((sizeI_0 hw).symm), (hs.drop (by assumption))⟩)
theorem fsize_yes (o n : Int) (H1 H2 : List Int) (hH1 : H1.length = 32) (hH2 : H2.length = 32) (A : Option Addr) (m c : Nat) (Cs : List CV) (hmc : m ≤ c) (hcm : c ≤ 9223372036854775807) (hN : NumsC Cs) (hL : (encD o n H1 H2 (Cs.map cmC)).length ≤ 100000) (w : World) (hC : SrcC w A m Cs) (hD : DatC w Cs) (hw : wrongI o n Cs = 0) : Calls Tryz.prog 13 #[.agg (dV o n H1 H2 (slice A m c)).toArray] w fun e w' => e = .returned (.int .i64 (sizeI o n H1 H2 Cs)) ∧ St w [] w' := by
 have hm7 : m ≤ 100000 := few_len hC.1 hL
 have hok := wrongI_ok hw
 refine qL (args := [.agg (dV o n H1 H2 (slice A m c)).toArray]) Tryz.func13 rfl Tryz.ntmps13 (by simp) ?_
 refine qC [0] ?_
 iterate 2 refine gx ?_
 refine zQ (qA rfl) rfl rfl rfl (cs := dV o n H1 H2 (slice A m c)) (by simp [Value.cells]) (tot := 67) (by simp [hH1, hH2]) (fun g1 hg1 => ?_)
 iterate 7 refine gx ?_
 refine qM (qA rfl) rfl enters22 rfl rfl (v := .int .i64 (wrongI o n Cs)) (fun w hs => check7_c o n H1 H2 hH1 hH2 A m c Cs (by omega) (by omega) (by omega) hN w (hC.at_ hs (fun b hb => (qE (by show g1 ≠ b; omega) qF)))) ?_
 refine qB (qA rfl) rfl (qU (qs rfl rfl rfl) (fun h => h hw)) ?_
 iterate 2 refine gx ?_
 refine qW rfl ?_
 iterate 16 refine gx ?_
 refine qC [2, 3, 10, 11, 12] ?_
 refine gx ?_
 refine qr (ι := Nat) (fun i => [(3, .int .i64 (((encCs ((Cs.take (i)).map cmC)).length : Int) + 89)), (10, .slice A m c), (11, .int .i64 (m : Int)), (12, .int .i64 (i : Int))]) (fun i => [⟨g1, 27, dV o n H1 H2 (slice A m c), 67⟩]) (fun i => m - i) (fun i => i ≤ m) 0 (Nat.zero_le _) (qH (i := 3) rfl (by show (89 : Int) = 89 + ((0 : Nat) : Int); omega) (qT (i := 10) rfl rfl (by first | omega | (dsimp only; omega) | rfl) (by first | omega | (dsimp only; omega) | rfl) (qH (i := 11) rfl (by first | omega | rfl) (qH (i := 12) rfl (by first | omega | rfl) (qN))))) (fun w h => h) (fun i hC0 => ?_)
 iterate 6 refine gx ?_
 refine qX rfl (fun hq1 => ?_) (fun hq1 => ?_)
 ·obtain ⟨b, off, hAe, hb, hrw⟩ := hC.some_ (i := i) (by omega)
  subst hAe
  obtain ⟨x, hx⟩ := hC.get (i := i) (by omega)
  have hnx := hN i x hx
  unfold NumC at hnx
  have hlbx := lenV_bd (k := x.k) (l := x.l) (m := x.m) (by omega) (by omega)
  have hvx := hok.2.2 i x hx
  have hdx := hD i x hx
  have hlx : (encCs ((Cs.take i).map cmC)).length + (encC (cmC x)).length ≤ 100000 := by have h := hL; rw [← encD_is (o := o) (n := n) (H1 := H1) (H2 := H2) hC.1, List.length_append] at h; have h2 := encCs_take_le (Cs := Cs) (i := i + 1); rw [enc_take hx, List.length_append] at h2; omega
  have hmx := encC_room hvx hdx.1.1
  have hdl := hdx.1.1
  iterate 6 refine gx ?_
  refine qB (qA rfl) rfl (ql rfl Tryz.underlying25 size61 rfl rfl (i := i) (by omega) (by omega) (off' := (off + 5 * i)) (by omega)) ?_
  refine qB (qA rfl) rfl (qg rfl agg61 size61 rfl rfl (zS (fun jj u h => hrw i x hx jj u h) hb (qE (by show g1 ≠ b; omega) qF))) ?_
  refine qc (fun g2 hg2 => ?_)
  iterate 6 refine gx ?_
  refine qM (qA rfl) rfl enters29 rfl rfl (v := .int .i64 ((encC (cmC x)).length : Int)) (fun w hs => csize_c x hvx hdx.1.1 (by omega) w) ?_
  refine qB (qA rfl) rfl (qR rfl rfl rfl (r := (((encCs ((Cs.take (i)).map cmC)).length : Int) + ((encC (cmC x)).length : Int) + 89)) (w64 (by omega) (by omega))) ?_
  iterate 4 refine gx ?_
  refine qC [3, 10, 11, 12] ?_
  refine gx ?_
  refine qB (qA rfl) rfl (qR rfl rfl rfl (r := ((i : Int) + 1)) (w64 (by omega) (by omega))) ?_
  iterate 2 refine gx ?_
  exact qj (i + 1) (by omega) (by omega) (qH (i := 3) rfl (by rw [enc_take hx, List.length_append]; omega) (qT (i := 10) rfl (by first | rfl | (congr 2; omega)) (by first | omega | (dsimp only; omega) | rfl) (by first | omega | (dsimp only; omega) | rfl) (qH (i := 11) rfl (by first | omega | rfl) (qH (i := 12) rfl (by first | omega | rfl) (qN))))) (fun w h => (h.drop (by assumption)))
 ·obtain rfl : m = i := by omega
  have htk : Cs.take m = Cs := List.take_of_length_le (by have := hC.1; omega)
  iterate 12 refine gx ?_
  exact qK rfl rfl (fun w hs => ⟨ret_i (by rw [sizeI_len hw, ← encD_is (o := o) (n := n) (H1 := H1) (H2 := H2) hC.1, htk, List.length_append]; simp [be8_len, be4_len, hH1, hH2, magicB]; omega), (hs.drop (by assumption))⟩)
theorem fsize_c (o n : Int) (H1 H2 : List Int) (hH1 : H1.length = 32) (hH2 : H2.length = 32) (A : Option Addr) (m c : Nat) (Cs : List CV) (hmc : m ≤ c) (hcm : c ≤ 9223372036854775807) (hN : NumsC Cs) (hL : (encD o n H1 H2 (Cs.map cmC)).length ≤ 100000) (w : World) (hC : SrcC w A m Cs) (hD : DatC w Cs) : Calls Tryz.prog 13 #[.agg (dV o n H1 H2 (slice A m c)).toArray] w fun e w' => e = .returned (.int .i64 (sizeI o n H1 H2 Cs)) ∧ St w [] w' := by
 by_cases hw : wrongI o n Cs = 0
 ·exact fsize_yes o n H1 H2 hH1 hH2 A m c Cs hmc hcm hN hL w hC hD hw
 ·exact fsize_no o n H1 H2 hH1 hH2 A m c Cs hmc hcm hN hL w hC hD hw
/-
 Maps with few keys, of the call's own: made, filled, looked up; and calls of method values.
-/
section
variable {P : Program} {ops : Array Oper} {Q : Exit → Act → World → Prop} {n : Sz} {w0 : World} {L L' : List (Nat × Value)} {H : List Ent}
variable {o : Oper} {rest : List Oper} {v u : Value} {x y z : Operand} {t e k : TypeId} {kq : IntKind}
theorem St.putObj {w : World} {b : Nat} {ob : Obj} (h : St w0 H w) (hb : w0.heap.size ≤ b) (hne : ∀ e ∈ H, e.g ≠ b) : St w0 H { w with heap := w.heap.setIfInBounds b ob } := by
 have hsame : ∀ c, c ≠ b → ({ w with heap := w.heap.setIfInBounds b ob } : World).heap[c]? = w.heap[c]? := by
  intro c hc
  simp only [Array.getElem?_setIfInBounds]
  rw [if_neg (fun h => hc h.symm)]
 refine ⟨h.os, h.tape, h.output, by simpa using h.size, fun d hd => (h.has d hd).of_block (hsame _ (hne d hd)), fun c hc hcn => ?_, h.apart⟩
 exact (hsame c (by omega)).trans (h.old c hc hcn)
theorem TL.makeMap (hg : Wants n ops L o) (hi : inside n o.dst = true) (ho : o.op = .makeMap t none)
  (hr : ∀ w1 b, w0.heap.size ≤ b → b < w1.heap.size → (∀ e ∈ H, e.g ≠ b) → St w0 H w1 → w1.heap[b]? = some (.map #[] 0) → TL P ops Q n w1 rest (put L o.dst (.map (some b))) H) : TL P ops Q n w0 (o :: rest) L H :=
 fun a w hf hs => wpL_wants hg.nd (hg a hf) fun K hK => by
  have hrun : (execOp a.eval o).run P w = .ok (.value (.map (some w.heap.size))) (w.alloc (.map #[] 0)) := by
   simp only [execOp, ho]
   refine run_value ?_
   simp [Instr.makeMap, newObj, Sem.run_bind, Sem.run]
  have hold : ∀ b, b < w.heap.size → (w.alloc (.map #[] 0)).heap[b]? = w.heap[b]? := fun b hb => Below.heap_alloc w _ b hb
  have hst : St w0 H (w.alloc (.map #[] 0)) := ⟨hs.os, hs.tape, hs.output, by simp; have := hs.size; omega, fun d hd => (hs.has d hd).of_block (hold _ (hs.has d hd).lt),
   fun b hb hne => (hold b (Nat.lt_of_lt_of_le hb hs.size)).trans (hs.old b hb hne), hs.apart⟩
  unfold Oper.wp; rw [hrun]
  exact hK _ _ (hr _ w.heap.size hs.size (by simp) (fun e he => by have := (hs.has e he).lt; omega) hst (heap_alloc_new w _) _ _ (hf.put o.dst _ hi) hst.self)
theorem TL.insertM {w1 : World} {H0 : List Ent} {b c : Nat} {es : Array MapEntry} {q : Int} (hw : St w0 H0 w1) (hgs : H.map Ent.g = H0.map Ent.g) (hb : w0.heap.size ≤ b) (hne : ∀ e ∈ H, e.g ≠ b) (hM : w1.heap[b]? = some (.map es c))
  (hg : Wants n ops L o) (hd : o.dst = none) (ho : o.op = .insert t x y z) (h1 : P.underlying t = some (.map k e)) (hk : P.underlying k = some (.int kq))
  (hx : ev L x = some (.map (some b))) (hy : ev L y = some (.int kq q)) (hz : ev L z = some v) (hfind : Instr.findNow (.int kq) (.int kq q) es.toList 0 = some none)
  (hr : ∀ w2, St w0 H w2 → b < w2.heap.size → w2.heap[b]? = some (.map (es.push ⟨.int kq q, v, c⟩) (c + 1)) → TL P ops Q n w2 rest L H) : TL P ops Q n w1 (o :: rest) L H :=
 fun a w hf hs => wpL_wants hg.nd (hg a hf) fun K hK => by
  have hb1 : b < w1.heap.size := (Array.getElem?_eq_some_iff.1 hM).1
  have hbm : w.heap[b]? = some (.map es c) := (hs.old b hb1 hne).trans hM
  have hrun : (execOp a.eval o).run P w = .ok .skip { w with heap := w.heap.setIfInBounds b (.map (es.push ⟨.int kq q, v, c⟩) (c + 1)) } := by
   simp only [execOp, ho, hf.eval hx, hf.eval hy, hf.eval hz]
   refine run_unit ?_
   simp [Instr.mapUpdate, Sem.run_bind, run_under h1, MapKept.run_getObj_map hbm, MapKept.run_checkKey hk (k := .int kq q) (by simp [MapKept.IsKey]), MapKept.run_findKey hk hfind, MapKept.run_setObj_map _ hbm]
  have h0 : St w0 H w := by
   have a1 : St w0 (H0 ++ []) w1 := by rw [List.append_nil]; exact hw
   have a2 : St w1 (H ++ []) w := by rw [List.append_nil]; exact hs
   have := St.turns a1 a2 hgs (by intro e he; cases he)
   simpa using this
  have hst := h0.putObj (ob := .map (es.push ⟨.int kq q, v, c⟩) (c + 1)) hb hne
  have hlt : b < w.heap.size := Nat.lt_of_lt_of_le hb1 hs.size
  unfold Oper.wp; rw [hrun]
  refine hK _ _ ?_
  rw [hd]
  exact hr _ hst (by simpa using hlt) (by simp [hlt]) _ _ hf hst.self
theorem run_lookupM {w : World} {b c : Nat} {es : Array MapEntry} {q : Int} {ck : Bool} {r : Option (Nat × Value)} {zv : Value} (hM : w.heap[b]? = some (.map es c)) (h1 : P.underlying t = some (.map k e)) (hk : P.underlying k = some (.int kq)) (hzv : (P.info? e).bind (·.zero) = some zv)
  (hfind : Instr.findNow (.int kq) (.int kq q) es.toList 0 = some r) : (Instr.lookup t (.map (some b)) (.int kq q) ck).run P w = .ok (let v := match r with | some (_, u) => u | none => zv; if ck then .tuple #[v, .bool r.isSome] else v) w := by
 cases r with
 | none => simp [Instr.lookup, Sem.run_bind, run_under h1, MapKept.run_getObj_map hM, MapKept.run_checkKey hk (k := .int kq q) (by simp [MapKept.IsKey]), MapKept.run_findKey hk hfind, run_zero hzv]
 | some p => obtain ⟨i, u⟩ := p; simp [Instr.lookup, Sem.run_bind, run_under h1, MapKept.run_getObj_map hM, MapKept.run_checkKey hk (k := .int kq q) (by simp [MapKept.IsKey]), MapKept.run_findKey hk hfind]
theorem Gets.lookYes {b c i : Nat} {es : Array MapEntry} {q : Int} {zv : Value} (hM : w0.heap[b]? = some (.map es c)) (hne : ∀ e ∈ H, e.g ≠ b) (ho : o.op = .lookup t x y true) (h1 : P.underlying t = some (.map k e)) (hk : P.underlying k = some (.int kq)) (hzv : (P.info? e).bind (·.zero) = some zv)
  (hx : ev L x = some (.map (some b))) (hy : ev L y = some (.int kq q)) (hfind : Instr.findNow (.int kq) (.int kq q) es.toList 0 = some (some (i, v))) : Gets P n w0 o L H (.tuple #[v, .bool true]) := fun a w hf hs => by
 have hbm : w.heap[b]? = some (.map es c) := (hs.old b (Array.getElem?_eq_some_iff.1 hM).1 hne).trans hM
 simp only [execOp, ho, hf.eval hx, hf.eval hy]
 refine run_value ?_
 rw [run_lookupM hbm h1 hk hzv hfind]; rfl
theorem Gets.lookNo {b c : Nat} {es : Array MapEntry} {q : Int} {zv : Value} (hM : w0.heap[b]? = some (.map es c)) (hne : ∀ e ∈ H, e.g ≠ b) (ho : o.op = .lookup t x y true) (h1 : P.underlying t = some (.map k e)) (hk : P.underlying k = some (.int kq)) (hzv : (P.info? e).bind (·.zero) = some zv)
  (hx : ev L x = some (.map (some b))) (hy : ev L y = some (.int kq q)) (hfind : Instr.findNow (.int kq) (.int kq q) es.toList 0 = some none) : Gets P n w0 o L H (.tuple #[zv, .bool false]) := fun a w hf hs => by
 have hbm : w.heap[b]? = some (.map es c) := (hs.old b (Array.getElem?_eq_some_iff.1 hM).1 hne).trans hM
 simp only [execOp, ho, hf.eval hx, hf.eval hy]
 refine run_value ?_
 rw [run_lookupM hbm h1 hk hzv hfind]; rfl
theorem find_nil {q : Int} {j : Nat} : Instr.findNow (.int kq) (.int kq q) [] j = some none := rfl
theorem find_yes {q : Int} {j c : Nat} {u : Value} {es : List MapEntry} : Instr.findNow (.int kq) (.int kq q) (⟨.int kq q, u, c⟩ :: es) j = some (some (j, u)) := by
 simp [Instr.findNow, Instr.sameNow]
theorem find_no {q q' : Int} {j c : Nat} {u : Value} {es : List MapEntry} {r : Option (Nat × Value)} (h : q ≠ q') (hr : Instr.findNow (.int kq) (.int kq q) es (j + 1) = some r) : Instr.findNow (.int kq) (.int kq q) (⟨.int kq q', u, c⟩ :: es) j = some r := by
 have hq : (q == q') = false := by simpa using h
 simp [Instr.findNow, Instr.sameNow, hq, hr]
theorem find_is {q q' : Int} {j c : Nat} {u : Value} {es : List MapEntry} (h : q = q') : Instr.findNow (.int kq) (.int kq q) (⟨.int kq q', u, c⟩ :: es) j = some (some (j, u)) := by subst h; exact find_yes
theorem run_enterG {f : FuncId} {tt : Nat} {la lb : List Value} {xs : List Operand} {ts : Array TypeId} {vs : List Value} {a : Act} {w : World} (h : Enters P f) (ho : o.op = .call { callee := .value (.tmp tt), args := xs.toArray, argTypes := ts }) (hf : Fr n L a)
  (ht : look L tt = some (.func (.func f) la.toArray lb.toArray)) (hx : evs L xs = some vs) : (execOp a.eval o).run P w = .ok (.enter f (la ++ vs ++ lb).toArray) w := by
 have hm := hf.evals hx
 have hev : a.eval (.tmp tt) = .func (.func f) la.toArray lb.toArray := hf.eval (x := .tmp tt) ht
 simp only [execOp, ho, resolve, hev, Deferred.ofValue, Sem.run_bind, Sem.run_pure, Result.andThen_ok, List.map_toArray, hm, invoke]
 simp [run_call h]
theorem TL.callG {ι : Type} {f : FuncId} {tt : Nat} {la lb : List Value} {xs : List Operand} {ts : Array TypeId} {vs : List Value} {V : ι → Value} {R : ι → Prop} {H' : ι → List Ent} (hg : Wants n ops L o) (hi : inside n o.dst = true) (h : Enters P f)
  (ho : o.op = .call { callee := .value (.tmp tt), args := xs.toArray, argTypes := ts }) (ht : look L tt = some (.func (.func f) la.toArray lb.toArray)) (hx : evs L xs = some vs)
  (hc : ∀ w, St w0 H w → Calls P f (la ++ vs ++ lb).toArray w fun e w' => ∃ i, e = .returned (V i) ∧ R i ∧ St w0 (H' i) w')
  (hr : ∀ i, R i → TL P ops Q n w0 rest (put L o.dst (V i)) (H' i)) : TL P ops Q n w0 (o :: rest) L H :=
 fun a w hf hs => wpL_wants hg.nd (hg a hf) fun K hK => by
  unfold Oper.wp; rw [run_enterG h ho hf ht hx]
  refine (hc w hs).mono ?_
  rintro e w' ⟨i, rfl, hR, hs'⟩
  exact hK _ _ (hr i hR _ _ (hf.put o.dst _ hi) hs')
theorem Gets.pairNe {kd : IntKind} {t' : TypeId} {f0 f1 : Field} {a b c d : Int} {k0 k1 : IntKind} (ho : o.op = .binOp .neq t x y t') (h1 : P.underlying t = some (.struct #[f0, f1])) (hn0 : f0.name ≠ "_") (hn1 : f1.name ≠ "_") (ho0 : f0.offset = 0) (ho1 : f1.offset = 1)
  (ht0 : P.underlying f0.type = some (.int k0)) (ht1 : P.underlying f1.type = some (.int k1)) (hsi : P.stoodInHeld t = false) (hgt : P.eqGuardType P.depth t = false)
  (hx : ev L x = some (.agg [int kd a, int kd b].toArray)) (hy : ev L y = some (.agg [int kd c, int kd d].toArray)) : Gets P n w0 o L H (.bool (decide (¬ (a = c ∧ b = d)))) := fun ac w hf hs => by
 simp only [execOp, ho, hf.eval hx, hf.eval hy]
 refine run_value ?_
 have hg := run_eqGuard_agg (P := P) w .neq t x y [int kd a, int kd b].toArray [int kd c, int kd d].toArray hgt
 have hp := fun (ty : TypeId) (kk : IntKind) (l : List Value) (i : Nat) (v : Value) (ht : P.underlying ty = some (.int kk)) (hv : l[i]? = some v) (w : World) => run_part1 (P := P) (cs := l.toArray) (isAgg_no ht rfl) (by simpa using hv) w
 simp only [Sem.run_bind, hg, Result.andThen_ok]
 rw [run_neq_struct, run_equalIn_struct w 9999 t _ _ (by rw [fieldsOf_is h1]; exact h1) hsi, fieldsOf_is h1]
 simp only [Op.eqFields, Sem.run_bind, ne_eq, hn0, hn1, not_false_eq_true, if_true, ho0, ho1,
  hp f0.type k0 [int kd a, int kd b] 0 _ ht0 rfl, hp f0.type k0 [int kd c, int kd d] 0 _ ht0 rfl, hp f1.type k1 [int kd a, int kd b] 1 _ ht1 rfl, hp f1.type k1 [int kd c, int kd d] 1 _ ht1 rfl, Result.andThen_ok]
 have e0 := run_equalIn_int (P := P) w 9998 f0.type kd k0 a c ht0
 have e1 := run_equalIn_int (P := P) w 9998 f1.type kd k1 b d ht1
 rw [show (9998 + 1) = 9999 from rfl] at e0 e1
 have q1 := hp f1.type k1 [int kd a, int kd b] 1 _ ht1 rfl
 have q2 := hp f1.type k1 [int kd c, int kd d] 1 _ ht1 rfl
 rw [e0]
 by_cases hac : a = c
 ·subst hac
  simp only [beq_self_eq_true, Result.andThen_ok, Bool.not_true, Bool.false_eq_true, if_false, Sem.run_bind, q1, q2]
  rw [e1]
  by_cases hbd : b = d
  ·subst hbd
   simp only [beq_self_eq_true, Result.andThen_ok, Bool.not_true, Bool.false_eq_true, if_false, Sem.run_pure]
   simp
  ·have : (b == d) = false := by simpa using hbd
   simp [this, hbd]
 ·have : (a == c) = false := by simpa using hac
  simp [this, hac]
end
/-
 What the code of the format's reader needs besides: a copy in a region that draws its order; results in two blocks; back to an earlier world.
-/
section
variable {P : Program} {ops : Array Oper} {Q : Exit → Act → World → Prop} {n : Sz} {w0 : World} {L L' : List (Nat × Value)} {HB H : List Ent}
variable {o : Oper} {rest : List Oper} {v u : Value} {x y z : Operand} {k m j : Nat} {t t' e : TypeId} {ks : List Nat} {kd : IntKind}
theorem TP.copy {i g off dl dc sl sc : Nat} {ent : Ent} {A : Option Addr} {B : List Int} (hg : Wants n ops L o) (hi' : inside n o.dst = true) (ho : o.op = .call { callee := .builtin .copy, args := #[x, y], argTypes := #[t, t'] })
  (h1 : P.underlying t = some (.slice e)) (hsz : (P.info? e).map (·.size) = some 1)
  (hx : ev L x = some (.slice (some ⟨g, off, none⟩) dl dc)) (hy : ev L y = some (.slice A sl sc)) (hi : (HB ++ H)[i]? = some ent) (he : ent.g = g) (hoff : off + dl ≤ ent.cs.length)
  (hsrc : ∀ w, St w0 (HB ++ H) w → Src w A sl kd B) {c : Nat} (hc : min sl dl = c)
  {cs' : List Value} (hcs : ent.cs.take off ++ (B.take c).map (int kd) ++ ent.cs.drop (off + c) = cs') {H' : List Ent} (hH : (HB ++ H).set i ⟨ent.g, ent.t, cs', ent.tot⟩ = HB ++ H')
  (hr : TP P ops Q n w0 HB ks rest (put L o.dst (.int .i64 c)) H') : TP P ops Q n w0 HB (3 :: ks) (o :: rest) L H := by
 refine TP.value (ι := Unit) (V := fun _ => .int .i64 c) (R := fun _ => True) (H' := fun _ => H') hg hi' (fun a w hf hs => ?_) fun _ _ => hr
 subst hc; subst hcs
 have hB := hsrc w hs
 have hlen : ((B.take (min sl dl)).map (int kd)).length = min sl dl := by simp; have := hB.1; omega
 obtain ⟨w', hrun, hs'⟩ := run_storeCells (P := P) (i := i) (g := g) (ent := ent) (off := off) ((B.take (min sl dl)).map (int kd)) 0 (HB ++ H) ent w he hs hi qb (by rw [hlen]; omega)
 have hrun' : (execOp a.eval o).run P w = .ok (.value (.int .i64 (min sl dl : Nat))) w' := by
  simp only [execOp, ho, resolve, invoke, builtin, Sem.run_bind, Sem.run_pure, Result.andThen_ok, List.map_toArray, List.map_cons, List.map_nil, hf.eval hx, hf.eval hy]
  have h5 : (Builtin.copy_ #[t, t'] o.type #[.slice (some ⟨g, off, none⟩) dl dc, .slice A sl sc]).run P w = .ok (.int .i64 (min sl dl : Nat)) w' := by
   unfold Builtin.copy_
   simp only [List.getElem?_toArray, List.getElem?_cons_zero, List.getElem?_cons_succ, Sem.run_bind, run_under h1, Result.andThen_ok, Builtin.lenOf, Sem.run_pure, run_size hsz]
   have h6 := run_cells (P := P) (c := sc) hB (i := Nat.min sl dl) (Nat.min_le_left _ _)
   rw [h6]
   simp only [Result.andThen_ok]
   have h7 : (storeCells ⟨g, off, none⟩ ((B.take (Nat.min sl dl)).map (int kd)) 0).run P w = .ok () w' := hrun
   rw [h7]
   rfl
  rw [h5]; rfl
 rw [hlen] at hs'
 refine ⟨(), w', hrun', trivial, ?_⟩
 rw [← hH]; simpa using hs'
theorem TE.rebase {w1 : World} {ex : Exit} {H0 H1 E : List Ent} (hw : St w0 H0 w1) (hg : H1.map Ent.g = H0.map Ent.g) (hE : Fresh w1 E) (h : TE Q ex n w0 L (H1 ++ E)) : TE Q ex n w1 L (H1 ++ E) := fun a w' hf hs => h a w' hf (by
 have h1 : St w0 (H0 ++ []) w1 := by rw [List.append_nil]; exact hw
 have := St.turns h1 hs hg hE
 rwa [List.append_nil] at this)
theorem TE.ret2CC {fn : Func} {R : Ending → World → Prop} {i j g off s g2 off2 s2 : Nat} {vs us : List Value} (hres : fn.results = #[.cell i t, .cell j t']) (hag : (isAgg t).run P = fun w => .ok true w) (hsz : (P.info? t).map (·.size) = some s)
  (hag2 : (isAgg t').run P = fun w => .ok true w) (hsz2 : (P.info? t').map (·.size) = some s2)
  (hx : look L i = some (.pointer (some ⟨g, off, none⟩))) (hl : vs.length = s) (hc : Row w0 H g off vs) (hy : look L j = some (.pointer (some ⟨g2, off2, none⟩))) (hl2 : us.length = s2) (hc2 : Row w0 H g2 off2 us)
  (h : ∀ w, St w0 H w → R (.returned (.tuple #[.agg vs.toArray, .agg us.toArray])) w) (hds : n.ds = [] := by rfl) : TE (bodyPost P fn R) .ret n w0 L H := fun a w hf hs => by
 refine ⟨hf.1.trans hds, .tuple #[.agg vs.toArray, .agg us.toArray], ?_, h w hs⟩
 have h1 : (a.tmps.getD i undef) = .pointer (some ⟨g, off, none⟩) := by simp [Array.getD_eq_getD_getElem?, hf.2.2 i _ hx]
 have h3 : (a.tmps.getD j undef) = .pointer (some ⟨g2, off2, none⟩) := by simp [Array.getD_eq_getD_getElem?, hf.2.2 j _ hy]
 have h2 := run_loadCells (P := P) (w := w) (b := g) (off := off) s 0 #[] vs hl (fun j u hu => by rw [Nat.zero_add]; exact hc w hs j u hu)
 have h4 := run_loadCells (P := P) (w := w) (b := g2) (off := off2) s2 0 #[] us hl2 (fun j u hu => by rw [Nat.zero_add]; exact hc2 w hs j u hu)
 simp only [results, hres]
 simp [Sem.run_bind, loadVar, hag, hag2, run_size hsz, run_size hsz2, loadCells]
 simp only [Array.getD_eq_getD_getElem?] at h1 h3
 simp [h1, h3, asAddr, h2, h4]
end
def OwnL (N : Nat) (Es : List CV) (HD : List Ent) : Prop := (∀ e ∈ HD, N ≤ e.g) ∧ NumsC Es ∧ ∀ w : World, (∀ e ∈ HD, e.lies w) → DatC w Es
theorem OwnL.nil (N : Nat) : OwnL N [] [] := ⟨(fun e he => by cases he), (fun i x hx => by simp at hx), (fun w _ i x hx => by simp at hx)⟩
theorem OwnL.snoc {N t : Nat} {Es : List CV} {HD He : List Ent} {y : CV} (h : OwnL N Es HD) (hy : Own N t .u8 (.slice y.A y.m y.c) y.B He) (hn : NumC y) (hb : Bytes y.B) : OwnL N (Es ++ [y]) (HD ++ He) := by
 refine ⟨fun e he => (List.mem_append.1 he).elim (h.1 e) (hy.new e), fun i x hx => ?_, fun w hw i x hx => ?_⟩
 ·rcases List.mem_append.1 (List.mem_of_getElem? hx) with hm | hm
  ·obtain ⟨q, hq⟩ := List.mem_iff_getElem?.1 hm
   exact h.2.1 q x hq
  ·rw [List.mem_singleton.1 hm]; exact hn
 ·rcases List.mem_append.1 (List.mem_of_getElem? hx) with hm | hm
  ·obtain ⟨q, hq⟩ := List.mem_iff_getElem?.1 hm
   exact h.2.2 w (fun e he => hw e (List.mem_append.2 (.inl he))) q x hq
  ·rw [List.mem_singleton.1 hm]
   exact ⟨hy.srcOf fun e he => hw e (List.mem_append.2 (.inr he)), hb⟩
theorem ownD_of {N t m c : Nat} {A : Option Addr} {Es : List CV} {HD HS : List Ent} (h1 : OwnS N t 5 (.slice A m c) m (flatC Es) HS) (h2 : OwnL N Es HD) : OwnD N A m Es (HD ++ HS) := by
 refine ⟨fun e he => (List.mem_append.1 he).elim (h2.1 e) (h1.new e), h2.2.1, ?_, fun w hw => ⟨h1.srcC fun e he => hw e (List.mem_append.2 (.inr he)), h2.2.2 w fun e he => hw e (List.mem_append.2 (.inl he))⟩⟩
 rcases h1.2 with ⟨_, h3, _⟩ | ⟨g, cap, h3, _⟩
 ·exact .inl h3
 ·cases h3; exact .inr ⟨g, 0, rfl⟩
theorem OwnL.mono {N N' : Nat} {Es : List CV} {HD : List Ent} (h : OwnL N' Es HD) (hN : N ≤ N') : OwnL N Es HD := ⟨fun e he => Nat.le_trans hN (h.1 e he), h.2⟩
theorem rCmd_bad {B : List Int} {s : RS} {x : Int × RS} (hx : rUint B s 1 = x) (h1 : ¬ x.1 = 1) (h2 : ¬ x.1 = 2) : (rCmd B s).2 = rFail x.2 11 (s.k : Int) ∧ (rFail x.2 11 (s.k : Int)).co ≠ 0 := by
 have hz : kindF x.2 x.1 s.k = rFail x.2 11 (s.k : Int) ∧ (rFail x.2 11 (s.k : Int)).co ≠ 0 := by
  by_cases h : x.2.co = 0
  ·refine ⟨by unfold kindF; rw [if_pos ⟨h, h1, h2⟩], ?_⟩
   unfold rFail; rw [if_pos ⟨h, by decide⟩]; show (11 : Int) ≠ 0; decide
  ·rw [kindF_dead h, rFail_dead h]; exact ⟨rfl, h⟩
 refine ⟨?_, hz.2⟩
 unfold rCmd
 dsimp only
 rw [hx, hz.1, if_neg h1]
 simp only [rLen_dead hz.2, rBytes_dead hz.2]
theorem RI.po0 {B : List Int} {s : RS} (h : RI B s) : (s.co = 0 ∧ s.po = 0) ↔ s.co = 0 := ⟨fun h => h.1, fun h0 => ⟨h0, (h.2.resolve_right fun h2 => h2.1 h0).2⟩⟩
theorem rBytes_bytes {B : List Int} (hB : Bytes B) (s : RS) (n : Nat) : Bytes (rBytes B s n).1 := by
 unfold rBytes
 split
 ·split
  ·intro x hx; cases hx
  ·exact (hB.drop _).take _
 ·intro x hx; cases hx
theorem rBytes_len {B : List Int} (s : RS) (n : Nat) : (rBytes B s n).1.length ≤ B.length := by
 unfold rBytes
 split
 ·split
  ·exact Nat.zero_le _
  ·show ((B.drop s.k).take n).length ≤ _; rw [List.length_take, List.length_drop]; omega
 ·exact Nat.zero_le _
theorem St.trans7 {w0 w1 w : World} {H0 H1 : List Ent} (h1 : St w0 H0 w1) (h2 : St w1 H1 w) (hg : H1.map Ent.g = H0.map Ent.g) : St w0 H1 w := by
 have a1 : St w0 (H0 ++ []) w1 := by rw [List.append_nil]; exact h1
 have a2 : St w1 (H1 ++ []) w := by rw [List.append_nil]; exact h2
 have := St.turns a1 a2 hg (by intro e he; cases he)
 simpa using this
theorem Src.frz {w0 w1 w : World} {H0 H1 : List Ent} {b m : Nat} {kd : IntKind} {B : List Int} (h : Src w1 (some ⟨b, 0, none⟩) m kd B) (h1 : St w0 H0 w1) (h2 : St w1 H1 w) (hg : H1.map Ent.g = H0.map Ent.g) (hb : b < w1.heap.size) (hne : ∀ e ∈ H1, e.g ≠ b) : Src w (some ⟨b, 0, none⟩) m kd B := by
 refine ⟨h.1, h.2.imp id ?_⟩
 rintro ⟨b', off, h3, h4, h5⟩
 cases h3
 refine ⟨b, 0, rfl, Nat.lt_of_lt_of_le hb h2.size, fun j hj => ?_⟩
 rw [h2.old_cell (ad := ⟨b, _, none⟩) hb hne]
 exact h5 j hj
/-
 The code of layer 7: the bodies of commands.
-/
theorem agg50 : (isAgg 50).run Tryz.prog = fun w => .ok false w := isAgg_no Tryz.underlying50 rfl
theorem enters63 : Enters Tryz.prog 63 := ⟨_, Tryz.func63, by kernel_rfl, by kernel_rfl⟩
theorem enters96 : Enters Tryz.prog 96 := ⟨_, Tryz.func96, by kernel_rfl, by kernel_rfl⟩
theorem size50 : (Tryz.prog.info? 50).map (·.size) = some 1 := by kernel_rfl
abbrev rE95 (g : Nat) (A : Option Addr) (m c : Nat) (z : RS) : Ent := ⟨g, 95, [slice A m c, int .i64 (z.k : Int), int .i64 z.co, int .i64 z.po], 4⟩
theorem copying_s (g : Nat) (A : Option Addr) (m c : Nat) (s : RS) (to : Int) (w : World) (hl : Ent.lies ⟨g, 95, rdC A m c s.k s.co s.po, rdN⟩ w) (hk : s.k ≤ m) (hmc : m ≤ c) (hcm : c ≤ 9223372036854775807) (B : List Int) (hX : SrcX w [g] A m .u8 B) (hBB : Bytes B) (hri : RI B s) (hm : m ≤ 1000000)  : Calls Tryz.prog 97 #[.agg ([Value.pointer (some ⟨g, 0, none⟩)]).toArray, .int .i64 to] w fun e w' => e = .returned (.agg ([int .i64 1, int .i64 to, int .i64 ((rLen B s).1), int .i64 ((rLen B (rLen B s).2).1), slice none 0 0]).toArray) ∧ St w [⟨g, 95, rdC A m c (rLen B (rLen B s).2).2.k (rLen B (rLen B s).2).2.co (rLen B (rLen B s).2).2.po, rdN⟩] w' := by
 have hBm := hX.1
 have hg : g < w.heap.size := hl.lt
 refine qL (args := [.agg ([Value.pointer (some ⟨g, 0, none⟩)]).toArray, .int .i64 to]) Tryz.func97 rfl Tryz.ntmps97 (by simp) ?_
 refine qC [0, 1] ?_
 refine qe (H' := [(rE95 g A m c s)]) (fun w hs => hs.take hl qF) ?_
 iterate 2 refine gx ?_
 refine qv (fun g1 hg1 => ?_)
 refine qc (fun g2 hg2 => ?_)
 iterate 3 refine gx ?_
 refine qe (H' := [⟨g2, 61, [int .i64 0, int .i64 0, int .i64 0, int .i64 0, slice none 0 0], 5⟩, ⟨g1, 64, [Value.pointer (some ⟨g, 0, none⟩)], 1⟩] ++ ([(rE95 g A m c s)])) (fun w h => h) ?_
 refine TC.mixB (HB := [Ent.mk g2 61 ([int .i64 0, int .i64 0, int .i64 0, int .i64 0, slice none 0 0]) 5, Ent.mk g1 64 ([Value.pointer (some ⟨g, 0, none⟩)]) 1]) (H := [Ent.mk g 95 ([slice A m c, int .i64 (s.k : Int), int .i64 s.co, int .i64 s.po]) 4]) (by kernel_rfl) [0, 0, 3, 0, 0, 3, 0, 0] [0, 1, 3, 4, 2, 5, 6, 7] (by kernel_rfl) ?_
 refine qz (qA rfl) rfl (fun _ => zE rfl Tryz.underlying64 rfl size50 rfl (off' := 0) (by first | rfl | omega)) ?_
 refine zO (qA rfl) rfl (fun H' => qS rfl agg50 rfl (qZ (i := 1) (ent := ⟨g1, 64, [Value.pointer (some ⟨g, 0, none⟩)], 1⟩) (off := 0) rfl rfl (by exact rfl))) ?_
 refine qz (qA rfl) rfl (fun _ => zE rfl Tryz.underlying64 rfl size50 rfl (off' := 0) (by first | rfl | omega)) ?_
 refine zO (qA rfl) rfl (fun H' => qS rfl agg50 rfl (qZ (i := 1) (ent := ⟨g1, 64, [Value.pointer (some ⟨g, 0, none⟩)], 1⟩) (off := 0) rfl rfl (by exact rfl))) ?_
 refine zW (ι := Unit) (V := fun _ => .int .i64 ((rLen B s).1)) (R := fun _ => True) (H' := fun _ => [(rE95 g A m c ((rLen B s).2))]) (qA rfl) rfl enters63 rfl rfl (fun w hs => (wlen_s g A m c s w (hs.has ((rE95 g A m c s)) (by simp)) (by omega) (by omega) (by omega) B (hX.at_ hs (fun b hb hbX => (qV (qE (by show g2 ≠ b; omega) (qE (by show g1 ≠ b; omega) qF)) (qE (fun h => hbX g (by simp) h.symm) qF)))) hBB).mono fun e w' ⟨he, hw⟩ => ⟨(), he, trivial, qi (i := 2) (e := (rE95 g A m c ((rLen B s).2))) hs rfl rfl hw⟩) (fun _ _ => ?_)
 have hvf_ := rLen_val hBB s
 have hrif_ := rLen_ri hri
 generalize hf_ : rLen B s = f_ at hvf_ hrif_ ⊢
 have hkf_ : f_.2.k ≤ m := by have := hrif_.1; omega
 refine zW (ι := Unit) (V := fun _ => .int .i64 ((rLen B f_.2).1)) (R := fun _ => True) (H' := fun _ => [(rE95 g A m c ((rLen B f_.2).2))]) (qA rfl) rfl enters63 rfl rfl (fun w hs => (wlen_s g A m c f_.2 w (hs.has ((rE95 g A m c f_.2)) (by simp)) (by omega) (by omega) (by omega) B (hX.at_ hs (fun b hb hbX => (qV (qE (by show g2 ≠ b; omega) (qE (by show g1 ≠ b; omega) qF)) (qE (fun h => hbX g (by simp) h.symm) qF)))) hBB).mono fun e w' ⟨he, hw⟩ => ⟨(), he, trivial, qi (i := 2) (e := (rE95 g A m c ((rLen B f_.2).2))) hs rfl rfl hw⟩) (fun _ _ => ?_)
 have hvl_ := rLen_val hBB f_.2
 have hril_ := rLen_ri hrif_
 generalize hl_ : rLen B f_.2 = l_ at hvl_ hril_ ⊢
 have hkl_ : l_.2.k ≤ m := by have := hril_.1; omega
 refine qz (qA rfl) rfl (fun _ => zf rfl rfl) ?_
 refine qz (qA rfl) rfl (fun _ => zf rfl rfl) ?_
 refine TP.nil ?_
 refine zU (H' := [⟨g2, 61, [int .i64 0, int .i64 0, int .i64 0, int .i64 0, slice none 0 0], 5⟩, ⟨g1, 64, [Value.pointer (some ⟨g, 0, none⟩)], 1⟩, (rE95 g A m c l_.2)]) (fun w h => h) ?_
 refine gx ?_
 refine qC [1, 4, 5, 6] ?_
 iterate 5 refine gx ?_
 refine qB (qA rfl) rfl (qm rfl (vs := [(0, int .i64 1), (1, int .i64 to), (2, int .i64 f_.1), (3, int .i64 l_.1)]) rfl (fun w => by first | rfl | kernel_rfl) (v := .agg ([int .i64 1, int .i64 to, int .i64 f_.1, int .i64 l_.1, slice none 0 0]).toArray)) ?_
 iterate 4 refine gx ?_
 exact qu rfl agg61 size61 rfl (vs := [int .i64 1, int .i64 to, int .i64 f_.1, int .i64 l_.1, slice none 0 0]) rfl (qQ (i := 0) (ent := ⟨g2, 61, [int .i64 1, int .i64 to, int .i64 f_.1, int .i64 l_.1, slice none 0 0], 5⟩) rfl rfl rfl) (fun w hs => ⟨rfl, ((hs.erase (i := 1) rfl (by assumption)).erase (i := 0) rfl (by assumption))⟩)
theorem literal_s (g : Nat) (A : Option Addr) (m c : Nat) (s : RS) (to : Int) (w : World) (hl : Ent.lies ⟨g, 95, rdC A m c s.k s.co s.po, rdN⟩ w) (hk : s.k ≤ m) (hmc : m ≤ c) (hcm : c ≤ 9223372036854775807) (B : List Int) (hX : SrcX w [g] A m .u8 B) (hBB : Bytes B) (hri : RI B s) (hm : m ≤ 1000000)  : Calls Tryz.prog 98 #[.agg ([Value.pointer (some ⟨g, 0, none⟩)]).toArray, .int .i64 to] w fun e w' => ∃ A1 c1 He, e = .returned (.agg ([int .i64 2, int .i64 to, int .i64 0, int .i64 0, slice A1 (((rBytes B (rLen B s).2 (rLen B s).1.toNat).1.length)) c1]).toArray) ∧ Own w.heap.size 5 .u8 (.slice A1 (rBytes B (rLen B s).2 (rLen B s).1.toNat).1.length c1) (rBytes B (rLen B s).2 (rLen B s).1.toNat).1 He ∧ St w ((⟨g, 95, rdC A m c (rBytes B (rLen B s).2 (rLen B s).1.toNat).2.k (rBytes B (rLen B s).2 (rLen B s).1.toNat).2.co (rBytes B (rLen B s).2 (rLen B s).1.toNat).2.po, rdN⟩ : Ent) :: He) w' := by
 have hBm := hX.1
 have hg : g < w.heap.size := hl.lt
 refine qL (args := [.agg ([Value.pointer (some ⟨g, 0, none⟩)]).toArray, .int .i64 to]) Tryz.func98 rfl Tryz.ntmps98 (by simp) ?_
 refine qC [0, 1] ?_
 refine qe (H' := [(rE95 g A m c s)]) (fun w hs => hs.take hl qF) ?_
 iterate 2 refine gx ?_
 refine qv (fun g1 hg1 => ?_)
 refine qc (fun g2 hg2 => ?_)
 iterate 3 refine gx ?_
 refine qe (H' := [⟨g1, 64, [Value.pointer (some ⟨g, 0, none⟩)], 1⟩, ⟨g2, 61, [int .i64 0, int .i64 0, int .i64 0, int .i64 0, slice none 0 0], 5⟩, (rE95 g A m c s)]) (fun w h => h.perm (perm_pick (p := [1, 0, 2]) (by kernel_rfl) rfl)) ?_
 refine qe (H' := [⟨g1, 64, [Value.pointer (some ⟨g, 0, none⟩)], 1⟩] ++ ([⟨g2, 61, [int .i64 0, int .i64 0, int .i64 0, int .i64 0, slice none 0 0], 5⟩, (rE95 g A m c s)])) (fun w h => h) ?_
 refine TC.mixB (HB := [Ent.mk g1 64 ([Value.pointer (some ⟨g, 0, none⟩)]) 1]) (H := [Ent.mk g2 61 ([int .i64 0, int .i64 0, int .i64 0, int .i64 0, slice none 0 0]) 5, Ent.mk g 95 ([slice A m c, int .i64 (s.k : Int), int .i64 s.co, int .i64 s.po]) 4]) (by kernel_rfl) [0, 0, 0, 0, 0, 3, 3, 0, 8] [0, 1, 2, 3, 4, 5, 6, 7, 8] (by kernel_rfl) ?_
 refine qz (qA rfl) rfl (fun _ => qp rfl rfl) ?_
 refine qz (qA rfl) rfl (fun _ => zE rfl Tryz.underlying64 rfl size50 rfl (off' := 0) (by first | rfl | omega)) ?_
 refine zO (qA rfl) rfl (fun H' => qS rfl agg50 rfl (qZ (i := 0) (ent := ⟨g1, 64, [Value.pointer (some ⟨g, 0, none⟩)], 1⟩) (off := 0) rfl rfl (by exact rfl))) ?_
 refine qz (qA rfl) rfl (fun _ => zE rfl Tryz.underlying64 rfl size50 rfl (off' := 0) (by first | rfl | omega)) ?_
 refine zO (qA rfl) rfl (fun H' => qS rfl agg50 rfl (qZ (i := 0) (ent := ⟨g1, 64, [Value.pointer (some ⟨g, 0, none⟩)], 1⟩) (off := 0) rfl rfl (by exact rfl))) ?_
 refine zW (ι := Unit) (V := fun _ => .int .i64 ((rLen B s).1)) (R := fun _ => True) (H' := fun _ => [⟨g2, 61, [int .i64 0, int .i64 0, int .i64 0, int .i64 0, slice none 0 0], 5⟩, (rE95 g A m c ((rLen B s).2))]) (qA rfl) rfl enters63 rfl rfl (fun w hs => (wlen_s g A m c s w (hs.has ((rE95 g A m c s)) (by simp)) (by omega) (by omega) (by omega) B (hX.at_ hs (fun b hb hbX => (qV (qE (by show g1 ≠ b; omega) qF) (qE (by show g2 ≠ b; omega) (qE (fun h => hbX g (by simp) h.symm) qF))))) hBB).mono fun e w' ⟨he, hw⟩ => ⟨(), he, trivial, qi (i := 2) (e := (rE95 g A m c ((rLen B s).2))) hs rfl rfl hw⟩) (fun _ _ => ?_)
 have hvm_ := rLen_val hBB s
 have hrim_ := rLen_ri hri
 generalize hm_ : rLen B s = m_ at hvm_ hrim_ ⊢
 have hkm_ : m_.2.k ≤ m := by have := hrim_.1; omega
 refine zW (ι := Value × List Ent) (V := fun y => y.1) (R := fun y => Own w.heap.size 5 .u8 y.1 (rBytes B m_.2 m_.1.toNat).1 y.2) (H' := fun y => [⟨g2, 61, [int .i64 0, int .i64 0, int .i64 0, int .i64 0, slice none 0 0], 5⟩, (rE95 g A m c ((rBytes B m_.2 m_.1.toNat).2))] ++ y.2) (qA rfl) rfl enters96 rfl rfl (fun w hs => (wbytes_s g A m c m_.2 m_.1 (by omega) w (hs.has ((rE95 g A m c m_.2)) (by simp)) (by omega) (by omega) (by omega) B (hX.at_ hs (fun b hb hbX => (qV (qE (by show g1 ≠ b; omega) qF) (qE (by show g2 ≠ b; omega) (qE (fun h => hbX g (by simp) h.symm) qF))))) hBB hm).mono fun e w' ⟨v, He, he, ho, hw⟩ => ⟨(v, He), he, own_mono ho hs.size, (St.turnE (i := 2) (e := (rE95 g A m c ((rBytes B m_.2 m_.1.toNat).2))) hs rfl rfl hw ho.new)⟩) (fun y hR => ?_)
 obtain ⟨vD_, HD_⟩ := y
 dsimp only at hR ⊢
 have hOD_ : Own w.heap.size 5 .u8 vD_ (rBytes B m_.2 m_.1.toNat).1 HD_ := hR
 have hbbD_ := rBytes_bytes hBB m_.2 m_.1.toNat
 have hblD_ := rBytes_len (B := B) m_.2 m_.1.toNat
 have hriD_ := rBytes_ri (n := m_.1.toNat) hrim_
 generalize hD_ : rBytes B m_.2 m_.1.toNat = D_ at hOD_ hriD_ hbbD_ hblD_ ⊢
 have hkD_ : D_.2.k ≤ m := by have := hriD_.1; omega
 obtain ⟨AD_, cD_, rfl, hcD_, hdD_⟩ := hOD_.form
 refine qz (qA rfl) rfl (fun _ => qm rfl (vs := [(0, int .i64 2), (1, int .i64 to), (4, slice AD_ D_.1.length cD_)]) rfl (fun w => by first | rfl | kernel_rfl) (v := .agg ([int .i64 2, int .i64 to, int .i64 0, int .i64 0, slice AD_ D_.1.length cD_]).toArray)) ?_
 refine TP.storeW (qA rfl) rfl rfl size61 rfl (vs := [int .i64 2, int .i64 to, int .i64 0, int .i64 0, slice AD_ D_.1.length cD_]) rfl (by simp []) (by simp [Value.oneCell']) (i := 1) (ent := ⟨g2, 61, [int .i64 0, int .i64 0, int .i64 0, int .i64 0, slice none 0 0], 5⟩) rfl rfl (by simp []) (H' := [⟨g2, 61, [int .i64 2, int .i64 to, int .i64 0, int .i64 0, slice AD_ D_.1.length cD_], 5⟩, (rE95 g A m c D_.2)] ++ HD_) rfl ?_
 refine TP.nil ?_
 refine zU (H' := [⟨g1, 64, [Value.pointer (some ⟨g, 0, none⟩)], 1⟩, ⟨g2, 61, [int .i64 2, int .i64 to, int .i64 0, int .i64 0, slice AD_ D_.1.length cD_], 5⟩, (rE95 g A m c D_.2)] ++ HD_) (fun w h => h) ?_
 iterate 2 refine gx ?_
 exact qu rfl agg61 size61 rfl (vs := [int .i64 2, int .i64 to, int .i64 0, int .i64 0, slice AD_ D_.1.length cD_]) rfl (qQ (i := 1) (ent := ⟨g2, 61, [int .i64 2, int .i64 to, int .i64 0, int .i64 0, slice AD_ D_.1.length cD_], 5⟩) rfl rfl rfl) (fun w hs => ⟨AD_, cD_, HD_, rfl, hOD_, ((hs.erase (i := 1) rfl (by assumption)).erase (i := 0) rfl (by assumption))⟩)
/-
 The code of layer 7: command.
-/
theorem enters97 : Enters Tryz.prog 97 := ⟨_, Tryz.func97, by kernel_rfl, by kernel_rfl⟩
theorem enters98 : Enters Tryz.prog 98 := ⟨_, Tryz.func98, by kernel_rfl, by kernel_rfl⟩
theorem zero167 : (Tryz.prog.info? 167).bind (·.zero) = some (.nilFunc) := by kernel_rfl
instance : AgN Tryz.prog 50 := ⟨agg50⟩
instance : Fld Tryz.prog 64 0 0 := ⟨⟨_, _, _, Tryz.underlying64, rfl, size50, rfl⟩⟩
theorem command_s (g : Nat) (A : Option Addr) (m c : Nat) (s : RS) (w : World) (hl : Ent.lies ⟨g, 95, rdC A m c s.k s.co s.po, rdN⟩ w) (hk : s.k ≤ m) (hmc : m ≤ c) (hcm : c ≤ 9223372036854775807) (B : List Int) (hX : SrcX w [g] A m .u8 B) (hBB : Bytes B) (hri : RI B s) (hm : m ≤ 1000000) (bm cc : Nat) (es : Array MapEntry) (hMp : w.heap[bm]? = some (.map es cc)) (hes : es.toList = [⟨.int .u64 1, Value.func (.func 97) #[.agg ([Value.pointer (some ⟨g, 0, none⟩)]).toArray] #[], 0⟩, ⟨.int .u64 2, Value.func (.func 98) #[.agg ([Value.pointer (some ⟨g, 0, none⟩)]).toArray] #[], 1⟩])  : Calls Tryz.prog 99 #[.agg ([Value.pointer (some ⟨g, 0, none⟩)]).toArray, .map (some bm)] w fun e w' => ∃ (y : CV) (He : List Ent), e = .returned (.agg ([int .i64 y.k, int .i64 y.t, int .i64 y.f, int .i64 y.l, slice y.A y.m y.c]).toArray) ∧ Own w.heap.size 5 .u8 (.slice y.A y.m y.c) y.B He ∧ y.B.length = y.m ∧ ((rCmd B s).2.co = 0 → cmC y = (rCmd B s).1) ∧ NumC y ∧ Bytes y.B ∧ St w ((⟨g, 95, rdC A m c (rCmd B s).2.k (rCmd B s).2.co (rCmd B s).2.po, rdN⟩ : Ent) :: He) w' := by
 have hBm := hX.1
 have hg : g < w.heap.size := hl.lt
 have hbm : bm < w.heap.size := (Array.getElem?_eq_some_iff.1 hMp).1
 have hgb : g ≠ bm := by rintro rfl; obtain ⟨cur, h1, _⟩ := hl; rw [hMp] at h1; cases h1
 refine qL (args := [.agg ([Value.pointer (some ⟨g, 0, none⟩)]).toArray, .map (some bm)]) Tryz.func99 rfl Tryz.ntmps99 (by simp) ?_
 refine qC [0, 1] ?_
 refine qe (H' := [(rE95 g A m c s)]) (fun w hs => hs.take hl qF) ?_
 iterate 2 refine gx ?_
 refine qv (fun g1 hg1 => ?_)
 refine qc (fun g2 hg2 => ?_)
 iterate 6 refine gx ?_
 refine qM (qA rfl) rfl enters52 rfl rfl (v := .int .i64 (s.k : Int)) (fun w hs => at_c g A m c s.k s.co s.po w (hs.has ((rE95 g A m c s)) (by simp))) ?_
 iterate 8 refine gx ?_
 refine qY (ι := Unit) (V := fun _ => .int .u64 ((rUint B s 1).1)) (R := fun _ => True) (H' := fun _ => [⟨g2, 61, [int .i64 0, int .i64 0, int .i64 0, int .i64 0, slice none 0 0], 5⟩, ⟨g1, 64, [Value.pointer (some ⟨g, 0, none⟩)], 1⟩, (rE95 g A m c ((rUint B s 1).2))]) (qA rfl) rfl enters20 rfl rfl (fun w hs => (wuint_s g A m c s 1 (by omega) w (hs.has ((rE95 g A m c s)) (by simp)) (by omega) (by omega) (by omega) B (hX.at_ hs (fun b hb hbX => (qE (by show g2 ≠ b; omega) (qE (by show g1 ≠ b; omega) (qE (fun h => hbX g (by simp) h.symm) qF))))) hBB).mono fun e w' ⟨he, hw⟩ => ⟨(), he, trivial, qi (i := 2) (e := (rE95 g A m c ((rUint B s 1).2))) hs rfl rfl hw⟩) (fun _ _ => ?_)
 have hvx := rUint_val1 hBB s
 have hrix := rUint_ri (n := 1) hri
 generalize hx : rUint B s 1 = x at hvx hrix ⊢
 have hkx : x.2.k ≤ m := by have := hrix.1; omega
 by_cases hk16_0 : x.1 = 1
 ·refine qB (qA rfl) rfl (Gets.lookYes hMp (qE (by show g2 ≠ bm; omega) (qE (by show g1 ≠ bm; omega) (qE (by show g ≠ bm; omega) qF))) rfl Tryz.underlying144 Tryz.underlying37 zero167 rfl rfl (show Instr.findNow _ _ _ 0 = some (some (0, Value.func (.func 97) #[.agg ([Value.pointer (some ⟨g, 0, none⟩)]).toArray] #[])) from by rw [hes]; exact (find_is hk16_0))) ?_
  iterate 7 refine gx ?_
  refine qC [2, 4, 5, 6, 7] ?_
  iterate 2 refine gx ?_
  have hk1 := hk16_0
  have hkf : kindF x.2 x.1 s.k = x.2 := kindF_F (fun h => h.2.1 hk1)
  iterate 5 refine gx ?_
  refine qW rfl ?_
  iterate 7 refine gx ?_
  refine qY (ι := Unit) (V := fun _ => .int .i64 ((rLen B x.2).1)) (R := fun _ => True) (H' := fun _ => [⟨g2, 61, [int .i64 0, int .i64 0, int .i64 0, int .i64 0, slice none 0 0], 5⟩, ⟨g1, 64, [Value.pointer (some ⟨g, 0, none⟩)], 1⟩, (rE95 g A m c ((rLen B x.2).2))]) (qA rfl) rfl enters63 rfl rfl (fun w hs => (wlen_s g A m c x.2 w (hs.has ((rE95 g A m c x.2)) (by simp)) (by omega) (by omega) (by omega) B (hX.at_ hs (fun b hb hbX => (qE (by show g2 ≠ b; omega) (qE (by show g1 ≠ b; omega) (qE (fun h => hbX g (by simp) h.symm) qF))))) hBB).mono fun e w' ⟨he, hw⟩ => ⟨(), he, trivial, qi (i := 2) (e := (rE95 g A m c ((rLen B x.2).2))) hs rfl rfl hw⟩) (fun _ _ => ?_)
  have hvt_ := rLen_val hBB x.2
  have hrit_ := rLen_ri hrix
  generalize ht_ : rLen B x.2 = t_ at hvt_ hrit_ ⊢
  have hkt_ : t_.2.k ≤ m := by have := hrit_.1; omega
  refine TL.callG (ι := Unit) (V := fun _ => .agg ([int .i64 1, int .i64 t_.1, int .i64 ((rLen B t_.2).1), int .i64 ((rLen B (rLen B t_.2).2).1), slice none 0 0]).toArray) (R := fun _ => True) (H' := fun _ => [⟨g2, 61, [int .i64 0, int .i64 0, int .i64 0, int .i64 0, slice none 0 0], 5⟩, ⟨g1, 64, [Value.pointer (some ⟨g, 0, none⟩)], 1⟩, (rE95 g A m c ((rLen B (rLen B t_.2).2).2))]) (qA rfl) rfl enters97 rfl rfl rfl (fun w hs => (copying_s g A m c t_.2 t_.1 w (hs.has ((rE95 g A m c t_.2)) (by simp)) (by omega) (by omega) (by omega) B (hX.at_ hs (fun b hb hbX => (qE (by show g2 ≠ b; omega) (qE (by show g1 ≠ b; omega) (qE (fun h => hbX g (by simp) h.symm) qF))))) hBB hrit_ hm).mono fun e w' ⟨he, hw⟩ => ⟨(), he, trivial, qi (i := 2) (e := (rE95 g A m c ((rLen B (rLen B t_.2).2).2))) hs rfl rfl hw⟩) (fun _ _ => ?_)
  have hvf_ := rLen_val hBB t_.2
  have hrif_ := rLen_ri hrit_
  generalize hf_ : rLen B t_.2 = f_ at hvf_ hrif_ ⊢
  have hkf_ : f_.2.k ≤ m := by have := hrif_.1; omega
  have hvl_ := rLen_val hBB f_.2
  have hril_ := rLen_ri hrif_
  generalize hl_ : rLen B f_.2 = l_ at hvl_ hril_ ⊢
  have hkl_ : l_.2.k ≤ m := by have := hril_.1; omega
  iterate 4 refine gx ?_
  have e0 := rCmd_copy hx hkf ht_ hk1 hf_ hl_
  rw [e0]
  exact qu rfl agg61 size61 rfl (vs := [int .i64 1, int .i64 t_.1, int .i64 f_.1, int .i64 l_.1, slice none 0 0]) rfl (qQ (i := 0) (ent := ⟨g2, 61, [int .i64 1, int .i64 t_.1, int .i64 f_.1, int .i64 l_.1, slice none 0 0], 5⟩) rfl rfl rfl) (fun w hs => ⟨(⟨1, t_.1, f_.1, l_.1, none, 0, 0, []⟩ : CV), [], rfl, Own.nil _ _ _, rfl, fun _ => by show (⟨1, t_.1, f_.1, l_.1, []⟩ : CM) = _; rw [hk1], by unfold NumC; dsimp only; omega, (fun z hz => by cases hz), ((hs.erase (i := 1) rfl (by assumption)).erase (i := 0) rfl (by assumption))⟩)
 ·by_cases hk16_1 : x.1 = 2
  ·refine qB (qA rfl) rfl (Gets.lookYes hMp (qE (by show g2 ≠ bm; omega) (qE (by show g1 ≠ bm; omega) (qE (by show g ≠ bm; omega) qF))) rfl Tryz.underlying144 Tryz.underlying37 zero167 rfl rfl (show Instr.findNow _ _ _ 0 = some (some (1, Value.func (.func 98) #[.agg ([Value.pointer (some ⟨g, 0, none⟩)]).toArray] #[])) from by rw [hes]; exact (find_no hk16_0 (find_is hk16_1)))) ?_
   iterate 7 refine gx ?_
   refine qC [2, 4, 5, 6, 7] ?_
   iterate 2 refine gx ?_
   have hk1 := hk16_0
   have hk2 := hk16_1
   have hkf : kindF x.2 x.1 s.k = x.2 := kindF_F (fun h => h.2.2 hk2)
   iterate 5 refine gx ?_
   refine qW rfl ?_
   iterate 7 refine gx ?_
   refine qY (ι := Unit) (V := fun _ => .int .i64 ((rLen B x.2).1)) (R := fun _ => True) (H' := fun _ => [⟨g2, 61, [int .i64 0, int .i64 0, int .i64 0, int .i64 0, slice none 0 0], 5⟩, ⟨g1, 64, [Value.pointer (some ⟨g, 0, none⟩)], 1⟩, (rE95 g A m c ((rLen B x.2).2))]) (qA rfl) rfl enters63 rfl rfl (fun w hs => (wlen_s g A m c x.2 w (hs.has ((rE95 g A m c x.2)) (by simp)) (by omega) (by omega) (by omega) B (hX.at_ hs (fun b hb hbX => (qE (by show g2 ≠ b; omega) (qE (by show g1 ≠ b; omega) (qE (fun h => hbX g (by simp) h.symm) qF))))) hBB).mono fun e w' ⟨he, hw⟩ => ⟨(), he, trivial, qi (i := 2) (e := (rE95 g A m c ((rLen B x.2).2))) hs rfl rfl hw⟩) (fun _ _ => ?_)
   have hvt_ := rLen_val hBB x.2
   have hrit_ := rLen_ri hrix
   generalize ht_ : rLen B x.2 = t_ at hvt_ hrit_ ⊢
   have hkt_ : t_.2.k ≤ m := by have := hrit_.1; omega
   refine TL.callG (ι := (Option Addr × Nat) × List Ent) (V := fun y => .agg ([int .i64 2, int .i64 t_.1, int .i64 0, int .i64 0, slice y.1.1 (((rBytes B (rLen B t_.2).2 (rLen B t_.2).1.toNat).1.length)) y.1.2]).toArray) (R := fun y => Own w.heap.size 5 .u8 (.slice y.1.1 (rBytes B (rLen B t_.2).2 (rLen B t_.2).1.toNat).1.length y.1.2) (rBytes B (rLen B t_.2).2 (rLen B t_.2).1.toNat).1 y.2) (H' := fun y => [⟨g2, 61, [int .i64 0, int .i64 0, int .i64 0, int .i64 0, slice none 0 0], 5⟩, ⟨g1, 64, [Value.pointer (some ⟨g, 0, none⟩)], 1⟩, (rE95 g A m c ((rBytes B (rLen B t_.2).2 (rLen B t_.2).1.toNat).2))] ++ y.2) (qA rfl) rfl enters98 rfl rfl rfl (fun w hs => (literal_s g A m c t_.2 t_.1 w (hs.has ((rE95 g A m c t_.2)) (by simp)) (by omega) (by omega) (by omega) B (hX.at_ hs (fun b hb hbX => (qE (by show g2 ≠ b; omega) (qE (by show g1 ≠ b; omega) (qE (fun h => hbX g (by simp) h.symm) qF))))) hBB hrit_ hm).mono fun e w' ⟨A1, c1, He, he, ho, hw⟩ => ⟨((A1, c1), He), he, own_mono ho hs.size, (St.turnE (i := 2) (e := (rE95 g A m c ((rBytes B (rLen B t_.2).2 (rLen B t_.2).1.toNat).2))) hs rfl rfl hw ho.new)⟩) (fun y hR => ?_)
   obtain ⟨⟨AD_, cD_⟩, HD_⟩ := y
   dsimp only at hR ⊢
   have hvm_ := rLen_val hBB t_.2
   have hrim_ := rLen_ri hrit_
   generalize hm_ : rLen B t_.2 = m_ at hvm_ hrim_ hR ⊢
   have hkm_ : m_.2.k ≤ m := by have := hrim_.1; omega
   have hbbD_ := rBytes_bytes hBB m_.2 m_.1.toNat
   have hblD_ := rBytes_len (B := B) m_.2 m_.1.toNat
   have hriD_ := rBytes_ri (n := m_.1.toNat) hrim_
   generalize hD_ : rBytes B m_.2 m_.1.toNat = D_ at hR hriD_ hbbD_ hblD_ ⊢
   have hkD_ : D_.2.k ≤ m := by have := hriD_.1; omega
   obtain ⟨AD2, cD2, hDf, hcD_, hdD_⟩ := hR.form
   cases hDf
   refine qn (qA rfl) rfl rfl size61 rfl (vs := [int .i64 2, int .i64 t_.1, int .i64 0, int .i64 0, slice AD_ D_.1.length cD_]) rfl (by simp []) (by simp [Value.oneCell']) (i := 0) (ent := ⟨g2, 61, [int .i64 0, int .i64 0, int .i64 0, int .i64 0, slice none 0 0], 5⟩) rfl rfl (by simp []) (H' := [⟨g2, 61, [int .i64 2, int .i64 t_.1, int .i64 0, int .i64 0, slice AD_ D_.1.length cD_], 5⟩, ⟨g1, 64, [Value.pointer (some ⟨g, 0, none⟩)], 1⟩, (rE95 g A m c D_.2)] ++ HD_) rfl ?_
   iterate 3 refine gx ?_
   have e0 := rCmd_lit hx hkf ht_ (by omega) hm_ hD_
   rw [e0]
   exact qu rfl agg61 size61 rfl (vs := [int .i64 2, int .i64 t_.1, int .i64 0, int .i64 0, slice AD_ D_.1.length cD_]) rfl (qQ (i := 0) (ent := ⟨g2, 61, [int .i64 2, int .i64 t_.1, int .i64 0, int .i64 0, slice AD_ D_.1.length cD_], 5⟩) rfl rfl rfl) (fun w hs => ⟨(⟨2, t_.1, 0, 0, AD_, D_.1.length, cD_, D_.1⟩ : CV), HD_, rfl, hR, rfl, fun _ => by show (⟨2, t_.1, 0, 0, D_.1⟩ : CM) = _; rw [hk2], by unfold NumC; dsimp only; omega, hbbD_, ((hs.erase (i := 1) rfl (by assumption)).erase (i := 0) rfl (by assumption))⟩)
  ·refine qB (qA rfl) rfl (Gets.lookNo hMp (qE (by show g2 ≠ bm; omega) (qE (by show g1 ≠ bm; omega) (qE (by show g ≠ bm; omega) qF))) rfl Tryz.underlying144 Tryz.underlying37 zero167 rfl rfl (show Instr.findNow _ _ _ 0 = some none from by rw [hes]; exact (find_no hk16_0 (find_no hk16_1 find_nil)))) ?_
   iterate 7 refine gx ?_
   refine qC [2, 4, 5, 6, 7] ?_
   iterate 2 refine gx ?_
   have hk1 := hk16_0
   have hk2 := hk16_1
   iterate 5 refine gx ?_
   refine qd rfl ?_
   iterate 5 refine gx ?_
   refine qY (ι := Unit) (V := fun _ => .tuple #[]) (R := fun _ => True) (H' := fun _ => [⟨g2, 61, [int .i64 0, int .i64 0, int .i64 0, int .i64 0, slice none 0 0], 5⟩, ⟨g1, 64, [Value.pointer (some ⟨g, 0, none⟩)], 1⟩, (rE95 g A m c (rFail x.2 11 (s.k : Int)))]) (qA rfl) rfl enters51 rfl rfl (fun w hs => (wfail_s g A m c x.2 11 (s.k : Int) (by decide) w (hs.has ((rE95 g A m c x.2)) (by simp))).mono fun e w' ⟨he, hw⟩ => ⟨(), he, trivial, qi (i := 2) (e := (rE95 g A m c (rFail x.2 11 (s.k : Int)))) hs rfl rfl hw⟩) (fun _ _ => ?_)
   iterate 2 refine gx ?_
   refine qC [2, 4, 6] ?_
   iterate 2 refine gx ?_
   refine qB (qA rfl) rfl (qm rfl (vs := []) rfl (fun w => by first | rfl | kernel_rfl) (v := .agg ([int .i64 0, int .i64 0, int .i64 0, int .i64 0, slice none 0 0]).toArray)) ?_
   iterate 5 refine gx ?_
   have hb0 := rCmd_bad hx hk1 hk2
   rw [hb0.1]
   exact qu rfl agg61 size61 rfl (vs := [int .i64 0, int .i64 0, int .i64 0, int .i64 0, slice none 0 0]) rfl (qQ (i := 0) (ent := ⟨g2, 61, [int .i64 0, int .i64 0, int .i64 0, int .i64 0, slice none 0 0], 5⟩) rfl rfl rfl) (fun w hs => ⟨(⟨0, 0, 0, 0, none, 0, 0, []⟩ : CV), [], rfl, Own.nil _ _ _, rfl, fun h => absurd h hb0.2, by unfold NumC; dsimp only; omega, (fun z hz => by cases hz), ((hs.erase (i := 1) rfl (by assumption)).erase (i := 0) rfl (by assumption))⟩)
/-
 The code of layer 7: commands.
-/
theorem agg64 : (isAgg 64).run Tryz.prog = fun w => .ok true w := isAgg_yes Tryz.underlying64 rfl
theorem enters99 : Enters Tryz.prog 99 := ⟨_, Tryz.func99, by kernel_rfl, by kernel_rfl⟩
theorem size64 : (Tryz.prog.info? 64).map (·.size) = some 1 := by kernel_rfl
instance : AgY Tryz.prog 64 := ⟨agg64⟩
instance : Siz Tryz.prog 64 1 := ⟨size64⟩
structure WK where
 i : Nat
 v : Value
 HS : List Ent
 HD : List Ent
 Es : List CV
theorem rIter_end {B : List Int} {s : RS} {i n : Nat} (hi : i ≤ n) (h : (rIter B s i).2.co ≠ 0) : rIter B s n = rIter B s i := by
 obtain ⟨d, rfl⟩ := Nat.exists_eq_add_of_le hi
 exact rIter_stop h d
theorem rIter_brk {B : List Int} {s : RS} {i n : Nat} {cm : CM × RS} (hi : i < n) (hcm : rCmd B (rIter B s i).2 = cm) (h : cm.2.co ≠ 0) : (rIter B s n).2 = cm.2 := by
 by_cases hco1 : (rIter B s i).2.co = 0
 ·rw [rIter_end (i := i + 1) (by omega) (by rw [rIter_succ_ok hco1, hcm]; exact h), rIter_succ_ok hco1, hcm]
 ·rw [rIter_end (i := i) (by omega) hco1, ← hcm, rCmd_dead hco1]
theorem perm_endF {A B C : List Ent} : ((A ++ B) ++ C).Perm ((A ++ C) ++ B) := by
 rw [List.append_assoc, List.append_assoc]
 exact List.Perm.append_left A List.perm_append_comm
theorem perm_in {A D S E : List Ent} : (((A ++ D) ++ S) ++ E).Perm ((A ++ (D ++ E)) ++ S) := by
 rw [← List.append_assoc A D E]; exact perm_endF
theorem OwnL.more {N : Nat} {Es : List CV} {HD He : List Ent} (h : OwnL N Es HD) (hF : ∀ e ∈ He, N ≤ e.g) : OwnL N Es (HD ++ He) := ⟨fun e he => (List.mem_append.1 he).elim (h.1 e) (hF e), h.2.1, fun w hw => h.2.2 w fun e he => hw e (List.mem_append.2 (.inl he))⟩
theorem commands_s (g : Nat) (A : Option Addr) (m c : Nat) (s : RS) (n : Int) (hn : 0 ≤ n ∧ n ≤ 4294967295) (w : World) (hl : Ent.lies ⟨g, 95, rdC A m c s.k s.co s.po, rdN⟩ w) (hk : s.k ≤ m) (hmc : m ≤ c) (hcm : c ≤ 9223372036854775807) (B : List Int) (hX : SrcX w [g] A m .u8 B) (hBB : Bytes B) (hri : RI B s) (hm : m ≤ 1000000)  : Calls Tryz.prog 65 #[.agg ([Value.pointer (some ⟨g, 0, none⟩)]).toArray, .int .i64 n] w fun e w' => ∃ A1 m1 c1 Es He, e = .returned (.slice A1 m1 c1) ∧ (m1 ≤ c1 ∧ c1 ≤ 9223372036854775807) ∧ OwnD w.heap.size A1 m1 Es He ∧ ((rIter B s n.toNat).2.co = 0 → Es.map cmC = (rIter B s n.toNat).1 ∧ Es.length = m1) ∧ St w ((⟨g, 95, rdC A m c (rIter B s n.toNat).2.k (rIter B s n.toNat).2.co (rIter B s n.toNat).2.po, rdN⟩ : Ent) :: He) w' := by
 have hBm := hX.1
 have hg : g < w.heap.size := hl.lt
 refine qL (args := [.agg ([Value.pointer (some ⟨g, 0, none⟩)]).toArray, .int .i64 n]) Tryz.func65 rfl Tryz.ntmps65 (by simp) ?_
 refine qC [0, 1] ?_
 refine qe (H' := [(rE95 g A m c s)]) (fun w hs => hs.take hl qF) ?_
 iterate 2 refine gx ?_
 refine qv (fun g1 hg1 => ?_)
 iterate 5 refine gx ?_
 refine TL.makeMap (qA rfl) rfl rfl (fun wm8 mb8 hbmb8 hlmb8 hnmb8 hwmb8 hMmb8 => ?_)
 refine gx ?_
 refine qB (qA rfl) rfl (zg rfl rfl rfl) ?_
 refine TL.insertM hwmb8 rfl hbmb8 hnmb8 hMmb8 (qA rfl) rfl rfl Tryz.underlying144 Tryz.underlying37 rfl rfl rfl (show Instr.findNow _ _ [] 0 = some none from find_nil) (fun wmb8_0 hwmb8_0 hlmb8_0 hMmb8_0 => ?_)
 refine gx ?_
 refine qB (qA rfl) rfl (zg rfl rfl rfl) ?_
 refine TL.insertM hwmb8_0 rfl hbmb8 hnmb8 hMmb8_0 (qA rfl) rfl rfl Tryz.underlying144 Tryz.underlying37 rfl rfl rfl (show Instr.findNow _ _ [⟨.int .u64 1, Value.func (.func 97) #[.agg ([Value.pointer (some ⟨g, 0, none⟩)]).toArray] #[], 0⟩] 0 = some none from (find_no (by decide) find_nil)) (fun wmb8_1 hwmb8_1 hlmb8_1 hMmb8_1 => ?_)
 iterate 4 refine gx ?_
 refine qC [1, 2, 4, 5] ?_
 refine gx ?_
 have hXm : SrcX wmb8_1 [g1, g] A m .u8 B := (hX.more hg1).at_ hwmb8_1 (fun b hb hbX => qE (fun h => hbX g1 (by simp) h.symm) (qE (fun h => hbX g (by simp) h.symm) qF))
 have hm1 : g1 ≠ mb8 := hnmb8 ⟨g1, 64, [Value.pointer (some ⟨g, 0, none⟩)], 1⟩ (by simp)
 have hm2 : g ≠ mb8 := hnmb8 (rE95 g A m c s) (by simp)
 iterate 12 refine gx ?_
 refine qr (ι := WK) (fun x0 => [(2, .pointer (some ⟨g1, 0, none⟩)), (5, .map (some mb8)), (6, x0.v), (14, .int .i64 n), (15, .int .i64 (x0.i : Int))]) (fun x0 => [⟨g1, 64, [Value.pointer (some ⟨g, 0, none⟩)], 1⟩, (rE95 g A m c ((rIter B s x0.i).2))] ++ x0.HD ++ x0.HS) (fun x0 => n.toNat - x0.i) (fun x0 => OwnS wmb8_1.heap.size 61 5 x0.v x0.i (flatC x0.Es) x0.HS ∧ OwnL wmb8_1.heap.size x0.Es x0.HD ∧ (x0.i = 0 ∨ (rIter B s x0.i).2.co = 0) ∧ ((rIter B s x0.i).2.co = 0 → x0.Es.map cmC = (rIter B s x0.i).1) ∧ (x0.i : Int) ≤ n) (⟨0, .slice none 0 0, [], [], []⟩ : WK) ⟨OwnS.nil _ _ _, OwnL.nil _, .inl rfl, fun _ => rfl, by show ((0 : Nat) : Int) ≤ n; omega⟩ (qI (i := 2) rfl (qI (i := 5) rfl (qI (i := 6) rfl (qH (i := 14) rfl (by first | rfl | omega) (qH (i := 15) rfl rfl (qN)))))) (fun w h => h) (fun x0 hC0 => ?_)
 obtain ⟨i, v, HS, HD, Es⟩ := x0
 obtain ⟨hov, hod, hal, hEs, hin⟩ := hC0
 dsimp only at hov hod hal hEs hin ⊢
 have hFS : Fresh wmb8_1 HS := hov.new
 have hFD : Fresh wmb8_1 HD := hod.1
 have hrii := rIter_ri hri i
 have hki : (rIter B s i).2.k ≤ m := by have := hrii.1; omega
 have hlE : Es.length = i := by have h := hov.1; rw [flatC_len] at h; omega
 iterate 6 refine gx ?_
 refine qX rfl (fun hq0 => ?_) (fun hq0 => ?_)
 ·iterate 8 refine gx ?_
  refine qY (ι := CV × List Ent) (V := fun y => .agg ([int .i64 y.1.k, int .i64 y.1.t, int .i64 y.1.f, int .i64 y.1.l, slice y.1.A y.1.m y.1.c]).toArray) (R := fun y => Own wmb8_1.heap.size 5 .u8 (.slice y.1.A y.1.m y.1.c) y.1.B y.2 ∧ y.1.B.length = y.1.m ∧ ((rCmd B ((rIter B s i).2)).2.co = 0 → cmC y.1 = (rCmd B ((rIter B s i).2)).1) ∧ NumC y.1 ∧ Bytes y.1.B) (H' := fun y => ([⟨g1, 64, [Value.pointer (some ⟨g, 0, none⟩)], 1⟩, (rE95 g A m c ((rCmd B ((rIter B s i).2)).2))] : List Ent) ++ (HD ++ y.2) ++ HS) (qA rfl) rfl enters99 rfl rfl (fun w' hs => (command_s g A m c ((rIter B s i).2) w' (hs.has ((rE95 g A m c ((rIter B s i).2))) (by simp)) (by omega) (by omega) (by omega) B ((hXm.at_ hs (fun b hb hbX => qV (qV (qE (fun h => hbX g1 (by simp) h.symm) (qE (fun h => hbX g (by simp) h.symm) qF)) (hFD.ne hb)) (hFS.ne hb))).sub (Y := [g]) (fun z hz => by rw [List.mem_singleton.1 hz]; simp)) hBB hrii hm mb8 _ _ ((hs.old mb8 hlmb8_1 (fun e he => by rcases List.mem_append.1 he with he | he; rcases List.mem_append.1 he with he | he; simp only [List.mem_cons, List.not_mem_nil, or_false] at he; rcases he with rfl | rfl; exact hm1; exact hm2; exact (hFD.ne hlmb8_1) e he; exact (hFS.ne hlmb8_1) e he)).trans hMmb8_1) rfl).mono fun e w'' ⟨y, He, he, ho, h1, h2, h3, h4, hw⟩ => ⟨(y, He), he, ⟨own_mono ho hs.size, h1, h2, h3, h4⟩, (St.turnE (i := 1) (e := (rE95 g A m c ((rCmd B ((rIter B s i).2)).2))) hs rfl rfl hw ho.new).perm (perm_in (A := ([⟨g1, 64, [Value.pointer (some ⟨g, 0, none⟩)], 1⟩, (rE95 g A m c ((rCmd B ((rIter B s i).2)).2))] : List Ent)) (D := HD) (S := HS) (E := He))⟩) (fun y hR => ?_)
  obtain ⟨y, Hy⟩ := y
  obtain ⟨hoy, hly, hcy, hny, hby⟩ := hR
  dsimp only at hoy hly hcy hny hby ⊢
  have hricm := rCmd_ri hrii
  generalize hcm : rCmd B ((rIter B s i).2) = cm at hcy hricm ⊢
  have hFy : Fresh wmb8_1 Hy := hoy.new
  have hFDy := hFD.app hFy
  refine qc (fun g2 hg2 => ?_)
  refine qn (qA rfl) rfl rfl size61 rfl (vs := [int .i64 y.k, int .i64 y.t, int .i64 y.f, int .i64 y.l, slice y.A y.m y.c]) rfl (by simp []) (by simp [Value.oneCell']) (i := 0) (ent := ⟨g2, 61, [int .i64 0, int .i64 0, int .i64 0, int .i64 0, slice none 0 0], 5⟩) rfl rfl (by simp []) (H' := [⟨g2, 61, [int .i64 y.k, int .i64 y.t, int .i64 y.f, int .i64 y.l, slice y.A y.m y.c], 5⟩, ⟨g1, 64, [Value.pointer (some ⟨g, 0, none⟩)], 1⟩, (rE95 g A m c cm.2)] ++ (HD ++ Hy) ++ HS) rfl ?_
  iterate 2 refine gx ?_
  refine qC [2, 5, 6, 7, 14, 15] ?_
  iterate 5 refine gx ?_
  refine qM (qA rfl) rfl enters28 rfl rfl (v := .agg ([int .i64 cm.2.co, int .i64 cm.2.po]).toArray) (fun w hs => fault_c g A m c cm.2.k cm.2.co cm.2.po w (hs.has ((rE95 g A m c cm.2)) (by simp))) ?_
  refine qB (qA rfl) rfl (qm rfl (vs := []) rfl (fun w => by first | rfl | kernel_rfl) (v := .agg ([int .i64 0, int .i64 0]).toArray)) ?_
  refine qB (qA rfl) rfl (Gets.pairNe rfl Tryz.underlying30 (by decide) (by decide) rfl rfl Tryz.underlying28 Tryz.underlying3 sih30 geq30 rfl rfl) ?_
  iterate 2 refine gx ?_
  refine qC [2, 5, 6, 7, 14, 15, 24] ?_
  refine qX rfl (fun hq1 => ?_) (fun hq1 => ?_)
  ·iterate 2 refine gx ?_
   refine TE.blockY rfl ?_
   iterate 6 refine gx ?_
   refine qB (qA rfl) rfl (qp rfl rfl) ?_
   iterate 4 refine gx ?_
   refine zU (H' := [⟨g1, 64, [Value.pointer (some ⟨g, 0, none⟩)], 1⟩, (rE95 g A m c cm.2)] ++ (HD ++ Hy) ++ HS) (fun w h => h.drop (by assumption)) ?_
   have hco2 : cm.2.co ≠ 0 := fun h => hq1 (hricm.po0.2 h)
   have hen : (rIter B s n.toNat).2 = cm.2 := rIter_brk (by omega) hcm hco2
   refine zU (H' := [⟨g1, 64, [Value.pointer (some ⟨g, 0, none⟩)], 1⟩, (rE95 g A m c cm.2)] ++ ((HD ++ Hy) ++ HS)) (fun w h => by rw [← List.append_assoc]; exact h) ?_
   refine TE.rebase hwmb8_1 rfl (hFDy.app hFS) ?_
   obtain ⟨Av, cv, rfl, hcv, hdv⟩ := hov.form
   exact qK rfl rfl (fun w hs => ⟨Av, i, cv, Es, (HD ++ Hy) ++ HS, rfl, ⟨hcv, hdv⟩, ownD_of (hov.mono hwmb8_1.size) (OwnL.mono (OwnL.more hod hFy) hwmb8_1.size), fun h => absurd h (by rw [hen]; exact hco2), by rw [hen]; exact hs.drop (by assumption)⟩)
  ·iterate 5 refine gx ?_
   refine zc (qA rfl) rfl rfl Tryz.underlying25 size61 zero61 rfl (by decide) (by decide) (cells := #[.int .i64 y.k, .int .i64 y.t, .int .i64 y.f, .int .i64 y.l, .slice y.A y.m y.c]) (tot := 5) (by kernel_rfl) (cs := [.int .i64 y.k, .int .i64 y.t, .int .i64 y.f, .int .i64 y.l, .slice y.A y.m y.c]) rfl rfl (fun g3 hg3 => ?_)
   refine TL.appendS (H := [Ent.mk g3 61 ([int .i64 y.k, int .i64 y.t, int .i64 y.f, int .i64 y.l, slice y.A y.m y.c]) 5, Ent.mk g2 61 ([int .i64 y.k, int .i64 y.t, int .i64 y.f, int .i64 y.l, slice y.A y.m y.c]) 5, Ent.mk g1 64 ([Value.pointer (some ⟨g, 0, none⟩)]) 1, Ent.mk g 95 ([slice A m c, int .i64 (cm.2.k : Int), int .i64 cm.2.co, int .i64 cm.2.po]) 4] ++ (HD ++ Hy)) (He := HS) (qA rfl) rfl rfl Tryz.underlying25 mk61 rfl (by decide) rfl rfl (s := 5) (nn := i) (m := 1) (cs := flatC Es) (news := cellsC y) hov rfl (fun w hs => lies_srcV (hs.has (⟨g3, 61, [int .i64 y.k, int .i64 y.t, int .i64 y.f, int .i64 y.l, slice y.A y.m y.c], 5⟩) (by simp))) (by intro u hu; simp only [cellsC, List.mem_cons, List.not_mem_nil, or_false] at hu; rcases hu with rfl | rfl | rfl | rfl | rfl <;> rfl) (by unfold maxLen; omega) (by omega) (fun v1 H1 hv1 => ?_)
   have hF1 : Fresh wmb8_1 H1 := hv1.new
   iterate 4 refine gx ?_
   refine qC [2, 5, 6, 14, 15] ?_
   refine gx ?_
   refine qB (qA rfl) rfl (qR rfl rfl rfl (r := ((i : Int) + 1)) (w64 (by omega) (by omega))) ?_
   iterate 2 refine gx ?_
   have hco2 : cm.2.co = 0 := hricm.po0.1 (Decidable.not_not.1 hq1)
   have hco1 : (rIter B s i).2.co = 0 := Decidable.byContradiction (fun h => by rw [rCmd_dead h] at hcm; rw [← hcm] at hco2; exact h hco2)
   have hst2 : rIter B s (i + 1) = ((rIter B s i).1 ++ [cm.1], cm.2) := by rw [rIter_succ_ok hco1, hcm]
   exact qj (⟨i + 1, v1, H1, HD ++ Hy, Es ++ [y]⟩ : WK) (by show n.toNat - (i + 1) < n.toNat - i; omega) ⟨by show OwnS _ _ 5 v1 (i + 1) (flatC (Es ++ [y])) H1; rw [flatC_app, flatC_one]; exact hv1, hod.snoc hoy hny hby, .inr (by show (rIter B s (i + 1)).2.co = 0; rw [hst2]; exact hco2), fun _ => (by show (Es ++ [y]).map cmC = (rIter B s (i + 1)).1; rw [hst2, List.map_append, hEs hco1]; show _ ++ [cmC y] = _; rw [hcy hco2]), by show ((i + 1 : Nat) : Int) ≤ n; omega⟩ (qI (i := 2) rfl (qI (i := 5) rfl (qI (i := 6) rfl (qH (i := 14) rfl (by first | rfl | omega) (qH (i := 15) rfl (by show (i : Int) + 1 = ((i + 1 : Nat) : Int); omega) (qN)))))) (fun wz h => by show St _ ([⟨g1, 64, [Value.pointer (some ⟨g, 0, none⟩)], 1⟩, (rE95 g A m c ((rIter B s (i + 1)).2))] ++ (HD ++ Hy) ++ H1) wz; rw [hst2]; exact (h.drop (by assumption)).drop (by assumption))
 ·iterate 7 refine gx ?_
  refine qB (qA rfl) rfl (qp rfl rfl) ?_
  iterate 4 refine gx ?_
  have hen : rIter B s n.toNat = rIter B s i := by rw [show n.toNat = i by omega]
  refine zU (H' := [⟨g1, 64, [Value.pointer (some ⟨g, 0, none⟩)], 1⟩, (rE95 g A m c ((rIter B s i).2))] ++ (HD ++ HS)) (fun w h => by rw [← List.append_assoc]; exact h) ?_
  refine TE.rebase hwmb8_1 rfl (hFD.app hFS) ?_
  obtain ⟨Av, cv, rfl, hcv, hdv⟩ := hov.form
  exact qK rfl rfl (fun w hs => ⟨Av, i, cv, Es, HD ++ HS, rfl, ⟨hcv, hdv⟩, ownD_of (hov.mono hwmb8_1.size) (hod.mono hwmb8_1.size), fun h => by rw [hen] at h ⊢; exact ⟨hEs h, hlE⟩, by rw [hen]; exact hs.drop (by assumption)⟩)
theorem copy_hash {B : List Int} {n : Nat} (h : B.length = n) : ∃ X : List Int, X.length = 32 ∧ (B.length = 32 → X = B) ∧ (((List.replicate 32 (0 : Int)).map (int .u8)).take 0 ++ (B.take (min n 32)).map (int .u8) ++ ((List.replicate 32 (0 : Int)).map (int .u8)).drop (0 + min n 32)) = X.map (int .u8) := by
 refine ⟨B.take 32 ++ (List.replicate 32 (0 : Int)).drop (min n 32), ?_, fun h2 => ?_, ?_⟩
 ·simp only [List.length_append, List.length_take, List.length_drop, List.length_replicate]; omega
 ·rw [List.take_of_length_le (by omega), show min n 32 = 32 by omega, List.drop_of_length_le (by simp), List.append_nil]
 ·subst h
  rw [List.take_zero, List.nil_append, List.map_append, List.map_drop, Nat.zero_add]
  congr 2
  rw [show min B.length 32 = min 32 B.length from Nat.min_comm .., ← List.take_take, List.take_length]
theorem hash_s (g : Nat) (A : Option Addr) (m c : Nat) (s : RS) (w : World) (hl : Ent.lies ⟨g, 95, rdC A m c s.k s.co s.po, rdN⟩ w) (hk : s.k ≤ m) (hmc : m ≤ c) (hcm : c ≤ 9223372036854775807) (B : List Int) (hX : SrcX w [g] A m .u8 B) (hBB : Bytes B) (hri : RI B s) (hm : m ≤ 1000000)  : Calls Tryz.prog 64 #[.agg ([Value.pointer (some ⟨g, 0, none⟩)]).toArray] w fun e w' => ∃ X : List Int, e = .returned (.agg (X.map (int .u8)).toArray) ∧ X.length = 32 ∧ ((rBytes B s 32).1.length = 32 → X = (rBytes B s 32).1) ∧ St w [⟨g, 95, rdC A m c (rBytes B s 32).2.k (rBytes B s 32).2.co (rBytes B s 32).2.po, rdN⟩] w' := by
 have hBm := hX.1
 have hg : g < w.heap.size := hl.lt
 refine qL (args := [.agg ([Value.pointer (some ⟨g, 0, none⟩)]).toArray]) Tryz.func64 rfl Tryz.ntmps64 (by simp) ?_
 refine qC [0] ?_
 refine qe (H' := [(rE95 g A m c s)]) (fun w hs => hs.take hl qF) ?_
 iterate 2 refine gx ?_
 refine qv (fun g1 hg1 => ?_)
 refine zB (qA rfl) rfl rfl zero24 (cs := (List.replicate 32 0).map (int .u8)) rfl (tot := 32) (by simp) (fun g2 hg2 => ?_)
 iterate 4 refine gx ?_
 refine zB (qA rfl) rfl rfl zero24 (cs := (List.replicate 32 0).map (int .u8)) rfl (tot := 32) (by simp) (fun g3 hg3 => ?_)
 iterate 3 refine gx ?_
 refine qe (H' := [⟨g1, 64, [Value.pointer (some ⟨g, 0, none⟩)], 1⟩, ⟨g3, 24, (List.replicate 32 0).map (int .u8), 32⟩, ⟨g2, 24, (List.replicate 32 0).map (int .u8), 32⟩, (rE95 g A m c s)]) (fun w h => h.perm (perm_pick (p := [2, 0, 1, 3]) (by kernel_rfl) rfl)) ?_
 refine qe (H' := [⟨g1, 64, [Value.pointer (some ⟨g, 0, none⟩)], 1⟩] ++ ([⟨g3, 24, (List.replicate 32 0).map (int .u8), 32⟩, ⟨g2, 24, (List.replicate 32 0).map (int .u8), 32⟩, (rE95 g A m c s)])) (fun w h => h) ?_
 refine TC.mixB (HB := [Ent.mk g1 64 ([Value.pointer (some ⟨g, 0, none⟩)]) 1]) (H := [Ent.mk g3 24 ((List.replicate 32 0).map (int .u8)) 32, Ent.mk g2 24 ((List.replicate 32 0).map (int .u8)) 32, Ent.mk g 95 ([slice A m c, int .i64 (s.k : Int), int .i64 s.co, int .i64 s.po]) 4]) (by kernel_rfl) [0, 0, 0, 3, 3] [0, 1, 2, 3, 4] (by kernel_rfl) ?_
 refine qz (qA rfl) rfl (fun _ => Gets.sliceA rfl Tryz.underlying24 size5 rfl bnd.dflt bnd.dflt (by omega) (by omega) (cutA_zero _ _ _) (ln := 32) (cp := 32) (by omega) (by omega)) ?_
 refine qz (qA rfl) rfl (fun _ => zE rfl Tryz.underlying64 rfl size50 rfl (off' := 0) (by first | rfl | omega)) ?_
 refine zO (qA rfl) rfl (fun H' => qS rfl agg50 rfl (qZ (i := 0) (ent := ⟨g1, 64, [Value.pointer (some ⟨g, 0, none⟩)], 1⟩) (off := 0) rfl rfl (by exact rfl))) ?_
 refine zW (ι := Value × List Ent) (V := fun y => y.1) (R := fun y => Own w.heap.size 5 .u8 y.1 (rBytes B s 32).1 y.2) (H' := fun y => [⟨g3, 24, (List.replicate 32 0).map (int .u8), 32⟩, ⟨g2, 24, (List.replicate 32 0).map (int .u8), 32⟩, (rE95 g A m c ((rBytes B s 32).2))] ++ y.2) (qA rfl) rfl enters96 rfl rfl (fun w hs => (wbytes_s g A m c s 32 (by omega) w (hs.has ((rE95 g A m c s)) (by simp)) (by omega) (by omega) (by omega) B (hX.at_ hs (fun b hb hbX => (qV (qE (by show g1 ≠ b; omega) qF) (qE (by show g3 ≠ b; omega) (qE (by show g2 ≠ b; omega) (qE (fun h => hbX g (by simp) h.symm) qF)))))) hBB hm).mono fun e w' ⟨v, He, he, ho, hw⟩ => ⟨(v, He), he, own_mono ho hs.size, (St.turnE (i := 3) (e := (rE95 g A m c ((rBytes B s 32).2))) hs rfl rfl hw ho.new)⟩) (fun y hR => ?_)
 obtain ⟨vD_, HD_⟩ := y
 dsimp only at hR ⊢
 have hOD_ : Own w.heap.size 5 .u8 vD_ (rBytes B s 32).1 HD_ := hR
 have hbbD_ := rBytes_bytes hBB s 32
 have hblD_ := rBytes_len (B := B) s 32
 have hriD_ := rBytes_ri (n := 32) hri
 generalize hD_ : rBytes B s 32 = D_ at hOD_ hriD_ hbbD_ hblD_ ⊢
 have hkD_ : D_.2.k ≤ m := by have := hriD_.1; omega
 obtain ⟨AD_, cD_, rfl, hcD_, hdD_⟩ := hOD_.form
 obtain ⟨X, hX32, hXe, hXc⟩ := copy_hash (B := D_.1) rfl
 refine TP.copy (qA rfl) rfl rfl Tryz.underlying22 size5 rfl rfl (i := 1) (ent := ⟨g3, 24, (List.replicate 32 0).map (int .u8), 32⟩) rfl rfl (by simp) (fun w hs => hOD_.srcOf (fun e he => hs.has e (by simp [he]))) (c := min D_.1.length 32) rfl (cs' := X.map (int .u8)) hXc (H' := [⟨g3, 24, X.map (int .u8), 32⟩, ⟨g2, 24, (List.replicate 32 0).map (int .u8), 32⟩, (rE95 g A m c D_.2)] ++ HD_) rfl ?_
 refine TP.nil ?_
 refine zU (H' := [⟨g1, 64, [Value.pointer (some ⟨g, 0, none⟩)], 1⟩, ⟨g3, 24, X.map (int .u8), 32⟩, ⟨g2, 24, (List.replicate 32 0).map (int .u8), 32⟩, (rE95 g A m c D_.2)] ++ HD_) (fun w h => h) ?_
 refine gx ?_
 refine qC [2, 3] ?_
 iterate 2 refine gx ?_
 refine qB (qA rfl) rfl (qg rfl agg24 size24 rfl (vs := X.map (int .u8)) (by simp [hX32]) (qQ (i := 1) (ent := ⟨g3, 24, X.map (int .u8), 32⟩) rfl rfl rfl)) ?_
 refine qn (qA rfl) rfl rfl size24 rfl (vs := X.map (int .u8)) rfl (by simp [hX32]) qb (i := 2) (ent := ⟨g2, 24, (List.replicate 32 0).map (int .u8), 32⟩) rfl rfl (by simp []) (H' := [⟨g1, 64, [Value.pointer (some ⟨g, 0, none⟩)], 1⟩, ⟨g3, 24, X.map (int .u8), 32⟩, ⟨g2, 24, X.map (int .u8), 32⟩, (rE95 g A m c D_.2)] ++ HD_) rfl ?_
 iterate 3 refine gx ?_
 exact qu rfl agg24 size24 rfl (vs := X.map (int .u8)) (by simp [hX32]) (qQ (i := 2) (ent := ⟨g2, 24, X.map (int .u8), 32⟩) rfl rfl rfl) (fun w hs => ⟨X, rfl, hX32, hXe, (St.left (He := HD_) (((hs.erase (i := 2) rfl (by assumption)).erase (i := 1) rfl (by assumption)).erase (i := 0) rfl (by assumption)) hOD_.fr7)⟩)
end Go.Proofs.YtclmgfcdnokaiaaGreatDoor
