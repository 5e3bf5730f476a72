/-
  The reference: With.
-/
import Derived.Test.YtdcphpmkhekghaaDoorShaY
import Derived.Test.YtdcphpmkhekghaaDoorMixP
namespace Go.Proofs.YtdcphpmkhekghaaDoor
set_option linter.unusedVariables false
set_option linter.unusedSimpArgs false
open Go Go.RowKit
theorem agg44 : (isAgg 44).run Tryd.prog = fun w => .ok false w := isAgg_no Tryd.underlying44 rfl
theorem enters29 : Enters Tryd.prog 29 := ⟨_, Tryd.func29, by kernel_rfl, by kernel_rfl⟩
theorem enters30 : Enters Tryd.prog 30 := ⟨_, Tryd.func30, by kernel_rfl, by kernel_rfl⟩
theorem enters31 : Enters Tryd.prog 31 := ⟨_, Tryd.func31, by kernel_rfl, by kernel_rfl⟩
theorem size44 : (Tryd.prog.info? 44).map (·.size) = some 1 := by kernel_rfl

theorem rowI_ent {w : World} {g t tot n : Nat} {W : List Int} {kd : IntKind} (hl : Ent.lies ⟨g, t, W.map (Value.int kd), tot⟩ w) (hW : W.length = n) : RowI w g 0 n kd W := fun j hj => by
  rw [Nat.zero_add]; exact hl.cell (ints_get (by omega))
theorem row_blk {w : World} {g t tot k : Nat} {W : List Int} {kd : IntKind} (hl : Ent.lies ⟨g, t, W.map (Value.int kd), tot⟩ w) (hW : 64 * k + 64 ≤ W.length) : RowI w g (64 * k) 64 kd (blk W k) := fun j hj => by
  rw [blk_get _ _ _ hj]; exact hl.cell (ints_get (by omega))
def padM (M : List Int) : List Int := M ++ endB M.length 8
theorem padM_len (M : List Int) : (padM M).length = M.length + (zerosN M.length + 9) := by
  unfold padM
  rw [List.length_append, endB_len]
theorem padM_mod (M : List Int) : (padM M).length % 64 = 0 := by
  rw [padM_len]; unfold zerosN; omega
theorem padM_le (M : List Int) (h : M.length ≤ 1000) : (padM M).length ≤ 2000 := by
  rw [padM_len]; unfold zerosN; omega
theorem sha_padM (M : List Int) : shaM M = digB (cmp (padM M) ((padM M).length / 64)) 8 := by
  unfold shaM padM; rfl
attribute [irreducible] padM
def digI (V : List Int) : Nat → List Int
  | 0 => List.replicate 32 0
  | k + 1 => (digI V k).set k (IntKind.u8.wrap (shrI .u32 (V.getD (k / 4) 0) (24 - 8 * ((k : Int) % 4))))
theorem digI_len (V : List Int) : ∀ k, (digI V k).length = 32
  | 0 => by simp [digI]
  | k + 1 => by simp [digI, digI_len V k]
theorem getD_set' {l : List Int} {i j : Nat} {v d : Int} (hi : i < l.length) : (l.set i v).getD j d = if i = j then v else l.getD j d := by
  simp only [List.getD_eq_getElem?_getD, List.getElem?_set]
  by_cases h : i = j
  · subst h; simp [hi]
  · simp [h]
theorem digI_get (V : List Int) : ∀ k, k ≤ 32 → ∀ j, j < k → (digI V k).getD j 0 = IntKind.u8.wrap (shrI .u32 (V.getD (j / 4) 0) (24 - 8 * ((j : Int) % 4)))
  | 0, _, j, hj => absurd hj (Nat.not_lt_zero j)
  | k + 1, hk, j, hj => by
    have hl := digI_len V k
    rw [digI, getD_set' (by omega)]
    by_cases e : k = j
    · subst e; rw [if_pos rfl]
    · rw [if_neg e]; exact digI_get V k (by omega) j (by omega)
theorem shr_zero (x : Int) : shrI .u32 x 0 = x := by
  unfold shrI
  have h : (2 : Int) ^ (min (0 : Int).toNat IntKind.u32.bits) = 1 := by decide
  rw [h]; exact Int.fdiv_one x
theorem digB_get (V : List Int) : ∀ k, k ≤ 8 → ∀ j, j < 4 * k → (digB V k).getD j 0 = IntKind.u8.wrap (shrI .u32 (V.getD (j / 4) 0) (24 - 8 * ((j : Int) % 4)))
  | 0, _, j, hj => absurd hj (by omega)
  | k + 1, hk, j, hj => by
    have hl := digB_len V k
    rw [digB, getD_set' (by simp only [List.length_set]; omega), getD_set' (by simp only [List.length_set]; omega), getD_set' (by simp only [List.length_set]; omega), getD_set' (by omega)]
    by_cases e3 : 4 * k + 3 = j
    · rw [if_pos e3, show j / 4 = k by omega, show (24 - 8 * ((j : Int) % 4)) = 0 by omega, shr_zero]
    by_cases e2 : 4 * k + 2 = j
    · rw [if_neg e3, if_pos e2, show j / 4 = k by omega, show (24 - 8 * ((j : Int) % 4)) = 8 by omega]
    by_cases e1 : 4 * k + 1 = j
    · rw [if_neg e3, if_neg e2, if_pos e1, show j / 4 = k by omega, show (24 - 8 * ((j : Int) % 4)) = 16 by omega]
    by_cases e0 : 4 * k = j
    · rw [if_neg e3, if_neg e2, if_neg e1, if_pos e0, show j / 4 = k by omega, show (24 - 8 * ((j : Int) % 4)) = 24 by omega]
    · rw [if_neg e3, if_neg e2, if_neg e1, if_neg e0]; exact digB_get V k (by omega) j (by omega)
theorem dig_same (V : List Int) : digI V 32 = digB V 8 := by
  apply List.ext_getElem (by rw [digI_len, digB_len])
  intro i h1 h2
  rw [digI_len] at h1
  have e1 := digI_get V 32 (Nat.le_refl _) i h1
  have e2 := digB_get V 8 (Nat.le_refl _) i (by omega)
  have e3 := e1.trans e2.symm
  rw [List.getD_eq_getElem?_getD, List.getD_eq_getElem?_getD, List.getElem?_eq_getElem (by rw [digI_len]; omega), List.getElem?_eq_getElem h2, Option.getD_some, Option.getD_some] at e3
  exact e3
attribute [irreducible] digI

theorem own_some {N t : Nat} {kd : IntKind} {v : Value} {W : List Int} {He : List Ent} (h : Own N t kd v W He) (hW : 0 < W.length) : ∃ g c, v = .slice (some ⟨g, 0, none⟩) W.length c ∧ He = [⟨g, t, W.map (Value.int kd), c⟩] ∧ N ≤ g ∧ W.length ≤ c := by
  rcases h with ⟨_, rfl, _⟩ | ⟨g, c, h1, h2, h3, h4, _⟩
  · exact absurd hW (by simp)
  · exact ⟨g, c, h1, h2, h3, h4⟩
theorem rpad_m (M MB : List Int) (LN : Nat) (hMB : padM M = MB) (hLN : MB.length = LN) (A : Option Addr) (m c0 : Nat) (w : World) (hsM : Src w A m .u8 M) (hmc : m ≤ c0) (hm : m ≤ 1000) : Calls Tryd.prog 29 #[.slice A m c0] w fun e w' => ∃ g c, e = .returned (.slice (some ⟨g, 0, none⟩) LN c) ∧ w.heap.size ≤ g ∧ LN ≤ c ∧ St w [⟨g, 5, MB.map (Value.int .u8), c⟩] w' :=
  (rpad_c M A m c0 w hsM hmc hm).mono fun e w' ⟨v, He, he, ho, hs⟩ => by
    have e1 : M ++ endB m 8 = MB := by rw [← hMB, ← hsM.1]; unfold padM; rfl
    rw [e1] at ho
    obtain ⟨g, c, rfl, rfl, hN, hc⟩ := own_some ho (by have := padM_len M; rw [hMB] at this; omega)
    rw [hLN] at hc
    exact ⟨g, c, by rw [he, hLN], hN, hc, hs⟩
theorem rschedule_m (B : List Int) (b off cap : Nat) (w : World) (hb : b < w.heap.size) (hB : RowI w b off 64 .u8 B) (hcap : 64 ≤ cap) : Calls Tryd.prog 31 #[.slice (some ⟨b, off, none⟩) 64 cap] w fun e w' => ∃ g c, e = .returned (.slice (some ⟨g, 0, none⟩) 64 c) ∧ w.heap.size ≤ g ∧ 64 ≤ c ∧ St w [⟨g, 48, (sched B).map (Value.int .u32), c⟩] w' :=
  (rschedule_c B b off cap w hb hB hcap).mono fun e w' ⟨v, He, he, ho, hs⟩ => by
    obtain ⟨g, c, rfl, rfl, hN, hc⟩ := own_some ho (by rw [sched_len]; omega)
    rw [sched_len] at hc he
    exact ⟨g, c, he, hN, hc, hs⟩
theorem rblock_m (st B : List Int) (bs cs bw cw bk ck : Nat) (w : World) (hst : st.length = 8) (hbs : bs < w.heap.size) (hS : RowI w bs 0 8 .u32 st) (hcs : 8 ≤ cs) (hbw : bw < w.heap.size) (hW : RowI w bw 0 64 .u32 (sched B)) (hcw : 64 ≤ cw) (hbk : bk < w.heap.size) (hK : RowI w bk 0 64 .u32 KT) (hck : 64 ≤ ck) :
    Calls Tryd.prog 30 #[.slice (some ⟨bs, 0, none⟩) 8 cs, .slice (some ⟨bw, 0, none⟩) 64 cw, .slice (some ⟨bk, 0, none⟩) 64 ck] w fun e w' => ∃ g c, e = .returned (.slice (some ⟨g, 0, none⟩) 8 c) ∧ w.heap.size ≤ g ∧ 8 ≤ c ∧ St w [⟨g, 48, (mixS st B).map (Value.int .u32), c⟩] w' :=
  (rblock_c st (sched B) bs 0 cs bw 0 cw bk 0 ck w hst hbs hS hcs hbw hW hcw hbk hK hck).mono fun e w' ⟨v, He, he, ho, hs⟩ => by
    rw [mix_out hst] at ho
    have hl := mixS_len (B := B) hst
    obtain ⟨g, c, rfl, rfl, hN, hc⟩ := own_some ho (by omega)
    rw [hl] at hc he
    exact ⟨g, c, he, hN, hc, hs⟩

attribute [local irreducible] blk

set_option maxRecDepth 100000 in
set_option maxHeartbeats 1000000 in
theorem rwith_c (M MB : List Int) (LN : Nat) (hMB : padM M = MB) (hLN : MB.length = LN) (hL64 : LN % 64 = 0) (hLb : LN ≤ 2000) (A : Option Addr) (m c0 gs cs gk ck gr tr totr : Nat) (csr : List Value) (w w1 : World) (hsM : Src w A m .u8 M) (hmc : m ≤ c0) (hm : m ≤ 1000) (hgs : w.heap.size ≤ gs) (hgk : w.heap.size ≤ gk) (hgr : w.heap.size ≤ gr) (hcs : 8 ≤ cs) (hck : 64 ≤ ck) (hst : St w [⟨gr, tr, csr, totr⟩, ⟨gk, 48, KT.map (Value.int .u32), ck⟩, ⟨gs, 48, IV.map (Value.int .u32), cs⟩] w1) : Calls Tryd.prog 22 #[.slice A m c0, .agg ([Value.slice (some ⟨gs, 0, none⟩) 8 cs, Value.slice (some ⟨gk, 0, none⟩) 64 ck]).toArray] w1 fun e w' => e = .returned (.agg ((shaM M).map (Value.int .u8)).toArray) ∧ St w [⟨gr, tr, csr, totr⟩] w' := by
  refine calls_over (w0 := w) (H := [⟨gr, tr, csr, totr⟩, ⟨gk, 48, KT.map (Value.int .u32), ck⟩, ⟨gs, 48, IV.map (Value.int .u32), cs⟩]) (args := [.slice A m c0, .agg ([Value.slice (some ⟨gs, 0, none⟩) 8 cs, Value.slice (some ⟨gk, 0, none⟩) 64 ck]).toArray]) Tryd.func22 rfl Tryd.ntmps22 (by simp) hst ?_
  refine TC.sub (Sub.cons (i := 0) rfl (Sub.cons (i := 1) rfl (Sub.nil))) ?_
  refine TC.seq ?_
  refine TC.regionL ?_
  refine TL.box (Wants.none rfl) rfl rfl rfl (cs := [Value.slice (some ⟨gs, 0, none⟩) 8 cs, Value.slice (some ⟨gk, 0, none⟩) 64 ck]) (by simp [Value.cells]) (tot := 2) (by simp []) (fun g1 hg1 => ?_)
  refine TL.alloc (Wants.none rfl) rfl rfl zero24 (cs := (List.replicate 32 0).map (Value.int .u8)) rfl (tot := 32) (by simp) (fun g2 hg2 => ?_)
  refine TL.nil ?_
  refine TE.then ?_
  refine TC.seq ?_
  refine TC.regionL ?_
  refine TL.gets (Wants.none rfl) rfl (Gets.fieldAddr rfl Tryd.underlying46 rfl size44 rfl (off' := 0) (by first | rfl | omega)) ?_
  refine TL.gets (Wants.none rfl) rfl (Gets.load1 rfl agg44 rfl (At.ent (i := 1) (ent := ⟨g1, 46, [Value.slice (some ⟨gs, 0, none⟩) 8 cs, Value.slice (some ⟨gk, 0, none⟩) 64 ck], 2⟩) (off := 0) rfl rfl (by exact rfl))) ?_
  refine TL.gets (Wants.none rfl) rfl (Gets.assign rfl rfl) ?_
  refine TL.nil ?_
  refine TE.then ?_
  refine TC.seq ?_
  refine TC.regionL ?_
  refine TL.gets (Wants.none rfl) rfl (Gets.move rfl rfl) ?_
  refine TL.call (ι := Nat × Nat) (V := fun x => .slice (some ⟨x.1, 0, none⟩) LN x.2) (R := fun x => w.heap.size ≤ x.1 ∧ LN ≤ x.2) (H' := fun x => [⟨x.1, 5, MB.map (Value.int .u8), x.2⟩, ⟨g2, 24, (List.replicate 32 0).map (Value.int .u8), 32⟩, ⟨g1, 46, [Value.slice (some ⟨gs, 0, none⟩) 8 cs, Value.slice (some ⟨gk, 0, none⟩) 64 ck], 2⟩, ⟨gr, tr, csr, totr⟩, ⟨gk, 48, KT.map (Value.int .u32), ck⟩, ⟨gs, 48, IV.map (Value.int .u32), cs⟩]) (Wants.none rfl) rfl enters29 rfl rfl (fun w hs => (rpad_m M MB LN hMB hLN A m c0 w (hsM.at_ hs (fun b hb => (ne_cons (by show g2 ≠ b; omega) (ne_cons (by show g1 ≠ b; omega) (ne_cons (by show gr ≠ b; omega) (ne_cons (by show gk ≠ b; omega) (ne_cons (by show gs ≠ b; omega) ne_nil))))))) hmc hm).mono fun e w' ⟨gv, cv, he, hge, hcv, hw⟩ => ⟨(gv, cv), he, ⟨Nat.le_trans hs.size hge, hcv⟩, hs.made hw hge⟩) (fun x hxm => ?_)
  obtain ⟨gm, cm⟩ := x
  dsimp only at hxm ⊢
  obtain ⟨hgm, hcm⟩ := hxm
  refine TL.gets (Wants.none rfl) rfl (Gets.assign rfl rfl) ?_
  refine TL.nil ?_
  refine TE.then ?_
  refine TC.sub (Sub.cons (i := 3) rfl (Sub.cons (i := 4) rfl (Sub.cons (i := 5) rfl (Sub.cons (i := 6) rfl (Sub.nil))))) ?_
  refine TC.seq ?_
  refine TC.seq ?_
  refine TC.regionL ?_
  refine TL.gets (Wants.none rfl) rfl (Gets.assign rfl rfl) ?_
  refine TL.nil ?_
  refine TE.then ?_
  refine TC.block ?_
  refine TC.loop (ι := WG) (fun x => [(3, .pointer (some ⟨g1, 0, none⟩)), (4, .pointer (some ⟨g2, 0, none⟩)), (5, .slice (some ⟨x.g, 0, none⟩) 8 x.c), (6, .slice (some ⟨gm, 0, none⟩) LN cm), (7, .int .i64 (64 * (x.k : Int)))]) (fun x => [⟨gm, 5, MB.map (Value.int .u8), cm⟩, ⟨g2, 24, (List.replicate 32 0).map (Value.int .u8), 32⟩, ⟨g1, 46, [Value.slice (some ⟨gs, 0, none⟩) 8 cs, Value.slice (some ⟨gk, 0, none⟩) 64 ck], 2⟩, ⟨gr, tr, csr, totr⟩, ⟨gk, 48, KT.map (Value.int .u32), ck⟩, ⟨x.g, 48, (cmp MB x.k).map (Value.int .u32), x.c⟩]) (fun x => LN - 64 * x.k) (fun x => w.heap.size ≤ x.g ∧ 8 ≤ x.c ∧ 64 * x.k ≤ LN) (⟨0, gs, cs⟩ : WG) ⟨hgs, hcs, by show 64 * 0 ≤ LN; omega⟩ (Sub.cons (i := 3) rfl (Sub.cons (i := 4) rfl (Sub.slice (i := 5) rfl (by first | rfl | (congr 2; omega)) (by first | omega | (dsimp only; omega) | rfl) (by first | omega | (dsimp only; omega) | rfl) (Sub.slice (i := 6) rfl rfl (by first | omega | (dsimp only; omega) | rfl) (by first | omega | (dsimp only; omega) | rfl) (Sub.int (i := 7) rfl (by first | omega | rfl) (Sub.nil)))))) (fun w h => by rw [show cmp MB 0 = IV by unfold cmp; rfl]; exact h) (fun x hC0 => ?_)
  obtain ⟨k, g, c⟩ := x
  obtain ⟨hN, hc, hk⟩ := hC0
  dsimp only at hN hc hk ⊢
  refine TC.seq ?_
  refine TC.seq ?_
  refine TC.regionL ?_
  refine TL.gets (Wants.none rfl) rfl (Gets.move rfl rfl) ?_
  refine TL.gets (Wants.none rfl) rfl (Gets.move rfl rfl) ?_
  refine TL.gets (Wants.none rfl) rfl (Gets.lenSlice rfl Tryd.underlying22 rfl) ?_
  refine TL.gets (Wants.none rfl) rfl (Gets.lss rfl rfl rfl) ?_
  refine TL.nil ?_
  refine TE.then ?_
  refine TC.sub (Sub.cons (i := 3) rfl (Sub.cons (i := 4) rfl (Sub.cons (i := 5) rfl (Sub.cons (i := 6) rfl (Sub.cons (i := 7) rfl (Sub.cons (i := 17) rfl (Sub.nil))))))) ?_
  refine TC.split rfl (fun hq0 => ?_) (fun hq0 => ?_)
  · refine TC.skip ?_
    refine TE.then ?_
    refine TC.seq ?_
    refine TC.block ?_
    refine TC.mixB (HB := [⟨gm, 5, MB.map (Value.int .u8), cm⟩, ⟨g2, 24, (List.replicate 32 0).map (Value.int .u8), 32⟩, ⟨g1, 46, [Value.slice (some ⟨gs, 0, none⟩) 8 cs, Value.slice (some ⟨gk, 0, none⟩) 64 ck], 2⟩, ⟨gr, tr, csr, totr⟩, ⟨gk, 48, KT.map (Value.int .u32), ck⟩, ⟨g, 48, (cmp MB k).map (Value.int .u32), c⟩]) (H := []) (by kernel_rfl) [0, 0, 0, 0, 0, 0, 3, 0, 0, 3, 0] [0, 1, 2, 3, 4, 5, 7, 8, 6, 9, 10] (by kernel_rfl) ?_
    refine TP.free (Wants.none rfl) rfl (fun _ => Gets.move rfl rfl) ?_
    refine TP.free (Wants.none rfl) rfl (fun _ => Gets.move rfl rfl) ?_
    refine TP.free (Wants.none rfl) rfl (fun _ => Gets.move rfl rfl) ?_
    refine TP.free (Wants.none rfl) rfl (fun _ => Gets.move rfl rfl) ?_
    refine TP.free (Wants.none rfl) rfl (fun _ => Gets.add rfl rfl rfl (r := (64 * (k : Int) + 64)) (w64 (by omega) (by omega))) ?_
    refine TP.free (Wants.none rfl) rfl (fun _ => Gets.sliceS rfl Tryd.underlying22 size5 rfl (bnd.at_ (l := (64 * k)) rfl (by omega)) (bnd.at_ (l := (64 * k + 64)) rfl (by omega)) (by omega) (by omega) (A' := some ⟨gm, (64 * k), none⟩) (cut_is (by omega) (by omega)) (ln := 64) (cp := (cm - 64 * k)) (by omega) (by omega)) ?_
    refine TP.free (Wants.none rfl) rfl (fun _ => Gets.fieldAddr rfl Tryd.underlying46 rfl size44 rfl (off' := 1) (by first | rfl | omega)) ?_
    refine TP.stay (Wants.none rfl) rfl (fun H' => Gets.load1 rfl agg44 rfl (At.ent (i := 2) (ent := ⟨g1, 46, [Value.slice (some ⟨gs, 0, none⟩) 8 cs, Value.slice (some ⟨gk, 0, none⟩) 64 ck], 2⟩) (off := 1) rfl rfl (by exact rfl))) ?_
    refine TP.call (ι := Nat × Nat) (V := fun y => .slice (some ⟨y.1, 0, none⟩) 64 y.2) (R := fun y => w.heap.size ≤ y.1 ∧ 64 ≤ y.2) (H' := fun y => [⟨y.1, 48, (sched (blk MB k)).map (Value.int .u32), y.2⟩]) (Wants.none rfl) rfl enters31 rfl rfl (fun w hs => (rschedule_m (blk MB k) gm (64 * k) (cm - 64 * k) w (hs.has (⟨gm, 5, MB.map (Value.int .u8), cm⟩) (by simp)).lt (row_blk (hs.has (⟨gm, 5, MB.map (Value.int .u8), cm⟩) (by simp)) (by omega)) (by omega)).mono fun e w' ⟨gv, cv, he, hge, hcv, hw⟩ => ⟨(gv, cv), he, ⟨Nat.le_trans hs.size hge, hcv⟩, st_call (H := [⟨gm, 5, MB.map (Value.int .u8), cm⟩, ⟨g2, 24, (List.replicate 32 0).map (Value.int .u8), 32⟩, ⟨g1, 46, [Value.slice (some ⟨gs, 0, none⟩) 8 cs, Value.slice (some ⟨gk, 0, none⟩) 64 ck], 2⟩, ⟨gr, tr, csr, totr⟩, ⟨gk, 48, KT.map (Value.int .u32), ck⟩, ⟨g, 48, (cmp MB k).map (Value.int .u32), c⟩]) hs hw (fun d hd => by rw [List.mem_singleton.1 hd]; exact hge)⟩) (fun y hxw => ?_)
    obtain ⟨gw, cw⟩ := y
    dsimp only at hxw ⊢
    obtain ⟨hgw, hcw⟩ := hxw
    refine TP.call (ι := Nat × Nat) (V := fun y => .slice (some ⟨y.1, 0, none⟩) 8 y.2) (R := fun y => w.heap.size ≤ y.1 ∧ 8 ≤ y.2) (H' := fun y => [⟨gw, 48, (sched (blk MB k)).map (Value.int .u32), cw⟩, ⟨y.1, 48, (mixS (cmp MB k) (blk MB k)).map (Value.int .u32), y.2⟩]) (Wants.none rfl) rfl enters30 rfl rfl (fun w hs => (rblock_m (cmp MB k) (blk MB k) g c gw cw gk ck w (cmp_len MB k) (hs.has (⟨g, 48, (cmp MB k).map (Value.int .u32), c⟩) (by simp)).lt (rowI_ent (hs.has (⟨g, 48, (cmp MB k).map (Value.int .u32), c⟩) (by simp)) (cmp_len MB k)) (by omega) (hs.has (⟨gw, 48, (sched (blk MB k)).map (Value.int .u32), cw⟩) (by simp)).lt (rowI_ent (hs.has (⟨gw, 48, (sched (blk MB k)).map (Value.int .u32), cw⟩) (by simp)) (sched_len _)) (by omega) (hs.has (⟨gk, 48, KT.map (Value.int .u32), ck⟩) (by simp)).lt (rowI_ent (hs.has (⟨gk, 48, KT.map (Value.int .u32), ck⟩) (by simp)) KT_len) (by omega)).mono fun e w' ⟨gv, cv, he, hge, hcv, hw⟩ => ⟨(gv, cv), he, ⟨Nat.le_trans hs.size hge, hcv⟩, st_call (H := [⟨gm, 5, MB.map (Value.int .u8), cm⟩, ⟨g2, 24, (List.replicate 32 0).map (Value.int .u8), 32⟩, ⟨g1, 46, [Value.slice (some ⟨gs, 0, none⟩) 8 cs, Value.slice (some ⟨gk, 0, none⟩) 64 ck], 2⟩, ⟨gr, tr, csr, totr⟩, ⟨gk, 48, KT.map (Value.int .u32), ck⟩, ⟨g, 48, (cmp MB k).map (Value.int .u32), c⟩, ⟨gw, 48, (sched (blk MB k)).map (Value.int .u32), cw⟩]) hs hw (fun d hd => by rw [List.mem_singleton.1 hd]; exact hge)⟩) (fun y hxb => ?_)
    obtain ⟨gb, cb⟩ := y
    dsimp only at hxb ⊢
    obtain ⟨hgb, hcb⟩ := hxb
    refine TP.free (Wants.none rfl) rfl (fun _ => Gets.assign rfl rfl) ?_
    refine TP.nil ?_
    refine TE.blockN ?_
    refine TE.then ?_
    refine TC.sub (Sub.cons (i := 3) rfl (Sub.cons (i := 4) rfl (Sub.cons (i := 5) rfl (Sub.cons (i := 6) rfl (Sub.cons (i := 7) rfl (Sub.nil)))))) ?_
    refine TC.regionL ?_
    refine TL.gets (Wants.none rfl) rfl (Gets.move rfl rfl) ?_
    refine TL.gets (Wants.none rfl) rfl (Gets.add rfl rfl rfl (r := (64 * (k : Int) + 64)) (w64 (by omega) (by omega))) ?_
    refine TL.gets (Wants.none rfl) rfl (Gets.assign rfl rfl) ?_
    refine TL.nil ?_
    exact TE.back (⟨k + 1, gb, cb⟩ : WG) (by show LN - 64 * (k + 1) < LN - 64 * k; omega) ⟨hgb, hcb, by show 64 * (k + 1) ≤ LN; omega⟩ (Sub.cons (i := 3) rfl (Sub.cons (i := 4) rfl (Sub.slice (i := 5) rfl (by first | rfl | (congr 2; omega)) (by first | omega | (dsimp only; omega) | rfl) (by first | omega | (dsimp only; omega) | rfl) (Sub.slice (i := 6) rfl rfl (by first | omega | (dsimp only; omega) | rfl) (by first | omega | (dsimp only; omega) | rfl) (Sub.int (i := 7) rfl (by first | omega | rfl) (Sub.nil)))))) (fun w h => by have h2 := (h.erase (i := 5) rfl hN).erase (i := 5) rfl hgw; show St _ [_, _, _, _, _, ⟨gb, _, (cmp MB (k + 1)).map (Value.int .u32), cb⟩] w; rw [cmp_succ]; exact h2)
  · have hkn : k = LN / 64 := by omega
    have Vl := cmp_len MB k
    have hfin : digI (cmp MB k) 32 = shaM M := by rw [dig_same, sha_padM, hMB, hLN, hkn]
    generalize cmp MB k = V at Vl hfin ⊢
    refine TC.exit ?_
    refine TE.thenX ?_
    refine TE.thenX ?_
    refine TE.blockX ?_
    refine TE.then ?_
    refine TC.seq ?_
    refine TC.regionL ?_
    refine TL.alloc (Wants.none rfl) rfl rfl zero24 (cs := (List.replicate 32 0).map (Value.int .u8)) rfl (tot := 32) (by simp) (fun g3 hg3 => ?_)
    refine TL.nil ?_
    refine TE.then ?_
    refine TC.seq ?_
    refine TC.seq ?_
    refine TC.regionL ?_
    refine TL.gets (Wants.none rfl) rfl (Gets.assign rfl rfl) ?_
    refine TL.nil ?_
    refine TE.then ?_
    refine TC.block ?_
    refine TC.loop (ι := Nat) (fun i => [(4, .pointer (some ⟨g2, 0, none⟩)), (5, .slice (some ⟨g, 0, none⟩) 8 c), (8, .pointer (some ⟨g3, 0, none⟩)), (9, .int .i64 (i : Int))]) (fun i => [⟨g3, 24, (digI V i).map (Value.int .u8), 32⟩, ⟨gm, 5, MB.map (Value.int .u8), cm⟩, ⟨g2, 24, (List.replicate 32 0).map (Value.int .u8), 32⟩, ⟨g1, 46, [Value.slice (some ⟨gs, 0, none⟩) 8 cs, Value.slice (some ⟨gk, 0, none⟩) 64 ck], 2⟩, ⟨gr, tr, csr, totr⟩, ⟨gk, 48, KT.map (Value.int .u32), ck⟩, ⟨g, 48, V.map (Value.int .u32), c⟩]) (fun i => 32 - i) (fun i => i ≤ 32) 0 (Nat.zero_le _) (Sub.cons (i := 4) rfl (Sub.slice (i := 5) rfl rfl (by first | omega | (dsimp only; omega) | rfl) (by first | omega | (dsimp only; omega) | rfl) (Sub.cons (i := 8) rfl (Sub.int (i := 9) rfl (by first | omega | rfl) (Sub.nil))))) (fun w h => by rw [show digI V 0 = List.replicate 32 0 by unfold digI; rfl]; exact h) (fun i hC1 => ?_)
    refine TC.seq ?_
    refine TC.seq ?_
    refine TC.regionL ?_
    refine TL.gets (Wants.none rfl) rfl (Gets.move rfl rfl) ?_
    refine TL.gets (Wants.none rfl) rfl (Gets.lss rfl rfl rfl) ?_
    refine TL.nil ?_
    refine TE.then ?_
    refine TC.split rfl (fun hq1 => ?_) (fun hq1 => ?_)
    · refine TC.skip ?_
      refine TE.then ?_
      refine TC.seq ?_
      refine TC.block ?_
      refine TC.regionL ?_
      refine TL.gets (Wants.none rfl) rfl (Gets.move rfl rfl) ?_
      refine TL.gets (Wants.none rfl) rfl (Gets.move rfl rfl) ?_
      refine TL.gets (Wants.none rfl) rfl (Gets.move rfl rfl) ?_
      refine TL.gets (Wants.none rfl) rfl (Gets.quo rfl rfl rfl (by omega) (r := ((i / 4 : Nat) : Int)) (tdiv_pos (by omega) (w64 (by omega) (by omega)))) ?_
      refine TL.gets (Wants.none rfl) rfl (Gets.idxSlice rfl Tryd.underlying44 size48 rfl rfl (i := (((i / 4)))) (by omega) (by omega) (off' := (((i / 4)))) (by omega)) ?_
      refine TL.gets (Wants.none rfl) rfl (Gets.load1 rfl agg48 rfl (At.ent (i := 6) (ent := ⟨g, 48, V.map (Value.int .u32), c⟩) (off := (((i / 4)))) rfl rfl (by have := ints_get (kd := .u32) (W := V) (i := (((i / 4)))) (by rw [Vl]; omega); (first | exact this | (refine Eq.trans ?_ this; congr 1; omega))))) ?_
      refine TL.gets (Wants.none rfl) rfl (Gets.move rfl rfl) ?_
      refine TL.gets (Wants.none rfl) rfl (Gets.rem rfl rfl rfl (by omega) (r := ((i : Int) % 4)) (tmod_pos (by omega) rfl)) ?_
      refine TL.gets (Wants.none rfl) rfl (Gets.mul rfl rfl rfl (r := (8 * ((i : Int) % 4))) (w64 (by omega) (by omega))) ?_
      refine TL.gets (Wants.none rfl) rfl (Gets.sub rfl rfl rfl (r := (24 - 8 * ((i : Int) % 4))) (w64 (by omega) (by omega))) ?_
      refine TL.gets (Wants.none rfl) rfl (Gets.shr rfl rfl rfl (by omega) (r := (shrI .u32 (V.getD (((i / 4))) 0) (24 - 8 * ((i : Int) % 4)))) rfl) ?_
      refine TL.gets (Wants.none rfl) rfl (Gets.conv rfl Tryd.underlying48 Tryd.underlying5 rfl (r := (IntKind.u8.wrap (shrI .u32 (V.getD (((i / 4))) 0) (24 - 8 * ((i : Int) % 4))))) rfl) ?_
      refine TL.gets (Wants.none rfl) rfl (Gets.idxArray rfl Tryd.underlying24 size5 rfl rfl (i := i) (by omega) (by omega) (off' := i) (by omega)) ?_
      refine TL.store1 (Wants.none rfl) rfl rfl size5 rfl rfl rfl (i := 0) rfl rfl (by simp [(digI_len V i)] <;> omega) (cs' := ((digI V i).set i (IntKind.u8.wrap (shrI .u32 (V.getD (((i / 4))) 0) (24 - 8 * ((i : Int) % 4))))).map (Value.int .u8)) (ints_set) (H' := [⟨g3, 24, ((digI V i).set i (IntKind.u8.wrap (shrI .u32 (V.getD (((i / 4))) 0) (24 - 8 * ((i : Int) % 4))))).map (Value.int .u8), 32⟩, ⟨gm, 5, MB.map (Value.int .u8), cm⟩, ⟨g2, 24, (List.replicate 32 0).map (Value.int .u8), 32⟩, ⟨g1, 46, [Value.slice (some ⟨gs, 0, none⟩) 8 cs, Value.slice (some ⟨gk, 0, none⟩) 64 ck], 2⟩, ⟨gr, tr, csr, totr⟩, ⟨gk, 48, KT.map (Value.int .u32), ck⟩, ⟨g, 48, V.map (Value.int .u32), c⟩]) rfl ?_
      refine TL.nil ?_
      refine TE.blockN ?_
      refine TE.then ?_
      refine TC.sub (Sub.cons (i := 4) rfl (Sub.cons (i := 5) rfl (Sub.cons (i := 8) rfl (Sub.cons (i := 9) rfl (Sub.nil))))) ?_
      refine TC.regionL ?_
      refine TL.gets (Wants.none rfl) rfl (Gets.move rfl rfl) ?_
      refine TL.gets (Wants.none rfl) rfl (Gets.add rfl rfl rfl (r := ((i : Int) + 1)) (w64 (by omega) (by omega))) ?_
      refine TL.gets (Wants.none rfl) rfl (Gets.assign rfl rfl) ?_
      refine TL.nil ?_
      exact TE.back (i + 1) (by omega) (by omega) (Sub.cons (i := 4) rfl (Sub.slice (i := 5) rfl rfl (by first | omega | (dsimp only; omega) | rfl) (by first | omega | (dsimp only; omega) | rfl) (Sub.cons (i := 8) rfl (Sub.int (i := 9) rfl (by first | omega | rfl) (Sub.nil))))) (fun w h => by rw [show digI V (i + 1) = (digI V i).set i (IntKind.u8.wrap (shrI .u32 (V.getD (i / 4) 0) (24 - 8 * ((i : Int) % 4)))) by rw [digI]]; exact h)
    · obtain rfl : i = 32 := by omega
      refine TC.exit ?_
      refine TE.thenX ?_
      refine TE.thenX ?_
      refine TE.blockX ?_
      refine TE.then ?_
      refine TC.seq ?_
      refine TC.regionL ?_
      refine TL.gets (Wants.none rfl) rfl (Gets.loadN rfl agg24 size24 rfl (vs := (digI V 32).map (Value.int .u8)) (by simp [(digI_len V 32)]) (Row.all (i := 0) (ent := ⟨g3, 24, (digI V 32).map (Value.int .u8), 32⟩) rfl rfl rfl)) ?_
      refine TL.storeW (Wants.none rfl) rfl rfl size24 rfl (vs := (digI V 32).map (Value.int .u8)) rfl (by simp [(digI_len V 32)]) ints_one (i := 2) (ent := ⟨g2, 24, (List.replicate 32 0).map (Value.int .u8), 32⟩) rfl rfl (by simp []) (H' := [⟨g3, 24, (digI V 32).map (Value.int .u8), 32⟩, ⟨gm, 5, MB.map (Value.int .u8), cm⟩, ⟨g2, 24, (digI V 32).map (Value.int .u8), 32⟩, ⟨g1, 46, [Value.slice (some ⟨gs, 0, none⟩) 8 cs, Value.slice (some ⟨gk, 0, none⟩) 64 ck], 2⟩, ⟨gr, tr, csr, totr⟩, ⟨gk, 48, KT.map (Value.int .u32), ck⟩, ⟨g, 48, V.map (Value.int .u32), c⟩]) rfl ?_
      refine TL.nil ?_
      refine TE.then ?_
      refine TC.ret ?_
      exact TE.retC rfl agg24 size24 rfl (vs := (digI V 32).map (Value.int .u8)) (by simp [(digI_len V 32)]) (Row.all (i := 2) (ent := ⟨g2, 24, (digI V 32).map (Value.int .u8), 32⟩) rfl rfl rfl) (fun w hs => ⟨congrArg (fun D => Ending.returned (.agg (List.map (Value.int .u8) D).toArray)) hfin, ((((((hs.drop (by assumption)).drop (by assumption)).drop (by assumption)).drop (by assumption)).erase (i := 1) rfl hgk).erase (i := 1) rfl hN)⟩)
end Go.Proofs.YtdcphpmkhekghaaDoor
