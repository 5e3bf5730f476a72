/-
  Contract of package sha: take.
-/
import Derived.Test.YtdcphpmkhekghaaDoorShaC
namespace Go.Proofs.YtdcphpmkhekghaaDoor
set_option linter.unusedVariables false
set_option linter.unusedSimpArgs false
open Go Go.RowKit
theorem enters33 : Enters Tryd.prog 33 := ⟨_, Tryd.func33, by kernel_rfl, by kernel_rfl⟩
theorem size51 : (Tryd.prog.info? 51).map (·.size) = some 64 := by kernel_rfl

structure TI where
  q : Nat
  A : Option Addr
  c : Nat
theorem splice_is {A T : List Value} {rs P : List Int} {o q f : Nat} (hf : f = 8 + o) (ha : A.length = 8) (hq : q ≤ P.length) (ho : o + q ≤ rs.length) :
    (A ++ (rs.map (Value.int .u8) ++ T)).take f ++ (P.take q).map (Value.int .u8) ++ (A ++ (rs.map (Value.int .u8) ++ T)).drop (f + q) = A ++ ((splice rs o (P.take q)).map (Value.int .u8) ++ T) := by
  subst hf
  have hl : (P.take q).length = q := by simp; omega
  rw [splice_mid ha ho]
  unfold splice
  rw [hl]
theorem splice_lenq {rs P : List Int} {o q : Nat} (h : rs.length = 64) (hq : q ≤ P.length) (ho : o + q ≤ 64) : (splice rs o (P.take q)).length = 64 := by
  have hl : (P.take q).length = q := by simp; omega
  rw [splice_len (by omega), h]
theorem take_short {M P st rs : List Int} {n m o q : Nat} (hk : HashOK M st rs) (hM : M.length = n) (ho : o = n % 64) (hq : q = min m (64 - o)) (hm : P.length = m) (hlt : (o : Int) + q < 64) : HashOK (M ++ P) st (splice rs o (P.take q)) := by
  subst hM
  have hqm : q = m := by omega
  rw [List.take_of_length_le (by omega), ho]
  exact hash_short hk (by omega)
theorem take_full {M P st rs : List Int} {n m o q : Nat} (hk : HashOK M st rs) (hM : M.length = n) (ho : o = n % 64) (hq : q = min m (64 - o)) (hm : P.length = m) (h0 : (0 : Int) < o) (hlt : ¬ (o : Int) + q < 64) :
    mixS st (blk (M ++ P) (n / 64)) = cmp (M ++ P) ((n + q) / 64) ∧ ∀ j, j < 64 → (splice rs o (P.take q)).getD j 0 = (blk (M ++ P) (n / 64)).getD j 0 := by
  subst hM
  obtain ⟨h1, h2⟩ := hash_full (P := P) (c := q) hk (by omega) (by omega) (by omega)
  refine ⟨?_, by rw [ho]; exact h2⟩
  have : (M.length + q) / 64 = M.length / 64 + 1 := by omega
  rw [this, h1, cmp_succ]
theorem take_round {M P : List Int} {n k : Nat} : mixS (cmp (M ++ P) ((n + k) / 64)) (blk (M ++ P) ((n + k) / 64)) = cmp (M ++ P) ((n + (k + 64)) / 64) := by
  have : (n + (k + 64)) / 64 = (n + k) / 64 + 1 := by omega
  rw [this, cmp_succ]
theorem take_end {M P rs : List Int} {n m k : Nat} (hM : M.length = n) (hm : P.length = m) (hC1 : (n + k) % 64 = 0) (hC2 : k ≤ m) (hlt : ¬ (64 : Int) ≤ ((m - k : Nat) : Int)) (hr : rs.length = 64) : HashOK (M ++ P) (cmp (M ++ P) ((n + k) / 64)) (splice rs 0 ((P.drop k).take (m - k))) := by
  subst hM; subst hm
  rw [List.take_of_length_le (by simp)]
  exact hash_end hC1 hC2 (by omega) hr
theorem hash_st {M P st rs : List Int} {n : Nat} (hk : HashOK M st rs) (hM : M.length = n) : st = cmp (M ++ P) ((n + 0) / 64) := by
  subst hM; rw [Nat.add_zero, cmp_app _ _ _ (by omega)]
  unfold HashOK at hk; exact hk.1

theorem ne_of_ne {w : World} {e : Ent} {g : Nat} (hg : e.g = g) : ∀ b, b < w.heap.size → b ≠ g → ∀ d ∈ [e], d.g ≠ b := by
  intro b _ hne d hd
  simp only [List.mem_singleton] at hd
  subst hd
  rw [hg]; exact fun h => hne h.symm

theorem next_src {w : World} {g m k d : Nat} {A : Option Addr} {P : List Int} (h : SrcN w g A (m - k) .u8 (P.drop k)) (h1 : 64 ≤ m - k) (h2 : m - k ≤ d) : SrcN w g (cutA A d 64 1) (m - (k + 64)) .u8 (P.drop (k + 64)) := by
  have := h.drop (l := 64) h1 h2
  rw [List.drop_drop] at this
  rwa [show m - k - 64 = m - (k + 64) by omega] at this
theorem fst_src {w : World} {g m c q : Nat} {A : Option Addr} {P : List Int} (h : SrcN w g A m .u8 P) (h1 : q ≤ m) (h2 : m ≤ c) : SrcN w g (cutA A c q 1) (m - q) .u8 (P.drop q) := h.drop h1 h2

set_option maxRecDepth 100000 in
set_option maxHeartbeats 400000 in
theorem take_c (M P st rs : List Int) (n g : Nat) (A : Option Addr) (m c : Nat) (w : World) (hk : HashOK M st rs) (hM : M.length = n) (hst : st.length = 8) (hrs : rs.length = 64) (hl : Ent.lies ⟨g, 53, st.map (Value.int .u32) ++ (rs.map (Value.int .u8) ++ ([Value.int .i64 (n : Int)])), 73⟩ w) (hsrc : SrcN w g A m .u8 P) (hmc : m ≤ c) (hn : n + m ≤ 4611686018427387903) (hb1 : 1 < w.heap.size) (hg1 : g ≠ 1) (hK : RowI w 1 0 64 .u32 KT) : Calls Tryd.prog 24 #[.pointer (some ⟨g, 0, none⟩), .slice A m c] w fun e w' => e = .returned (.tuple #[]) ∧ ∃ st' rs', HashOK (M ++ P) st' rs' ∧ St w [⟨g, 53, (st').map (Value.int .u32) ++ ((rs').map (Value.int .u8) ++ ([Value.int .i64 ((n : Int) + (m : Int))])), 73⟩] w' := by
  have hg : g < w.heap.size := hl.lt
  obtain ⟨o, ho⟩ : ∃ o, o = n % 64 := ⟨_, rfl⟩
  refine calls_from (args := [.pointer (some ⟨g, 0, none⟩), .slice A m c]) Tryd.func24 rfl Tryd.ntmps24 (by simp) ?_
  refine TC.sub (Sub.cons (i := 0) rfl (Sub.cons (i := 1) rfl (Sub.nil))) ?_
  refine TC.heap (H' := [⟨g, 53, st.map (Value.int .u32) ++ (rs.map (Value.int .u8) ++ ([Value.int .i64 (n : Int)])), 73⟩]) (fun w hs => hs.take hl ne_nil) ?_
  refine TC.seq ?_
  refine TC.regionL ?_
  refine TL.gets (Wants.none rfl) rfl (Gets.move rfl rfl) ?_
  refine TL.gets (Wants.none rfl) rfl (Gets.nilCheck rfl rfl) ?_
  refine TL.gets (Wants.none rfl) rfl (Gets.fieldAddr rfl Tryd.underlying53 rfl size3 rfl (off' := 72) (by first | rfl | omega)) ?_
  refine TL.gets (Wants.none rfl) rfl (Gets.load1 rfl agg3 rfl (At.ent (i := 0) (ent := ⟨g, 53, st.map (Value.int .u32) ++ (rs.map (Value.int .u8) ++ ([Value.int .i64 (n : Int)])), 73⟩) (off := 72) rfl rfl (by exact app_right (a := 8) (i := 64) (ints_len hst) (app_right (a := 64) (i := 0) (ints_len hrs) (rfl))))) ?_
  refine TL.gets (Wants.none rfl) rfl (Gets.rem rfl rfl rfl (by omega) (r := (o : Int)) (tmod_pos (by omega) (by omega))) ?_
  refine TL.gets (Wants.none rfl) rfl (Gets.assign rfl rfl) ?_
  refine TL.nil ?_
  refine TE.then ?_
  refine TC.seq ?_
  refine TC.regionL ?_
  refine TL.gets (Wants.none rfl) rfl (Gets.move rfl rfl) ?_
  refine TL.gets (Wants.none rfl) rfl (Gets.nilCheck rfl rfl) ?_
  refine TL.gets (Wants.none rfl) rfl (Gets.fieldAddr rfl Tryd.underlying53 rfl size3 rfl (off' := 72) (by first | rfl | omega)) ?_
  refine TL.gets (Wants.none rfl) rfl (Gets.load1 rfl agg3 rfl (At.ent (i := 0) (ent := ⟨g, 53, st.map (Value.int .u32) ++ (rs.map (Value.int .u8) ++ ([Value.int .i64 (n : Int)])), 73⟩) (off := 72) rfl rfl (by exact app_right (a := 8) (i := 64) (ints_len hst) (app_right (a := 64) (i := 0) (ints_len hrs) (rfl))))) ?_
  refine TL.gets (Wants.none rfl) rfl (Gets.move rfl rfl) ?_
  refine TL.gets (Wants.none rfl) rfl (Gets.lenSlice rfl Tryd.underlying22 rfl) ?_
  refine TL.gets (Wants.none rfl) rfl (Gets.add rfl rfl rfl (r := ((n : Int) + (m : Int))) (w64 (by omega) (by omega))) ?_
  refine TL.gets (Wants.none rfl) rfl (Gets.nilCheck rfl rfl) ?_
  refine TL.gets (Wants.none rfl) rfl (Gets.fieldAddr rfl Tryd.underlying53 rfl size3 rfl (off' := 72) (by first | rfl | omega)) ?_
  refine TL.store1 (Wants.none rfl) rfl rfl size3 rfl rfl rfl (i := 0) rfl rfl (by simp [hst, hrs] <;> omega) (cs' := st.map (Value.int .u32) ++ (rs.map (Value.int .u8) ++ ([Value.int .i64 ((n : Int) + (m : Int))]))) (set_right (a := 8) (i := 64) (ints_len hst) (set_right (a := 64) (i := 0) (ints_len hrs) (rfl))) (H' := [⟨g, 53, st.map (Value.int .u32) ++ (rs.map (Value.int .u8) ++ ([Value.int .i64 ((n : Int) + (m : Int))])), 73⟩]) rfl ?_
  refine TL.nil ?_
  refine TE.then ?_
  refine TC.sub (Sub.cons (i := 0) rfl (Sub.cons (i := 1) rfl (Sub.cons (i := 4) rfl (Sub.nil)))) ?_
  refine TC.seq ?_
  refine TC.seq ?_
  refine TC.regionL ?_
  refine TL.gets (Wants.none rfl) rfl (Gets.move rfl rfl) ?_
  refine TL.gets (Wants.none rfl) rfl (Gets.gtr rfl rfl rfl) ?_
  refine TL.nil ?_
  refine TE.then ?_
  refine TC.split rfl (fun h0 => ?_) (fun h0 => ?_)
  · refine TC.seq ?_
    refine TC.regionL ?_
    refine TL.gets (Wants.none rfl) rfl (Gets.move rfl rfl) ?_
    refine TL.gets (Wants.none rfl) rfl (Gets.nilCheck rfl rfl) ?_
    refine TL.gets (Wants.none rfl) rfl (Gets.fieldAddr rfl Tryd.underlying53 rfl size51 rfl (off' := 8) (by first | rfl | omega)) ?_
    refine TL.gets (Wants.none rfl) rfl (Gets.move rfl rfl) ?_
    refine TL.gets (Wants.none rfl) rfl (Gets.sliceA rfl Tryd.underlying51 size5 rfl (bnd.at_ (l := o) rfl (by omega)) bnd.dflt (by omega) (by omega) (A' := some ⟨g, (o + 8), none⟩) (cut_is (by omega) (by omega)) (ln := (64 - o)) (cp := (64 - o)) (by omega) (by omega)) ?_
    refine TL.gets (Wants.none rfl) rfl (Gets.move rfl rfl) ?_
    obtain ⟨q, hq⟩ : ∃ q, q = min m (64 - o) := ⟨_, rfl⟩
    have hr1 : (splice rs o (P.take q)).length = 64 := splice_lenq hrs (by have := hsrc.1; omega) (by omega)
    refine TL.copy (Wants.none rfl) rfl rfl Tryd.underlying22 size5 rfl rfl (i := 0) (ent := ⟨g, 53, st.map (Value.int .u32) ++ (rs.map (Value.int .u8) ++ ([Value.int .i64 ((n : Int) + (m : Int))])), 73⟩) rfl rfl (by simp [hst, hrs] <;> omega) (kd := .u8) (B := P) (fun w hs => (hsrc.src hs (ne_of_ne rfl))) (c := q) (by omega) (cs' := st.map (Value.int .u32) ++ ((splice rs o (P.take q)).map (Value.int .u8) ++ ([Value.int .i64 ((n : Int) + (m : Int))]))) (splice_is (rs := rs) (P := P) (o := o) (q := q) (by omega) (ints_len hst) (by have := hsrc.1; omega) (by rw [hrs]; omega)) (H' := [⟨g, 53, st.map (Value.int .u32) ++ ((splice rs o (P.take q)).map (Value.int .u8) ++ ([Value.int .i64 ((n : Int) + (m : Int))])), 73⟩]) rfl ?_
    refine TL.gets (Wants.none rfl) rfl (Gets.assign rfl rfl) ?_
    refine TL.nil ?_
    refine TE.then ?_
    refine TC.sub (Sub.cons (i := 0) rfl (Sub.cons (i := 1) rfl (Sub.cons (i := 4) rfl (Sub.cons (i := 5) rfl (Sub.nil))))) ?_
    refine TC.seq ?_
    refine TC.seq ?_
    refine TC.regionL ?_
    refine TL.gets (Wants.none rfl) rfl (Gets.move rfl rfl) ?_
    refine TL.gets (Wants.none rfl) rfl (Gets.move rfl rfl) ?_
    refine TL.gets (Wants.none rfl) rfl (Gets.add rfl rfl rfl (r := ((o : Int) + (q : Int))) (w64 (by omega) (by omega))) ?_
    refine TL.gets (Wants.none rfl) rfl (Gets.lss rfl rfl rfl) ?_
    refine TL.nil ?_
    refine TE.then ?_
    refine TC.split rfl (fun h1 => ?_) (fun h1 => ?_)
    · refine TC.ret ?_
      refine TE.thenR ?_
      refine TE.thenR ?_
      exact TE.ret0 rfl (fun w hs => ⟨rfl, _, _, take_short hk hM ho hq hsrc.1 h1, hs⟩)
    · refine TC.skip ?_
      refine TE.then ?_
      refine TC.seq ?_
      refine TC.draw (by kernel_rfl) ?_
      refine TF.seqL 7 (by kernel_rfl) ?_
      refine TS.gets (Wants.none rfl) rfl (Gets.move rfl rfl) ?_
      refine TS.gets (Wants.none rfl) rfl (Gets.nilCheck rfl rfl) ?_
      refine TS.gets (Wants.none rfl) rfl (Gets.fieldAddr rfl Tryd.underlying53 rfl size50 rfl (off' := 0) (by first | rfl | omega)) ?_
      refine TS.gets (Wants.none rfl) rfl (Gets.move rfl rfl) ?_
      refine TS.gets (Wants.none rfl) rfl (Gets.nilCheck rfl rfl) ?_
      refine TS.gets (Wants.none rfl) rfl (Gets.fieldAddr rfl Tryd.underlying53 rfl size51 rfl (off' := 8) (by first | rfl | omega)) ?_
      refine TS.gets (Wants.none rfl) rfl (Gets.sliceA rfl Tryd.underlying51 size5 rfl bnd.dflt bnd.dflt (by omega) (by omega) (cutA_zero _ _ _) (ln := 64) (cp := 64) (by omega) (by omega)) ?_
      refine TS.done ?_
      refine TF.tailL (by kernel_rfl) ?_
      have hfull := take_full hk hM ho hq hsrc.1 h0 h1
      refine TL.call (ι := Unit) (V := fun _ => .tuple #[]) (R := fun _ => True) (H' := fun _ => [⟨g, 53, (cmp (M ++ P) ((n + q) / 64)).map (Value.int .u32) ++ ((splice rs o (P.take q)).map (Value.int .u8) ++ ([Value.int .i64 ((n : Int) + (m : Int))])), 73⟩]) (Wants.none rfl) rfl enters33 rfl rfl (fun w hs => (mix_c st (blk (M ++ P) (n / 64)) ((splice rs o (P.take q)).map (Value.int .u8) ++ ([Value.int .i64 ((n : Int) + (m : Int))])) g 53 73 g 8 64 w hst (hs.has (⟨g, 53, st.map (Value.int .u32) ++ ((splice rs o (P.take q)).map (Value.int .u8) ++ ([Value.int .i64 ((n : Int) + (m : Int))])), 73⟩) (List.mem_singleton.2 rfl)) (hs.has (⟨g, 53, st.map (Value.int .u32) ++ ((splice rs o (P.take q)).map (Value.int .u8) ++ ([Value.int .i64 ((n : Int) + (m : Int))])), 73⟩) (List.mem_singleton.2 rfl)).lt (fun j hj => by rw [← hfull.2 j hj]; exact (hs.has (⟨g, 53, st.map (Value.int .u32) ++ ((splice rs o (P.take q)).map (Value.int .u8) ++ ([Value.int .i64 ((n : Int) + (m : Int))])), 73⟩) (List.mem_singleton.2 rfl)).cell (app_right (a := 8) (ints_len hst) (app_left (ints_get (kd := .u8) (by rw [hr1]; omega))))) (by omega) (Nat.lt_of_lt_of_le hb1 hs.size) hg1 (hK.keepH hs hb1 (ne_cons (by show g ≠ 1; exact hg1) ne_nil))).mono fun e w' ⟨he, hw⟩ => ⟨(), he, trivial, by rw [hfull.1] at hw; exact hs.turn (i := 0) rfl rfl hw⟩) (fun _ _ => ?_)
      refine TL.nil ?_
      refine TE.then ?_
      refine TC.sub (Sub.cons (i := 0) rfl (Sub.cons (i := 1) rfl (Sub.cons (i := 5) rfl (Sub.nil)))) ?_
      refine TC.regionL ?_
      refine TL.gets (Wants.none rfl) rfl (Gets.move rfl rfl) ?_
      refine TL.gets (Wants.none rfl) rfl (Gets.move rfl rfl) ?_
      refine TL.gets (Wants.none rfl) rfl (Gets.sliceS rfl Tryd.underlying22 size5 rfl (bnd.at_ (l := q) rfl (by omega)) bnd.dflt (by omega) (by omega) rfl (ln := (m - q)) (cp := (c - q)) (by omega) (by omega)) ?_
      refine TL.gets (Wants.none rfl) rfl (Gets.assign rfl rfl) ?_
      refine TL.nil ?_
      refine TE.then ?_
      refine TC.seq ?_
      refine TC.block ?_
      refine TC.loop (ι := TI) (fun x => [(0, .pointer (some ⟨g, 0, none⟩)), (1, .slice x.A (m - x.q) x.c)]) (fun x => [⟨g, 53, (cmp (M ++ P) ((n + x.q) / 64)).map (Value.int .u32) ++ ((splice rs o (P.take q)).map (Value.int .u8) ++ ([Value.int .i64 ((n : Int) + (m : Int))])), 73⟩]) (fun x => m - x.q) (fun x => (n + x.q) % 64 = 0 ∧ x.q ≤ m ∧ SrcN w g x.A (m - x.q) .u8 (P.drop x.q) ∧ m - x.q ≤ x.c) (⟨q, cutA A c q 1, c - q⟩ : TI) ⟨by show (n + q) % 64 = 0; omega, by show q ≤ m; omega, fst_src hsrc (by omega) hmc, by show m - q ≤ c - q; omega⟩ (Sub.cons (i := 0) rfl (Sub.slice (i := 1) rfl (by first | rfl | (congr 2; omega)) (by first | omega | (dsimp only; omega) | rfl) (by first | omega | (dsimp only; omega) | rfl) (Sub.nil))) (fun w h => h) (fun x hC0 => ?_)
      obtain ⟨k, E, d⟩ := x
      obtain ⟨hC1, hC2, hC3, hC4⟩ := hC0
      dsimp only at hC1 hC2 hC3 hC4 ⊢
      refine TC.seq ?_
      refine TC.seq ?_
      refine TC.regionL ?_
      refine TL.gets (Wants.none rfl) rfl (Gets.move rfl rfl) ?_
      refine TL.gets (Wants.none rfl) rfl (Gets.lenSlice rfl Tryd.underlying22 rfl) ?_
      refine TL.gets (Wants.none rfl) rfl (Gets.geq rfl rfl rfl) ?_
      refine TL.nil ?_
      refine TE.then ?_
      refine TC.split rfl (fun h2 => ?_) (fun h2 => ?_)
      · obtain ⟨b, off, hE, hb, hbg, hrow⟩ := hC3.2.resolve_left (by omega)
        subst hE
        refine TC.skip ?_
        refine TE.then ?_
        refine TC.block ?_
        refine TC.seq ?_
        refine TC.draw (by kernel_rfl) ?_
        refine TF.seqL 5 (by kernel_rfl) ?_
        refine TS.gets (Wants.none rfl) rfl (Gets.move rfl rfl) ?_
        refine TS.gets (Wants.none rfl) rfl (Gets.nilCheck rfl rfl) ?_
        refine TS.gets (Wants.none rfl) rfl (Gets.fieldAddr rfl Tryd.underlying53 rfl size50 rfl (off' := 0) (by first | rfl | omega)) ?_
        refine TS.gets (Wants.none rfl) rfl (Gets.move rfl rfl) ?_
        refine TS.gets (Wants.none rfl) rfl (Gets.sliceS rfl Tryd.underlying22 size5 rfl bnd.dflt (bnd.at_ (l := 64) rfl rfl) (by omega) (by omega) (cutA_zero _ _ _) (ln := 64) (cp := d) (by omega) (by omega)) ?_
        refine TS.done ?_
        refine TF.tailL (by kernel_rfl) ?_
        refine TL.call (ι := Unit) (V := fun _ => .tuple #[]) (R := fun _ => True) (H' := fun _ => [⟨g, 53, (cmp (M ++ P) ((n + (k + 64)) / 64)).map (Value.int .u32) ++ ((splice rs o (P.take q)).map (Value.int .u8) ++ ([Value.int .i64 ((n : Int) + (m : Int))])), 73⟩]) (Wants.none rfl) rfl enters33 rfl rfl (fun w hs => (mix_c (cmp (M ++ P) ((n + k) / 64)) (blk (M ++ P) ((n + k) / 64)) ((splice rs o (P.take q)).map (Value.int .u8) ++ ([Value.int .i64 ((n : Int) + (m : Int))])) g 53 73 b off d w (cmp_len _ _) (hs.has (⟨g, 53, (cmp (M ++ P) ((n + k) / 64)).map (Value.int .u32) ++ ((splice rs o (P.take q)).map (Value.int .u8) ++ ([Value.int .i64 ((n : Int) + (m : Int))])), 73⟩) (List.mem_singleton.2 rfl)) (Nat.lt_of_lt_of_le hb hs.size) (fun j hj => ((hs.old_cell (ad := ⟨b, off + j, none⟩) hb (ne_of_ne rfl b hb hbg)).trans (hrow j (by omega))).trans (by rw [blk_drop (M := M) (P := P) (q := k) (by omega) hj]; simp only [hM])) (by omega) (Nat.lt_of_lt_of_le hb1 hs.size) hg1 (hK.keepH hs hb1 (ne_cons (by show g ≠ 1; exact hg1) ne_nil))).mono fun e w' ⟨he, hw⟩ => ⟨(), he, trivial, by rw [take_round] at hw; exact hs.turn (i := 0) rfl rfl hw⟩) (fun _ _ => ?_)
        refine TL.nil ?_
        refine TE.then ?_
        refine TC.sub (Sub.cons (i := 0) rfl (Sub.cons (i := 1) rfl (Sub.nil))) ?_
        refine TC.regionL ?_
        refine TL.gets (Wants.none rfl) rfl (Gets.move rfl rfl) ?_
        refine TL.gets (Wants.none rfl) rfl (Gets.sliceS rfl Tryd.underlying22 size5 rfl (bnd.at_ (l := 64) rfl rfl) bnd.dflt (by omega) (by omega) rfl (ln := (m - k - 64)) (cp := (d - 64)) (by omega) (by omega)) ?_
        refine TL.gets (Wants.none rfl) rfl (Gets.assign rfl rfl) ?_
        refine TL.nil ?_
        refine TE.blockN ?_
        exact TE.back (⟨k + 64, cutA (some ⟨b, off, none⟩) d 64 1, d - 64⟩ : TI) (by show m - (k + 64) < m - k; omega) ⟨by show (n + (k + 64)) % 64 = 0; omega, by show k + 64 ≤ m; omega, next_src hC3 (by omega) (by omega), by show m - (k + 64) ≤ d - 64; omega⟩ (Sub.cons (i := 0) rfl (Sub.slice (i := 1) rfl (by first | rfl | (congr 2; omega)) (by first | omega | (dsimp only; omega) | rfl) (by first | omega | (dsimp only; omega) | rfl) (Sub.nil))) (fun w h => h)
      · refine TC.exit ?_
        refine TE.thenX ?_
        refine TE.thenX ?_
        refine TE.blockX ?_
        refine TE.then ?_
        refine TC.regionL ?_
        refine TL.gets (Wants.none rfl) rfl (Gets.move rfl rfl) ?_
        refine TL.gets (Wants.none rfl) rfl (Gets.nilCheck rfl rfl) ?_
        refine TL.gets (Wants.none rfl) rfl (Gets.fieldAddr rfl Tryd.underlying53 rfl size51 rfl (off' := 8) (by first | rfl | omega)) ?_
        refine TL.gets (Wants.none rfl) rfl (Gets.sliceA rfl Tryd.underlying51 size5 rfl bnd.dflt bnd.dflt (by omega) (by omega) (cutA_zero _ _ _) (ln := 64) (cp := 64) (by omega) (by omega)) ?_
        refine TL.gets (Wants.none rfl) rfl (Gets.move rfl rfl) ?_
        have hr2 : (splice (splice rs o (P.take q)) 0 ((P.drop k).take (m - k))).length = 64 := splice_lenq hr1 (by simp [hsrc.1]) (by omega)
        refine TL.copy (Wants.none rfl) rfl rfl Tryd.underlying22 size5 rfl rfl (i := 0) (ent := ⟨g, 53, (cmp (M ++ P) ((n + k) / 64)).map (Value.int .u32) ++ ((splice rs o (P.take q)).map (Value.int .u8) ++ ([Value.int .i64 ((n : Int) + (m : Int))])), 73⟩) rfl rfl (by simp [(cmp_len _ _), hr1] <;> omega) (kd := .u8) (B := (P.drop k)) (fun w hs => (hC3.src hs (ne_of_ne rfl))) (c := (m - k)) (by omega) (cs' := (cmp (M ++ P) ((n + k) / 64)).map (Value.int .u32) ++ ((splice (splice rs o (P.take q)) 0 ((P.drop k).take (m - k))).map (Value.int .u8) ++ ([Value.int .i64 ((n : Int) + (m : Int))]))) (splice_is (rs := (splice rs o (P.take q))) (P := (P.drop k)) (o := 0) (q := (m - k)) (by omega) (ints_len (cmp_len _ _)) (by simp [hsrc.1]) (by rw [hr1]; omega)) (H' := [⟨g, 53, (cmp (M ++ P) ((n + k) / 64)).map (Value.int .u32) ++ ((splice (splice rs o (P.take q)) 0 ((P.drop k).take (m - k))).map (Value.int .u8) ++ ([Value.int .i64 ((n : Int) + (m : Int))])), 73⟩]) rfl ?_
        refine TL.nil ?_
        exact TE.end0 rfl (fun w hs => ⟨rfl, _, _, take_end hM hsrc.1 hC1 hC2 (by assumption) hr1, hs⟩)
  · refine TC.skip ?_
    refine TE.then ?_
    refine TC.seq ?_
    refine TC.block ?_
    refine TC.loop (ι := TI) (fun x => [(0, .pointer (some ⟨g, 0, none⟩)), (1, .slice x.A (m - x.q) x.c)]) (fun x => [⟨g, 53, (cmp (M ++ P) ((n + x.q) / 64)).map (Value.int .u32) ++ (rs.map (Value.int .u8) ++ ([Value.int .i64 ((n : Int) + (m : Int))])), 73⟩]) (fun x => m - x.q) (fun x => (n + x.q) % 64 = 0 ∧ x.q ≤ m ∧ SrcN w g x.A (m - x.q) .u8 (P.drop x.q) ∧ m - x.q ≤ x.c) (⟨0, A, c⟩ : TI) ⟨by show (n + 0) % 64 = 0; omega, by show 0 ≤ m; omega, by show SrcN w g A (m - 0) .u8 (P.drop 0); simpa using hsrc, by show m - 0 ≤ c; omega⟩ (Sub.cons (i := 0) rfl (Sub.slice (i := 1) rfl (by first | rfl | (congr 2; omega)) (by first | omega | (dsimp only; omega) | rfl) (by first | omega | (dsimp only; omega) | rfl) (Sub.nil))) (fun w h => by show St _ [⟨g, _, List.map _ (cmp (M ++ P) ((n + 0) / 64)) ++ _, _⟩] w; rw [← hash_st hk hM]; exact h) (fun x hC1 => ?_)
    obtain ⟨k, E, d⟩ := x
    obtain ⟨hC1, hC2, hC3, hC4⟩ := hC1
    dsimp only at hC1 hC2 hC3 hC4 ⊢
    refine TC.seq ?_
    refine TC.seq ?_
    refine TC.regionL ?_
    refine TL.gets (Wants.none rfl) rfl (Gets.move rfl rfl) ?_
    refine TL.gets (Wants.none rfl) rfl (Gets.lenSlice rfl Tryd.underlying22 rfl) ?_
    refine TL.gets (Wants.none rfl) rfl (Gets.geq rfl rfl rfl) ?_
    refine TL.nil ?_
    refine TE.then ?_
    refine TC.split rfl (fun h3 => ?_) (fun h3 => ?_)
    · obtain ⟨b, off, hE, hb, hbg, hrow⟩ := hC3.2.resolve_left (by omega)
      subst hE
      refine TC.skip ?_
      refine TE.then ?_
      refine TC.block ?_
      refine TC.seq ?_
      refine TC.draw (by kernel_rfl) ?_
      refine TF.seqL 5 (by kernel_rfl) ?_
      refine TS.gets (Wants.none rfl) rfl (Gets.move rfl rfl) ?_
      refine TS.gets (Wants.none rfl) rfl (Gets.nilCheck rfl rfl) ?_
      refine TS.gets (Wants.none rfl) rfl (Gets.fieldAddr rfl Tryd.underlying53 rfl size50 rfl (off' := 0) (by first | rfl | omega)) ?_
      refine TS.gets (Wants.none rfl) rfl (Gets.move rfl rfl) ?_
      refine TS.gets (Wants.none rfl) rfl (Gets.sliceS rfl Tryd.underlying22 size5 rfl bnd.dflt (bnd.at_ (l := 64) rfl rfl) (by omega) (by omega) (cutA_zero _ _ _) (ln := 64) (cp := d) (by omega) (by omega)) ?_
      refine TS.done ?_
      refine TF.tailL (by kernel_rfl) ?_
      refine TL.call (ι := Unit) (V := fun _ => .tuple #[]) (R := fun _ => True) (H' := fun _ => [⟨g, 53, (cmp (M ++ P) ((n + (k + 64)) / 64)).map (Value.int .u32) ++ (rs.map (Value.int .u8) ++ ([Value.int .i64 ((n : Int) + (m : Int))])), 73⟩]) (Wants.none rfl) rfl enters33 rfl rfl (fun w hs => (mix_c (cmp (M ++ P) ((n + k) / 64)) (blk (M ++ P) ((n + k) / 64)) (rs.map (Value.int .u8) ++ ([Value.int .i64 ((n : Int) + (m : Int))])) g 53 73 b off d w (cmp_len _ _) (hs.has (⟨g, 53, (cmp (M ++ P) ((n + k) / 64)).map (Value.int .u32) ++ (rs.map (Value.int .u8) ++ ([Value.int .i64 ((n : Int) + (m : Int))])), 73⟩) (List.mem_singleton.2 rfl)) (Nat.lt_of_lt_of_le hb hs.size) (fun j hj => ((hs.old_cell (ad := ⟨b, off + j, none⟩) hb (ne_of_ne rfl b hb hbg)).trans (hrow j (by omega))).trans (by rw [blk_drop (M := M) (P := P) (q := k) (by omega) hj]; simp only [hM])) (by omega) (Nat.lt_of_lt_of_le hb1 hs.size) hg1 (hK.keepH hs hb1 (ne_cons (by show g ≠ 1; exact hg1) ne_nil))).mono fun e w' ⟨he, hw⟩ => ⟨(), he, trivial, by rw [take_round] at hw; exact hs.turn (i := 0) rfl rfl hw⟩) (fun _ _ => ?_)
      refine TL.nil ?_
      refine TE.then ?_
      refine TC.sub (Sub.cons (i := 0) rfl (Sub.cons (i := 1) rfl (Sub.nil))) ?_
      refine TC.regionL ?_
      refine TL.gets (Wants.none rfl) rfl (Gets.move rfl rfl) ?_
      refine TL.gets (Wants.none rfl) rfl (Gets.sliceS rfl Tryd.underlying22 size5 rfl (bnd.at_ (l := 64) rfl rfl) bnd.dflt (by omega) (by omega) rfl (ln := (m - k - 64)) (cp := (d - 64)) (by omega) (by omega)) ?_
      refine TL.gets (Wants.none rfl) rfl (Gets.assign rfl rfl) ?_
      refine TL.nil ?_
      refine TE.blockN ?_
      exact TE.back (⟨k + 64, cutA (some ⟨b, off, none⟩) d 64 1, d - 64⟩ : TI) (by show m - (k + 64) < m - k; omega) ⟨by show (n + (k + 64)) % 64 = 0; omega, by show k + 64 ≤ m; omega, next_src hC3 (by omega) (by omega), by show m - (k + 64) ≤ d - 64; omega⟩ (Sub.cons (i := 0) rfl (Sub.slice (i := 1) rfl (by first | rfl | (congr 2; omega)) (by first | omega | (dsimp only; omega) | rfl) (by first | omega | (dsimp only; omega) | rfl) (Sub.nil))) (fun w h => h)
    · refine TC.exit ?_
      refine TE.thenX ?_
      refine TE.thenX ?_
      refine TE.blockX ?_
      refine TE.then ?_
      refine TC.regionL ?_
      refine TL.gets (Wants.none rfl) rfl (Gets.move rfl rfl) ?_
      refine TL.gets (Wants.none rfl) rfl (Gets.nilCheck rfl rfl) ?_
      refine TL.gets (Wants.none rfl) rfl (Gets.fieldAddr rfl Tryd.underlying53 rfl size51 rfl (off' := 8) (by first | rfl | omega)) ?_
      refine TL.gets (Wants.none rfl) rfl (Gets.sliceA rfl Tryd.underlying51 size5 rfl bnd.dflt bnd.dflt (by omega) (by omega) (cutA_zero _ _ _) (ln := 64) (cp := 64) (by omega) (by omega)) ?_
      refine TL.gets (Wants.none rfl) rfl (Gets.move rfl rfl) ?_
      have hr3 : (splice rs 0 ((P.drop k).take (m - k))).length = 64 := splice_lenq hrs (by simp [hsrc.1]) (by omega)
      refine TL.copy (Wants.none rfl) rfl rfl Tryd.underlying22 size5 rfl rfl (i := 0) (ent := ⟨g, 53, (cmp (M ++ P) ((n + k) / 64)).map (Value.int .u32) ++ (rs.map (Value.int .u8) ++ ([Value.int .i64 ((n : Int) + (m : Int))])), 73⟩) rfl rfl (by simp [(cmp_len _ _), hrs] <;> omega) (kd := .u8) (B := (P.drop k)) (fun w hs => (hC3.src hs (ne_of_ne rfl))) (c := (m - k)) (by omega) (cs' := (cmp (M ++ P) ((n + k) / 64)).map (Value.int .u32) ++ ((splice rs 0 ((P.drop k).take (m - k))).map (Value.int .u8) ++ ([Value.int .i64 ((n : Int) + (m : Int))]))) (splice_is (rs := rs) (P := (P.drop k)) (o := 0) (q := (m - k)) (by omega) (ints_len (cmp_len _ _)) (by simp [hsrc.1]) (by rw [hrs]; omega)) (H' := [⟨g, 53, (cmp (M ++ P) ((n + k) / 64)).map (Value.int .u32) ++ ((splice rs 0 ((P.drop k).take (m - k))).map (Value.int .u8) ++ ([Value.int .i64 ((n : Int) + (m : Int))])), 73⟩]) rfl ?_
      refine TL.nil ?_
      exact TE.end0 rfl (fun w hs => ⟨rfl, _, _, take_end hM hsrc.1 hC1 hC2 (by assumption) hrs, hs⟩)
end Go.Proofs.YtdcphpmkhekghaaDoor
