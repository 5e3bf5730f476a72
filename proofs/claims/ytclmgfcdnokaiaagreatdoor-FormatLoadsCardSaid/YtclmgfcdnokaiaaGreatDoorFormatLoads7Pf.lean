/-
 The code's reader of layer 6, in states.
-/
import Derived.Test.YtclmgfcdnokaiaaGreatDoorFormatLoads7Pe
import Derived.Test.YtclmgfcdnokaiaaGreatDoorFormatLoads7Pd
import Derived.Test.YtclmgfcdnokaiaaGreatDoorFormatLoads7Pb
/-
 The reference of layer 7: Decode.
-/
namespace Go.Proofs.YtclmgfcdnokaiaaGreatDoor
set_option maxRecDepth 100000
set_option maxHeartbeats 2000000
open Go.Value (int slice)
set_option linter.unusedVariables false
set_option linter.unusedSimpArgs false
open Go Go.RowKit
theorem enters34 : Enters Tryz.prog 34 := ⟨_, Tryz.func34, by kernel_rfl, by kernel_rfl⟩
theorem enters39 : Enters Tryz.prog 39 := ⟨_, Tryz.func39, by kernel_rfl, by kernel_rfl⟩
theorem mk61 : (Tryz.prog.info? 61).map (fun i => (i.zero, i.size, i.bytes)) = some (some (.agg #[.int .i64 0, .int .i64 0, .int .i64 0, .int .i64 0, .slice none 0 0]), 5, 56) := by kernel_rfl
theorem zero27 : (Tryz.prog.info? 27).bind (·.zero) = some (.agg #[.int .i64 0, .int .i64 0, .int .u8 0, .int .u8 0, .int .u8 0, .int .u8 0, .int .u8 0, .int .u8 0, .int .u8 0, .int .u8 0, .int .u8 0, .int .u8 0, .int .u8 0, .int .u8 0, .int .u8 0, .int .u8 0, .int .u8 0, .int .u8 0, .int .u8 0, .int .u8 0, .int .u8 0, .int .u8 0, .int .u8 0, .int .u8 0, .int .u8 0, .int .u8 0, .int .u8 0, .int .u8 0, .int .u8 0, .int .u8 0, .int .u8 0, .int .u8 0, .int .u8 0, .int .u8 0, .int .u8 0, .int .u8 0, .int .u8 0, .int .u8 0, .int .u8 0, .int .u8 0, .int .u8 0, .int .u8 0, .int .u8 0, .int .u8 0, .int .u8 0, .int .u8 0, .int .u8 0, .int .u8 0, .int .u8 0, .int .u8 0, .int .u8 0, .int .u8 0, .int .u8 0, .int .u8 0, .int .u8 0, .int .u8 0, .int .u8 0, .int .u8 0, .int .u8 0, .int .u8 0, .int .u8 0, .int .u8 0, .int .u8 0, .int .u8 0, .int .u8 0, .int .u8 0, .slice none 0 0]) := by kernel_rfl
theorem magic_bytes : Bytes magicB := by intro x hx; unfold magicB at hx; simp only [List.mem_cons, List.not_mem_nil, or_false] at hx; omega
theorem OwnS.fr {w0 : World} {e : TypeId} {s nn : Nat} {v : Value} {cs : List Value} {He : List Ent} (h : OwnS w0.heap.size e s v nn cs He) : Fresh w0 He := h.new
def cmC (x : CV) : CM := ⟨x.k, x.t, x.f, x.l, x.B⟩
theorem versF_T {s : RS} {v : Int} (h1 : s.co = 0) (h2 : v ≠ 1) : versF s v = rFail s 10 4 := by unfold versF; rw [if_pos ⟨h1, h2⟩]
theorem versF_F {s : RS} {v : Int} (h : ¬ (s.co = 0 ∧ v ≠ 1)) : versF s v = s := by unfold versF; rw [if_neg h]
theorem extraF_T {B : List Int} {s : RS} (h1 : s.co = 0) (h2 : s.k < B.length) : extraF B s = rFail s 12 s.k := by unfold extraF; rw [if_pos ⟨h1, h2⟩]
theorem extraF_F {B : List Int} {s : RS} (h : ¬ (s.co = 0 ∧ s.k < B.length)) : extraF B s = s := by unfold extraF; rw [if_neg h]
theorem rIter_count {B : List Int} (hB : Bytes B) {s : RS} {i : Nat} (h : (rIter B s i).2.co = 0) (hk : s.k ≤ B.length) : i ≤ B.length := by
 obtain ⟨_, _, a3, _, _, a6⟩ := rIter_back hB i h hk
 have h1 := encCs_le (rIter B s i).1
 have h2 := congrArg List.length a6
 rw [List.length_append, List.length_take, List.length_take] at h2
 omega
structure WD where
 i : Nat
 v : Value
 He : List Ent
 Es : List CV
structure WE where
 i : Nat
 W : List Int
 V : List Int
theorem set_copy {W X : List Int} {i : Nat} (h : ∀ j, j < i → W.getD j 0 = X.getD j 0) (hl : i < W.length) : ∀ j, j < i + 1 → (W.set i (X.getD i 0)).getD j 0 = X.getD j 0 := fun j hj => by
 rw [getD_set hl]
 by_cases e : i = j
 ·subst e; rw [if_pos rfl]
 ·rw [if_neg e]; exact h j (by omega)
abbrev zD : List Value := [int .i64 0, int .i64 0, int .u8 0, int .u8 0, int .u8 0, int .u8 0, int .u8 0, int .u8 0, int .u8 0, int .u8 0, int .u8 0, int .u8 0, int .u8 0, int .u8 0, int .u8 0, int .u8 0, int .u8 0, int .u8 0, int .u8 0, int .u8 0, int .u8 0, int .u8 0, int .u8 0, int .u8 0, int .u8 0, int .u8 0, int .u8 0, int .u8 0, int .u8 0, int .u8 0, int .u8 0, int .u8 0, int .u8 0, int .u8 0, int .u8 0, int .u8 0, int .u8 0, int .u8 0, int .u8 0, int .u8 0, int .u8 0, int .u8 0, int .u8 0, int .u8 0, int .u8 0, int .u8 0, int .u8 0, int .u8 0, int .u8 0, int .u8 0, int .u8 0, int .u8 0, int .u8 0, int .u8 0, int .u8 0, int .u8 0, int .u8 0, int .u8 0, int .u8 0, int .u8 0, int .u8 0, int .u8 0, int .u8 0, int .u8 0, int .u8 0, int .u8 0, slice none 0 0]
abbrev zV : List Value := [int .i64 0, int .i64 0] ++ ((List.replicate 32 (0 : Int)).map (int .u8) ++ ((List.replicate 32 (0 : Int)).map (int .u8) ++ ([slice none 0 0])))
theorem rdecode_c (B : List Int) (A : Option Addr) (m c : Nat) (w : World) (hsB : Src w A m .u8 B) (hBB : Bytes B) (hmc : m ≤ c) (hcm : c ≤ 9223372036854775807) (hm : m ≤ 100000) : Calls Tryz.prog 15 #[.slice A m c] w fun e w' => ((rDec B).s.co ≠ 0 ∧ e = .returned (.tuple #[.agg (zD).toArray, .int .i64 (rDec B).s.co, .int .i64 (rDec B).s.po]) ∧ St w [] w') ∨ ((rDec B).s.co = 0 ∧ ∃ v He Es, e = .returned (.tuple #[.agg ([int .i64 (rDec B).o, int .i64 (rDec B).n] ++ ((rDec B).h1.map (int .u8) ++ ((rDec B).h2.map (int .u8) ++ ([v])))).toArray, .int .i64 0, .int .i64 0]) ∧ OwnS w.heap.size 61 5 v Es.length (flatC Es) He ∧ Es.map cmC = (rDec B).Cs ∧ (∀ q ∈ Es, Seg A m c B q.A q.c q.B ∧ q.m = q.B.length) ∧ St w He w') := by
 refine qL (args := [.slice A m c]) Tryz.func15 rfl Tryz.ntmps15 (by simp) ?_
 refine qC [0] ?_
 iterate 2 refine gx ?_
 refine zB (qA rfl) rfl rfl zero27 (cs := zD) rfl (tot := 67) (by simp) (fun g1 hg1 => ?_)
 iterate 7 refine gx ?_
 refine qB (qA rfl) rfl (qm rfl (vs := [(0, slice A m c)]) rfl (fun w => by first | rfl | kernel_rfl) (v := .agg ([slice A m c, int .i64 0, int .i64 0, int .i64 0]).toArray)) ?_
 refine qv (fun g2 hg2 => ?_)
 iterate 5 refine gx ?_
 refine qB (qA rfl) rfl (qm rfl (vs := []) rfl (fun w => by first | rfl | kernel_rfl) (v := .agg (zV).toArray)) ?_
 refine zB (qA rfl) rfl rfl zero27 (cs := zD) rfl (tot := 67) (by simp) (fun g3 hg3 => ?_)
 refine qn (qA rfl) rfl rfl size27 rfl (vs := zV) rfl (by simp []) (qa (by simp [Value.oneCell']) (qa qb (qa qb (by simp [Value.oneCell'])))) (i := 0) (ent := ⟨g3, 27, zD, 67⟩) rfl rfl (by simp []) (H' := [⟨g3, 27, zV, 67⟩, ⟨g2, 75, [slice A m c, int .i64 0, int .i64 0, int .i64 0], 4⟩, ⟨g1, 27, zD, 67⟩]) rfl ?_
 iterate 2 refine gx ?_
 refine qC [0, 2, 3, 4, 5, 6] ?_
 iterate 3 refine gx ?_
 refine zc (qA rfl) rfl rfl Tryz.underlying22 size5 zero5 rfl (by decide) (by decide) (cells := #[.int .u8 71, .int .u8 82, .int .u8 70, .int .u8 84]) (tot := 4) (by kernel_rfl) (cs := [.int .u8 71, .int .u8 82, .int .u8 70, .int .u8 84]) rfl rfl (fun g4 hg4 => ?_)
 refine TL.mark2 (qA rfl) rfl rfl Tryz.underlying22 Tryz.underlying5 rfl (i := 0) (ent := ⟨g4, 5, [int .u8 71, int .u8 82, int .u8 70, int .u8 84], 4⟩) rfl rfl (W := magicB) rfl (by omega) (fun w1 hap hw1 hrw hgw => ?_)
 have hw1' : St w [⟨g3, 27, zV, 67⟩, ⟨g2, 75, [slice A m c, int .i64 0, int .i64 0, int .i64 0], 4⟩, ⟨g1, 27, zD, 67⟩] w1 := hw1
 have hn43 : g4 ≠ g3 := fun h => hap (⟨g3, 27, zV, 67⟩) (by simp) h.symm
 have hn42 : g4 ≠ g2 := fun h => hap (⟨g2, 75, [slice A m c, int .i64 0, int .i64 0, int .i64 0], 4⟩) (by simp) h.symm
 have hn41 : g4 ≠ g1 := fun h => hap (⟨g1, 27, zD, 67⟩) (by simp) h.symm
 have hM : SrcX w1 [g3, g2, g1] (some ⟨g4, 0, none⟩) 4 .u8 magicB := ⟨rfl, .inr ⟨g4, 0, rfl, hgw, (fun z hz => by simp only [List.mem_cons, List.not_mem_nil, or_false] at hz; rcases hz with rfl | rfl | rfl <;> assumption), hrw⟩⟩
 have hn32 : g3 ≠ g2 := pairwise_ne hw1'.apart (i := 0) (j := 1) rfl rfl (by decide)
 have hn31 : g3 ≠ g1 := pairwise_ne hw1'.apart (i := 0) (j := 2) rfl rfl (by decide)
 have hn21 : g2 ≠ g1 := pairwise_ne hw1'.apart (i := 1) (j := 2) rfl rfl (by decide)
 have l3 := hw1'.has (⟨g3, 27, zV, 67⟩) (by simp)
 have l2 := hw1'.has (⟨g2, 75, [slice A m c, int .i64 0, int .i64 0, int .i64 0], 4⟩) (by simp)
 have l1 := hw1'.has (⟨g1, 27, zD, 67⟩) (by simp)
 have hX := (((hsB.toX0.more hg1).more hg2).more hg3).at_ hw1' (fun b hb hbX => qE (fun h => hbX g3 (by simp) h.symm) (qE (fun h => hbX g2 (by simp) h.symm) (qE (fun h => hbX g1 (by simp) h.symm) qF)))
 have hBm := hsB.1
 have hri : RI B ⟨0, 0, 0⟩ := ⟨Nat.zero_le _, .inl ⟨rfl, rfl⟩⟩
 refine TL.heap (H' := [⟨g3, 27, zV, 67⟩, ⟨g2, 75, [slice A m c, int .i64 0, int .i64 0, int .i64 0], 4⟩, ⟨g1, 27, zD, 67⟩]) (fun w h => ((h.take l1 qF).take l2 (qE (fun h => hn21 h.symm) qF)).take l3 (qE (fun h => hn32 h.symm) (qE (fun h => hn31 h.symm) qF))) ?_
 refine qY (ι := Unit) (V := fun _ => .bool (rExp B (⟨0, 0, 0⟩ : RS) magicB 9).1) (R := fun _ => True) (H' := fun _ => [⟨g3, 27, zV, 67⟩, (rE75 g2 A m c ((rExp B (⟨0, 0, 0⟩ : RS) magicB 9).2)), ⟨g1, 27, zD, 67⟩]) (qA rfl) rfl enters34 rfl rfl (fun w hs => (rexp_s g2 A m c (⟨0, 0, 0⟩ : RS) 9 (by decide) w (hs.has (⟨g2, 75, [slice A m c, int .i64 0, int .i64 0, int .i64 0], 4⟩) (by simp)) (Nat.zero_le _) (by omega) (by omega) B ((hX.at_ hs (fun b hb hbX => (qE (fun h => hbX g3 (by simp) h.symm) (qE (fun h => hbX g2 (by simp) h.symm) (qE (fun h => hbX g1 (by simp) h.symm) qF))))).sub (Y := [g2]) (fun y hy => by rw [List.mem_singleton.1 hy]; simp)) hBB magicB (some ⟨g4, 0, none⟩) 4 4 ((hM.at_ hs (fun b hb hbX => (qE (fun h => hbX g3 (by simp) h.symm) (qE (fun h => hbX g2 (by simp) h.symm) (qE (fun h => hbX g1 (by simp) h.symm) qF))))).sub (Y := [g2]) (fun y hy => by rw [List.mem_singleton.1 hy]; simp)) magic_bytes (Nat.le_refl _) (by omega)).mono fun e w' ⟨he, hw⟩ => ⟨(), he, trivial, qi (i := 1) (e := (rE75 g2 A m c ((rExp B (⟨0, 0, 0⟩ : RS) magicB 9).2))) hs rfl rfl hw⟩) (fun _ _ => ?_)
 have hrie := rExp_ri (D := magicB) (code := 9) (by decide) hri
 generalize hE : rExp B ⟨0, 0, 0⟩ magicB 9 = e1 at hrie ⊢
 refine TL.rebase2 hw1' rfl ?_
 have hXw := hsB.toX0.more hg2
 skip
 have hke : e1.2.k ≤ m := by have := hrie.1; omega
 skip
 iterate 2 refine gx ?_
 refine qC [0, 2, 3, 4, 5, 6] ?_
 iterate 3 refine gx ?_
 refine qY (ι := Unit) (V := fun _ => .int .u64 ((rUint B e1.2 1).1)) (R := fun _ => True) (H' := fun _ => [⟨g3, 27, zV, 67⟩, (rE75 g2 A m c ((rUint B e1.2 1).2)), ⟨g1, 27, zD, 67⟩]) (qA rfl) rfl enters35 rfl rfl (fun w hs => (ruint_s g2 A m c e1.2 1 (by omega) w (hs.has ((rE75 g2 A m c e1.2)) (by simp)) (by omega) (by omega) (by omega) B (hXw.at_ hs (fun b hb hbX => (qE (by show g3 ≠ b; omega) (qE (fun h => hbX g2 (by simp) h.symm) (qE (by show g1 ≠ b; omega) qF))))) hBB).mono fun e w' ⟨he, hw⟩ => ⟨(), he, trivial, qi (i := 1) (e := (rE75 g2 A m c ((rUint B e1.2 1).2))) hs rfl rfl hw⟩) (fun _ _ => ?_)
 have hwv_ := rUint_val1 hBB e1.2
 have hvv_ := rUint_val hBB e1.2 (n := 1) (by omega)
 have hriv_ := rUint_ri (n := 1) hrie
 generalize hv_ : rUint B e1.2 1 = v_ at hvv_ hriv_ hwv_ ⊢
 have hkv_ : v_.2.k ≤ m := by have := hriv_.1; omega
 skip
 iterate 3 refine gx ?_
 refine qC [0, 2, 3, 4, 5, 6, 7] ?_
 refine TC.seqJ (ι := RS) (fun z => [(2, .pointer (some ⟨g1, 0, none⟩)), (5, .pointer (some ⟨g2, 0, none⟩)), (6, .pointer (some ⟨g3, 0, none⟩)), (0, .slice A m c)]) (fun z => [⟨g3, 27, zV, 67⟩, (rE75 g2 A m c z), ⟨g1, 27, zD, 67⟩]) (fun z => versF v_.2 v_.1 = z) ?_ (fun z hz => ?_)
 ·iterate 3 refine gx ?_
  refine qB (qA rfl) rfl (qO rfl rfl) ?_
  iterate 2 refine gx ?_
  by_cases c1 : v_.2.co = 0
  ·refine qB (qA rfl) rfl (qP (qo rfl rfl rfl) c1) ?_
   iterate 2 refine gx ?_
   by_cases c2 : v_.1 ≠ 1
   ·refine qB (qJ rfl rfl rfl) rfl (qP (qs rfl rfl rfl) c2) ?_
    iterate 3 refine gx ?_
    refine qC [0, 2, 3, 4, 5, 6, 31] ?_
    refine qd rfl ?_
    iterate 2 refine gx ?_
    refine qY (ι := Unit) (V := fun _ => .tuple #[]) (R := fun _ => True) (H' := fun _ => [⟨g3, 27, zV, 67⟩, (rE75 g2 A m c (rFail v_.2 10 4)), ⟨g1, 27, zD, 67⟩]) (qA rfl) rfl enters36 rfl rfl (fun w hs => (rfail_s g2 A m c v_.2 10 4 (by decide) w (hs.has ((rE75 g2 A m c v_.2)) (by simp))).mono fun e w' ⟨he, hw⟩ => ⟨(), he, trivial, qi (i := 1) (e := (rE75 g2 A m c (rFail v_.2 10 4))) hs rfl rfl hw⟩) (fun _ _ => ?_)
    have hz1 : versF v_.2 v_.1 = rFail v_.2 10 4 := versF_T c1 c2
    generalize hgz1 : rFail v_.2 10 4 = z1 at hz1 ⊢
    refine gx ?_
    exact TE.join z1 hz1 (qI (i := 2) rfl (qI (i := 5) rfl (qI (i := 6) rfl (qT (i := 0) rfl rfl (by first | omega | (dsimp only; omega) | rfl) (by first | omega | (dsimp only; omega) | rfl) (qN))))) (fun w h => h)
   ·have hz1 : versF v_.2 v_.1 = v_.2 := versF_F (fun h => c2 h.2)
    refine qB (qJ rfl rfl rfl) rfl (qU (qs rfl rfl rfl) c2) ?_
    iterate 3 refine gx ?_
    refine qC [0, 2, 3, 4, 5, 6, 31] ?_
    refine qW rfl ?_
    refine gx ?_
    exact TE.join v_.2 hz1 (qI (i := 2) rfl (qI (i := 5) rfl (qI (i := 6) rfl (qT (i := 0) rfl rfl (by first | omega | (dsimp only; omega) | rfl) (by first | omega | (dsimp only; omega) | rfl) (qN))))) (fun w h => h)
  ·have hz1 : versF v_.2 v_.1 = v_.2 := versF_F (fun h => c1 h.1)
   refine qB (qA rfl) rfl (qU (qo rfl rfl rfl) c1) ?_
   iterate 6 refine gx ?_
   refine qC [0, 2, 3, 4, 5, 6, 31] ?_
   refine qW rfl ?_
   refine gx ?_
   exact TE.join v_.2 hz1 (qI (i := 2) rfl (qI (i := 5) rfl (qI (i := 6) rfl (qT (i := 0) rfl rfl (by first | omega | (dsimp only; omega) | rfl) (by first | omega | (dsimp only; omega) | rfl) (qN))))) (fun w h => h)
 ·have hriz := rVers_ri B v_.1
  rw [hE, hv_, hz] at hriz
  have hkz : z.k ≤ m := by have := hriz.1; omega
  iterate 3 refine gx ?_
  refine qY (ι := Unit) (V := fun _ => .int .i64 ((rLen B z).1)) (R := fun _ => True) (H' := fun _ => [⟨g3, 27, zV, 67⟩, (rE75 g2 A m c ((rLen B z).2)), ⟨g1, 27, zD, 67⟩]) (qA rfl) rfl enters37 rfl rfl (fun w hs => (rlen_s g2 A m c z w (hs.has ((rE75 g2 A m c z)) (by simp)) (by omega) (by omega) (by omega) B (hXw.at_ hs (fun b hb hbX => (qE (by show g3 ≠ b; omega) (qE (fun h => hbX g2 (by simp) h.symm) (qE (by show g1 ≠ b; omega) qF))))) hBB hriz).mono fun e w' ⟨he, hw⟩ => ⟨(), he, trivial, qi (i := 1) (e := (rE75 g2 A m c ((rLen B z).2))) hs rfl rfl hw⟩) (fun _ _ => ?_)
  have hvo_ := rLen_val hBB z
  have hrio_ := rLen_ri hriz
  generalize ho_ : rLen B z = o_ at hvo_ hrio_ ⊢
  have hko_ : o_.2.k ≤ m := by have := hrio_.1; omega
  skip
  refine gx ?_
  refine qw (qA rfl) rfl rfl size3 rfl rfl rfl (i := 0) rfl rfl (by simp [] <;> omega) (cs' := dV o_.1 0 (List.replicate 32 (0 : Int)) (List.replicate 32 (0 : Int)) (slice none 0 0)) (set_left (by simp []) (rfl)) (H' := [⟨g3, 27, dV o_.1 0 (List.replicate 32 (0 : Int)) (List.replicate 32 (0 : Int)) (slice none 0 0), 67⟩, (rE75 g2 A m c o_.2), ⟨g1, 27, zD, 67⟩]) rfl ?_
  iterate 5 refine gx ?_
  refine qY (ι := Unit) (V := fun _ => .int .i64 ((rLen B o_.2).1)) (R := fun _ => True) (H' := fun _ => [⟨g3, 27, dV o_.1 0 (List.replicate 32 (0 : Int)) (List.replicate 32 (0 : Int)) (slice none 0 0), 67⟩, (rE75 g2 A m c ((rLen B o_.2).2)), ⟨g1, 27, zD, 67⟩]) (qA rfl) rfl enters37 rfl rfl (fun w hs => (rlen_s g2 A m c o_.2 w (hs.has ((rE75 g2 A m c o_.2)) (by simp)) (by omega) (by omega) (by omega) B (hXw.at_ hs (fun b hb hbX => (qE (by show g3 ≠ b; omega) (qE (fun h => hbX g2 (by simp) h.symm) (qE (by show g1 ≠ b; omega) qF))))) hBB hrio_).mono fun e w' ⟨he, hw⟩ => ⟨(), he, trivial, qi (i := 1) (e := (rE75 g2 A m c ((rLen B o_.2).2))) hs rfl rfl hw⟩) (fun _ _ => ?_)
  have hvn_ := rLen_val hBB o_.2
  have hrin_ := rLen_ri hrio_
  generalize hn_ : rLen B o_.2 = n_ at hvn_ hrin_ ⊢
  have hkn_ : n_.2.k ≤ m := by have := hrin_.1; omega
  skip
  refine gx ?_
  refine qw (qA rfl) rfl rfl size3 rfl rfl rfl (i := 0) rfl rfl (by simp [] <;> omega) (cs' := dV o_.1 n_.1 (List.replicate 32 (0 : Int)) (List.replicate 32 (0 : Int)) (slice none 0 0)) (set_left (by simp []) (rfl)) (H' := [⟨g3, 27, dV o_.1 n_.1 (List.replicate 32 (0 : Int)) (List.replicate 32 (0 : Int)) (slice none 0 0), 67⟩, (rE75 g2 A m c n_.2), ⟨g1, 27, zD, 67⟩]) rfl ?_
  iterate 2 refine gx ?_
  refine qC [0, 2, 5, 6] ?_
  iterate 3 refine gx ?_
  refine qY (ι := Option Addr × Nat) (V := fun y => .slice y.1 (((rBytes B n_.2 32).1.length)) y.2) (R := fun y => Seg A m c B y.1 y.2 (rBytes B n_.2 32).1) (H' := fun y => [⟨g3, 27, dV o_.1 n_.1 (List.replicate 32 (0 : Int)) (List.replicate 32 (0 : Int)) (slice none 0 0), 67⟩, (rE75 g2 A m c ((rBytes B n_.2 32).2)), ⟨g1, 27, zD, 67⟩]) (qA rfl) rfl enters38 rfl rfl (fun w hs => (rbytes_s g2 A m c n_.2 32 (by omega) w (hs.has ((rE75 g2 A m c n_.2)) (by simp)) (by omega) (by omega) (by omega) B hBm).mono fun e w' ⟨A', c', he, hg, hw⟩ => ⟨(A', c'), he, hg, qi (i := 1) (e := (rE75 g2 A m c ((rBytes B n_.2 32).2))) hs rfl rfl hw⟩) (fun y hgx_ => ?_)
  obtain ⟨Ax_, cx_⟩ := y
  dsimp only at hgx_ ⊢
  have hrix_ := rBytes_ri (n := 32) hrin_
  generalize hx_ : rBytes B n_.2 32 = x_ at hgx_ hrix_ ⊢
  have hkx_ : x_.2.k ≤ m := by have := hrix_.1; omega
  have hscx_ := hgx_.cap hmc
  skip
  iterate 6 refine gx ?_
  refine qY (ι := Option Addr × Nat) (V := fun y => .slice y.1 (((rBytes B x_.2 32).1.length)) y.2) (R := fun y => Seg A m c B y.1 y.2 (rBytes B x_.2 32).1) (H' := fun y => [⟨g3, 27, dV o_.1 n_.1 (List.replicate 32 (0 : Int)) (List.replicate 32 (0 : Int)) (slice none 0 0), 67⟩, (rE75 g2 A m c ((rBytes B x_.2 32).2)), ⟨g1, 27, zD, 67⟩]) (qA rfl) rfl enters38 rfl rfl (fun w hs => (rbytes_s g2 A m c x_.2 32 (by omega) w (hs.has ((rE75 g2 A m c x_.2)) (by simp)) (by omega) (by omega) (by omega) B hBm).mono fun e w' ⟨A', c', he, hg, hw⟩ => ⟨(A', c'), he, hg, qi (i := 1) (e := (rE75 g2 A m c ((rBytes B x_.2 32).2))) hs rfl rfl hw⟩) (fun y hgy_ => ?_)
  obtain ⟨Ay_, cy_⟩ := y
  dsimp only at hgy_ ⊢
  have hriy_ := rBytes_ri (n := 32) hrix_
  generalize hy_ : rBytes B x_.2 32 = y_ at hgy_ hriy_ ⊢
  have hky_ : y_.2.k ≤ m := by have := hriy_.1; omega
  have hscy_ := hgy_.cap hmc
  skip
  iterate 3 refine gx ?_
  refine qC [0, 2, 5, 6, 8, 9] ?_
  iterate 3 refine gx ?_
  refine qY (ι := Unit) (V := fun _ => .int .u64 ((rUint B y_.2 4).1)) (R := fun _ => True) (H' := fun _ => [⟨g3, 27, dV o_.1 n_.1 (List.replicate 32 (0 : Int)) (List.replicate 32 (0 : Int)) (slice none 0 0), 67⟩, (rE75 g2 A m c ((rUint B y_.2 4).2)), ⟨g1, 27, zD, 67⟩]) (qA rfl) rfl enters35 rfl rfl (fun w hs => (ruint_s g2 A m c y_.2 4 (by omega) w (hs.has ((rE75 g2 A m c y_.2)) (by simp)) (by omega) (by omega) (by omega) B (hXw.at_ hs (fun b hb hbX => (qE (by show g3 ≠ b; omega) (qE (fun h => hbX g2 (by simp) h.symm) (qE (by show g1 ≠ b; omega) qF))))) hBB).mono fun e w' ⟨he, hw⟩ => ⟨(), he, trivial, qi (i := 1) (e := (rE75 g2 A m c ((rUint B y_.2 4).2))) hs rfl rfl hw⟩) (fun _ _ => ?_)
  have hwc_ := rUint_val4 hBB y_.2
  have hvc_ := rUint_val hBB y_.2 (n := 4) (by omega)
  have hric_ := rUint_ri (n := 4) hriy_
  generalize hc_ : rUint B y_.2 4 = c_ at hvc_ hric_ hwc_ ⊢
  have hkc_ : c_.2.k ≤ m := by have := hric_.1; omega
  skip
  obtain ⟨l_, hl_⟩ : ∃ l, rIter B c_.2 c_.1.toNat = l := ⟨_, rfl⟩
  refine qB (qA rfl) rfl (qt rfl Tryz.underlying37 Tryz.underlying3 rfl (r := c_.1) (w64 rfl (by omega))) ?_
  iterate 3 refine gx ?_
  refine qC [0, 2, 5, 6, 8, 9, 10] ?_
  refine TC.seqJ (ι := WD) (fun z => [(2, .pointer (some ⟨g1, 0, none⟩)), (5, .pointer (some ⟨g2, 0, none⟩)), (6, .pointer (some ⟨g3, 0, none⟩)), (0, .slice A m c), (8, .slice Ax_ x_.1.length cx_), (9, .slice Ay_ y_.1.length cy_)]) (fun z => [⟨g3, 27, [int .i64 o_.1, int .i64 n_.1] ++ ((List.replicate 32 (0 : Int)).map (int .u8) ++ ((List.replicate 32 (0 : Int)).map (int .u8) ++ ([z.v]))), 67⟩, (rE75 g2 A m c l_.2), ⟨g1, 27, zD, 67⟩] ++ z.He) (fun z => OwnS w.heap.size 61 5 z.v z.i (flatC z.Es) z.He ∧ z.Es.map cmC = l_.1 ∧ (∀ q ∈ z.Es, Seg A m c B q.A q.c q.B ∧ q.m = q.B.length)) ?_ (fun z hz_ => ?_)
  ·iterate 6 refine gx ?_
   refine qr (ι := WD) (fun x0 => [(2, .pointer (some ⟨g1, 0, none⟩)), (5, .pointer (some ⟨g2, 0, none⟩)), (6, .pointer (some ⟨g3, 0, none⟩)), (0, .slice A m c), (8, .slice Ax_ x_.1.length cx_), (9, .slice Ay_ y_.1.length cy_), (10, .int .i64 c_.1), (11, .int .i64 (x0.i : Int))]) (fun x0 => [⟨g3, 27, [int .i64 o_.1, int .i64 n_.1] ++ ((List.replicate 32 (0 : Int)).map (int .u8) ++ ((List.replicate 32 (0 : Int)).map (int .u8) ++ ([x0.v]))), 67⟩, (rE75 g2 A m c ((rIter B c_.2 x0.i).2)), ⟨g1, 27, zD, 67⟩] ++ x0.He) (fun x0 => c_.1.toNat - x0.i) (fun x0 => OwnS w.heap.size 61 5 x0.v x0.i (flatC x0.Es) x0.He ∧ x0.Es.map cmC = (rIter B c_.2 x0.i).1 ∧ (∀ q ∈ x0.Es, Seg A m c B q.A q.c q.B ∧ q.m = q.B.length) ∧ (x0.i : Int) ≤ c_.1) (⟨0, .slice none 0 0, [], []⟩ : WD) ⟨OwnS.nil _ _ _, rfl, (fun q hq => by cases hq), (by show ((0 : Nat) : Int) ≤ c_.1; omega)⟩ (qI (i := 2) rfl (qI (i := 5) rfl (qI (i := 6) rfl (qT (i := 0) rfl rfl (by first | omega | (dsimp only; omega) | rfl) (by first | omega | (dsimp only; omega) | rfl) (qT (i := 8) rfl rfl (by first | omega | (dsimp only; omega) | rfl) (by first | omega | (dsimp only; omega) | rfl) (qT (i := 9) rfl rfl (by first | omega | (dsimp only; omega) | rfl) (by first | omega | (dsimp only; omega) | rfl) (qH (i := 10) rfl (by first | rfl | omega) (qH (i := 11) rfl rfl (qN))))))))) (fun w h => h) (fun x0 hC0 => ?_)
   obtain ⟨i, v, He, Es⟩ := x0
   obtain ⟨hov, hEs, hsg, hic⟩ := hC0
   dsimp only at hov hEs hsg hic ⊢
   have hrii := rIter_ri hric_ i
   have hki : (rIter B c_.2 i).2.k ≤ m := by have := hrii.1; omega
   iterate 5 refine gx ?_
   by_cases d1 : (i : Int) < c_.1
   ·refine qB (qA rfl) rfl (qP (zC rfl rfl rfl) d1) ?_
    iterate 2 refine gx ?_
    refine qB (qJ rfl rfl rfl) rfl (qO rfl rfl) ?_
    iterate 2 refine gx ?_
    by_cases d2 : ((rIter B c_.2 i).2.co) = 0
    ·refine qB (qJ rfl rfl rfl) rfl (qP (qo rfl rfl rfl) d2) ?_
     iterate 3 refine gx ?_
     refine qC [0, 2, 5, 6, 8, 9, 10, 11, 56] ?_
     refine qd rfl ?_
     iterate 2 refine gx ?_
     refine qC [0, 2, 5, 6, 8, 9, 10, 11] ?_
     iterate 2 refine gx ?_
     have hcnt := rIter_count hBB d2 hric_.1
     refine qe (H' := [⟨g3, 27, [int .i64 o_.1, int .i64 n_.1] ++ ((List.replicate 32 (0 : Int)).map (int .u8) ++ ((List.replicate 32 (0 : Int)).map (int .u8) ++ ([v]))), 67⟩] ++ ([(rE75 g2 A m c ((rIter B c_.2 i).2)), ⟨g1, 27, zD, 67⟩] ++ He)) (fun w h => h) ?_
     refine TC.mixB (HB := [Ent.mk g3 27 ([int .i64 o_.1, int .i64 n_.1] ++ ((List.replicate 32 (0 : Int)).map (int .u8) ++ ((List.replicate 32 (0 : Int)).map (int .u8) ++ ([v])))) 67]) (H := [Ent.mk g2 75 ([slice A m c, int .i64 ((rIter B c_.2 i).2.k : Int), int .i64 ((rIter B c_.2 i).2.co), int .i64 ((rIter B c_.2 i).2.po)]) 4, Ent.mk g1 27 (zD) 67] ++ He) (by kernel_rfl) [0, 0, 0, 3, 3, 3, 0, 7] [0, 1, 2, 3, 4, 5, 6, 7] (by kernel_rfl) ?_
     refine qz (qA rfl) rfl (fun _ => zE rfl Tryz.underlying27 rfl size25 rfl (off' := 66) (by first | rfl | omega)) ?_
     refine zO (qA rfl) rfl (fun H' => qS rfl agg25 rfl (qZ (i := 0) (ent := ⟨g3, 27, [int .i64 o_.1, int .i64 n_.1] ++ ((List.replicate 32 (0 : Int)).map (int .u8) ++ ((List.replicate 32 (0 : Int)).map (int .u8) ++ ([v]))), 67⟩) (off := 66) rfl rfl (by exact app_right (a := 2) (i := 64) (rfl) (app_right (a := 32) (i := 32) (ints_len (by simp)) (app_right (a := 32) (i := 0) (ints_len (by simp)) (rfl)))))) ?_
     refine qz (qA rfl) rfl (fun _ => qp rfl rfl) ?_
     refine zW (ι := Option Addr × Nat) (V := fun y => .agg ([int .i64 ((rCmd B (⟨(((rIter B c_.2 i).2.k)), ((rIter B c_.2 i).2.co), ((rIter B c_.2 i).2.po)⟩ : RS)).1.k), int .i64 ((rCmd B (⟨(((rIter B c_.2 i).2.k)), ((rIter B c_.2 i).2.co), ((rIter B c_.2 i).2.po)⟩ : RS)).1.t), int .i64 ((rCmd B (⟨(((rIter B c_.2 i).2.k)), ((rIter B c_.2 i).2.co), ((rIter B c_.2 i).2.po)⟩ : RS)).1.f), int .i64 ((rCmd B (⟨(((rIter B c_.2 i).2.k)), ((rIter B c_.2 i).2.co), ((rIter B c_.2 i).2.po)⟩ : RS)).1.l), slice y.1 (((rCmd B (⟨(((rIter B c_.2 i).2.k)), ((rIter B c_.2 i).2.co), ((rIter B c_.2 i).2.po)⟩ : RS)).1.B.length)) y.2]).toArray) (R := fun y => Seg A m c B y.1 y.2 (rCmd B (⟨(((rIter B c_.2 i).2.k)), ((rIter B c_.2 i).2.co), ((rIter B c_.2 i).2.po)⟩ : RS)).1.B) (H' := fun y => [(rE75 g2 A m c ((rCmd B (⟨(((rIter B c_.2 i).2.k)), ((rIter B c_.2 i).2.co), ((rIter B c_.2 i).2.po)⟩ : RS)).2)), ⟨g1, 27, zD, 67⟩] ++ He) (qA rfl) rfl enters39 rfl rfl (fun w hs => (rcommand_s g2 A m c (⟨(((rIter B c_.2 i).2.k)), ((rIter B c_.2 i).2.co), ((rIter B c_.2 i).2.po)⟩ : RS) w (hs.has ((rE75 g2 A m c ((rIter B c_.2 i).2))) (by simp)) (by omega) (by omega) (by omega) B (hXw.at_ hs (fun b hb hbX => (qV (qE (by show g3 ≠ b; omega) qF) (qV (qE (fun h => hbX g2 (by simp) h.symm) (qE (by show g1 ≠ b; omega) qF)) (hov.fr.ne hb))))) hBB hrii).mono fun e w' ⟨A', c', he, hg, hw⟩ => ⟨(A', c'), he, hg, qi (i := 1) (e := (rE75 g2 A m c ((rCmd B (⟨(((rIter B c_.2 i).2.k)), ((rIter B c_.2 i).2.co), ((rIter B c_.2 i).2.po)⟩ : RS)).2))) hs rfl rfl hw⟩) (fun y hgq => ?_)
     obtain ⟨Aq, cq⟩ := y
     dsimp only at hgq ⊢
     generalize hcm : rCmd B (⟨(((rIter B c_.2 i).2.k)), ((rIter B c_.2 i).2.co), ((rIter B c_.2 i).2.po)⟩ : RS) = cm at hgq ⊢
     refine TP.buildSlice (qA rfl) rfl rfl Tryz.underlying25 size61 zero61 rfl (by decide) (by decide) (cells := #[.int .i64 cm.1.k, .int .i64 cm.1.t, .int .i64 cm.1.f, .int .i64 cm.1.l, .slice Aq cm.1.B.length cq]) (tot := 5) (by kernel_rfl) (cs := [.int .i64 cm.1.k, .int .i64 cm.1.t, .int .i64 cm.1.f, .int .i64 cm.1.l, .slice Aq cm.1.B.length cq]) rfl rfl (fun g5 hg5 => ?_)
     refine TP.appendS (H0 := [Ent.mk g5 61 ([int .i64 cm.1.k, int .i64 cm.1.t, int .i64 cm.1.f, int .i64 cm.1.l, slice Aq cm.1.B.length cq]) 5, Ent.mk g2 75 ([slice A m c, int .i64 (cm.2.k : Int), int .i64 cm.2.co, int .i64 cm.2.po]) 4, Ent.mk g1 27 (zD) 67]) (He := He) (qA rfl) rfl rfl Tryz.underlying25 mk61 rfl (by decide) rfl rfl (s := 5) (nn := i) (m := 1) (cs := flatC Es) (news := cellsC (⟨cm.1.k, cm.1.t, cm.1.f, cm.1.l, Aq, cm.1.B.length, cq, cm.1.B⟩ : CV)) hov rfl (fun w hs => lies_srcV (hs.has (⟨g5, 61, [int .i64 cm.1.k, int .i64 cm.1.t, int .i64 cm.1.f, int .i64 cm.1.l, slice Aq cm.1.B.length cq], 5⟩) (by simp))) (by intro u hu; simp only [cellsC, List.mem_cons, List.not_mem_nil, or_false] at hu; rcases hu with rfl | rfl | rfl | rfl | rfl <;> rfl) (by unfold maxLen; omega) (by omega) (fun v1 H1 hv1 => ?_)
     have hv1f := hv1.fr
     obtain ⟨A9, c9, rfl, hc9, hd9⟩ := hv1.form
     refine qz (qA rfl) rfl (fun _ => zE rfl Tryz.underlying27 rfl size25 rfl (off' := 66) (by first | rfl | omega)) ?_
     refine TP.last1 (qA rfl) rfl rfl size25 rfl rfl rfl (i := 0) rfl rfl (by simp [] <;> omega) (cs' := dV o_.1 n_.1 (List.replicate 32 (0 : Int)) (List.replicate 32 (0 : Int)) (slice A9 (i + 1) c9)) (set_right (a := 2) (i := 64) (rfl) (set_right (a := 32) (i := 32) (ints_len (by simp)) (set_right (a := 32) (i := 0) (ints_len (by simp)) (rfl)))) (H' := [⟨g3, 27, dV o_.1 n_.1 (List.replicate 32 (0 : Int)) (List.replicate 32 (0 : Int)) (slice A9 (i + 1) c9), 67⟩, ⟨g5, 61, [int .i64 cm.1.k, int .i64 cm.1.t, int .i64 cm.1.f, int .i64 cm.1.l, slice Aq cm.1.B.length cq], 5⟩, (rE75 g2 A m c cm.2), ⟨g1, 27, zD, 67⟩] ++ H1) rfl ?_
     iterate 2 refine gx ?_
     refine qC [0, 2, 5, 6, 8, 9, 10, 11] ?_
     iterate 2 refine gx ?_
     refine qB (qA rfl) rfl (qR rfl rfl rfl (r := ((i : Int) + 1)) (w64 (by omega) (by omega))) ?_
     iterate 2 refine gx ?_
     have hst2 : (rIter B c_.2 (i + 1)).2 = cm.2 := by rw [rIter_succ_ok d2, hcm]
     exact qj (⟨i + 1, .slice A9 (i + 1) c9, H1, Es ++ [(⟨cm.1.k, cm.1.t, cm.1.f, cm.1.l, Aq, cm.1.B.length, cq, cm.1.B⟩ : CV)]⟩ : WD) (by show c_.1.toNat - (i + 1) < c_.1.toNat - i; omega) ⟨by show OwnS _ _ 5 (.slice A9 (i + 1) c9) (i + 1) (flatC (Es ++ [(⟨cm.1.k, cm.1.t, cm.1.f, cm.1.l, Aq, cm.1.B.length, cq, cm.1.B⟩ : CV)])) H1; rw [flatC_app, flatC_one]; exact hv1, by show (Es ++ [(⟨cm.1.k, cm.1.t, cm.1.f, cm.1.l, Aq, cm.1.B.length, cq, cm.1.B⟩ : CV)]).map cmC = (rIter B c_.2 (i + 1)).1; rw [rIter_succ_ok d2, List.map_append, hEs, hcm]; rfl, (fun q hq => by rcases List.mem_append.1 hq with hq | hq; exact hsg q hq; rw [List.mem_singleton.1 hq]; exact ⟨hgq, rfl⟩), by show ((i + 1 : Nat) : Int) ≤ c_.1; omega⟩ (qI (i := 2) rfl (qI (i := 5) rfl (qI (i := 6) rfl (qT (i := 0) rfl rfl (by first | omega | (dsimp only; omega) | rfl) (by first | omega | (dsimp only; omega) | rfl) (qT (i := 8) rfl rfl (by first | omega | (dsimp only; omega) | rfl) (by first | omega | (dsimp only; omega) | rfl) (qT (i := 9) rfl rfl (by first | omega | (dsimp only; omega) | rfl) (by first | omega | (dsimp only; omega) | rfl) (qH (i := 10) rfl (by first | rfl | omega) (qH (i := 11) rfl (by show (i : Int) + 1 = ((i + 1 : Nat) : Int); omega) (qN))))))))) (fun wz h => by show St _ ([⟨g3, 27, dV o_.1 n_.1 (List.replicate 32 (0 : Int)) (List.replicate 32 (0 : Int)) (slice A9 (i + 1) c9), 67⟩, (rE75 g2 A m c ((rIter B c_.2 (i + 1)).2)), ⟨g1, 27, zD, 67⟩] ++ H1) wz; rw [hst2]; exact h.erase (i := 1) rfl hg5)
    ·refine qB (qJ rfl rfl rfl) rfl (qU (qo rfl rfl rfl) d2) ?_
     iterate 3 refine gx ?_
     refine qC [0, 2, 5, 6, 8, 9, 10, 11, 56] ?_
     refine qW rfl ?_
     iterate 4 refine gx ?_
     have hli : rIter B c_.2 i = l_ := by rw [← hl_, show c_.1.toNat = i + (c_.1.toNat - i) by omega]; exact (rIter_stop d2 _).symm
     exact TE.join (⟨i, v, He, Es⟩ : WD) ⟨hov, by rw [← hli]; exact hEs, hsg⟩ (qI (i := 2) rfl (qI (i := 5) rfl (qI (i := 6) rfl (qT (i := 0) rfl rfl (by first | omega | (dsimp only; omega) | rfl) (by first | omega | (dsimp only; omega) | rfl) (qT (i := 8) rfl rfl (by first | omega | (dsimp only; omega) | rfl) (by first | omega | (dsimp only; omega) | rfl) (qT (i := 9) rfl rfl (by first | omega | (dsimp only; omega) | rfl) (by first | omega | (dsimp only; omega) | rfl) (qN))))))) (fun w h => by rw [← hli]; exact h)
   ·refine qB (qA rfl) rfl (qU (zC rfl rfl rfl) d1) ?_
    iterate 9 refine gx ?_
    refine qC [0, 2, 5, 6, 8, 9, 10, 11, 56] ?_
    refine qW rfl ?_
    iterate 4 refine gx ?_
    have hli : rIter B c_.2 i = l_ := by rw [← hl_, show c_.1.toNat = i by omega]
    exact TE.join (⟨i, v, He, Es⟩ : WD) ⟨hov, by rw [← hli]; exact hEs, hsg⟩ (qI (i := 2) rfl (qI (i := 5) rfl (qI (i := 6) rfl (qT (i := 0) rfl rfl (by first | omega | (dsimp only; omega) | rfl) (by first | omega | (dsimp only; omega) | rfl) (qT (i := 8) rfl rfl (by first | omega | (dsimp only; omega) | rfl) (by first | omega | (dsimp only; omega) | rfl) (qT (i := 9) rfl rfl (by first | omega | (dsimp only; omega) | rfl) (by first | omega | (dsimp only; omega) | rfl) (qN))))))) (fun w h => by rw [← hli]; exact h)
  ·obtain ⟨i, v, He, Es⟩ := z
   obtain ⟨hov, hEs, hsg⟩ := hz_
   dsimp only at hov hEs hsg ⊢
   have hril := rIter_ri hric_ c_.1.toNat
   rw [hl_] at hril
   have hkl : l_.2.k ≤ m := by have := hril.1; omega
   refine TC.seqJ (ι := RS) (fun q => [(2, .pointer (some ⟨g1, 0, none⟩)), (5, .pointer (some ⟨g2, 0, none⟩)), (6, .pointer (some ⟨g3, 0, none⟩)), (8, .slice Ax_ x_.1.length cx_), (9, .slice Ay_ y_.1.length cy_)]) (fun q => [⟨g3, 27, [int .i64 o_.1, int .i64 n_.1] ++ ((List.replicate 32 (0 : Int)).map (int .u8) ++ ((List.replicate 32 (0 : Int)).map (int .u8) ++ ([v]))), 67⟩, (rE75 g2 A m c q), ⟨g1, 27, zD, 67⟩] ++ He) (fun q => extraF B l_.2 = q) ?_ (fun q hq => ?_)
   ·iterate 3 refine gx ?_
    refine qB (qA rfl) rfl (qO rfl rfl) ?_
    iterate 2 refine gx ?_
    by_cases e1 : l_.2.co = 0
    ·refine qB (qA rfl) rfl (qP (qo rfl rfl rfl) e1) ?_
     iterate 2 refine gx ?_
     refine qB (qJ rfl rfl rfl) rfl (qO rfl rfl) ?_
     iterate 4 refine gx ?_
     by_cases e2 : (l_.2.k : Int) < (m : Int)
     ·refine qB (qJ rfl rfl rfl) rfl (qP (zC rfl rfl rfl) e2) ?_
      iterate 3 refine gx ?_
      refine qC [2, 5, 6, 8, 9, 79] ?_
      refine qd rfl ?_
      iterate 3 refine gx ?_
      refine qB (qA rfl) rfl (qO rfl rfl) ?_
      iterate 2 refine gx ?_
      refine qY (ι := Unit) (V := fun _ => .tuple #[]) (R := fun _ => True) (H' := fun _ => [⟨g3, 27, [int .i64 o_.1, int .i64 n_.1] ++ ((List.replicate 32 (0 : Int)).map (int .u8) ++ ((List.replicate 32 (0 : Int)).map (int .u8) ++ ([v]))), 67⟩, (rE75 g2 A m c (rFail l_.2 12 (l_.2.k : Int))), ⟨g1, 27, zD, 67⟩] ++ He) (qA rfl) rfl enters36 rfl rfl (fun w hs => (rfail_s g2 A m c l_.2 12 (l_.2.k : Int) (by decide) w (hs.has ((rE75 g2 A m c l_.2)) (by simp))).mono fun e w' ⟨he, hw⟩ => ⟨(), he, trivial, qi (i := 1) (e := (rE75 g2 A m c (rFail l_.2 12 (l_.2.k : Int)))) hs rfl rfl hw⟩) (fun _ _ => ?_)
      have hz2 : extraF B l_.2 = rFail l_.2 12 (l_.2.k : Int) := extraF_T e1 (by omega)
      generalize hgz2 : rFail l_.2 12 (l_.2.k : Int) = z2 at hz2 ⊢
      refine gx ?_
      exact TE.join z2 hz2 (qI (i := 2) rfl (qI (i := 5) rfl (qI (i := 6) rfl (qT (i := 8) rfl rfl (by first | omega | (dsimp only; omega) | rfl) (by first | omega | (dsimp only; omega) | rfl) (qT (i := 9) rfl rfl (by first | omega | (dsimp only; omega) | rfl) (by first | omega | (dsimp only; omega) | rfl) (qN)))))) (fun w h => h)
     ·have hz2 : extraF B l_.2 = l_.2 := extraF_F (fun h => e2 (by have := h.2; omega))
      refine qB (qJ rfl rfl rfl) rfl (qU (zC rfl rfl rfl) e2) ?_
      iterate 3 refine gx ?_
      refine qC [2, 5, 6, 8, 9, 79] ?_
      refine qW rfl ?_
      refine gx ?_
      exact TE.join l_.2 hz2 (qI (i := 2) rfl (qI (i := 5) rfl (qI (i := 6) rfl (qT (i := 8) rfl rfl (by first | omega | (dsimp only; omega) | rfl) (by first | omega | (dsimp only; omega) | rfl) (qT (i := 9) rfl rfl (by first | omega | (dsimp only; omega) | rfl) (by first | omega | (dsimp only; omega) | rfl) (qN)))))) (fun w h => h)
    ·have hz2 : extraF B l_.2 = l_.2 := extraF_F (fun h => e1 h.1)
     refine qB (qA rfl) rfl (qU (qo rfl rfl rfl) e1) ?_
     iterate 11 refine gx ?_
     refine qC [2, 5, 6, 8, 9, 79] ?_
     refine qW rfl ?_
     refine gx ?_
     exact TE.join l_.2 hz2 (qI (i := 2) rfl (qI (i := 5) rfl (qI (i := 6) rfl (qT (i := 8) rfl rfl (by first | omega | (dsimp only; omega) | rfl) (by first | omega | (dsimp only; omega) | rfl) (qT (i := 9) rfl rfl (by first | omega | (dsimp only; omega) | rfl) (by first | omega | (dsimp only; omega) | rfl) (qN)))))) (fun w h => h)
   ·have hdec : rDec B = ⟨o_.1, n_.1, x_.1, y_.1, l_.1, q⟩ := by unfold rDec; dsimp only; rw [hE, hv_, hz, ho_, hn_, hx_, hy_, hc_, hl_, hq]
    iterate 4 refine gx ?_
    refine qB (qA rfl) rfl (qO rfl rfl) ?_
    iterate 2 refine gx ?_
    by_cases f1 : q.co ≠ 0
    ·refine qB (qA rfl) rfl (qP (qs rfl rfl rfl) f1) ?_
     iterate 2 refine gx ?_
     refine qC [2, 5, 6, 8, 9, 90] ?_
     refine qd rfl ?_
     refine gx ?_
     refine qe (H' := [Ent.mk g3 27 ([int .i64 o_.1, int .i64 n_.1] ++ ((List.replicate 32 (0 : Int)).map (int .u8) ++ ((List.replicate 32 (0 : Int)).map (int .u8) ++ ([v])))) 67, Ent.mk g2 75 ([slice A m c, int .i64 (q.k : Int), int .i64 q.co, int .i64 q.po]) 4, Ent.mk g1 27 (zD) 67]) (fun w h => St.left h hov.new) ?_
     refine TC.mixS [⟨g3, 27, [int .i64 o_.1, int .i64 n_.1] ++ ((List.replicate 32 (0 : Int)).map (int .u8) ++ ((List.replicate 32 (0 : Int)).map (int .u8) ++ ([v]))), 67⟩, (rE75 g2 A m c q)] [⟨g1, 27, zD, 67⟩] (by kernel_rfl) [0, 0, 0, 0, 1, 0, 0, 0, 1, 4, 0, 0] [0, 1, 2, 3, 4, 5, 6, 7, 8, 9, 10, 11] [fun _ _ => True, fun _ _ => True, fun _ _ => True, fun _ _ => True, fun _ _ => True, fun _ _ => True, fun _ _ => True, fun _ _ => True, fun _ _ => True, fun _ _ => True, fun _ _ => True, fun _ _ => True] (by kernel_rfl) (by kernel_rfl) (perm_pick (p := [0, 1, 2]) (by kernel_rfl) rfl) (qx (by assumption) zA) ?_
     refine zK (qA rfl) rfl (fun _ => qm rfl (vs := []) rfl (fun w => by first | rfl | kernel_rfl) (v := .agg (zD).toArray)) ?_
     refine gx ?_
     refine zK (qA rfl) rfl (fun _ => qO rfl rfl) ?_
     iterate 3 refine gx ?_
     refine zK (qA rfl) rfl (fun _ => qO rfl rfl) ?_
     iterate 2 refine gx ?_
     refine TR.storeW (qA rfl) rfl rfl size27 rfl (vs := zD) rfl rfl (by simp [Value.oneCell']) (i := 0) (ent := ⟨g1, 27, zD, 67⟩) rfl rfl rfl (D' := [⟨g1, 27, zD, 67⟩]) rfl (qx (by assumption) zA) ?_
     iterate 6 refine gx ?_
     exact TE.ret3C rfl agg27 size27 rfl rfl rfl (vs := zD) (by simp []) (qQ (i := 2) (ent := ⟨g1, 27, zD, 67⟩) rfl rfl rfl) (fun w hs => .inl ⟨by rw [hdec]; exact f1, by rw [hdec], (((hs.drop (by assumption)).drop (by assumption)).drop (by assumption))⟩)
    ·have hq0 : q.co = 0 := Decidable.not_not.1 f1
     have hbk := rDec_back hBB (by rw [hdec]; exact hq0)
     rw [hdec] at hbk
     have hx32 : x_.1.length = 32 := hbk.2.2.1
     have hy32 : y_.1.length = 32 := hbk.2.2.2.1
     refine qB (qA rfl) rfl (qU (qs rfl rfl rfl) f1) ?_
     iterate 2 refine gx ?_
     refine qC [2, 5, 6, 8, 9, 90] ?_
     refine qW rfl ?_
     iterate 9 refine gx ?_
     refine qr (ι := WE) (fun x1 => [(2, .pointer (some ⟨g1, 0, none⟩)), (6, .pointer (some ⟨g3, 0, none⟩)), (8, .slice Ax_ x_.1.length cx_), (9, .slice Ay_ y_.1.length cy_), (12, .int .i64 (x1.i : Int))]) (fun x1 => [⟨g3, 27, [int .i64 o_.1, int .i64 n_.1] ++ (x1.W.map (int .u8) ++ (x1.V.map (int .u8) ++ ([v]))), 67⟩, (rE75 g2 A m c q), ⟨g1, 27, zD, 67⟩] ++ He) (fun x1 => 32 - x1.i) (fun x1 => x1.i ≤ 32 ∧ x1.W.length = 32 ∧ x1.V.length = 32 ∧ (∀ j, j < x1.i → x1.W.getD j 0 = x_.1.getD j 0) ∧ (∀ j, j < x1.i → x1.V.getD j 0 = y_.1.getD j 0)) (⟨0, (List.replicate 32 (0 : Int)), (List.replicate 32 (0 : Int))⟩ : WE) ⟨Nat.zero_le _, by simp, by simp, fun j hj => absurd hj (Nat.not_lt_zero j), fun j hj => absurd hj (Nat.not_lt_zero j)⟩ (qI (i := 2) rfl (qI (i := 6) rfl (qT (i := 8) rfl rfl (by first | omega | (dsimp only; omega) | rfl) (by first | omega | (dsimp only; omega) | rfl) (qT (i := 9) rfl rfl (by first | omega | (dsimp only; omega) | rfl) (by first | omega | (dsimp only; omega) | rfl) (qH (i := 12) rfl rfl (qN)))))) (fun w h => h) (fun x1 hC1 => ?_)
     obtain ⟨i2, W, V⟩ := x1
     obtain ⟨hi2, hW, hV, hWx, hVy⟩ := hC1
     dsimp only at hi2 hW hV hWx hVy ⊢
     iterate 7 refine gx ?_
     refine qX rfl (fun hq4 => ?_) (fun hq4 => ?_)
     ·obtain ⟨bx, ox, hAx, hbx, hbXx, hrx⟩ := (hgx_.src hXw hmc).2.resolve_left (by omega)
      subst hAx
      obtain ⟨by_, oy, hAy, hby, hbXy, hry⟩ := (hgy_.src hXw hmc).2.resolve_left (by omega)
      subst hAy
      iterate 9 refine gx ?_
      refine qB (qA rfl) rfl (ql rfl Tryz.underlying22 size5 rfl rfl (i := i2) (by omega) (by omega) (off' := (ox + i2)) (by omega)) ?_
      refine qB (qA rfl) rfl (qS rfl agg5 rfl (At.rowI hrx (i := i2) (by omega) (by omega) hbx (qV (qE (by show g3 ≠ bx; omega) (qE (by show g2 ≠ bx; omega) (qE (by show g1 ≠ bx; omega) qF))) (hov.fr.ne hbx)))) ?_
      refine gx ?_
      refine qB (qA rfl) rfl (qq rfl Tryz.underlying24 size5 rfl rfl (i := i2) (by omega) (by omega) (off' := (i2 + 2)) (by omega)) ?_
      refine qw (qA rfl) rfl rfl size5 rfl rfl rfl (i := 0) rfl rfl (by simp [hW, hV] <;> omega) (cs' := [int .i64 o_.1, int .i64 n_.1] ++ ((W.set i2 (x_.1.getD i2 0)).map (int .u8) ++ (V.map (int .u8) ++ ([v])))) (by rw [show (i2 + 2) = (2 + i2) from by omega]; exact set_right (a := 2) (i := i2) (rfl) (set_left (A := W.map (int .u8)) (by simp [hW]; omega) (ints_set))) (H' := [⟨g3, 27, [int .i64 o_.1, int .i64 n_.1] ++ ((W.set i2 (x_.1.getD i2 0)).map (int .u8) ++ (V.map (int .u8) ++ ([v]))), 67⟩, (rE75 g2 A m c q), ⟨g1, 27, zD, 67⟩] ++ He) rfl ?_
      iterate 2 refine gx ?_
      refine qC [2, 6, 8, 9, 12] ?_
      iterate 4 refine gx ?_
      refine qB (qA rfl) rfl (ql rfl Tryz.underlying22 size5 rfl rfl (i := i2) (by omega) (by omega) (off' := (oy + i2)) (by omega)) ?_
      refine qB (qA rfl) rfl (qS rfl agg5 rfl (At.rowI hry (i := i2) (by omega) (by omega) hby (qV (qE (by show g3 ≠ by_; omega) (qE (by show g2 ≠ by_; omega) (qE (by show g1 ≠ by_; omega) qF))) (hov.fr.ne hby)))) ?_
      refine gx ?_
      refine qB (qA rfl) rfl (qq rfl Tryz.underlying24 size5 rfl rfl (i := i2) (by omega) (by omega) (off' := (i2 + 34)) (by omega)) ?_
      refine qw (qA rfl) rfl rfl size5 rfl rfl rfl (i := 0) rfl rfl (by simp [hW, hV] <;> omega) (cs' := [int .i64 o_.1, int .i64 n_.1] ++ ((W.set i2 (x_.1.getD i2 0)).map (int .u8) ++ ((V.set i2 (y_.1.getD i2 0)).map (int .u8) ++ ([v])))) (by rw [show (i2 + 34) = (2 + (32 + i2)) from by omega]; exact set_right (a := 2) (i := (32 + i2)) (rfl) (set_right (a := 32) (i := i2) (ints_len ((List.length_set ..).trans hW)) (set_left (A := V.map (int .u8)) (by simp [hV]; omega) (ints_set)))) (H' := [⟨g3, 27, [int .i64 o_.1, int .i64 n_.1] ++ ((W.set i2 (x_.1.getD i2 0)).map (int .u8) ++ ((V.set i2 (y_.1.getD i2 0)).map (int .u8) ++ ([v]))), 67⟩, (rE75 g2 A m c q), ⟨g1, 27, zD, 67⟩] ++ He) rfl ?_
      iterate 3 refine gx ?_
      refine qC [2, 6, 8, 9, 12] ?_
      iterate 2 refine gx ?_
      refine qB (qA rfl) rfl (qR rfl rfl rfl (r := ((i2 : Int) + 1)) (w64 (by omega) (by omega))) ?_
      iterate 2 refine gx ?_
      exact qj (⟨i2 + 1, (W.set i2 (x_.1.getD i2 0)), (V.set i2 (y_.1.getD i2 0))⟩ : WE) (by show 32 - (i2 + 1) < 32 - i2; omega) ⟨by show i2 + 1 ≤ 32; omega, (List.length_set ..).trans hW, (List.length_set ..).trans hV, set_copy hWx (by omega), set_copy hVy (by omega)⟩ (qI (i := 2) rfl (qI (i := 6) rfl (qT (i := 8) rfl (by first | rfl | (congr 2; omega)) (by first | omega | (dsimp only; omega) | rfl) (by first | omega | (dsimp only; omega) | rfl) (qT (i := 9) rfl (by first | rfl | (congr 2; omega)) (by first | omega | (dsimp only; omega) | rfl) (by first | omega | (dsimp only; omega) | rfl) (qH (i := 12) rfl (by show (i2 : Int) + 1 = ((i2 + 1 : Nat) : Int); omega) (qN)))))) (fun w h => h)
     ·obtain rfl : 32 = i2 := by omega
      have ew : W = x_.1 := list_of_getD (by omega) (fun j hj => hWx j (by omega))
      have ev : V = y_.1 := list_of_getD (by omega) (fun j hj => hVy j (by omega))
      subst ew
      subst ev
      obtain ⟨A8, c8, rfl, hc8, hd8⟩ := hov.form
      have hov' : OwnS w.heap.size 61 5 (.slice A8 i c8) Es.length (flatC Es) He := by have e := hov.1; rw [flatC_len] at e; rw [show Es.length = i by omega]; exact hov
      iterate 7 refine gx ?_
      refine qB (qA rfl) rfl (qg rfl agg27 size27 rfl (vs := dV o_.1 n_.1 x_.1 y_.1 (slice A8 i c8)) (by simp [hW, hV]) (qQ (i := 0) (ent := ⟨g3, 27, dV o_.1 n_.1 x_.1 y_.1 (slice A8 i c8), 67⟩) rfl rfl rfl)) ?_
      refine qn (qA rfl) rfl rfl size27 rfl (vs := dV o_.1 n_.1 x_.1 y_.1 (slice A8 i c8)) rfl (by simp [hW, hV]) (qa (by simp [Value.oneCell']) (qa qb (qa qb (by simp [Value.oneCell'])))) (i := 2) (ent := ⟨g1, 27, zD, 67⟩) rfl rfl (by simp []) (H' := [⟨g3, 27, dV o_.1 n_.1 x_.1 y_.1 (slice A8 i c8), 67⟩, (rE75 g2 A m c q), ⟨g1, 27, dV o_.1 n_.1 x_.1 y_.1 (slice A8 i c8), 67⟩] ++ He) rfl ?_
      iterate 5 refine gx ?_
      exact TE.ret3C rfl agg27 size27 rfl rfl rfl (vs := dV o_.1 n_.1 x_.1 y_.1 (slice A8 i c8)) (by simp [hW, hV]) (qQ (i := 2) (ent := ⟨g1, 27, dV o_.1 n_.1 x_.1 y_.1 (slice A8 i c8), 67⟩) rfl rfl rfl) (fun w hs => .inr ⟨by rw [hdec]; exact hq0, _, He, Es, by rw [hdec], hov', by rw [hdec]; exact hEs, hsg, (((hs.drop (by assumption)).drop (by assumption)).drop (by assumption))⟩)
/-
 The reference of layers 6 and 7: Append, Encode.
-/
theorem be1k {k : Int} (h : k = 1 ∨ k = 2) : beV k 1 = [k] := by rcases h with rfl | rfl <;> decide +kernel
theorem enc_take {Cs : List CV} {i : Nat} {x : CV} (h : Cs[i]? = some x) : encCs ((Cs.take (i + 1)).map cmC) = encCs ((Cs.take i).map cmC) ++ encC (cmC x) := by
 rw [take_one h, List.map_append, encCs_app]
 show encCs ((Cs.take i).map cmC) ++ (encC (cmC x) ++ []) = _
 rw [List.append_nil]
theorem encD_is {o n : Int} {H1 H2 : List Int} {Cs : List CV} {m : Nat} (h : Cs.length = m) : magicB ++ [1] ++ beV o 8 ++ beV n 8 ++ H1 ++ H2 ++ beV (m : Int) 4 ++ encCs (Cs.map cmC) = encD o n H1 H2 (Cs.map cmC) := by
 unfold encD
 rw [List.length_map, h, show beV 1 1 = [1] from be1k (.inl rfl)]
 simp only [List.append_assoc]
theorem Own.fr7 {w0 : World} {e : TypeId} {kd : IntKind} {v : Value} {W : List Int} {He : List Ent} (h : Own w0.heap.size e kd v W He) : Fresh w0 He := h.new
structure WGq where
 i : Nat
 v : Value
 W : List Int
 He : List Ent
/-
 The code of layer 6: validSize, bits.Len64.
-/
theorem vsize_c (n : Int) (w : World) : Calls Tryz.prog 50 #[.int .i64 n] w fun e w' => e = .returned (.bool (decide (1 ≤ n ∧ n ≤ 8))) ∧ St w [] w' := by
 refine qL (args := [.int .i64 n]) Tryz.func50 rfl Tryz.ntmps50 (by simp) ?_
 refine qC [0] ?_
 iterate 8 refine gx ?_
 by_cases c1 : 1 ≤ n
 ·refine qB (qA rfl) rfl (qP (zb rfl rfl rfl) c1) ?_
  iterate 2 refine gx ?_
  by_cases c2 : n ≤ 8
  ·refine qB (qJ rfl rfl rfl) rfl (qP (Gets.leq rfl rfl rfl) c2) ?_
   iterate 5 refine gx ?_
   exact qK rfl rfl (fun w hs => ⟨dec_t (by omega), hs⟩)
  ·refine qB (qJ rfl rfl rfl) rfl (qU (Gets.leq rfl rfl rfl) c2) ?_
   iterate 5 refine gx ?_
   exact qK rfl rfl (fun w hs => ⟨dec_f (by omega), hs⟩)
 ·refine qB (qA rfl) rfl (qU (zb rfl rfl rfl) c1) ?_
  iterate 8 refine gx ?_
  exact qK rfl rfl (fun w hs => ⟨dec_f (by omega), hs⟩)
theorem ba_get (b : ByteArray) {y : Nat} (h : y < b.size) : b[y]'h = b.data.getD y 0 := by
 show b.data[y]'h = _
 rw [Array.getD_eq_getD_getElem?, Array.getElem?_eq_getElem (show y < b.data.size from h)]; rfl
def lenTab : ByteArray := ⟨List.toArray (List.append (List.append [0, 1, 2, 2, 3, 3, 3, 3, 4, 4, 4, 4, 4, 4, 4, 4, 5, 5, 5, 5, 5, 5, 5, 5, 5, 5, 5, 5, 5, 5, 5, 5, 6, 6, 6, 6, 6, 6, 6, 6, 6, 6, 6, 6, 6, 6, 6, 6, 6, 6, 6, 6, 6, 6, 6, 6, 6, 6, 6, 6, 6, 6, 6, 6] [7, 7, 7, 7, 7, 7, 7, 7, 7, 7, 7, 7, 7, 7, 7, 7, 7, 7, 7, 7, 7, 7, 7, 7, 7, 7, 7, 7, 7, 7, 7, 7, 7, 7, 7, 7, 7, 7, 7, 7, 7, 7, 7, 7, 7, 7, 7, 7, 7, 7, 7, 7, 7, 7, 7, 7, 7, 7, 7, 7, 7, 7, 7, 7]) (List.append [8, 8, 8, 8, 8, 8, 8, 8, 8, 8, 8, 8, 8, 8, 8, 8, 8, 8, 8, 8, 8, 8, 8, 8, 8, 8, 8, 8, 8, 8, 8, 8, 8, 8, 8, 8, 8, 8, 8, 8, 8, 8, 8, 8, 8, 8, 8, 8, 8, 8, 8, 8, 8, 8, 8, 8, 8, 8, 8, 8, 8, 8, 8, 8] [8, 8, 8, 8, 8, 8, 8, 8, 8, 8, 8, 8, 8, 8, 8, 8, 8, 8, 8, 8, 8, 8, 8, 8, 8, 8, 8, 8, 8, 8, 8, 8, 8, 8, 8, 8, 8, 8, 8, 8, 8, 8, 8, 8, 8, 8, 8, 8, 8, 8, 8, 8, 8, 8, 8, 8, 8, 8, 8, 8, 8, 8, 8, 8]))⟩
theorem lenTab_size : lenTab.size = 256 := by decide +kernel
theorem lenTab_all : ∀ y : Fin 256, (lenTab.data.getD y.1 0).toNat = lenB y.1 := by decide +kernel
theorem lenTab_at {y : Nat} (h : y < lenTab.size) : ((lenTab[y]'h).toNat : Int) = (lenB y : Int) := by
 have h2 : y < 256 := by rw [lenTab_size] at h; exact h
 have h3 := lenTab_all ⟨y, h2⟩
 rw [ba_get lenTab h, h3]
theorem len64_c (x : Nat) (hx : x < 18446744073709551616) (w : World) : Calls Tryz.prog 94 #[.int .u64 (x : Int)] w fun e w' => e = .returned (.int .i64 (lenB x : Int)) ∧ St w [] w' := by
 refine qL (args := [.int .u64 (x : Int)]) Tryz.func94 rfl Tryz.ntmps94 (by simp) ?_
 refine qC [0] ?_
 iterate 12 refine gx ?_
 refine qX rfl (fun h0 => ?_) (fun h0 => ?_)
 ·iterate 3 refine gx ?_
  obtain ⟨y6, hy6⟩ : ∃ y6 : Nat, y6 = x / 4294967296 := ⟨_, rfl⟩
  have ly6 : lenB x = lenB y6 + 32 := lenB_shr (s := 32) (by omega) hy6
  refine qB (qA rfl) rfl (zN rfl rfl rfl (by omega) (r := (y6 : Int)) (by rw [hy6]; exact shr_nat (q := 32) (by omega))) ?_
  iterate 14 refine gx ?_
  refine qX rfl (fun h1 => ?_) (fun h1 => ?_)
  ·iterate 3 refine gx ?_
   obtain ⟨y10, hy10⟩ : ∃ y10 : Nat, y10 = y6 / 65536 := ⟨_, rfl⟩
   have ly10 : lenB y6 = lenB y10 + 16 := lenB_shr (s := 16) (by omega) hy10
   refine qB (qA rfl) rfl (zN rfl rfl rfl (by omega) (r := (y10 : Int)) (by rw [hy10]; exact shr_nat (q := 16) (by omega))) ?_
   iterate 3 refine gx ?_
   refine qC [0, 2] ?_
   iterate 2 refine gx ?_
   refine qB (qA rfl) rfl (qR rfl rfl rfl (r := 48) (w64 (by omega) (by omega))) ?_
   iterate 10 refine gx ?_
   refine qX rfl (fun h2 => ?_) (fun h2 => ?_)
   ·iterate 3 refine gx ?_
    obtain ⟨y16, hy16⟩ : ∃ y16 : Nat, y16 = y10 / 256 := ⟨_, rfl⟩
    have ly16 : lenB y10 = lenB y16 + 8 := lenB_shr (s := 8) (by omega) hy16
    refine qB (qA rfl) rfl (zN rfl rfl rfl (by omega) (r := (y16 : Int)) (by rw [hy16]; exact shr_nat (q := 8) (by omega))) ?_
    iterate 5 refine gx ?_
    refine qB (qA rfl) rfl (qR rfl rfl rfl (r := 56) (w64 (by omega) (by omega))) ?_
    iterate 3 refine gx ?_
    refine qC [0, 2] ?_
    iterate 4 refine gx ?_
    refine qB (qA rfl) rfl (qt rfl Tryz.underlying37 Tryz.underlying5 rfl (r := (y16 : Int)) (wu8 rfl (by omega))) ?_
    have hlb : lenB y16 ≤ 8 := (lenB_le (q := 8)).2 (by omega)
    refine qB (qA rfl) rfl (zX (Gets.indexStr (str := lenTab) rfl Tryz.underlying9 rfl rfl (i := y16) rfl (by rw [lenTab_size]; omega)) (by rw [lenTab_at])) ?_
    refine qB (qA rfl) rfl (qt rfl Tryz.underlying5 Tryz.underlying3 rfl (r := ((lenB y16) : Int)) (w64 rfl (by omega))) ?_
    refine qB (qA rfl) rfl (qR rfl rfl rfl (r := (((lenB y16) : Int) + 56)) (w64 (by omega) (by omega))) ?_
    iterate 4 refine gx ?_
    exact qK rfl rfl (fun w hs => ⟨ret_i (by omega), hs⟩)
   ·iterate 6 refine gx ?_
    refine qB (qA rfl) rfl (qt rfl Tryz.underlying37 Tryz.underlying5 rfl (r := (y10 : Int)) (wu8 rfl (by omega))) ?_
    have hlb : lenB y10 ≤ 8 := (lenB_le (q := 8)).2 (by omega)
    refine qB (qA rfl) rfl (zX (Gets.indexStr (str := lenTab) rfl Tryz.underlying9 rfl rfl (i := y10) rfl (by rw [lenTab_size]; omega)) (by rw [lenTab_at])) ?_
    refine qB (qA rfl) rfl (qt rfl Tryz.underlying5 Tryz.underlying3 rfl (r := ((lenB y10) : Int)) (w64 rfl (by omega))) ?_
    refine qB (qA rfl) rfl (qR rfl rfl rfl (r := (((lenB y10) : Int) + 48)) (w64 (by omega) (by omega))) ?_
    iterate 4 refine gx ?_
    exact qK rfl rfl (fun w hs => ⟨ret_i (by omega), hs⟩)
  ·iterate 9 refine gx ?_
   refine qC [0, 2, 14] ?_
   refine qX rfl (fun h2 => ?_) (fun h2 => ?_)
   ·iterate 3 refine gx ?_
    obtain ⟨y16, hy16⟩ : ∃ y16 : Nat, y16 = y6 / 256 := ⟨_, rfl⟩
    have ly16 : lenB y6 = lenB y16 + 8 := lenB_shr (s := 8) (by omega) hy16
    refine qB (qA rfl) rfl (zN rfl rfl rfl (by omega) (r := (y16 : Int)) (by rw [hy16]; exact shr_nat (q := 8) (by omega))) ?_
    iterate 5 refine gx ?_
    refine qB (qA rfl) rfl (qR rfl rfl rfl (r := 40) (w64 (by omega) (by omega))) ?_
    iterate 7 refine gx ?_
    refine qB (qA rfl) rfl (qt rfl Tryz.underlying37 Tryz.underlying5 rfl (r := (y16 : Int)) (wu8 rfl (by omega))) ?_
    have hlb : lenB y16 ≤ 8 := (lenB_le (q := 8)).2 (by omega)
    refine qB (qA rfl) rfl (zX (Gets.indexStr (str := lenTab) rfl Tryz.underlying9 rfl rfl (i := y16) rfl (by rw [lenTab_size]; omega)) (by rw [lenTab_at])) ?_
    refine qB (qA rfl) rfl (qt rfl Tryz.underlying5 Tryz.underlying3 rfl (r := ((lenB y16) : Int)) (w64 rfl (by omega))) ?_
    refine qB (qA rfl) rfl (qR rfl rfl rfl (r := (((lenB y16) : Int) + 40)) (w64 (by omega) (by omega))) ?_
    iterate 4 refine gx ?_
    exact qK rfl rfl (fun w hs => ⟨ret_i (by omega), hs⟩)
   ·iterate 6 refine gx ?_
    refine qB (qA rfl) rfl (qt rfl Tryz.underlying37 Tryz.underlying5 rfl (r := (y6 : Int)) (wu8 rfl (by omega))) ?_
    have hlb : lenB y6 ≤ 8 := (lenB_le (q := 8)).2 (by omega)
    refine qB (qA rfl) rfl (zX (Gets.indexStr (str := lenTab) rfl Tryz.underlying9 rfl rfl (i := y6) rfl (by rw [lenTab_size]; omega)) (by rw [lenTab_at])) ?_
    refine qB (qA rfl) rfl (qt rfl Tryz.underlying5 Tryz.underlying3 rfl (r := ((lenB y6) : Int)) (w64 rfl (by omega))) ?_
    refine qB (qA rfl) rfl (qR rfl rfl rfl (r := (((lenB y6) : Int) + 32)) (w64 (by omega) (by omega))) ?_
    iterate 4 refine gx ?_
    exact qK rfl rfl (fun w hs => ⟨ret_i (by omega), hs⟩)
 ·iterate 9 refine gx ?_
  refine qX rfl (fun h1 => ?_) (fun h1 => ?_)
  ·iterate 3 refine gx ?_
   obtain ⟨y10, hy10⟩ : ∃ y10 : Nat, y10 = x / 65536 := ⟨_, rfl⟩
   have ly10 : lenB x = lenB y10 + 16 := lenB_shr (s := 16) (by omega) hy10
   refine qB (qA rfl) rfl (zN rfl rfl rfl (by omega) (r := (y10 : Int)) (by rw [hy10]; exact shr_nat (q := 16) (by omega))) ?_
   iterate 5 refine gx ?_
   refine qB (qA rfl) rfl (qR rfl rfl rfl (r := 16) (w64 (by omega) (by omega))) ?_
   iterate 3 refine gx ?_
   refine qC [0, 2] ?_
   iterate 7 refine gx ?_
   refine qX rfl (fun h2 => ?_) (fun h2 => ?_)
   ·iterate 3 refine gx ?_
    obtain ⟨y16, hy16⟩ : ∃ y16 : Nat, y16 = y10 / 256 := ⟨_, rfl⟩
    have ly16 : lenB y10 = lenB y16 + 8 := lenB_shr (s := 8) (by omega) hy16
    refine qB (qA rfl) rfl (zN rfl rfl rfl (by omega) (r := (y16 : Int)) (by rw [hy16]; exact shr_nat (q := 8) (by omega))) ?_
    iterate 5 refine gx ?_
    refine qB (qA rfl) rfl (qR rfl rfl rfl (r := 24) (w64 (by omega) (by omega))) ?_
    iterate 7 refine gx ?_
    refine qB (qA rfl) rfl (qt rfl Tryz.underlying37 Tryz.underlying5 rfl (r := (y16 : Int)) (wu8 rfl (by omega))) ?_
    have hlb : lenB y16 ≤ 8 := (lenB_le (q := 8)).2 (by omega)
    refine qB (qA rfl) rfl (zX (Gets.indexStr (str := lenTab) rfl Tryz.underlying9 rfl rfl (i := y16) rfl (by rw [lenTab_size]; omega)) (by rw [lenTab_at])) ?_
    refine qB (qA rfl) rfl (qt rfl Tryz.underlying5 Tryz.underlying3 rfl (r := ((lenB y16) : Int)) (w64 rfl (by omega))) ?_
    refine qB (qA rfl) rfl (qR rfl rfl rfl (r := (((lenB y16) : Int) + 24)) (w64 (by omega) (by omega))) ?_
    iterate 4 refine gx ?_
    exact qK rfl rfl (fun w hs => ⟨ret_i (by omega), hs⟩)
   ·iterate 6 refine gx ?_
    refine qB (qA rfl) rfl (qt rfl Tryz.underlying37 Tryz.underlying5 rfl (r := (y10 : Int)) (wu8 rfl (by omega))) ?_
    have hlb : lenB y10 ≤ 8 := (lenB_le (q := 8)).2 (by omega)
    refine qB (qA rfl) rfl (zX (Gets.indexStr (str := lenTab) rfl Tryz.underlying9 rfl rfl (i := y10) rfl (by rw [lenTab_size]; omega)) (by rw [lenTab_at])) ?_
    refine qB (qA rfl) rfl (qt rfl Tryz.underlying5 Tryz.underlying3 rfl (r := ((lenB y10) : Int)) (w64 rfl (by omega))) ?_
    refine qB (qA rfl) rfl (qR rfl rfl rfl (r := (((lenB y10) : Int) + 16)) (w64 (by omega) (by omega))) ?_
    iterate 4 refine gx ?_
    exact qK rfl rfl (fun w hs => ⟨ret_i (by omega), hs⟩)
  ·iterate 9 refine gx ?_
   refine qX rfl (fun h2 => ?_) (fun h2 => ?_)
   ·iterate 3 refine gx ?_
    obtain ⟨y16, hy16⟩ : ∃ y16 : Nat, y16 = x / 256 := ⟨_, rfl⟩
    have ly16 : lenB x = lenB y16 + 8 := lenB_shr (s := 8) (by omega) hy16
    refine qB (qA rfl) rfl (zN rfl rfl rfl (by omega) (r := (y16 : Int)) (by rw [hy16]; exact shr_nat (q := 8) (by omega))) ?_
    iterate 3 refine gx ?_
    refine qC [0, 2] ?_
    iterate 2 refine gx ?_
    refine qB (qA rfl) rfl (qR rfl rfl rfl (r := 8) (w64 (by omega) (by omega))) ?_
    iterate 7 refine gx ?_
    refine qB (qA rfl) rfl (qt rfl Tryz.underlying37 Tryz.underlying5 rfl (r := (y16 : Int)) (wu8 rfl (by omega))) ?_
    have hlb : lenB y16 ≤ 8 := (lenB_le (q := 8)).2 (by omega)
    refine qB (qA rfl) rfl (zX (Gets.indexStr (str := lenTab) rfl Tryz.underlying9 rfl rfl (i := y16) rfl (by rw [lenTab_size]; omega)) (by rw [lenTab_at])) ?_
    refine qB (qA rfl) rfl (qt rfl Tryz.underlying5 Tryz.underlying3 rfl (r := ((lenB y16) : Int)) (w64 rfl (by omega))) ?_
    refine qB (qA rfl) rfl (qR rfl rfl rfl (r := (((lenB y16) : Int) + 8)) (w64 (by omega) (by omega))) ?_
    iterate 4 refine gx ?_
    exact qK rfl rfl (fun w hs => ⟨ret_i (by omega), hs⟩)
   ·iterate 6 refine gx ?_
    refine qB (qA rfl) rfl (qt rfl Tryz.underlying37 Tryz.underlying5 rfl (r := (x : Int)) (wu8 rfl (by omega))) ?_
    have hlb : lenB x ≤ 8 := (lenB_le (q := 8)).2 (by omega)
    refine qB (qA rfl) rfl (zX (Gets.indexStr (str := lenTab) rfl Tryz.underlying9 rfl rfl (i := x) rfl (by rw [lenTab_size]; omega)) (by rw [lenTab_at])) ?_
    refine qB (qA rfl) rfl (qt rfl Tryz.underlying5 Tryz.underlying3 rfl (r := ((lenB x) : Int)) (w64 rfl (by omega))) ?_
    refine qB (qA rfl) rfl (qR rfl rfl rfl (r := ((lenB x) : Int)) (w64 (by omega) (by omega))) ?_
    iterate 4 refine gx ?_
    exact qK rfl rfl (fun w hs => ⟨ret_i (by omega), hs⟩)
theorem len64_i (x : Int) (hx : 0 ≤ x ∧ x ≤ 18446744073709551615) (w : World) : Calls Tryz.prog 94 #[.int .u64 x] w fun e w' => e = .returned (.int .i64 (lenI x)) ∧ St w [] w' := by
 obtain ⟨y, rfl⟩ := Int.eq_ofNat_of_zero_le hx.1
 have := len64_c y (by omega) w
 unfold lenI; rw [Int.toNat_natCast]; exact this
/-
 The code of layer 6: Append.
-/
theorem agg58 : (isAgg 58).run Tryz.prog = fun w => .ok true w := isAgg_yes Tryz.underlying58 rfl
theorem enters50 : Enters Tryz.prog 50 := ⟨_, Tryz.func50, by kernel_rfl, by kernel_rfl⟩
theorem enters94 : Enters Tryz.prog 94 := ⟨_, Tryz.func94, by kernel_rfl, by kernel_rfl⟩
theorem size58 : (Tryz.prog.info? 58).map (·.size) = some 2 := by kernel_rfl
theorem zero58 : (Tryz.prog.info? 58).bind (·.zero) = some (.agg #[.int .u64 0, .int .i64 0]) := by kernel_rfl
instance : AgN Tryz.prog 37 := ⟨agg37⟩
instance : Fld Tryz.prog 58 0 0 := ⟨⟨_, _, _, Tryz.underlying58, rfl, size37, rfl⟩⟩
instance : Fld Tryz.prog 58 1 1 := ⟨⟨_, _, _, Tryz.underlying58, rfl, size3, rfl⟩⟩
instance : Siz Tryz.prog 58 2 := ⟨size58⟩
instance : Sli Tryz.prog 109 58 := ⟨Tryz.underlying109⟩
instance : Zer Tryz.prog 58 [int .u64 0, int .i64 0] := ⟨⟨_, zero58, rfl⟩⟩
theorem fit_full {Fs : List FV} {i m : Nat} (hl : Fs.length = m) (hi : m ≤ i) (h : fitAll (Fs.take i)) : fitAll Fs := by
 rwa [List.take_of_length_le (by omega)] at h
theorem wapp_no (B : List Int) (Fs : List FV) (A A2 : Option Addr) (m c m2 c2 : Nat) (w : World) (hsB : Src w A m .u8 B) (hsF : SrcF w A2 m2 Fs) (hN : NumsF Fs) (hmc : m ≤ c) (hcm : c ≤ 9223372036854775807) (hmc2 : m2 ≤ c2) (hcm2 : c2 ≤ 9223372036854775807) (hm : m ≤ 1000000) (hm2 : m2 ≤ 100000) (hf : ¬ fitAll Fs) : Calls Tryz.prog 61 #[.slice A m c, .slice A2 m2 c2] w fun e w' => ∃ A' c' He, e = .returned (.tuple #[.slice A' 0 c', .bool false]) ∧ (∀ e ∈ He, w.heap.size ≤ e.g) ∧ St w He w' := by
 refine qL (args := [.slice A m c, .slice A2 m2 c2]) Tryz.func61 rfl Tryz.ntmps61 (by simp) ?_
 refine qC [0, 1] ?_
 iterate 21 refine gx ?_
 refine qC [0, 1, 4, 5, 6, 15, 16, 17] ?_
 refine gx ?_
 refine qr (ι := Nat) (fun i => [(0, .slice A m c), (1, .slice A2 m2 c2), (15, .slice A2 m2 c2), (16, .int .i64 (m2 : Int)), (17, .int .i64 (i : Int)), (6, .int .i64 ((m : Int) + ((encF (Fs.take (i))).length : Int)))]) (fun i => []) (fun i => m2 - i) (fun i => i ≤ m2 ∧ fitAll (Fs.take (i))) 0 ⟨Nat.zero_le _, by rw [List.take_zero]; exact fitAll_nil⟩ (qT (i := 0) rfl rfl (by first | omega | (dsimp only; omega) | rfl) (by first | omega | (dsimp only; omega) | rfl) (qT (i := 1) rfl rfl (by first | omega | (dsimp only; omega) | rfl) (by first | omega | (dsimp only; omega) | rfl) (qT (i := 15) rfl rfl (by first | omega | (dsimp only; omega) | rfl) (by first | omega | (dsimp only; omega) | rfl) (qH (i := 16) rfl (by first | omega | rfl) (qH (i := 17) rfl (by first | omega | rfl) (qH (i := 6) rfl (by rw [List.take_zero]; show (m : Int) = (m : Int) + (([] : List Int).length : Int); simp) (qN))))))) (fun w h => h) (fun i hC0 => ?_)
 obtain ⟨hi, hfi⟩ := hC0
 have hEl := encF_le hfi
 have hTl : (Fs.take i).length ≤ i := by rw [List.length_take]; omega
 iterate 6 refine gx ?_
 refine qX rfl (fun hq0 => ?_) (fun hq0 => ?_)
 ·obtain ⟨b, off, hAe, hb, hrw⟩ := hsF.some_ (i := i) (by omega)
  subst hAe
  obtain ⟨x, hx⟩ := hsF.get (i := i) (by omega)
  have hnx := hN i x hx
  unfold NumF at hnx
  iterate 6 refine gx ?_
  refine qB (qA rfl) rfl (ql rfl Tryz.underlying109 size58 rfl rfl (i := i) (by omega) (by omega) (off' := (off + 2 * i)) (by omega)) ?_
  refine qB (qA rfl) rfl (qg rfl agg58 size58 rfl rfl (zS (fun jj u h => hrw i x hx jj u h) hb qF)) ?_
  refine qc (fun g1 hg1 => ?_)
  iterate 3 refine gx ?_
  refine qC [0, 1, 6, 8, 15, 16, 17] ?_
  iterate 2 refine gx ?_
  refine qy (by kernel_rfl) [0, 1, 1, 0, 0, 0, 1, 1, 0, 1, 0, 0, 0] rfl (by kernel_rfl) ?_
  iterate 2 refine gx ?_
  by_cases c1 : 1 ≤ x.n ∧ x.n ≤ 8
  ·refine zM (qA rfl) rfl enters50 rfl rfl (v := .bool true) (fun w hs => (vsize_c x.n w).mono fun e w' h => by rw [decide_eq_true (p := 1 ≤ x.n ∧ x.n ≤ 8) c1] at h; exact h) ?_
   iterate 4 refine gx ?_
   refine zM (qJ rfl rfl rfl) rfl enters94 rfl rfl (v := .int .i64 (lenI x.x)) (fun w hs => len64_i x.x ⟨by omega, by omega⟩ w) ?_
   iterate 2 refine gx ?_
   refine qG (qJ rfl rfl rfl) rfl (fun _ => zY rfl rfl rfl (r := (8 * x.n)) (w64 (by omega) (by omega))) ?_
   iterate 4 refine gx ?_
   refine qC [0, 1, 6, 8, 15, 16, 17, 33] ?_
   refine qX rfl (fun h5 => ?_) (fun h5 => ?_)
   ·iterate 13 refine gx ?_
    exact TE.ret2 rfl rfl rfl (fun w hs => ⟨none, 0, [], rfl, (by intro e he; cases he), (hs.drop (by assumption))⟩)
   ·iterate 6 refine gx ?_
    refine qB (qA rfl) rfl (qR rfl rfl rfl (r := ((m : Int) + ((encF (Fs.take (i))).length : Int) + x.n)) (w64 (by omega) (by omega))) ?_
    iterate 4 refine gx ?_
    refine qC [0, 1, 6, 15, 16, 17] ?_
    refine gx ?_
    refine qB (qA rfl) rfl (qR rfl rfl rfl (r := ((i : Int) + 1)) (w64 (by omega) (by omega))) ?_
    iterate 2 refine gx ?_
    have hfx : fitV x.x x.n := Decidable.byContradiction (fun h => h5 ((len_fit hnx.1 c1).2 h))
    have hE : ((encF (Fs.take (i + 1))).length : Int) = ((encF (Fs.take i)).length : Int) + x.n := by rw [encF_take hx, List.length_append, beV_len]; omega
    exact qj (i + 1) (by omega) ⟨by omega, (fitAll_take hx).2 ⟨hfi, hfx⟩⟩ (qT (i := 0) rfl rfl (by first | omega | (dsimp only; omega) | rfl) (by first | omega | (dsimp only; omega) | rfl) (qT (i := 1) rfl (by first | rfl | (congr 2; omega)) (by first | omega | (dsimp only; omega) | rfl) (by first | omega | (dsimp only; omega) | rfl) (qT (i := 15) rfl (by first | rfl | (congr 2; omega)) (by first | omega | (dsimp only; omega) | rfl) (by first | omega | (dsimp only; omega) | rfl) (qH (i := 16) rfl (by first | omega | rfl) (qH (i := 17) rfl (by first | omega | rfl) (qH (i := 6) rfl (by rw [hE]; omega) (qN))))))) (fun w h => h.drop (by assumption))
  ·refine zM (qA rfl) rfl enters50 rfl rfl (v := .bool false) (fun w hs => (vsize_c x.n w).mono fun e w' h => by rw [decide_eq_false (p := 1 ≤ x.n ∧ x.n ≤ 8) c1] at h; exact h) ?_
   iterate 2 refine gx ?_
   refine zF rfl rfl rfl rfl rfl ?_
   refine zI rfl rfl rfl rfl rfl ?_
   refine zI rfl rfl rfl rfl rfl ?_
   refine zF rfl rfl rfl rfl rfl ?_
   refine zI rfl rfl rfl rfl rfl ?_
   refine zF rfl rfl rfl rfl rfl ?_
   refine zF rfl rfl rfl rfl rfl ?_
   iterate 3 refine gx ?_
   refine qC [0, 1, 6, 8, 15, 16, 17, 33] ?_
   refine qd rfl ?_
   iterate 13 refine gx ?_
   exact TE.ret2 rfl rfl rfl (fun w hs => ⟨none, 0, [], rfl, (by intro e he; cases he), (hs.drop (by assumption))⟩)
 ·exact absurd (fit_full hsF.1 (by omega) hfi) hf
theorem wapp_yes (B : List Int) (Fs : List FV) (A A2 : Option Addr) (m c m2 c2 : Nat) (w : World) (hsB : Src w A m .u8 B) (hsF : SrcF w A2 m2 Fs) (hN : NumsF Fs) (hmc : m ≤ c) (hcm : c ≤ 9223372036854775807) (hmc2 : m2 ≤ c2) (hcm2 : c2 ≤ 9223372036854775807) (hm : m ≤ 1000000) (hm2 : m2 ≤ 100000) (hf : fitAll Fs) : Calls Tryz.prog 61 #[.slice A m c, .slice A2 m2 c2] w fun e w' => ∃ v He, e = .returned (.tuple #[v, .bool true]) ∧ Own w.heap.size 5 .u8 v (B ++ encF Fs) He ∧ St w He w' := by
 refine qL (args := [.slice A m c, .slice A2 m2 c2]) Tryz.func61 rfl Tryz.ntmps61 (by simp) ?_
 refine qC [0, 1] ?_
 iterate 21 refine gx ?_
 refine qC [0, 1, 4, 5, 6, 15, 16, 17] ?_
 refine gx ?_
 refine qr (ι := Nat) (fun i => [(0, .slice A m c), (1, .slice A2 m2 c2), (15, .slice A2 m2 c2), (16, .int .i64 (m2 : Int)), (17, .int .i64 (i : Int)), (6, .int .i64 ((m : Int) + ((encF (Fs.take (i))).length : Int)))]) (fun i => []) (fun i => m2 - i) (fun i => i ≤ m2 ∧ fitAll (Fs.take (i))) 0 ⟨Nat.zero_le _, by rw [List.take_zero]; exact fitAll_nil⟩ (qT (i := 0) rfl rfl (by first | omega | (dsimp only; omega) | rfl) (by first | omega | (dsimp only; omega) | rfl) (qT (i := 1) rfl rfl (by first | omega | (dsimp only; omega) | rfl) (by first | omega | (dsimp only; omega) | rfl) (qT (i := 15) rfl rfl (by first | omega | (dsimp only; omega) | rfl) (by first | omega | (dsimp only; omega) | rfl) (qH (i := 16) rfl (by first | omega | rfl) (qH (i := 17) rfl (by first | omega | rfl) (qH (i := 6) rfl (by rw [List.take_zero]; show (m : Int) = (m : Int) + (([] : List Int).length : Int); simp) (qN))))))) (fun w h => h) (fun i hC0 => ?_)
 obtain ⟨hi, hfi⟩ := hC0
 have hEl := encF_le hfi
 have hTl : (Fs.take i).length ≤ i := by rw [List.length_take]; omega
 iterate 6 refine gx ?_
 refine qX rfl (fun hq0 => ?_) (fun hq0 => ?_)
 ·obtain ⟨b, off, hAe, hb, hrw⟩ := hsF.some_ (i := i) (by omega)
  subst hAe
  obtain ⟨x, hx⟩ := hsF.get (i := i) (by omega)
  have hnx := hN i x hx
  unfold NumF at hnx
  have hfx := hf x (List.mem_of_getElem? hx)
  have c1 : 1 ≤ x.n ∧ x.n ≤ 8 := by unfold fitV at hfx; exact ⟨hfx.1, hfx.2.1⟩
  iterate 6 refine gx ?_
  refine qB (qA rfl) rfl (ql rfl Tryz.underlying109 size58 rfl rfl (i := i) (by omega) (by omega) (off' := (off + 2 * i)) (by omega)) ?_
  refine qB (qA rfl) rfl (qg rfl agg58 size58 rfl rfl (zS (fun jj u h => hrw i x hx jj u h) hb qF)) ?_
  refine qc (fun g1 hg1 => ?_)
  iterate 3 refine gx ?_
  refine qC [0, 1, 6, 8, 15, 16, 17] ?_
  iterate 2 refine gx ?_
  refine qy (by kernel_rfl) [0, 1, 1, 0, 0, 0, 1, 1, 0, 1, 0, 0, 0] rfl (by kernel_rfl) ?_
  iterate 2 refine gx ?_
  refine zM (qA rfl) rfl enters50 rfl rfl (v := .bool true) (fun w hs => (vsize_c x.n w).mono fun e w' h => by rw [decide_eq_true (p := 1 ≤ x.n ∧ x.n ≤ 8) c1] at h; exact h) ?_
  iterate 4 refine gx ?_
  refine zM (qJ rfl rfl rfl) rfl enters94 rfl rfl (v := .int .i64 (lenI x.x)) (fun w hs => len64_i x.x ⟨by omega, by omega⟩ w) ?_
  iterate 2 refine gx ?_
  refine qG (qJ rfl rfl rfl) rfl (fun _ => zY rfl rfl rfl (r := (8 * x.n)) (w64 (by omega) (by omega))) ?_
  iterate 4 refine gx ?_
  refine qC [0, 1, 6, 8, 15, 16, 17, 33] ?_
  refine qX rfl (fun h5 => ?_) (fun h5 => ?_)
  ·exact absurd hfx ((len_fit hnx.1 c1).1 h5)
  ·iterate 6 refine gx ?_
   refine qB (qA rfl) rfl (qR rfl rfl rfl (r := ((m : Int) + ((encF (Fs.take (i))).length : Int) + x.n)) (w64 (by omega) (by omega))) ?_
   iterate 4 refine gx ?_
   refine qC [0, 1, 6, 15, 16, 17] ?_
   refine gx ?_
   refine qB (qA rfl) rfl (qR rfl rfl rfl (r := ((i : Int) + 1)) (w64 (by omega) (by omega))) ?_
   iterate 2 refine gx ?_
   have hE : ((encF (Fs.take (i + 1))).length : Int) = ((encF (Fs.take i)).length : Int) + x.n := by rw [encF_take hx, List.length_append, beV_len]; omega
   exact qj (i + 1) (by omega) ⟨by omega, (fitAll_take hx).2 ⟨hfi, hfx⟩⟩ (qT (i := 0) rfl rfl (by first | omega | (dsimp only; omega) | rfl) (by first | omega | (dsimp only; omega) | rfl) (qT (i := 1) rfl (by first | rfl | (congr 2; omega)) (by first | omega | (dsimp only; omega) | rfl) (by first | omega | (dsimp only; omega) | rfl) (qT (i := 15) rfl (by first | rfl | (congr 2; omega)) (by first | omega | (dsimp only; omega) | rfl) (by first | omega | (dsimp only; omega) | rfl) (qH (i := 16) rfl (by first | omega | rfl) (qH (i := 17) rfl (by first | omega | rfl) (qH (i := 6) rfl (by rw [hE]; omega) (qN))))))) (fun w h => h.drop (by assumption))
 ·obtain rfl : m2 = i := by omega
  have htk : Fs.take m2 = Fs := List.take_of_length_le (by have := hsF.1; omega)
  rw [htk] at hfi hEl hTl ⊢
  iterate 8 refine gx ?_
  refine TL.makeSlice1 (qA rfl) rfl rfl Tryz.underlying22 mk5 rfl rfl rfl (ln := 0) (cp := (m + ((encF Fs).length))) rfl (by omega) (by omega) (by omega) (by omega) (fun g2 hg2 => ?_)
  rw [show List.replicate (m + ((encF Fs).length)) (.int .u8 0) = (List.replicate (m + ((encF Fs).length)) 0).map (int .u8) from (List.map_replicate ..).symm]
  refine gx ?_
  refine TL.heap (H' := [] ++ [⟨g2, 5, ([] : List Int).map (int .u8), (m + ((encF Fs).length))⟩]) (fun w h => St.blank h) ?_
  refine zd (H := []) (He := [⟨g2, 5, ([] : List Int).map (int .u8), (m + ((encF Fs).length))⟩]) (qA rfl) rfl rfl Tryz.underlying22 mk5 rfl rfl rfl (W := []) (B := B) (.inr ⟨g2, (m + ((encF Fs).length)), rfl, rfl, hg2, Nat.zero_le _, by unfold maxLen; omega⟩) (fun w hs => hsB.at_ hs (fun b hb => qV qF (qE (by show g2 ≠ b; omega) qF))) (by simp only [List.length_nil]; omega) (by simp only [List.length_nil]; omega) (fun vo Ho ho hne => ?_)
  rw [List.nil_append] at ho
  iterate 3 refine gx ?_
  refine qC [1, 9] ?_
  iterate 9 refine gx ?_
  refine qr (ι := WN) (fun x0 => [(1, .slice A2 m2 c2), (43, .slice A2 m2 c2), (44, .int .i64 (m2 : Int)), (45, .int .i64 (x0.k : Int)), (9, x0.v)]) (fun x0 => [] ++ x0.He) (fun x0 => m2 - x0.k) (fun x0 => Own w.heap.size 5 .u8 x0.v (B ++ encF (Fs.take x0.k)) x0.He ∧ x0.k ≤ m2) (⟨0, vo, Ho⟩ : WN) ⟨by show Own _ _ _ vo (B ++ encF (Fs.take 0)) Ho; rw [List.take_zero]; show Own _ _ _ vo (B ++ []) Ho; rw [List.append_nil]; exact ho, Nat.zero_le _⟩ (qT (i := 1) rfl rfl (by first | omega | (dsimp only; omega) | rfl) (by first | omega | (dsimp only; omega) | rfl) (qT (i := 43) rfl rfl (by first | omega | (dsimp only; omega) | rfl) (by first | omega | (dsimp only; omega) | rfl) (qH (i := 44) rfl (by first | omega | rfl) (qH (i := 45) rfl (by first | omega | rfl) (qI (i := 9) rfl (qN)))))) (fun w h => h) (fun x0 hC1 => ?_)
  obtain ⟨i, v, He⟩ := x0
  obtain ⟨hown0, hi2⟩ := hC1
  dsimp only at hown0 hi2 ⊢
  have hown := hown0
  have hEi : (encF (Fs.take i)).length ≤ 8 * m2 := by have h1 := encF_le (Fs := Fs.take i) (fun f h => hf f (List.mem_of_mem_take h)); rw [List.length_take] at h1; omega
  iterate 6 refine gx ?_
  refine qX rfl (fun hq2 => ?_) (fun hq2 => ?_)
  ·obtain ⟨b, off, hAe, hb, hrw⟩ := hsF.some_ (i := i) (by omega)
   subst hAe
   obtain ⟨x, hx⟩ := hsF.get (i := i) (by omega)
   have hnx := hN i x hx
   unfold NumF at hnx
   have hfx := hf x (List.mem_of_getElem? hx)
   have c1 : 1 ≤ x.n ∧ x.n ≤ 8 := by unfold fitV at hfx; exact ⟨hfx.1, hfx.2.1⟩
   iterate 6 refine gx ?_
   refine qB (qA rfl) rfl (ql rfl Tryz.underlying109 size58 rfl rfl (i := i) (by omega) (by omega) (off' := (off + 2 * i)) (by omega)) ?_
   refine qB (qA rfl) rfl (qg rfl agg58 size58 rfl rfl (zS (fun jj u h => hrw i x hx jj u h) hb (qV qF (hown.ne hb)))) ?_
   refine qc (fun g3 hg3 => ?_)
   refine qn (qA rfl) rfl rfl size58 rfl (vs := [int .u64 x.x, int .i64 x.n]) rfl (by simp []) (by simp [Value.oneCell']) (i := 0) (ent := ⟨g3, 58, [int .u64 0, int .i64 0], 2⟩) rfl rfl (by simp []) (H' := [⟨g3, 58, [int .u64 x.x, int .i64 x.n], 2⟩] ++ He) rfl ?_
   iterate 2 refine gx ?_
   refine qC [1, 9, 11, 43, 44, 45] ?_
   iterate 4 refine gx ?_
   refine qB (qA rfl) rfl (zH rfl rfl rfl (r := (x.n - 1)) (w64 (by omega) (by omega))) ?_
   refine qB (qA rfl) rfl (zY rfl rfl rfl (r := (8 * x.n - 8)) (w64 (by omega) (by omega))) ?_
   iterate 3 refine gx ?_
   refine qC [1, 9, 11, 12, 43, 44, 45] ?_
   refine gx ?_
   refine qr (ι := WN) (fun x1 => [(1, .slice (some ⟨b, off, none⟩) m2 c2), (43, .slice (some ⟨b, off, none⟩) m2 c2), (44, .int .i64 (m2 : Int)), (45, .int .i64 (i : Int)), (11, .pointer (some ⟨g3, 0, none⟩)), (9, x1.v), (12, .int .i64 (8 * x.n - 8 * (x1.k : Int) - 8))]) (fun x1 => [⟨g3, 58, [int .u64 x.x, int .i64 x.n], 2⟩] ++ x1.He) (fun x1 => x.n.toNat - x1.k) (fun x1 => Own w.heap.size 5 .u8 x1.v (B ++ encF (Fs.take i) ++ beP x.x x.n x1.k) x1.He ∧ x1.k ≤ x.n.toNat) (⟨0, v, He⟩ : WN) ⟨by show Own _ _ _ v (B ++ encF (Fs.take i) ++ beP x.x x.n 0) He; rw [beP_zero, List.append_nil]; exact hown0, by show 0 ≤ x.n.toNat; omega⟩ (qT (i := 1) rfl rfl (by first | omega | (dsimp only; omega) | rfl) (by first | omega | (dsimp only; omega) | rfl) (qT (i := 43) rfl rfl (by first | omega | (dsimp only; omega) | rfl) (by first | omega | (dsimp only; omega) | rfl) (qH (i := 44) rfl (by first | omega | rfl) (qH (i := 45) rfl (by first | omega | rfl) (qI (i := 11) rfl (qI (i := 9) rfl (qH (i := 12) rfl (by show 8 * x.n - 8 = 8 * x.n - 8 * ((0 : Nat) : Int) - 8; omega) (qN)))))))) (fun w h => h) (fun x1 hC2 => ?_)
   obtain ⟨k, v1, H1⟩ := x1
   obtain ⟨hown, hk⟩ := hC2
   dsimp only at hown hk ⊢
   iterate 7 refine gx ?_
   refine qC [1, 9, 11, 12, 43, 44, 45, 54] ?_
   refine qX rfl (fun hq3 => ?_) (fun hq3 => ?_)
   ·iterate 9 refine gx ?_
    refine qB (qA rfl) rfl (zN rfl rfl rfl (by omega) (r := (shrI .u64 x.x (8 * x.n - 8 * (k : Int) - 8))) rfl) ?_
    refine qB (qA rfl) rfl (qt rfl Tryz.underlying37 Tryz.underlying5 rfl (r := (IntKind.u8.wrap (shrI .u64 x.x (8 * x.n - 8 * (k : Int) - 8)))) rfl) ?_
    refine zc (qA rfl) rfl rfl Tryz.underlying22 size5 zero5 rfl (by decide) (by decide) (cells := #[.int .u8 (IntKind.u8.wrap (shrI .u64 x.x (8 * x.n - 8 * (k : Int) - 8)))]) (tot := 1) (by kernel_rfl) (cs := [.int .u8 (IntKind.u8.wrap (shrI .u64 x.x (8 * x.n - 8 * (k : Int) - 8)))]) rfl rfl (fun g4 hg4 => ?_)
    refine zd (H := [⟨g4, 5, [int .u8 (IntKind.u8.wrap (shrI .u64 x.x (8 * x.n - 8 * (k : Int) - 8)))], 1⟩, ⟨g3, 58, [int .u64 x.x, int .i64 x.n], 2⟩]) (sl := 1) (t := 22) (e := 5) (kd := .u8) (qA rfl) rfl rfl Tryz.underlying22 mk5 rfl rfl rfl (W := B ++ encF (Fs.take i) ++ beP x.x x.n k) (B := [(IntKind.u8.wrap (shrI .u64 x.x (8 * x.n - 8 * (k : Int) - 8)))]) hown (fun w hs => zT (W := [(IntKind.u8.wrap (shrI .u64 x.x (8 * x.n - 8 * (k : Int) - 8)))]) (hs.has ⟨g4, 5, [int .u8 (IntKind.u8.wrap (shrI .u64 x.x (8 * x.n - 8 * (k : Int) - 8)))], 1⟩ (by simp)) rfl) (by have := beP_len x.x x.n k; have hap : (B ++ encF (Fs.take i) ++ beP x.x x.n k).length = B.length + (encF (Fs.take i)).length + (beP x.x x.n k).length := (by rw [List.length_append, List.length_append]); have hBl := hsB.1; omega) (by have := beP_len x.x x.n k; have hap : (B ++ encF (Fs.take i) ++ beP x.x x.n k).length = B.length + (encF (Fs.take i)).length + (beP x.x x.n k).length := (by rw [List.length_append, List.length_append]); have hBl := hsB.1; omega) (fun vo Ho ho hne => ?_)
    iterate 4 refine gx ?_
    refine qC [1, 9, 11, 12, 43, 44, 45] ?_
    iterate 2 refine gx ?_
    refine qB (qA rfl) rfl (zH rfl rfl rfl (r := (8 * x.n - 8 * (k : Int) - 16)) (w64 (by omega) (by omega))) ?_
    iterate 2 refine gx ?_
    exact qj (⟨k + 1, vo, Ho⟩ : WN) (by show x.n.toNat - (k + 1) < x.n.toNat - k; omega) ⟨by show Own _ _ _ vo (B ++ encF (Fs.take i) ++ beP x.x x.n (k + 1)) Ho; rw [beP_succ, ← List.append_assoc]; exact ho, by show k + 1 ≤ x.n.toNat; omega⟩ (qT (i := 1) rfl rfl (by first | omega | (dsimp only; omega) | rfl) (by first | omega | (dsimp only; omega) | rfl) (qT (i := 43) rfl rfl (by first | omega | (dsimp only; omega) | rfl) (by first | omega | (dsimp only; omega) | rfl) (qH (i := 44) rfl (by first | omega | rfl) (qH (i := 45) rfl (by first | omega | rfl) (qI (i := 11) rfl (qI (i := 9) rfl (qH (i := 12) rfl (by show 8 * x.n - 8 * (k : Int) - 16 = 8 * x.n - 8 * ((k + 1 : Nat) : Int) - 8; omega) (qN)))))))) (fun w h => h.drop (by assumption))
   ·have hkn : k = x.n.toNat := by omega
    iterate 7 refine gx ?_
    refine qB (qA rfl) rfl (qR rfl rfl rfl (r := ((i : Int) + 1)) (w64 (by omega) (by omega))) ?_
    iterate 2 refine gx ?_
    exact qj (⟨i + 1, v1, H1⟩ : WN) (by show m2 - (i + 1) < m2 - i; omega) ⟨by show Own _ _ _ v1 (B ++ encF (Fs.take (i + 1))) H1; rw [encF_take hx, ← List.append_assoc, show beV x.x x.n = beP x.x x.n x.n.toNat from rfl, ← hkn]; exact hown, by show i + 1 ≤ m2; omega⟩ (qT (i := 1) rfl (by first | rfl | (congr 2; omega)) (by first | omega | (dsimp only; omega) | rfl) (by first | omega | (dsimp only; omega) | rfl) (qT (i := 43) rfl (by first | rfl | (congr 2; omega)) (by first | omega | (dsimp only; omega) | rfl) (by first | omega | (dsimp only; omega) | rfl) (qH (i := 44) rfl (by first | omega | rfl) (qH (i := 45) rfl (by first | omega | rfl) (qI (i := 9) rfl (qN)))))) (fun w h => h.drop (by assumption))
  ·obtain rfl : m2 = i := by omega
   have htk : Fs.take m2 = Fs := List.take_of_length_le (by have := hsF.1; omega)
   rw [htk] at hown
   iterate 13 refine gx ?_
   exact TE.ret2 rfl rfl rfl (fun w hs => ⟨v, He, rfl, hown, hs⟩)
/-
 The reader of layer 6: its position, its fault.
-/
theorem agg28 : (isAgg 28).run Tryz.prog = fun w => .ok false w := isAgg_no Tryz.underlying28 rfl
theorem enters28 : Enters Tryz.prog 28 := ⟨_, Tryz.func28, by kernel_rfl, by kernel_rfl⟩
theorem enters83 : Enters Tryz.prog 83 := ⟨_, Tryz.func83, by kernel_rfl, by kernel_rfl⟩
theorem enters84 : Enters Tryz.prog 84 := ⟨_, Tryz.func84, by kernel_rfl, by kernel_rfl⟩
theorem size93 : (Tryz.prog.info? 93).map (·.size) = some 2 := by kernel_rfl
instance : Fld Tryz.prog 93 0 0 := ⟨⟨_, _, _, Tryz.underlying93, rfl, size22, rfl⟩⟩
instance : Fld Tryz.prog 93 1 1 := ⟨⟨_, _, _, Tryz.underlying93, rfl, size3, rfl⟩⟩
instance : Fld Tryz.prog 95 0 0 := ⟨⟨_, _, _, Tryz.underlying95, rfl, size93, rfl⟩⟩
instance : Fld Tryz.prog 95 1 2 := ⟨⟨_, _, _, Tryz.underlying95, rfl, size30, rfl⟩⟩
theorem left_c (g : Nat) (A : Option Addr) (m c k : Nat) (co po : Int) (w : World) (hl : Ent.lies ⟨g, 95, rdC A m c k co po, rdN⟩ w) (hk : k ≤ m) (hmc : m ≤ c) (hcm : c ≤ 9223372036854775807)  : Calls Tryz.prog 84 #[.pointer (some ⟨g, 0, none⟩)] w fun e w' => e = .returned (.slice (cutA A c k 1) (m - k) (c - k)) ∧ St w [] w' := by
 refine qL (args := [.pointer (some ⟨g, 0, none⟩)]) Tryz.func84 rfl Tryz.ntmps84 (by simp) ?_
 refine qC [0] ?_
 refine qe (H' := [⟨g, 95, [slice A m c, int .i64 (k : Int), int .i64 co, int .i64 po], 4⟩]) (fun w hs => hs.take hl qF) ?_
 iterate 6 refine gx ?_
 refine qy (by kernel_rfl) [0, 0, 0, 1, 0, 0, 0, 1, 0, 0] rfl (by kernel_rfl) ?_
 refine gx ?_
 refine qG (qA rfl) rfl (fun _ => qO rfl rfl) ?_
 iterate 3 refine gx ?_
 refine qG (qA rfl) rfl (fun _ => qO rfl rfl) ?_
 iterate 2 refine gx ?_
 refine qG (qA rfl) rfl (fun _ => zP rfl Tryz.underlying22 size5 rfl (bnd.at_ (l := k) rfl (by omega)) bnd.dflt (by omega) (by omega) rfl (ln := (m - k)) (cp := (c - k)) (by omega) (by omega)) ?_
 iterate 4 refine gx ?_
 exact qK rfl rfl (fun w hs => ⟨rfl, (hs.same hl rfl)⟩)
theorem wend_c (g : Nat) (A : Option Addr) (m c k : Nat) (co po : Int) (w : World) (hl : Ent.lies ⟨g, 95, rdC A m c k co po, rdN⟩ w) (hk : k ≤ m) (hmc : m ≤ c) (hcm : c ≤ 9223372036854775807)  : Calls Tryz.prog 85 #[.pointer (some ⟨g, 0, none⟩)] w fun e w' => e = .returned (.int .i64 (m : Int)) ∧ St w [] w' := by
 refine qL (args := [.pointer (some ⟨g, 0, none⟩)]) Tryz.func85 rfl Tryz.ntmps85 (by simp) ?_
 refine qC [0] ?_
 refine qe (H' := [⟨g, 95, [slice A m c, int .i64 (k : Int), int .i64 co, int .i64 po], 4⟩]) (fun w hs => hs.take hl qF) ?_
 iterate 8 refine gx ?_
 refine qB (qA rfl) rfl (qO rfl rfl) ?_
 iterate 7 refine gx ?_
 exact qK rfl rfl (fun w hs => ⟨rfl, (hs.same hl rfl)⟩)
theorem pass_c (g : Nat) (A : Option Addr) (m c k : Nat) (n : Nat) (hn : k + n ≤ m) (co po : Int) (w : World) (hl : Ent.lies ⟨g, 95, rdC A m c k co po, rdN⟩ w) (hk : k ≤ m) (hmc : m ≤ c) (hcm : c ≤ 9223372036854775807)  : Calls Tryz.prog 86 #[.pointer (some ⟨g, 0, none⟩), .int .i64 (n : Int)] w fun e w' => e = .returned (.slice (cutA A c k 1) n (c - k)) ∧ St w [⟨g, 95, rdC A m c (k + n) co po, rdN⟩] w' := by
 refine qL (args := [.pointer (some ⟨g, 0, none⟩), .int .i64 (n : Int)]) Tryz.func86 rfl Tryz.ntmps86 (by simp) ?_
 refine qC [0, 1] ?_
 refine qe (H' := [⟨g, 95, [slice A m c, int .i64 (k : Int), int .i64 co, int .i64 po], 4⟩]) (fun w hs => hs.take hl qF) ?_
 iterate 8 refine gx ?_
 refine qM (qA rfl) rfl enters84 rfl rfl (v := .slice (cutA A c k 1) (m - k) (c - k)) (fun w hs => left_c g A m c k co po w (hs.has (⟨g, 95, [slice A m c, int .i64 (k : Int), int .i64 co, int .i64 po], 4⟩) (by simp)) (by omega) (by omega) (by omega)) ?_
 refine gx ?_
 refine qB (qA rfl) rfl (zP rfl Tryz.underlying22 size5 rfl bnd.dflt (bnd.at_ (l := n) rfl (by omega)) (by omega) (by omega) (cutA_zero _ _ _) (ln := n) (cp := (c - k)) (by omega) (by omega)) ?_
 iterate 6 refine gx ?_
 refine qB (qA rfl) rfl (qO rfl rfl) ?_
 iterate 3 refine gx ?_
 refine qB (qA rfl) rfl (qR rfl rfl rfl (r := ((k : Int) + (n : Int))) (w64 (by omega) (by omega))) ?_
 refine qB (qA rfl) rfl (qO rfl rfl) ?_
 refine gx ?_
 refine qw (qA rfl) rfl rfl size3 rfl rfl rfl (i := 0) rfl rfl (by simp [] <;> omega) (cs' := [slice A m c, int .i64 ((k : Int) + (n : Int)), int .i64 co, int .i64 po]) (rfl) (H' := [⟨g, 95, [slice A m c, int .i64 ((k : Int) + (n : Int)), int .i64 co, int .i64 po], 4⟩]) rfl ?_
 iterate 2 refine gx ?_
 refine qC [4, 5] ?_
 iterate 7 refine gx ?_
 exact qK rfl rfl (fun w hs => ⟨rfl, hs⟩)
theorem fault_c (g : Nat) (A : Option Addr) (m c k : Nat) (co po : Int) (w : World) (hl : Ent.lies ⟨g, 95, rdC A m c k co po, rdN⟩ w)  : Calls Tryz.prog 28 #[.pointer (some ⟨g, 0, none⟩)] w fun e w' => e = .returned (.agg ([int .i64 co, int .i64 po]).toArray) ∧ St w [] w' := by
 refine qL (args := [.pointer (some ⟨g, 0, none⟩)]) Tryz.func28 rfl Tryz.ntmps28 (by simp) ?_
 refine qC [0] ?_
 refine qe (H' := [⟨g, 95, [slice A m c, int .i64 (k : Int), int .i64 co, int .i64 po], 4⟩]) (fun w hs => hs.take hl qF) ?_
 iterate 2 refine gx ?_
 refine qc (fun g1 hg1 => ?_)
 iterate 6 refine gx ?_
 refine qB (qA rfl) rfl (Gets.ptrNil rfl Tryz.underlying50 rfl rfl) ?_
 iterate 2 refine gx ?_
 refine qW rfl ?_
 iterate 5 refine gx ?_
 refine qB (qA rfl) rfl (qO rfl rfl) ?_
 refine gx ?_
 refine qB (qA rfl) rfl (qg rfl agg30 size30 rfl (vs := [int .i64 co, int .i64 po]) rfl (Row.part (i := 1) (ent := ⟨g, 95, [slice A m c, int .i64 (k : Int), int .i64 co, int .i64 po], 4⟩) rfl rfl rfl)) ?_
 iterate 4 refine gx ?_
 exact qu rfl agg30 size30 rfl (vs := [int .i64 co, int .i64 po]) rfl (qQ (i := 0) (ent := ⟨g1, 30, [int .i64 co, int .i64 po], 2⟩) rfl rfl rfl) (fun w hs => ⟨rfl, ((hs.drop (by assumption)).same hl rfl)⟩)
theorem ready_c (g : Nat) (A : Option Addr) (m c k : Nat) (co po : Int) (w : World) (hl : Ent.lies ⟨g, 95, rdC A m c k co po, rdN⟩ w)  : Calls Tryz.prog 83 #[.pointer (some ⟨g, 0, none⟩)] w fun e w' => e = .returned (.bool (decide (co = 0))) ∧ St w [] w' := by
 refine qL (args := [.pointer (some ⟨g, 0, none⟩)]) Tryz.func83 rfl Tryz.ntmps83 (by simp) ?_
 refine qC [0] ?_
 refine qe (H' := [⟨g, 95, [slice A m c, int .i64 (k : Int), int .i64 co, int .i64 po], 4⟩]) (fun w hs => hs.take hl qF) ?_
 iterate 8 refine gx ?_
 refine qM (qA rfl) rfl enters28 rfl rfl (v := .agg ([int .i64 co, int .i64 po]).toArray) (fun w hs => fault_c g A m c k co po w (hs.has (⟨g, 95, [slice A m c, int .i64 (k : Int), int .i64 co, int .i64 po], 4⟩) (by simp))) ?_
 refine qB (qA rfl) rfl (Gets.field1 rfl Tryz.underlying30 rfl rfl agg28 rfl) ?_
 iterate 5 refine gx ?_
 exact qK rfl rfl (fun w hs => ⟨rfl, (hs.same hl rfl)⟩)
theorem at_c (g : Nat) (A : Option Addr) (m c k : Nat) (co po : Int) (w : World) (hl : Ent.lies ⟨g, 95, rdC A m c k co po, rdN⟩ w)  : Calls Tryz.prog 52 #[.pointer (some ⟨g, 0, none⟩)] w fun e w' => e = .returned (.int .i64 (k : Int)) ∧ St w [] w' := by
 refine qL (args := [.pointer (some ⟨g, 0, none⟩)]) Tryz.func52 rfl Tryz.ntmps52 (by simp) ?_
 refine qC [0] ?_
 refine qe (H' := [⟨g, 95, [slice A m c, int .i64 (k : Int), int .i64 co, int .i64 po], 4⟩]) (fun w hs => hs.take hl qF) ?_
 iterate 9 refine gx ?_
 refine qB (qA rfl) rfl (Gets.ptrNil rfl Tryz.underlying50 rfl rfl) ?_
 iterate 2 refine gx ?_
 refine qW rfl ?_
 iterate 5 refine gx ?_
 refine qB (qA rfl) rfl (qO rfl rfl) ?_
 iterate 7 refine gx ?_
 exact qK rfl rfl (fun w hs => ⟨rfl, (hs.same hl rfl)⟩)
theorem rest_c (g : Nat) (A : Option Addr) (m c k : Nat) (co po : Int) (w : World) (hl : Ent.lies ⟨g, 95, rdC A m c k co po, rdN⟩ w) (hk : k ≤ m) (hmc : m ≤ c) (hcm : c ≤ 9223372036854775807)  : Calls Tryz.prog 66 #[.pointer (some ⟨g, 0, none⟩)] w fun e w' => e = .returned (.int .i64 ((m : Int) - (k : Int))) ∧ St w [] w' := by
 refine qL (args := [.pointer (some ⟨g, 0, none⟩)]) Tryz.func66 rfl Tryz.ntmps66 (by simp) ?_
 refine qC [0] ?_
 refine qe (H' := [⟨g, 95, [slice A m c, int .i64 (k : Int), int .i64 co, int .i64 po], 4⟩]) (fun w hs => hs.take hl qF) ?_
 iterate 9 refine gx ?_
 refine qB (qA rfl) rfl (Gets.ptrNil rfl Tryz.underlying50 rfl rfl) ?_
 iterate 2 refine gx ?_
 refine qW rfl ?_
 iterate 5 refine gx ?_
 refine qB (qA rfl) rfl (qO rfl rfl) ?_
 refine gx ?_
 refine qM (qA rfl) rfl enters84 rfl rfl (v := .slice (cutA A c k 1) (m - k) (c - k)) (fun w hs => left_c g A m c k co po w (hs.has (⟨g, 95, [slice A m c, int .i64 (k : Int), int .i64 co, int .i64 po], 4⟩) (by simp)) (by omega) (by omega) (by omega)) ?_
 iterate 5 refine gx ?_
 exact qK rfl rfl (fun w hs => ⟨ret_i (by omega), (hs.same hl rfl)⟩)
theorem fail_set (g : Nat) (A : Option Addr) (m c k : Nat) (po d n : Int) (hd : d ≠ 0) (w : World) (hl : Ent.lies ⟨g, 95, rdC A m c k 0 po, rdN⟩ w)  : Calls Tryz.prog 51 #[.pointer (some ⟨g, 0, none⟩), .int .i64 d, .int .i64 n] w fun e w' => e = .returned (.tuple #[]) ∧ St w [⟨g, 95, rdC A m c k d n, rdN⟩] w' := by
 refine qL (args := [.pointer (some ⟨g, 0, none⟩), .int .i64 d, .int .i64 n]) Tryz.func51 rfl Tryz.ntmps51 (by simp) ?_
 refine qC [0, 1, 2] ?_
 refine qe (H' := [⟨g, 95, [slice A m c, int .i64 (k : Int), int .i64 0, int .i64 po], 4⟩]) (fun w hs => hs.take hl qF) ?_
 iterate 3 refine gx ?_
 refine qM (qA rfl) rfl enters83 rfl rfl (v := .bool true) (fun w hs => calls_yes rfl (ready_c g A m c k 0 po w (hs.has (⟨g, 95, [slice A m c, int .i64 (k : Int), int .i64 0, int .i64 po], 4⟩) (by simp)))) ?_
 iterate 2 refine gx ?_
 refine qB (qJ rfl rfl rfl) rfl (qP (qs rfl rfl rfl) hd) ?_
 iterate 3 refine gx ?_
 refine qC [0, 1, 2, 11] ?_
 refine qd rfl ?_
 iterate 4 refine gx ?_
 refine qB (qA rfl) rfl (qm rfl (vs := [(0, int .i64 d), (1, int .i64 n)]) rfl (fun w => by first | rfl | kernel_rfl) (v := .agg ([int .i64 d, int .i64 n]).toArray)) ?_
 refine qB (qA rfl) rfl (qO rfl rfl) ?_
 refine gx ?_
 refine TL.storeN (qA rfl) rfl rfl size30 rfl (vs := [int .i64 d, int .i64 n]) rfl rfl (by simp [Value.oneCell']) (i := 0) (ent := ⟨g, 95, [slice A m c, int .i64 (k : Int), int .i64 0, int .i64 po], 4⟩) rfl rfl (by simp) (cs' := [slice A m c, int .i64 (k : Int), int .i64 d, int .i64 n]) rfl (H' := [⟨g, 95, [slice A m c, int .i64 (k : Int), int .i64 d, int .i64 n], 4⟩]) rfl ?_
 refine gx ?_
 exact TE.end0 rfl (fun w hs => ⟨rfl, hs⟩)
theorem fail_dead (g : Nat) (A : Option Addr) (m c k : Nat) (co po d n : Int) (hco : co ≠ 0) (w : World) (hl : Ent.lies ⟨g, 95, rdC A m c k co po, rdN⟩ w)  : Calls Tryz.prog 51 #[.pointer (some ⟨g, 0, none⟩), .int .i64 d, .int .i64 n] w fun e w' => e = .returned (.tuple #[]) ∧ St w [] w' := by
 refine qL (args := [.pointer (some ⟨g, 0, none⟩), .int .i64 d, .int .i64 n]) Tryz.func51 rfl Tryz.ntmps51 (by simp) ?_
 refine qC [0, 1, 2] ?_
 refine qe (H' := [⟨g, 95, [slice A m c, int .i64 (k : Int), int .i64 co, int .i64 po], 4⟩]) (fun w hs => hs.take hl qF) ?_
 iterate 3 refine gx ?_
 refine qM (qA rfl) rfl enters83 rfl rfl (v := .bool false) (fun w hs => calls_no hco (ready_c g A m c k co po w (hs.has (⟨g, 95, [slice A m c, int .i64 (k : Int), int .i64 co, int .i64 po], 4⟩) (by simp)))) ?_
 iterate 6 refine gx ?_
 refine qC [0, 1, 2, 11] ?_
 refine qW rfl ?_
 refine gx ?_
 exact TE.end0 rfl (fun w hs => ⟨rfl, (hs.same hl rfl)⟩)
/-
 The reader of layer 6: the closures.
-/
theorem enters49 : Enters Tryz.prog 49 := ⟨_, Tryz.func49, by kernel_rfl, by kernel_rfl⟩
theorem u1_c (gv : Nat) (A : Option Addr) (n c : Nat) (D : List Int) (hBD : Bytes D) (w : World) (hX : SrcX w [gv] A n .u8 D) (hl : Ent.lies ⟨gv, 37, [int .u64 0], 1⟩ w) (hnc : n ≤ c) (hcm : c ≤ 9223372036854775807) (hn : n ≤ 8) : Calls Tryz.prog 54 #[.slice A n c, .pointer (some ⟨gv, 0, none⟩)] w fun e w' => e = .returned (.tuple #[]) ∧ St w [⟨gv, 37, [int .u64 (valB D)], 1⟩] w' := by
 refine qL (args := [.slice A n c, .pointer (some ⟨gv, 0, none⟩)]) Tryz.func54 rfl Tryz.ntmps54 (by simp) ?_
 refine qC [0, 1] ?_
 refine qe (H' := [⟨gv, 37, [int .u64 0], 1⟩]) (fun w hs => hs.take hl qF) ?_
 iterate 8 refine gx ?_
 refine qr (ι := Nat) (fun i => [(1, .pointer (some ⟨gv, 0, none⟩)), (5, .slice A n c), (6, .int .i64 (n : Int)), (7, .int .i64 (i : Int))]) (fun i => [⟨gv, 37, [int .u64 (valB (D.take (i)))], 1⟩]) (fun i => n - i) (fun i => i ≤ n) 0 (Nat.zero_le _) (qI (i := 1) rfl (qT (i := 5) rfl rfl (by first | omega | (dsimp only; omega) | rfl) (by first | omega | (dsimp only; omega) | rfl) (qH (i := 6) rfl (by first | omega | rfl) (qH (i := 7) rfl (by first | omega | rfl) (qN))))) (fun w h => by rw [List.take_zero]; exact h) (fun i hC0 => ?_)
 iterate 6 refine gx ?_
 refine qX rfl (fun hq0 => ?_) (fun hq0 => ?_)
 ·have hDl := hX.1
  obtain ⟨b, off, hAe, hb, hbX, hr⟩ := hX.2.resolve_left (by omega)
  have hbg : b ≠ gv := hbX gv (by simp)
  subst hAe
  have hbd := hBD.get i
  iterate 6 refine gx ?_
  refine qB (qA rfl) rfl (ql rfl Tryz.underlying22 size5 rfl rfl (i := i) (by omega) (by omega) (off' := (off + i)) (by omega)) ?_
  refine qB (qA rfl) rfl (qS rfl agg5 rfl (At.rowI hr (i := i) (by omega) (by omega) hb (qE (by show gv ≠ b; omega) qF))) ?_
  iterate 5 refine gx ?_
  refine qB (qA rfl) rfl (Gets.shl rfl rfl rfl (by omega) (r := (shlI .u64 (valB (D.take (i))) 8)) rfl) ?_
  refine gx ?_
  refine qB (qA rfl) rfl (qt rfl Tryz.underlying5 Tryz.underlying37 rfl (r := (D.getD i 0)) (wu64 rfl (by omega))) ?_
  refine qB (qA rfl) rfl (Gets.or rfl rfl rfl (r := valB (D.take (i + 1))) (valB_step hBD (by have := hX.1; omega) (by have := hX.1; omega))) ?_
  refine qw (qA rfl) rfl rfl size37 rfl rfl rfl (i := 0) rfl rfl (by simp [] <;> omega) (cs' := [int .u64 (valB (D.take (i + 1)))]) (rfl) (H' := [⟨gv, 37, [int .u64 (valB (D.take (i + 1)))], 1⟩]) rfl ?_
  iterate 3 refine gx ?_
  refine qC [1, 5, 6, 7] ?_
  refine gx ?_
  refine qB (qA rfl) rfl (qR rfl rfl rfl (r := ((i : Int) + 1)) (w64 (by omega) (by omega))) ?_
  iterate 2 refine gx ?_
  exact qj (i + 1) (by omega) (by omega) (qI (i := 1) rfl (qT (i := 5) rfl (by first | rfl | (congr 2; omega)) (by first | omega | (dsimp only; omega) | rfl) (by first | omega | (dsimp only; omega) | rfl) (qH (i := 6) rfl (by first | omega | rfl) (qH (i := 7) rfl (by first | omega | rfl) (qN))))) (fun w h => h)
 ·obtain rfl : n = i := by omega
  have htk : D.take n = D := List.take_of_length_le (by have := hX.1; omega)
  rw [htk]
  iterate 4 refine gx ?_
  exact TE.end0 rfl (fun w hs => ⟨rfl, hs⟩)
theorem wclone_some (M : List Int) (ad : Addr) (m c : Nat) (w : World) (hsM : Src w (some ad) m .u8 M) (hmc : m ≤ c) (hm : m ≤ 1000010) : Calls Tryz.prog 49 #[.slice (some ad) m c] w fun e w' => ∃ v He, e = .returned v ∧ Own w.heap.size 5 .u8 v M He ∧ St w He w' := by
 refine qL (args := [.slice (some ad) m c]) Tryz.func49 rfl Tryz.ntmps49 (by simp) ?_
 refine qC [0] ?_
 iterate 9 refine gx ?_
 refine qB (qA rfl) rfl (Gets.sliceNil (A := some ad) rfl Tryz.underlying22 rfl rfl) ?_
 iterate 2 refine gx ?_
 refine qW rfl ?_
 iterate 4 refine gx ?_
 refine TL.emptySlice (qA rfl) rfl rfl Tryz.underlying22 size5 (fun g1 hg1 => ?_)
 refine gx ?_
 refine zd (H := []) (He := [⟨g1, 5, ([] : List Int).map (int .u8), 0⟩]) (qA rfl) rfl rfl Tryz.underlying22 mk5 rfl rfl rfl (W := []) (B := M) (.inr ⟨g1, 0, rfl, rfl, hg1, Nat.le_refl _, by unfold maxLen; omega⟩) (fun w hs => hsM.at_ hs (fun b hb => qV qF (qE (by show g1 ≠ b; omega) qF))) (by simp only [List.length_nil]; omega) (by simp only [List.length_nil]; omega) (fun vo Ho ho hne => ?_)
 rw [List.nil_append] at ho
 iterate 4 refine gx ?_
 exact qK rfl rfl (fun w hs => ⟨vo, Ho, rfl, ho, hs⟩)
theorem wclone_nil (m c : Nat) (w : World) : Calls Tryz.prog 49 #[.slice none m c] w fun e w' => e = .returned (.slice none 0 0) ∧ St w [] w' := by
 refine qL (args := [.slice none m c]) Tryz.func49 rfl Tryz.ntmps49 (by simp) ?_
 refine qC [0] ?_
 iterate 9 refine gx ?_
 refine qB (qA rfl) rfl (Gets.sliceNil (A := none) rfl Tryz.underlying22 rfl rfl) ?_
 iterate 2 refine gx ?_
 refine qd rfl ?_
 iterate 7 refine gx ?_
 exact qK rfl rfl (fun w hs => ⟨rfl, hs⟩)
theorem wclone_c (M : List Int) (A : Option Addr) (m c : Nat) (w : World) (hsM : Src w A m .u8 M) (hmc : m ≤ c) (hm : m ≤ 1000010) : Calls Tryz.prog 49 #[.slice A m c] w fun e w' => ∃ v He, e = .returned v ∧ Own w.heap.size 5 .u8 v M He ∧ St w He w' := by
 cases A with
 | some ad => exact wclone_some M ad m c w hsM hmc hm
 | none =>
  refine (wclone_nil m c w).mono fun e w' ⟨he, hw⟩ => ⟨_, [], he, ?_, hw⟩
  have hM : M = [] := by
   rcases hsM.2 with h | ⟨b, off, h, _⟩
   ·exact List.length_eq_zero_iff.1 (by rw [hsM.1, h])
   ·cases h
  rw [hM]; exact Own.nil _ _ _
theorem b1_c (gv : Nat) (A : Option Addr) (n c : Nat) (D : List Int) (u0 : Value) (w : World) (hX : SrcX w [gv] A n .u8 D) (hl : Ent.lies ⟨gv, 22, [u0], 1⟩ w) (hnc : n ≤ c) (hn : n ≤ 1000000) : Calls Tryz.prog 117 #[.slice A n c, .pointer (some ⟨gv, 0, none⟩)] w fun e w' => ∃ v He, e = .returned (.tuple #[]) ∧ Own w.heap.size 5 .u8 v D He ∧ St w ((⟨gv, 22, [v], 1⟩ : Ent) :: He) w' := by
 refine qL (args := [.slice A n c, .pointer (some ⟨gv, 0, none⟩)]) Tryz.func117 rfl Tryz.ntmps117 (by simp) ?_
 refine qC [0, 1] ?_
 refine qe (H' := [⟨gv, 22, [u0], 1⟩]) (fun w hs => hs.take hl qF) ?_
 iterate 2 refine gx ?_
 refine qY (ι := Value × List Ent) (V := fun yl => yl.1) (R := fun yl => Own w.heap.size 5 .u8 yl.1 D yl.2) (H' := fun yl => [⟨gv, 22, [u0], 1⟩] ++ yl.2) (qA rfl) rfl enters49 rfl rfl (fun w hs => (wclone_c D A n c w (hX.at_ hs (fun b hb hbX => (qE (fun h => hbX gv (by simp) h.symm) qF))).src (by omega) (by omega)).mono fun e w' ⟨v, He, he, ho, hw⟩ => ⟨(v, He), he, own_mono ho hs.size, st_call hs hw ho.new⟩) (fun yl hOl => ?_)
 obtain ⟨vl, Hl⟩ := yl
 dsimp only at hOl ⊢
 obtain ⟨Al, cl, hvl, hcl, hdl⟩ := hOl.form
 subst hvl
 refine qw (qA rfl) rfl rfl size22 rfl rfl rfl (i := 0) rfl rfl (by simp [] <;> omega) (cs' := [slice Al D.length cl]) (rfl) (H' := [⟨gv, 22, [slice Al D.length cl], 1⟩] ++ Hl) rfl ?_
 refine gx ?_
 exact TE.end0 rfl (fun w hs => ⟨_, Hl, rfl, hOl, hs⟩)
/-
 The reader of layer 6: Uint, Length.
-/
theorem enters117 : Enters Tryz.prog 117 := ⟨_, Tryz.func117, by kernel_rfl, by kernel_rfl⟩
theorem enters20 : Enters Tryz.prog 20 := ⟨_, Tryz.func20, by kernel_rfl, by kernel_rfl⟩
theorem enters51 : Enters Tryz.prog 51 := ⟨_, Tryz.func51, by kernel_rfl, by kernel_rfl⟩
theorem enters52 : Enters Tryz.prog 52 := ⟨_, Tryz.func52, by kernel_rfl, by kernel_rfl⟩
theorem enters53 : Enters Tryz.prog 53 := ⟨_, Tryz.func53, by kernel_rfl, by kernel_rfl⟩
theorem enters54 : Enters Tryz.prog 54 := ⟨_, Tryz.func54, by kernel_rfl, by kernel_rfl⟩
theorem enters85 : Enters Tryz.prog 85 := ⟨_, Tryz.func85, by kernel_rfl, by kernel_rfl⟩
theorem enters86 : Enters Tryz.prog 86 := ⟨_, Tryz.func86, by kernel_rfl, by kernel_rfl⟩
instance : Zer Tryz.prog 37 [int .u64 0] := ⟨⟨_, zero37, rfl⟩⟩
theorem read_dead (g : Nat) (A : Option Addr) (m c k : Nat) (co po n : Int) (u : Value) (hco : co ≠ 0) (w : World) (hl : Ent.lies ⟨g, 95, rdC A m c k co po, rdN⟩ w)  : Calls Tryz.prog 53 #[.pointer (some ⟨g, 0, none⟩), .int .i64 n, u] w fun e w' => e = .returned (.tuple #[]) ∧ St w [] w' := by
 refine qL (args := [.pointer (some ⟨g, 0, none⟩), .int .i64 n, u]) Tryz.func53 rfl Tryz.ntmps53 (by simp) ?_
 refine qC [0, 1, 2] ?_
 refine qe (H' := [⟨g, 95, [slice A m c, int .i64 (k : Int), int .i64 co, int .i64 po], 4⟩]) (fun w hs => hs.take hl qF) ?_
 iterate 4 refine gx ?_
 refine qM (qA rfl) rfl enters83 rfl rfl (v := .bool false) (fun w hs => calls_no hco (ready_c g A m c k co po w (hs.has (⟨g, 95, [slice A m c, int .i64 (k : Int), int .i64 co, int .i64 po], 4⟩) (by simp)))) ?_
 iterate 3 refine gx ?_
 refine qd rfl ?_
 iterate 2 refine gx ?_
 exact TE.ret0 rfl (fun w hs => ⟨rfl, (hs.same hl rfl)⟩)
theorem read_short (g : Nat) (A : Option Addr) (m c k : Nat) (po n : Int) (u : Value) (hn : (m : Int) - (k : Int) < n) (w : World) (hl : Ent.lies ⟨g, 95, rdC A m c k 0 po, rdN⟩ w) (hk : k ≤ m) (hmc : m ≤ c) (hcm : c ≤ 9223372036854775807)  : Calls Tryz.prog 53 #[.pointer (some ⟨g, 0, none⟩), .int .i64 n, u] w fun e w' => e = .returned (.tuple #[]) ∧ St w [⟨g, 95, rdC A m c k 8 (m : Int), rdN⟩] w' := by
 refine qL (args := [.pointer (some ⟨g, 0, none⟩), .int .i64 n, u]) Tryz.func53 rfl Tryz.ntmps53 (by simp) ?_
 refine qC [0, 1, 2] ?_
 refine qe (H' := [⟨g, 95, [slice A m c, int .i64 (k : Int), int .i64 0, int .i64 po], 4⟩]) (fun w hs => hs.take hl qF) ?_
 iterate 4 refine gx ?_
 refine qM (qA rfl) rfl enters83 rfl rfl (v := .bool true) (fun w hs => calls_yes rfl (ready_c g A m c k 0 po w (hs.has (⟨g, 95, [slice A m c, int .i64 (k : Int), int .i64 0, int .i64 po], 4⟩) (by simp)))) ?_
 iterate 3 refine gx ?_
 refine qW rfl ?_
 iterate 7 refine gx ?_
 refine qB (qA rfl) rfl (qO rfl rfl) ?_
 refine gx ?_
 refine qM (qA rfl) rfl enters84 rfl rfl (v := .slice (cutA A c k 1) (m - k) (c - k)) (fun w hs => left_c g A m c k 0 po w (hs.has (⟨g, 95, [slice A m c, int .i64 (k : Int), int .i64 0, int .i64 po], 4⟩) (by simp)) (by omega) (by omega) (by omega)) ?_
 refine gx ?_
 refine qB (qA rfl) rfl (qP (zJ rfl rfl rfl) (by omega)) ?_
 iterate 2 refine gx ?_
 refine qC [0, 1, 2, 15] ?_
 refine qd rfl ?_
 iterate 4 refine gx ?_
 refine qB (qA rfl) rfl (qO rfl rfl) ?_
 refine gx ?_
 refine qM (qA rfl) rfl enters85 rfl rfl (v := .int .i64 (m : Int)) (fun w hs => wend_c g A m c k 0 po w (hs.has (⟨g, 95, [slice A m c, int .i64 (k : Int), int .i64 0, int .i64 po], 4⟩) (by simp)) (by omega) (by omega) (by omega)) ?_
 refine qY (ι := Unit) (V := fun _ => .tuple #[]) (R := fun _ => True) (H' := fun _ => [⟨g, 95, [slice A m c, int .i64 (k : Int), int .i64 8, int .i64 (m : Int)], 4⟩]) (qA rfl) rfl enters51 rfl rfl (fun w hs => (fail_set g A m c k po 8 (m : Int) (by decide) w (hs.has (⟨g, 95, [slice A m c, int .i64 (k : Int), int .i64 0, int .i64 po], 4⟩) (by simp))).mono fun e w' ⟨he, hw⟩ => ⟨(), he, trivial, qi (i := 0) (e := ⟨g, 95, [slice A m c, int .i64 (k : Int), int .i64 8, int .i64 (m : Int)], 4⟩) hs rfl rfl hw⟩) (fun _ _ => ?_)
 iterate 4 refine gx ?_
 exact TE.ret0 rfl (fun w hs => ⟨rfl, hs⟩)
theorem read_u (gv : Nat) (g : Nat) (A : Option Addr) (m c k : Nat) (n : Nat) (po : Int) (B : List Int) (hkn : k + n ≤ m) (hn : n ≤ 8) (w : World) (hl : Ent.lies ⟨g, 95, rdC A m c k 0 po, rdN⟩ w) (hv : Ent.lies ⟨gv, 37, [int .u64 0], 1⟩ w) (hk : k ≤ m) (hmc : m ≤ c) (hcm : c ≤ 9223372036854775807) (hgg : g ≠ gv) (hX : SrcX w [gv, g] A m .u8 B) (hBB : Bytes B)  : Calls Tryz.prog 53 #[.pointer (some ⟨g, 0, none⟩), .int .i64 (n : Int), .func (.func 54) #[] #[.pointer (some ⟨gv, 0, none⟩)]] w fun e w' => e = .returned (.tuple #[]) ∧ St w [⟨gv, 37, [int .u64 (valB ((B.drop k).take n))], 1⟩, ⟨g, 95, rdC A m c (k + n) 0 po, rdN⟩] w' := by
 refine qL (args := [.pointer (some ⟨g, 0, none⟩), .int .i64 (n : Int), .func (.func 54) #[] #[.pointer (some ⟨gv, 0, none⟩)]]) Tryz.func53 rfl Tryz.ntmps53 (by simp) ?_
 refine qC [0, 1, 2] ?_
 refine qe (H' := [⟨gv, 37, [int .u64 0], 1⟩, ⟨g, 95, [slice A m c, int .i64 (k : Int), int .i64 0, int .i64 po], 4⟩]) (fun w hs => (hs.take hl qF).take hv (qE (by show g ≠ gv; exact hgg) qF)) ?_
 iterate 4 refine gx ?_
 refine qM (qA rfl) rfl enters83 rfl rfl (v := .bool true) (fun w hs => calls_yes rfl (ready_c g A m c k 0 po w (hs.has (⟨g, 95, [slice A m c, int .i64 (k : Int), int .i64 0, int .i64 po], 4⟩) (by simp)))) ?_
 iterate 3 refine gx ?_
 refine qW rfl ?_
 iterate 7 refine gx ?_
 refine qB (qA rfl) rfl (qO rfl rfl) ?_
 refine gx ?_
 refine qM (qA rfl) rfl enters84 rfl rfl (v := .slice (cutA A c k 1) (m - k) (c - k)) (fun w hs => left_c g A m c k 0 po w (hs.has (⟨g, 95, [slice A m c, int .i64 (k : Int), int .i64 0, int .i64 po], 4⟩) (by simp)) (by omega) (by omega) (by omega)) ?_
 refine gx ?_
 refine qB (qA rfl) rfl (qU (zJ rfl rfl rfl) (by omega)) ?_
 iterate 2 refine gx ?_
 refine qC [0, 1, 2, 15] ?_
 refine qW rfl ?_
 iterate 5 refine gx ?_
 refine qB (qA rfl) rfl (qO rfl rfl) ?_
 iterate 2 refine gx ?_
 refine qY (ι := Unit) (V := fun _ => .slice (cutA A c k 1) n (c - k)) (R := fun _ => True) (H' := fun _ => [⟨gv, 37, [int .u64 0], 1⟩, ⟨g, 95, [slice A m c, int .i64 (((k + n) : Nat) : Int), int .i64 0, int .i64 po], 4⟩]) (qA rfl) rfl enters86 rfl rfl (fun w hs => (pass_c g A m c k n (by omega) 0 po w (hs.has (⟨g, 95, [slice A m c, int .i64 (k : Int), int .i64 0, int .i64 po], 4⟩) (by simp)) (by omega) (by omega) (by omega)).mono fun e w' ⟨he, hw⟩ => ⟨(), he, trivial, qi (i := 1) (e := ⟨g, 95, [slice A m c, int .i64 (((k + n) : Nat) : Int), int .i64 0, int .i64 po], 4⟩) hs rfl rfl hw⟩) (fun _ _ => ?_)
 refine TL.callF (ι := Unit) (V := fun _ => .tuple #[]) (R := fun _ => True) (H' := fun _ => [⟨gv, 37, [int .u64 (valB ((B.drop k).take n))], 1⟩, ⟨g, 95, [slice A m c, int .i64 (((k + n) : Nat) : Int), int .i64 0, int .i64 po], 4⟩]) (qA rfl) rfl enters54 rfl rfl rfl (fun w hs => (u1_c gv (cutA A c k 1) n (c - k) ((B.drop k).take n) ((hBB.drop k).take n) w ((((hX.at_ hs (fun b hb hbX => (qE (fun h => hbX gv (by simp) h.symm) (qE (fun h => hbX g (by simp) h.symm) qF)))).drop (by omega) (by omega)).head (by omega)).sub (Y := [gv]) (fun y hy => by rw [List.mem_singleton.1 hy]; simp)) (hs.has (⟨gv, 37, [int .u64 0], 1⟩) (by simp)) (by omega) (by omega) (by omega)).mono fun e w' ⟨he, hw⟩ => ⟨(), he, trivial, qi (i := 0) (e := ⟨gv, 37, [int .u64 (valB ((B.drop k).take n))], 1⟩) hs rfl rfl hw⟩) (fun _ _ => ?_)
 refine gx ?_
 exact TE.end0 rfl (fun w hs => ⟨rfl, hs⟩)
theorem st_swap (a b : Ent) (He : List Ent) : ([a] ++ (He ++ [b])).Perm ([a, b] ++ He) := by
 show (a :: (He ++ [b])).Perm (a :: b :: He)
 exact List.Perm.cons _ (List.perm_append_comm (l₁ := He) (l₂ := [b]))
theorem read_b (gv : Nat) (g : Nat) (A : Option Addr) (m c k : Nat) (n : Nat) (po : Int) (B : List Int) (hkn : k + n ≤ m) (hm : m ≤ 1000000) (w : World) (hl : Ent.lies ⟨g, 95, rdC A m c k 0 po, rdN⟩ w) (hv : Ent.lies ⟨gv, 22, [slice none 0 0], 1⟩ w) (hk : k ≤ m) (hmc : m ≤ c) (hcm : c ≤ 9223372036854775807) (hgg : g ≠ gv) (hX : SrcX w [gv, g] A m .u8 B) (hBB : Bytes B)  : Calls Tryz.prog 53 #[.pointer (some ⟨g, 0, none⟩), .int .i64 (n : Int), .func (.func 117) #[] #[.pointer (some ⟨gv, 0, none⟩)]] w fun e w' => ∃ v He, e = .returned (.tuple #[]) ∧ Own w.heap.size 5 .u8 v ((B.drop k).take n) He ∧ St w ((⟨gv, 22, [v], 1⟩ : Ent) :: (⟨g, 95, rdC A m c (k + n) 0 po, rdN⟩ : Ent) :: He) w' := by
 refine qL (args := [.pointer (some ⟨g, 0, none⟩), .int .i64 (n : Int), .func (.func 117) #[] #[.pointer (some ⟨gv, 0, none⟩)]]) Tryz.func53 rfl Tryz.ntmps53 (by simp) ?_
 refine qC [0, 1, 2] ?_
 refine qe (H' := [⟨gv, 22, [slice none 0 0], 1⟩, ⟨g, 95, [slice A m c, int .i64 (k : Int), int .i64 0, int .i64 po], 4⟩]) (fun w hs => (hs.take hl qF).take hv (qE (by show g ≠ gv; exact hgg) qF)) ?_
 iterate 4 refine gx ?_
 refine qM (qA rfl) rfl enters83 rfl rfl (v := .bool true) (fun w hs => calls_yes rfl (ready_c g A m c k 0 po w (hs.has (⟨g, 95, [slice A m c, int .i64 (k : Int), int .i64 0, int .i64 po], 4⟩) (by simp)))) ?_
 iterate 3 refine gx ?_
 refine qW rfl ?_
 iterate 7 refine gx ?_
 refine qB (qA rfl) rfl (qO rfl rfl) ?_
 refine gx ?_
 refine qM (qA rfl) rfl enters84 rfl rfl (v := .slice (cutA A c k 1) (m - k) (c - k)) (fun w hs => left_c g A m c k 0 po w (hs.has (⟨g, 95, [slice A m c, int .i64 (k : Int), int .i64 0, int .i64 po], 4⟩) (by simp)) (by omega) (by omega) (by omega)) ?_
 refine gx ?_
 refine qB (qA rfl) rfl (qU (zJ rfl rfl rfl) (by omega)) ?_
 iterate 2 refine gx ?_
 refine qC [0, 1, 2, 15] ?_
 refine qW rfl ?_
 iterate 5 refine gx ?_
 refine qB (qA rfl) rfl (qO rfl rfl) ?_
 iterate 2 refine gx ?_
 refine qY (ι := Unit) (V := fun _ => .slice (cutA A c k 1) n (c - k)) (R := fun _ => True) (H' := fun _ => [⟨gv, 22, [slice none 0 0], 1⟩, ⟨g, 95, [slice A m c, int .i64 (((k + n) : Nat) : Int), int .i64 0, int .i64 po], 4⟩]) (qA rfl) rfl enters86 rfl rfl (fun w hs => (pass_c g A m c k n (by omega) 0 po w (hs.has (⟨g, 95, [slice A m c, int .i64 (k : Int), int .i64 0, int .i64 po], 4⟩) (by simp)) (by omega) (by omega) (by omega)).mono fun e w' ⟨he, hw⟩ => ⟨(), he, trivial, qi (i := 1) (e := ⟨g, 95, [slice A m c, int .i64 (((k + n) : Nat) : Int), int .i64 0, int .i64 po], 4⟩) hs rfl rfl hw⟩) (fun _ _ => ?_)
 refine TL.callF (ι := Value × List Ent) (V := fun _ => .tuple #[]) (R := fun y => Own w.heap.size 5 .u8 y.1 ((B.drop k).take n) y.2) (H' := fun y => [⟨gv, 22, [y.1], 1⟩, ⟨g, 95, [slice A m c, int .i64 (((k + n) : Nat) : Int), int .i64 0, int .i64 po], 4⟩] ++ y.2) (qA rfl) rfl enters117 rfl rfl rfl (fun w hs => (b1_c gv (cutA A c k 1) n (c - k) ((B.drop k).take n) _ w ((((hX.at_ hs (fun b hb hbX => (qE (fun h => hbX gv (by simp) h.symm) (qE (fun h => hbX g (by simp) h.symm) qF)))).drop (by omega) (by omega)).head (by omega)).sub (Y := [gv]) (fun y hy => by rw [List.mem_singleton.1 hy]; simp)) (hs.has (⟨gv, 22, [slice none 0 0], 1⟩) (by simp)) (by omega) (by omega)).mono fun e w' ⟨v, He, he, ho, hw⟩ => ⟨(v, He), he, own_mono ho hs.size, (St.turns (H := [⟨gv, 22, [slice none 0 0], 1⟩]) (F := [⟨g, 95, [slice A m c, int .i64 (((k + n) : Nat) : Int), int .i64 0, int .i64 po], 4⟩]) (H' := [⟨gv, 22, [v], 1⟩]) (E := He) hs hw rfl ho.new).perm (st_swap _ _ _)⟩) (fun y hR => ?_)
 obtain ⟨v, He⟩ := y
 dsimp only at hR ⊢
 refine gx ?_
 exact TE.end0 rfl (fun w hs => ⟨v, He, rfl, hR, hs⟩)
theorem uint_ok (g : Nat) (A : Option Addr) (m c k : Nat) (n : Nat) (po : Int) (hn : 1 ≤ n ∧ n ≤ 8) (hkn : k + n ≤ m) (w : World) (hl : Ent.lies ⟨g, 95, rdC A m c k 0 po, rdN⟩ w) (hk : k ≤ m) (hmc : m ≤ c) (hcm : c ≤ 9223372036854775807) (B : List Int) (hX : SrcX w [g] A m .u8 B) (hBB : Bytes B)  : Calls Tryz.prog 20 #[.pointer (some ⟨g, 0, none⟩), .int .i64 (n : Int)] w fun e w' => e = .returned (.int .u64 (valB ((B.drop k).take n))) ∧ St w [⟨g, 95, rdC A m c (k + n) 0 po, rdN⟩] w' := by
 have hg : g < w.heap.size := hl.lt
 refine qL (args := [.pointer (some ⟨g, 0, none⟩), .int .i64 (n : Int)]) Tryz.func20 rfl Tryz.ntmps20 (by simp) ?_
 refine qC [0, 1] ?_
 refine qe (H' := [⟨g, 95, [slice A m c, int .i64 (k : Int), int .i64 0, int .i64 po], 4⟩]) (fun w hs => hs.take hl qF) ?_
 iterate 9 refine gx ?_
 refine qM (qA rfl) rfl enters50 rfl rfl (v := .bool true) (fun w hs => (vsize_c (n : Int) w).mono fun e w' h => by rw [decide_eq_true (p := 1 ≤ (n : Int) ∧ (n : Int) ≤ 8) (by omega)] at h; exact h) ?_
 iterate 3 refine gx ?_
 refine qW rfl ?_
 iterate 4 refine gx ?_
 refine qc (fun g1 hg1 => ?_)
 refine qw (qA rfl) rfl rfl size37 rfl rfl rfl (i := 0) rfl rfl (by simp [] <;> omega) (cs' := [int .u64 0]) (rfl) (H' := [⟨g1, 37, [int .u64 0], 1⟩, ⟨g, 95, [slice A m c, int .i64 (k : Int), int .i64 0, int .i64 po], 4⟩]) rfl ?_
 iterate 6 refine gx ?_
 refine qB (qA rfl) rfl (zg rfl rfl rfl) ?_
 refine qY (ι := Unit) (V := fun _ => .tuple #[]) (R := fun _ => True) (H' := fun _ => [⟨g1, 37, [int .u64 (valB ((B.drop k).take n))], 1⟩, ⟨g, 95, [slice A m c, int .i64 (((k + n) : Nat) : Int), int .i64 0, int .i64 po], 4⟩]) (qA rfl) rfl enters53 rfl rfl (fun w hs => (read_u g1 g A m c k n po B (by omega) (by omega) w (hs.has (⟨g, 95, [slice A m c, int .i64 (k : Int), int .i64 0, int .i64 po], 4⟩) (by simp)) (hs.has (⟨g1, 37, [int .u64 0], 1⟩) (by simp)) (by omega) (by omega) (by omega) (by omega) ((hX.more hg1).at_ hs (fun b hb hbX => (qE (fun h => hbX g1 (by simp) h.symm) (qE (fun h => hbX g (by simp) h.symm) qF)))) hBB).mono fun e w' ⟨he, hw⟩ => ⟨(), he, trivial, St.turns (H := [⟨g1, 37, [int .u64 0], 1⟩, ⟨g, 95, [slice A m c, int .i64 (k : Int), int .i64 0, int .i64 po], 4⟩]) (F := []) (H' := [⟨g1, 37, [int .u64 (valB ((B.drop k).take n))], 1⟩, ⟨g, 95, [slice A m c, int .i64 (((k + n) : Nat) : Int), int .i64 0, int .i64 po], 4⟩]) (E := []) hs hw rfl (by simp)⟩) (fun _ _ => ?_)
 iterate 2 refine gx ?_
 refine qC [4, 5] ?_
 iterate 7 refine gx ?_
 exact qK rfl rfl (fun w hs => ⟨rfl, hs.drop (by assumption)⟩)
theorem uint_short (g : Nat) (A : Option Addr) (m c k : Nat) (n po : Int) (hn : 1 ≤ n ∧ n ≤ 8) (hkn : (m : Int) - (k : Int) < n) (w : World) (hl : Ent.lies ⟨g, 95, rdC A m c k 0 po, rdN⟩ w) (hk : k ≤ m) (hmc : m ≤ c) (hcm : c ≤ 9223372036854775807)  : Calls Tryz.prog 20 #[.pointer (some ⟨g, 0, none⟩), .int .i64 n] w fun e w' => e = .returned (.int .u64 0) ∧ St w [⟨g, 95, rdC A m c k 8 (m : Int), rdN⟩] w' := by
 have hg : g < w.heap.size := hl.lt
 refine qL (args := [.pointer (some ⟨g, 0, none⟩), .int .i64 n]) Tryz.func20 rfl Tryz.ntmps20 (by simp) ?_
 refine qC [0, 1] ?_
 refine qe (H' := [⟨g, 95, [slice A m c, int .i64 (k : Int), int .i64 0, int .i64 po], 4⟩]) (fun w hs => hs.take hl qF) ?_
 iterate 9 refine gx ?_
 refine qM (qA rfl) rfl enters50 rfl rfl (v := .bool true) (fun w hs => (vsize_c n w).mono fun e w' h => by rw [decide_eq_true (p := 1 ≤ n ∧ n ≤ 8) hn] at h; exact h) ?_
 iterate 3 refine gx ?_
 refine qW rfl ?_
 iterate 4 refine gx ?_
 refine qc (fun g1 hg1 => ?_)
 refine qw (qA rfl) rfl rfl size37 rfl rfl rfl (i := 0) rfl rfl (by simp [] <;> omega) (cs' := [int .u64 0]) (rfl) (H' := [⟨g1, 37, [int .u64 0], 1⟩, ⟨g, 95, [slice A m c, int .i64 (k : Int), int .i64 0, int .i64 po], 4⟩]) rfl ?_
 iterate 6 refine gx ?_
 refine qB (qA rfl) rfl (zg rfl rfl rfl) ?_
 refine qY (ι := Unit) (V := fun _ => .tuple #[]) (R := fun _ => True) (H' := fun _ => [⟨g1, 37, [int .u64 0], 1⟩, ⟨g, 95, [slice A m c, int .i64 (k : Int), int .i64 8, int .i64 (m : Int)], 4⟩]) (qA rfl) rfl enters53 rfl rfl (fun w hs => (read_short g A m c k po n (.func (.func 54) #[] #[.pointer (some ⟨g1, 0, none⟩)]) (by omega) w (hs.has (⟨g, 95, [slice A m c, int .i64 (k : Int), int .i64 0, int .i64 po], 4⟩) (by simp)) (by omega) (by omega) (by omega)).mono fun e w' ⟨he, hw⟩ => ⟨(), he, trivial, qi (i := 1) (e := ⟨g, 95, [slice A m c, int .i64 (k : Int), int .i64 8, int .i64 (m : Int)], 4⟩) hs rfl rfl hw⟩) (fun _ _ => ?_)
 iterate 2 refine gx ?_
 refine qC [4, 5] ?_
 iterate 7 refine gx ?_
 exact qK rfl rfl (fun w hs => ⟨rfl, hs.drop (by assumption)⟩)
theorem uint_f (g : Nat) (A : Option Addr) (m c k : Nat) (co po n : Int) (hco : co ≠ 0) (w : World) (hl : Ent.lies ⟨g, 95, rdC A m c k co po, rdN⟩ w)  : Calls Tryz.prog 20 #[.pointer (some ⟨g, 0, none⟩), .int .i64 n] w fun e w' => e = .returned (.int .u64 0) ∧ St w [] w' := by
 have hg : g < w.heap.size := hl.lt
 refine qL (args := [.pointer (some ⟨g, 0, none⟩), .int .i64 n]) Tryz.func20 rfl Tryz.ntmps20 (by simp) ?_
 refine qC [0, 1] ?_
 refine qe (H' := [⟨g, 95, [slice A m c, int .i64 (k : Int), int .i64 co, int .i64 po], 4⟩]) (fun w hs => hs.take hl qF) ?_
 iterate 9 refine gx ?_
 by_cases c1 : 1 ≤ n ∧ n ≤ 8
 ·refine qM (qA rfl) rfl enters50 rfl rfl (v := .bool true) (fun w hs => (vsize_c n w).mono fun e w' h => by rw [decide_eq_true (p := 1 ≤ n ∧ n ≤ 8) c1] at h; exact h) ?_
  iterate 3 refine gx ?_
  refine qW rfl ?_
  iterate 4 refine gx ?_
  refine qc (fun g1 hg1 => ?_)
  refine qw (qA rfl) rfl rfl size37 rfl rfl rfl (i := 0) rfl rfl (by simp [] <;> omega) (cs' := [int .u64 0]) (rfl) (H' := [⟨g1, 37, [int .u64 0], 1⟩, ⟨g, 95, [slice A m c, int .i64 (k : Int), int .i64 co, int .i64 po], 4⟩]) rfl ?_
  iterate 6 refine gx ?_
  refine qB (qA rfl) rfl (zg rfl rfl rfl) ?_
  refine qM (qA rfl) rfl enters53 rfl rfl (v := .tuple #[]) (fun w hs => read_dead g A m c k co po n (.func (.func 54) #[] #[.pointer (some ⟨g1, 0, none⟩)]) hco w (hs.has (⟨g, 95, [slice A m c, int .i64 (k : Int), int .i64 co, int .i64 po], 4⟩) (by simp))) ?_
  iterate 2 refine gx ?_
  refine qC [4, 5] ?_
  iterate 7 refine gx ?_
  exact qK rfl rfl (fun w hs => ⟨rfl, ((hs.drop (by assumption)).same hl rfl)⟩)
 ·refine qM (qA rfl) rfl enters50 rfl rfl (v := .bool false) (fun w hs => (vsize_c n w).mono fun e w' h => by rw [decide_eq_false (p := 1 ≤ n ∧ n ≤ 8) c1] at h; exact h) ?_
  iterate 3 refine gx ?_
  refine qd rfl ?_
  iterate 4 refine gx ?_
  refine qM (qA rfl) rfl enters52 rfl rfl (v := .int .i64 (k : Int)) (fun w hs => at_c g A m c k co po w (hs.has (⟨g, 95, [slice A m c, int .i64 (k : Int), int .i64 co, int .i64 po], 4⟩) (by simp))) ?_
  refine qM (qA rfl) rfl enters51 rfl rfl (v := .tuple #[]) (fun w hs => fail_dead g A m c k co po 2 (k : Int) hco w (hs.has (⟨g, 95, [slice A m c, int .i64 (k : Int), int .i64 co, int .i64 po], 4⟩) (by simp))) ?_
  iterate 2 refine gx ?_
  refine qC [0, 1, 4] ?_
  iterate 7 refine gx ?_
  exact qK rfl rfl (fun w hs => ⟨rfl, (hs.same hl rfl)⟩)
theorem length_ok (g : Nat) (A : Option Addr) (m c k : Nat) (po : Int) (hkn : k + 8 ≤ m) (w : World) (hl : Ent.lies ⟨g, 95, rdC A m c k 0 po, rdN⟩ w) (hk : k ≤ m) (hmc : m ≤ c) (hcm : c ≤ 9223372036854775807) (B : List Int) (hX : SrcX w [g] A m .u8 B) (hBB : Bytes B) (hv : (valB ((B.drop k).take 8)) ≤ 4611686018427387903) : Calls Tryz.prog 63 #[.pointer (some ⟨g, 0, none⟩)] w fun e w' => e = .returned (.int .i64 (valB ((B.drop k).take 8))) ∧ St w [⟨g, 95, rdC A m c (k + 8) 0 po, rdN⟩] w' := by
 have hv0 := valB_bd ((hBB.drop k).take 8) (by rw [List.length_take]; omega)
 refine qL (args := [.pointer (some ⟨g, 0, none⟩)]) Tryz.func63 rfl Tryz.ntmps63 (by simp) ?_
 refine qC [0] ?_
 refine qe (H' := [⟨g, 95, [slice A m c, int .i64 (k : Int), int .i64 0, int .i64 po], 4⟩]) (fun w hs => hs.take hl qF) ?_
 iterate 8 refine gx ?_
 refine qM (qA rfl) rfl enters52 rfl rfl (v := .int .i64 (k : Int)) (fun w hs => at_c g A m c k 0 po w (hs.has (⟨g, 95, [slice A m c, int .i64 (k : Int), int .i64 0, int .i64 po], 4⟩) (by simp))) ?_
 iterate 6 refine gx ?_
 refine qY (ι := Unit) (V := fun _ => .int .u64 (valB ((B.drop k).take 8))) (R := fun _ => True) (H' := fun _ => [⟨g, 95, [slice A m c, int .i64 (((k + 8) : Nat) : Int), int .i64 0, int .i64 po], 4⟩]) (qA rfl) rfl enters20 rfl rfl (fun w hs => (uint_ok g A m c k 8 po (by omega) (by omega) w (hs.has (⟨g, 95, [slice A m c, int .i64 (k : Int), int .i64 0, int .i64 po], 4⟩) (by simp)) (by omega) (by omega) (by omega) B (hX.at_ hs (fun b hb hbX => (qE (fun h => hbX g (by simp) h.symm) qF))) hBB).mono fun e w' ⟨he, hw⟩ => ⟨(), he, trivial, qi (i := 0) (e := ⟨g, 95, [slice A m c, int .i64 (((k + 8) : Nat) : Int), int .i64 0, int .i64 po], 4⟩) hs rfl rfl hw⟩) (fun _ _ => ?_)
 iterate 7 refine gx ?_
 refine qB (qA rfl) rfl (qU (zJ rfl rfl rfl) (by omega)) ?_
 iterate 2 refine gx ?_
 refine qC [0, 2, 3, 4, 10] ?_
 refine qW rfl ?_
 iterate 5 refine gx ?_
 refine qB (qA rfl) rfl (qt rfl Tryz.underlying37 Tryz.underlying3 rfl (r := (valB ((B.drop k).take 8))) (w64 rfl (by omega))) ?_
 iterate 4 refine gx ?_
 exact qK rfl rfl (fun w hs => ⟨rfl, hs⟩)
theorem length_big (g : Nat) (A : Option Addr) (m c k : Nat) (po : Int) (hkn : k + 8 ≤ m) (w : World) (hl : Ent.lies ⟨g, 95, rdC A m c k 0 po, rdN⟩ w) (hk : k ≤ m) (hmc : m ≤ c) (hcm : c ≤ 9223372036854775807) (B : List Int) (hX : SrcX w [g] A m .u8 B) (hBB : Bytes B) (hv : 4611686018427387903 < (valB ((B.drop k).take 8))) : Calls Tryz.prog 63 #[.pointer (some ⟨g, 0, none⟩)] w fun e w' => e = .returned (.int .i64 0) ∧ St w [⟨g, 95, rdC A m c (k + 8) 2 (k : Int), rdN⟩] w' := by
 have hv0 := valB_bd ((hBB.drop k).take 8) (by rw [List.length_take]; omega)
 refine qL (args := [.pointer (some ⟨g, 0, none⟩)]) Tryz.func63 rfl Tryz.ntmps63 (by simp) ?_
 refine qC [0] ?_
 refine qe (H' := [⟨g, 95, [slice A m c, int .i64 (k : Int), int .i64 0, int .i64 po], 4⟩]) (fun w hs => hs.take hl qF) ?_
 iterate 8 refine gx ?_
 refine qM (qA rfl) rfl enters52 rfl rfl (v := .int .i64 (k : Int)) (fun w hs => at_c g A m c k 0 po w (hs.has (⟨g, 95, [slice A m c, int .i64 (k : Int), int .i64 0, int .i64 po], 4⟩) (by simp))) ?_
 iterate 6 refine gx ?_
 refine qY (ι := Unit) (V := fun _ => .int .u64 (valB ((B.drop k).take 8))) (R := fun _ => True) (H' := fun _ => [⟨g, 95, [slice A m c, int .i64 (((k + 8) : Nat) : Int), int .i64 0, int .i64 po], 4⟩]) (qA rfl) rfl enters20 rfl rfl (fun w hs => (uint_ok g A m c k 8 po (by omega) (by omega) w (hs.has (⟨g, 95, [slice A m c, int .i64 (k : Int), int .i64 0, int .i64 po], 4⟩) (by simp)) (by omega) (by omega) (by omega) B (hX.at_ hs (fun b hb hbX => (qE (fun h => hbX g (by simp) h.symm) qF))) hBB).mono fun e w' ⟨he, hw⟩ => ⟨(), he, trivial, qi (i := 0) (e := ⟨g, 95, [slice A m c, int .i64 (((k + 8) : Nat) : Int), int .i64 0, int .i64 po], 4⟩) hs rfl rfl hw⟩) (fun _ _ => ?_)
 iterate 7 refine gx ?_
 refine qB (qA rfl) rfl (qP (zJ rfl rfl rfl) (by omega)) ?_
 iterate 2 refine gx ?_
 refine qC [0, 2, 3, 4, 10] ?_
 refine qd rfl ?_
 iterate 4 refine gx ?_
 refine qY (ι := Unit) (V := fun _ => .tuple #[]) (R := fun _ => True) (H' := fun _ => [⟨g, 95, [slice A m c, int .i64 (((k + 8) : Nat) : Int), int .i64 2, int .i64 (k : Int)], 4⟩]) (qA rfl) rfl enters51 rfl rfl (fun w hs => (fail_set g A m c (k + 8) po 2 (k : Int) (by decide) w (hs.has (⟨g, 95, [slice A m c, int .i64 (((k + 8) : Nat) : Int), int .i64 0, int .i64 po], 4⟩) (by simp))).mono fun e w' ⟨he, hw⟩ => ⟨(), he, trivial, qi (i := 0) (e := ⟨g, 95, [slice A m c, int .i64 (((k + 8) : Nat) : Int), int .i64 2, int .i64 (k : Int)], 4⟩) hs rfl rfl hw⟩) (fun _ _ => ?_)
 iterate 9 refine gx ?_
 exact qK rfl rfl (fun w hs => ⟨rfl, hs⟩)
theorem length_short (g : Nat) (A : Option Addr) (m c k : Nat) (po : Int) (hkn : m < k + 8) (w : World) (hl : Ent.lies ⟨g, 95, rdC A m c k 0 po, rdN⟩ w) (hk : k ≤ m) (hmc : m ≤ c) (hcm : c ≤ 9223372036854775807)  : Calls Tryz.prog 63 #[.pointer (some ⟨g, 0, none⟩)] w fun e w' => e = .returned (.int .i64 0) ∧ St w [⟨g, 95, rdC A m c k 8 (m : Int), rdN⟩] w' := by
 refine qL (args := [.pointer (some ⟨g, 0, none⟩)]) Tryz.func63 rfl Tryz.ntmps63 (by simp) ?_
 refine qC [0] ?_
 refine qe (H' := [⟨g, 95, [slice A m c, int .i64 (k : Int), int .i64 0, int .i64 po], 4⟩]) (fun w hs => hs.take hl qF) ?_
 iterate 8 refine gx ?_
 refine qM (qA rfl) rfl enters52 rfl rfl (v := .int .i64 (k : Int)) (fun w hs => at_c g A m c k 0 po w (hs.has (⟨g, 95, [slice A m c, int .i64 (k : Int), int .i64 0, int .i64 po], 4⟩) (by simp))) ?_
 iterate 6 refine gx ?_
 refine qY (ι := Unit) (V := fun _ => .int .u64 0) (R := fun _ => True) (H' := fun _ => [⟨g, 95, [slice A m c, int .i64 (k : Int), int .i64 8, int .i64 (m : Int)], 4⟩]) (qA rfl) rfl enters20 rfl rfl (fun w hs => (uint_short g A m c k 8 po (by omega) (by omega) w (hs.has (⟨g, 95, [slice A m c, int .i64 (k : Int), int .i64 0, int .i64 po], 4⟩) (by simp)) (by omega) (by omega) (by omega)).mono fun e w' ⟨he, hw⟩ => ⟨(), he, trivial, qi (i := 0) (e := ⟨g, 95, [slice A m c, int .i64 (k : Int), int .i64 8, int .i64 (m : Int)], 4⟩) hs rfl rfl hw⟩) (fun _ _ => ?_)
 iterate 7 refine gx ?_
 refine qB (qA rfl) rfl (qU (zJ rfl rfl rfl) (by omega)) ?_
 iterate 2 refine gx ?_
 refine qC [0, 2, 3, 4, 10] ?_
 refine qW rfl ?_
 iterate 5 refine gx ?_
 refine qB (qA rfl) rfl (qt rfl Tryz.underlying37 Tryz.underlying3 rfl (r := 0) (w64 rfl (by omega))) ?_
 iterate 4 refine gx ?_
 exact qK rfl rfl (fun w hs => ⟨rfl, hs⟩)
theorem length_f (g : Nat) (A : Option Addr) (m c k : Nat) (co po : Int) (hco : co ≠ 0) (w : World) (hl : Ent.lies ⟨g, 95, rdC A m c k co po, rdN⟩ w)  : Calls Tryz.prog 63 #[.pointer (some ⟨g, 0, none⟩)] w fun e w' => e = .returned (.int .i64 0) ∧ St w [] w' := by
 refine qL (args := [.pointer (some ⟨g, 0, none⟩)]) Tryz.func63 rfl Tryz.ntmps63 (by simp) ?_
 refine qC [0] ?_
 refine qe (H' := [⟨g, 95, [slice A m c, int .i64 (k : Int), int .i64 co, int .i64 po], 4⟩]) (fun w hs => hs.take hl qF) ?_
 iterate 8 refine gx ?_
 refine qM (qA rfl) rfl enters52 rfl rfl (v := .int .i64 (k : Int)) (fun w hs => at_c g A m c k co po w (hs.has (⟨g, 95, [slice A m c, int .i64 (k : Int), int .i64 co, int .i64 po], 4⟩) (by simp))) ?_
 iterate 6 refine gx ?_
 refine qM (qA rfl) rfl enters20 rfl rfl (v := .int .u64 0) (fun w hs => uint_f g A m c k co po 8 hco w (hs.has (⟨g, 95, [slice A m c, int .i64 (k : Int), int .i64 co, int .i64 po], 4⟩) (by simp))) ?_
 iterate 7 refine gx ?_
 refine qB (qA rfl) rfl (qU (zJ rfl rfl rfl) (by omega)) ?_
 iterate 2 refine gx ?_
 refine qC [0, 2, 3, 4, 10] ?_
 refine qW rfl ?_
 iterate 5 refine gx ?_
 refine qB (qA rfl) rfl (qt rfl Tryz.underlying37 Tryz.underlying3 rfl (r := 0) (w64 rfl (by omega))) ?_
 iterate 4 refine gx ?_
 exact qK rfl rfl (fun w hs => ⟨rfl, (hs.same hl rfl)⟩)
/-
 The reader of layer 6: Bytes, Expect, New.
-/
theorem enters116 : Enters Tryz.prog 116 := ⟨_, Tryz.func116, by kernel_rfl, by kernel_rfl⟩
theorem enters95 : Enters Tryz.prog 95 := ⟨_, Tryz.func95, by kernel_rfl, by kernel_rfl⟩
theorem zero22 : (Tryz.prog.info? 22).bind (·.zero) = some (.slice none 0 0) := by kernel_rfl
instance : Zer Tryz.prog 22 [slice none 0 0] := ⟨⟨_, zero22, rfl⟩⟩
theorem bytes_ok (g : Nat) (A : Option Addr) (m c k : Nat) (n : Nat) (po : Int) (hkn : k + n ≤ m) (w : World) (hl : Ent.lies ⟨g, 95, rdC A m c k 0 po, rdN⟩ w) (hk : k ≤ m) (hmc : m ≤ c) (hcm : c ≤ 9223372036854775807) (B : List Int) (hX : SrcX w [g] A m .u8 B) (hBB : Bytes B) (hm : m ≤ 1000000) : Calls Tryz.prog 96 #[.pointer (some ⟨g, 0, none⟩), .int .i64 (n : Int)] w fun e w' => ∃ v He, e = .returned v ∧ Own w.heap.size 5 .u8 v ((B.drop k).take n) He ∧ St w ((⟨g, 95, rdC A m c (k + n) 0 po, rdN⟩ : Ent) :: He) w' := by
 have hg : g < w.heap.size := hl.lt
 refine qL (args := [.pointer (some ⟨g, 0, none⟩), .int .i64 (n : Int)]) Tryz.func96 rfl Tryz.ntmps96 (by simp) ?_
 refine qC [0, 1] ?_
 refine qe (H' := [⟨g, 95, [slice A m c, int .i64 (k : Int), int .i64 0, int .i64 po], 4⟩]) (fun w hs => hs.take hl qF) ?_
 iterate 9 refine gx ?_
 refine qB (qA rfl) rfl (qU (zC rfl rfl rfl) (by omega)) ?_
 iterate 2 refine gx ?_
 refine qW rfl ?_
 iterate 4 refine gx ?_
 refine qc (fun g1 hg1 => ?_)
 iterate 6 refine gx ?_
 refine qB (qA rfl) rfl (zg rfl rfl rfl) ?_
 refine qY (ι := Value × List Ent) (V := fun _ => .tuple #[]) (R := fun y => Own w.heap.size 5 .u8 y.1 ((B.drop k).take n) y.2) (H' := fun y => [⟨g1, 22, [y.1], 1⟩, ⟨g, 95, [slice A m c, int .i64 (((k + n) : Nat) : Int), int .i64 0, int .i64 po], 4⟩] ++ y.2) (qA rfl) rfl enters53 rfl rfl (fun w hs => (read_b g1 g A m c k n po B (by omega) (by omega) w (hs.has (⟨g, 95, [slice A m c, int .i64 (k : Int), int .i64 0, int .i64 po], 4⟩) (by simp)) (hs.has (⟨g1, 22, [slice none 0 0], 1⟩) (by simp)) (by omega) (by omega) (by omega) (by omega) ((hX.more hg1).at_ hs (fun b hb hbX => (qE (fun h => hbX g1 (by simp) h.symm) (qE (fun h => hbX g (by simp) h.symm) qF)))) hBB).mono fun e w' ⟨v, He, he, ho, hw⟩ => ⟨(v, He), he, own_mono ho hs.size, (St.turns (H := [⟨g1, 22, [slice none 0 0], 1⟩, ⟨g, 95, [slice A m c, int .i64 (k : Int), int .i64 0, int .i64 po], 4⟩]) (F := []) (H' := [⟨g1, 22, [v], 1⟩, ⟨g, 95, [slice A m c, int .i64 (((k + n) : Nat) : Int), int .i64 0, int .i64 po], 4⟩]) (E := He) hs hw rfl ho.new).perm (List.Perm.of_eq (by rw [List.append_nil]))⟩) (fun y hR => ?_)
 obtain ⟨v, He⟩ := y
 dsimp only at hR ⊢
 iterate 2 refine gx ?_
 refine qC [4, 5] ?_
 iterate 7 refine gx ?_
 exact qK rfl rfl (fun w hs => ⟨v, He, rfl, hR, hs.drop (by assumption)⟩)
theorem bytes_short (g : Nat) (A : Option Addr) (m c k : Nat) (n po : Int) (hkn : (m : Int) - (k : Int) < n) (w : World) (hl : Ent.lies ⟨g, 95, rdC A m c k 0 po, rdN⟩ w) (hk : k ≤ m) (hmc : m ≤ c) (hcm : c ≤ 9223372036854775807)  : Calls Tryz.prog 96 #[.pointer (some ⟨g, 0, none⟩), .int .i64 n] w fun e w' => e = .returned (.slice none 0 0) ∧ St w [⟨g, 95, rdC A m c k 8 (m : Int), rdN⟩] w' := by
 have hg : g < w.heap.size := hl.lt
 refine qL (args := [.pointer (some ⟨g, 0, none⟩), .int .i64 n]) Tryz.func96 rfl Tryz.ntmps96 (by simp) ?_
 refine qC [0, 1] ?_
 refine qe (H' := [⟨g, 95, [slice A m c, int .i64 (k : Int), int .i64 0, int .i64 po], 4⟩]) (fun w hs => hs.take hl qF) ?_
 iterate 9 refine gx ?_
 refine qB (qA rfl) rfl (qU (zC rfl rfl rfl) (by omega)) ?_
 iterate 2 refine gx ?_
 refine qW rfl ?_
 iterate 4 refine gx ?_
 refine qc (fun g1 hg1 => ?_)
 iterate 6 refine gx ?_
 refine qB (qA rfl) rfl (zg rfl rfl rfl) ?_
 refine qY (ι := Unit) (V := fun _ => .tuple #[]) (R := fun _ => True) (H' := fun _ => [⟨g1, 22, [slice none 0 0], 1⟩, ⟨g, 95, [slice A m c, int .i64 (k : Int), int .i64 8, int .i64 (m : Int)], 4⟩]) (qA rfl) rfl enters53 rfl rfl (fun w hs => (read_short g A m c k po n (.func (.func 117) #[] #[.pointer (some ⟨g1, 0, none⟩)]) (by omega) w (hs.has (⟨g, 95, [slice A m c, int .i64 (k : Int), int .i64 0, int .i64 po], 4⟩) (by simp)) (by omega) (by omega) (by omega)).mono fun e w' ⟨he, hw⟩ => ⟨(), he, trivial, qi (i := 1) (e := ⟨g, 95, [slice A m c, int .i64 (k : Int), int .i64 8, int .i64 (m : Int)], 4⟩) hs rfl rfl hw⟩) (fun _ _ => ?_)
 iterate 2 refine gx ?_
 refine qC [4, 5] ?_
 iterate 7 refine gx ?_
 exact qK rfl rfl (fun w hs => ⟨rfl, hs.drop (by assumption)⟩)
theorem bytes_f (g : Nat) (A : Option Addr) (m c k : Nat) (co po n : Int) (hco : co ≠ 0) (w : World) (hl : Ent.lies ⟨g, 95, rdC A m c k co po, rdN⟩ w)  : Calls Tryz.prog 96 #[.pointer (some ⟨g, 0, none⟩), .int .i64 n] w fun e w' => e = .returned (.slice none 0 0) ∧ St w [] w' := by
 have hg : g < w.heap.size := hl.lt
 refine qL (args := [.pointer (some ⟨g, 0, none⟩), .int .i64 n]) Tryz.func96 rfl Tryz.ntmps96 (by simp) ?_
 refine qC [0, 1] ?_
 refine qe (H' := [⟨g, 95, [slice A m c, int .i64 (k : Int), int .i64 co, int .i64 po], 4⟩]) (fun w hs => hs.take hl qF) ?_
 iterate 9 refine gx ?_
 by_cases c1 : n < 0
 ·refine qB (qA rfl) rfl (qP (zC rfl rfl rfl) c1) ?_
  iterate 2 refine gx ?_
  refine qd rfl ?_
  iterate 4 refine gx ?_
  refine qM (qA rfl) rfl enters52 rfl rfl (v := .int .i64 (k : Int)) (fun w hs => at_c g A m c k co po w (hs.has (⟨g, 95, [slice A m c, int .i64 (k : Int), int .i64 co, int .i64 po], 4⟩) (by simp))) ?_
  refine qM (qA rfl) rfl enters51 rfl rfl (v := .tuple #[]) (fun w hs => fail_dead g A m c k co po 2 (k : Int) hco w (hs.has (⟨g, 95, [slice A m c, int .i64 (k : Int), int .i64 co, int .i64 po], 4⟩) (by simp))) ?_
  iterate 2 refine gx ?_
  refine qC [0, 1, 4] ?_
  iterate 7 refine gx ?_
  exact qK rfl rfl (fun w hs => ⟨rfl, (hs.same hl rfl)⟩)
 ·refine qB (qA rfl) rfl (qU (zC rfl rfl rfl) c1) ?_
  iterate 2 refine gx ?_
  refine qW rfl ?_
  iterate 4 refine gx ?_
  refine qc (fun g1 hg1 => ?_)
  iterate 6 refine gx ?_
  refine qB (qA rfl) rfl (zg rfl rfl rfl) ?_
  refine qM (qA rfl) rfl enters53 rfl rfl (v := .tuple #[]) (fun w hs => read_dead g A m c k co po n (.func (.func 117) #[] #[.pointer (some ⟨g1, 0, none⟩)]) hco w (hs.has (⟨g, 95, [slice A m c, int .i64 (k : Int), int .i64 co, int .i64 po], 4⟩) (by simp))) ?_
  iterate 2 refine gx ?_
  refine qC [4, 5] ?_
  iterate 7 refine gx ?_
  exact qK rfl rfl (fun w hs => ⟨rfl, ((hs.drop (by assumption)).same hl rfl)⟩)
theorem wequal_c (PA PB : List Int) (hBA : Bytes PA) (hBB : Bytes PB) (A A2 : Option Addr) (m c m2 c2 : Nat) (w : World) (hsA : Src w A m .u8 PA) (hsB : Src w A2 m2 .u8 PB) : Calls Tryz.prog 116 #[.slice A m c, .slice A2 m2 c2] w fun e w' => e = .returned (.bool (decide (PA = PB))) ∧ St w [] w' := by
 refine qL (args := [.slice A m c, .slice A2 m2 c2]) Tryz.func116 rfl Tryz.ntmps116 (by simp) ?_
 refine qC [0, 1] ?_
 iterate 8 refine gx ?_
 refine qB (qA rfl) rfl (Gets.b2s rfl Tryz.underlying22 Tryz.underlying9 Tryz.underlying5 rfl (fun w hs => (hsA.at_ hs (fun b hb => qF)))) ?_
 refine gx ?_
 refine qB (qA rfl) rfl (Gets.b2s rfl Tryz.underlying22 Tryz.underlying9 Tryz.underlying5 rfl (fun w hs => (hsB.at_ hs (fun b hb => qF)))) ?_
 refine qB (qA rfl) rfl (Gets.bytesEq rfl rfl rfl hBA hBB) ?_
 iterate 4 refine gx ?_
 exact qK rfl rfl (fun w hs => ⟨rfl, hs⟩)
theorem hpre_c (P D : List Int) (hBP : Bytes P) (hBD : Bytes D) (A A2 : Option Addr) (m c m2 c2 : Nat) (w : World) (hsP : Src w A m .u8 P) (hsD : Src w A2 m2 .u8 D) (hmc : m ≤ c) (hcm : c ≤ 9223372036854775807) (hcm2 : m2 ≤ 9223372036854775807) : Calls Tryz.prog 95 #[.slice A m c, .slice A2 m2 c2] w fun e w' => e = .returned (.bool (decide (P.take m2 = D))) ∧ St w [] w' := by
 refine qL (args := [.slice A m c, .slice A2 m2 c2]) Tryz.func95 rfl Tryz.ntmps95 (by simp) ?_
 refine qC [0, 1] ?_
 iterate 11 refine gx ?_
 by_cases c1 : (m2 : Int) ≤ (m : Int)
 ·refine qB (qA rfl) rfl (qP (zb rfl rfl rfl) c1) ?_
  iterate 4 refine gx ?_
  refine qB (qJ rfl rfl rfl) rfl (zP rfl Tryz.underlying22 size5 rfl bnd.dflt (bnd.at_ (l := m2) rfl (by omega)) (by omega) (by omega) (cutA_zero _ _ _) (ln := m2) (cp := c) (by omega) (by omega)) ?_
  refine gx ?_
  refine qM (qJ rfl rfl rfl) rfl enters116 rfl rfl (v := .bool (decide (P.take m2 = D))) (fun w hs => wequal_c (P.take m2) D (hBP.take m2) hBD A A2 m2 c m2 c2 w ((hsP.at_ hs (fun b hb => qF)).head (by omega)) (hsD.at_ hs (fun b hb => qF))) ?_
  iterate 5 refine gx ?_
  exact qK rfl rfl (fun w hs => ⟨rfl, hs⟩)
 ·refine qB (qA rfl) rfl (qU (zb rfl rfl rfl) c1) ?_
  iterate 12 refine gx ?_
  exact qK rfl rfl (fun w hs => ⟨by rw [decide_eq_false (fun h => by have h2 := congrArg List.length h; rw [List.length_take, hsP.1, hsD.1] at h2; omega)], hs⟩)
theorem expect_ok (g : Nat) (A : Option Addr) (m c k : Nat) (po d : Int) (w : World) (hl : Ent.lies ⟨g, 95, rdC A m c k 0 po, rdN⟩ w) (hk : k ≤ m) (hmc : m ≤ c) (hcm : c ≤ 9223372036854775807) (B : List Int) (hX : SrcX w [g] A m .u8 B) (hBB : Bytes B) (D : List Int) (Ad : Option Addr) (md cd : Nat) (hXD : SrcX w [g] Ad md .u8 D) (hBD : Bytes D) (hmd : md ≤ cd) (hcd : cd ≤ 9223372036854775807) (h1 : (B.drop k).take md = D) : Calls Tryz.prog 62 #[.pointer (some ⟨g, 0, none⟩), .slice Ad md cd, .int .i64 d] w fun e w' => e = .returned (.bool true) ∧ St w [⟨g, 95, rdC A m c (k + md) 0 po, rdN⟩] w' := by
 have hl1 : md ≤ m - k := by have h2 := congrArg List.length h1; rw [List.length_take, List.length_drop, hXD.1, hX.1] at h2; omega
 refine qL (args := [.pointer (some ⟨g, 0, none⟩), .slice Ad md cd, .int .i64 d]) Tryz.func62 rfl Tryz.ntmps62 (by simp) ?_
 refine qC [0, 1, 2] ?_
 refine qe (H' := [⟨g, 95, [slice A m c, int .i64 (k : Int), int .i64 0, int .i64 po], 4⟩]) (fun w hs => hs.take hl qF) ?_
 iterate 9 refine gx ?_
 refine qM (qA rfl) rfl enters83 rfl rfl (v := .bool true) (fun w hs => calls_yes rfl (ready_c g A m c k 0 po w (hs.has (⟨g, 95, [slice A m c, int .i64 (k : Int), int .i64 0, int .i64 po], 4⟩) (by simp)))) ?_
 iterate 3 refine gx ?_
 refine qW rfl ?_
 iterate 5 refine gx ?_
 refine qB (qA rfl) rfl (qO rfl rfl) ?_
 refine gx ?_
 refine qM (qA rfl) rfl enters84 rfl rfl (v := .slice (cutA A c k 1) (m - k) (c - k)) (fun w hs => left_c g A m c k 0 po w (hs.has (⟨g, 95, [slice A m c, int .i64 (k : Int), int .i64 0, int .i64 po], 4⟩) (by simp)) (by omega) (by omega) (by omega)) ?_
 iterate 3 refine gx ?_
 refine qC [0, 1, 2, 6, 7] ?_
 iterate 6 refine gx ?_
 refine qM (qA rfl) rfl enters95 rfl rfl (v := .bool true) (fun w hs => (hpre_c (B.drop k) D (hBB.drop k) hBD (cutA A c k 1) Ad (m - k) (c - k) md cd w (((hX.at_ hs (fun b hb hbX => (qE (fun h => hbX g (by simp) h.symm) qF))).drop (by omega) (by omega)).src) ((hXD.at_ hs (fun b hb hbX => (qE (fun h => hbX g (by simp) h.symm) qF))).src) (by omega) (by omega) (by omega)).mono fun e w' h => by rw [decide_eq_true (p := (B.drop k).take md = D) h1] at h; exact h) ?_
 iterate 3 refine gx ?_
 refine qC [0, 1, 2, 6, 7, 23] ?_
 refine qd rfl ?_
 iterate 3 refine gx ?_
 refine qB (qA rfl) rfl (qO rfl rfl) ?_
 iterate 3 refine gx ?_
 refine qY (ι := Unit) (V := fun _ => .slice (cutA A c k 1) md (c - k)) (R := fun _ => True) (H' := fun _ => [⟨g, 95, [slice A m c, int .i64 (((k + md) : Nat) : Int), int .i64 0, int .i64 po], 4⟩]) (qA rfl) rfl enters86 rfl rfl (fun w hs => (pass_c g A m c k md (by omega) 0 po w (hs.has (⟨g, 95, [slice A m c, int .i64 (k : Int), int .i64 0, int .i64 po], 4⟩) (by simp)) (by omega) (by omega) (by omega)).mono fun e w' ⟨he, hw⟩ => ⟨(), he, trivial, qi (i := 0) (e := ⟨g, 95, [slice A m c, int .i64 (((k + md) : Nat) : Int), int .i64 0, int .i64 po], 4⟩) hs rfl rfl hw⟩) (fun _ _ => ?_)
 iterate 2 refine gx ?_
 refine qC [6] ?_
 iterate 8 refine gx ?_
 exact qK rfl rfl (fun w hs => ⟨rfl, hs⟩)
theorem expect_short (g : Nat) (A : Option Addr) (m c k : Nat) (po d : Int) (w : World) (hl : Ent.lies ⟨g, 95, rdC A m c k 0 po, rdN⟩ w) (hk : k ≤ m) (hmc : m ≤ c) (hcm : c ≤ 9223372036854775807) (B : List Int) (hX : SrcX w [g] A m .u8 B) (hBB : Bytes B) (D : List Int) (Ad : Option Addr) (md cd : Nat) (hXD : SrcX w [g] Ad md .u8 D) (hBD : Bytes D) (hmd : md ≤ cd) (hcd : cd ≤ 9223372036854775807) (h1 : ¬ ((B.drop k).take md = D)) (h2 : D.take (m - k) = B.drop k) : Calls Tryz.prog 62 #[.pointer (some ⟨g, 0, none⟩), .slice Ad md cd, .int .i64 d] w fun e w' => e = .returned (.bool false) ∧ St w [⟨g, 95, rdC A m c k 8 (m : Int), rdN⟩] w' := by
 refine qL (args := [.pointer (some ⟨g, 0, none⟩), .slice Ad md cd, .int .i64 d]) Tryz.func62 rfl Tryz.ntmps62 (by simp) ?_
 refine qC [0, 1, 2] ?_
 refine qe (H' := [⟨g, 95, [slice A m c, int .i64 (k : Int), int .i64 0, int .i64 po], 4⟩]) (fun w hs => hs.take hl qF) ?_
 iterate 9 refine gx ?_
 refine qM (qA rfl) rfl enters83 rfl rfl (v := .bool true) (fun w hs => calls_yes rfl (ready_c g A m c k 0 po w (hs.has (⟨g, 95, [slice A m c, int .i64 (k : Int), int .i64 0, int .i64 po], 4⟩) (by simp)))) ?_
 iterate 3 refine gx ?_
 refine qW rfl ?_
 iterate 5 refine gx ?_
 refine qB (qA rfl) rfl (qO rfl rfl) ?_
 refine gx ?_
 refine qM (qA rfl) rfl enters84 rfl rfl (v := .slice (cutA A c k 1) (m - k) (c - k)) (fun w hs => left_c g A m c k 0 po w (hs.has (⟨g, 95, [slice A m c, int .i64 (k : Int), int .i64 0, int .i64 po], 4⟩) (by simp)) (by omega) (by omega) (by omega)) ?_
 iterate 3 refine gx ?_
 refine qC [0, 1, 2, 6, 7] ?_
 iterate 6 refine gx ?_
 refine qM (qA rfl) rfl enters95 rfl rfl (v := .bool false) (fun w hs => (hpre_c (B.drop k) D (hBB.drop k) hBD (cutA A c k 1) Ad (m - k) (c - k) md cd w (((hX.at_ hs (fun b hb hbX => (qE (fun h => hbX g (by simp) h.symm) qF))).drop (by omega) (by omega)).src) ((hXD.at_ hs (fun b hb hbX => (qE (fun h => hbX g (by simp) h.symm) qF))).src) (by omega) (by omega) (by omega)).mono fun e w' h => by rw [decide_eq_false (p := (B.drop k).take md = D) h1] at h; exact h) ?_
 iterate 3 refine gx ?_
 refine qC [0, 1, 2, 6, 7, 23] ?_
 refine qW rfl ?_
 iterate 4 refine gx ?_
 refine qM (qA rfl) rfl enters95 rfl rfl (v := .bool true) (fun w hs => (hpre_c D (B.drop k) hBD (hBB.drop k) Ad (cutA A c k 1) md cd (m - k) (c - k) w ((hXD.at_ hs (fun b hb hbX => (qE (fun h => hbX g (by simp) h.symm) qF))).src) (((hX.at_ hs (fun b hb hbX => (qE (fun h => hbX g (by simp) h.symm) qF))).drop (by omega) (by omega)).src) (by omega) (by omega) (by omega)).mono fun e w' h => by rw [decide_eq_true (p := D.take (m - k) = B.drop k) h2] at h; exact h) ?_
 iterate 3 refine gx ?_
 refine qC [0, 2, 6, 33] ?_
 refine qd rfl ?_
 iterate 3 refine gx ?_
 refine qB (qA rfl) rfl (qO rfl rfl) ?_
 refine gx ?_
 refine qM (qA rfl) rfl enters85 rfl rfl (v := .int .i64 (m : Int)) (fun w hs => wend_c g A m c k 0 po w (hs.has (⟨g, 95, [slice A m c, int .i64 (k : Int), int .i64 0, int .i64 po], 4⟩) (by simp)) (by omega) (by omega) (by omega)) ?_
 refine qY (ι := Unit) (V := fun _ => .tuple #[]) (R := fun _ => True) (H' := fun _ => [⟨g, 95, [slice A m c, int .i64 (k : Int), int .i64 8, int .i64 (m : Int)], 4⟩]) (qA rfl) rfl enters51 rfl rfl (fun w hs => (fail_set g A m c k po 8 (m : Int) (by decide) w (hs.has (⟨g, 95, [slice A m c, int .i64 (k : Int), int .i64 0, int .i64 po], 4⟩) (by simp))).mono fun e w' ⟨he, hw⟩ => ⟨(), he, trivial, qi (i := 0) (e := ⟨g, 95, [slice A m c, int .i64 (k : Int), int .i64 8, int .i64 (m : Int)], 4⟩) hs rfl rfl hw⟩) (fun _ _ => ?_)
 iterate 3 refine gx ?_
 refine qC [6] ?_
 iterate 6 refine gx ?_
 exact qK rfl rfl (fun w hs => ⟨rfl, hs⟩)
theorem expect_bad (g : Nat) (A : Option Addr) (m c k : Nat) (po d : Int) (hd : d ≠ 0) (w : World) (hl : Ent.lies ⟨g, 95, rdC A m c k 0 po, rdN⟩ w) (hk : k ≤ m) (hmc : m ≤ c) (hcm : c ≤ 9223372036854775807) (B : List Int) (hX : SrcX w [g] A m .u8 B) (hBB : Bytes B) (D : List Int) (Ad : Option Addr) (md cd : Nat) (hXD : SrcX w [g] Ad md .u8 D) (hBD : Bytes D) (hmd : md ≤ cd) (hcd : cd ≤ 9223372036854775807) (h1 : ¬ ((B.drop k).take md = D)) (h2 : ¬ (D.take (m - k) = B.drop k)) : Calls Tryz.prog 62 #[.pointer (some ⟨g, 0, none⟩), .slice Ad md cd, .int .i64 d] w fun e w' => e = .returned (.bool false) ∧ St w [⟨g, 95, rdC A m c k d (k : Int), rdN⟩] w' := by
 refine qL (args := [.pointer (some ⟨g, 0, none⟩), .slice Ad md cd, .int .i64 d]) Tryz.func62 rfl Tryz.ntmps62 (by simp) ?_
 refine qC [0, 1, 2] ?_
 refine qe (H' := [⟨g, 95, [slice A m c, int .i64 (k : Int), int .i64 0, int .i64 po], 4⟩]) (fun w hs => hs.take hl qF) ?_
 iterate 9 refine gx ?_
 refine qM (qA rfl) rfl enters83 rfl rfl (v := .bool true) (fun w hs => calls_yes rfl (ready_c g A m c k 0 po w (hs.has (⟨g, 95, [slice A m c, int .i64 (k : Int), int .i64 0, int .i64 po], 4⟩) (by simp)))) ?_
 iterate 3 refine gx ?_
 refine qW rfl ?_
 iterate 5 refine gx ?_
 refine qB (qA rfl) rfl (qO rfl rfl) ?_
 refine gx ?_
 refine qM (qA rfl) rfl enters84 rfl rfl (v := .slice (cutA A c k 1) (m - k) (c - k)) (fun w hs => left_c g A m c k 0 po w (hs.has (⟨g, 95, [slice A m c, int .i64 (k : Int), int .i64 0, int .i64 po], 4⟩) (by simp)) (by omega) (by omega) (by omega)) ?_
 iterate 3 refine gx ?_
 refine qC [0, 1, 2, 6, 7] ?_
 iterate 6 refine gx ?_
 refine qM (qA rfl) rfl enters95 rfl rfl (v := .bool false) (fun w hs => (hpre_c (B.drop k) D (hBB.drop k) hBD (cutA A c k 1) Ad (m - k) (c - k) md cd w (((hX.at_ hs (fun b hb hbX => (qE (fun h => hbX g (by simp) h.symm) qF))).drop (by omega) (by omega)).src) ((hXD.at_ hs (fun b hb hbX => (qE (fun h => hbX g (by simp) h.symm) qF))).src) (by omega) (by omega) (by omega)).mono fun e w' h => by rw [decide_eq_false (p := (B.drop k).take md = D) h1] at h; exact h) ?_
 iterate 3 refine gx ?_
 refine qC [0, 1, 2, 6, 7, 23] ?_
 refine qW rfl ?_
 iterate 4 refine gx ?_
 refine qM (qA rfl) rfl enters95 rfl rfl (v := .bool false) (fun w hs => (hpre_c D (B.drop k) hBD (hBB.drop k) Ad (cutA A c k 1) md cd (m - k) (c - k) w ((hXD.at_ hs (fun b hb hbX => (qE (fun h => hbX g (by simp) h.symm) qF))).src) (((hX.at_ hs (fun b hb hbX => (qE (fun h => hbX g (by simp) h.symm) qF))).drop (by omega) (by omega)).src) (by omega) (by omega) (by omega)).mono fun e w' h => by rw [decide_eq_false (p := D.take (m - k) = B.drop k) h2] at h; exact h) ?_
 iterate 3 refine gx ?_
 refine qC [0, 2, 6, 33] ?_
 refine qW rfl ?_
 iterate 4 refine gx ?_
 refine qB (qA rfl) rfl (qO rfl rfl) ?_
 iterate 3 refine gx ?_
 refine qY (ι := Unit) (V := fun _ => .tuple #[]) (R := fun _ => True) (H' := fun _ => [⟨g, 95, [slice A m c, int .i64 (k : Int), int .i64 d, int .i64 (k : Int)], 4⟩]) (qA rfl) rfl enters51 rfl rfl (fun w hs => (fail_set g A m c k po d (k : Int) hd w (hs.has (⟨g, 95, [slice A m c, int .i64 (k : Int), int .i64 0, int .i64 po], 4⟩) (by simp))).mono fun e w' ⟨he, hw⟩ => ⟨(), he, trivial, qi (i := 0) (e := ⟨g, 95, [slice A m c, int .i64 (k : Int), int .i64 d, int .i64 (k : Int)], 4⟩) hs rfl rfl hw⟩) (fun _ _ => ?_)
 iterate 3 refine gx ?_
 refine qC [6] ?_
 iterate 6 refine gx ?_
 exact qK rfl rfl (fun w hs => ⟨rfl, hs⟩)
theorem expect_f (g : Nat) (A : Option Addr) (m c k : Nat) (co po d : Int) (Ad : Option Addr) (md cd : Nat) (hco : co ≠ 0) (w : World) (hl : Ent.lies ⟨g, 95, rdC A m c k co po, rdN⟩ w)  : Calls Tryz.prog 62 #[.pointer (some ⟨g, 0, none⟩), .slice Ad md cd, .int .i64 d] w fun e w' => e = .returned (.bool false) ∧ St w [] w' := by
 refine qL (args := [.pointer (some ⟨g, 0, none⟩), .slice Ad md cd, .int .i64 d]) Tryz.func62 rfl Tryz.ntmps62 (by simp) ?_
 refine qC [0, 1, 2] ?_
 refine qe (H' := [⟨g, 95, [slice A m c, int .i64 (k : Int), int .i64 co, int .i64 po], 4⟩]) (fun w hs => hs.take hl qF) ?_
 iterate 9 refine gx ?_
 refine qM (qA rfl) rfl enters83 rfl rfl (v := .bool false) (fun w hs => calls_no hco (ready_c g A m c k co po w (hs.has (⟨g, 95, [slice A m c, int .i64 (k : Int), int .i64 co, int .i64 po], 4⟩) (by simp)))) ?_
 iterate 3 refine gx ?_
 refine qd rfl ?_
 iterate 7 refine gx ?_
 exact qK rfl rfl (fun w hs => ⟨rfl, (hs.same hl rfl)⟩)
theorem new_raw (B : List Int) (A : Option Addr) (c : Nat) (w : World) (hsB : Src w A B.length .u8 B) (hmc : B.length ≤ c) (hm : B.length ≤ 1000000) : Calls Tryz.prog 19 #[.slice A B.length c] w fun e w' => ∃ (g : Nat) (A' : Option Addr) (c' : Nat) (He : List Ent), e = .returned (.pointer (some ⟨g, 0, none⟩)) ∧ Own w.heap.size 5 .u8 (.slice A' B.length c') B He ∧ w.heap.size ≤ g ∧ St w ((⟨g, 95, rdC A' B.length c' 0 0 0, rdN⟩ : Ent) :: He) w' := by
 refine qL (args := [.slice A B.length c]) Tryz.func19 rfl Tryz.ntmps19 (by simp) ?_
 refine qC [0] ?_
 iterate 8 refine gx ?_
 refine qY (ι := Value × List Ent) (V := fun yl => yl.1) (R := fun yl => Own w.heap.size 5 .u8 yl.1 B yl.2) (H' := fun yl => [] ++ yl.2) (qA rfl) rfl enters49 rfl rfl (fun w hs => (wclone_c B A B.length c w (hsB.at_ hs (fun b hb => qF)) (by omega) (by omega)).mono fun e w' ⟨v, He, he, ho, hw⟩ => ⟨(v, He), he, own_mono ho hs.size, st_call hs hw ho.new⟩) (fun yl hOl => ?_)
 obtain ⟨vl, Hl⟩ := yl
 dsimp only at hOl ⊢
 obtain ⟨Al, cl, hvl, hcl, hdl⟩ := hOl.form
 subst hvl
 refine qB (qA rfl) rfl (qm rfl (vs := [(0, slice Al B.length cl)]) rfl (fun w => by first | rfl | kernel_rfl) (v := .agg ([slice Al B.length cl, int .i64 0]).toArray)) ?_
 refine qB (qA rfl) rfl (qm rfl (vs := [(0, Value.agg ([slice Al B.length cl, int .i64 0]).toArray)]) rfl (fun w => by first | rfl | kernel_rfl) (v := .agg ([slice Al B.length cl, int .i64 0, int .i64 0, int .i64 0]).toArray)) ?_
 refine qv (fun g1 hg1 => ?_)
 iterate 4 refine gx ?_
 exact qK rfl rfl (fun w hs => ⟨g1, Al, cl, Hl, rfl, hOl, by assumption, hs⟩)
theorem newq_c (B : List Int) (A : Option Addr) (m c : Nat) (w : World) (hsB : Src w A m .u8 B) (hmc : m ≤ c) (hm : m ≤ 1000000) : Calls Tryz.prog 19 #[.slice A m c] w fun e w' => ∃ (g : Nat) (A' : Option Addr) (c' : Nat) (He : List Ent), e = .returned (.pointer (some ⟨g, 0, none⟩)) ∧ Own w.heap.size 5 .u8 (.slice A' m c') B He ∧ w.heap.size ≤ g ∧ St w ((⟨g, 95, rdC A' m c' 0 0 0, rdN⟩ : Ent) :: He) w' := by
 have h := hsB.1
 subst h
 exact new_raw B A c w hsB hmc hm
theorem wfail_s (g : Nat) (A : Option Addr) (m c : Nat) (s : RS) (d n : Int) (hd : d ≠ 0) (w : World) (hl : Ent.lies ⟨g, 95, rdC A m c s.k s.co s.po, rdN⟩ w) : Calls Tryz.prog 51 #[.pointer (some ⟨g, 0, none⟩), .int .i64 d, .int .i64 n] w fun e w' => e = .returned (.tuple #[]) ∧ St w [⟨g, 95, rdC A m c (rFail s d n).k (rFail s d n).co (rFail s d n).po, rdN⟩] w' := by
 obtain ⟨k, co, po⟩ := s
 unfold rFail
 dsimp only at hl ⊢
 by_cases h : co = 0
 ·subst h
  rw [if_pos ⟨rfl, hd⟩]
  exact fail_set g A m c k po d n hd w hl
 ·rw [if_neg (fun x => h x.1)]
  exact (fail_dead g A m c k co po d n h w hl).mono fun e w' ⟨he, hw⟩ => ⟨he, hw.take hl qF⟩
theorem wuint_s (g : Nat) (A : Option Addr) (m c : Nat) (s : RS) (n : Nat) (hn : 1 ≤ n ∧ n ≤ 8) (w : World) (hl : Ent.lies ⟨g, 95, rdC A m c s.k s.co s.po, rdN⟩ w) (hk : s.k ≤ m) (hmc : m ≤ c) (hcm : c ≤ 9223372036854775807) (B : List Int) (hX : SrcX w [g] A m .u8 B) (hBB : Bytes B) : Calls Tryz.prog 20 #[.pointer (some ⟨g, 0, none⟩), .int .i64 (n : Int)] w fun e w' => e = .returned (.int .u64 (rUint B s n).1) ∧ St w [⟨g, 95, rdC A m c (rUint B s n).2.k (rUint B s n).2.co (rUint B s n).2.po, rdN⟩] w' := by
 obtain ⟨k, co, po⟩ := s
 have hBm := hX.1
 unfold rUint
 dsimp only at hl hk ⊢
 by_cases h : co = 0
 ·subst h
  rw [if_pos rfl]
  by_cases h1 : B.length < k + n
  ·rw [if_pos h1]
   dsimp only
   rw [hBm]
   exact uint_short g A m c k (n : Int) po (by omega) (by omega) w hl hk hmc hcm
  ·rw [if_neg h1]; exact uint_ok g A m c k n po hn (by omega) w hl hk hmc hcm B hX hBB
 ·rw [if_neg h]
  exact (uint_f g A m c k co po n h w hl).mono fun e w' ⟨he, hw⟩ => ⟨he, hw.take hl qF⟩
theorem wlen_s (g : Nat) (A : Option Addr) (m c : Nat) (s : RS) (w : World) (hl : Ent.lies ⟨g, 95, rdC A m c s.k s.co s.po, rdN⟩ w) (hk : s.k ≤ m) (hmc : m ≤ c) (hcm : c ≤ 9223372036854775807) (B : List Int) (hX : SrcX w [g] A m .u8 B) (hBB : Bytes B) : Calls Tryz.prog 63 #[.pointer (some ⟨g, 0, none⟩)] w fun e w' => e = .returned (.int .i64 (rLen B s).1) ∧ St w [⟨g, 95, rdC A m c (rLen B s).2.k (rLen B s).2.co (rLen B s).2.po, rdN⟩] w' := by
 obtain ⟨k, co, po⟩ := s
 have hBm := hX.1
 unfold rLen rUint
 dsimp only at hl hk ⊢
 by_cases h : co = 0
 ·subst h
  rw [if_pos rfl]
  by_cases h1 : B.length < k + 8
  ·rw [if_pos h1, if_neg (show ¬ (4611686018427387903 : Int) < 0 by decide)]
   dsimp only
   rw [hBm]
   exact length_short g A m c k po (by omega) w hl hk hmc hcm
  ·rw [if_neg h1]
   by_cases h2 : 4611686018427387903 < valB ((B.drop k).take 8)
   ·rw [if_pos h2]
    unfold rFail
    rw [if_pos ⟨rfl, by decide⟩]
    exact length_big g A m c k po (by omega) w hl hk hmc hcm B hX hBB h2
   ·rw [if_neg h2]
    exact length_ok g A m c k po (by omega) w hl hk hmc hcm B hX hBB (by omega)
 ·rw [if_neg h, if_neg (show ¬ (4611686018427387903 : Int) < 0 by decide)]
  exact (length_f g A m c k co po h w hl).mono fun e w' ⟨he, hw⟩ => ⟨he, hw.take hl qF⟩
theorem wbytes_s (g : Nat) (A : Option Addr) (m c : Nat) (s : RS) (n : Int) (hn : 0 ≤ n) (w : World) (hl : Ent.lies ⟨g, 95, rdC A m c s.k s.co s.po, rdN⟩ w) (hk : s.k ≤ m) (hmc : m ≤ c) (hcm : c ≤ 9223372036854775807) (B : List Int) (hX : SrcX w [g] A m .u8 B) (hBB : Bytes B) (hm : m ≤ 1000000) : Calls Tryz.prog 96 #[.pointer (some ⟨g, 0, none⟩), .int .i64 n] w fun e w' => ∃ v He, e = .returned v ∧ Own w.heap.size 5 .u8 v (rBytes B s n.toNat).1 He ∧ St w ((⟨g, 95, rdC A m c (rBytes B s n.toNat).2.k (rBytes B s n.toNat).2.co (rBytes B s n.toNat).2.po, rdN⟩ : Ent) :: He) w' := by
 obtain ⟨k, co, po⟩ := s
 have hBm := hX.1
 obtain ⟨j, rfl⟩ : ∃ j : Nat, n = (j : Int) := ⟨n.toNat, by omega⟩
 unfold rBytes
 rw [Int.toNat_natCast]
 dsimp only at hl hk ⊢
 by_cases h : co = 0
 ·subst h
  rw [if_pos rfl]
  by_cases h1 : B.length < k + j
  ·rw [if_pos h1]
   dsimp only
   rw [hBm]
   exact (bytes_short g A m c k (j : Int) po (by omega) w hl hk hmc hcm).mono fun e w' ⟨he, hw⟩ => ⟨_, [], he, Own.nil _ _ _, hw⟩
  ·rw [if_neg h1]; exact bytes_ok g A m c k j po (by omega) w hl hk hmc hcm B hX hBB hm
 ·rw [if_neg h]
  exact (bytes_f g A m c k co po j h w hl).mono fun e w' ⟨he, hw⟩ => ⟨_, [], he, Own.nil _ _ _, hw.take hl qF⟩
theorem wexp_s (g : Nat) (A : Option Addr) (m c : Nat) (s : RS) (d : Int) (hd : d ≠ 0) (w : World) (hl : Ent.lies ⟨g, 95, rdC A m c s.k s.co s.po, rdN⟩ w) (hk : s.k ≤ m) (hmc : m ≤ c) (hcm : c ≤ 9223372036854775807) (B : List Int) (hX : SrcX w [g] A m .u8 B) (hBB : Bytes B) (D : List Int) (Ad : Option Addr) (md cd : Nat) (hXD : SrcX w [g] Ad md .u8 D) (hBD : Bytes D) (hmd : md ≤ cd) (hcd : cd ≤ 9223372036854775807) : Calls Tryz.prog 62 #[.pointer (some ⟨g, 0, none⟩), .slice Ad md cd, .int .i64 d] w fun e w' => e = .returned (.bool (rExp B s D d).1) ∧ St w [⟨g, 95, rdC A m c (rExp B s D d).2.k (rExp B s D d).2.co (rExp B s D d).2.po, rdN⟩] w' := by
 obtain ⟨k, co, po⟩ := s
 have hBm := hX.1
 have hDm := hXD.1
 unfold rExp
 dsimp only at hl hk ⊢
 by_cases h : co = 0
 ·subst h
  rw [if_pos rfl]
  by_cases h1 : (B.drop k).take D.length = D
  ·rw [if_pos h1]
   dsimp only
   rw [hDm] at h1 ⊢
   exact expect_ok g A m c k po d w hl hk hmc hcm B hX hBB D Ad md cd hXD hBD hmd hcd h1
  ·rw [if_neg h1]
   rw [hDm] at h1
   by_cases h2 : D.take (B.length - k) = B.drop k
   ·rw [if_pos h2]
    dsimp only
    rw [hBm] at h2 ⊢
    exact expect_short g A m c k po d w hl hk hmc hcm B hX hBB D Ad md cd hXD hBD hmd hcd h1 h2
   ·rw [if_neg h2]
    rw [hBm] at h2
    unfold rFail
    rw [if_pos ⟨rfl, hd⟩]
    exact expect_bad g A m c k po d hd w hl hk hmc hcm B hX hBB D Ad md cd hXD hBD hmd hcd h1 h2
 ·rw [if_neg h]
  exact (expect_f g A m c k co po d Ad md cd h w hl).mono fun e w' ⟨he, hw⟩ => ⟨he, hw.take hl qF⟩
end Go.Proofs.YtclmgfcdnokaiaaGreatDoor
