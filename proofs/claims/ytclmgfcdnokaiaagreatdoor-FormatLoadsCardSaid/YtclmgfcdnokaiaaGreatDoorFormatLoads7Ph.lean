/-
 FormatLoads: for all bytes, the law returns true and leaves its argument as it was; the tables are those that start-up lays.
-/
import Derived.Test.YtclmgfcdnokaiaaGreatDoorFormatLoads7Pg
import Derived.Test.YtclmgfcdnokaiaaGreatDoorFormatLoads7Pb
import Derived.Test.YtclmgfcdnokaiaaGreatDoorTie
import Derived.Test.YtclmgfcdnokaiaaGreatDoorCards
import Derived.SevenTiedAt
/-
 The code of layer 7: delta.
-/
namespace Go.Proofs.YtclmgfcdnokaiaaGreatDoor
set_option maxRecDepth 100000
set_option maxHeartbeats 2000000
open Go.Value (int slice)
set_option linter.unusedVariables false
set_option linter.unusedSimpArgs false
open Go Go.RowKit
theorem enters62 : Enters Tryz.prog 62 := ⟨_, Tryz.func62, by kernel_rfl, by kernel_rfl⟩
theorem enters64 : Enters Tryz.prog 64 := ⟨_, Tryz.func64, by kernel_rfl, by kernel_rfl⟩
theorem enters65 : Enters Tryz.prog 65 := ⟨_, Tryz.func65, by kernel_rfl, by kernel_rfl⟩
theorem enters66 : Enters Tryz.prog 66 := ⟨_, Tryz.func66, by kernel_rfl, by kernel_rfl⟩
def decF (B : List Int) (z : RS) : DR :=
 let o := rLen B z
 let n := rLen B o.2
 let x := rBytes B n.2 32
 let y := rBytes B x.2 32
 let c := rUint B y.2 4
 let l := rIter B c.2 c.1.toNat
 ⟨o.1, n.1, x.1, y.1, l.1, extraF B l.2⟩
theorem decF_dead {B : List Int} {z : RS} (h : z.co ≠ 0) : (decF B z).s = z := by
 unfold decF
 simp only [rLen_dead h, rBytes_dead h, rUint_dead h, rIter_dead h, extraF_dead h]
theorem decF_is (B : List Int) : rDec B = decF B (versF (rUint B (rExp B ⟨0, 0, 0⟩ magicB 9).2 1).2 (rUint B (rExp B ⟨0, 0, 0⟩ magicB 9).2 1).1) := rfl
theorem exp_vers {B : List Int} (hB : Bytes B) {e1 : Bool × RS} (he : rExp B ⟨0, 0, 0⟩ magicB 9 = e1) : ((rExp B e1.2 [1] 10).2.co = (versF (rUint B e1.2 1).2 (rUint B e1.2 1).1).co ∧ (rExp B e1.2 [1] 10).2.po = (versF (rUint B e1.2 1).2 (rUint B e1.2 1).1).po) ∧ ((versF (rUint B e1.2 1).2 (rUint B e1.2 1).1).co = 0 → (rExp B e1.2 [1] 10).2 = versF (rUint B e1.2 1).2 (rUint B e1.2 1).1) := by
 by_cases h : e1.2.co = 0
 ·have h1 := rExp_back (B := B) (s := ⟨0, 0, 0⟩) (D := magicB) (code := 9) (by decide) (by rw [he]; exact h)
  have h2 : e1.2 = ⟨4, 0, 0⟩ := by rw [← he, h1.2.2]; rfl
  rw [h2]
  by_cases hl : B.length < 5
  ·have hd : B.drop 4 = [] := List.drop_of_length_le (by omega)
   have a1 : rExp B ⟨4, 0, 0⟩ [1] 10 = (false, ⟨4, 8, B.length⟩) := by
    unfold rExp
    rw [if_pos rfl, if_neg (by dsimp only; rw [hd]; simp), if_pos (by dsimp only; rw [hd, show B.length - 4 = 0 by omega]; rfl)]
   have a2 : rUint B ⟨4, 0, 0⟩ 1 = (0, ⟨4, 8, B.length⟩) := by
    unfold rUint
    rw [if_pos rfl, if_pos (by dsimp only; omega)]
   rw [a1, a2, versF_dead (eight _ _)]
   exact ⟨⟨rfl, rfl⟩, fun _ => rfl⟩
  ·obtain ⟨b, R, hR⟩ : ∃ b R, B.drop 4 = b :: R := by
    cases hd : B.drop 4 with
    | nil => have := congrArg List.length hd; rw [List.length_drop] at this; simp at this; omega
    | cons b R => exact ⟨b, R, rfl⟩
   have a2 : rUint B ⟨4, 0, 0⟩ 1 = (b, ⟨5, 0, 0⟩) := by
    unfold rUint
    rw [if_pos rfl, if_neg (by dsimp only; omega)]
    dsimp only
    rw [hR]
    show (valB [b], _) = _
    simp [valB]
   rw [a2]
   by_cases hb : b = 1
   ·subst hb
    have a1 : rExp B ⟨4, 0, 0⟩ [1] 10 = (true, ⟨5, 0, 0⟩) := by
     unfold rExp
     rw [if_pos rfl, if_pos (by dsimp only; rw [hR]; rfl)]; rfl
    rw [a1, versF_F (fun h => h.2 rfl)]
    exact ⟨⟨rfl, rfl⟩, fun _ => rfl⟩
   ·have a1 : rExp B ⟨4, 0, 0⟩ [1] 10 = (false, ⟨4, 10, 4⟩) := by
     unfold rExp
     rw [if_pos rfl, if_neg (by dsimp only; rw [hR]; show ¬ [b] = [1]; simpa using hb), if_neg (by
      dsimp only; rw [hR]; intro h3
      have h4 := congrArg (List.take 1) h3
      rw [List.take_take, show min 1 (B.length - 4) = 1 by omega] at h4
      have h5 : [1] = [b] := h4
      simp at h5; exact hb h5.symm)]
     unfold rFail; rw [if_pos ⟨rfl, by decide⟩]; rfl
    have a3 : versF ⟨5, 0, 0⟩ b = ⟨5, 10, 4⟩ := by
     rw [versF_T rfl hb]; unfold rFail; rw [if_pos ⟨rfl, by decide⟩]
    rw [a1, a3]
    exact ⟨⟨rfl, rfl⟩, fun h => absurd h (show (10 : Int) ≠ 0 by decide)⟩
 ·have a1 : rExp B e1.2 [1] 10 = (false, e1.2) := by unfold rExp; rw [if_neg h]
  rw [a1, rUint_dead h, versF_dead h]
  exact ⟨⟨rfl, rfl⟩, fun _ => rfl⟩
theorem dec_link {B : List Int} (hB : Bytes B) {e1 : Bool × RS} {z : Bool × RS} {d : DR} (he : rExp B ⟨0, 0, 0⟩ magicB 9 = e1) (hz : rExp B e1.2 [1] 10 = z) (hd : decF B z.2 = d) : (d.s.co = (rDec B).s.co ∧ d.s.po = (rDec B).s.po) ∧ ((rDec B).s.co = 0 → rDec B = d) := by
 have h := exp_vers hB he
 have e0 : rDec B = decF B (versF (rUint B e1.2 1).2 (rUint B e1.2 1).1) := by rw [← he]; exact decF_is B
 rw [e0, ← hd]
 rw [hz] at h
 by_cases hc : (versF (rUint B e1.2 1).2 (rUint B e1.2 1).1).co = 0
 ·rw [h.2 hc]; exact ⟨⟨rfl, rfl⟩, fun _ => rfl⟩
 ·have hc2 : z.2.co ≠ 0 := by rw [h.1.1]; exact hc
  rw [decF_dead hc, decF_dead hc2]
  exact ⟨h.1, fun h0 => absurd h0 hc⟩
theorem extraF_fail {B : List Int} {s : RS} (h : s.k < B.length) : extraF B s = rFail s 12 (s.k : Int) := by
 by_cases hc : s.co = 0
 ·unfold extraF; rw [if_pos ⟨hc, h⟩]
 ·rw [extraF_dead hc, rFail_dead hc]
theorem delta_s (g : Nat) (A : Option Addr) (m c : Nat) (w : World) (hl : Ent.lies ⟨g, 95, rdC A m c (⟨0, 0, 0⟩ : RS).k (⟨0, 0, 0⟩ : RS).co (⟨0, 0, 0⟩ : RS).po, rdN⟩ w) (hmc : m ≤ c) (hcm : c ≤ 9223372036854775807) (B : List Int) (hX : SrcX w [g] A m .u8 B) (hBB : Bytes B) (hm : m ≤ 1000000)  : Calls Tryz.prog 27 #[.agg ([Value.pointer (some ⟨g, 0, none⟩)]).toArray] w fun e w' => ∃ (o n : Int) (X Y : List Int) (A1 : Option Addr) (m1 c1 : Nat) (Es : List CV) (He : List Ent) (q : RS), e = .returned (.agg (dV o n X Y (slice A1 m1 c1)).toArray) ∧ X.length = 32 ∧ Y.length = 32 ∧ (m1 ≤ c1 ∧ c1 ≤ 9223372036854775807) ∧ OwnD w.heap.size A1 m1 Es He ∧ ((rDec B).s.co = 0 → o = (rDec B).o ∧ n = (rDec B).n ∧ X = (rDec B).h1 ∧ Y = (rDec B).h2 ∧ Es.map cmC = (rDec B).Cs ∧ Es.length = m1) ∧ (q.co = (rDec B).s.co ∧ q.po = (rDec B).s.po) ∧ St w ((⟨g, 95, rdC A m c q.k q.co q.po, rdN⟩ : Ent) :: He) w' := by
 have hBm := hX.1
 have hg : g < w.heap.size := hl.lt
 have hri : RI B ⟨0, 0, 0⟩ := ⟨Nat.zero_le _, .inl ⟨rfl, rfl⟩⟩
 refine qL (args := [.agg ([Value.pointer (some ⟨g, 0, none⟩)]).toArray]) Tryz.func27 rfl Tryz.ntmps27 (by simp) ?_
 refine qC [0] ?_
 refine qe (H' := [⟨g, 95, [slice A m c, int .i64 0, int .i64 0, int .i64 0], 4⟩]) (fun w hs => hs.take hl qF) ?_
 iterate 2 refine gx ?_
 refine qv (fun g1 hg1 => ?_)
 refine zB (qA rfl) rfl rfl zero27 (cs := zV) (by first | rfl | kernel_rfl) (tot := 67) (by simp) (fun g2 hg2 => ?_)
 iterate 4 refine gx ?_
 refine zB (qA rfl) rfl rfl zero27 (cs := zV) (by first | rfl | kernel_rfl) (tot := 67) (by simp) (fun g3 hg3 => ?_)
 iterate 3 refine gx ?_
 refine qe (H' := [⟨g1, 64, [Value.pointer (some ⟨g, 0, none⟩)], 1⟩, ⟨g3, 27, zV, 67⟩, ⟨g2, 27, zV, 67⟩, ⟨g, 95, [slice A m c, int .i64 0, int .i64 0, int .i64 0], 4⟩]) (fun w h => h.perm (perm_pick (p := [2, 0, 1, 3]) (by kernel_rfl) rfl)) ?_
 iterate 3 refine gx ?_
 refine zc (qA rfl) rfl rfl Tryz.underlying22 size5 zero5 rfl (by decide) (by decide) (cells := #[.int .u8 71, .int .u8 82, .int .u8 70, .int .u8 84]) (tot := 4) (by kernel_rfl) (cs := [.int .u8 71, .int .u8 82, .int .u8 70, .int .u8 84]) rfl rfl (fun g4 hg4 => ?_)
 refine TL.mark2 (qA rfl) rfl rfl Tryz.underlying22 Tryz.underlying5 rfl (i := 0) (ent := ⟨g4, 5, [int .u8 71, int .u8 82, int .u8 70, int .u8 84], 4⟩) rfl rfl (W := magicB) rfl (by omega) (fun w1 hap hw1 hrw hgw => ?_)
 have hw1' : St w [⟨g1, 64, [Value.pointer (some ⟨g, 0, none⟩)], 1⟩, ⟨g3, 27, zV, 67⟩, ⟨g2, 27, zV, 67⟩, ⟨g, 95, [slice A m c, int .i64 0, int .i64 0, int .i64 0], 4⟩] w1 := hw1
 have hnmg1 : g4 ≠ g1 := fun h => hap (⟨g1, 64, [Value.pointer (some ⟨g, 0, none⟩)], 1⟩) (by simp) h.symm
 have hnmg3 : g4 ≠ g3 := fun h => hap (⟨g3, 27, zV, 67⟩) (by simp) h.symm
 have hnmg2 : g4 ≠ g2 := fun h => hap (⟨g2, 27, zV, 67⟩) (by simp) h.symm
 have hnmg : g4 ≠ g := fun h => hap (⟨g, 95, [slice A m c, int .i64 0, int .i64 0, int .i64 0], 4⟩) (by simp) h.symm
 have hM : SrcX w1 [g] (some ⟨g4, 0, none⟩) 4 .u8 magicB := ⟨rfl, .inr ⟨g4, 0, rfl, hgw, (fun z hz => by rw [List.mem_singleton.1 hz]; exact hnmg), hrw⟩⟩
 refine TL.heap (H' := [⟨g1, 64, [Value.pointer (some ⟨g, 0, none⟩)], 1⟩, ⟨g3, 27, zV, 67⟩, ⟨g2, 27, zV, 67⟩, ⟨g, 95, [slice A m c, int .i64 0, int .i64 0, int .i64 0], 4⟩]) (fun w' h => hw1'.self.call' h) ?_
 refine qY (ι := Unit) (V := fun _ => .bool (rExp B (⟨0, 0, 0⟩ : RS) magicB 9).1) (R := fun _ => True) (H' := fun _ => [⟨g1, 64, [Value.pointer (some ⟨g, 0, none⟩)], 1⟩, ⟨g3, 27, zV, 67⟩, ⟨g2, 27, zV, 67⟩, (rE95 g A m c ((rExp B (⟨0, 0, 0⟩ : RS) magicB 9).2))]) (qA rfl) rfl enters62 rfl rfl (fun w hs => (wexp_s g A m c (⟨0, 0, 0⟩ : RS) 9 (by decide) w (hs.has (⟨g, 95, [slice A m c, int .i64 0, int .i64 0, int .i64 0], 4⟩) (by simp)) (Nat.zero_le _) (by omega) (by omega) B (((((hX.more hg1).more hg2).more hg3).at_ (St.trans7 hw1' hs rfl) (fun b hb hbX => (qE (fun h => hbX g1 (by simp) h.symm) (qE (fun h => hbX g3 (by simp) h.symm) (qE (fun h => hbX g2 (by simp) h.symm) (qE (fun h => hbX g (by simp) h.symm) qF)))))).sub (Y := [g]) (fun z hz => by rw [List.mem_singleton.1 hz]; simp)) hBB magicB (some ⟨g4, 0, none⟩) 4 4 (Src.toX (SrcX.src hM |>.frz hw1' hs rfl hgw (by simp only [List.mem_cons, List.not_mem_nil, or_false]; rintro e (rfl | rfl | rfl | rfl) <;> (intro h; first | exact hnmg1 h.symm | exact hnmg2 h.symm | exact hnmg3 h.symm | exact hnmg h.symm))) (fun b off h x hx => by cases h; rw [List.mem_singleton.1 hx]; exact hnmg)) magic_bytes (Nat.le_refl _) (by omega)).mono fun e w' ⟨he, hw⟩ => ⟨(), he, trivial, qi (i := 3) (e := (rE95 g A m c ((rExp B (⟨0, 0, 0⟩ : RS) magicB 9).2))) hs rfl rfl hw⟩) (fun _ _ => ?_)
 have hrie1 := rExp_ri (D := magicB) (code := 9) (by decide) hri
 generalize he1 : rExp B ⟨0, 0, 0⟩ magicB 9 = e1 at hrie1 ⊢
 refine TL.rebase2 hw1' rfl ?_
 have hke1 : e1.2.k ≤ m := by have := hrie1.1; omega
 iterate 2 refine gx ?_
 refine qC [1, 2, 3] ?_
 iterate 4 refine gx ?_
 refine zc (qA rfl) rfl rfl Tryz.underlying22 size5 zero5 rfl (by decide) (by decide) (cells := #[.int .u8 1]) (tot := 1) (by kernel_rfl) (cs := [.int .u8 1]) rfl rfl (fun g5 hg5 => ?_)
 refine qY (ι := Unit) (V := fun _ => .bool (rExp B e1.2 [1] 10).1) (R := fun _ => True) (H' := fun _ => [⟨g5, 5, [int .u8 1], 1⟩, ⟨g1, 64, [Value.pointer (some ⟨g, 0, none⟩)], 1⟩, ⟨g3, 27, zV, 67⟩, ⟨g2, 27, zV, 67⟩, (rE95 g A m c ((rExp B e1.2 [1] 10).2))]) (qA rfl) rfl enters62 rfl rfl (fun w hs => (wexp_s g A m c e1.2 10 (by decide) w (hs.has ((rE95 g A m c e1.2)) (by simp)) (by omega) (by omega) (by omega) B (hX.at_ hs (fun b hb hbX => (qE (by show g5 ≠ b; omega) (qE (by show g1 ≠ b; omega) (qE (by show g3 ≠ b; omega) (qE (by show g2 ≠ b; omega) (qE (fun h => hbX g (by simp) h.symm) qF))))))) hBB [1] (some ⟨g5, 0, none⟩) 1 1 ((zT (W := [1]) (hs.has (⟨g5, 5, [int .u8 1], 1⟩) (by simp)) rfl).toX (fun b off h x hx => by cases h; rw [List.mem_singleton.1 hx]; omega)) (by intro z hz; rw [List.mem_singleton.1 hz]; decide) (Nat.le_refl _) (by omega)).mono fun e w' ⟨he, hw⟩ => ⟨(), he, trivial, qi (i := 4) (e := (rE95 g A m c ((rExp B e1.2 [1] 10).2))) hs rfl rfl hw⟩) (fun _ _ => ?_)
 have hriz_ := rExp_ri (D := [1]) (code := 10) (by decide) hrie1
 generalize hz_ : rExp B e1.2 [1] 10 = z_ at hriz_ ⊢
 have hkz_ : z_.2.k ≤ m := by have := hriz_.1; omega
 iterate 3 refine gx ?_
 refine qe (H' := [⟨g1, 64, [Value.pointer (some ⟨g, 0, none⟩)], 1⟩, ⟨g3, 27, zV, 67⟩, ⟨g2, 27, zV, 67⟩, (rE95 g A m c z_.2)]) (fun w h => h.erase (i := 0) rfl (by assumption)) ?_
 refine qe (H' := [⟨g1, 64, [Value.pointer (some ⟨g, 0, none⟩)], 1⟩] ++ ([⟨g3, 27, zV, 67⟩, ⟨g2, 27, zV, 67⟩, (rE95 g A m c z_.2)])) (fun w h => h) ?_
 refine TC.mixB (HB := [Ent.mk g1 64 ([Value.pointer (some ⟨g, 0, none⟩)]) 1]) (H := [Ent.mk g3 27 (zV) 67, Ent.mk g2 27 (zV) 67, Ent.mk g 95 ([slice A m c, int .i64 (z_.2.k : Int), int .i64 z_.2.co, int .i64 z_.2.po]) 4]) (by kernel_rfl) [0, 0, 3, 0, 0, 3, 0, 8, 0, 8] [0, 1, 3, 4, 2, 6, 5, 7, 8, 9] (by kernel_rfl) ?_
 refine qz (qA rfl) rfl (fun _ => zE rfl Tryz.underlying64 rfl size50 rfl (off' := 0) (by first | rfl | omega)) ?_
 refine zO (qA rfl) rfl (fun H' => qS rfl agg50 rfl (qZ (i := 0) (ent := ⟨g1, 64, [Value.pointer (some ⟨g, 0, none⟩)], 1⟩) (off := 0) rfl rfl (by exact rfl))) ?_
 refine qz (qA rfl) rfl (fun _ => zE rfl Tryz.underlying64 rfl size50 rfl (off' := 0) (by first | rfl | omega)) ?_
 refine zO (qA rfl) rfl (fun H' => qS rfl agg50 rfl (qZ (i := 0) (ent := ⟨g1, 64, [Value.pointer (some ⟨g, 0, none⟩)], 1⟩) (off := 0) rfl rfl (by exact rfl))) ?_
 refine zW (ι := Unit) (V := fun _ => .int .i64 ((rLen B z_.2).1)) (R := fun _ => True) (H' := fun _ => [⟨g3, 27, zV, 67⟩, ⟨g2, 27, zV, 67⟩, (rE95 g A m c ((rLen B z_.2).2))]) (qA rfl) rfl enters63 rfl rfl (fun w hs => (wlen_s g A m c z_.2 w (hs.has ((rE95 g A m c z_.2)) (by simp)) (by omega) (by omega) (by omega) B (hX.at_ hs (fun b hb hbX => (qV (qE (by show g1 ≠ b; omega) qF) (qE (by show g3 ≠ b; omega) (qE (by show g2 ≠ b; omega) (qE (fun h => hbX g (by simp) h.symm) qF)))))) hBB).mono fun e w' ⟨he, hw⟩ => ⟨(), he, trivial, qi (i := 3) (e := (rE95 g A m c ((rLen B z_.2).2))) hs rfl rfl hw⟩) (fun _ _ => ?_)
 have hvo_ := rLen_val hBB z_.2
 have hrio_ := rLen_ri hriz_
 generalize ho_ : rLen B z_.2 = o_ at hvo_ hrio_ ⊢
 have hko_ : o_.2.k ≤ m := by have := hrio_.1; omega
 refine qz (qA rfl) rfl (fun _ => zE rfl Tryz.underlying27 rfl size3 rfl (off' := 0) (by first | rfl | omega)) ?_
 refine zW (ι := Unit) (V := fun _ => .int .i64 ((rLen B o_.2).1)) (R := fun _ => True) (H' := fun _ => [⟨g3, 27, zV, 67⟩, ⟨g2, 27, zV, 67⟩, (rE95 g A m c ((rLen B o_.2).2))]) (qA rfl) rfl enters63 rfl rfl (fun w hs => (wlen_s g A m c o_.2 w (hs.has ((rE95 g A m c o_.2)) (by simp)) (by omega) (by omega) (by omega) B (hX.at_ hs (fun b hb hbX => (qV (qE (by show g1 ≠ b; omega) qF) (qE (by show g3 ≠ b; omega) (qE (by show g2 ≠ b; omega) (qE (fun h => hbX g (by simp) h.symm) qF)))))) hBB).mono fun e w' ⟨he, hw⟩ => ⟨(), he, trivial, qi (i := 3) (e := (rE95 g A m c ((rLen B o_.2).2))) hs rfl rfl hw⟩) (fun _ _ => ?_)
 have hvn_ := rLen_val hBB o_.2
 have hrin_ := rLen_ri hrio_
 generalize hn_ : rLen B o_.2 = n_ at hvn_ hrin_ ⊢
 have hkn_ : n_.2.k ≤ m := by have := hrin_.1; omega
 refine TP.store1 (qA rfl) rfl rfl size3 rfl rfl rfl (i := 1) rfl rfl (by simp [] <;> omega) (cs' := dV o_.1 0 (List.replicate 32 (0 : Int)) (List.replicate 32 (0 : Int)) (slice none 0 0)) (set_left (by simp []) (rfl)) (H' := [⟨g3, 27, dV o_.1 0 (List.replicate 32 (0 : Int)) (List.replicate 32 (0 : Int)) (slice none 0 0), 67⟩, ⟨g2, 27, zV, 67⟩, (rE95 g A m c n_.2)]) rfl ?_
 refine qz (qA rfl) rfl (fun _ => zE rfl Tryz.underlying27 rfl size3 rfl (off' := 1) (by first | rfl | omega)) ?_
 refine TP.store1 (qA rfl) rfl rfl size3 rfl rfl rfl (i := 1) rfl rfl (by simp [] <;> omega) (cs' := dV o_.1 n_.1 (List.replicate 32 (0 : Int)) (List.replicate 32 (0 : Int)) (slice none 0 0)) (set_left (by simp []) (rfl)) (H' := [⟨g3, 27, dV o_.1 n_.1 (List.replicate 32 (0 : Int)) (List.replicate 32 (0 : Int)) (slice none 0 0), 67⟩, ⟨g2, 27, zV, 67⟩, (rE95 g A m c n_.2)]) rfl ?_
 refine TP.nil ?_
 refine zU (H' := [⟨g1, 64, [Value.pointer (some ⟨g, 0, none⟩)], 1⟩, ⟨g3, 27, dV o_.1 n_.1 (List.replicate 32 (0 : Int)) (List.replicate 32 (0 : Int)) (slice none 0 0), 67⟩, ⟨g2, 27, zV, 67⟩, (rE95 g A m c n_.2)]) (fun w h => h) ?_
 refine gx ?_
 refine qC [1, 2, 3] ?_
 refine gx ?_
 refine qe (H' := [⟨g1, 64, [Value.pointer (some ⟨g, 0, none⟩)], 1⟩] ++ ([⟨g3, 27, dV o_.1 n_.1 (List.replicate 32 (0 : Int)) (List.replicate 32 (0 : Int)) (slice none 0 0), 67⟩, ⟨g2, 27, zV, 67⟩, (rE95 g A m c n_.2)])) (fun w h => h) ?_
 refine TC.mixB (HB := [Ent.mk g1 64 ([Value.pointer (some ⟨g, 0, none⟩)]) 1]) (H := [Ent.mk g3 27 (dV o_.1 n_.1 (List.replicate 32 (0 : Int)) (List.replicate 32 (0 : Int)) (slice none 0 0)) 67, Ent.mk g2 27 (zV) 67, Ent.mk g 95 ([slice A m c, int .i64 (n_.2.k : Int), int .i64 n_.2.co, int .i64 n_.2.po]) 4]) (by kernel_rfl) [0, 3, 0, 3, 0, 8, 0, 8] [0, 2, 1, 4, 3, 5, 6, 7] (by kernel_rfl) ?_
 refine zO (qA rfl) rfl (fun H' => qg rfl agg64 size64 rfl (vs := [Value.pointer (some ⟨g, 0, none⟩)]) (by simp []) (qQ (i := 0) (ent := ⟨g1, 64, [Value.pointer (some ⟨g, 0, none⟩)], 1⟩) rfl rfl rfl)) ?_
 refine zO (qA rfl) rfl (fun H' => qg rfl agg64 size64 rfl (vs := [Value.pointer (some ⟨g, 0, none⟩)]) (by simp []) (qQ (i := 0) (ent := ⟨g1, 64, [Value.pointer (some ⟨g, 0, none⟩)], 1⟩) rfl rfl rfl)) ?_
 refine zW (ι := List Int) (V := fun Xx => .agg (Xx.map (int .u8)).toArray) (R := fun Xx => Xx.length = 32 ∧ ((rBytes B n_.2 32).1.length = 32 → Xx = (rBytes B n_.2 32).1)) (H' := fun Xx => [⟨g3, 27, dV o_.1 n_.1 (List.replicate 32 (0 : Int)) (List.replicate 32 (0 : Int)) (slice none 0 0), 67⟩, ⟨g2, 27, zV, 67⟩, (rE95 g A m c ((rBytes B n_.2 32).2))]) (qA rfl) rfl enters64 rfl rfl (fun w hs => (hash_s g A m c n_.2 w (hs.has ((rE95 g A m c n_.2)) (by simp)) (by omega) (by omega) (by omega) B (hX.at_ hs (fun b hb hbX => (qV (qE (by show g1 ≠ b; omega) qF) (qE (by show g3 ≠ b; omega) (qE (by show g2 ≠ b; omega) (qE (fun h => hbX g (by simp) h.symm) qF)))))) hBB hrin_ hm).mono fun e w' ⟨X, he, h1, h2, hw⟩ => ⟨X, he, ⟨h1, h2⟩, qi (i := 3) (e := (rE95 g A m c ((rBytes B n_.2 32).2))) hs rfl rfl hw⟩) (fun Xx ⟨hXx32, hXxe⟩ => ?_)
 have hrix_ := rBytes_ri (n := 32) hrin_
 generalize hx_ : rBytes B n_.2 32 = x_ at hrix_ hXxe ⊢
 have hkx_ : x_.2.k ≤ m := by have := hrix_.1; omega
 refine qz (qA rfl) rfl (fun _ => zE rfl Tryz.underlying27 rfl size24 rfl (off' := 2) (by first | rfl | omega)) ?_
 refine zW (ι := List Int) (V := fun Xy => .agg (Xy.map (int .u8)).toArray) (R := fun Xy => Xy.length = 32 ∧ ((rBytes B x_.2 32).1.length = 32 → Xy = (rBytes B x_.2 32).1)) (H' := fun Xy => [⟨g3, 27, dV o_.1 n_.1 (List.replicate 32 (0 : Int)) (List.replicate 32 (0 : Int)) (slice none 0 0), 67⟩, ⟨g2, 27, zV, 67⟩, (rE95 g A m c ((rBytes B x_.2 32).2))]) (qA rfl) rfl enters64 rfl rfl (fun w hs => (hash_s g A m c x_.2 w (hs.has ((rE95 g A m c x_.2)) (by simp)) (by omega) (by omega) (by omega) B (hX.at_ hs (fun b hb hbX => (qV (qE (by show g1 ≠ b; omega) qF) (qE (by show g3 ≠ b; omega) (qE (by show g2 ≠ b; omega) (qE (fun h => hbX g (by simp) h.symm) qF)))))) hBB hrix_ hm).mono fun e w' ⟨X, he, h1, h2, hw⟩ => ⟨X, he, ⟨h1, h2⟩, qi (i := 3) (e := (rE95 g A m c ((rBytes B x_.2 32).2))) hs rfl rfl hw⟩) (fun Xy ⟨hXy32, hXye⟩ => ?_)
 have hriy_ := rBytes_ri (n := 32) hrix_
 generalize hy_ : rBytes B x_.2 32 = y_ at hriy_ hXye ⊢
 have hky_ : y_.2.k ≤ m := by have := hriy_.1; omega
 refine TP.storeN (qA rfl) rfl rfl size24 rfl (vs := Xx.map (int .u8)) rfl (by simp [hXx32]) qb (i := 1) (ent := ⟨g3, 27, dV o_.1 n_.1 (List.replicate 32 (0 : Int)) (List.replicate 32 (0 : Int)) (slice none 0 0), 67⟩) rfl rfl (by simp [hXx32]) (cs' := dV o_.1 n_.1 Xx (List.replicate 32 (0 : Int)) (slice none 0 0)) (seg_store (by simp [hXx32]) (by simp [hXx32])) (H' := [⟨g3, 27, dV o_.1 n_.1 Xx (List.replicate 32 (0 : Int)) (slice none 0 0), 67⟩, ⟨g2, 27, zV, 67⟩, (rE95 g A m c y_.2)]) rfl ?_
 refine qz (qA rfl) rfl (fun _ => zE rfl Tryz.underlying27 rfl size24 rfl (off' := 34) (by first | rfl | omega)) ?_
 refine TP.storeN (qA rfl) rfl rfl size24 rfl (vs := Xy.map (int .u8)) rfl (by simp [hXy32]) qb (i := 1) (ent := ⟨g3, 27, dV o_.1 n_.1 Xx (List.replicate 32 (0 : Int)) (slice none 0 0), 67⟩) rfl rfl (by simp [hXx32, hXy32]) (cs' := dV o_.1 n_.1 Xx Xy (slice none 0 0)) (seg_store2 (by simp [hXx32, hXy32]) (by simp [hXx32, hXy32])) (H' := [⟨g3, 27, dV o_.1 n_.1 Xx Xy (slice none 0 0), 67⟩, ⟨g2, 27, zV, 67⟩, (rE95 g A m c y_.2)]) rfl ?_
 refine TP.nil ?_
 refine zU (H' := [⟨g1, 64, [Value.pointer (some ⟨g, 0, none⟩)], 1⟩, ⟨g3, 27, dV o_.1 n_.1 Xx Xy (slice none 0 0), 67⟩, ⟨g2, 27, zV, 67⟩, (rE95 g A m c y_.2)]) (fun w h => h) ?_
 refine gx ?_
 refine qC [1, 2, 3] ?_
 refine gx ?_
 refine qe (H' := [⟨g1, 64, [Value.pointer (some ⟨g, 0, none⟩)], 1⟩] ++ ([⟨g3, 27, dV o_.1 n_.1 Xx Xy (slice none 0 0), 67⟩, ⟨g2, 27, zV, 67⟩, (rE95 g A m c y_.2)])) (fun w h => h) ?_
 refine TC.mixB (HB := [Ent.mk g1 64 ([Value.pointer (some ⟨g, 0, none⟩)]) 1]) (H := [Ent.mk g3 27 (dV o_.1 n_.1 Xx Xy (slice none 0 0)) 67, Ent.mk g2 27 (zV) 67, Ent.mk g 95 ([slice A m c, int .i64 (y_.2.k : Int), int .i64 y_.2.co, int .i64 y_.2.po]) 4]) (by kernel_rfl) [0, 0, 0, 3, 0, 3, 0, 8] [0, 1, 2, 3, 4, 5, 6, 7] (by kernel_rfl) ?_
 refine zO (qA rfl) rfl (fun H' => qg rfl agg64 size64 rfl (vs := [Value.pointer (some ⟨g, 0, none⟩)]) (by simp []) (qQ (i := 0) (ent := ⟨g1, 64, [Value.pointer (some ⟨g, 0, none⟩)], 1⟩) rfl rfl rfl)) ?_
 refine qz (qA rfl) rfl (fun _ => zE rfl Tryz.underlying64 rfl size50 rfl (off' := 0) (by first | rfl | omega)) ?_
 refine zO (qA rfl) rfl (fun H' => qS rfl agg50 rfl (qZ (i := 0) (ent := ⟨g1, 64, [Value.pointer (some ⟨g, 0, none⟩)], 1⟩) (off := 0) rfl rfl (by exact rfl))) ?_
 refine zW (ι := Unit) (V := fun _ => .int .u64 ((rUint B y_.2 4).1)) (R := fun _ => True) (H' := fun _ => [⟨g3, 27, dV o_.1 n_.1 Xx Xy (slice none 0 0), 67⟩, ⟨g2, 27, zV, 67⟩, (rE95 g A m c ((rUint B y_.2 4).2))]) (qA rfl) rfl enters20 rfl rfl (fun w hs => (wuint_s g A m c y_.2 4 (by omega) w (hs.has ((rE95 g A m c y_.2)) (by simp)) (by omega) (by omega) (by omega) B (hX.at_ hs (fun b hb hbX => (qV (qE (by show g1 ≠ b; omega) qF) (qE (by show g3 ≠ b; omega) (qE (by show g2 ≠ b; omega) (qE (fun h => hbX g (by simp) h.symm) qF)))))) hBB).mono fun e w' ⟨he, hw⟩ => ⟨(), he, trivial, qi (i := 3) (e := (rE95 g A m c ((rUint B y_.2 4).2))) hs rfl rfl hw⟩) (fun _ _ => ?_)
 have hvc_ := rUint_val4 hBB y_.2
 have hric_ := rUint_ri (n := 4) hriy_
 generalize hc_ : rUint B y_.2 4 = c_ at hvc_ hric_ ⊢
 have hkc_ : c_.2.k ≤ m := by have := hric_.1; omega
 refine qz (qA rfl) rfl (fun _ => qt rfl Tryz.underlying37 Tryz.underlying3 rfl (r := c_.1) (w64 rfl (by omega))) ?_
 refine zW (ι := (Option Addr × Nat × Nat) × List CV × List Ent) (V := fun y => .slice y.1.1 y.1.2.1 y.1.2.2) (R := fun y => (y.1.2.1 ≤ y.1.2.2 ∧ y.1.2.2 ≤ 9223372036854775807) ∧ OwnD w.heap.size y.1.1 y.1.2.1 y.2.1 y.2.2 ∧ ((rIter B c_.2 c_.1.toNat).2.co = 0 → y.2.1.map cmC = (rIter B c_.2 c_.1.toNat).1 ∧ y.2.1.length = y.1.2.1)) (H' := fun y => [⟨g3, 27, dV o_.1 n_.1 Xx Xy (slice none 0 0), 67⟩, ⟨g2, 27, zV, 67⟩, (rE95 g A m c ((rIter B c_.2 c_.1.toNat).2))] ++ y.2.2) (qA rfl) rfl enters65 rfl rfl (fun w hs => (commands_s g A m c c_.2 c_.1 (by omega) w (hs.has ((rE95 g A m c c_.2)) (by simp)) (by omega) (by omega) (by omega) B (hX.at_ hs (fun b hb hbX => (qV (qE (by show g1 ≠ b; omega) qF) (qE (by show g3 ≠ b; omega) (qE (by show g2 ≠ b; omega) (qE (fun h => hbX g (by simp) h.symm) qF)))))) hBB hric_ hm).mono fun e w' ⟨A1, m1, c1, Es, He, he, hc, ho, hE, hw⟩ => ⟨((A1, m1, c1), Es, He), he, ⟨hc, ho.mono hs.size, hE⟩, (St.turnE (i := 3) (e := (rE95 g A m c ((rIter B c_.2 c_.1.toNat).2))) hs rfl rfl hw ho.1)⟩) (fun y hR => ?_)
 obtain ⟨⟨Al, ml, cl⟩, El, Hl⟩ := y
 dsimp only at hR ⊢
 obtain ⟨hcl, hol, hEl⟩ := hR
 have hril_ := rIter_ri hric_ c_.1.toNat
 generalize hl_ : rIter B c_.2 c_.1.toNat = l_ at hEl hril_ ⊢
 have hkl_ : l_.2.k ≤ m := by have := hril_.1; omega
 have hFl : Fresh w Hl := hol.1
 refine qz (qA rfl) rfl (fun _ => zE rfl Tryz.underlying27 rfl size25 rfl (off' := 66) (by first | rfl | omega)) ?_
 refine TP.store1 (qA rfl) rfl rfl size25 rfl rfl rfl (i := 1) rfl rfl (by simp [hXx32, hXy32] <;> omega) (cs' := dV o_.1 n_.1 Xx Xy (slice Al ml cl)) (set_right (a := 2) (i := 64) (rfl) (set_right (a := 32) (i := 32) (ints_len hXx32) (set_right (a := 32) (i := 0) (ints_len hXy32) (rfl)))) (H' := [⟨g3, 27, dV o_.1 n_.1 Xx Xy (slice Al ml cl), 67⟩, ⟨g2, 27, zV, 67⟩, (rE95 g A m c l_.2)] ++ Hl) rfl ?_
 refine TP.nil ?_
 refine zU (H' := [⟨g1, 64, [Value.pointer (some ⟨g, 0, none⟩)], 1⟩, ⟨g3, 27, dV o_.1 n_.1 Xx Xy (slice Al ml cl), 67⟩, ⟨g2, 27, zV, 67⟩, (rE95 g A m c l_.2)] ++ Hl) (fun w h => h) ?_
 refine gx ?_
 refine qC [1, 2, 3] ?_
 iterate 5 refine gx ?_
 refine qM (qA rfl) rfl enters66 rfl rfl (v := .int .i64 ((m : Int) - (l_.2.k : Int))) (fun w hs => rest_c g A m c l_.2.k l_.2.co l_.2.po w (hs.has ((rE95 g A m c l_.2)) (by simp)) (by omega) (by omega) (by omega)) ?_
 iterate 3 refine gx ?_
 refine qX rfl (fun h0 => ?_) (fun h0 => ?_)
 ·refine qe (H' := [⟨g1, 64, [Value.pointer (some ⟨g, 0, none⟩)], 1⟩] ++ ([⟨g3, 27, dV o_.1 n_.1 Xx Xy (slice Al ml cl), 67⟩, ⟨g2, 27, zV, 67⟩, (rE95 g A m c l_.2)] ++ Hl)) (fun w h => h) ?_
  refine TC.mixB (HB := [Ent.mk g1 64 ([Value.pointer (some ⟨g, 0, none⟩)]) 1]) (H := [Ent.mk g3 27 (dV o_.1 n_.1 Xx Xy (slice Al ml cl)) 67, Ent.mk g2 27 (zV) 67, Ent.mk g 95 ([slice A m c, int .i64 (l_.2.k : Int), int .i64 l_.2.co, int .i64 l_.2.po]) 4] ++ Hl) (by kernel_rfl) [0, 0, 0, 0, 3, 3] [0, 1, 2, 3, 4, 5] (by kernel_rfl) ?_
  refine qz (qA rfl) rfl (fun _ => zE rfl Tryz.underlying64 rfl size50 rfl (off' := 0) (by first | rfl | omega)) ?_
  refine zO (qA rfl) rfl (fun H' => qS rfl agg50 rfl (qZ (i := 0) (ent := ⟨g1, 64, [Value.pointer (some ⟨g, 0, none⟩)], 1⟩) (off := 0) rfl rfl (by exact rfl))) ?_
  refine qz (qA rfl) rfl (fun _ => zE rfl Tryz.underlying64 rfl size50 rfl (off' := 0) (by first | rfl | omega)) ?_
  refine zO (qA rfl) rfl (fun H' => qS rfl agg50 rfl (qZ (i := 0) (ent := ⟨g1, 64, [Value.pointer (some ⟨g, 0, none⟩)], 1⟩) (off := 0) rfl rfl (by exact rfl))) ?_
  refine TP.call0 (qA rfl) rfl enters52 rfl rfl (v := .int .i64 (l_.2.k : Int)) (fun w hs => at_c g A m c l_.2.k l_.2.co l_.2.po w (hs.has ((rE95 g A m c l_.2)) (by simp))) ?_
  refine zW (ι := Unit) (V := fun _ => .tuple #[]) (R := fun _ => True) (H' := fun _ => [⟨g3, 27, dV o_.1 n_.1 Xx Xy (slice Al ml cl), 67⟩, ⟨g2, 27, zV, 67⟩, (rE95 g A m c (rFail l_.2 12 (l_.2.k : Int)))] ++ Hl) (qA rfl) rfl enters51 rfl rfl (fun w hs => (wfail_s g A m c l_.2 12 (l_.2.k : Int) (by decide) w (hs.has ((rE95 g A m c l_.2)) (by simp))).mono fun e w' ⟨he, hw⟩ => ⟨(), he, trivial, qi (i := 3) (e := (rE95 g A m c (rFail l_.2 12 (l_.2.k : Int)))) hs rfl rfl hw⟩) (fun _ _ => ?_)
  refine TP.nil ?_
  refine zU (H' := [⟨g1, 64, [Value.pointer (some ⟨g, 0, none⟩)], 1⟩, ⟨g3, 27, dV o_.1 n_.1 Xx Xy (slice Al ml cl), 67⟩, ⟨g2, 27, zV, 67⟩, (rE95 g A m c (rFail l_.2 12 (l_.2.k : Int)))] ++ Hl) (fun w h => h) ?_
  refine gx ?_
  refine qC [2, 3] ?_
  iterate 2 refine gx ?_
  refine qB (qA rfl) rfl (qg rfl agg27 size27 rfl (vs := dV o_.1 n_.1 Xx Xy (slice Al ml cl)) (by simp [hXx32, hXy32]) (qQ (i := 1) (ent := ⟨g3, 27, dV o_.1 n_.1 Xx Xy (slice Al ml cl), 67⟩) rfl rfl rfl)) ?_
  refine qn (qA rfl) rfl rfl size27 rfl (vs := dV o_.1 n_.1 Xx Xy (slice Al ml cl)) rfl (by simp [hXx32, hXy32]) (qa (by simp [Value.oneCell']) (qa qb (qa qb (by simp [Value.oneCell'])))) (i := 2) (ent := ⟨g2, 27, zV, 67⟩) rfl rfl (by simp []) (H' := [⟨g1, 64, [Value.pointer (some ⟨g, 0, none⟩)], 1⟩, ⟨g3, 27, dV o_.1 n_.1 Xx Xy (slice Al ml cl), 67⟩, ⟨g2, 27, dV o_.1 n_.1 Xx Xy (slice Al ml cl), 67⟩, (rE95 g A m c (rFail l_.2 12 (l_.2.k : Int)))] ++ Hl) rfl ?_
  iterate 3 refine gx ?_
  have hqx : extraF B l_.2 = (rFail l_.2 12 (l_.2.k : Int)) := extraF_fail (by omega)
  have hdf : decF B z_.2 = ⟨o_.1, n_.1, x_.1, y_.1, l_.1, (rFail l_.2 12 (l_.2.k : Int))⟩ := by unfold decF; dsimp only; rw [ho_, hn_, hx_, hy_, hc_, hl_, hqx]
  have hlk := dec_link hBB he1 hz_ hdf
  exact qu rfl agg27 size27 rfl (vs := dV o_.1 n_.1 Xx Xy (slice Al ml cl)) (by simp [hXx32, hXy32]) (qQ (i := 2) (ent := ⟨g2, 27, dV o_.1 n_.1 Xx Xy (slice Al ml cl), 67⟩) rfl rfl rfl) (fun w hs => ⟨o_.1, n_.1, Xx, Xy, Al, ml, cl, El, Hl, (rFail l_.2 12 (l_.2.k : Int)), rfl, hXx32, hXy32, hcl, hol, fun h0 => by have hbk := rDec_back hBB h0; have e9 := hlk.2 h0; rw [e9] at hbk h0 ⊢; rw [← hqx] at h0; have hla := (extraF_back h0).1; exact ⟨rfl, rfl, hXxe hbk.2.2.1, hXye hbk.2.2.2.1, (hEl hla).1, (hEl hla).2⟩, hlk.1, (((hs.erase (i := 2) rfl (by assumption)).erase (i := 1) rfl (by assumption)).erase (i := 0) rfl (by assumption))⟩)
 ·iterate 4 refine gx ?_
  refine qB (qA rfl) rfl (qg rfl agg27 size27 rfl (vs := dV o_.1 n_.1 Xx Xy (slice Al ml cl)) (by simp [hXx32, hXy32]) (qQ (i := 1) (ent := ⟨g3, 27, dV o_.1 n_.1 Xx Xy (slice Al ml cl), 67⟩) rfl rfl rfl)) ?_
  refine qn (qA rfl) rfl rfl size27 rfl (vs := dV o_.1 n_.1 Xx Xy (slice Al ml cl)) rfl (by simp [hXx32, hXy32]) (qa (by simp [Value.oneCell']) (qa qb (qa qb (by simp [Value.oneCell'])))) (i := 2) (ent := ⟨g2, 27, zV, 67⟩) rfl rfl (by simp []) (H' := [⟨g1, 64, [Value.pointer (some ⟨g, 0, none⟩)], 1⟩, ⟨g3, 27, dV o_.1 n_.1 Xx Xy (slice Al ml cl), 67⟩, ⟨g2, 27, dV o_.1 n_.1 Xx Xy (slice Al ml cl), 67⟩, (rE95 g A m c l_.2)] ++ Hl) rfl ?_
  iterate 3 refine gx ?_
  have hqx : extraF B l_.2 = l_.2 := extraF_F (fun h => by have := h.2; omega)
  have hdf : decF B z_.2 = ⟨o_.1, n_.1, x_.1, y_.1, l_.1, l_.2⟩ := by unfold decF; dsimp only; rw [ho_, hn_, hx_, hy_, hc_, hl_, hqx]
  have hlk := dec_link hBB he1 hz_ hdf
  exact qu rfl agg27 size27 rfl (vs := dV o_.1 n_.1 Xx Xy (slice Al ml cl)) (by simp [hXx32, hXy32]) (qQ (i := 2) (ent := ⟨g2, 27, dV o_.1 n_.1 Xx Xy (slice Al ml cl), 67⟩) rfl rfl rfl) (fun w hs => ⟨o_.1, n_.1, Xx, Xy, Al, ml, cl, El, Hl, l_.2, rfl, hXx32, hXy32, hcl, hol, fun h0 => by have hbk := rDec_back hBB h0; have e9 := hlk.2 h0; rw [e9] at hbk h0 ⊢; rw [← hqx] at h0; have hla := (extraF_back h0).1; exact ⟨rfl, rfl, hXxe hbk.2.2.1, hXye hbk.2.2.2.1, (hEl hla).1, (hEl hla).2⟩, hlk.1, (((hs.erase (i := 2) rfl (by assumption)).erase (i := 1) rfl (by assumption)).erase (i := 0) rfl (by assumption))⟩)
/-
 The code of layer 7: Decode.
-/
theorem enters19 : Enters Tryz.prog 19 := ⟨_, Tryz.func19, by kernel_rfl, by kernel_rfl⟩
theorem enters27 : Enters Tryz.prog 27 := ⟨_, Tryz.func27, by kernel_rfl, by kernel_rfl⟩
theorem zero64 : (Tryz.prog.info? 64).bind (·.zero) = some (.agg #[.pointer none]) := by kernel_rfl
instance : AgY Tryz.prog 30 := ⟨agg30⟩
instance : Zer Tryz.prog 64 [Value.pointer none] := ⟨⟨_, zero64, rfl⟩⟩
theorem fdec_bad (B : List Int) (A : Option Addr) (m c : Nat) (w : World) (hsB : Src w A m .u8 B) (hBB : Bytes B) (hmc : m ≤ c) (hcm : c ≤ 9223372036854775807) (hm : m ≤ 100000) (hco : (rDec B).s.co ≠ 0) : Calls Tryz.prog 12 #[.slice A m c] w fun e w' => e = .returned (.tuple #[.agg (zV).toArray, .agg ([int .i64 ((rDec B).s.co), int .i64 ((rDec B).s.po)]).toArray]) ∧ St w [] w' := by
 refine qL (args := [.slice A m c]) Tryz.func12 rfl Tryz.ntmps12 (by simp) ?_
 refine qC [0] ?_
 iterate 2 refine gx ?_
 refine zB (qA rfl) rfl rfl zero27 (cs := zV) (by first | rfl | kernel_rfl) (tot := 67) (by simp) (fun g1 hg1 => ?_)
 refine qc (fun g2 hg2 => ?_)
 iterate 5 refine gx ?_
 refine qY (ι := Nat × (Option Addr × Nat) × List Ent) (V := fun y => .pointer (some ⟨y.1, 0, none⟩)) (R := fun y => Own w.heap.size 5 .u8 (.slice y.2.1.1 m y.2.1.2) B y.2.2 ∧ w.heap.size ≤ y.1) (H' := fun y => (⟨y.1, 95, rdC y.2.1.1 m y.2.1.2 0 0 0, rdN⟩ : Ent) :: [⟨g2, 30, [int .i64 0, int .i64 0], 2⟩, ⟨g1, 27, zV, 67⟩] ++ y.2.2) (qA rfl) rfl enters19 rfl rfl (fun w' hs => (newq_c B A m c w' (hsB.at_ hs (fun b hb => (qE (by show g2 ≠ b; omega) (qE (by show g1 ≠ b; omega) qF)))) (by omega) (by omega)).mono fun e w'' ⟨g, A', c', He, he, ho, hg, hw⟩ => ⟨(g, (A', c'), He), he, ⟨own_mono ho hs.size, Nat.le_trans hs.size hg⟩, (st_call hs hw (qx (w0 := w') hg ho.new)).perm List.perm_middle⟩) (fun y hR => ?_)
 obtain ⟨gr, ⟨AN, cN⟩, HN⟩ := y
 obtain ⟨hON, hgr⟩ := hR
 dsimp only at hON hgr ⊢
 obtain ⟨hcN, hdN⟩ : m ≤ cN ∧ cN ≤ 9223372036854775807 := by obtain ⟨_, _, h1, h2, h3⟩ := hON.form; cases h1; exact ⟨by omega, h3⟩
 have hFN : Fresh w HN := hON.fr7
 refine qB (qA rfl) rfl (qm rfl (vs := [(0, Value.pointer (some ⟨gr, 0, none⟩))]) rfl (fun w => by first | rfl | kernel_rfl) (v := .agg ([Value.pointer (some ⟨gr, 0, none⟩)]).toArray)) ?_
 refine qc (fun g3 hg3 => ?_)
 refine qn (qA rfl) rfl rfl size64 rfl (vs := [Value.pointer (some ⟨gr, 0, none⟩)]) rfl (by simp []) (by simp [Value.oneCell']) (i := 0) (ent := ⟨g3, 64, [Value.pointer none], 1⟩) rfl rfl (by simp []) (H' := [⟨g3, 64, [Value.pointer (some ⟨gr, 0, none⟩)], 1⟩, ⟨gr, 95, [slice AN m cN, int .i64 0, int .i64 0, int .i64 0], 4⟩, ⟨g2, 30, [int .i64 0, int .i64 0], 2⟩, ⟨g1, 27, zV, 67⟩] ++ HN) rfl ?_
 iterate 5 refine gx ?_
 refine qY (ι := ((Int × Int) × List Int × List Int) × (Option Addr × Nat × Nat) × List CV × List Ent × RS) (V := fun y => .agg (dV y.1.1.1 y.1.1.2 y.1.2.1 y.1.2.2 (slice y.2.1.1 y.2.1.2.1 y.2.1.2.2)).toArray) (R := fun y => y.1.2.1.length = 32 ∧ y.1.2.2.length = 32 ∧ (y.2.1.2.1 ≤ y.2.1.2.2 ∧ y.2.1.2.2 ≤ 9223372036854775807) ∧ OwnD w.heap.size y.2.1.1 y.2.1.2.1 y.2.2.1 y.2.2.2.1 ∧ ((rDec B).s.co = 0 → y.1.1.1 = (rDec B).o ∧ y.1.1.2 = (rDec B).n ∧ y.1.2.1 = (rDec B).h1 ∧ y.1.2.2 = (rDec B).h2 ∧ y.2.2.1.map cmC = (rDec B).Cs ∧ y.2.2.1.length = y.2.1.2.1) ∧ (y.2.2.2.2.co = (rDec B).s.co ∧ y.2.2.2.2.po = (rDec B).s.po)) (H' := fun y => ([⟨g3, 64, [Value.pointer (some ⟨gr, 0, none⟩)], 1⟩, ⟨gr, 95, rdC AN m cN y.2.2.2.2.k y.2.2.2.2.co y.2.2.2.2.po, rdN⟩, ⟨g2, 30, [int .i64 0, int .i64 0], 2⟩, ⟨g1, 27, zV, 67⟩] : List Ent) ++ (HN ++ y.2.2.2.1)) (qA rfl) rfl enters27 rfl rfl (fun w' hs => (delta_s gr AN m cN w' (hs.has (⟨gr, 95, [slice AN m cN, int .i64 0, int .i64 0, int .i64 0], 4⟩) (by simp)) (by omega) (by omega) B (hON.srcX (fun e he => hs.has e (by simp [he])) (fun e he x hx => by rw [List.mem_singleton.1 hx]; exact hs.beside (H := [⟨g3, 64, [Value.pointer (some ⟨gr, 0, none⟩)], 1⟩, ⟨gr, 95, [slice AN m cN, int .i64 0, int .i64 0, int .i64 0], 4⟩, ⟨g2, 30, [int .i64 0, int .i64 0], 2⟩, ⟨g1, 27, zV, 67⟩]) (d := ⟨gr, 95, [slice AN m cN, int .i64 0, int .i64 0, int .i64 0], 4⟩) (by simp) e he)) hBB (by omega)).mono fun e w'' ⟨o', n', X, Y, A1, m1, c1, Es, He, q, he, h1, h2, h3, h4, h5, h6, hw⟩ => ⟨(((o', n'), X, Y), (A1, m1, c1), Es, He, q), he, ⟨h1, h2, h3, h4.mono hs.size, h5, h6⟩, (St.assoc3 (X := ([⟨g3, 64, [Value.pointer (some ⟨gr, 0, none⟩)], 1⟩, ⟨gr, 95, rdC AN m cN q.k q.co q.po, rdN⟩, ⟨g2, 30, [int .i64 0, int .i64 0], 2⟩, ⟨g1, 27, zV, 67⟩] : List Ent)) (Y := HN) (St.turnE (i := 1) (e := ⟨gr, 95, rdC AN m cN q.k q.co q.po, rdN⟩) hs rfl rfl hw h4.1))⟩) (fun y hR => ?_)
 obtain ⟨⟨⟨oD, nD⟩, XD, YD⟩, ⟨AD, mD, cD⟩, ED, HD, qD⟩ := y
 obtain ⟨hXD, hYD, hcD, hoD, hvD, hqD⟩ := hR
 dsimp only at hXD hYD hcD hoD hvD hqD ⊢
 have hFD : Fresh w HD := hoD.1
 have hFND := zZ hFN hFD
 refine zB (qA rfl) rfl rfl zero27 (cs := zV) (by first | rfl | kernel_rfl) (tot := 67) (by simp) (fun g4 hg4 => ?_)
 refine qn (qA rfl) rfl rfl size27 rfl (vs := dV oD nD XD YD (slice AD mD cD)) rfl (by simp [hXD, hYD]) (qa (by simp [Value.oneCell']) (qa qb (qa qb (by simp [Value.oneCell'])))) (i := 0) (ent := ⟨g4, 27, zV, 67⟩) rfl rfl (by simp []) (H' := [⟨g4, 27, dV oD nD XD YD (slice AD mD cD), 67⟩, ⟨g3, 64, [Value.pointer (some ⟨gr, 0, none⟩)], 1⟩, (rE95 gr AN m cN qD), ⟨g2, 30, [int .i64 0, int .i64 0], 2⟩, ⟨g1, 27, zV, 67⟩] ++ (HN ++ HD)) rfl ?_
 iterate 2 refine gx ?_
 refine qC [2, 3, 4, 5] ?_
 iterate 5 refine gx ?_
 refine qM (qA rfl) rfl enters28 rfl rfl (v := .agg ([int .i64 qD.co, int .i64 qD.po]).toArray) (fun w hs => fault_c gr AN m cN qD.k qD.co qD.po w (hs.has ((rE95 gr AN m cN qD)) (by simp))) ?_
 refine qc (fun g5 hg5 => ?_)
 refine qn (qA rfl) rfl rfl size30 rfl (vs := [int .i64 qD.co, int .i64 qD.po]) rfl (by simp []) (by simp [Value.oneCell']) (i := 0) (ent := ⟨g5, 30, [int .i64 0, int .i64 0], 2⟩) rfl rfl (by simp []) (H' := [⟨g5, 30, [int .i64 qD.co, int .i64 qD.po], 2⟩, ⟨g4, 27, dV oD nD XD YD (slice AD mD cD), 67⟩, ⟨g3, 64, [Value.pointer (some ⟨gr, 0, none⟩)], 1⟩, (rE95 gr AN m cN qD), ⟨g2, 30, [int .i64 0, int .i64 0], 2⟩, ⟨g1, 27, zV, 67⟩] ++ (HN ++ HD)) rfl ?_
 iterate 5 refine gx ?_
 refine qB (qA rfl) rfl (qm rfl (vs := []) rfl (fun w => by first | rfl | kernel_rfl) (v := .agg ([int .i64 0, int .i64 0]).toArray)) ?_
 refine qB (qA rfl) rfl (qP (Gets.pairNe rfl Tryz.underlying30 (by decide) (by decide) rfl rfl Tryz.underlying28 Tryz.underlying3 sih30 geq30 rfl rfl) (fun h => hco (by rw [← hqD.1]; exact h.1))) ?_
 iterate 2 refine gx ?_
 refine qC [2, 3, 5, 6, 17] ?_
 refine qd rfl ?_
 refine gx ?_
 refine qe (H' := [⟨g5, 30, [int .i64 qD.co, int .i64 qD.po], 2⟩] ++ ([⟨g4, 27, dV oD nD XD YD (slice AD mD cD), 67⟩, ⟨g3, 64, [Value.pointer (some ⟨gr, 0, none⟩)], 1⟩, (rE95 gr AN m cN qD), ⟨g2, 30, [int .i64 0, int .i64 0], 2⟩, ⟨g1, 27, zV, 67⟩] ++ (HN ++ HD))) (fun w h => h) ?_
 refine TC.mixB (HB := [Ent.mk g5 30 ([int .i64 qD.co, int .i64 qD.po]) 2]) (H := [Ent.mk g4 27 (dV oD nD XD YD (slice AD mD cD)) 67, Ent.mk g3 64 ([Value.pointer (some ⟨gr, 0, none⟩)]) 1, Ent.mk gr 95 ([slice AN m cN, int .i64 (qD.k : Int), int .i64 qD.co, int .i64 qD.po]) 4, Ent.mk g2 30 ([int .i64 0, int .i64 0]) 2, Ent.mk g1 27 (zV) 67] ++ (HN ++ HD)) (by kernel_rfl) [0, 0, 8, 8] [0, 1, 2, 3] (by kernel_rfl) ?_
 refine qz (qA rfl) rfl (fun _ => qm rfl (vs := []) rfl (fun w => by first | rfl | kernel_rfl) (v := .agg (zV).toArray)) ?_
 refine zO (qA rfl) rfl (fun H' => qg rfl agg30 size30 rfl (vs := [int .i64 qD.co, int .i64 qD.po]) (by simp []) (qQ (i := 0) (ent := ⟨g5, 30, [int .i64 qD.co, int .i64 qD.po], 2⟩) rfl rfl rfl)) ?_
 refine TP.storeW (qA rfl) rfl rfl size27 rfl (vs := zV) rfl (by simp []) (qa (by simp [Value.oneCell']) (qa qb (qa qb (by simp [Value.oneCell'])))) (i := 5) (ent := ⟨g1, 27, zV, 67⟩) rfl rfl (by simp []) (H' := [⟨g4, 27, dV oD nD XD YD (slice AD mD cD), 67⟩, ⟨g3, 64, [Value.pointer (some ⟨gr, 0, none⟩)], 1⟩, (rE95 gr AN m cN qD), ⟨g2, 30, [int .i64 0, int .i64 0], 2⟩, ⟨g1, 27, zV, 67⟩] ++ (HN ++ HD)) rfl ?_
 refine TP.storeW (qA rfl) rfl rfl size30 rfl (vs := [int .i64 qD.co, int .i64 qD.po]) rfl (by simp []) (by simp [Value.oneCell']) (i := 4) (ent := ⟨g2, 30, [int .i64 0, int .i64 0], 2⟩) rfl rfl (by simp []) (H' := [⟨g4, 27, dV oD nD XD YD (slice AD mD cD), 67⟩, ⟨g3, 64, [Value.pointer (some ⟨gr, 0, none⟩)], 1⟩, (rE95 gr AN m cN qD), ⟨g2, 30, [int .i64 qD.co, int .i64 qD.po], 2⟩, ⟨g1, 27, zV, 67⟩] ++ (HN ++ HD)) rfl ?_
 refine TP.nil ?_
 refine zU (H' := [⟨g5, 30, [int .i64 qD.co, int .i64 qD.po], 2⟩, ⟨g4, 27, dV oD nD XD YD (slice AD mD cD), 67⟩, ⟨g3, 64, [Value.pointer (some ⟨gr, 0, none⟩)], 1⟩, (rE95 gr AN m cN qD), ⟨g2, 30, [int .i64 qD.co, int .i64 qD.po], 2⟩, ⟨g1, 27, zV, 67⟩] ++ (HN ++ HD)) (fun w h => h) ?_
 iterate 3 refine gx ?_
 obtain ⟨hq1, hq2⟩ := hqD
 exact TE.ret2CC rfl agg27 size27 agg30 size30 rfl (vs := zV) (by simp []) (qQ (i := 5) (ent := ⟨g1, 27, zV, 67⟩) rfl rfl rfl) rfl (us := [int .i64 qD.co, int .i64 qD.po]) rfl (qQ (i := 4) (ent := ⟨g2, 30, [int .i64 qD.co, int .i64 qD.po], 2⟩) rfl rfl rfl) (fun w hs => ⟨by rw [hq1, hq2], St.left (H := []) ((((((hs.drop (by assumption)).drop (by assumption)).drop (by assumption)).drop (by assumption)).drop (by assumption)).drop (by assumption)) hFND⟩)
theorem fdec_good (B : List Int) (A : Option Addr) (m c : Nat) (w : World) (hsB : Src w A m .u8 B) (hBB : Bytes B) (hmc : m ≤ c) (hcm : c ≤ 9223372036854775807) (hm : m ≤ 100000) (hco : (rDec B).s.co = 0) : Calls Tryz.prog 12 #[.slice A m c] w fun e w' => ∃ (A' : Option Addr) (c' : Nat) (Es : List CV) (He : List Ent), e = .returned (.tuple #[.agg ([int .i64 (rDec B).o, int .i64 (rDec B).n] ++ ((rDec B).h1.map (int .u8) ++ ((rDec B).h2.map (int .u8) ++ [slice A' (rDec B).Cs.length c']))).toArray, .agg ([int .i64 0, int .i64 0]).toArray]) ∧ ((rDec B).Cs.length ≤ c' ∧ c' ≤ 9223372036854775807) ∧ OwnD w.heap.size A' (rDec B).Cs.length Es He ∧ Es.map cmC = (rDec B).Cs ∧ St w He w' := by
 refine qL (args := [.slice A m c]) Tryz.func12 rfl Tryz.ntmps12 (by simp) ?_
 refine qC [0] ?_
 iterate 2 refine gx ?_
 refine zB (qA rfl) rfl rfl zero27 (cs := zV) (by first | rfl | kernel_rfl) (tot := 67) (by simp) (fun g1 hg1 => ?_)
 refine qc (fun g2 hg2 => ?_)
 iterate 5 refine gx ?_
 refine qY (ι := Nat × (Option Addr × Nat) × List Ent) (V := fun y => .pointer (some ⟨y.1, 0, none⟩)) (R := fun y => Own w.heap.size 5 .u8 (.slice y.2.1.1 m y.2.1.2) B y.2.2 ∧ w.heap.size ≤ y.1) (H' := fun y => (⟨y.1, 95, rdC y.2.1.1 m y.2.1.2 0 0 0, rdN⟩ : Ent) :: [⟨g2, 30, [int .i64 0, int .i64 0], 2⟩, ⟨g1, 27, zV, 67⟩] ++ y.2.2) (qA rfl) rfl enters19 rfl rfl (fun w' hs => (newq_c B A m c w' (hsB.at_ hs (fun b hb => (qE (by show g2 ≠ b; omega) (qE (by show g1 ≠ b; omega) qF)))) (by omega) (by omega)).mono fun e w'' ⟨g, A', c', He, he, ho, hg, hw⟩ => ⟨(g, (A', c'), He), he, ⟨own_mono ho hs.size, Nat.le_trans hs.size hg⟩, (st_call hs hw (qx (w0 := w') hg ho.new)).perm List.perm_middle⟩) (fun y hR => ?_)
 obtain ⟨gr, ⟨AN, cN⟩, HN⟩ := y
 obtain ⟨hON, hgr⟩ := hR
 dsimp only at hON hgr ⊢
 obtain ⟨hcN, hdN⟩ : m ≤ cN ∧ cN ≤ 9223372036854775807 := by obtain ⟨_, _, h1, h2, h3⟩ := hON.form; cases h1; exact ⟨by omega, h3⟩
 have hFN : Fresh w HN := hON.fr7
 refine qB (qA rfl) rfl (qm rfl (vs := [(0, Value.pointer (some ⟨gr, 0, none⟩))]) rfl (fun w => by first | rfl | kernel_rfl) (v := .agg ([Value.pointer (some ⟨gr, 0, none⟩)]).toArray)) ?_
 refine qc (fun g3 hg3 => ?_)
 refine qn (qA rfl) rfl rfl size64 rfl (vs := [Value.pointer (some ⟨gr, 0, none⟩)]) rfl (by simp []) (by simp [Value.oneCell']) (i := 0) (ent := ⟨g3, 64, [Value.pointer none], 1⟩) rfl rfl (by simp []) (H' := [⟨g3, 64, [Value.pointer (some ⟨gr, 0, none⟩)], 1⟩, ⟨gr, 95, [slice AN m cN, int .i64 0, int .i64 0, int .i64 0], 4⟩, ⟨g2, 30, [int .i64 0, int .i64 0], 2⟩, ⟨g1, 27, zV, 67⟩] ++ HN) rfl ?_
 iterate 5 refine gx ?_
 refine qY (ι := ((Int × Int) × List Int × List Int) × (Option Addr × Nat × Nat) × List CV × List Ent × RS) (V := fun y => .agg (dV y.1.1.1 y.1.1.2 y.1.2.1 y.1.2.2 (slice y.2.1.1 y.2.1.2.1 y.2.1.2.2)).toArray) (R := fun y => y.1.2.1.length = 32 ∧ y.1.2.2.length = 32 ∧ (y.2.1.2.1 ≤ y.2.1.2.2 ∧ y.2.1.2.2 ≤ 9223372036854775807) ∧ OwnD w.heap.size y.2.1.1 y.2.1.2.1 y.2.2.1 y.2.2.2.1 ∧ ((rDec B).s.co = 0 → y.1.1.1 = (rDec B).o ∧ y.1.1.2 = (rDec B).n ∧ y.1.2.1 = (rDec B).h1 ∧ y.1.2.2 = (rDec B).h2 ∧ y.2.2.1.map cmC = (rDec B).Cs ∧ y.2.2.1.length = y.2.1.2.1) ∧ (y.2.2.2.2.co = (rDec B).s.co ∧ y.2.2.2.2.po = (rDec B).s.po)) (H' := fun y => ([⟨g3, 64, [Value.pointer (some ⟨gr, 0, none⟩)], 1⟩, ⟨gr, 95, rdC AN m cN y.2.2.2.2.k y.2.2.2.2.co y.2.2.2.2.po, rdN⟩, ⟨g2, 30, [int .i64 0, int .i64 0], 2⟩, ⟨g1, 27, zV, 67⟩] : List Ent) ++ (HN ++ y.2.2.2.1)) (qA rfl) rfl enters27 rfl rfl (fun w' hs => (delta_s gr AN m cN w' (hs.has (⟨gr, 95, [slice AN m cN, int .i64 0, int .i64 0, int .i64 0], 4⟩) (by simp)) (by omega) (by omega) B (hON.srcX (fun e he => hs.has e (by simp [he])) (fun e he x hx => by rw [List.mem_singleton.1 hx]; exact hs.beside (H := [⟨g3, 64, [Value.pointer (some ⟨gr, 0, none⟩)], 1⟩, ⟨gr, 95, [slice AN m cN, int .i64 0, int .i64 0, int .i64 0], 4⟩, ⟨g2, 30, [int .i64 0, int .i64 0], 2⟩, ⟨g1, 27, zV, 67⟩]) (d := ⟨gr, 95, [slice AN m cN, int .i64 0, int .i64 0, int .i64 0], 4⟩) (by simp) e he)) hBB (by omega)).mono fun e w'' ⟨o', n', X, Y, A1, m1, c1, Es, He, q, he, h1, h2, h3, h4, h5, h6, hw⟩ => ⟨(((o', n'), X, Y), (A1, m1, c1), Es, He, q), he, ⟨h1, h2, h3, h4.mono hs.size, h5, h6⟩, (St.assoc3 (X := ([⟨g3, 64, [Value.pointer (some ⟨gr, 0, none⟩)], 1⟩, ⟨gr, 95, rdC AN m cN q.k q.co q.po, rdN⟩, ⟨g2, 30, [int .i64 0, int .i64 0], 2⟩, ⟨g1, 27, zV, 67⟩] : List Ent)) (Y := HN) (St.turnE (i := 1) (e := ⟨gr, 95, rdC AN m cN q.k q.co q.po, rdN⟩) hs rfl rfl hw h4.1))⟩) (fun y hR => ?_)
 obtain ⟨⟨⟨oD, nD⟩, XD, YD⟩, ⟨AD, mD, cD⟩, ED, HD, qD⟩ := y
 obtain ⟨hXD, hYD, hcD, hoD, hvD, hqD⟩ := hR
 dsimp only at hXD hYD hcD hoD hvD hqD ⊢
 have hFD : Fresh w HD := hoD.1
 have hFND := zZ hFN hFD
 refine zB (qA rfl) rfl rfl zero27 (cs := zV) (by first | rfl | kernel_rfl) (tot := 67) (by simp) (fun g4 hg4 => ?_)
 refine qn (qA rfl) rfl rfl size27 rfl (vs := dV oD nD XD YD (slice AD mD cD)) rfl (by simp [hXD, hYD]) (qa (by simp [Value.oneCell']) (qa qb (qa qb (by simp [Value.oneCell'])))) (i := 0) (ent := ⟨g4, 27, zV, 67⟩) rfl rfl (by simp []) (H' := [⟨g4, 27, dV oD nD XD YD (slice AD mD cD), 67⟩, ⟨g3, 64, [Value.pointer (some ⟨gr, 0, none⟩)], 1⟩, (rE95 gr AN m cN qD), ⟨g2, 30, [int .i64 0, int .i64 0], 2⟩, ⟨g1, 27, zV, 67⟩] ++ (HN ++ HD)) rfl ?_
 iterate 2 refine gx ?_
 refine qC [2, 3, 4, 5] ?_
 iterate 5 refine gx ?_
 refine qM (qA rfl) rfl enters28 rfl rfl (v := .agg ([int .i64 qD.co, int .i64 qD.po]).toArray) (fun w hs => fault_c gr AN m cN qD.k qD.co qD.po w (hs.has ((rE95 gr AN m cN qD)) (by simp))) ?_
 refine qc (fun g5 hg5 => ?_)
 refine qn (qA rfl) rfl rfl size30 rfl (vs := [int .i64 qD.co, int .i64 qD.po]) rfl (by simp []) (by simp [Value.oneCell']) (i := 0) (ent := ⟨g5, 30, [int .i64 0, int .i64 0], 2⟩) rfl rfl (by simp []) (H' := [⟨g5, 30, [int .i64 qD.co, int .i64 qD.po], 2⟩, ⟨g4, 27, dV oD nD XD YD (slice AD mD cD), 67⟩, ⟨g3, 64, [Value.pointer (some ⟨gr, 0, none⟩)], 1⟩, (rE95 gr AN m cN qD), ⟨g2, 30, [int .i64 0, int .i64 0], 2⟩, ⟨g1, 27, zV, 67⟩] ++ (HN ++ HD)) rfl ?_
 iterate 5 refine gx ?_
 refine qB (qA rfl) rfl (qm rfl (vs := []) rfl (fun w => by first | rfl | kernel_rfl) (v := .agg ([int .i64 0, int .i64 0]).toArray)) ?_
 refine qB (qA rfl) rfl (qU (Gets.pairNe rfl Tryz.underlying30 (by decide) (by decide) rfl rfl Tryz.underlying28 Tryz.underlying3 sih30 geq30 rfl rfl) (fun h => h ⟨hqD.1.trans hco, hqD.2.trans ((rDec_ri B).po0.2 hco).2⟩)) ?_
 iterate 2 refine gx ?_
 refine qC [2, 3, 5, 6, 17] ?_
 refine qW rfl ?_
 iterate 4 refine gx ?_
 refine qB (qA rfl) rfl (qg rfl agg27 size27 rfl (vs := dV oD nD XD YD (slice AD mD cD)) (by simp [hXD, hYD]) (qQ (i := 1) (ent := ⟨g4, 27, dV oD nD XD YD (slice AD mD cD), 67⟩) rfl rfl rfl)) ?_
 refine qB (qA rfl) rfl (qm rfl (vs := []) rfl (fun w => by first | rfl | kernel_rfl) (v := .agg ([int .i64 0, int .i64 0]).toArray)) ?_
 refine qn (qA rfl) rfl rfl size27 rfl (vs := dV oD nD XD YD (slice AD mD cD)) rfl (by simp [hXD, hYD]) (qa (by simp [Value.oneCell']) (qa qb (qa qb (by simp [Value.oneCell'])))) (i := 5) (ent := ⟨g1, 27, zV, 67⟩) rfl rfl (by simp []) (H' := [⟨g5, 30, [int .i64 qD.co, int .i64 qD.po], 2⟩, ⟨g4, 27, dV oD nD XD YD (slice AD mD cD), 67⟩, ⟨g3, 64, [Value.pointer (some ⟨gr, 0, none⟩)], 1⟩, (rE95 gr AN m cN qD), ⟨g2, 30, [int .i64 0, int .i64 0], 2⟩, ⟨g1, 27, dV oD nD XD YD (slice AD mD cD), 67⟩] ++ (HN ++ HD)) rfl ?_
 refine qn (qA rfl) rfl rfl size30 rfl (vs := [int .i64 0, int .i64 0]) rfl (by simp []) (by simp [Value.oneCell']) (i := 4) (ent := ⟨g2, 30, [int .i64 0, int .i64 0], 2⟩) rfl rfl (by simp []) (H' := [⟨g5, 30, [int .i64 qD.co, int .i64 qD.po], 2⟩, ⟨g4, 27, dV oD nD XD YD (slice AD mD cD), 67⟩, ⟨g3, 64, [Value.pointer (some ⟨gr, 0, none⟩)], 1⟩, (rE95 gr AN m cN qD), ⟨g2, 30, [int .i64 0, int .i64 0], 2⟩, ⟨g1, 27, dV oD nD XD YD (slice AD mD cD), 67⟩] ++ (HN ++ HD)) rfl ?_
 iterate 3 refine gx ?_
 obtain ⟨ho1, hn1, hX1, hY1, hE1, hm1⟩ := hvD hco
 subst ho1
 subst hn1
 subst hX1
 subst hY1
 have hm2 : mD = (rDec B).Cs.length := by rw [← hE1, List.length_map, hm1]
 subst hm2
 exact TE.ret2CC rfl agg27 size27 agg30 size30 rfl (vs := dV ((rDec B).o) ((rDec B).n) ((rDec B).h1) ((rDec B).h2) (slice AD (((rDec B).Cs.length)) cD)) (by simp [hXD, hYD]) (qQ (i := 5) (ent := ⟨g1, 27, dV ((rDec B).o) ((rDec B).n) ((rDec B).h1) ((rDec B).h2) (slice AD (((rDec B).Cs.length)) cD), 67⟩) rfl rfl rfl) rfl (us := [int .i64 0, int .i64 0]) rfl (qQ (i := 4) (ent := ⟨g2, 30, [int .i64 0, int .i64 0], 2⟩) rfl rfl rfl) (fun w hs => ⟨AD, cD, ED, HD, rfl, hcD, hoD, hE1, st_dm (A := []) (B := HN) (C := HD) ((((((hs.drop (by assumption)).drop (by assumption)).drop (by assumption)).drop (by assumption)).drop (by assumption)).drop (by assumption)) hFN⟩)
/-
 alive.
-/
theorem enters11 : Enters Tryz.prog 11 := ⟨_, Tryz.func11, by kernel_rfl, by kernel_rfl⟩
theorem enters12 : Enters Tryz.prog 12 := ⟨_, Tryz.func12, by kernel_rfl, by kernel_rfl⟩
theorem enters13 : Enters Tryz.prog 13 := ⟨_, Tryz.func13, by kernel_rfl, by kernel_rfl⟩
theorem enters7 : Enters Tryz.prog 7 := ⟨_, Tryz.func7, by kernel_rfl, by kernel_rfl⟩
theorem encD_ge {o n : Int} {H1 H2 : List Int} {Cs : List CM} (h1 : H1.length = 32) (h2 : H2.length = 32) : 89 ≤ (encD o n H1 H2 Cs).length := by
 unfold encD
 rw [List.length_append, List.length_append, List.length_append, List.length_append, List.length_append, List.length_append, List.length_append, be1_len, be8_len, be8_len, be4_len, h1, h2, show magicB.length = 4 from rfl]
 omega
theorem beV_bytes (x n : Int) : Bytes (beV x n) := by
 intro z hz
 unfold beV beP at hz
 obtain ⟨i, _, rfl⟩ := List.mem_map.1 hz
 simp [IntKind.wrap, IntKind.signed, IntKind.bits]
 omega
theorem cm_bytes {w : World} {o n : Int} {H1 H2 : List Int} {Cs : List CV} (b1 : Bytes H1) (b2 : Bytes H2) (hD : DatC w Cs) : Bytes (encD o n H1 H2 (Cs.map cmC)) := by
 have hb : ∀ (x k : Int), Bytes (beV x k) := fun x k => beV_bytes x k
 have hc : ∀ l : List CV, (∀ x ∈ l, Bytes x.B) → Bytes (encCs (l.map cmC)) := by
  intro l
  induction l with
  | nil => intro _ x hx; cases hx
  | cons y l ih =>
   intro h
   show Bytes (encC (cmC y) ++ encCs (l.map cmC))
   refine Bytes.app ?_ (ih (fun z hz => h z (by simp [hz])))
   unfold encC
   refine Bytes.app (hb _ _) (Bytes.app (hb _ _) ?_)
   split
   ·exact Bytes.app (hb _ _) (hb _ _)
   ·exact Bytes.app (hb _ _) (h y (by simp))
 unfold encD
 exact Bytes.app magic_bytes (Bytes.app (hb _ _) (Bytes.app (hb _ _) (Bytes.app (hb _ _) (Bytes.app b1 (Bytes.app b2 (Bytes.app (hb _ _) (hc Cs (fun x hx => by obtain ⟨i, hi⟩ := List.mem_iff_getElem?.1 hx; exact (hD i x hi).2))))))))
theorem fdec_enc (o n : Int) (H1 H2 : List Int) (hH1 : H1.length = 32) (hH2 : H2.length = 32) (A : Option Addr) (m c : Nat) (Cs : List CV) (A2 : Option Addr) (c2 : Nat) (w : World) (hs2 : Src w A2 (encD o n H1 H2 (Cs.map cmC)).length .u8 (encD o n H1 H2 (Cs.map cmC))) (hc2 : (encD o n H1 H2 (Cs.map cmC)).length ≤ c2) (hc22 : c2 ≤ 9223372036854775807) (hL : (encD o n H1 H2 (Cs.map cmC)).length ≤ 100000) (hBy : Bytes (encD o n H1 H2 (Cs.map cmC))) (hinv : rDec (encD o n H1 H2 (Cs.map cmC)) = ⟨o, n, H1, H2, Cs.map cmC, ⟨(encD o n H1 H2 (Cs.map cmC)).length, 0, 0⟩⟩) (hm : Cs.length = m) : Calls Tryz.prog 12 #[.slice A2 (encD o n H1 H2 (Cs.map cmC)).length c2] w fun e w' => ∃ (A' : Option Addr) (c' : Nat) (Es : List CV) (He : List Ent), e = .returned (.tuple #[.agg (dV o n H1 H2 (slice A' m ((c')))).toArray, .agg ([int .i64 0, int .i64 0]).toArray]) ∧ (m ≤ c' ∧ c' ≤ 9223372036854775807) ∧ OwnD w.heap.size A' m Es He ∧ Es.map cmC = Cs.map cmC ∧ St w He w' := by
 have h := fdec_good (encD o n H1 H2 (Cs.map cmC)) A2 _ c2 w hs2 hBy hc2 hc22 hL (by rw [hinv])
 rw [hinv] at h
 dsimp only at h
 rw [List.length_map, hm] at h
 exact h
theorem e0_len : (encD 0 0 (List.replicate 32 (0 : Int)) (List.replicate 32 (0 : Int)) (([] : List CV).map cmC)).length = 89 := by
 have h1 := encD_ge (o := 0) (n := 0) (H1 := List.replicate 32 (0 : Int)) (H2 := List.replicate 32 (0 : Int)) (Cs := ([] : List CV).map cmC) (by simp) (by simp)
 have h2 := encD_len_le (o := 0) (n := 0) (H1 := List.replicate 32 (0 : Int)) (H2 := List.replicate 32 (0 : Int)) (Cs := []) (m := 0) (by simp) (by simp) rfl (fun i x hx => by simp at hx)
 omega
theorem z0 : inR 0 := ⟨by decide, by decide⟩
theorem num0 : NumsC [] := fun i x hx => by simp at hx
theorem dat0 {w : World} : DatC w [] := fun i x hx => by simp at hx
theorem wrong0 : wrongI 0 0 [] = 0 := wrongI_0 (fun i x hx => by simp at hx) ⟨z0, z0⟩ (fun i x hx => by simp at hx)
theorem inv0 : rDec (encD 0 0 (List.replicate 32 (0 : Int)) (List.replicate 32 (0 : Int)) (([] : List CV).map cmC)) = ⟨0, 0, List.replicate 32 (0 : Int), List.replicate 32 (0 : Int), ([] : List CV).map cmC, ⟨(encD 0 0 (List.replicate 32 (0 : Int)) (List.replicate 32 (0 : Int)) (([] : List CV).map cmC)).length, 0, 0⟩⟩ := rDec_inv z0 z0 (by simp) (by simp) (by decide) (fun c hc => by cases hc)
theorem byt0 : Bytes (encD 0 0 (List.replicate 32 (0 : Int)) (List.replicate 32 (0 : Int)) (([] : List CV).map cmC)) := by
 have hr : Bytes (List.replicate 32 (0 : Int)) := fun z hz => by rw [(List.mem_replicate.1 hz).2]; decide
 exact cm_bytes (w := default) hr hr dat0
def grfB : List Int := [71, 82, 70]
theorem grf_dec : (rDec grfB).s.co = 8 ∧ (rDec grfB).s.po = 3 := by decide +kernel
theorem grf_bytes : Bytes grfB := by intro x hx; unfold grfB at hx; simp only [List.mem_cons, List.not_mem_nil, or_false] at hx; omega
theorem fdec0 (A2 : Option Addr) (c2 : Nat) (w : World) (hs2 : Src w A2 (encD 0 0 (List.replicate 32 (0 : Int)) (List.replicate 32 (0 : Int)) (([] : List CV).map cmC)).length .u8 (encD 0 0 (List.replicate 32 (0 : Int)) (List.replicate 32 (0 : Int)) (([] : List CV).map cmC))) (hc2 : (encD 0 0 (List.replicate 32 (0 : Int)) (List.replicate 32 (0 : Int)) (([] : List CV).map cmC)).length ≤ c2) (hc22 : c2 ≤ 9223372036854775807) : Calls Tryz.prog 12 #[.slice A2 (encD 0 0 (List.replicate 32 (0 : Int)) (List.replicate 32 (0 : Int)) (([] : List CV).map cmC)).length c2] w fun e w' => ∃ y : Option Addr × Nat, e = .returned (.tuple #[.agg (dV 0 0 (List.replicate 32 (0 : Int)) (List.replicate 32 (0 : Int)) (slice y.1 0 y.2)).toArray, .agg ([int .i64 0, int .i64 0]).toArray]) ∧ y.2 ≤ 9223372036854775807 ∧ St w [] w' :=
 (fdec_enc 0 0 (List.replicate 32 (0 : Int)) (List.replicate 32 (0 : Int)) (by simp) (by simp) none 0 0 [] A2 c2 w hs2 hc2 hc22 (by have := e0_len; omega) byt0 inv0 rfl).mono fun e w' h => by
  obtain ⟨A', c', Es, He, he, hc, ho, hE, hw⟩ := h
  exact ⟨(A', c'), he, hc.2, St.left (H := []) hw ho.1⟩
theorem alive_c (w : World) : Calls Tryz.prog 4 #[] w fun e w' => e = .returned (.bool true) ∧ St w [] w' := by
 have he0 := e0_len
 refine qL (args := []) Tryz.func4 rfl Tryz.ntmps4 (by simp) ?_
 refine qC [] ?_
 iterate 7 refine gx ?_
 refine qB (qA rfl) rfl (qm rfl (vs := []) rfl (fun w => by first | rfl | kernel_rfl) (v := .agg (zV).toArray)) ?_
 refine qY (ι := Value × List Ent) (V := fun y => .tuple #[y.1, .int .i64 0]) (R := fun y => Own w.heap.size 5 .u8 y.1 (encD 0 0 (List.replicate 32 (0 : Int)) (List.replicate 32 (0 : Int)) (([] : List CV).map cmC)) y.2) (H' := fun y => [] ++ y.2) (qA rfl) rfl enters11 rfl rfl (fun w hs => (fenc_yes 0 0 (List.replicate 32 (0 : Int)) (List.replicate 32 (0 : Int)) (by simp) (by simp) none 0 0 [] (by omega) (by omega) num0 (by omega) w ⟨rfl, .inl rfl⟩ dat0 wrong0).mono fun e w' ⟨v, He, he, ho, hw⟩ => ⟨(v, He), he, own_mono ho hs.size, st_call hs hw ho.new⟩) (fun y hR => ?_)
 obtain ⟨vE, HE⟩ := y
 dsimp only at hR ⊢
 have hE : Own w.heap.size 5 .u8 vE (encD 0 0 (List.replicate 32 (0 : Int)) (List.replicate 32 (0 : Int)) (([] : List CV).map cmC)) HE := hR
 obtain ⟨AE, cE, rfl, hcE, hdE⟩ := hE.form
 iterate 10 refine gx ?_
 refine qY (ι := Option Addr × Nat) (V := fun yd => .tuple #[.agg (dV 0 0 (List.replicate 32 (0 : Int)) (List.replicate 32 (0 : Int)) (slice yd.1 0 yd.2)).toArray, .agg ([int .i64 0, int .i64 0]).toArray]) (R := fun yd => yd.2 ≤ 9223372036854775807) (H' := fun _ => [] ++ HE) (qA rfl) rfl enters12 rfl rfl (fun w hs => (fdec0 AE cE w (hE.srcOf (fun e he => hs.has e (by simp [he]))) hcE hdE).mono fun e w' ⟨y, he, hR, hw⟩ => ⟨y, he, hR, hs.call' hw⟩) (fun yd hyd => ?_)
 iterate 3 refine gx ?_
 refine zB (qA rfl) rfl rfl zero27 (cs := zD) rfl (tot := 67) (by simp) (fun g1 hg1 => ?_)
 refine qc (fun g2 hg2 => ?_)
 refine qn (qA rfl) rfl rfl size27 rfl (vs := dV 0 0 (List.replicate 32 (0 : Int)) (List.replicate 32 (0 : Int)) (slice yd.1 0 yd.2)) rfl (by simp []) (qa (by simp [Value.oneCell']) (qa qb (qa qb (by simp [Value.oneCell'])))) (i := 1) (ent := ⟨g1, 27, zD, 67⟩) rfl rfl (by simp []) (H' := [⟨g2, 30, [int .i64 0, int .i64 0], 2⟩, ⟨g1, 27, dV 0 0 (List.replicate 32 (0 : Int)) (List.replicate 32 (0 : Int)) (slice yd.1 0 yd.2), 67⟩] ++ HE) rfl ?_
 refine qn (qA rfl) rfl rfl size30 rfl (vs := [int .i64 0, int .i64 0]) rfl (by simp []) (by simp [Value.oneCell']) (i := 0) (ent := ⟨g2, 30, [int .i64 0, int .i64 0], 2⟩) rfl rfl (by simp []) (H' := [⟨g2, 30, [int .i64 0, int .i64 0], 2⟩, ⟨g1, 27, dV 0 0 (List.replicate 32 (0 : Int)) (List.replicate 32 (0 : Int)) (slice yd.1 0 yd.2), 67⟩] ++ HE) rfl ?_
 iterate 2 refine gx ?_
 refine qC [0, 1, 2, 3, 4] ?_
 refine gx ?_
 refine qe (H' := [Ent.mk g2 30 ([int .i64 0, int .i64 0]) 2, Ent.mk g1 27 (dV 0 0 (List.replicate 32 (0 : Int)) (List.replicate 32 (0 : Int)) (slice yd.1 0 yd.2)) 67]) (fun w h => St.left h hE.fr7) ?_
 refine gx ?_
 refine zc (qA rfl) rfl rfl Tryz.underlying22 size5 zero5 rfl (by decide) (by decide) (cells := #[.int .u8 71, .int .u8 82, .int .u8 70]) (tot := 3) (by kernel_rfl) (cs := [.int .u8 71, .int .u8 82, .int .u8 70]) rfl rfl (fun g3 hg3 => ?_)
 refine TL.mark2 (qA rfl) rfl rfl Tryz.underlying22 Tryz.underlying5 rfl (i := 0) (ent := ⟨g3, 5, [int .u8 71, int .u8 82, int .u8 70], 3⟩) rfl rfl (W := grfB) rfl (by omega) (fun w1 hap hw1 hrw hgw => ?_)
 have hw1' : St w [⟨g2, 30, [int .i64 0, int .i64 0], 2⟩, ⟨g1, 27, dV 0 0 (List.replicate 32 (0 : Int)) (List.replicate 32 (0 : Int)) (slice yd.1 0 yd.2), 67⟩] w1 := hw1
 have hM : Src w1 (some ⟨g3, 0, none⟩) 3 .u8 grfB := ⟨rfl, .inr ⟨g3, 0, rfl, hgw, hrw⟩⟩
 refine qM (qA rfl) rfl enters12 rfl rfl (v := .tuple #[.agg (zV).toArray, .agg ([int .i64 8, int .i64 3]).toArray]) (fun w hs => (fdec_bad grfB (some ⟨g3, 0, none⟩) 3 3 w (hM.at_ hs (fun b hb => qF)) grf_bytes (by omega) (by omega) (by omega) (by rw [grf_dec.1]; decide)).mono fun e w' h => by rw [grf_dec.1, grf_dec.2] at h; exact h) ?_
 have l1 := hw1'.has (⟨g2, 30, [int .i64 0, int .i64 0], 2⟩) (by simp)
 have l2 := hw1'.has (⟨g1, 27, dV 0 0 (List.replicate 32 (0 : Int)) (List.replicate 32 (0 : Int)) (slice yd.1 0 yd.2), 67⟩) (by simp)
 have hn12 : g2 ≠ g1 := pairwise_ne hw1'.apart (i := 0) (j := 1) rfl rfl (by decide)
 refine TL.heap (H' := [⟨g2, 30, [int .i64 0, int .i64 0], 2⟩, ⟨g1, 27, dV 0 0 (List.replicate 32 (0 : Int)) (List.replicate 32 (0 : Int)) (slice yd.1 0 yd.2), 67⟩]) (fun w h => (h.take l2 qF).take l1 (qE (fun h => hn12 h.symm) qF)) ?_
 refine TL.rebase2 hw1' rfl ?_
 refine qB (qA rfl) rfl (qp rfl rfl) ?_
 iterate 2 refine gx ?_
 refine zB (qA rfl) rfl rfl zero27 (cs := zD) rfl (tot := 67) (by simp) (fun g4 hg4 => ?_)
 refine qc (fun g5 hg5 => ?_)
 refine qn (qA rfl) rfl rfl size27 rfl (vs := zV) rfl (by simp []) (qa (by simp [Value.oneCell']) (qa qb (qa qb (by simp [Value.oneCell'])))) (i := 1) (ent := ⟨g4, 27, zD, 67⟩) rfl rfl (by simp []) (H' := [⟨g5, 30, [int .i64 0, int .i64 0], 2⟩, ⟨g4, 27, zV, 67⟩, ⟨g2, 30, [int .i64 0, int .i64 0], 2⟩, ⟨g1, 27, dV 0 0 (List.replicate 32 (0 : Int)) (List.replicate 32 (0 : Int)) (slice yd.1 0 yd.2), 67⟩]) rfl ?_
 iterate 3 refine gx ?_
 refine qC [0, 1, 2, 3, 4, 6] ?_
 iterate 4 refine gx ?_
 refine qB (qA rfl) rfl (qP (qo rfl rfl rfl) (by omega)) ?_
 iterate 2 refine gx ?_
 refine qB (qJ rfl rfl rfl) rfl (qP (qo rfl rfl rfl) rfl) ?_
 iterate 2 refine gx ?_
 refine qB (qJ rfl rfl rfl) rfl (qg rfl agg27 size27 rfl (vs := dV 0 0 (List.replicate 32 (0 : Int)) (List.replicate 32 (0 : Int)) (slice yd.1 0 yd.2)) (by simp []) (qQ (i := 3) (ent := ⟨g1, 27, dV 0 0 (List.replicate 32 (0 : Int)) (List.replicate 32 (0 : Int)) (slice yd.1 0 yd.2), 67⟩) rfl rfl rfl)) ?_
 refine qB (qJ rfl rfl rfl) rfl (qm rfl (vs := []) rfl (fun w => by first | rfl | kernel_rfl) (v := .agg (zV).toArray)) ?_
 refine qM (qJ rfl rfl rfl) rfl enters7 rfl rfl (v := .bool true) (fun w hs => (rdsame_c 0 0 (List.replicate 32 (0 : Int)) (List.replicate 32 (0 : Int)) (by simp) (by simp) yd.1 0 yd.2 [] 0 0 (List.replicate 32 (0 : Int)) (List.replicate 32 (0 : Int)) (by simp) (by simp) none 0 0 [] (by omega) (by omega) num0 w ⟨rfl, .inl rfl⟩ ⟨rfl, .inl rfl⟩ dat0 dat0).mono fun e w' h => by rw [decide_eq_true (p := sameD _ _ _ _ _ _ _ _ _ _) ⟨rfl, rfl, rfl, rfl, rfl⟩] at h; exact h) ?_
 iterate 3 refine gx ?_
 refine qB (qJ rfl rfl rfl) rfl (qm rfl (vs := []) rfl (fun w => by first | rfl | kernel_rfl) (v := .agg ([int .i64 0, int .i64 0]).toArray)) ?_
 refine qB (qJ rfl rfl rfl) rfl (qP (Gets.pairEq rfl Tryz.underlying30 (by decide) (by decide) rfl rfl Tryz.underlying28 Tryz.underlying3 sih30 geq30 rfl rfl) ⟨rfl, rfl⟩) ?_
 iterate 3 refine gx ?_
 refine qB (qJ rfl rfl rfl) rfl (qm rfl (vs := [(0, int .i64 8), (1, int .i64 3)]) rfl (fun w => by first | rfl | kernel_rfl) (v := .agg ([int .i64 8, int .i64 3]).toArray)) ?_
 refine qB (qJ rfl rfl rfl) rfl (qP (Gets.pairEq rfl Tryz.underlying30 (by decide) (by decide) rfl rfl Tryz.underlying28 Tryz.underlying3 sih30 geq30 rfl rfl) ⟨rfl, rfl⟩) ?_
 iterate 2 refine gx ?_
 refine qB (qJ rfl rfl rfl) rfl (qm rfl (vs := []) rfl (fun w => by first | rfl | kernel_rfl) (v := .agg (zV).toArray)) ?_
 refine qM (qJ rfl rfl rfl) rfl enters13 rfl rfl (v := .int .i64 (sizeI 0 0 (List.replicate 32 (0 : Int)) (List.replicate 32 (0 : Int)) [])) (fun w hs => fsize_c 0 0 (List.replicate 32 (0 : Int)) (List.replicate 32 (0 : Int)) (by simp) (by simp) none 0 0 [] (by omega) (by omega) num0 (by omega) w ⟨rfl, .inl rfl⟩ dat0) ?_
 refine qB (qJ rfl rfl rfl) rfl (qP (qo rfl rfl rfl) (by rw [sizeI_len wrong0]; omega)) ?_
 iterate 5 refine gx ?_
 exact qK rfl rfl (fun w hs => ⟨rfl, St.left (H := []) hs (qx (by assumption) (qx (by assumption) (qx (by assumption) (qx (by assumption) zA))))⟩)
/-
 The identifiers of layer 7.
-/
theorem enters18 : Enters Tryz.prog 18 := ⟨_, Tryz.func18, by kernel_rfl, by kernel_rfl⟩
theorem enters21 : Enters Tryz.prog 21 := ⟨_, Tryz.func21, by kernel_rfl, by kernel_rfl⟩
theorem rU8 {D : List Int} (h : D.length = 32) : (rUint D ⟨0, 0, 0⟩ 8).1 = valB (D.take 8) := by
 unfold rUint
 rw [if_pos rfl, if_neg (by dsimp only; omega)]; rfl
theorem idc_c (Ps : List (List Int)) (A : Option Addr) (m c : Nat) (w : World) (hP : PartsO w A m Ps) (hmc : m ≤ c) (hcm : c ≤ 9223372036854775807) (hn : Ps.flatten.length ≤ 100000) (h1 : 1 < w.heap.size) (hIV : RowI w 0 0 8 .u32 IV) (hK : RowI w 1 0 64 .u32 KT) : Calls Tryz.prog 9 #[.slice A m c] w fun e w' => e = .returned (.int .u64 (valB ((shaM Ps.flatten).take 8))) ∧ St w [] w' := by
 have hdl : (shaM Ps.flatten).length = 32 := shaM_len _
 refine qL (args := [.slice A m c]) Tryz.func9 rfl Tryz.ntmps9 (by simp) ?_
 refine qC [0] ?_
 iterate 8 refine gx ?_
 refine qM (qA rfl) rfl enters18 rfl rfl (v := .agg ((shaM Ps.flatten).map (int .u8)).toArray) (fun w hs => of_c Ps A m c w (hP.at_ hs (fun b hb => qF)) (by omega) (by omega) (by omega) (Nat.lt_of_lt_of_le h1 hs.size) (hIV.keepH hs (by omega) qF) (hK.keepH hs h1 qF)) ?_
 refine zB (qA rfl) rfl rfl zero24 (cs := (List.replicate 32 0).map (int .u8)) rfl (tot := 32) (by simp) (fun g1 hg1 => ?_)
 refine qn (qA rfl) rfl rfl size24 rfl (vs := (shaM Ps.flatten).map (int .u8)) rfl (by simp [hdl]) qb (i := 0) (ent := ⟨g1, 24, (List.replicate 32 0).map (int .u8), 32⟩) rfl rfl (by simp []) (H' := [⟨g1, 24, (shaM Ps.flatten).map (int .u8), 32⟩]) rfl ?_
 iterate 4 refine gx ?_
 refine qB (qA rfl) rfl (Gets.sliceA rfl Tryz.underlying24 size5 rfl bnd.dflt bnd.dflt (by omega) (by omega) (cutA_zero _ _ _) (ln := 32) (cp := 32) (by omega) (by omega)) ?_
 refine qY (ι := Nat × (Option Addr × Nat) × List Ent) (V := fun y => .pointer (some ⟨y.1, 0, none⟩)) (R := fun y => Own w.heap.size 5 .u8 (.slice y.2.1.1 32 y.2.1.2) (shaM Ps.flatten) y.2.2 ∧ w.heap.size ≤ y.1) (H' := fun y => (⟨y.1, 95, rdC y.2.1.1 32 y.2.1.2 0 0 0, rdN⟩ : Ent) :: [⟨g1, 24, (shaM Ps.flatten).map (int .u8), 32⟩] ++ y.2.2) (qA rfl) rfl enters19 rfl rfl (fun w' hs => (newq_c (shaM Ps.flatten) (some ⟨g1, 0, none⟩) 32 32 w' (zT (W := (shaM Ps.flatten)) (hs.has (⟨g1, 24, (shaM Ps.flatten).map (int .u8), 32⟩) (by simp)) hdl) (by omega) (by omega)).mono fun e w'' ⟨g, A', c', He, he, ho, hg, hw⟩ => ⟨(g, (A', c'), He), he, ⟨own_mono ho hs.size, Nat.le_trans hs.size hg⟩, (st_call hs hw (qx (w0 := w') hg ho.new)).perm List.perm_middle⟩) (fun y hR => ?_)
 obtain ⟨gr, ⟨AN, cN⟩, HN⟩ := y
 obtain ⟨hON, hgr⟩ := hR
 dsimp only at hON hgr ⊢
 obtain ⟨hcN, hdN⟩ : 32 ≤ cN ∧ cN ≤ 9223372036854775807 := by obtain ⟨_, _, h1, h2, h3⟩ := hON.form; simp only [slice.injEq] at h1; exact ⟨by omega, by omega⟩
 have hFN : Fresh w HN := hON.fr7
 refine TL.heap (H' := [⟨gr, 95, [slice AN 32 cN, int .i64 0, int .i64 0, int .i64 0], 4⟩, ⟨g1, 24, (shaM Ps.flatten).map (int .u8), 32⟩] ++ HN) (fun w h => h) ?_
 refine qY (ι := Unit) (V := fun _ => .int .u64 ((rUint (shaM Ps.flatten) ⟨0, 0, 0⟩ 8).1)) (R := fun _ => True) (H' := fun _ => [(rE95 gr AN 32 cN ((rUint (shaM Ps.flatten) ⟨0, 0, 0⟩ 8).2)), ⟨g1, 24, (shaM Ps.flatten).map (int .u8), 32⟩] ++ HN) (qA rfl) rfl enters20 rfl rfl (fun w hs => (wuint_s gr AN 32 cN ⟨0, 0, 0⟩ 8 (by omega) w (hs.has (⟨gr, 95, [slice AN 32 cN, int .i64 0, int .i64 0, int .i64 0], 4⟩) (by simp)) (Nat.zero_le _) (by omega) (by omega) (shaM Ps.flatten) (hON.srcX (fun e he => hs.has e (by simp [he])) (fun e he x hx => by rw [List.mem_singleton.1 hx]; exact hs.beside (H := [⟨gr, 95, [slice AN 32 cN, int .i64 0, int .i64 0, int .i64 0], 4⟩, ⟨g1, 24, (shaM Ps.flatten).map (int .u8), 32⟩]) (d := ⟨gr, 95, [slice AN 32 cN, int .i64 0, int .i64 0, int .i64 0], 4⟩) (by simp) e he)) (shaM_bytes _)).mono fun e w' ⟨he, hw⟩ => ⟨(), he, trivial, qi (i := 0) (e := (rE95 gr AN 32 cN ((rUint (shaM Ps.flatten) ⟨0, 0, 0⟩ 8).2))) hs rfl rfl hw⟩) (fun _ _ => ?_)
 iterate 4 refine gx ?_
 exact qK rfl rfl (fun w hs => ⟨by rw [rU8 hdl], St.left (H := []) (((hs.drop (by assumption))).drop (by assumption)) hFN⟩)
theorem ridc_c (B : List Int) (A : Option Addr) (m c : Nat) (w : World) (hsB : Src w A m .u8 B) (hmc : m ≤ c) (hcm : c ≤ 9223372036854775807) (hm : m ≤ 1000) : Calls Tryz.prog 10 #[.slice A m c] w fun e w' => e = .returned (.int .u64 (valB ((shaM B).take 8))) ∧ St w [] w' := by
 have hdl : (shaM B).length = 32 := shaM_len _
 refine qL (args := [.slice A m c]) Tryz.func10 rfl Tryz.ntmps10 (by simp) ?_
 refine qC [0] ?_
 iterate 8 refine gx ?_
 refine qM (qA rfl) rfl enters21 rfl rfl (v := .agg ((shaM B).map (int .u8)).toArray) (fun w hs => rof_c B A m c w (hsB.at_ hs (fun b hb => qF)) (by omega) (by omega)) ?_
 refine zB (qA rfl) rfl rfl zero24 (cs := (List.replicate 32 0).map (int .u8)) rfl (tot := 32) (by simp) (fun g1 hg1 => ?_)
 refine qn (qA rfl) rfl rfl size24 rfl (vs := (shaM B).map (int .u8)) rfl (by simp [hdl]) qb (i := 0) (ent := ⟨g1, 24, (List.replicate 32 0).map (int .u8), 32⟩) rfl rfl (by simp []) (H' := [⟨g1, 24, (shaM B).map (int .u8), 32⟩]) rfl ?_
 iterate 14 refine gx ?_
 refine qr (ι := Nat) (fun i => [(3, .pointer (some ⟨g1, 0, none⟩)), (4, .int .u64 (valB ((shaM B).take (i)))), (5, .int .i64 (i : Int))]) (fun i => [⟨g1, 24, (shaM B).map (int .u8), 32⟩]) (fun i => 8 - i) (fun i => i ≤ 8) 0 (Nat.zero_le _) (qI (i := 3) rfl (qH (i := 4) rfl (by rw [List.take_zero]; rfl) (qH (i := 5) rfl (by first | omega | rfl) (qN)))) (fun w h => h) (fun i hC0 => ?_)
 iterate 7 refine gx ?_
 refine qX rfl (fun hq0 => ?_) (fun hq0 => ?_)
 ·have hvb : 0 ≤ (valB ((shaM B).take (i))) ∧ (valB ((shaM B).take (i))) ≤ 72057594037927935 := valB_lt (shaM_bytes B) (by omega)
  have hbd := (shaM_bytes B).get i
  have hst : 256 * (valB ((shaM B).take (i))) + (shaM B).getD i 0 = (valB ((shaM B).take (i + 1))) := by rw [take_snoc (by rw [hdl]; omega), valB_snoc]
  iterate 6 refine gx ?_
  refine qB (qA rfl) rfl (zY rfl rfl rfl (r := (256 * (valB ((shaM B).take (i))))) (wu64 (by omega) (by omega))) ?_
  refine gx ?_
  refine qB (qA rfl) rfl (qq rfl Tryz.underlying24 size5 rfl rfl (i := i) (by omega) (by omega) (off' := i) (by omega)) ?_
  refine qB (qA rfl) rfl (qS rfl agg5 rfl (qZ (i := 0) (ent := ⟨g1, 24, (shaM B).map (int .u8), 32⟩) (off := i) rfl rfl (by have := qf (kd := .u8) (W := (shaM B)) (i := i) (by rw [hdl]; omega); (first | exact this | (refine Eq.trans ?_ this; congr 1; omega))))) ?_
  refine qB (qA rfl) rfl (qt rfl Tryz.underlying5 Tryz.underlying37 rfl (r := ((shaM B).getD i 0)) (wu64 rfl (by omega))) ?_
  refine qB (qA rfl) rfl (qR rfl rfl rfl (r := (256 * (valB ((shaM B).take (i))) + ((shaM B).getD i 0))) (wu64 (by omega) (by omega))) ?_
  iterate 4 refine gx ?_
  refine qC [3, 4, 5] ?_
  iterate 2 refine gx ?_
  refine qB (qA rfl) rfl (qR rfl rfl rfl (r := ((i : Int) + 1)) (w64 (by omega) (by omega))) ?_
  iterate 2 refine gx ?_
  exact qj (i + 1) (by omega) (by omega) (qI (i := 3) rfl (qH (i := 4) rfl (by omega) (qH (i := 5) rfl (by first | omega | rfl) (qN)))) (fun w h => h)
 ·obtain rfl : i = 8 := by omega
  iterate 12 refine gx ?_
  exact qK rfl rfl (fun w hs => ⟨rfl, (hs.drop (by assumption))⟩)
/-
 The code of layer 7: Load.
-/
theorem sameC_cm {Es Fs : List CV} (h : Es.map cmC = Fs.map cmC) : sameC Es Fs := by
 have := congrArg (List.map (fun c : CM => (c.k, c.t, c.f, c.l, c.B))) h
 rw [List.map_map, List.map_map] at this
 exact this
theorem rdec_bad (B : List Int) (A : Option Addr) (m c : Nat) (w : World) (hsB : Src w A m .u8 B) (hBB : Bytes B) (hmc : m ≤ c) (hcm : c ≤ 9223372036854775807) (hm : m ≤ 100000) (hco : (rDec B).s.co ≠ 0) : Calls Tryz.prog 15 #[.slice A m c] w fun e w' => e = .returned (.tuple #[.agg (zV).toArray, .int .i64 (rDec B).s.co, .int .i64 (rDec B).s.po]) ∧ St w [] w' :=
 (rdecode_c B A m c w hsB hBB hmc hcm hm).mono fun e w' h => by
  rcases h with ⟨_, he, hw⟩ | ⟨h0, _⟩
  ·exact ⟨he, hw⟩
  ·exact absurd h0 hco
theorem rdec_good (B : List Int) (A : Option Addr) (m c : Nat) (w : World) (hsB : Src w A m .u8 B) (hBB : Bytes B) (hmc : m ≤ c) (hcm : c ≤ 9223372036854775807) (hm : m ≤ 100000) (hco : (rDec B).s.co = 0) : Calls Tryz.prog 15 #[.slice A m c] w fun e w' => ∃ (v : Value) (He : List Ent) (Es : List CV), e = .returned (.tuple #[.agg ([int .i64 (rDec B).o, int .i64 (rDec B).n] ++ ((rDec B).h1.map (int .u8) ++ ((rDec B).h2.map (int .u8) ++ [v]))).toArray, .int .i64 0, .int .i64 0]) ∧ OwnS w.heap.size 61 5 v Es.length (flatC Es) He ∧ Es.map cmC = (rDec B).Cs ∧ (∀ q ∈ Es, Seg A m c B q.A q.c q.B ∧ q.m = q.B.length) ∧ St w He w' :=
 (rdecode_c B A m c w hsB hBB hmc hcm hm).mono fun e w' h => by
  rcases h with ⟨h0, _⟩ | ⟨_, h1⟩
  ·exact absurd hco h0
  ·exact h1
theorem dat_seg {A : Option Addr} {m c : Nat} {B : List Int} {Es : List CV} {w : World} (hB : Src w A m .u8 B) (hmc : m ≤ c) (hs : ∀ q ∈ Es, Seg A m c B q.A q.c q.B ∧ q.m = q.B.length) (hc : ∀ x ∈ Es.map cmC, Bytes x.B) : DatC w Es := fun i x hx => by
 have hm := List.mem_of_getElem? hx
 obtain ⟨h1, h2⟩ := hs x hm
 refine ⟨?_, hc (cmC x) (List.mem_map_of_mem hm)⟩
 rw [h2]
 exact (h1.src hB.toX0 hmc).src
def cvM (c : CM) : CV := ⟨c.k, c.t, c.f, c.l, none, c.B.length, 0, c.B⟩
noncomputable def FI (B : List Int) : Int × Int := faultI (rDec B).o (rDec B).n ((rDec B).Cs.map cvM)
theorem fi_is {B : List Int} {Es : List CV} (h : Es.map cmC = (rDec B).Cs) (hm : ∀ x ∈ Es, x.B.length = x.m) : faultI (rDec B).o (rDec B).n Es = FI B := by
 unfold FI
 refine faultI_same ?_
 show Es.map keyE = ((rDec B).Cs.map cvM).map keyE
 rw [← h, List.map_map, List.map_map]
 refine List.map_congr_left fun x hx => ?_
 show (valC x, x.m) = (valC (cvM (cmC x)), x.B.length)
 rw [hm x hx]; rfl
theorem ownD_len {N m : Nat} {A : Option Addr} {Es : List CV} {He : List Ent} {w : World} (h : OwnD N A m Es He) (hs : ∀ e ∈ He, e.lies w) : ∀ x ∈ Es, x.B.length = x.m := fun x hx => by
 obtain ⟨i, hi⟩ := List.mem_iff_getElem?.1 hx
 exact (h.dat hs i x hi).1.1
theorem nums_seg {A : Option Addr} {m c : Nat} {B : List Int} {Es : List CV} (hB : Bytes B) (hco : (rDec B).s.co = 0) (hE : Es.map cmC = (rDec B).Cs) (hs : ∀ q ∈ Es, Seg A m c B q.A q.c q.B ∧ q.m = q.B.length) (hmc : m ≤ c) (hcm : c ≤ 9223372036854775807) (hm : m ≤ 100000) : NumsC Es := fun i x hi => by
 have hx := List.mem_of_getElem? hi
 obtain ⟨h1, h2⟩ := hs x hx
 have h3 := h1.cap hmc
 have h4 := ((rDec_back hB hco).2.2.2.2.2.1 (cmC x) (by rw [← hE]; exact List.mem_map_of_mem hx)).1
 unfold okC inR cmC at h4
 dsimp only at h4
 unfold NumC
 omega
theorem fi_zero {B : List Int} (h : (FI B).1 = 0) : (FI B).2 = 0 := fault_zero h
theorem fload_bad (B : List Int) (A : Option Addr) (m c : Nat) (w : World) (hsB : Src w A m .u8 B) (hBB : Bytes B) (hmc : m ≤ c) (hcm : c ≤ 9223372036854775807) (hm : m ≤ 100000) (hco : (rDec B).s.co ≠ 0) : Calls Tryz.prog 5 #[.slice A m c] w fun e w' => e = .returned (.tuple #[.agg (zV).toArray, .agg ([int .i64 ((rDec B).s.co), int .i64 ((rDec B).s.po)]).toArray]) ∧ St w [] w' := by
 refine qL (args := [.slice A m c]) Tryz.func5 rfl Tryz.ntmps5 (by simp) ?_
 refine qC [0] ?_
 iterate 2 refine gx ?_
 refine zB (qA rfl) rfl rfl zero27 (cs := zV) (by first | rfl | kernel_rfl) (tot := 67) (by simp) (fun g1 hg1 => ?_)
 refine qc (fun g2 hg2 => ?_)
 iterate 5 refine gx ?_
 refine qM (qA rfl) rfl enters12 rfl rfl (v := .tuple #[.agg (zV).toArray, .agg ([int .i64 ((rDec B).s.co), int .i64 ((rDec B).s.po)]).toArray]) (fun w hs => fdec_bad B A m c w (hsB.at_ hs (fun b hb => (qE (by show g2 ≠ b; omega) (qE (by show g1 ≠ b; omega) qF)))) hBB (by omega) (by omega) (by omega) hco) ?_
 iterate 3 refine gx ?_
 refine zB (qA rfl) rfl rfl zero27 (cs := zV) (by first | rfl | kernel_rfl) (tot := 67) (by simp) (fun g3 hg3 => ?_)
 refine qc (fun g4 hg4 => ?_)
 refine qn (qA rfl) rfl rfl size27 rfl (vs := zV) rfl (by simp []) (qa (by simp [Value.oneCell']) (qa qb (qa qb (by simp [Value.oneCell'])))) (i := 1) (ent := ⟨g3, 27, zV, 67⟩) rfl rfl (by simp []) (H' := [⟨g4, 30, [int .i64 0, int .i64 0], 2⟩, ⟨g3, 27, zV, 67⟩, ⟨g2, 30, [int .i64 0, int .i64 0], 2⟩, ⟨g1, 27, zV, 67⟩]) rfl ?_
 iterate 3 refine gx ?_
 refine qC [2, 3, 4, 5] ?_
 iterate 4 refine gx ?_
 refine qB (qA rfl) rfl (qm rfl (vs := []) rfl (fun w => by first | rfl | kernel_rfl) (v := .agg ([int .i64 0, int .i64 0]).toArray)) ?_
 refine qB (qA rfl) rfl (qU (Gets.pairEq rfl Tryz.underlying30 (by decide) (by decide) rfl rfl Tryz.underlying28 Tryz.underlying3 sih30 geq30 rfl rfl) (fun h => hco h.1)) ?_
 iterate 2 refine gx ?_
 refine qW rfl ?_
 iterate 6 refine gx ?_
 refine qB (qA rfl) rfl (qm rfl (vs := []) rfl (fun w => by first | rfl | kernel_rfl) (v := .agg ([int .i64 0, int .i64 0]).toArray)) ?_
 refine qB (qA rfl) rfl (qP (Gets.pairNe rfl Tryz.underlying30 (by decide) (by decide) rfl rfl Tryz.underlying28 Tryz.underlying3 sih30 geq30 rfl rfl) (fun h => hco h.1)) ?_
 iterate 2 refine gx ?_
 refine qC [2, 3, 4, 5, 18] ?_
 refine qd rfl ?_
 refine gx ?_
 refine qe (H' := [⟨g4, 30, [int .i64 ((rDec B).s.co), int .i64 ((rDec B).s.po)], 2⟩] ++ ([⟨g3, 27, zV, 67⟩, ⟨g2, 30, [int .i64 0, int .i64 0], 2⟩, ⟨g1, 27, zV, 67⟩])) (fun w h => h) ?_
 refine TC.mixB (HB := [Ent.mk g4 30 ([int .i64 ((rDec B).s.co), int .i64 ((rDec B).s.po)]) 2]) (H := [Ent.mk g3 27 (zV) 67, Ent.mk g2 30 ([int .i64 0, int .i64 0]) 2, Ent.mk g1 27 (zV) 67]) (by kernel_rfl) [0, 0, 8, 8] [0, 1, 2, 3] (by kernel_rfl) ?_
 refine qz (qA rfl) rfl (fun _ => qm rfl (vs := []) rfl (fun w => by first | rfl | kernel_rfl) (v := .agg (zV).toArray)) ?_
 refine zO (qA rfl) rfl (fun H' => qg rfl agg30 size30 rfl (vs := [int .i64 ((rDec B).s.co), int .i64 ((rDec B).s.po)]) (by simp []) (qQ (i := 0) (ent := ⟨g4, 30, [int .i64 ((rDec B).s.co), int .i64 ((rDec B).s.po)], 2⟩) rfl rfl rfl)) ?_
 refine TP.storeW (qA rfl) rfl rfl size27 rfl (vs := zV) rfl (by simp []) (qa (by simp [Value.oneCell']) (qa qb (qa qb (by simp [Value.oneCell'])))) (i := 3) (ent := ⟨g1, 27, zV, 67⟩) rfl rfl (by simp []) (H' := [⟨g3, 27, zV, 67⟩, ⟨g2, 30, [int .i64 0, int .i64 0], 2⟩, ⟨g1, 27, zV, 67⟩]) rfl ?_
 refine TP.storeW (qA rfl) rfl rfl size30 rfl (vs := [int .i64 ((rDec B).s.co), int .i64 ((rDec B).s.po)]) rfl (by simp []) (by simp [Value.oneCell']) (i := 2) (ent := ⟨g2, 30, [int .i64 0, int .i64 0], 2⟩) rfl rfl (by simp []) (H' := [⟨g3, 27, zV, 67⟩, ⟨g2, 30, [int .i64 ((rDec B).s.co), int .i64 ((rDec B).s.po)], 2⟩, ⟨g1, 27, zV, 67⟩]) rfl ?_
 refine TP.nil ?_
 refine zU (H' := [⟨g4, 30, [int .i64 ((rDec B).s.co), int .i64 ((rDec B).s.po)], 2⟩, ⟨g3, 27, zV, 67⟩, ⟨g2, 30, [int .i64 ((rDec B).s.co), int .i64 ((rDec B).s.po)], 2⟩, ⟨g1, 27, zV, 67⟩]) (fun w h => h) ?_
 iterate 3 refine gx ?_
 exact TE.ret2CC rfl agg27 size27 agg30 size30 rfl (vs := zV) (by simp []) (qQ (i := 3) (ent := ⟨g1, 27, zV, 67⟩) rfl rfl rfl) rfl (us := [int .i64 ((rDec B).s.co), int .i64 ((rDec B).s.po)]) rfl (qQ (i := 2) (ent := ⟨g2, 30, [int .i64 ((rDec B).s.co), int .i64 ((rDec B).s.po)], 2⟩) rfl rfl rfl) (fun w hs => ⟨rfl, ((((hs.drop (by assumption)).drop (by assumption)).drop (by assumption)).drop (by assumption))⟩)
theorem fload_fault (B : List Int) (A : Option Addr) (m c : Nat) (w : World) (hsB : Src w A m .u8 B) (hBB : Bytes B) (hmc : m ≤ c) (hcm : c ≤ 9223372036854775807) (hm : m ≤ 100000) (hco : (rDec B).s.co = 0) (hfl : (FI B).1 ≠ 0) : Calls Tryz.prog 5 #[.slice A m c] w fun e w' => e = .returned (.tuple #[.agg (zV).toArray, .agg ([int .i64 ((FI B).1), int .i64 ((FI B).2)]).toArray]) ∧ St w [] w' := by
 have hbk := rDec_back hBB hco
 have hl1 := hbk.2.2.1
 have hl2 := hbk.2.2.2.1
 have hlC := hbk.2.2.2.2.2.2.1
 have hBm := hsB.1
 have hbo := hbk.1
 have hbn := hbk.2.1
 unfold inR at hbo hbn
 refine qL (args := [.slice A m c]) Tryz.func5 rfl Tryz.ntmps5 (by simp) ?_
 refine qC [0] ?_
 iterate 2 refine gx ?_
 refine zB (qA rfl) rfl rfl zero27 (cs := zV) (by first | rfl | kernel_rfl) (tot := 67) (by simp) (fun g1 hg1 => ?_)
 refine qc (fun g2 hg2 => ?_)
 iterate 5 refine gx ?_
 refine qY (ι := (Option Addr × Nat) × List CV × List Ent) (V := fun y => .tuple #[.agg ([int .i64 (rDec B).o, int .i64 (rDec B).n] ++ ((rDec B).h1.map (int .u8) ++ ((rDec B).h2.map (int .u8) ++ [slice y.1.1 (rDec B).Cs.length y.1.2]))).toArray, .agg ([int .i64 0, int .i64 0]).toArray]) (R := fun y => ((rDec B).Cs.length ≤ y.1.2 ∧ y.1.2 ≤ 9223372036854775807) ∧ OwnD w.heap.size y.1.1 (rDec B).Cs.length y.2.1 y.2.2 ∧ y.2.1.map cmC = (rDec B).Cs ∧ ∀ x ∈ y.2.1, x.B.length = x.m) (H' := fun y => [⟨g2, 30, [int .i64 0, int .i64 0], 2⟩, ⟨g1, 27, zV, 67⟩] ++ y.2.2) (qA rfl) rfl enters12 rfl rfl (fun w hs => (fdec_good B A m c w (hsB.at_ hs (fun b hb => (qE (by show g2 ≠ b; omega) (qE (by show g1 ≠ b; omega) qF)))) hBB (by omega) (by omega) (by omega) hco).mono fun e w' ⟨A', c', Fs, He, he, hc, ho, hsm, hw⟩ => ⟨((A', c'), (Fs, He)), he, ⟨hc, ho.mono hs.size, hsm, ownD_len ho (fun e he => hw.has e he)⟩, st_call hs hw ho.1⟩) (fun y hR => ?_)
 obtain ⟨⟨AD, cD⟩, ED, HD⟩ := y
 obtain ⟨hcD, hoD, hEd, hED⟩ := hR
 dsimp only at hcD hoD hEd hED ⊢
 have hFD : Fresh w HD := hoD.1
 have hfi := fi_is hEd hED
 iterate 3 refine gx ?_
 refine zB (qA rfl) rfl rfl zero27 (cs := zV) (by first | rfl | kernel_rfl) (tot := 67) (by simp) (fun g3 hg3 => ?_)
 refine qc (fun g4 hg4 => ?_)
 refine qn (qA rfl) rfl rfl size27 rfl (vs := dV ((rDec B).o) ((rDec B).n) ((rDec B).h1) ((rDec B).h2) (slice AD (((rDec B).Cs.length)) cD)) rfl (by simp [hl1, hl2]) (qa (by simp [Value.oneCell']) (qa qb (qa qb (by simp [Value.oneCell'])))) (i := 1) (ent := ⟨g3, 27, zV, 67⟩) rfl rfl (by simp []) (H' := [⟨g4, 30, [int .i64 0, int .i64 0], 2⟩, ⟨g3, 27, dV ((rDec B).o) ((rDec B).n) ((rDec B).h1) ((rDec B).h2) (slice AD (((rDec B).Cs.length)) cD), 67⟩, ⟨g2, 30, [int .i64 0, int .i64 0], 2⟩, ⟨g1, 27, zV, 67⟩] ++ HD) rfl ?_
 refine qn (qA rfl) rfl rfl size30 rfl (vs := [int .i64 0, int .i64 0]) rfl (by simp []) (by simp [Value.oneCell']) (i := 0) (ent := ⟨g4, 30, [int .i64 0, int .i64 0], 2⟩) rfl rfl (by simp []) (H' := [⟨g4, 30, [int .i64 0, int .i64 0], 2⟩, ⟨g3, 27, dV ((rDec B).o) ((rDec B).n) ((rDec B).h1) ((rDec B).h2) (slice AD (((rDec B).Cs.length)) cD), 67⟩, ⟨g2, 30, [int .i64 0, int .i64 0], 2⟩, ⟨g1, 27, zV, 67⟩] ++ HD) rfl ?_
 iterate 2 refine gx ?_
 refine qC [2, 3, 4, 5] ?_
 iterate 4 refine gx ?_
 refine qB (qA rfl) rfl (qm rfl (vs := []) rfl (fun w => by first | rfl | kernel_rfl) (v := .agg ([int .i64 0, int .i64 0]).toArray)) ?_
 refine qB (qA rfl) rfl (qP (Gets.pairEq rfl Tryz.underlying30 (by decide) (by decide) rfl rfl Tryz.underlying28 Tryz.underlying3 sih30 geq30 rfl rfl) ⟨rfl, rfl⟩) ?_
 iterate 2 refine gx ?_
 refine qd rfl ?_
 refine gx ?_
 refine qB (qA rfl) rfl (qg rfl agg27 size27 rfl (vs := dV ((rDec B).o) ((rDec B).n) ((rDec B).h1) ((rDec B).h2) (slice AD (((rDec B).Cs.length)) cD)) (by simp [hl1, hl2]) (qQ (i := 1) (ent := ⟨g3, 27, dV ((rDec B).o) ((rDec B).n) ((rDec B).h1) ((rDec B).h2) (slice AD (((rDec B).Cs.length)) cD), 67⟩) rfl rfl rfl)) ?_
 refine qM (qA rfl) rfl enters14 rfl rfl (v := .agg ([int .i64 ((FI B).1), int .i64 ((FI B).2)]).toArray) (fun w hs => (dcheck_c (rDec B).o (rDec B).n (rDec B).h1 (rDec B).h2 hl1 hl2 AD (((rDec B).Cs.length)) cD ED (by omega) hoD.num w (hoD.src (fun e he => hs.has e (by simp [he]))) (hoD.dat (fun e he => hs.has e (by simp [he]))) ⟨by omega, by omega⟩ ⟨by omega, by omega⟩).mono fun e w' h => by rw [hfi] at h; exact h) ?_
 refine qn (qA rfl) rfl rfl size30 rfl (vs := [int .i64 ((FI B).1), int .i64 ((FI B).2)]) rfl (by simp []) (by simp [Value.oneCell']) (i := 0) (ent := ⟨g4, 30, [int .i64 0, int .i64 0], 2⟩) rfl rfl (by simp []) (H' := [⟨g4, 30, [int .i64 ((FI B).1), int .i64 ((FI B).2)], 2⟩, ⟨g3, 27, dV ((rDec B).o) ((rDec B).n) ((rDec B).h1) ((rDec B).h2) (slice AD (((rDec B).Cs.length)) cD), 67⟩, ⟨g2, 30, [int .i64 0, int .i64 0], 2⟩, ⟨g1, 27, zV, 67⟩] ++ HD) rfl ?_
 iterate 2 refine gx ?_
 refine qC [2, 3, 4, 5] ?_
 iterate 4 refine gx ?_
 refine qB (qA rfl) rfl (qm rfl (vs := []) rfl (fun w => by first | rfl | kernel_rfl) (v := .agg ([int .i64 0, int .i64 0]).toArray)) ?_
 refine qB (qA rfl) rfl (qP (Gets.pairNe rfl Tryz.underlying30 (by decide) (by decide) rfl rfl Tryz.underlying28 Tryz.underlying3 sih30 geq30 rfl rfl) (fun h => hfl h.1)) ?_
 iterate 2 refine gx ?_
 refine qd rfl ?_
 refine gx ?_
 refine qe (H' := [⟨g4, 30, [int .i64 ((FI B).1), int .i64 ((FI B).2)], 2⟩] ++ ([⟨g3, 27, dV ((rDec B).o) ((rDec B).n) ((rDec B).h1) ((rDec B).h2) (slice AD (((rDec B).Cs.length)) cD), 67⟩, ⟨g2, 30, [int .i64 0, int .i64 0], 2⟩, ⟨g1, 27, zV, 67⟩] ++ HD)) (fun w h => h) ?_
 refine TC.mixB (HB := [Ent.mk g4 30 ([int .i64 ((FI B).1), int .i64 ((FI B).2)]) 2]) (H := [Ent.mk g3 27 (dV ((rDec B).o) ((rDec B).n) ((rDec B).h1) ((rDec B).h2) (slice AD (((rDec B).Cs.length)) cD)) 67, Ent.mk g2 30 ([int .i64 0, int .i64 0]) 2, Ent.mk g1 27 (zV) 67] ++ HD) (by kernel_rfl) [0, 0, 8, 8] [0, 1, 2, 3] (by kernel_rfl) ?_
 refine qz (qA rfl) rfl (fun _ => qm rfl (vs := []) rfl (fun w => by first | rfl | kernel_rfl) (v := .agg (zV).toArray)) ?_
 refine zO (qA rfl) rfl (fun H' => qg rfl agg30 size30 rfl (vs := [int .i64 ((FI B).1), int .i64 ((FI B).2)]) (by simp []) (qQ (i := 0) (ent := ⟨g4, 30, [int .i64 ((FI B).1), int .i64 ((FI B).2)], 2⟩) rfl rfl rfl)) ?_
 refine TP.storeW (qA rfl) rfl rfl size27 rfl (vs := zV) rfl (by simp []) (qa (by simp [Value.oneCell']) (qa qb (qa qb (by simp [Value.oneCell'])))) (i := 3) (ent := ⟨g1, 27, zV, 67⟩) rfl rfl (by simp []) (H' := [⟨g3, 27, dV ((rDec B).o) ((rDec B).n) ((rDec B).h1) ((rDec B).h2) (slice AD (((rDec B).Cs.length)) cD), 67⟩, ⟨g2, 30, [int .i64 0, int .i64 0], 2⟩, ⟨g1, 27, zV, 67⟩] ++ HD) rfl ?_
 refine TP.storeW (qA rfl) rfl rfl size30 rfl (vs := [int .i64 ((FI B).1), int .i64 ((FI B).2)]) rfl (by simp []) (by simp [Value.oneCell']) (i := 2) (ent := ⟨g2, 30, [int .i64 0, int .i64 0], 2⟩) rfl rfl (by simp []) (H' := [⟨g3, 27, dV ((rDec B).o) ((rDec B).n) ((rDec B).h1) ((rDec B).h2) (slice AD (((rDec B).Cs.length)) cD), 67⟩, ⟨g2, 30, [int .i64 ((FI B).1), int .i64 ((FI B).2)], 2⟩, ⟨g1, 27, zV, 67⟩] ++ HD) rfl ?_
 refine TP.nil ?_
 refine zU (H' := [⟨g4, 30, [int .i64 ((FI B).1), int .i64 ((FI B).2)], 2⟩, ⟨g3, 27, dV ((rDec B).o) ((rDec B).n) ((rDec B).h1) ((rDec B).h2) (slice AD (((rDec B).Cs.length)) cD), 67⟩, ⟨g2, 30, [int .i64 ((FI B).1), int .i64 ((FI B).2)], 2⟩, ⟨g1, 27, zV, 67⟩] ++ HD) (fun w h => h) ?_
 iterate 3 refine gx ?_
 exact TE.ret2CC rfl agg27 size27 agg30 size30 rfl (vs := zV) (by simp []) (qQ (i := 3) (ent := ⟨g1, 27, zV, 67⟩) rfl rfl rfl) rfl (us := [int .i64 ((FI B).1), int .i64 ((FI B).2)]) rfl (qQ (i := 2) (ent := ⟨g2, 30, [int .i64 ((FI B).1), int .i64 ((FI B).2)], 2⟩) rfl rfl rfl) (fun w hs => ⟨rfl, St.left (H := []) ((((hs.drop (by assumption)).drop (by assumption)).drop (by assumption)).drop (by assumption)) hFD⟩)
theorem fload_good (B : List Int) (A : Option Addr) (m c : Nat) (w : World) (hsB : Src w A m .u8 B) (hBB : Bytes B) (hmc : m ≤ c) (hcm : c ≤ 9223372036854775807) (hm : m ≤ 100000) (hco : (rDec B).s.co = 0) (hfl : (FI B).1 = 0) : Calls Tryz.prog 5 #[.slice A m c] w fun e w' => ∃ (A' : Option Addr) (c' : Nat) (Es : List CV) (He : List Ent), e = .returned (.tuple #[.agg ([int .i64 (rDec B).o, int .i64 (rDec B).n] ++ ((rDec B).h1.map (int .u8) ++ ((rDec B).h2.map (int .u8) ++ [slice A' (rDec B).Cs.length c']))).toArray, .agg ([int .i64 0, int .i64 0]).toArray]) ∧ ((rDec B).Cs.length ≤ c' ∧ c' ≤ 9223372036854775807) ∧ OwnD w.heap.size A' (rDec B).Cs.length Es He ∧ Es.map cmC = (rDec B).Cs ∧ St w He w' := by
 have hbk := rDec_back hBB hco
 have hl1 := hbk.2.2.1
 have hl2 := hbk.2.2.2.1
 have hlC := hbk.2.2.2.2.2.2.1
 have hBm := hsB.1
 have hbo := hbk.1
 have hbn := hbk.2.1
 unfold inR at hbo hbn
 refine qL (args := [.slice A m c]) Tryz.func5 rfl Tryz.ntmps5 (by simp) ?_
 refine qC [0] ?_
 iterate 2 refine gx ?_
 refine zB (qA rfl) rfl rfl zero27 (cs := zV) (by first | rfl | kernel_rfl) (tot := 67) (by simp) (fun g1 hg1 => ?_)
 refine qc (fun g2 hg2 => ?_)
 iterate 5 refine gx ?_
 refine qY (ι := (Option Addr × Nat) × List CV × List Ent) (V := fun y => .tuple #[.agg ([int .i64 (rDec B).o, int .i64 (rDec B).n] ++ ((rDec B).h1.map (int .u8) ++ ((rDec B).h2.map (int .u8) ++ [slice y.1.1 (rDec B).Cs.length y.1.2]))).toArray, .agg ([int .i64 0, int .i64 0]).toArray]) (R := fun y => ((rDec B).Cs.length ≤ y.1.2 ∧ y.1.2 ≤ 9223372036854775807) ∧ OwnD w.heap.size y.1.1 (rDec B).Cs.length y.2.1 y.2.2 ∧ y.2.1.map cmC = (rDec B).Cs ∧ ∀ x ∈ y.2.1, x.B.length = x.m) (H' := fun y => [⟨g2, 30, [int .i64 0, int .i64 0], 2⟩, ⟨g1, 27, zV, 67⟩] ++ y.2.2) (qA rfl) rfl enters12 rfl rfl (fun w hs => (fdec_good B A m c w (hsB.at_ hs (fun b hb => (qE (by show g2 ≠ b; omega) (qE (by show g1 ≠ b; omega) qF)))) hBB (by omega) (by omega) (by omega) hco).mono fun e w' ⟨A', c', Fs, He, he, hc, ho, hsm, hw⟩ => ⟨((A', c'), (Fs, He)), he, ⟨hc, ho.mono hs.size, hsm, ownD_len ho (fun e he => hw.has e he)⟩, st_call hs hw ho.1⟩) (fun y hR => ?_)
 obtain ⟨⟨AD, cD⟩, ED, HD⟩ := y
 obtain ⟨hcD, hoD, hEd, hED⟩ := hR
 dsimp only at hcD hoD hEd hED ⊢
 have hFD : Fresh w HD := hoD.1
 have hfi := fi_is hEd hED
 iterate 3 refine gx ?_
 refine zB (qA rfl) rfl rfl zero27 (cs := zV) (by first | rfl | kernel_rfl) (tot := 67) (by simp) (fun g3 hg3 => ?_)
 refine qc (fun g4 hg4 => ?_)
 refine qn (qA rfl) rfl rfl size27 rfl (vs := dV ((rDec B).o) ((rDec B).n) ((rDec B).h1) ((rDec B).h2) (slice AD (((rDec B).Cs.length)) cD)) rfl (by simp [hl1, hl2]) (qa (by simp [Value.oneCell']) (qa qb (qa qb (by simp [Value.oneCell'])))) (i := 1) (ent := ⟨g3, 27, zV, 67⟩) rfl rfl (by simp []) (H' := [⟨g4, 30, [int .i64 0, int .i64 0], 2⟩, ⟨g3, 27, dV ((rDec B).o) ((rDec B).n) ((rDec B).h1) ((rDec B).h2) (slice AD (((rDec B).Cs.length)) cD), 67⟩, ⟨g2, 30, [int .i64 0, int .i64 0], 2⟩, ⟨g1, 27, zV, 67⟩] ++ HD) rfl ?_
 refine qn (qA rfl) rfl rfl size30 rfl (vs := [int .i64 0, int .i64 0]) rfl (by simp []) (by simp [Value.oneCell']) (i := 0) (ent := ⟨g4, 30, [int .i64 0, int .i64 0], 2⟩) rfl rfl (by simp []) (H' := [⟨g4, 30, [int .i64 0, int .i64 0], 2⟩, ⟨g3, 27, dV ((rDec B).o) ((rDec B).n) ((rDec B).h1) ((rDec B).h2) (slice AD (((rDec B).Cs.length)) cD), 67⟩, ⟨g2, 30, [int .i64 0, int .i64 0], 2⟩, ⟨g1, 27, zV, 67⟩] ++ HD) rfl ?_
 iterate 2 refine gx ?_
 refine qC [2, 3, 4, 5] ?_
 iterate 4 refine gx ?_
 refine qB (qA rfl) rfl (qm rfl (vs := []) rfl (fun w => by first | rfl | kernel_rfl) (v := .agg ([int .i64 0, int .i64 0]).toArray)) ?_
 refine qB (qA rfl) rfl (qP (Gets.pairEq rfl Tryz.underlying30 (by decide) (by decide) rfl rfl Tryz.underlying28 Tryz.underlying3 sih30 geq30 rfl rfl) ⟨rfl, rfl⟩) ?_
 iterate 2 refine gx ?_
 refine qd rfl ?_
 refine gx ?_
 refine qB (qA rfl) rfl (qg rfl agg27 size27 rfl (vs := dV ((rDec B).o) ((rDec B).n) ((rDec B).h1) ((rDec B).h2) (slice AD (((rDec B).Cs.length)) cD)) (by simp [hl1, hl2]) (qQ (i := 1) (ent := ⟨g3, 27, dV ((rDec B).o) ((rDec B).n) ((rDec B).h1) ((rDec B).h2) (slice AD (((rDec B).Cs.length)) cD), 67⟩) rfl rfl rfl)) ?_
 refine qM (qA rfl) rfl enters14 rfl rfl (v := .agg ([int .i64 ((FI B).1), int .i64 ((FI B).2)]).toArray) (fun w hs => (dcheck_c (rDec B).o (rDec B).n (rDec B).h1 (rDec B).h2 hl1 hl2 AD (((rDec B).Cs.length)) cD ED (by omega) hoD.num w (hoD.src (fun e he => hs.has e (by simp [he]))) (hoD.dat (fun e he => hs.has e (by simp [he]))) ⟨by omega, by omega⟩ ⟨by omega, by omega⟩).mono fun e w' h => by rw [hfi] at h; exact h) ?_
 refine qn (qA rfl) rfl rfl size30 rfl (vs := [int .i64 ((FI B).1), int .i64 ((FI B).2)]) rfl (by simp []) (by simp [Value.oneCell']) (i := 0) (ent := ⟨g4, 30, [int .i64 0, int .i64 0], 2⟩) rfl rfl (by simp []) (H' := [⟨g4, 30, [int .i64 ((FI B).1), int .i64 ((FI B).2)], 2⟩, ⟨g3, 27, dV ((rDec B).o) ((rDec B).n) ((rDec B).h1) ((rDec B).h2) (slice AD (((rDec B).Cs.length)) cD), 67⟩, ⟨g2, 30, [int .i64 0, int .i64 0], 2⟩, ⟨g1, 27, zV, 67⟩] ++ HD) rfl ?_
 iterate 2 refine gx ?_
 refine qC [2, 3, 4, 5] ?_
 iterate 4 refine gx ?_
 refine qB (qA rfl) rfl (qm rfl (vs := []) rfl (fun w => by first | rfl | kernel_rfl) (v := .agg ([int .i64 0, int .i64 0]).toArray)) ?_
 refine qB (qA rfl) rfl (qU (Gets.pairNe rfl Tryz.underlying30 (by decide) (by decide) rfl rfl Tryz.underlying28 Tryz.underlying3 sih30 geq30 rfl rfl) (fun h => h ⟨hfl, fi_zero hfl⟩)) ?_
 iterate 2 refine gx ?_
 refine qW rfl ?_
 iterate 4 refine gx ?_
 refine qB (qA rfl) rfl (qg rfl agg27 size27 rfl (vs := dV ((rDec B).o) ((rDec B).n) ((rDec B).h1) ((rDec B).h2) (slice AD (((rDec B).Cs.length)) cD)) (by simp [hl1, hl2]) (qQ (i := 1) (ent := ⟨g3, 27, dV ((rDec B).o) ((rDec B).n) ((rDec B).h1) ((rDec B).h2) (slice AD (((rDec B).Cs.length)) cD), 67⟩) rfl rfl rfl)) ?_
 refine qB (qA rfl) rfl (qm rfl (vs := []) rfl (fun w => by first | rfl | kernel_rfl) (v := .agg ([int .i64 0, int .i64 0]).toArray)) ?_
 refine qn (qA rfl) rfl rfl size27 rfl (vs := dV ((rDec B).o) ((rDec B).n) ((rDec B).h1) ((rDec B).h2) (slice AD (((rDec B).Cs.length)) cD)) rfl (by simp [hl1, hl2]) (qa (by simp [Value.oneCell']) (qa qb (qa qb (by simp [Value.oneCell'])))) (i := 3) (ent := ⟨g1, 27, zV, 67⟩) rfl rfl (by simp []) (H' := [⟨g4, 30, [int .i64 ((FI B).1), int .i64 ((FI B).2)], 2⟩, ⟨g3, 27, dV ((rDec B).o) ((rDec B).n) ((rDec B).h1) ((rDec B).h2) (slice AD (((rDec B).Cs.length)) cD), 67⟩, ⟨g2, 30, [int .i64 0, int .i64 0], 2⟩, ⟨g1, 27, dV ((rDec B).o) ((rDec B).n) ((rDec B).h1) ((rDec B).h2) (slice AD (((rDec B).Cs.length)) cD), 67⟩] ++ HD) rfl ?_
 refine qn (qA rfl) rfl rfl size30 rfl (vs := [int .i64 0, int .i64 0]) rfl (by simp []) (by simp [Value.oneCell']) (i := 2) (ent := ⟨g2, 30, [int .i64 0, int .i64 0], 2⟩) rfl rfl (by simp []) (H' := [⟨g4, 30, [int .i64 ((FI B).1), int .i64 ((FI B).2)], 2⟩, ⟨g3, 27, dV ((rDec B).o) ((rDec B).n) ((rDec B).h1) ((rDec B).h2) (slice AD (((rDec B).Cs.length)) cD), 67⟩, ⟨g2, 30, [int .i64 0, int .i64 0], 2⟩, ⟨g1, 27, dV ((rDec B).o) ((rDec B).n) ((rDec B).h1) ((rDec B).h2) (slice AD (((rDec B).Cs.length)) cD), 67⟩] ++ HD) rfl ?_
 iterate 3 refine gx ?_
 exact TE.ret2CC rfl agg27 size27 agg30 size30 rfl (vs := dV ((rDec B).o) ((rDec B).n) ((rDec B).h1) ((rDec B).h2) (slice AD (((rDec B).Cs.length)) cD)) (by simp [hl1, hl2]) (qQ (i := 3) (ent := ⟨g1, 27, dV ((rDec B).o) ((rDec B).n) ((rDec B).h1) ((rDec B).h2) (slice AD (((rDec B).Cs.length)) cD), 67⟩) rfl rfl rfl) rfl (us := [int .i64 0, int .i64 0]) rfl (qQ (i := 2) (ent := ⟨g2, 30, [int .i64 0, int .i64 0], 2⟩) rfl rfl rfl) (fun w hs => ⟨AD, cD, ED, HD, rfl, hcD, hoD, hEd, ((((hs.drop (by assumption)).drop (by assumption)).drop (by assumption)).drop (by assumption))⟩)
/-
 The reference of layer 7: Load.
-/
theorem enters15 : Enters Tryz.prog 15 := ⟨_, Tryz.func15, by kernel_rfl, by kernel_rfl⟩
theorem enters16 : Enters Tryz.prog 16 := ⟨_, Tryz.func16, by kernel_rfl, by kernel_rfl⟩
theorem rload_bad (B : List Int) (A : Option Addr) (m c : Nat) (w : World) (hsB : Src w A m .u8 B) (hBB : Bytes B) (hmc : m ≤ c) (hcm : c ≤ 9223372036854775807) (hm : m ≤ 100000) (hco : (rDec B).s.co ≠ 0) : Calls Tryz.prog 6 #[.slice A m c] w fun e w' => e = .returned (.tuple #[.agg (zV).toArray, .int .i64 (rDec B).s.co, .int .i64 (rDec B).s.po]) ∧ St w [] w' := by
 refine qL (args := [.slice A m c]) Tryz.func6 rfl Tryz.ntmps6 (by simp) ?_
 refine qC [0] ?_
 iterate 2 refine gx ?_
 refine zB (qA rfl) rfl rfl zero27 (cs := zV) (by first | rfl | kernel_rfl) (tot := 67) (by simp) (fun g1 hg1 => ?_)
 iterate 7 refine gx ?_
 refine qM (qA rfl) rfl enters15 rfl rfl (v := .tuple #[.agg (zV).toArray, .int .i64 ((rDec B).s.co), .int .i64 ((rDec B).s.po)]) (fun w hs => rdec_bad B A m c w (hsB.at_ hs (fun b hb => (qE (by show g1 ≠ b; omega) qF))) hBB (by omega) (by omega) (by omega) hco) ?_
 iterate 4 refine gx ?_
 refine zB (qA rfl) rfl rfl zero27 (cs := zV) (by first | rfl | kernel_rfl) (tot := 67) (by simp) (fun g2 hg2 => ?_)
 refine qn (qA rfl) rfl rfl size27 rfl (vs := zV) rfl (by simp []) (qa (by simp [Value.oneCell']) (qa qb (qa qb (by simp [Value.oneCell'])))) (i := 0) (ent := ⟨g2, 27, zV, 67⟩) rfl rfl (by simp []) (H' := [⟨g2, 27, zV, 67⟩, ⟨g1, 27, zV, 67⟩]) rfl ?_
 iterate 4 refine gx ?_
 refine qC [2, 3, 4, 5, 6, 7] ?_
 iterate 4 refine gx ?_
 refine qB (qA rfl) rfl (qU (qo rfl rfl rfl) hco) ?_
 iterate 2 refine gx ?_
 refine qW rfl ?_
 iterate 6 refine gx ?_
 refine qB (qA rfl) rfl (qP (qs rfl rfl rfl) hco) ?_
 iterate 2 refine gx ?_
 refine qC [2, 3, 4, 5, 6, 7, 22] ?_
 refine qd rfl ?_
 iterate 2 refine gx ?_
 refine qB (qA rfl) rfl (qm rfl (vs := []) rfl (fun w => by first | rfl | kernel_rfl) (v := .agg (zV).toArray)) ?_
 iterate 2 refine gx ?_
 refine qn (qA rfl) rfl rfl size27 rfl (vs := zV) rfl (by simp []) (qa (by simp [Value.oneCell']) (qa qb (qa qb (by simp [Value.oneCell'])))) (i := 1) (ent := ⟨g1, 27, zV, 67⟩) rfl rfl (by simp []) (H' := [⟨g2, 27, zV, 67⟩, ⟨g1, 27, zV, 67⟩]) rfl ?_
 iterate 6 refine gx ?_
 exact TE.ret3C rfl agg27 size27 rfl rfl rfl (vs := zV) (by simp []) (qQ (i := 1) (ent := ⟨g1, 27, zV, 67⟩) rfl rfl rfl) (fun w hs => ⟨rfl, ((hs.drop (by assumption)).drop (by assumption))⟩)
theorem rload_fault (B : List Int) (A : Option Addr) (m c : Nat) (w : World) (hsB : Src w A m .u8 B) (hBB : Bytes B) (hmc : m ≤ c) (hcm : c ≤ 9223372036854775807) (hm : m ≤ 100000) (hco : (rDec B).s.co = 0) (hfl : (FI B).1 ≠ 0) : Calls Tryz.prog 6 #[.slice A m c] w fun e w' => e = .returned (.tuple #[.agg (zV).toArray, .int .i64 (FI B).1, .int .i64 (FI B).2]) ∧ St w [] w' := by
 have hbk := rDec_back hBB hco
 have hl1 := hbk.2.2.1
 have hl2 := hbk.2.2.2.1
 have hlC := hbk.2.2.2.2.2.2.1
 have hBm := hsB.1
 have hbo := hbk.1
 have hbn := hbk.2.1
 unfold inR at hbo hbn
 refine qL (args := [.slice A m c]) Tryz.func6 rfl Tryz.ntmps6 (by simp) ?_
 refine qC [0] ?_
 iterate 2 refine gx ?_
 refine zB (qA rfl) rfl rfl zero27 (cs := zV) (by first | rfl | kernel_rfl) (tot := 67) (by simp) (fun g1 hg1 => ?_)
 iterate 7 refine gx ?_
 refine qY (ι := Value × List Ent × List CV) (V := fun y => .tuple #[.agg ([int .i64 (rDec B).o, int .i64 (rDec B).n] ++ ((rDec B).h1.map (int .u8) ++ ((rDec B).h2.map (int .u8) ++ [y.1]))).toArray, .int .i64 0, .int .i64 0]) (R := fun y => OwnS w.heap.size 61 5 y.1 y.2.2.length (flatC y.2.2) y.2.1 ∧ y.2.2.map cmC = (rDec B).Cs ∧ (∀ q ∈ y.2.2, Seg A m c B q.A q.c q.B ∧ q.m = q.B.length)) (H' := fun y => [⟨g1, 27, zV, 67⟩] ++ y.2.1) (qA rfl) rfl enters15 rfl rfl (fun w hs => (rdec_good B A m c w (hsB.at_ hs (fun b hb => (qE (by show g1 ≠ b; omega) qF))) hBB (by omega) (by omega) (by omega) hco).mono fun e w' ⟨v, He, Es, he, ho, hE, hsg, hw⟩ => ⟨(v, He, Es), he, ⟨ho.mono hs.size, hE, hsg⟩, st_call hs hw ho.new⟩) (fun y hR => ?_)
 obtain ⟨vR, HR, ER⟩ := y
 obtain ⟨hoR, hEr, hsgR⟩ := hR
 dsimp only at hoR hEr hsgR ⊢
 have hFR : Fresh w HR := hoR.fr
 obtain ⟨AR, cR, rfl, hcR, hdR⟩ := hoR.form
 have hlR : ER.length = (rDec B).Cs.length := by rw [← hEr, List.length_map]
 have hnR : NumsC ER := nums_seg hBB hco hEr hsgR (by omega) (by omega) (by omega)
 have hfi := fi_is hEr (fun x hx => (hsgR x hx).2.symm)
 iterate 4 refine gx ?_
 refine zB (qA rfl) rfl rfl zero27 (cs := zV) (by first | rfl | kernel_rfl) (tot := 67) (by simp) (fun g2 hg2 => ?_)
 refine qn (qA rfl) rfl rfl size27 rfl (vs := dV ((rDec B).o) ((rDec B).n) ((rDec B).h1) ((rDec B).h2) (slice AR ER.length cR)) rfl (by simp [hl1, hl2]) (qa (by simp [Value.oneCell']) (qa qb (qa qb (by simp [Value.oneCell'])))) (i := 0) (ent := ⟨g2, 27, zV, 67⟩) rfl rfl (by simp []) (H' := [⟨g2, 27, dV ((rDec B).o) ((rDec B).n) ((rDec B).h1) ((rDec B).h2) (slice AR ER.length cR), 67⟩, ⟨g1, 27, zV, 67⟩] ++ HR) rfl ?_
 iterate 4 refine gx ?_
 refine qC [2, 3, 4, 5, 6, 7] ?_
 iterate 4 refine gx ?_
 refine qB (qA rfl) rfl (qP (qo rfl rfl rfl) rfl) ?_
 iterate 2 refine gx ?_
 refine qd rfl ?_
 refine gx ?_
 refine qB (qA rfl) rfl (qg rfl agg27 size27 rfl (vs := dV ((rDec B).o) ((rDec B).n) ((rDec B).h1) ((rDec B).h2) (slice AR ER.length cR)) (by simp [hl1, hl2]) (qQ (i := 0) (ent := ⟨g2, 27, dV ((rDec B).o) ((rDec B).n) ((rDec B).h1) ((rDec B).h2) (slice AR ER.length cR), 67⟩) rfl rfl rfl)) ?_
 refine qM (qA rfl) rfl enters16 rfl rfl (v := .tuple #[.int .i64 ((FI B).1), .int .i64 ((FI B).2)]) (fun w hs => (rdcheck_c (rDec B).o (rDec B).n (rDec B).h1 (rDec B).h2 hl1 hl2 AR ER.length cR ER (by omega) hnR w (hoR.srcC (fun e he => hs.has e (by simp [he])))).mono fun e w' h => by rw [hfi] at h; exact h) ?_
 iterate 7 refine gx ?_
 refine qC [2, 3, 4, 5, 6, 7] ?_
 iterate 4 refine gx ?_
 refine qB (qA rfl) rfl (qP (qs rfl rfl rfl) hfl) ?_
 iterate 2 refine gx ?_
 refine qd rfl ?_
 iterate 2 refine gx ?_
 refine qB (qA rfl) rfl (qm rfl (vs := []) rfl (fun w => by first | rfl | kernel_rfl) (v := .agg (zV).toArray)) ?_
 iterate 2 refine gx ?_
 refine qn (qA rfl) rfl rfl size27 rfl (vs := zV) rfl (by simp []) (qa (by simp [Value.oneCell']) (qa qb (qa qb (by simp [Value.oneCell'])))) (i := 1) (ent := ⟨g1, 27, zV, 67⟩) rfl rfl (by simp []) (H' := [⟨g2, 27, dV ((rDec B).o) ((rDec B).n) ((rDec B).h1) ((rDec B).h2) (slice AR ER.length cR), 67⟩, ⟨g1, 27, zV, 67⟩] ++ HR) rfl ?_
 iterate 6 refine gx ?_
 exact TE.ret3C rfl agg27 size27 rfl rfl rfl (vs := zV) (by simp []) (qQ (i := 1) (ent := ⟨g1, 27, zV, 67⟩) rfl rfl rfl) (fun w hs => ⟨rfl, St.left (H := []) ((hs.drop (by assumption)).drop (by assumption)) hFR⟩)
theorem rload_good (B : List Int) (A : Option Addr) (m c : Nat) (w : World) (hsB : Src w A m .u8 B) (hBB : Bytes B) (hmc : m ≤ c) (hcm : c ≤ 9223372036854775807) (hm : m ≤ 100000) (hco : (rDec B).s.co = 0) (hfl : (FI B).1 = 0) : Calls Tryz.prog 6 #[.slice A m c] w fun e w' => ∃ (v : Value) (He : List Ent) (Es : List CV), e = .returned (.tuple #[.agg ([int .i64 (rDec B).o, int .i64 (rDec B).n] ++ ((rDec B).h1.map (int .u8) ++ ((rDec B).h2.map (int .u8) ++ [v]))).toArray, .int .i64 0, .int .i64 0]) ∧ OwnS w.heap.size 61 5 v Es.length (flatC Es) He ∧ Es.map cmC = (rDec B).Cs ∧ (∀ q ∈ Es, Seg A m c B q.A q.c q.B ∧ q.m = q.B.length) ∧ St w He w' := by
 have hbk := rDec_back hBB hco
 have hl1 := hbk.2.2.1
 have hl2 := hbk.2.2.2.1
 have hlC := hbk.2.2.2.2.2.2.1
 have hBm := hsB.1
 have hbo := hbk.1
 have hbn := hbk.2.1
 unfold inR at hbo hbn
 refine qL (args := [.slice A m c]) Tryz.func6 rfl Tryz.ntmps6 (by simp) ?_
 refine qC [0] ?_
 iterate 2 refine gx ?_
 refine zB (qA rfl) rfl rfl zero27 (cs := zV) (by first | rfl | kernel_rfl) (tot := 67) (by simp) (fun g1 hg1 => ?_)
 iterate 7 refine gx ?_
 refine qY (ι := Value × List Ent × List CV) (V := fun y => .tuple #[.agg ([int .i64 (rDec B).o, int .i64 (rDec B).n] ++ ((rDec B).h1.map (int .u8) ++ ((rDec B).h2.map (int .u8) ++ [y.1]))).toArray, .int .i64 0, .int .i64 0]) (R := fun y => OwnS w.heap.size 61 5 y.1 y.2.2.length (flatC y.2.2) y.2.1 ∧ y.2.2.map cmC = (rDec B).Cs ∧ (∀ q ∈ y.2.2, Seg A m c B q.A q.c q.B ∧ q.m = q.B.length)) (H' := fun y => [⟨g1, 27, zV, 67⟩] ++ y.2.1) (qA rfl) rfl enters15 rfl rfl (fun w hs => (rdec_good B A m c w (hsB.at_ hs (fun b hb => (qE (by show g1 ≠ b; omega) qF))) hBB (by omega) (by omega) (by omega) hco).mono fun e w' ⟨v, He, Es, he, ho, hE, hsg, hw⟩ => ⟨(v, He, Es), he, ⟨ho.mono hs.size, hE, hsg⟩, st_call hs hw ho.new⟩) (fun y hR => ?_)
 obtain ⟨vR, HR, ER⟩ := y
 obtain ⟨hoR, hEr, hsgR⟩ := hR
 dsimp only at hoR hEr hsgR ⊢
 have hFR : Fresh w HR := hoR.fr
 obtain ⟨AR, cR, rfl, hcR, hdR⟩ := hoR.form
 have hlR : ER.length = (rDec B).Cs.length := by rw [← hEr, List.length_map]
 have hnR : NumsC ER := nums_seg hBB hco hEr hsgR (by omega) (by omega) (by omega)
 have hfi := fi_is hEr (fun x hx => (hsgR x hx).2.symm)
 iterate 4 refine gx ?_
 refine zB (qA rfl) rfl rfl zero27 (cs := zV) (by first | rfl | kernel_rfl) (tot := 67) (by simp) (fun g2 hg2 => ?_)
 refine qn (qA rfl) rfl rfl size27 rfl (vs := dV ((rDec B).o) ((rDec B).n) ((rDec B).h1) ((rDec B).h2) (slice AR ER.length cR)) rfl (by simp [hl1, hl2]) (qa (by simp [Value.oneCell']) (qa qb (qa qb (by simp [Value.oneCell'])))) (i := 0) (ent := ⟨g2, 27, zV, 67⟩) rfl rfl (by simp []) (H' := [⟨g2, 27, dV ((rDec B).o) ((rDec B).n) ((rDec B).h1) ((rDec B).h2) (slice AR ER.length cR), 67⟩, ⟨g1, 27, zV, 67⟩] ++ HR) rfl ?_
 iterate 4 refine gx ?_
 refine qC [2, 3, 4, 5, 6, 7] ?_
 iterate 4 refine gx ?_
 refine qB (qA rfl) rfl (qP (qo rfl rfl rfl) rfl) ?_
 iterate 2 refine gx ?_
 refine qd rfl ?_
 refine gx ?_
 refine qB (qA rfl) rfl (qg rfl agg27 size27 rfl (vs := dV ((rDec B).o) ((rDec B).n) ((rDec B).h1) ((rDec B).h2) (slice AR ER.length cR)) (by simp [hl1, hl2]) (qQ (i := 0) (ent := ⟨g2, 27, dV ((rDec B).o) ((rDec B).n) ((rDec B).h1) ((rDec B).h2) (slice AR ER.length cR), 67⟩) rfl rfl rfl)) ?_
 refine qM (qA rfl) rfl enters16 rfl rfl (v := .tuple #[.int .i64 ((FI B).1), .int .i64 ((FI B).2)]) (fun w hs => (rdcheck_c (rDec B).o (rDec B).n (rDec B).h1 (rDec B).h2 hl1 hl2 AR ER.length cR ER (by omega) hnR w (hoR.srcC (fun e he => hs.has e (by simp [he])))).mono fun e w' h => by rw [hfi] at h; exact h) ?_
 iterate 7 refine gx ?_
 refine qC [2, 3, 4, 5, 6, 7] ?_
 iterate 4 refine gx ?_
 refine qB (qA rfl) rfl (qU (qs rfl rfl rfl) (fun h => h hfl)) ?_
 iterate 2 refine gx ?_
 refine qW rfl ?_
 iterate 4 refine gx ?_
 refine qB (qA rfl) rfl (qg rfl agg27 size27 rfl (vs := dV ((rDec B).o) ((rDec B).n) ((rDec B).h1) ((rDec B).h2) (slice AR ER.length cR)) (by simp [hl1, hl2]) (qQ (i := 0) (ent := ⟨g2, 27, dV ((rDec B).o) ((rDec B).n) ((rDec B).h1) ((rDec B).h2) (slice AR ER.length cR), 67⟩) rfl rfl rfl)) ?_
 refine qn (qA rfl) rfl rfl size27 rfl (vs := dV ((rDec B).o) ((rDec B).n) ((rDec B).h1) ((rDec B).h2) (slice AR ER.length cR)) rfl (by simp [hl1, hl2]) (qa (by simp [Value.oneCell']) (qa qb (qa qb (by simp [Value.oneCell'])))) (i := 1) (ent := ⟨g1, 27, zV, 67⟩) rfl rfl (by simp []) (H' := [⟨g2, 27, dV ((rDec B).o) ((rDec B).n) ((rDec B).h1) ((rDec B).h2) (slice AR ER.length cR), 67⟩, ⟨g1, 27, dV ((rDec B).o) ((rDec B).n) ((rDec B).h1) ((rDec B).h2) (slice AR ER.length cR), 67⟩] ++ HR) rfl ?_
 iterate 5 refine gx ?_
 exact TE.ret3C rfl agg27 size27 rfl rfl rfl (vs := dV ((rDec B).o) ((rDec B).n) ((rDec B).h1) ((rDec B).h2) (slice AR ER.length cR)) (by simp [hl1, hl2]) (qQ (i := 1) (ent := ⟨g1, 27, dV ((rDec B).o) ((rDec B).n) ((rDec B).h1) ((rDec B).h2) (slice AR ER.length cR), 67⟩) rfl rfl rfl) (fun w hs => ⟨_, HR, ER, rfl, hoR, hEr, hsgR, ((hs.drop (by assumption)).drop (by assumption))⟩)
/-
 FormatLoads: the walk.
-/
theorem enters10 : Enters Tryz.prog 10 := ⟨_, Tryz.func10, by kernel_rfl, by kernel_rfl⟩
theorem enters4 : Enters Tryz.prog 4 := ⟨_, Tryz.func4, by kernel_rfl, by kernel_rfl⟩
theorem enters5 : Enters Tryz.prog 5 := ⟨_, Tryz.func5, by kernel_rfl, by kernel_rfl⟩
theorem enters6 : Enters Tryz.prog 6 := ⟨_, Tryz.func6, by kernel_rfl, by kernel_rfl⟩
theorem enters8 : Enters Tryz.prog 8 := ⟨_, Tryz.func8, by kernel_rfl, by kernel_rfl⟩
theorem enters9 : Enters Tryz.prog 9 := ⟨_, Tryz.func9, by kernel_rfl, by kernel_rfl⟩
theorem size28 : (Tryz.prog.info? 28).map (·.size) = some 1 := by kernel_rfl
instance : AgN Tryz.prog 28 := ⟨agg28⟩
instance : Fld Tryz.prog 30 0 0 := ⟨⟨_, _, _, Tryz.underlying30, rfl, size28, rfl⟩⟩
instance : Fld Tryz.prog 30 1 1 := ⟨⟨_, _, _, Tryz.underlying30, rfl, size3, rfl⟩⟩
theorem fl1 (B : List Int) : [B].flatten = B := by simp
theorem fl2 (B : List Int) (n : Nat) : [B.take n, B.drop n].flatten = B := by simp
theorem floads_long (A : Option Addr) (m c : Nat) (B : List Int) (hmc : m ≤ c) (hcm : c ≤ 9223372036854775807) (w : World) (hsB : Src w A m .u8 B) (hBB : Bytes B) (hl : 1000 < m) : Calls Tryz.prog 3 #[.slice A m c] w fun e w' => e = .returned (.bool true) ∧ St w [] w' := by
 refine qL (args := [.slice A m c]) Tryz.func3 rfl Tryz.ntmps3 (by simp) ?_
 refine qC [0] ?_
 iterate 10 refine gx ?_
 refine qB (qA rfl) rfl (qP (zJ rfl rfl rfl) (by omega)) ?_
 iterate 2 refine gx ?_
 refine qd rfl ?_
 iterate 2 refine gx ?_
 refine qM (qA rfl) rfl enters4 rfl rfl (v := .bool true) (fun w hs => alive_c w) ?_
 iterate 5 refine gx ?_
 exact qK rfl rfl (fun w hs => ⟨rfl, hs⟩)
theorem floads_bad (A : Option Addr) (m c : Nat) (B : List Int) (hmc : m ≤ c) (hcm : c ≤ 9223372036854775807) (w : World) (hsB : Src w A m .u8 B) (hBB : Bytes B) (h1 : 1 < w.heap.size) (hIV : RowI w 0 0 8 .u32 IV) (hK : RowI w 1 0 64 .u32 KT) (hl : m ≤ 1000) (hco : (rDec B).s.co ≠ 0) : Calls Tryz.prog 3 #[.slice A m c] w fun e w' => e = .returned (.bool true) ∧ St w [] w' := by
 refine qL (args := [.slice A m c]) Tryz.func3 rfl Tryz.ntmps3 (by simp) ?_
 refine qC [0] ?_
 iterate 10 refine gx ?_
 refine qB (qA rfl) rfl (qU (zJ rfl rfl rfl) (by omega)) ?_
 iterate 2 refine gx ?_
 refine qW rfl ?_
 iterate 5 refine gx ?_
 refine qM (qA rfl) rfl enters5 rfl rfl (v := .tuple #[.agg (zV).toArray, .agg ([int .i64 ((rDec B).s.co), int .i64 ((rDec B).s.po)]).toArray]) (fun w hs => fload_bad B A m c w (hsB.at_ hs (fun b hb => qF)) hBB (by omega) (by omega) (by omega) hco) ?_
 iterate 3 refine gx ?_
 refine zB (qA rfl) rfl rfl zero27 (cs := zD) rfl (tot := 67) (by simp) (fun g1 hg1 => ?_)
 refine qc (fun g2 hg2 => ?_)
 refine qn (qA rfl) rfl rfl size27 rfl (vs := zV) rfl (by simp []) (qa (by simp [Value.oneCell']) (qa qb (qa qb (by simp [Value.oneCell'])))) (i := 1) (ent := ⟨g1, 27, zD, 67⟩) rfl rfl (by simp []) (H' := [⟨g2, 30, [int .i64 0, int .i64 0], 2⟩, ⟨g1, 27, zV, 67⟩]) rfl ?_
 iterate 3 refine gx ?_
 refine qC [0, 2, 3, 4] ?_
 iterate 3 refine gx ?_
 refine qM (qA rfl) rfl enters6 rfl rfl (v := .tuple #[.agg (zV).toArray, .int .i64 ((rDec B).s.co), .int .i64 ((rDec B).s.po)]) (fun w hs => rload_bad B A m c w (hsB.at_ hs (fun b hb => (qE (by show g2 ≠ b; omega) (qE (by show g1 ≠ b; omega) qF)))) hBB (by omega) (by omega) (by omega) hco) ?_
 iterate 4 refine gx ?_
 refine zB (qA rfl) rfl rfl zero27 (cs := zD) rfl (tot := 67) (by simp) (fun g3 hg3 => ?_)
 refine qn (qA rfl) rfl rfl size27 rfl (vs := zV) rfl (by simp []) (qa (by simp [Value.oneCell']) (qa qb (qa qb (by simp [Value.oneCell'])))) (i := 0) (ent := ⟨g3, 27, zD, 67⟩) rfl rfl (by simp []) (H' := [⟨g3, 27, zV, 67⟩, ⟨g2, 30, [int .i64 ((rDec B).s.co), int .i64 ((rDec B).s.po)], 2⟩, ⟨g1, 27, zV, 67⟩]) rfl ?_
 iterate 4 refine gx ?_
 refine qC [0, 2, 3, 4, 5, 6, 7] ?_
 iterate 4 refine gx ?_
 refine qB (qA rfl) rfl (zX (Gets.quo rfl rfl rfl (by omega) (r := ((m : Int) / 2)) (tdiv_pos (by omega) (w64 rfl (by omega)))) (by rw [show ((m : Int) / 2) = ((m / 2 : Nat) : Int) by omega])) ?_
 iterate 3 refine gx ?_
 refine qC [0, 2, 3, 4, 5, 6, 7, 8] ?_
 refine gx ?_
 refine TC.mixS [⟨g3, 27, zV, 67⟩, ⟨g2, 30, [int .i64 ((rDec B).s.co), int .i64 ((rDec B).s.po)], 2⟩, ⟨g1, 27, zV, 67⟩] [] (by kernel_rfl) [1, 0, 1, 1, 1, 0, 0, 0, 1, 0, 0, 0, 0, 0, 1, 0, 0, 0, 0, 0, 0, 0, 0, 0, 0, 0, 0, 0, 3, 1, 0, 1, 0, 0, 0, 0, 0, 0, 0, 0, 0, 3, 1, 0, 3, 1, 0, 0, 0] [0, 1, 2, 3, 4, 5, 6, 7, 8, 9, 10, 11, 12, 13, 14, 15, 16, 17, 18, 19, 20, 21, 22, 23, 24, 25, 26, 27, 30, 28, 29, 31, 32, 33, 34, 35, 36, 37, 38, 39, 40, 43, 41, 42, 44, 45, 46, 47, 48] [fun _ _ => True, fun _ _ => True, fun _ _ => True, fun _ _ => True, fun _ _ => True, fun _ _ => True, fun _ _ => True, fun _ _ => True, fun _ _ => True, fun _ _ => True, fun _ _ => True, fun _ _ => True, fun _ _ => True, fun _ _ => True, fun _ _ => True, fun _ _ => True, fun _ _ => True, fun _ _ => True, fun _ _ => True, fun _ _ => True, fun _ _ => True, fun _ _ => True, fun _ _ => True, fun _ _ => True, fun _ _ => True, fun _ _ => True, fun _ _ => True, fun _ _ => True, fun v d => ∃ g, v = .slice (some ⟨g, 0, none⟩) 1 1 ∧ d = [⟨g, 22, [.slice A m c], 1⟩], fun _ _ => True, fun _ _ => True, fun _ _ => True, fun _ _ => True, fun _ _ => True, fun _ _ => True, fun _ _ => True, fun _ _ => True, fun _ _ => True, fun _ _ => True, fun _ _ => True, fun _ _ => True, fun v d => ∃ g, v = .slice (some ⟨g, 0, none⟩) 2 2 ∧ d = [⟨g, 22, [.slice A (((m / 2))) c, .slice (cutA A c (((m / 2))) 1) (m - ((m / 2))) (c - ((m / 2)))], 2⟩], fun _ _ => True, fun _ _ => True, fun v d => ∃ g, v = .slice (some ⟨g, 0, none⟩) 1 1 ∧ d = [⟨g, 22, [.slice A m c], 1⟩], fun _ _ => True, fun _ _ => True, fun _ _ => True, fun _ _ => True] (by kernel_rfl) (by kernel_rfl) (perm_pick (p := [0, 1, 2]) (by kernel_rfl) rfl) zA ?_
 refine zL (qA rfl) rfl enters4 rfl rfl (v := .bool true) (fun Z w hZ hs => alive_c w) ?_
 refine gx ?_
 refine TR.gets (qJ rfl rfl rfl) rfl (fun Z hZ => qg rfl agg27 size27 rfl (vs := zV) (by simp []) (qQ (i := 2) (ent := ⟨g1, 27, zV, 67⟩) rfl rfl rfl)) ?_
 refine TR.gets (qJ rfl rfl rfl) rfl (fun Z hZ => qg rfl agg27 size27 rfl (vs := zV) (by simp []) (qQ (i := 0) (ent := ⟨g3, 27, zV, 67⟩) rfl rfl rfl)) ?_
 refine zL (qJ rfl rfl rfl) rfl enters7 rfl rfl (v := .bool true) (fun Z w hZ hs => (rdsame_c 0 0 (List.replicate 32 (0 : Int)) (List.replicate 32 (0 : Int)) (by simp) (by simp) none 0 0 [] 0 0 (List.replicate 32 (0 : Int)) (List.replicate 32 (0 : Int)) (by simp) (by simp) none 0 0 [] (by omega) (by omega) (fun i x hx => by simp at hx) w ⟨rfl, .inl rfl⟩ ⟨rfl, .inl rfl⟩ (fun i x hx => by simp at hx) (fun i x hx => by simp at hx)).mono fun e w' h => by rw [decide_eq_true (p := sameD _ _ _ _ _ _ _ _ _ _) ⟨rfl, rfl, rfl, rfl, rfl⟩] at h; exact h) ?_
 iterate 5 refine gx ?_
 refine zK (qJ rfl rfl rfl) rfl (fun _ => qP (qo rfl rfl rfl) rfl) ?_
 iterate 5 refine gx ?_
 refine zK (qJ rfl rfl rfl) rfl (fun _ => qP (qo rfl rfl rfl) rfl) ?_
 iterate 3 refine gx ?_
 refine zK (qJ rfl rfl rfl) rfl (fun _ => qP (qs rfl rfl rfl) hco) ?_
 refine gx ?_
 refine TR.pass rfl rfl rfl rfl rfl ?_
 refine TR.pass rfl rfl rfl rfl rfl ?_
 iterate 5 refine gx ?_
 refine ze (qJ rfl rfl rfl) rfl rfl Tryz.underlying48 size22 zero22 rfl (by decide) (by decide) (cells := #[.slice A m c]) (tot := 1) (by kernel_rfl) (cs := [.slice A m c]) rfl rfl (fun g4 hg4 => ?_)
 refine zL (qJ rfl rfl rfl) rfl enters9 rfl rfl (v := .int .u64 (valB ((shaM B).take 8))) (fun Z w hZ hs => (idc_c [B] (some ⟨g4, 0, none⟩) 1 1 w (parts_one (hs.has (⟨g4, 22, [slice A m c], 1⟩) (by simp)) (hsB.at_ hs (fun b hb => (qV (qE (by show g3 ≠ b; omega) (qE (by show g2 ≠ b; omega) (qE (by show g1 ≠ b; omega) qF))) (qV (qE (by show g4 ≠ b; omega) qF) (hZ.ne hb))))) (by omega)) (by omega) (by omega) (by rw [fl1]; have := hsB.1; omega) (Nat.lt_of_lt_of_le h1 hs.size) (hIV.keepH hs (by omega) (qV (qE (by show g3 ≠ 0; omega) (qE (by show g2 ≠ 0; omega) (qE (by show g1 ≠ 0; omega) qF))) (qV (qE (by show g4 ≠ 0; omega) qF) (hZ.ne (Nat.lt_trans Nat.zero_lt_one h1))))) (hK.keepH hs h1 (qV (qE (by show g3 ≠ 1; omega) (qE (by show g2 ≠ 1; omega) (qE (by show g1 ≠ 1; omega) qF))) (qV (qE (by show g4 ≠ 1; omega) qF) (hZ.ne h1))))).mono fun e w' h => by rw [fl1] at h; exact h) ?_
 refine zL (qJ rfl rfl rfl) rfl enters10 rfl rfl (v := .int .u64 (valB ((shaM B).take 8))) (fun Z w hZ hs => ridc_c B A m c w (hsB.at_ hs (fun b hb => (qV (qE (by show g3 ≠ b; omega) (qE (by show g2 ≠ b; omega) (qE (by show g1 ≠ b; omega) qF))) (qV (qE (by show g4 ≠ b; omega) qF) (hZ.ne hb))))) (by omega) (by omega) (by omega)) ?_
 refine zK (qJ rfl rfl rfl) rfl (fun _ => qP (qo rfl rfl rfl) rfl) ?_
 iterate 4 refine gx ?_
 refine zK (qJ rfl rfl rfl) rfl (fun _ => zP rfl Tryz.underlying22 size5 rfl bnd.dflt (bnd.at_ (l := (((m / 2)))) rfl (by omega)) (by omega) (by omega) (cutA_zero _ _ _) (ln := (((m / 2)))) (cp := c) (by omega) (by omega)) ?_
 iterate 2 refine gx ?_
 refine zK (qJ rfl rfl rfl) rfl (fun _ => zP rfl Tryz.underlying22 size5 rfl (bnd.at_ (l := (((m / 2)))) rfl (by omega)) bnd.dflt (by omega) (by omega) rfl (ln := (m - ((m / 2)))) (cp := (c - ((m / 2)))) (by omega) (by omega)) ?_
 refine gx ?_
 refine ze (qJ rfl rfl rfl) rfl rfl Tryz.underlying48 size22 zero22 rfl (by decide) (by decide) (cells := #[.slice A (((m / 2))) c, .slice (cutA A c (((m / 2))) 1) (m - ((m / 2))) (c - ((m / 2)))]) (tot := 2) (by kernel_rfl) (cs := [.slice A (((m / 2))) c, .slice (cutA A c (((m / 2))) 1) (m - ((m / 2))) (c - ((m / 2)))]) rfl rfl (fun g5 hg5 => ?_)
 refine zL (qJ rfl rfl rfl) rfl enters9 rfl rfl (v := .int .u64 (valB ((shaM B).take 8))) (fun Z w hZ hs => (idc_c [B.take (m / 2), B.drop (m / 2)] (some ⟨g5, 0, none⟩) 2 2 w (parts_two (hs.has (⟨g5, 22, [slice A (((m / 2))) c, slice (cutA A c (((m / 2))) 1) (m - ((m / 2))) (c - ((m / 2)))], 2⟩) (by simp)) ((hsB.at_ hs (fun b hb => (qV (qE (by show g3 ≠ b; omega) (qE (by show g2 ≠ b; omega) (qE (by show g1 ≠ b; omega) qF))) (qV (qE (by show g4 ≠ b; omega) (qE (by show g5 ≠ b; omega) qF)) (hZ.ne hb))))).head (by omega)) (by omega) (((hsB.at_ hs (fun b hb => (qV (qE (by show g3 ≠ b; omega) (qE (by show g2 ≠ b; omega) (qE (by show g1 ≠ b; omega) qF))) (qV (qE (by show g4 ≠ b; omega) (qE (by show g5 ≠ b; omega) qF)) (hZ.ne hb))))).toX0.drop (l := m / 2) (by omega) (by omega)).src) (by omega)) (by omega) (by omega) (by rw [fl2]; have := hsB.1; omega) (Nat.lt_of_lt_of_le h1 hs.size) (hIV.keepH hs (by omega) (qV (qE (by show g3 ≠ 0; omega) (qE (by show g2 ≠ 0; omega) (qE (by show g1 ≠ 0; omega) qF))) (qV (qE (by show g4 ≠ 0; omega) (qE (by show g5 ≠ 0; omega) qF)) (hZ.ne (Nat.lt_trans Nat.zero_lt_one h1))))) (hK.keepH hs h1 (qV (qE (by show g3 ≠ 1; omega) (qE (by show g2 ≠ 1; omega) (qE (by show g1 ≠ 1; omega) qF))) (qV (qE (by show g4 ≠ 1; omega) (qE (by show g5 ≠ 1; omega) qF)) (hZ.ne h1))))).mono fun e w' h => by rw [fl2] at h; exact h) ?_
 refine ze (qJ rfl rfl rfl) rfl rfl Tryz.underlying48 size22 zero22 rfl (by decide) (by decide) (cells := #[.slice A m c]) (tot := 1) (by kernel_rfl) (cs := [.slice A m c]) rfl rfl (fun g6 hg6 => ?_)
 refine zL (qJ rfl rfl rfl) rfl enters9 rfl rfl (v := .int .u64 (valB ((shaM B).take 8))) (fun Z w hZ hs => (idc_c [B] (some ⟨g6, 0, none⟩) 1 1 w (parts_one (hs.has (⟨g6, 22, [slice A m c], 1⟩) (by simp)) (hsB.at_ hs (fun b hb => (qV (qE (by show g3 ≠ b; omega) (qE (by show g2 ≠ b; omega) (qE (by show g1 ≠ b; omega) qF))) (qV (qE (by show g4 ≠ b; omega) (qE (by show g5 ≠ b; omega) (qE (by show g6 ≠ b; omega) qF))) (hZ.ne hb))))) (by omega)) (by omega) (by omega) (by rw [fl1]; have := hsB.1; omega) (Nat.lt_of_lt_of_le h1 hs.size) (hIV.keepH hs (by omega) (qV (qE (by show g3 ≠ 0; omega) (qE (by show g2 ≠ 0; omega) (qE (by show g1 ≠ 0; omega) qF))) (qV (qE (by show g4 ≠ 0; omega) (qE (by show g5 ≠ 0; omega) (qE (by show g6 ≠ 0; omega) qF))) (hZ.ne (Nat.lt_trans Nat.zero_lt_one h1))))) (hK.keepH hs h1 (qV (qE (by show g3 ≠ 1; omega) (qE (by show g2 ≠ 1; omega) (qE (by show g1 ≠ 1; omega) qF))) (qV (qE (by show g4 ≠ 1; omega) (qE (by show g5 ≠ 1; omega) (qE (by show g6 ≠ 1; omega) qF))) (hZ.ne h1))))).mono fun e w' h => by rw [fl1] at h; exact h) ?_
 refine zK (qJ rfl rfl rfl) rfl (fun _ => qP (qo rfl rfl rfl) rfl) ?_
 iterate 3 refine gx ?_
 refine zU (H' := []) (fun w h => St.left (H := []) h (zZ (qx (by assumption) (qx (by assumption) (qx (by assumption) zA))) (zZ (zZ (zZ (zZ zA (qx (by assumption) zA)) (qx (by assumption) zA)) (qx (by assumption) zA)) zA))) ?_
 iterate 2 refine gx ?_
 exact qK rfl rfl (fun w hs => ⟨rfl, hs⟩)
theorem floads_fault (A : Option Addr) (m c : Nat) (B : List Int) (hmc : m ≤ c) (hcm : c ≤ 9223372036854775807) (w : World) (hsB : Src w A m .u8 B) (hBB : Bytes B) (h1 : 1 < w.heap.size) (hIV : RowI w 0 0 8 .u32 IV) (hK : RowI w 1 0 64 .u32 KT) (hl : m ≤ 1000) (hco : (rDec B).s.co = 0) (hfl : (FI B).1 ≠ 0) : Calls Tryz.prog 3 #[.slice A m c] w fun e w' => e = .returned (.bool true) ∧ St w [] w' := by
 refine qL (args := [.slice A m c]) Tryz.func3 rfl Tryz.ntmps3 (by simp) ?_
 refine qC [0] ?_
 iterate 10 refine gx ?_
 refine qB (qA rfl) rfl (qU (zJ rfl rfl rfl) (by omega)) ?_
 iterate 2 refine gx ?_
 refine qW rfl ?_
 iterate 5 refine gx ?_
 refine qM (qA rfl) rfl enters5 rfl rfl (v := .tuple #[.agg (zV).toArray, .agg ([int .i64 ((FI B).1), int .i64 ((FI B).2)]).toArray]) (fun w hs => fload_fault B A m c w (hsB.at_ hs (fun b hb => qF)) hBB (by omega) (by omega) (by omega) hco hfl) ?_
 iterate 3 refine gx ?_
 refine zB (qA rfl) rfl rfl zero27 (cs := zD) rfl (tot := 67) (by simp) (fun g1 hg1 => ?_)
 refine qc (fun g2 hg2 => ?_)
 refine qn (qA rfl) rfl rfl size27 rfl (vs := zV) rfl (by simp []) (qa (by simp [Value.oneCell']) (qa qb (qa qb (by simp [Value.oneCell'])))) (i := 1) (ent := ⟨g1, 27, zD, 67⟩) rfl rfl (by simp []) (H' := [⟨g2, 30, [int .i64 0, int .i64 0], 2⟩, ⟨g1, 27, zV, 67⟩]) rfl ?_
 iterate 3 refine gx ?_
 refine qC [0, 2, 3, 4] ?_
 iterate 3 refine gx ?_
 refine qM (qA rfl) rfl enters6 rfl rfl (v := .tuple #[.agg (zV).toArray, .int .i64 ((FI B).1), .int .i64 ((FI B).2)]) (fun w hs => rload_fault B A m c w (hsB.at_ hs (fun b hb => (qE (by show g2 ≠ b; omega) (qE (by show g1 ≠ b; omega) qF)))) hBB (by omega) (by omega) (by omega) hco hfl) ?_
 iterate 4 refine gx ?_
 refine zB (qA rfl) rfl rfl zero27 (cs := zD) rfl (tot := 67) (by simp) (fun g3 hg3 => ?_)
 refine qn (qA rfl) rfl rfl size27 rfl (vs := zV) rfl (by simp []) (qa (by simp [Value.oneCell']) (qa qb (qa qb (by simp [Value.oneCell'])))) (i := 0) (ent := ⟨g3, 27, zD, 67⟩) rfl rfl (by simp []) (H' := [⟨g3, 27, zV, 67⟩, ⟨g2, 30, [int .i64 ((FI B).1), int .i64 ((FI B).2)], 2⟩, ⟨g1, 27, zV, 67⟩]) rfl ?_
 iterate 4 refine gx ?_
 refine qC [0, 2, 3, 4, 5, 6, 7] ?_
 iterate 4 refine gx ?_
 refine qB (qA rfl) rfl (zX (Gets.quo rfl rfl rfl (by omega) (r := ((m : Int) / 2)) (tdiv_pos (by omega) (w64 rfl (by omega)))) (by rw [show ((m : Int) / 2) = ((m / 2 : Nat) : Int) by omega])) ?_
 iterate 3 refine gx ?_
 refine qC [0, 2, 3, 4, 5, 6, 7, 8] ?_
 refine gx ?_
 refine TC.mixS [⟨g3, 27, zV, 67⟩, ⟨g2, 30, [int .i64 ((FI B).1), int .i64 ((FI B).2)], 2⟩, ⟨g1, 27, zV, 67⟩] [] (by kernel_rfl) [1, 0, 1, 1, 1, 0, 0, 0, 1, 0, 0, 0, 0, 0, 1, 0, 0, 0, 0, 0, 0, 0, 0, 0, 0, 0, 0, 0, 3, 1, 0, 1, 0, 0, 0, 0, 0, 0, 0, 0, 0, 3, 1, 0, 3, 1, 0, 0, 0] [0, 1, 2, 3, 4, 5, 6, 7, 8, 9, 10, 11, 12, 13, 14, 15, 16, 17, 18, 19, 20, 21, 22, 23, 24, 25, 26, 27, 30, 28, 29, 31, 32, 33, 34, 35, 36, 37, 38, 39, 40, 43, 41, 42, 44, 45, 46, 47, 48] [fun _ _ => True, fun _ _ => True, fun _ _ => True, fun _ _ => True, fun _ _ => True, fun _ _ => True, fun _ _ => True, fun _ _ => True, fun _ _ => True, fun _ _ => True, fun _ _ => True, fun _ _ => True, fun _ _ => True, fun _ _ => True, fun _ _ => True, fun _ _ => True, fun _ _ => True, fun _ _ => True, fun _ _ => True, fun _ _ => True, fun _ _ => True, fun _ _ => True, fun _ _ => True, fun _ _ => True, fun _ _ => True, fun _ _ => True, fun _ _ => True, fun _ _ => True, fun v d => ∃ g, v = .slice (some ⟨g, 0, none⟩) 1 1 ∧ d = [⟨g, 22, [.slice A m c], 1⟩], fun _ _ => True, fun _ _ => True, fun _ _ => True, fun _ _ => True, fun _ _ => True, fun _ _ => True, fun _ _ => True, fun _ _ => True, fun _ _ => True, fun _ _ => True, fun _ _ => True, fun _ _ => True, fun v d => ∃ g, v = .slice (some ⟨g, 0, none⟩) 2 2 ∧ d = [⟨g, 22, [.slice A (((m / 2))) c, .slice (cutA A c (((m / 2))) 1) (m - ((m / 2))) (c - ((m / 2)))], 2⟩], fun _ _ => True, fun _ _ => True, fun v d => ∃ g, v = .slice (some ⟨g, 0, none⟩) 1 1 ∧ d = [⟨g, 22, [.slice A m c], 1⟩], fun _ _ => True, fun _ _ => True, fun _ _ => True, fun _ _ => True] (by kernel_rfl) (by kernel_rfl) (perm_pick (p := [0, 1, 2]) (by kernel_rfl) rfl) zA ?_
 refine zL (qA rfl) rfl enters4 rfl rfl (v := .bool true) (fun Z w hZ hs => alive_c w) ?_
 refine gx ?_
 refine TR.gets (qJ rfl rfl rfl) rfl (fun Z hZ => qg rfl agg27 size27 rfl (vs := zV) (by simp []) (qQ (i := 2) (ent := ⟨g1, 27, zV, 67⟩) rfl rfl rfl)) ?_
 refine TR.gets (qJ rfl rfl rfl) rfl (fun Z hZ => qg rfl agg27 size27 rfl (vs := zV) (by simp []) (qQ (i := 0) (ent := ⟨g3, 27, zV, 67⟩) rfl rfl rfl)) ?_
 refine zL (qJ rfl rfl rfl) rfl enters7 rfl rfl (v := .bool true) (fun Z w hZ hs => (rdsame_c 0 0 (List.replicate 32 (0 : Int)) (List.replicate 32 (0 : Int)) (by simp) (by simp) none 0 0 [] 0 0 (List.replicate 32 (0 : Int)) (List.replicate 32 (0 : Int)) (by simp) (by simp) none 0 0 [] (by omega) (by omega) (fun i x hx => by simp at hx) w ⟨rfl, .inl rfl⟩ ⟨rfl, .inl rfl⟩ (fun i x hx => by simp at hx) (fun i x hx => by simp at hx)).mono fun e w' h => by rw [decide_eq_true (p := sameD _ _ _ _ _ _ _ _ _ _) ⟨rfl, rfl, rfl, rfl, rfl⟩] at h; exact h) ?_
 iterate 5 refine gx ?_
 refine zK (qJ rfl rfl rfl) rfl (fun _ => qP (qo rfl rfl rfl) rfl) ?_
 iterate 5 refine gx ?_
 refine zK (qJ rfl rfl rfl) rfl (fun _ => qP (qo rfl rfl rfl) rfl) ?_
 iterate 3 refine gx ?_
 refine zK (qJ rfl rfl rfl) rfl (fun _ => qP (qs rfl rfl rfl) hfl) ?_
 refine gx ?_
 refine TR.pass rfl rfl rfl rfl rfl ?_
 refine TR.pass rfl rfl rfl rfl rfl ?_
 iterate 5 refine gx ?_
 refine ze (qJ rfl rfl rfl) rfl rfl Tryz.underlying48 size22 zero22 rfl (by decide) (by decide) (cells := #[.slice A m c]) (tot := 1) (by kernel_rfl) (cs := [.slice A m c]) rfl rfl (fun g4 hg4 => ?_)
 refine zL (qJ rfl rfl rfl) rfl enters9 rfl rfl (v := .int .u64 (valB ((shaM B).take 8))) (fun Z w hZ hs => (idc_c [B] (some ⟨g4, 0, none⟩) 1 1 w (parts_one (hs.has (⟨g4, 22, [slice A m c], 1⟩) (by simp)) (hsB.at_ hs (fun b hb => (qV (qE (by show g3 ≠ b; omega) (qE (by show g2 ≠ b; omega) (qE (by show g1 ≠ b; omega) qF))) (qV (qE (by show g4 ≠ b; omega) qF) (hZ.ne hb))))) (by omega)) (by omega) (by omega) (by rw [fl1]; have := hsB.1; omega) (Nat.lt_of_lt_of_le h1 hs.size) (hIV.keepH hs (by omega) (qV (qE (by show g3 ≠ 0; omega) (qE (by show g2 ≠ 0; omega) (qE (by show g1 ≠ 0; omega) qF))) (qV (qE (by show g4 ≠ 0; omega) qF) (hZ.ne (Nat.lt_trans Nat.zero_lt_one h1))))) (hK.keepH hs h1 (qV (qE (by show g3 ≠ 1; omega) (qE (by show g2 ≠ 1; omega) (qE (by show g1 ≠ 1; omega) qF))) (qV (qE (by show g4 ≠ 1; omega) qF) (hZ.ne h1))))).mono fun e w' h => by rw [fl1] at h; exact h) ?_
 refine zL (qJ rfl rfl rfl) rfl enters10 rfl rfl (v := .int .u64 (valB ((shaM B).take 8))) (fun Z w hZ hs => ridc_c B A m c w (hsB.at_ hs (fun b hb => (qV (qE (by show g3 ≠ b; omega) (qE (by show g2 ≠ b; omega) (qE (by show g1 ≠ b; omega) qF))) (qV (qE (by show g4 ≠ b; omega) qF) (hZ.ne hb))))) (by omega) (by omega) (by omega)) ?_
 refine zK (qJ rfl rfl rfl) rfl (fun _ => qP (qo rfl rfl rfl) rfl) ?_
 iterate 4 refine gx ?_
 refine zK (qJ rfl rfl rfl) rfl (fun _ => zP rfl Tryz.underlying22 size5 rfl bnd.dflt (bnd.at_ (l := (((m / 2)))) rfl (by omega)) (by omega) (by omega) (cutA_zero _ _ _) (ln := (((m / 2)))) (cp := c) (by omega) (by omega)) ?_
 iterate 2 refine gx ?_
 refine zK (qJ rfl rfl rfl) rfl (fun _ => zP rfl Tryz.underlying22 size5 rfl (bnd.at_ (l := (((m / 2)))) rfl (by omega)) bnd.dflt (by omega) (by omega) rfl (ln := (m - ((m / 2)))) (cp := (c - ((m / 2)))) (by omega) (by omega)) ?_
 refine gx ?_
 refine ze (qJ rfl rfl rfl) rfl rfl Tryz.underlying48 size22 zero22 rfl (by decide) (by decide) (cells := #[.slice A (((m / 2))) c, .slice (cutA A c (((m / 2))) 1) (m - ((m / 2))) (c - ((m / 2)))]) (tot := 2) (by kernel_rfl) (cs := [.slice A (((m / 2))) c, .slice (cutA A c (((m / 2))) 1) (m - ((m / 2))) (c - ((m / 2)))]) rfl rfl (fun g5 hg5 => ?_)
 refine zL (qJ rfl rfl rfl) rfl enters9 rfl rfl (v := .int .u64 (valB ((shaM B).take 8))) (fun Z w hZ hs => (idc_c [B.take (m / 2), B.drop (m / 2)] (some ⟨g5, 0, none⟩) 2 2 w (parts_two (hs.has (⟨g5, 22, [slice A (((m / 2))) c, slice (cutA A c (((m / 2))) 1) (m - ((m / 2))) (c - ((m / 2)))], 2⟩) (by simp)) ((hsB.at_ hs (fun b hb => (qV (qE (by show g3 ≠ b; omega) (qE (by show g2 ≠ b; omega) (qE (by show g1 ≠ b; omega) qF))) (qV (qE (by show g4 ≠ b; omega) (qE (by show g5 ≠ b; omega) qF)) (hZ.ne hb))))).head (by omega)) (by omega) (((hsB.at_ hs (fun b hb => (qV (qE (by show g3 ≠ b; omega) (qE (by show g2 ≠ b; omega) (qE (by show g1 ≠ b; omega) qF))) (qV (qE (by show g4 ≠ b; omega) (qE (by show g5 ≠ b; omega) qF)) (hZ.ne hb))))).toX0.drop (l := m / 2) (by omega) (by omega)).src) (by omega)) (by omega) (by omega) (by rw [fl2]; have := hsB.1; omega) (Nat.lt_of_lt_of_le h1 hs.size) (hIV.keepH hs (by omega) (qV (qE (by show g3 ≠ 0; omega) (qE (by show g2 ≠ 0; omega) (qE (by show g1 ≠ 0; omega) qF))) (qV (qE (by show g4 ≠ 0; omega) (qE (by show g5 ≠ 0; omega) qF)) (hZ.ne (Nat.lt_trans Nat.zero_lt_one h1))))) (hK.keepH hs h1 (qV (qE (by show g3 ≠ 1; omega) (qE (by show g2 ≠ 1; omega) (qE (by show g1 ≠ 1; omega) qF))) (qV (qE (by show g4 ≠ 1; omega) (qE (by show g5 ≠ 1; omega) qF)) (hZ.ne h1))))).mono fun e w' h => by rw [fl2] at h; exact h) ?_
 refine ze (qJ rfl rfl rfl) rfl rfl Tryz.underlying48 size22 zero22 rfl (by decide) (by decide) (cells := #[.slice A m c]) (tot := 1) (by kernel_rfl) (cs := [.slice A m c]) rfl rfl (fun g6 hg6 => ?_)
 refine zL (qJ rfl rfl rfl) rfl enters9 rfl rfl (v := .int .u64 (valB ((shaM B).take 8))) (fun Z w hZ hs => (idc_c [B] (some ⟨g6, 0, none⟩) 1 1 w (parts_one (hs.has (⟨g6, 22, [slice A m c], 1⟩) (by simp)) (hsB.at_ hs (fun b hb => (qV (qE (by show g3 ≠ b; omega) (qE (by show g2 ≠ b; omega) (qE (by show g1 ≠ b; omega) qF))) (qV (qE (by show g4 ≠ b; omega) (qE (by show g5 ≠ b; omega) (qE (by show g6 ≠ b; omega) qF))) (hZ.ne hb))))) (by omega)) (by omega) (by omega) (by rw [fl1]; have := hsB.1; omega) (Nat.lt_of_lt_of_le h1 hs.size) (hIV.keepH hs (by omega) (qV (qE (by show g3 ≠ 0; omega) (qE (by show g2 ≠ 0; omega) (qE (by show g1 ≠ 0; omega) qF))) (qV (qE (by show g4 ≠ 0; omega) (qE (by show g5 ≠ 0; omega) (qE (by show g6 ≠ 0; omega) qF))) (hZ.ne (Nat.lt_trans Nat.zero_lt_one h1))))) (hK.keepH hs h1 (qV (qE (by show g3 ≠ 1; omega) (qE (by show g2 ≠ 1; omega) (qE (by show g1 ≠ 1; omega) qF))) (qV (qE (by show g4 ≠ 1; omega) (qE (by show g5 ≠ 1; omega) (qE (by show g6 ≠ 1; omega) qF))) (hZ.ne h1))))).mono fun e w' h => by rw [fl1] at h; exact h) ?_
 refine zK (qJ rfl rfl rfl) rfl (fun _ => qP (qo rfl rfl rfl) rfl) ?_
 iterate 3 refine gx ?_
 refine zU (H' := []) (fun w h => St.left (H := []) h (zZ (qx (by assumption) (qx (by assumption) (qx (by assumption) zA))) (zZ (zZ (zZ (zZ zA (qx (by assumption) zA)) (qx (by assumption) zA)) (qx (by assumption) zA)) zA))) ?_
 iterate 2 refine gx ?_
 exact qK rfl rfl (fun w hs => ⟨rfl, hs⟩)
theorem floads_good (A : Option Addr) (m c : Nat) (B : List Int) (hmc : m ≤ c) (hcm : c ≤ 9223372036854775807) (w : World) (hsB : Src w A m .u8 B) (hBB : Bytes B) (h1 : 1 < w.heap.size) (hIV : RowI w 0 0 8 .u32 IV) (hK : RowI w 1 0 64 .u32 KT) (hl : m ≤ 1000) (hco : (rDec B).s.co = 0) (hfl : (FI B).1 = 0) : Calls Tryz.prog 3 #[.slice A m c] w fun e w' => e = .returned (.bool true) ∧ St w [] w' := by
 have hbk := rDec_back hBB hco
 have hl1 := hbk.2.2.1
 have hl2 := hbk.2.2.2.1
 have hlC := hbk.2.2.2.2.2.2.1
 have hBm := hsB.1
 have hbo := hbk.1
 have hbn := hbk.2.1
 unfold inR at hbo hbn
 refine qL (args := [.slice A m c]) Tryz.func3 rfl Tryz.ntmps3 (by simp) ?_
 refine qC [0] ?_
 iterate 10 refine gx ?_
 refine qB (qA rfl) rfl (qU (zJ rfl rfl rfl) (by omega)) ?_
 iterate 2 refine gx ?_
 refine qW rfl ?_
 iterate 5 refine gx ?_
 refine qY (ι := (Option Addr × Nat) × List CV × List Ent) (V := fun y => .tuple #[.agg ([int .i64 (rDec B).o, int .i64 (rDec B).n] ++ ((rDec B).h1.map (int .u8) ++ ((rDec B).h2.map (int .u8) ++ [slice y.1.1 (rDec B).Cs.length y.1.2]))).toArray, .agg ([int .i64 0, int .i64 0]).toArray]) (R := fun y => ((rDec B).Cs.length ≤ y.1.2 ∧ y.1.2 ≤ 9223372036854775807) ∧ OwnD w.heap.size y.1.1 (rDec B).Cs.length y.2.1 y.2.2 ∧ y.2.1.map cmC = (rDec B).Cs ∧ ∀ x ∈ y.2.1, x.B.length = x.m) (H' := fun y => [] ++ y.2.2) (qA rfl) rfl enters5 rfl rfl (fun w hs => (fload_good B A m c w (hsB.at_ hs (fun b hb => qF)) hBB (by omega) (by omega) (by omega) hco hfl).mono fun e w' ⟨A', c', Fs, He, he, hc, ho, hsm, hw⟩ => ⟨((A', c'), (Fs, He)), he, ⟨hc, ho.mono hs.size, hsm, ownD_len ho (fun e he => hw.has e he)⟩, st_call hs hw ho.1⟩) (fun y hR => ?_)
 obtain ⟨⟨AD, cD⟩, ED, HD⟩ := y
 obtain ⟨hcD, hoD, hEd, hED⟩ := hR
 dsimp only at hcD hoD hEd hED ⊢
 have hFD : Fresh w HD := hoD.1
 have hfi := fi_is hEd hED
 iterate 3 refine gx ?_
 refine zB (qA rfl) rfl rfl zero27 (cs := zD) rfl (tot := 67) (by simp) (fun g1 hg1 => ?_)
 refine qc (fun g2 hg2 => ?_)
 refine qn (qA rfl) rfl rfl size27 rfl (vs := dV ((rDec B).o) ((rDec B).n) ((rDec B).h1) ((rDec B).h2) (slice AD (((rDec B).Cs.length)) cD)) rfl (by simp [hl1, hl2]) (qa (by simp [Value.oneCell']) (qa qb (qa qb (by simp [Value.oneCell'])))) (i := 1) (ent := ⟨g1, 27, zD, 67⟩) rfl rfl (by simp []) (H' := [⟨g2, 30, [int .i64 0, int .i64 0], 2⟩, ⟨g1, 27, dV ((rDec B).o) ((rDec B).n) ((rDec B).h1) ((rDec B).h2) (slice AD (((rDec B).Cs.length)) cD), 67⟩] ++ HD) rfl ?_
 refine qn (qA rfl) rfl rfl size30 rfl (vs := [int .i64 0, int .i64 0]) rfl (by simp []) (by simp [Value.oneCell']) (i := 0) (ent := ⟨g2, 30, [int .i64 0, int .i64 0], 2⟩) rfl rfl (by simp []) (H' := [⟨g2, 30, [int .i64 0, int .i64 0], 2⟩, ⟨g1, 27, dV ((rDec B).o) ((rDec B).n) ((rDec B).h1) ((rDec B).h2) (slice AD (((rDec B).Cs.length)) cD), 67⟩] ++ HD) rfl ?_
 iterate 2 refine gx ?_
 refine qC [0, 2, 3, 4] ?_
 iterate 3 refine gx ?_
 refine qY (ι := Value × List Ent × List CV) (V := fun y => .tuple #[.agg ([int .i64 (rDec B).o, int .i64 (rDec B).n] ++ ((rDec B).h1.map (int .u8) ++ ((rDec B).h2.map (int .u8) ++ [y.1]))).toArray, .int .i64 0, .int .i64 0]) (R := fun y => OwnS w.heap.size 61 5 y.1 y.2.2.length (flatC y.2.2) y.2.1 ∧ y.2.2.map cmC = (rDec B).Cs ∧ (∀ q ∈ y.2.2, Seg A m c B q.A q.c q.B ∧ q.m = q.B.length)) (H' := fun y => [⟨g2, 30, [int .i64 0, int .i64 0], 2⟩, ⟨g1, 27, dV ((rDec B).o) ((rDec B).n) ((rDec B).h1) ((rDec B).h2) (slice AD (((rDec B).Cs.length)) cD), 67⟩] ++ HD ++ y.2.1) (qA rfl) rfl enters6 rfl rfl (fun w hs => (rload_good B A m c w (hsB.at_ hs (fun b hb => (qV (qE (by show g2 ≠ b; omega) (qE (by show g1 ≠ b; omega) qF)) (hFD.ne hb)))) hBB (by omega) (by omega) (by omega) hco hfl).mono fun e w' ⟨v, He, Es, he, ho, hE, hsg, hw⟩ => ⟨(v, He, Es), he, ⟨ho.mono hs.size, hE, hsg⟩, st_call hs hw ho.new⟩) (fun y hR => ?_)
 obtain ⟨vR, HR, ER⟩ := y
 obtain ⟨hoR, hEr, hsgR⟩ := hR
 dsimp only at hoR hEr hsgR ⊢
 have hFR : Fresh w HR := hoR.fr
 obtain ⟨AR, cR, rfl, hcR, hdR⟩ := hoR.form
 have hlR : ER.length = (rDec B).Cs.length := by rw [← hEr, List.length_map]
 refine TL.heap (H' := [⟨g2, 30, [int .i64 0, int .i64 0], 2⟩, ⟨g1, 27, dV ((rDec B).o) ((rDec B).n) ((rDec B).h1) ((rDec B).h2) (slice AD (((rDec B).Cs.length)) cD), 67⟩] ++ (HD ++ HR)) (fun w h => by rw [← List.append_assoc]; exact h) ?_
 have hFtHR := zZ hFD hFR
 iterate 4 refine gx ?_
 refine zB (qA rfl) rfl rfl zero27 (cs := zD) rfl (tot := 67) (by simp) (fun g3 hg3 => ?_)
 refine qn (qA rfl) rfl rfl size27 rfl (vs := dV ((rDec B).o) ((rDec B).n) ((rDec B).h1) ((rDec B).h2) (slice AR ER.length cR)) rfl (by simp [hl1, hl2]) (qa (by simp [Value.oneCell']) (qa qb (qa qb (by simp [Value.oneCell'])))) (i := 0) (ent := ⟨g3, 27, zD, 67⟩) rfl rfl (by simp []) (H' := [⟨g3, 27, dV ((rDec B).o) ((rDec B).n) ((rDec B).h1) ((rDec B).h2) (slice AR ER.length cR), 67⟩, ⟨g2, 30, [int .i64 0, int .i64 0], 2⟩, ⟨g1, 27, dV ((rDec B).o) ((rDec B).n) ((rDec B).h1) ((rDec B).h2) (slice AD (((rDec B).Cs.length)) cD), 67⟩] ++ (HD ++ HR)) rfl ?_
 iterate 4 refine gx ?_
 refine qC [0, 2, 3, 4, 5, 6, 7] ?_
 iterate 4 refine gx ?_
 refine qB (qA rfl) rfl (zX (Gets.quo rfl rfl rfl (by omega) (r := ((m : Int) / 2)) (tdiv_pos (by omega) (w64 rfl (by omega)))) (by rw [show ((m : Int) / 2) = ((m / 2 : Nat) : Int) by omega])) ?_
 iterate 3 refine gx ?_
 refine qC [0, 2, 3, 4, 5, 6, 7, 8] ?_
 refine gx ?_
 refine TC.mixS ([Ent.mk g3 27 (dV ((rDec B).o) ((rDec B).n) ((rDec B).h1) ((rDec B).h2) (slice AR ER.length cR)) 67, Ent.mk g2 30 ([int .i64 0, int .i64 0]) 2, Ent.mk g1 27 (dV ((rDec B).o) ((rDec B).n) ((rDec B).h1) ((rDec B).h2) (slice AD (((rDec B).Cs.length)) cD)) 67] ++ (HD ++ HR)) [] (by kernel_rfl) [1, 0, 1, 1, 1, 0, 0, 0, 1, 0, 0, 0, 0, 0, 1, 0, 0, 0, 0, 0, 0, 0, 1, 1, 0, 0, 0, 0, 3, 1, 0, 1, 0, 0, 0, 0, 0, 0, 0, 0, 0, 3, 1, 0, 3, 1, 0, 0, 0] [0, 1, 2, 3, 4, 5, 6, 7, 8, 9, 10, 11, 12, 13, 14, 15, 16, 17, 18, 19, 20, 21, 22, 23, 24, 25, 26, 27, 30, 28, 29, 31, 32, 33, 34, 35, 36, 37, 38, 39, 40, 43, 41, 42, 44, 45, 46, 47, 48] [fun _ _ => True, fun _ _ => True, fun _ _ => True, fun _ _ => True, fun _ _ => True, fun _ _ => True, fun _ _ => True, fun _ _ => True, fun _ _ => True, fun _ _ => True, fun _ _ => True, fun _ _ => True, fun _ _ => True, fun _ _ => True, fun _ _ => True, fun _ _ => True, fun _ _ => True, fun _ _ => True, fun _ _ => True, fun _ _ => True, fun _ _ => True, fun _ _ => True, fun _ _ => True, fun _ _ => True, fun _ _ => True, fun _ _ => True, fun _ _ => True, fun _ _ => True, fun v d => ∃ g, v = .slice (some ⟨g, 0, none⟩) 1 1 ∧ d = [⟨g, 22, [.slice A m c], 1⟩], fun _ _ => True, fun _ _ => True, fun _ _ => True, fun _ _ => True, fun _ _ => True, fun _ _ => True, fun _ _ => True, fun _ _ => True, fun _ _ => True, fun _ _ => True, fun _ _ => True, fun _ _ => True, fun v d => ∃ g, v = .slice (some ⟨g, 0, none⟩) 2 2 ∧ d = [⟨g, 22, [.slice A (((m / 2))) c, .slice (cutA A c (((m / 2))) 1) (m - ((m / 2))) (c - ((m / 2)))], 2⟩], fun _ _ => True, fun _ _ => True, fun v d => ∃ g, v = .slice (some ⟨g, 0, none⟩) 1 1 ∧ d = [⟨g, 22, [.slice A m c], 1⟩], fun _ _ => True, fun _ _ => True, fun _ _ => True, fun _ _ => True] (by kernel_rfl) (by kernel_rfl) (List.Perm.of_eq (List.append_nil _).symm) zA ?_
 refine zL (qA rfl) rfl enters4 rfl rfl (v := .bool true) (fun Z w hZ hs => alive_c w) ?_
 refine gx ?_
 refine TR.gets (qJ rfl rfl rfl) rfl (fun Z hZ => qg rfl agg27 size27 rfl (vs := dV ((rDec B).o) ((rDec B).n) ((rDec B).h1) ((rDec B).h2) (slice AD (((rDec B).Cs.length)) cD)) (by simp [hl1, hl2]) (qQ (i := 2) (ent := ⟨g1, 27, dV ((rDec B).o) ((rDec B).n) ((rDec B).h1) ((rDec B).h2) (slice AD (((rDec B).Cs.length)) cD), 67⟩) rfl rfl rfl)) ?_
 refine TR.gets (qJ rfl rfl rfl) rfl (fun Z hZ => qg rfl agg27 size27 rfl (vs := dV ((rDec B).o) ((rDec B).n) ((rDec B).h1) ((rDec B).h2) (slice AR ER.length cR)) (by simp [hl1, hl2]) (qQ (i := 0) (ent := ⟨g3, 27, dV ((rDec B).o) ((rDec B).n) ((rDec B).h1) ((rDec B).h2) (slice AR ER.length cR), 67⟩) rfl rfl rfl)) ?_
 refine zL (qJ rfl rfl rfl) rfl enters7 rfl rfl (v := .bool true) (fun Z w hZ hs => (rdsame_c (rDec B).o (rDec B).n (rDec B).h1 (rDec B).h2 hl1 hl2 AD (rDec B).Cs.length cD ED (rDec B).o (rDec B).n (rDec B).h1 (rDec B).h2 hl1 hl2 AR ER.length cR ER (by omega) (by omega) hoD.num w (hoD.src (fun e he => hs.has e (by simp [he]))) (hoR.srcC (fun e he => hs.has e (by simp [he]))) (hoD.dat (fun e he => hs.has e (by simp [he]))) (dat_seg (hsB.at_ hs (fun b hb => (qV (qV (qE (by show g3 ≠ b; omega) (qE (by show g2 ≠ b; omega) (qE (by show g1 ≠ b; omega) qF))) (hFtHR.ne hb)) (qV qF (hZ.ne hb))))) (by omega) hsgR (by rw [hEr]; exact fun z hz => (hbk.2.2.2.2.2.1 z hz).2.2))).mono fun e w' h => by rw [decide_eq_true (p := sameD _ _ _ _ _ _ _ _ _ _) ⟨rfl, rfl, rfl, rfl, sameC_cm (hEd.trans hEr.symm)⟩] at h; exact h) ?_
 iterate 5 refine gx ?_
 refine zK (qJ rfl rfl rfl) rfl (fun _ => qP (qo rfl rfl rfl) rfl) ?_
 iterate 5 refine gx ?_
 refine zK (qJ rfl rfl rfl) rfl (fun _ => qP (qo rfl rfl rfl) rfl) ?_
 iterate 3 refine gx ?_
 refine zK (qJ rfl rfl rfl) rfl (fun _ => qU (qs rfl rfl rfl) (fun h => h rfl)) ?_
 refine gx ?_
 refine TR.gets (qJ rfl rfl rfl) rfl (fun Z hZ => qg rfl agg27 size27 rfl (vs := dV ((rDec B).o) ((rDec B).n) ((rDec B).h1) ((rDec B).h2) (slice AD (((rDec B).Cs.length)) cD)) (by simp [hl1, hl2]) (qQ (i := 2) (ent := ⟨g1, 27, dV ((rDec B).o) ((rDec B).n) ((rDec B).h1) ((rDec B).h2) (slice AD (((rDec B).Cs.length)) cD), 67⟩) rfl rfl rfl)) ?_
 refine zL (qJ rfl rfl rfl) rfl enters8 rfl rfl (v := .bool true) (fun Z w hZ hs => (dvalid_c (rDec B).o (rDec B).n (rDec B).h1 (rDec B).h2 hl1 hl2 AD (((rDec B).Cs.length)) cD ED (by omega) hoD.num w (hoD.src (fun e he => hs.has e (by simp [he]))) (hoD.dat (fun e he => hs.has e (by simp [he]))) ⟨by omega, by omega⟩ ⟨by omega, by omega⟩).mono fun e w' h => by rw [hfi, decide_eq_true (p := (FI B).1 = 0) hfl] at h; exact h) ?_
 iterate 5 refine gx ?_
 refine ze (qJ rfl rfl rfl) rfl rfl Tryz.underlying48 size22 zero22 rfl (by decide) (by decide) (cells := #[.slice A m c]) (tot := 1) (by kernel_rfl) (cs := [.slice A m c]) rfl rfl (fun g4 hg4 => ?_)
 refine zL (qJ rfl rfl rfl) rfl enters9 rfl rfl (v := .int .u64 (valB ((shaM B).take 8))) (fun Z w hZ hs => (idc_c [B] (some ⟨g4, 0, none⟩) 1 1 w (parts_one (hs.has (⟨g4, 22, [slice A m c], 1⟩) (by simp)) (hsB.at_ hs (fun b hb => (qV (qV (qE (by show g3 ≠ b; omega) (qE (by show g2 ≠ b; omega) (qE (by show g1 ≠ b; omega) qF))) (hFtHR.ne hb)) (qV (qE (by show g4 ≠ b; omega) qF) (hZ.ne hb))))) (by omega)) (by omega) (by omega) (by rw [fl1]; have := hsB.1; omega) (Nat.lt_of_lt_of_le h1 hs.size) (hIV.keepH hs (by omega) (qV (qV (qE (by show g3 ≠ 0; omega) (qE (by show g2 ≠ 0; omega) (qE (by show g1 ≠ 0; omega) qF))) (hFtHR.ne (Nat.lt_trans Nat.zero_lt_one h1))) (qV (qE (by show g4 ≠ 0; omega) qF) (hZ.ne (Nat.lt_trans Nat.zero_lt_one h1))))) (hK.keepH hs h1 (qV (qV (qE (by show g3 ≠ 1; omega) (qE (by show g2 ≠ 1; omega) (qE (by show g1 ≠ 1; omega) qF))) (hFtHR.ne h1)) (qV (qE (by show g4 ≠ 1; omega) qF) (hZ.ne h1))))).mono fun e w' h => by rw [fl1] at h; exact h) ?_
 refine zL (qJ rfl rfl rfl) rfl enters10 rfl rfl (v := .int .u64 (valB ((shaM B).take 8))) (fun Z w hZ hs => ridc_c B A m c w (hsB.at_ hs (fun b hb => (qV (qV (qE (by show g3 ≠ b; omega) (qE (by show g2 ≠ b; omega) (qE (by show g1 ≠ b; omega) qF))) (hFtHR.ne hb)) (qV (qE (by show g4 ≠ b; omega) qF) (hZ.ne hb))))) (by omega) (by omega) (by omega)) ?_
 refine zK (qJ rfl rfl rfl) rfl (fun _ => qP (qo rfl rfl rfl) rfl) ?_
 iterate 4 refine gx ?_
 refine zK (qJ rfl rfl rfl) rfl (fun _ => zP rfl Tryz.underlying22 size5 rfl bnd.dflt (bnd.at_ (l := (((m / 2)))) rfl (by omega)) (by omega) (by omega) (cutA_zero _ _ _) (ln := (((m / 2)))) (cp := c) (by omega) (by omega)) ?_
 iterate 2 refine gx ?_
 refine zK (qJ rfl rfl rfl) rfl (fun _ => zP rfl Tryz.underlying22 size5 rfl (bnd.at_ (l := (((m / 2)))) rfl (by omega)) bnd.dflt (by omega) (by omega) rfl (ln := (m - ((m / 2)))) (cp := (c - ((m / 2)))) (by omega) (by omega)) ?_
 refine gx ?_
 refine ze (qJ rfl rfl rfl) rfl rfl Tryz.underlying48 size22 zero22 rfl (by decide) (by decide) (cells := #[.slice A (((m / 2))) c, .slice (cutA A c (((m / 2))) 1) (m - ((m / 2))) (c - ((m / 2)))]) (tot := 2) (by kernel_rfl) (cs := [.slice A (((m / 2))) c, .slice (cutA A c (((m / 2))) 1) (m - ((m / 2))) (c - ((m / 2)))]) rfl rfl (fun g5 hg5 => ?_)
 refine zL (qJ rfl rfl rfl) rfl enters9 rfl rfl (v := .int .u64 (valB ((shaM B).take 8))) (fun Z w hZ hs => (idc_c [B.take (m / 2), B.drop (m / 2)] (some ⟨g5, 0, none⟩) 2 2 w (parts_two (hs.has (⟨g5, 22, [slice A (((m / 2))) c, slice (cutA A c (((m / 2))) 1) (m - ((m / 2))) (c - ((m / 2)))], 2⟩) (by simp)) ((hsB.at_ hs (fun b hb => (qV (qV (qE (by show g3 ≠ b; omega) (qE (by show g2 ≠ b; omega) (qE (by show g1 ≠ b; omega) qF))) (hFtHR.ne hb)) (qV (qE (by show g4 ≠ b; omega) (qE (by show g5 ≠ b; omega) qF)) (hZ.ne hb))))).head (by omega)) (by omega) (((hsB.at_ hs (fun b hb => (qV (qV (qE (by show g3 ≠ b; omega) (qE (by show g2 ≠ b; omega) (qE (by show g1 ≠ b; omega) qF))) (hFtHR.ne hb)) (qV (qE (by show g4 ≠ b; omega) (qE (by show g5 ≠ b; omega) qF)) (hZ.ne hb))))).toX0.drop (l := m / 2) (by omega) (by omega)).src) (by omega)) (by omega) (by omega) (by rw [fl2]; have := hsB.1; omega) (Nat.lt_of_lt_of_le h1 hs.size) (hIV.keepH hs (by omega) (qV (qV (qE (by show g3 ≠ 0; omega) (qE (by show g2 ≠ 0; omega) (qE (by show g1 ≠ 0; omega) qF))) (hFtHR.ne (Nat.lt_trans Nat.zero_lt_one h1))) (qV (qE (by show g4 ≠ 0; omega) (qE (by show g5 ≠ 0; omega) qF)) (hZ.ne (Nat.lt_trans Nat.zero_lt_one h1))))) (hK.keepH hs h1 (qV (qV (qE (by show g3 ≠ 1; omega) (qE (by show g2 ≠ 1; omega) (qE (by show g1 ≠ 1; omega) qF))) (hFtHR.ne h1)) (qV (qE (by show g4 ≠ 1; omega) (qE (by show g5 ≠ 1; omega) qF)) (hZ.ne h1))))).mono fun e w' h => by rw [fl2] at h; exact h) ?_
 refine ze (qJ rfl rfl rfl) rfl rfl Tryz.underlying48 size22 zero22 rfl (by decide) (by decide) (cells := #[.slice A m c]) (tot := 1) (by kernel_rfl) (cs := [.slice A m c]) rfl rfl (fun g6 hg6 => ?_)
 refine zL (qJ rfl rfl rfl) rfl enters9 rfl rfl (v := .int .u64 (valB ((shaM B).take 8))) (fun Z w hZ hs => (idc_c [B] (some ⟨g6, 0, none⟩) 1 1 w (parts_one (hs.has (⟨g6, 22, [slice A m c], 1⟩) (by simp)) (hsB.at_ hs (fun b hb => (qV (qV (qE (by show g3 ≠ b; omega) (qE (by show g2 ≠ b; omega) (qE (by show g1 ≠ b; omega) qF))) (hFtHR.ne hb)) (qV (qE (by show g4 ≠ b; omega) (qE (by show g5 ≠ b; omega) (qE (by show g6 ≠ b; omega) qF))) (hZ.ne hb))))) (by omega)) (by omega) (by omega) (by rw [fl1]; have := hsB.1; omega) (Nat.lt_of_lt_of_le h1 hs.size) (hIV.keepH hs (by omega) (qV (qV (qE (by show g3 ≠ 0; omega) (qE (by show g2 ≠ 0; omega) (qE (by show g1 ≠ 0; omega) qF))) (hFtHR.ne (Nat.lt_trans Nat.zero_lt_one h1))) (qV (qE (by show g4 ≠ 0; omega) (qE (by show g5 ≠ 0; omega) (qE (by show g6 ≠ 0; omega) qF))) (hZ.ne (Nat.lt_trans Nat.zero_lt_one h1))))) (hK.keepH hs h1 (qV (qV (qE (by show g3 ≠ 1; omega) (qE (by show g2 ≠ 1; omega) (qE (by show g1 ≠ 1; omega) qF))) (hFtHR.ne h1)) (qV (qE (by show g4 ≠ 1; omega) (qE (by show g5 ≠ 1; omega) (qE (by show g6 ≠ 1; omega) qF))) (hZ.ne h1))))).mono fun e w' h => by rw [fl1] at h; exact h) ?_
 refine zK (qJ rfl rfl rfl) rfl (fun _ => qP (qo rfl rfl rfl) rfl) ?_
 iterate 3 refine gx ?_
 refine zU (H' := []) (fun w h => St.left (H := []) h (zZ (qx (by assumption) (qx (by assumption) (qx (by assumption) hFtHR))) (zZ (zZ (zZ (zZ zA (qx (by assumption) zA)) (qx (by assumption) zA)) (qx (by assumption) zA)) zA))) ?_
 iterate 2 refine gx ?_
 exact qK rfl rfl (fun w hs => ⟨rfl, hs⟩)
theorem formatLoads_walk (w : World) (B : List Int) (A : Option Addr) (m c : Nat) (hmc : m ≤ c) (hcm : c ≤ 9223372036854775807) (hsB : Src w A m .u8 B) (hBB : Bytes B) (h1 : 1 < w.heap.size) (hIV : RowI w 0 0 8 .u32 IV) (hK : RowI w 1 0 64 .u32 KT) : Calls Tryz.prog 3 #[.slice A m c] w fun e w' => e = .returned (.bool true) ∧ St w [] w' := by
 by_cases hl : m ≤ 1000
 ·by_cases hco : (rDec B).s.co = 0
  ·by_cases hfl : (FI B).1 = 0
   ·exact floads_good A m c B hmc hcm w hsB hBB h1 hIV hK hl hco hfl
   ·exact floads_fault A m c B hmc hcm w hsB hBB h1 hIV hK hl hco hfl
  ·exact floads_bad A m c B hmc hcm w hsB hBB h1 hIV hK hl hco
 ·exact floads_long A m c B hmc hcm w hsB hBB (by omega)
theorem formatLoads_w (w : World) (B : List Int) (A : Option Addr) (m c : Nat) (hsB : Src w A m .u8 B) (hmc : m ≤ c) (hcm : c ≤ 9223372036854775807) (hBB : Bytes B) (h1 : 1 < w.heap.size) (hIV : RowI w 0 0 8 .u32 IV) (hK : RowI w 1 0 64 .u32 KT) : Calls Tryz.prog 3 #[.slice A m c] w fun e w' => e = .returned (.bool true) ∧ St w [] w' := formatLoads_walk w B A m c hmc hcm hsB hBB h1 hIV hK
open Go Go.RowKit Go.ChangeShapes Go.WideShapes Go.ChangeAt Go.Joins Go.Deep
theorem formatLoads_lifted (os : Os) (started : os.Started) (H : Type) (enc : TypeId × Value → H) :
  ReturnsInHanded {} Tryz.checked os 3 .any (fun w args => (Rows.formatLoadsSpec.pre enc Tryz.prog Tryz.f3 [] false w args ∧ laidMetH Tryz.prog [("graft/sha.squareRoots", Rows.laid_graft_sha_squareRoots), ("graft/sha.cubeRoots", Rows.laid_graft_sha_cubeRoots)] w) ∧ sizedMet enc Tryz.prog Tryz.f3 (OpenSpec.ofChange Rows.formatLoadsSpec) false w args) (Rows.formatLoadsSpec.post enc Tryz.prog Tryz.f3 false true false false) := by
 refine returnsInHanded_of_change_and (C := Tryz.checked) (X := fun w _ => laidMetH Tryz.prog [("graft/sha.squareRoots", Rows.laid_graft_sha_squareRoots), ("graft/sha.cubeRoots", Rows.laid_graft_sha_cubeRoots)] w) (fun _ _ _ hh h => h.of_heap hh) own_knob started (by kernel_rfl) Tryz.func3
  (ChangeSpec.witness_shaped (enc := enc) (C := Tryz.checked) (os := os) (X := fun w _ => laidMetH Tryz.prog [("graft/sha.squareRoots", Rows.laid_graft_sha_squareRoots), ("graft/sha.cubeRoots", Rows.laid_graft_sha_cubeRoots)] w) false (World.doorLaid Tryz.prog 100 os) #[.slice none 0 0] 8 rfl (World.shaped_of_RefB (by kernel_rfl) (by kernel_rfl)) (by kernel_rfl) (by kernel_rfl) (by kernel_rfl) (door_met os _)) ?_
 intro W base args ds gs before hval0 hW _ _ hL _
 have hval : ∀ (j : Nat) t v, Tryz.f3.params[j]? = some t → args[j]? = some v → Value.okWide Tryz.prog W .any base t v := hval0
 have hW' := hW
 obtain ⟨p, q, hA0, hV, rfl, hfz, hnd⟩ := hW
 have hA : DataW.TrodAll enc Tryz.prog W 0 (fun _ => true) true Tryz.f3.params.toList args.toList ds p := hA0
 rw [Tryz.params3] at hA hval
 obtain ⟨v0, vs0, d0, ds0, p0, q0, hargs, rfl, rfl, h0, r0⟩ := trodAll_cons hA
 obtain ⟨rfl, rfl, rfl⟩ := trodAll_nil r0
 obtain rfl : args = #[v0] := by cases args; simp_all
 obtain ⟨rfl, rfl⟩ := trodVars_none hV
 have k0 := h0
 have lt0 : ∀ x ∈ p0, x.block < W.heap.size := by obtain ⟨m, hm⟩ := k0; exact DataW.trod_lt m _ _ _ hm
 obtain ⟨Ab, mb, cb, Pb, hv0, hlb, hmb, hsb, hbb⟩ := open_bytes Tryz.underlying22 Tryz.underlying5 (by kernel_rfl) (hval 0 22 v0 rfl rfl) h0
 subst hv0
 obtain ⟨h1, hLO, hHI⟩ := of_laid hL
 clear hA0 hval0
 refine (formatLoads_w W Pb Ab mb cb hsb hlb hmb hbb h1 hLO hHI).mono fun e W' ⟨he, hst⟩ => ?_
 have bel := hst.below
 subst he
 exact ⟨_, rfl, _, _, _, [], _, [], hW', trodAll_mk1 (shut_bool Tryz.underlying4 _), (trodAll_cons_mk (Below.trod laid_out (by kernel_rfl) (of_decide_eq_true (by kernel_rfl)) k0 bel lt0) trodAll_mk0), rfl, bel.frame _, fun h => by cases h⟩
theorem formatLoads_said : Rows.FormatLoadsSaid :=
 OpenClaim.holds_of_wide 3 Tryz.f3 rfl rfl rfl rfl rfl rfl rfl ⟨rfl, rfl, rfl, rfl, rfl⟩ rfl rfl rfl rfl rfl (by kernel_rfl) Tryz.func3 (by kernel_rfl)
  (of_decide_eq_true (by kernel_rfl)) (by unfold Func.isWrapper; first | (rw [if_pos (by decide +kernel)]; kernel_rfl) | (rw [if_neg (by decide +kernel)]; exact ⟨rfl, rfl⟩))
  (fun os started H enc _ => formatLoads_lifted os started H enc)
theorem formatLoads_holds : Rows.FormatLoadsCardSaid :=
 Claim7.holds_tied_plain_at .later [] [.data, .data] true (true, "2399d90b4907c4384e4d4debc03fc9ce656c07d44e39ecf29f11e5a548d00cea") false
  formatLoads_said (fun _ h => by cases h) (by kernel_rfl) (fun _ h => by cases h) formatLoads_row_tie rfl ⟨rfl, rfl⟩ (by kernel_rfl) rfl
  (fun f fn hf hfn => by
   obtain rfl : f = 3 := Option.some.inj ((show Tryz.prog.funcNamed "graft/graftlaw07.FormatLoads" = some 3 by kernel_rfl).symm.trans hf) |>.symm
   obtain rfl : fn = Tryz.f3 := (Option.some.inj (Tryz.func3.symm.trans hfn)).symm
   exact ⟨by kernel_rfl, fun j t ht => by
    rw [Tryz.params3] at ht
    have hm : t ∈ [22] := by have := Array.mem_of_getElem? ht; simp at this ⊢; omega
    have hall : ([22].all fun u => !Tryz.prog.wantsStandIn u) = true := by kernel_rfl
    exact (show Tryz.prog.wantsStandIn t = false by simpa using List.all_eq_true.1 hall t hm)⟩)
  (by kernel_rfl)
end Go.Proofs.YtclmgfcdnokaiaaGreatDoor
