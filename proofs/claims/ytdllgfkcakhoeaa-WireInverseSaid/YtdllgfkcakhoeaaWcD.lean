/-
  The reader of layer 6: the closures.
-/
import Derived.Test.YtdllgfkcakhoeaaWcC
import Derived.Test.YtdllgfkcakhoeaaAuto
namespace Go.Proofs.Ytdllgfkcakhoeaa
set_option linter.unusedVariables false
set_option linter.unusedSimpArgs false
open Go Go.RowKit
theorem agg5 : (isAgg 5).run Try.prog = fun w => .ok false w := isAgg_no Try.underlying5 rfl
theorem enters25 : Enters Try.prog 25 := ⟨_, Try.func25, by kernel_rfl, by kernel_rfl⟩
set_option maxRecDepth 100000 in
set_option maxHeartbeats 400000 in
theorem u1_c (gv : Nat) (A : Option Addr) (n c : Nat) (D : List Int) (hBD : Bytes D) (w : World) (hX : SrcX w [gv] A n .u8 D) (hl : Ent.lies ⟨gv, 34, [Value.int .u64 0], 1⟩ w) (hnc : n ≤ c) (hcm : c ≤ 9223372036854775807) (hn : n ≤ 8) : Calls Try.prog 27 #[.slice A n c, .pointer (some ⟨gv, 0, none⟩)] w fun e w' => e = .returned (.tuple #[]) ∧ St w [⟨gv, 34, [Value.int .u64 (valB D)], 1⟩] w' := by
  refine calls_from (args := [.slice A n c, .pointer (some ⟨gv, 0, none⟩)]) Try.func27 rfl Try.ntmps27 (by simp) ?_
  refine TC.pr [0, 1] ?_
  refine TC.heap (H' := [⟨gv, 34, [Value.int .u64 0], 1⟩]) (fun w hs => hs.take hl ne_nil) ?_
  iterate 8 refine gx ?_
  refine TC.loop (ι := Nat) (fun i => [(1, .pointer (some ⟨gv, 0, none⟩)), (5, .slice A n c), (6, .int .i64 (n : Int)), (7, .int .i64 (i : Int))]) (fun i => [⟨gv, 34, [Value.int .u64 (valB (D.take (i)))], 1⟩]) (fun i => n - i) (fun i => i ≤ n) 0 (Nat.zero_le _) (Sub.cons (i := 1) rfl (Sub.slice (i := 5) rfl rfl (by first | omega | (dsimp only; omega) | rfl) (by first | omega | (dsimp only; omega) | rfl) (Sub.int (i := 6) rfl (by first | omega | rfl) (Sub.int (i := 7) rfl (by first | omega | rfl) (Sub.nil))))) (fun w h => by rw [List.take_zero]; exact h) (fun i hC0 => ?_)
  iterate 6 refine gx ?_
  refine TC.split rfl (fun hq0 => ?_) (fun hq0 => ?_)
  · have hDl := hX.1
    obtain ⟨b, off, hAe, hb, hbX, hr⟩ := hX.2.resolve_left (by omega)
    have hbg : b ≠ gv := hbX gv (by simp)
    subst hAe
    have hbd := hBD.get i
    iterate 6 refine gx ?_
    refine TL.gets (Wants.none rfl) rfl (Gets.idxSlice rfl Try.underlying22 size5 rfl rfl (i := i) (by omega) (by omega) (off' := (off + i)) (by omega)) ?_
    refine TL.gets (Wants.none rfl) rfl (Gets.load1 rfl agg5 rfl (At.rowI hr (i := i) (by omega) (by omega) hb (ne_cons (by show gv ≠ b; omega) ne_nil))) ?_
    iterate 5 refine gx ?_
    refine TL.gets (Wants.none rfl) rfl (Gets.shl rfl rfl rfl (by omega) (r := (shlI .u64 (valB (D.take (i))) 8)) rfl) ?_
    refine gx ?_
    refine TL.gets (Wants.none rfl) rfl (Gets.conv rfl Try.underlying5 Try.underlying34 rfl (r := (D.getD i 0)) (wu64 rfl (by omega))) ?_
    refine TL.gets (Wants.none rfl) rfl (Gets.or rfl rfl rfl (r := valB (D.take (i + 1))) (valB_step hBD (by have := hX.1; omega) (by have := hX.1; omega))) ?_
    refine TL.store1 (Wants.none rfl) rfl rfl size34 rfl rfl rfl (i := 0) rfl rfl (by simp [] <;> omega) (cs' := [Value.int .u64 (valB (D.take (i + 1)))]) (rfl) (H' := [⟨gv, 34, [Value.int .u64 (valB (D.take (i + 1)))], 1⟩]) rfl ?_
    iterate 3 refine gx ?_
    refine TC.pr [1, 5, 6, 7] ?_
    refine gx ?_
    refine TL.gets (Wants.none rfl) rfl (Gets.add rfl rfl rfl (r := ((i : Int) + 1)) (w64 (by omega) (by omega))) ?_
    iterate 2 refine gx ?_
    exact TE.back (i + 1) (by omega) (by omega) (Sub.cons (i := 1) rfl (Sub.slice (i := 5) rfl (by first | rfl | (congr 2; omega)) (by first | omega | (dsimp only; omega) | rfl) (by first | omega | (dsimp only; omega) | rfl) (Sub.int (i := 6) rfl (by first | omega | rfl) (Sub.int (i := 7) rfl (by first | omega | rfl) (Sub.nil))))) (fun w h => h)
  · obtain rfl : n = i := by omega
    have htk : D.take n = D := List.take_of_length_le (by have := hX.1; omega)
    rw [htk]
    iterate 4 refine gx ?_
    exact TE.end0 rfl (fun w hs => ⟨rfl, hs⟩)

set_option maxRecDepth 100000 in
set_option maxHeartbeats 400000 in
theorem bclone_some (M : List Int) (ad : Addr) (m c : Nat) (w : World) (hsM : Src w (some ad) m .u8 M) (hmc : m ≤ c) (hm : m ≤ 1000010) : Calls Try.prog 25 #[.slice (some ad) m c] w fun e w' => ∃ v He, e = .returned v ∧ Own w.heap.size 5 .u8 v M He ∧ St w He w' := by
  refine calls_from (args := [.slice (some ad) m c]) Try.func25 rfl Try.ntmps25 (by simp) ?_
  refine TC.pr [0] ?_
  iterate 9 refine gx ?_
  refine TL.gets (Wants.none rfl) rfl (Gets.sliceNil (A := some ad) rfl Try.underlying22 rfl rfl) ?_
  iterate 2 refine gx ?_
  refine TC.no rfl ?_
  iterate 4 refine gx ?_
  refine TL.emptySlice (Wants.none rfl) rfl rfl Try.underlying22 size5 (fun g1 hg1 => ?_)
  refine gx ?_
  refine TL.appendOwn (H := []) (He := [⟨g1, 5, ([] : List Int).map (Value.int .u8), 0⟩]) (Wants.none rfl) rfl rfl Try.underlying22 mk5 rfl rfl rfl (W := []) (B := M) (.inr ⟨g1, 0, rfl, rfl, hg1, Nat.le_refl _, by unfold maxLen; omega⟩) (fun w hs => hsM.at_ hs (fun b hb => ne_app ne_nil (ne_cons (by show g1 ≠ b; omega) ne_nil))) (by simp only [List.length_nil]; omega) (by simp only [List.length_nil]; omega) (fun vo Ho ho hne => ?_)
  rw [List.nil_append] at ho
  iterate 4 refine gx ?_
  exact TE.ret1 rfl rfl (fun w hs => ⟨vo, Ho, rfl, ho, hs⟩)

set_option maxRecDepth 100000 in
set_option maxHeartbeats 400000 in
theorem bclone_nil (m c : Nat) (w : World) : Calls Try.prog 25 #[.slice none m c] w fun e w' => e = .returned (.slice none 0 0) ∧ St w [] w' := by
  refine calls_from (args := [.slice none m c]) Try.func25 rfl Try.ntmps25 (by simp) ?_
  refine TC.pr [0] ?_
  iterate 9 refine gx ?_
  refine TL.gets (Wants.none rfl) rfl (Gets.sliceNil (A := none) rfl Try.underlying22 rfl rfl) ?_
  iterate 2 refine gx ?_
  refine TC.yes rfl ?_
  iterate 7 refine gx ?_
  exact TE.ret1 rfl rfl (fun w hs => ⟨rfl, hs⟩)

theorem bclone_c (M : List Int) (A : Option Addr) (m c : Nat) (w : World) (hsM : Src w A m .u8 M) (hmc : m ≤ c) (hm : m ≤ 1000010) : Calls Try.prog 25 #[.slice A m c] w fun e w' => ∃ v He, e = .returned v ∧ Own w.heap.size 5 .u8 v M He ∧ St w He w' := by
  cases A with
  | some ad => exact bclone_some M ad m c w hsM hmc hm
  | none =>
    refine (bclone_nil m c w).mono fun e w' ⟨he, hw⟩ => ⟨_, [], he, ?_, hw⟩
    have hM : M = [] := by
      rcases hsM.2 with h | ⟨b, off, h, _⟩
      · exact List.length_eq_zero_iff.1 (by rw [hsM.1, h])
      · cases h
    rw [hM]; exact Own.nil _ _ _

set_option maxRecDepth 100000 in
set_option maxHeartbeats 400000 in
theorem b1_c (gv : Nat) (A : Option Addr) (n c : Nat) (D : List Int) (u0 : Value) (w : World) (hX : SrcX w [gv] A n .u8 D) (hl : Ent.lies ⟨gv, 22, [u0], 1⟩ w) (hnc : n ≤ c) (hn : n ≤ 1000000) : Calls Try.prog 30 #[.slice A n c, .pointer (some ⟨gv, 0, none⟩)] w fun e w' => ∃ v He, e = .returned (.tuple #[]) ∧ Own w.heap.size 5 .u8 v D He ∧ St w ((⟨gv, 22, [v], 1⟩ : Ent) :: He) w' := by
  refine calls_from (args := [.slice A n c, .pointer (some ⟨gv, 0, none⟩)]) Try.func30 rfl Try.ntmps30 (by simp) ?_
  refine TC.pr [0, 1] ?_
  refine TC.heap (H' := [⟨gv, 22, [u0], 1⟩]) (fun w hs => hs.take hl ne_nil) ?_
  iterate 2 refine gx ?_
  refine TL.call (ι := Value × List Ent) (V := fun yl => yl.1) (R := fun yl => Own w.heap.size 5 .u8 yl.1 D yl.2) (H' := fun yl => [⟨gv, 22, [u0], 1⟩] ++ yl.2) (Wants.none rfl) rfl enters25 rfl rfl (fun w hs => (bclone_c D A n c w (hX.at_ hs (fun b hb hbX => (ne_cons (fun h => hbX gv (by simp) h.symm) ne_nil))).src (by omega) (by omega)).mono fun e w' ⟨v, He, he, ho, hw⟩ => ⟨(v, He), he, own_mono ho hs.size, st_call hs hw ho.new⟩) (fun yl hOl => ?_)
  obtain ⟨vl, Hl⟩ := yl
  dsimp only at hOl ⊢
  obtain ⟨Al, cl, hvl, hcl, hdl⟩ := hOl.form
  subst hvl
  refine TL.store1 (Wants.none rfl) rfl rfl size22 rfl rfl rfl (i := 0) rfl rfl (by simp [] <;> omega) (cs' := [Value.slice Al D.length cl]) (rfl) (H' := [⟨gv, 22, [Value.slice Al D.length cl], 1⟩] ++ Hl) rfl ?_
  refine gx ?_
  exact TE.end0 rfl (fun w hs => ⟨_, Hl, rfl, hOl, hs⟩)
end Go.Proofs.Ytdllgfkcakhoeaa
