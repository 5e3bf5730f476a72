/-
  WireKeeps: the walk.
-/
import Derived.Test.YtdllgfkcakhoeaaWrF
import Derived.Test.YtdllgfkcakhoeaaAuto
namespace Go.Proofs.Ytdllgfkcakhoeaa
set_option linter.unusedVariables false
set_option linter.unusedSimpArgs false
open Go Go.RowKit

theorem bytes_okQ (g : Nat) (A : Option Addr) (m c k : Nat) (n q : Nat) (hq : k + n = q) (po : Int) (hkn : k + n ≤ m) (w : World) (hl : Ent.lies ⟨g, 63, rdC A m c k 0 po, rdN⟩ w) (hk : k ≤ m) (hmc : m ≤ c) (hcm : c ≤ 9223372036854775807) (B : List Int) (hX : SrcX w [g] A m .u8 B) (hBB : Bytes B) (hm : m ≤ 1000000) : Calls Try.prog 19 #[.pointer (some ⟨g, 0, none⟩), .int .i64 (n : Int)] w fun e w' => ∃ v He, e = .returned v ∧ Own w.heap.size 5 .u8 v ((B.drop k).take n) He ∧ St w ((⟨g, 63, rdC A m c q 0 po, rdN⟩ : Ent) :: He) w' := by
  subst hq
  exact bytes_ok g A m c k n po hkn w hl hk hmc hcm B hX hBB hm


structure WK where
  k : Nat
  W : List Int
structure WK2 where
  k : Nat
  W : List Int
  He : List Ent
theorem perm_front (e : Ent) (X T : List Ent) : (X ++ (T ++ [e])).Perm (e :: (X ++ T)) := by
  rw [← List.append_assoc]; exact List.perm_append_comm (l₁ := X ++ T) (l₂ := [e])
theorem own_set {N t g cap kk i : Nat} {V : List Int} {v : Int} {kd : IntKind} (hN : N ≤ g) (hc : V.length ≤ cap) (hm : cap ≤ maxLen) (hl : V.length = kk) : Own N t kd (.slice (some ⟨g, 0, none⟩) kk cap) (V.set i v) [⟨g, t, (V.set i v).map (Value.int kd), cap⟩] :=
  .inr ⟨g, cap, by rw [List.length_set, hl], rfl, hN, by rw [List.length_set]; exact hc, hm⟩

set_option maxRecDepth 100000 in
set_option maxHeartbeats 1000000 in
theorem wireKeeps_walk (Ab : Option Addr) (mb cb : Nat) (Bb : List Int) (n : Int) (w : World) (hsb : Src w Ab mb .u8 Bb) (hmcb : mb ≤ cb) (hcmb : cb ≤ 9223372036854775807) (hBb : ∀ x ∈ Bb, 0 ≤ x ∧ x ≤ 255) (bn : 0 ≤ n ∧ n ≤ 255) : Calls Try.prog 6 #[.slice Ab mb cb, .int .u8 n] w fun e w' => e = .returned (.bool true) ∧ St w [] w' := by
  refine calls_from (args := [.slice Ab mb cb, .int .u8 n]) Try.func6 rfl Try.ntmps6 (by simp) ?_
  refine TC.pr [0, 1] ?_
  iterate 13 refine gx ?_
  refine TC.split rfl (fun hq0 => ?_) (fun hq0 => ?_)
  · iterate 2 refine gx ?_
    refine TL.call0 (Wants.none rfl) rfl enters7 rfl rfl (v := .bool true) (fun w hs => alive_c w) ?_
    iterate 5 refine gx ?_
    exact TE.ret1 rfl rfl (fun w hs => ⟨rfl, hs⟩)
  · iterate 4 refine gx ?_
    refine TL.emptySlice (Wants.none rfl) rfl rfl Try.underlying22 size5 (fun g1 hg1 => ?_)
    refine gx ?_
    refine TL.appendOwn (H := []) (He := [⟨g1, 5, ([] : List Int).map (Value.int .u8), 0⟩]) (Wants.none rfl) rfl rfl Try.underlying22 mk5 rfl rfl rfl (W := []) (B := Bb) (.inr ⟨g1, 0, rfl, rfl, hg1, Nat.le_refl _, by unfold maxLen; omega⟩) (fun w hs => hsb.at_ hs (fun b hb => ne_app ne_nil (ne_cons (by show g1 ≠ b; omega) ne_nil))) (by simp only [List.length_nil]; omega) (by simp only [List.length_nil]; omega) (fun vo Ho ho hne => ?_)
    rw [List.nil_append] at ho
    obtain ⟨gs, cs, rfl, rfl, hgs, hcs, hms⟩ := own_some ho (hne (by intro h; cases h))
    rw [hsb.1] at hcs ⊢
    refine TL.heap (H' := [⟨gs, 5, Bb.map (Value.int .u8), cs⟩]) (fun w h => h) ?_
    iterate 3 refine gx ?_
    refine TC.pr [0, 1, 4, 5] ?_
    iterate 3 refine gx ?_
    refine TL.call (ι := Nat × (Option Addr × Nat) × List Ent) (V := fun y => .pointer (some ⟨y.1, 0, none⟩)) (R := fun y => (Own w.heap.size 5 .u8 (.slice y.2.1.1 mb y.2.1.2) Bb y.2.2) ∧ w.heap.size ≤ y.1) (H' := fun y => [⟨gs, 5, Bb.map (Value.int .u8), cs⟩] ++ (⟨y.1, 63, rdC y.2.1.1 mb y.2.1.2 0 0 0, rdN⟩ :: y.2.2)) (Wants.none rfl) rfl enters11 rfl rfl (fun w hs => (new_c Bb (some ⟨gs, 0, none⟩) mb cs w (src_ent (W := Bb) (hs.has (⟨gs, 5, Bb.map (Value.int .u8), cs⟩) (by simp)) hsb.1) (by omega) (by omega)).mono fun e w' ⟨g, A', c', He, he, ho, hg, hw⟩ => ⟨(g, (A', c'), He), he, ⟨own_mono ho hs.size, Nat.le_trans hs.size hg⟩, st_call hs hw (Fresh.cons (w0 := w) hg ho.new)⟩) (fun y hR => ?_)
    obtain ⟨gr, ⟨Ad, cd⟩, Hd⟩ := y
    obtain ⟨hod, hgr⟩ := hR
    dsimp only at hod hgr ⊢
    have hFd : Fresh w Hd := hod.new
    obtain ⟨hcd, hcd2⟩ : mb ≤ cd ∧ cd ≤ 9223372036854775807 := by obtain ⟨_, _, h1, h2, h3⟩ := hod.form; cases h1; exact ⟨by omega, h3⟩
    refine TL.heap (H' := ([(⟨gr, 63, [Value.slice Ad mb cd, Value.int .i64 0, Value.int .i64 0, Value.int .i64 0], 4⟩ : Ent)] ++ ([⟨gs, 5, Bb.map (Value.int .u8), cs⟩])) ++ Hd) (fun w h => h.perm List.perm_middle) ?_
    refine gx ?_
    refine TL.call (ι := Nat × (Option Addr × Nat) × List Ent) (V := fun y => .pointer (some ⟨y.1, 0, none⟩)) (R := fun y => (Own w.heap.size 5 .u8 (.slice y.2.1.1 mb y.2.1.2) Bb y.2.2) ∧ w.heap.size ≤ y.1) (H' := fun y => [⟨gr, 63, [Value.slice Ad mb cd, Value.int .i64 0, Value.int .i64 0, Value.int .i64 0], 4⟩, ⟨gs, 5, Bb.map (Value.int .u8), cs⟩] ++ Hd ++ (⟨y.1, 63, rdC y.2.1.1 mb y.2.1.2 0 0 0, rdN⟩ :: y.2.2)) (Wants.none rfl) rfl enters11 rfl rfl (fun w hs => (new_c Bb Ab mb cb w (hsb.at_ hs (fun b hb => (ne_app (ne_cons (by show gr ≠ b; omega) (ne_cons (by show gs ≠ b; omega) ne_nil)) (hFd.ne hb)))) (by omega) (by omega)).mono fun e w' ⟨g, A', c', He, he, ho, hg, hw⟩ => ⟨(g, (A', c'), He), he, ⟨own_mono ho hs.size, Nat.le_trans hs.size hg⟩, st_call hs hw (Fresh.cons (w0 := w) hg ho.new)⟩) (fun y hR => ?_)
    obtain ⟨ge, ⟨Ae, ce⟩, He⟩ := y
    obtain ⟨hoe, hge⟩ := hR
    dsimp only at hoe hge ⊢
    have hFe : Fresh w He := hoe.new
    obtain ⟨hce, hce2⟩ : mb ≤ ce ∧ ce ≤ 9223372036854775807 := by obtain ⟨_, _, h1, h2, h3⟩ := hoe.form; cases h1; exact ⟨by omega, h3⟩
    refine TL.heap (H' := ([(⟨ge, 63, [Value.slice Ae mb ce, Value.int .i64 0, Value.int .i64 0, Value.int .i64 0], 4⟩ : Ent)] ++ ([⟨gr, 63, [Value.slice Ad mb cd, Value.int .i64 0, Value.int .i64 0, Value.int .i64 0], 4⟩, ⟨gs, 5, Bb.map (Value.int .u8), cs⟩] ++ Hd)) ++ He) (fun w h => h.perm List.perm_middle) ?_
    refine TL.heap (H' := ([⟨ge, 63, [Value.slice Ae mb ce, Value.int .i64 0, Value.int .i64 0, Value.int .i64 0], 4⟩, ⟨gr, 63, [Value.slice Ad mb cd, Value.int .i64 0, Value.int .i64 0, Value.int .i64 0], 4⟩, ⟨gs, 5, Bb.map (Value.int .u8), cs⟩] ++ Hd) ++ He) (fun w h => h) ?_
    refine TL.heap (H' := [⟨ge, 63, [Value.slice Ae mb ce, Value.int .i64 0, Value.int .i64 0, Value.int .i64 0], 4⟩, ⟨gr, 63, [Value.slice Ad mb cd, Value.int .i64 0, Value.int .i64 0, Value.int .i64 0], 4⟩, ⟨gs, 5, Bb.map (Value.int .u8), cs⟩] ++ (Hd ++ He)) (fun w h => by rw [← List.append_assoc]; exact h) ?_
    have hFtHe := Fresh.app hFd hFe
    iterate 4 refine gx ?_
    refine TC.pr [0, 1, 4, 5, 6, 7] ?_
    iterate 4 refine gx ?_
    refine TL.gets (Wants.none rfl) rfl (Gets.ptrNil rfl Try.underlying32 rfl rfl) ?_
    iterate 2 refine gx ?_
    refine TL.gets (Wants.yes rfl rfl rfl) rfl (Gets.ptrNil rfl Try.underlying32 rfl rfl) ?_
    iterate 3 refine gx ?_
    refine TC.pr [0, 1, 4, 5, 6, 7, 30] ?_
    refine TC.no rfl ?_
    iterate 10 refine gx ?_
    refine TC.pr [0, 1, 4, 5, 6, 7, 32, 33] ?_
    refine gx ?_
    refine TC.loop (ι := WK) (fun x0 => [(0, .slice Ab mb cb), (1, .int .u8 n), (5, .slice (some ⟨gs, 0, none⟩) mb cs), (6, .pointer (some ⟨gr, 0, none⟩)), (7, .pointer (some ⟨ge, 0, none⟩)), (32, .int .i64 (mb : Int)), (33, .int .i64 (x0.k : Int))]) (fun x0 => [⟨ge, 63, [Value.slice Ae mb ce, Value.int .i64 0, Value.int .i64 0, Value.int .i64 0], 4⟩, ⟨gr, 63, [Value.slice Ad mb cd, Value.int .i64 0, Value.int .i64 0, Value.int .i64 0], 4⟩, ⟨gs, 5, x0.W.map (Value.int .u8), cs⟩] ++ (Hd ++ He)) (fun x0 => mb - x0.k) (fun x0 => x0.k ≤ mb ∧ x0.W.length = mb) (⟨0, Bb⟩ : WK) ⟨Nat.zero_le _, hsb.1⟩ (Sub.slice (i := 0) rfl rfl (by first | omega | (dsimp only; omega) | rfl) (by first | omega | (dsimp only; omega) | rfl) (Sub.int (i := 1) rfl (by first | rfl | omega) (Sub.slice (i := 5) rfl rfl (by first | omega | (dsimp only; omega) | rfl) (by first | omega | (dsimp only; omega) | rfl) (Sub.cons (i := 6) rfl (Sub.cons (i := 7) rfl (Sub.int (i := 32) rfl (by first | omega | rfl) (Sub.int (i := 33) rfl rfl (Sub.nil)))))))) (fun w h => h) (fun x0 hC0 => ?_)
    obtain ⟨i, W⟩ := x0
    obtain ⟨hi, hWl⟩ := hC0
    dsimp only at hi hWl ⊢
    iterate 6 refine gx ?_
    refine TC.split rfl (fun hq2 => ?_) (fun hq2 => ?_)
    · iterate 10 refine gx ?_
      refine TC.pr [0, 1, 5, 6, 7, 8, 32, 33] ?_
      iterate 3 refine gx ?_
      refine TL.gets (Wants.none rfl) rfl (Gets.idxSlice rfl Try.underlying22 size5 rfl rfl (i := i) (by omega) (by omega) (off' := i) (by omega)) ?_
      refine TL.gets (Wants.none rfl) rfl (Gets.load1 rfl agg5 rfl (At.ent (i := 2) (ent := ⟨gs, 5, W.map (Value.int .u8), cs⟩) (off := i) rfl rfl (by have := ints_get (kd := .u8) (W := W) (i := i) (by rw [hWl]; omega); (first | exact this | (refine Eq.trans ?_ this; congr 1; omega))))) ?_
      refine TL.gets (Wants.none rfl) rfl (Gets.addU rfl rfl rfl) ?_
      refine TL.gets (Wants.none rfl) rfl (Gets.idxSlice rfl Try.underlying22 size5 rfl rfl (i := i) (by omega) (by omega) (off' := i) (by omega)) ?_
      refine TL.store1 (Wants.none rfl) rfl rfl size5 rfl rfl rfl (i := 2) rfl rfl (by simp [hWl] <;> omega) (cs' := (W.set i (addW .u8 (W.getD i 0) 1)).map (Value.int .u8)) (ints_set) (H' := [⟨ge, 63, [Value.slice Ae mb ce, Value.int .i64 0, Value.int .i64 0, Value.int .i64 0], 4⟩, ⟨gr, 63, [Value.slice Ad mb cd, Value.int .i64 0, Value.int .i64 0, Value.int .i64 0], 4⟩, ⟨gs, 5, (W.set i (addW .u8 (W.getD i 0) 1)).map (Value.int .u8), cs⟩] ++ (Hd ++ He)) rfl ?_
      iterate 3 refine gx ?_
      refine TC.pr [0, 1, 5, 6, 7, 32, 33] ?_
      refine gx ?_
      refine TL.gets (Wants.none rfl) rfl (Gets.add rfl rfl rfl (r := ((i : Int) + 1)) (w64 (by omega) (by omega))) ?_
      iterate 2 refine gx ?_
      exact TE.back (⟨i + 1, (W.set i (addW .u8 (W.getD i 0) 1))⟩ : WK) (by show mb - (i + 1) < mb - i; omega) ⟨by show i + 1 ≤ mb; omega, (List.length_set ..).trans hWl⟩ (Sub.slice (i := 0) rfl rfl (by first | omega | (dsimp only; omega) | rfl) (by first | omega | (dsimp only; omega) | rfl) (Sub.int (i := 1) rfl (by first | rfl | omega) (Sub.slice (i := 5) rfl rfl (by first | omega | (dsimp only; omega) | rfl) (by first | omega | (dsimp only; omega) | rfl) (Sub.cons (i := 6) rfl (Sub.cons (i := 7) rfl (Sub.int (i := 32) rfl (by first | omega | rfl) (Sub.int (i := 33) rfl (by show (i : Int) + 1 = ((i + 1 : Nat) : Int); omega) (Sub.nil)))))))) (fun w h => h)
    · iterate 8 refine gx ?_
      refine TL.gets (Wants.none rfl) rfl (Gets.conv rfl Try.underlying5 Try.underlying3 rfl (r := n) (w64 rfl (by omega))) ?_
      iterate 2 refine gx ?_
      refine TL.gets (Wants.none rfl) rfl (Gets.add rfl rfl rfl (r := ((mb : Int) + 1)) (w64 (by omega) (by omega))) ?_
      obtain ⟨kk, hkk⟩ : ∃ kk : Nat, n % ((mb : Int) + 1) = (kk : Int) := Int.eq_ofNat_of_zero_le (Int.emod_nonneg _ (by omega))
      have hkl : kk ≤ mb := by have := Int.emod_lt_of_pos n (show (0 : Int) < (mb : Int) + 1 by omega); omega
      refine TL.gets (Wants.none rfl) rfl (Gets.rem rfl rfl rfl (by omega) (r := (kk : Int)) (tmod_pos (by omega) hkk)) ?_
      iterate 3 refine gx ?_
      refine TC.pr [0, 6, 7, 9] ?_
      iterate 4 refine gx ?_
      refine TL.call (ι := Value × List Ent) (V := fun y => y.1) (R := fun y => Own w.heap.size 5 .u8 y.1 ((Bb.drop 0).take kk) y.2) (H' := fun y => [⟨ge, 63, [Value.slice Ae mb ce, Value.int .i64 0, Value.int .i64 0, Value.int .i64 0], 4⟩, ⟨gr, 63, [Value.slice Ad mb cd, Value.int .i64 (kk : Int), Value.int .i64 0, Value.int .i64 0], 4⟩, ⟨gs, 5, W.map (Value.int .u8), cs⟩] ++ ((Hd ++ He) ++ y.2)) (Wants.none rfl) rfl enters19 rfl rfl (fun w hs => (bytes_okQ gr Ad mb cd 0 kk kk (by omega) 0 (by omega) w (hs.has (⟨gr, 63, [Value.slice Ad mb cd, Value.int .i64 0, Value.int .i64 0, Value.int .i64 0], 4⟩) (by simp)) (by omega) (by omega) (by omega) Bb (hod.srcX (fun q9 hq9 => (show St _ (([⟨ge, 63, [Value.slice Ae mb ce, Value.int .i64 0, Value.int .i64 0, Value.int .i64 0], 4⟩, ⟨gr, 63, [Value.slice Ad mb cd, Value.int .i64 0, Value.int .i64 0, Value.int .i64 0], 4⟩, ⟨gs, 5, W.map (Value.int .u8), cs⟩] : List Ent) ++ ((Hd ++ He))) _ from hs).has q9 (List.mem_append_right _ (by simp [hq9]))) (fun q9 hq9 z9 hz9 => by rw [List.mem_singleton.1 hz9]; exact (show St _ (([⟨ge, 63, [Value.slice Ae mb ce, Value.int .i64 0, Value.int .i64 0, Value.int .i64 0], 4⟩, ⟨gr, 63, [Value.slice Ad mb cd, Value.int .i64 0, Value.int .i64 0, Value.int .i64 0], 4⟩, ⟨gs, 5, W.map (Value.int .u8), cs⟩] : List Ent) ++ ((Hd ++ He))) _ from hs).beside (d := ⟨gr, 63, [Value.slice Ad mb cd, Value.int .i64 0, Value.int .i64 0, Value.int .i64 0], 4⟩) (by simp) q9 (by simp [hq9]))) hBb (by omega)).mono fun e w' ⟨v9, H9, he9, ho9, hw⟩ => ⟨(v9, H9), he9, own_mono ho9 hs.size, (St.assoc3 (X := [⟨ge, 63, [Value.slice Ae mb ce, Value.int .i64 0, Value.int .i64 0, Value.int .i64 0], 4⟩, ⟨gr, 63, [Value.slice Ad mb cd, Value.int .i64 (kk : Int), Value.int .i64 0, Value.int .i64 0], 4⟩, ⟨gs, 5, W.map (Value.int .u8), cs⟩]) (Y := (Hd ++ He)) (St.turnE (i := 1) (e := ⟨gr, 63, [Value.slice Ad mb cd, Value.int .i64 (kk : Int), Value.int .i64 0, Value.int .i64 0], 4⟩) hs rfl rfl hw ho9.new))⟩) (fun y hR => ?_)
      obtain ⟨v1, H1⟩ := y
      dsimp only at hR ⊢
      have hO1 := hR
      clear hR
      obtain ⟨A1, c1, rfl, hc1, hd1⟩ := hO1.form
      have hl1 : ((Bb.drop 0).take kk).length = kk := by rw [List.length_take, List.length_drop, hsb.1]; omega
      rw [hl1] at hO1 hc1 ⊢
      have hFtH1 := Fresh.app hFtHe hO1.new
      iterate 8 refine gx ?_
      refine TL.gets (Wants.none rfl) rfl (Gets.sliceS rfl Try.underlying22 size5 rfl bnd.dflt (bnd.at_ (l := kk) rfl (by omega)) (by omega) (by omega) (cutA_zero _ _ _) (ln := kk) (cp := cb) (by omega) (by omega)) ?_
      refine TL.call0 (Wants.none rfl) rfl enters10 rfl rfl (v := .bool true) (fun w hs => calls_yes (by rw [List.drop_zero]) (sequal_c ((Bb.drop 0).take kk) (Bb.take kk) A1 Ab kk c1 kk cb w (hO1.srcOf (fun e he => hs.has e (by simp [he]))) ((hsb.at_ hs (fun b hb => (ne_app (ne_cons (by show ge ≠ b; omega) (ne_cons (by show gr ≠ b; omega) (ne_cons (by show gs ≠ b; omega) ne_nil))) (hFtH1.ne hb)))).head (by omega)) (by omega) (by omega) (by omega) (by omega))) ?_
      iterate 3 refine gx ?_
      refine TC.pr [0, 6, 7, 9, 10, 11] ?_
      iterate 8 refine gx ?_
      refine TC.pr [0, 6, 7, 9, 10, 11, 58, 59] ?_
      refine gx ?_
      refine TC.loop (ι := WK2) (fun x1 => [(0, .slice Ab mb cb), (6, .pointer (some ⟨gr, 0, none⟩)), (7, .pointer (some ⟨ge, 0, none⟩)), (9, .int .i64 (kk : Int)), (10, .slice A1 kk c1), (11, .bool true), (58, .int .i64 (kk : Int)), (59, .int .i64 (x1.k : Int))]) (fun x1 => [⟨ge, 63, [Value.slice Ae mb ce, Value.int .i64 0, Value.int .i64 0, Value.int .i64 0], 4⟩, ⟨gr, 63, [Value.slice Ad mb cd, Value.int .i64 (kk : Int), Value.int .i64 0, Value.int .i64 0], 4⟩, ⟨gs, 5, W.map (Value.int .u8), cs⟩] ++ ((Hd ++ He) ++ x1.He)) (fun x1 => kk - x1.k) (fun x1 => Own w.heap.size 5 .u8 (.slice A1 kk c1) x1.W x1.He ∧ x1.W.length = kk ∧ x1.k ≤ kk) (⟨0, ((Bb.drop 0).take kk), H1⟩ : WK2) ⟨hO1, hl1, Nat.zero_le _⟩ (Sub.slice (i := 0) rfl rfl (by first | omega | (dsimp only; omega) | rfl) (by first | omega | (dsimp only; omega) | rfl) (Sub.cons (i := 6) rfl (Sub.cons (i := 7) rfl (Sub.int (i := 9) rfl (by first | omega | rfl) (Sub.slice (i := 10) rfl rfl (by first | omega | (dsimp only; omega) | rfl) (by first | omega | (dsimp only; omega) | rfl) (Sub.cons (i := 11) rfl (Sub.int (i := 58) rfl (by first | omega | rfl) (Sub.int (i := 59) rfl rfl (Sub.nil))))))))) (fun w h => h) (fun x1 hC1 => ?_)
      obtain ⟨i, V, Hv⟩ := x1
      obtain ⟨hown, hVl, hi1⟩ := hC1
      dsimp only at hown hVl hi1 ⊢
      iterate 5 refine gx ?_
      refine TC.pr [0, 6, 7, 9, 10, 11, 58, 59, 60] ?_
      refine gx ?_
      refine TC.split rfl (fun hq3 => ?_) (fun hq3 => ?_)
      · obtain ⟨gy, cx, hvx, hHx, hgx, hcx, hmx⟩ := own_some hown (by intro h; injection h with _ h2 _; omega)
        injection hvx with e1 e2 e3
        subst e1
        subst e3
        subst hHx
        refine TC.heap (H' := [Ent.mk gy 5 (V.map (Value.int .u8)) c1, Ent.mk ge 63 ([Value.slice Ae mb ce, Value.int .i64 0, Value.int .i64 0, Value.int .i64 0]) 4, Ent.mk gr 63 ([Value.slice Ad mb cd, Value.int .i64 (kk : Int), Value.int .i64 0, Value.int .i64 0]) 4, Ent.mk gs 5 (W.map (Value.int .u8)) cs] ++ (Hd ++ He)) (fun w h => h.perm (perm_front _ _ _)) ?_
        iterate 2 refine gx ?_
        refine TC.pr [0, 6, 7, 9, 10, 11, 58, 59] ?_
        iterate 8 refine gx ?_
        refine TC.pr [0, 6, 7, 9, 10, 11, 12, 58, 59] ?_
        iterate 3 refine gx ?_
        refine TL.gets (Wants.none rfl) rfl (Gets.idxSlice rfl Try.underlying22 size5 rfl rfl (i := i) (by omega) (by omega) (off' := i) (by omega)) ?_
        refine TL.gets (Wants.none rfl) rfl (Gets.load1 rfl agg5 rfl (At.ent (i := 0) (ent := ⟨gy, 5, V.map (Value.int .u8), c1⟩) (off := i) rfl rfl (by have := ints_get (kd := .u8) (W := V) (i := i) (by rw [hVl]; omega); (first | exact this | (refine Eq.trans ?_ this; congr 1; omega))))) ?_
        refine TL.gets (Wants.none rfl) rfl (Gets.addU rfl rfl rfl) ?_
        refine TL.gets (Wants.none rfl) rfl (Gets.idxSlice rfl Try.underlying22 size5 rfl rfl (i := i) (by omega) (by omega) (off' := i) (by omega)) ?_
        refine TL.store1 (Wants.none rfl) rfl rfl size5 rfl rfl rfl (i := 0) rfl rfl (by simp [hVl] <;> omega) (cs' := (V.set i (addW .u8 (V.getD i 0) 1)).map (Value.int .u8)) (ints_set) (H' := [⟨gy, 5, (V.set i (addW .u8 (V.getD i 0) 1)).map (Value.int .u8), c1⟩, ⟨ge, 63, [Value.slice Ae mb ce, Value.int .i64 0, Value.int .i64 0, Value.int .i64 0], 4⟩, ⟨gr, 63, [Value.slice Ad mb cd, Value.int .i64 (kk : Int), Value.int .i64 0, Value.int .i64 0], 4⟩, ⟨gs, 5, W.map (Value.int .u8), cs⟩] ++ (Hd ++ He)) rfl ?_
        iterate 3 refine gx ?_
        refine TC.pr [0, 6, 7, 9, 10, 11, 58, 59] ?_
        refine gx ?_
        refine TL.gets (Wants.none rfl) rfl (Gets.add rfl rfl rfl (r := ((i : Int) + 1)) (w64 (by omega) (by omega))) ?_
        iterate 2 refine gx ?_
        exact TE.back (⟨i + 1, (V.set i (addW .u8 (V.getD i 0) 1)), [⟨gy, 5, (V.set i (addW .u8 (V.getD i 0) 1)).map (Value.int .u8), c1⟩]⟩ : WK2) (by show kk - (i + 1) < kk - i; omega) ⟨own_set hgx hcx hmx hVl, (List.length_set ..).trans hVl, by show i + 1 ≤ kk; omega⟩ (Sub.slice (i := 0) rfl rfl (by first | omega | (dsimp only; omega) | rfl) (by first | omega | (dsimp only; omega) | rfl) (Sub.cons (i := 6) rfl (Sub.cons (i := 7) rfl (Sub.int (i := 9) rfl (by first | omega | rfl) (Sub.slice (i := 10) rfl (by first | rfl | (congr 2; omega)) (by first | omega | (dsimp only; omega) | rfl) (by first | omega | (dsimp only; omega) | rfl) (Sub.cons (i := 11) rfl (Sub.int (i := 58) rfl (by first | omega | rfl) (Sub.int (i := 59) rfl (by show (i : Int) + 1 = ((i + 1 : Nat) : Int); omega) (Sub.nil))))))))) (fun w h => h.perm (perm_front _ _ _).symm)
      · iterate 5 refine gx ?_
        refine TC.pr [0, 6, 7, 9, 11] ?_
        refine gx ?_
        refine TC.heap (H' := [] ++ ([⟨ge, 63, [Value.slice Ae mb ce, Value.int .i64 0, Value.int .i64 0, Value.int .i64 0], 4⟩, ⟨gr, 63, [Value.slice Ad mb cd, Value.int .i64 (kk : Int), Value.int .i64 0, Value.int .i64 0], 4⟩, ⟨gs, 5, W.map (Value.int .u8), cs⟩] ++ ((Hd ++ He) ++ Hv))) (fun w h => h) ?_
        refine TC.mixB (HB := []) (H := [Ent.mk ge 63 ([Value.slice Ae mb ce, Value.int .i64 0, Value.int .i64 0, Value.int .i64 0]) 4, Ent.mk gr 63 ([Value.slice Ad mb cd, Value.int .i64 (kk : Int), Value.int .i64 0, Value.int .i64 0]) 4, Ent.mk gs 5 (W.map (Value.int .u8)) cs] ++ ((Hd ++ He) ++ Hv)) (by kernel_rfl) [0, 0, 0, 0, 0, 3, 0, 3, 0, 0, 0, 0, 3, 3, 0, 0, 0, 3, 0, 0] [0, 1, 2, 3, 4, 6, 5, 7, 8, 9, 10, 11, 14, 15, 16, 12, 13, 17, 18, 19] (by kernel_rfl) ?_
        refine TP.free (Wants.none rfl) rfl (fun _ => Gets.move rfl rfl) ?_
        refine TP.free (Wants.none rfl) rfl (fun _ => Gets.move rfl rfl) ?_
        refine TP.free (Wants.yes rfl rfl rfl) rfl (fun _ => Gets.move rfl rfl) ?_
        refine TP.free (Wants.yes rfl rfl rfl) rfl (fun _ => Gets.move rfl rfl) ?_
        refine TP.free (Wants.yes rfl rfl rfl) rfl (fun _ => Gets.lenSlice rfl Try.underlying22 rfl) ?_
        refine TP.free (Wants.yes rfl rfl rfl) rfl (fun _ => Gets.move rfl rfl) ?_
        refine TP.call (ι := Value × List Ent) (V := fun y => y.1) (R := fun y => Own w.heap.size 5 .u8 y.1 ((Bb.drop 0).take mb) y.2) (H' := fun y => [⟨ge, 63, [Value.slice Ae mb ce, Value.int .i64 (mb : Int), Value.int .i64 0, Value.int .i64 0], 4⟩, ⟨gr, 63, [Value.slice Ad mb cd, Value.int .i64 (kk : Int), Value.int .i64 0, Value.int .i64 0], 4⟩, ⟨gs, 5, W.map (Value.int .u8), cs⟩] ++ (((Hd ++ He) ++ Hv) ++ y.2)) (Wants.yes rfl rfl rfl) rfl enters19 rfl rfl (fun w hs => (bytes_okQ ge Ae mb ce 0 mb mb (by omega) 0 (by omega) w (hs.has (⟨ge, 63, [Value.slice Ae mb ce, Value.int .i64 0, Value.int .i64 0, Value.int .i64 0], 4⟩) (by simp)) (by omega) (by omega) (by omega) Bb (hoe.srcX (fun q9 hq9 => (show St _ (([⟨ge, 63, [Value.slice Ae mb ce, Value.int .i64 0, Value.int .i64 0, Value.int .i64 0], 4⟩, ⟨gr, 63, [Value.slice Ad mb cd, Value.int .i64 (kk : Int), Value.int .i64 0, Value.int .i64 0], 4⟩, ⟨gs, 5, W.map (Value.int .u8), cs⟩] : List Ent) ++ (((Hd ++ He) ++ Hv))) _ from hs).has q9 (List.mem_append_right _ (by simp [hq9]))) (fun q9 hq9 z9 hz9 => by rw [List.mem_singleton.1 hz9]; exact (show St _ (([⟨ge, 63, [Value.slice Ae mb ce, Value.int .i64 0, Value.int .i64 0, Value.int .i64 0], 4⟩, ⟨gr, 63, [Value.slice Ad mb cd, Value.int .i64 (kk : Int), Value.int .i64 0, Value.int .i64 0], 4⟩, ⟨gs, 5, W.map (Value.int .u8), cs⟩] : List Ent) ++ (((Hd ++ He) ++ Hv))) _ from hs).beside (d := ⟨ge, 63, [Value.slice Ae mb ce, Value.int .i64 0, Value.int .i64 0, Value.int .i64 0], 4⟩) (by simp) q9 (by simp [hq9]))) hBb (by omega)).mono fun e w' ⟨v9, H9, he9, ho9, hw⟩ => ⟨(v9, H9), he9, own_mono ho9 hs.size, (St.assoc3 (X := [⟨ge, 63, [Value.slice Ae mb ce, Value.int .i64 (mb : Int), Value.int .i64 0, Value.int .i64 0], 4⟩, ⟨gr, 63, [Value.slice Ad mb cd, Value.int .i64 (kk : Int), Value.int .i64 0, Value.int .i64 0], 4⟩, ⟨gs, 5, W.map (Value.int .u8), cs⟩]) (Y := ((Hd ++ He) ++ Hv)) (St.turnE (i := 0) (e := ⟨ge, 63, [Value.slice Ae mb ce, Value.int .i64 (mb : Int), Value.int .i64 0, Value.int .i64 0], 4⟩) hs rfl rfl hw ho9.new))⟩) (fun y hR => ?_)
        obtain ⟨v2, H2⟩ := y
        dsimp only at hR ⊢
        have hO2 := hR
        clear hR
        obtain ⟨A2, c2, rfl, hc2, hd2⟩ := hO2.form
        have hl2 : ((Bb.drop 0).take mb).length = mb := by rw [List.length_take, List.length_drop, hsb.1]; omega
        rw [hl2] at hO2 hc2 ⊢
        have hFtH2 := Fresh.app (Fresh.app hFtHe hown.new) hO2.new
        refine TP.call0 (Wants.yes rfl rfl rfl) rfl enters10 rfl rfl (v := .bool true) (fun w hs => calls_yes (by rw [List.drop_zero, List.take_of_length_le (by have := hsb.1; omega)]) (sequal_c ((Bb.drop 0).take mb) Bb A2 Ab mb c2 mb cb w (hO2.srcOf (fun e he => hs.has e (by simp [he]))) (hsb.at_ hs (fun b hb => (ne_app ne_nil (ne_app (ne_cons (by show ge ≠ b; omega) (ne_cons (by show gr ≠ b; omega) (ne_cons (by show gs ≠ b; omega) ne_nil))) (hFtH2.ne hb))))) (by omega) (by omega) (by omega) (by omega))) ?_
        refine TP.free (Wants.none rfl) rfl (fun _ => Gets.pickT rfl rfl rfl) ?_
        refine TP.free (Wants.none rfl) rfl (fun _ => Gets.move rfl rfl) ?_
        refine TP.free (Wants.yes rfl rfl rfl) rfl (fun _ => Gets.move rfl rfl) ?_
        refine TP.free (Wants.yes rfl rfl rfl) rfl (fun _ => Gets.move rfl rfl) ?_
        refine TP.free (Wants.yes rfl rfl rfl) rfl (fun _ => Gets.move rfl rfl) ?_
        refine TP.free (Wants.yes rfl rfl rfl) rfl (fun _ => Gets.move rfl rfl) ?_
        refine TP.free (Wants.yes rfl rfl rfl) rfl (fun _ => Gets.sliceS rfl Try.underlying22 size5 rfl (bnd.at_ (l := kk) rfl (by omega)) bnd.dflt (by omega) (by omega) rfl (ln := (mb - kk)) (cp := (cb - kk)) (by omega) (by omega)) ?_
        refine TP.call0 (Wants.yes rfl rfl rfl) rfl enters13 rfl rfl (v := .int .i64 (((mb - kk) : Nat) : Int)) (fun w hs => rest_n gr Ad mb cd kk 0 0 w (hs.has (⟨gr, 63, [Value.slice Ad mb cd, Value.int .i64 (kk : Int), Value.int .i64 0, Value.int .i64 0], 4⟩) (by simp)) (by omega) (by omega) (by omega)) ?_
        refine TP.call (ι := Value × List Ent) (V := fun y => y.1) (R := fun y => Own w.heap.size 5 .u8 y.1 ((Bb.drop kk).take (mb - kk)) y.2) (H' := fun y => [⟨ge, 63, [Value.slice Ae mb ce, Value.int .i64 (mb : Int), Value.int .i64 0, Value.int .i64 0], 4⟩, ⟨gr, 63, [Value.slice Ad mb cd, Value.int .i64 (mb : Int), Value.int .i64 0, Value.int .i64 0], 4⟩, ⟨gs, 5, W.map (Value.int .u8), cs⟩] ++ ((((Hd ++ He) ++ Hv) ++ H2) ++ y.2)) (Wants.yes rfl rfl rfl) rfl enters19 rfl rfl (fun w hs => (bytes_okQ gr Ad mb cd kk (mb - kk) mb (by omega) 0 (by omega) w (hs.has (⟨gr, 63, [Value.slice Ad mb cd, Value.int .i64 (kk : Int), Value.int .i64 0, Value.int .i64 0], 4⟩) (by simp)) (by omega) (by omega) (by omega) Bb (hod.srcX (fun q9 hq9 => (show St _ (([⟨ge, 63, [Value.slice Ae mb ce, Value.int .i64 (mb : Int), Value.int .i64 0, Value.int .i64 0], 4⟩, ⟨gr, 63, [Value.slice Ad mb cd, Value.int .i64 (kk : Int), Value.int .i64 0, Value.int .i64 0], 4⟩, ⟨gs, 5, W.map (Value.int .u8), cs⟩] : List Ent) ++ ((((Hd ++ He) ++ Hv) ++ H2))) _ from hs).has q9 (List.mem_append_right _ (by simp [hq9]))) (fun q9 hq9 z9 hz9 => by rw [List.mem_singleton.1 hz9]; exact (show St _ (([⟨ge, 63, [Value.slice Ae mb ce, Value.int .i64 (mb : Int), Value.int .i64 0, Value.int .i64 0], 4⟩, ⟨gr, 63, [Value.slice Ad mb cd, Value.int .i64 (kk : Int), Value.int .i64 0, Value.int .i64 0], 4⟩, ⟨gs, 5, W.map (Value.int .u8), cs⟩] : List Ent) ++ ((((Hd ++ He) ++ Hv) ++ H2))) _ from hs).beside (d := ⟨gr, 63, [Value.slice Ad mb cd, Value.int .i64 (kk : Int), Value.int .i64 0, Value.int .i64 0], 4⟩) (by simp) q9 (by simp [hq9]))) hBb (by omega)).mono fun e w' ⟨v9, H9, he9, ho9, hw⟩ => ⟨(v9, H9), he9, own_mono ho9 hs.size, (St.assoc3 (X := [⟨ge, 63, [Value.slice Ae mb ce, Value.int .i64 (mb : Int), Value.int .i64 0, Value.int .i64 0], 4⟩, ⟨gr, 63, [Value.slice Ad mb cd, Value.int .i64 (mb : Int), Value.int .i64 0, Value.int .i64 0], 4⟩, ⟨gs, 5, W.map (Value.int .u8), cs⟩]) (Y := (((Hd ++ He) ++ Hv) ++ H2)) (St.turnE (i := 1) (e := ⟨gr, 63, [Value.slice Ad mb cd, Value.int .i64 (mb : Int), Value.int .i64 0, Value.int .i64 0], 4⟩) hs rfl rfl hw ho9.new))⟩) (fun y hR => ?_)
        obtain ⟨v3, H3⟩ := y
        dsimp only at hR ⊢
        have hO3 := hR
        clear hR
        obtain ⟨A3, c3, rfl, hc3, hd3⟩ := hO3.form
        have hl3 : ((Bb.drop kk).take (mb - kk)).length = (mb - kk) := by rw [List.length_take, List.length_drop, hsb.1]; omega
        rw [hl3] at hO3 hc3 ⊢
        have hFtH3 := Fresh.app hFtH2 hO3.new
        refine TP.call0 (Wants.yes rfl rfl rfl) rfl enters10 rfl rfl (v := .bool true) (fun w hs => calls_yes (by rw [List.take_of_length_le (by rw [List.length_drop, hsb.1]; omega)]) (sequal_c ((Bb.drop kk).take (mb - kk)) (Bb.drop kk) A3 (cutA Ab cb kk 1) (mb - kk) c3 (mb - kk) (cb - kk) w (hO3.srcOf (fun e he => hs.has e (by simp [he]))) ((hsb.at_ hs (fun b hb => (ne_app ne_nil (ne_app (ne_cons (by show ge ≠ b; omega) (ne_cons (by show gr ≠ b; omega) (ne_cons (by show gs ≠ b; omega) ne_nil))) (hFtH3.ne hb))))).toX0.drop (by omega) (by omega)).src (by omega) (by omega) (by omega) (by omega))) ?_
        refine TP.free (Wants.none rfl) rfl (fun _ => Gets.pickT rfl rfl rfl) ?_
        refine TP.free (Wants.none rfl) rfl (fun _ => Gets.assign rfl rfl) ?_
        refine TP.nil ?_
        refine TE.heap (H' := [⟨ge, 63, [Value.slice Ae mb ce, Value.int .i64 (mb : Int), Value.int .i64 0, Value.int .i64 0], 4⟩, ⟨gr, 63, [Value.slice Ad mb cd, Value.int .i64 (mb : Int), Value.int .i64 0, Value.int .i64 0], 4⟩, ⟨gs, 5, W.map (Value.int .u8), cs⟩] ++ ((((Hd ++ He) ++ Hv) ++ H2) ++ H3)) (fun w h => h) ?_
        refine gx ?_
        refine TC.pr [11] ?_
        iterate 8 refine gx ?_
        refine TL.call0 (Wants.none rfl) rfl enters17 rfl rfl (v := .tuple #[]) (fun w hs => fail_nil 9 3 w) ?_
        iterate 4 refine gx ?_
        refine TL.call0 (Wants.none rfl) rfl enters7 rfl rfl (v := .bool true) (fun w hs => alive_c w) ?_
        iterate 5 refine gx ?_
        refine TL.call0 (Wants.yes rfl rfl rfl) rfl enters12 rfl rfl (v := .int .u64 0) (fun w hs => uint_nil 1 w) ?_
        refine TL.gets (Wants.yes rfl rfl rfl) rfl (Gets.isTrue (Gets.eql rfl rfl rfl) rfl) ?_
        iterate 3 refine gx ?_
        refine TL.call0 (Wants.yes rfl rfl rfl) rfl enters18 rfl rfl (v := .int .i64 0) (fun w hs => length_nil w) ?_
        refine TL.gets (Wants.yes rfl rfl rfl) rfl (Gets.isTrue (Gets.eql rfl rfl rfl) rfl) ?_
        iterate 3 refine gx ?_
        refine TL.call0 (Wants.yes rfl rfl rfl) rfl enters19 rfl rfl (v := .slice none 0 0) (fun w hs => bytes_nil 1 w) ?_
        refine gx ?_
        refine TL.gets (Wants.yes rfl rfl rfl) rfl (Gets.isTrue (Gets.eql rfl rfl rfl) rfl) ?_
        iterate 3 refine gx ?_
        refine TL.call0 (Wants.yes rfl rfl rfl) rfl enters20 rfl rfl (v := .bool false) (fun w hs => expect_nil 9 none 0 0 w) ?_
        iterate 4 refine gx ?_
        refine TL.call0 (Wants.yes rfl rfl rfl) rfl enters14 rfl rfl (v := .int .i64 0) (fun w hs => at_nil w) ?_
        refine TL.gets (Wants.yes rfl rfl rfl) rfl (Gets.isTrue (Gets.eql rfl rfl rfl) rfl) ?_
        iterate 3 refine gx ?_
        refine TL.call0 (Wants.yes rfl rfl rfl) rfl enters13 rfl rfl (v := .int .i64 0) (fun w hs => rest_nil w) ?_
        refine TL.gets (Wants.yes rfl rfl rfl) rfl (Gets.isTrue (Gets.eql rfl rfl rfl) rfl) ?_
        iterate 3 refine gx ?_
        refine TL.call0 (Wants.yes rfl rfl rfl) rfl enters15 rfl rfl (v := .agg ([Value.int .i64 1, Value.int .i64 0]).toArray) (fun w hs => fault_nil w) ?_
        refine TL.gets (Wants.yes rfl rfl rfl) rfl (Gets.build rfl (vs := [(0, Value.int .i64 1)]) rfl (fun w => by first | rfl | kernel_rfl) (v := .agg ([Value.int .i64 1, Value.int .i64 0]).toArray)) ?_
        refine TL.gets (Wants.yes rfl rfl rfl) rfl (Gets.isTrue (Gets.pairEq rfl Try.underlying41 (by decide) (by decide) rfl rfl Try.underlying39 Try.underlying3 sih41 geq41 rfl rfl) ⟨rfl, rfl⟩) ?_
        iterate 5 refine gx ?_
        exact TE.ret1 rfl rfl (fun w hs => ⟨rfl, St.left (H := []) hs (Fresh.cons (by assumption) (Fresh.cons (by assumption) (Fresh.cons (by assumption) hFtH3)))⟩)
end Go.Proofs.Ytdllgfkcakhoeaa
