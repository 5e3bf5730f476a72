/-
  CheckParts: the walk.
-/
import Derived.Test.YtilmoheipkncfaaDoorChkJ
namespace Go.Proofs.YtilmoheipkncfaaDoor
set_option linter.unusedVariables false
set_option linter.unusedSimpArgs false
open Go Go.RowKit


theorem PartsO.head {w : World} {A : Option Addr} {m n : Nat} {Ps : List (List Int)} (h : PartsO w A m Ps) (hn : n ≤ m) : PartsO w A n (Ps.take n) := by
  obtain ⟨h1, h2⟩ := h
  refine ⟨by rw [List.length_take]; omega, ?_⟩
  rcases h2 with h2 | ⟨b, off, hA, hb, hc⟩
  · exact .inl (by omega)
  · refine .inr ⟨b, off, hA, hb, fun i hi => ?_⟩
    obtain ⟨Ai, mi, ci, k1, k2, k3⟩ := hc i (by omega)
    refine ⟨Ai, mi, ci, k1, ?_, k3⟩
    have : (Ps.take n).getD i [] = Ps.getD i [] := by simp [List.getD_eq_getElem?_getD, List.getElem?_take, hi]
    rw [this]; exact k2
theorem PartsO.tail {w : World} {A : Option Addr} {m n c : Nat} {Ps : List (List Int)} (h : PartsO w A m Ps) (hn : n ≤ m) (hmc : m ≤ c) : PartsO w (cutA A c n 1) (m - n) (Ps.drop n) := by
  obtain ⟨h1, h2⟩ := h
  refine ⟨by rw [List.length_drop]; omega, ?_⟩
  by_cases hz : m - n = 0
  · exact .inl hz
  rcases h2 with h2 | ⟨b, off, hA, hb, hc⟩
  · exact .inl (by omega)
  · refine .inr ⟨b, off + n, ?_, hb, fun i hi => ?_⟩
    · rw [hA]; exact cut_is (by omega) (by omega)
    · obtain ⟨Ai, mi, ci, k1, k2, k3⟩ := hc (n + i) (by omega)
      refine ⟨Ai, mi, ci, by rw [Nat.add_assoc]; exact k1, ?_, k3⟩
      have : (Ps.drop n).getD i [] = Ps.getD (n + i) [] := by simp [List.getD_eq_getElem?_getD, List.getElem?_drop]
      rw [this]; exact k2
theorem flat_len {Ps : List (List Int)} (h : ∀ j, j < Ps.length → (Ps.getD j []).length ≤ 300) : Ps.flatten.length ≤ 300 * Ps.length := by
  induction Ps with
  | nil => simp
  | cons p Ps ih =>
    have h0 := h 0 (by simp)
    have h1 := ih (fun j hj => by have := h (j + 1) (by simpa using hj); simpa using this)
    simp only [List.getD_cons_zero] at h0
    simp only [List.flatten_cons, List.length_append, List.length_cons]
    omega
theorem own_small {k : Nat} {Ps : List (List Int)} (h : k ≤ 60 ∧ k ≤ Ps.length ∧ ∀ j, j < k → (Ps.getD j []).length ≤ 300) : (Ps.take k).flatten.length ≤ 18000 := by
  have := flat_len (Ps := Ps.take k) (fun j hj => by
    have hjk : j < k := by simp at hj; omega
    have := h.2.2 j hjk
    simpa [List.getD_eq_getElem?_getD, List.getElem?_take, hjk] using this)
  simp at this
  simp
  omega
theorem small_succ {k : Nat} {Ps : List (List Int)} (h : ∀ j, j < k → (Ps.getD j []).length ≤ 300) (h2 : (Ps.getD k []).length ≤ 300) : ∀ j, j < k + 1 → (Ps.getD j []).length ≤ 300 := fun j hj => by
  by_cases hjk : j = k
  · rw [hjk]; exact h2
  · exact h j (by omega)
theorem take_all {k m : Nat} {Ps : List (List Int)} (h : Ps.length = m) (hk : k ≤ m) (hn : ¬ (k : Int) < m) : Ps.take k = Ps := List.take_of_length_le (by omega)
theorem len_take {Ps : List (List Int)} {m : Nat} (h : ∀ j, j < m → (Ps.getD j []).length ≤ 300) (n : Nat) (hn : n ≤ m) : ∀ j, j < n → ((Ps.take n).getD j []).length ≤ 4611686018427387000 := fun j hj => by
  have h2 := h j (by omega)
  have : (Ps.take n).getD j [] = Ps.getD j [] := by simp [List.getD_eq_getElem?_getD, List.getElem?_take, hj]
  rw [this]; omega
theorem len_drop {Ps : List (List Int)} {m : Nat} (h : ∀ j, j < m → (Ps.getD j []).length ≤ 300) (n : Nat) : ∀ j, j < m - n → ((Ps.drop n).getD j []).length ≤ 4611686018427387000 := fun j hj => by
  have h2 := h (n + j) (by omega)
  have : (Ps.drop n).getD j [] = Ps.getD (n + j) [] := by simp [List.getD_eq_getElem?_getD, List.getElem?_drop]
  rw [this]; omega
structure WP where
  k : Nat
  v : Value
  He : List Ent

set_option maxRecDepth 100000 in
set_option maxHeartbeats 2000000 in
theorem checkParts_walk0 (w : World) (Ps : List (List Int)) (A : Option Addr) (m c : Nat) (hP : PartsO w A m Ps) (hmc : m ≤ c) (hcm : c ≤ 9223372036854775807) (hB : Bytes Ps.flatten) (kk : Int) (hkk : 0 ≤ kk ∧ kk ≤ 255) (nn : Nat) (hnn : (if (m : Int) < kk then (m : Int) else kk) = (nn : Int)) (hnm : nn ≤ m) (h1 : 1 < w.heap.size) (hLO : RowI w 0 0 16 .u32 LOWT) (hHI : RowI w 1 0 16 .u32 HIGHT) : Calls Tryd.prog 3 #[.slice A m c, .int .u8 kk] w fun e w' => e = .returned (.bool true) ∧ St w [] w' := by
  refine calls_from (args := [.slice A m c, .int .u8 kk]) Tryd.func3 rfl Tryd.ntmps3 (by simp) ?_
  refine TC.sub (Sub.cons (i := 0) rfl (Sub.cons (i := 1) rfl (Sub.nil))) ?_
  refine TC.seq ?_
  refine TC.regionL ?_
  refine TL.gets (Wants.none rfl) rfl (Gets.assign rfl rfl) ?_
  refine TL.nil ?_
  refine TE.then ?_
  refine TC.seq ?_
  refine TC.seq ?_
  refine TC.regionL ?_
  refine TL.gets (Wants.none rfl) rfl (Gets.move rfl rfl) ?_
  refine TL.gets (Wants.none rfl) rfl (Gets.lenSlice rfl Tryd.underlying22 rfl) ?_
  refine TL.gets (Wants.none rfl) rfl (Gets.gtr rfl rfl rfl) ?_
  refine TL.nil ?_
  refine TE.then ?_
  refine TC.split rfl (fun hq0 => ?_) (fun hq0 => ?_)
  · refine TC.seq ?_
    refine TC.regionL ?_
    refine TL.call0 (Wants.none rfl) rfl enters9 rfl rfl (v := .bool true) (fun w hs => alive_c w (Nat.lt_of_lt_of_le h1 hs.size) (hLO.keepH hs (by omega) ne_nil) (hHI.keepH hs h1 ne_nil)) ?_
    refine TL.gets (Wants.none rfl) rfl (Gets.assign rfl rfl) ?_
    refine TL.nil ?_
    refine TE.then ?_
    refine TC.ret ?_
    refine TE.thenR ?_
    exact TE.ret1 rfl rfl (fun w hs => ⟨rfl, hs⟩)
  · refine TC.skip ?_
    refine TE.then ?_
    refine TC.seq ?_
    refine TC.regionL ?_
    refine TL.gets (Wants.none rfl) rfl (Gets.assign rfl rfl) ?_
    refine TL.nil ?_
    refine TE.then ?_
    refine TC.seq ?_
    refine TC.seq ?_
    refine TC.regionL ?_
    refine TL.gets (Wants.none rfl) rfl (Gets.move rfl rfl) ?_
    refine TL.gets (Wants.none rfl) rfl (Gets.lenSlice rfl Tryd.underlying22 rfl) ?_
    refine TL.gets (Wants.none rfl) rfl (Gets.move rfl rfl) ?_
    refine TL.nil ?_
    refine TE.then ?_
    refine TC.sub (Sub.cons (i := 0) rfl (Sub.cons (i := 1) rfl (Sub.cons (i := 4) rfl (Sub.cons (i := 5) rfl (Sub.cons (i := 13) rfl (Sub.cons (i := 14) rfl (Sub.cons (i := 15) rfl (Sub.nil)))))))) ?_
    refine TC.block ?_
    refine TC.loop (ι := WP) (fun x => [(0, .slice A m c), (1, .int .u8 kk), (5, x.v), (13, .slice A m c), (14, .int .i64 (m : Int)), (15, .int .i64 (x.k : Int))]) (fun x => [] ++ x.He) (fun x => m - x.k) (fun x => Own w.heap.size 5 .u8 x.v (Ps.take x.k).flatten x.He ∧ x.k ≤ 60 ∧ x.k ≤ Ps.length ∧ ∀ j, j < x.k → (Ps.getD j []).length ≤ 300) (⟨0, .slice none 0 0, []⟩ : WP) ⟨by simpa using Own.nil _ _ _, by show 0 ≤ 60; omega, Nat.zero_le _, fun j hj => absurd hj (Nat.not_lt_zero j)⟩ (Sub.slice (i := 0) rfl rfl (by first | omega | (dsimp only; omega) | rfl) (by first | omega | (dsimp only; omega) | rfl) (Sub.int (i := 1) rfl (by first | rfl | omega) (Sub.cons (i := 5) rfl (Sub.slice (i := 13) rfl rfl (by first | omega | (dsimp only; omega) | rfl) (by first | omega | (dsimp only; omega) | rfl) (Sub.int (i := 14) rfl (by first | omega | rfl) (Sub.int (i := 15) rfl (by first | omega | rfl) (Sub.nil))))))) (fun w h => h) (fun x hC0 => ?_)
    obtain ⟨k, v, He⟩ := x
    obtain ⟨hown, hC2⟩ := hC0
    dsimp only at hown hC2 ⊢
    have hPl := hP.1
    refine TC.seq ?_
    refine TC.regionL ?_
    refine TL.gets (Wants.none rfl) rfl (Gets.lss rfl rfl rfl) ?_
    refine TL.nil ?_
    refine TE.then ?_
    refine TC.seq ?_
    refine TC.split rfl (fun hq1 => ?_) (fun hq1 => ?_)
    · obtain ⟨b, off, hE, hb, hcells⟩ := hP.2.resolve_left (by omega)
      subst hE
      obtain ⟨Ai, mi, ci, hci, hSi, hmi⟩ := hcells k (by omega)
      have hoff : off + k = (off + k) := rfl
      have hPl := hP.1
      have hSl := hSi.1
      refine TC.skip ?_
      refine TE.then ?_
      refine TC.seq ?_
      refine TC.block ?_
      refine TC.seq ?_
      refine TC.regionL ?_
      refine TL.gets (Wants.none rfl) rfl (Gets.idxSlice rfl Tryd.underlying22 size24 rfl rfl (i := k) (by omega) (by omega) (off' := (off + k)) (by omega)) ?_
      refine TL.gets (Wants.none rfl) rfl (Gets.load1 rfl agg24 rfl (At.old (hoff ▸ hci) hb (ne_app ne_nil (hown.ne hb)))) ?_
      refine TL.gets (Wants.none rfl) rfl (Gets.assign rfl rfl) ?_
      refine TL.nil ?_
      refine TE.then ?_
      refine TC.sub (Sub.cons (i := 0) rfl (Sub.cons (i := 1) rfl (Sub.cons (i := 5) rfl (Sub.cons (i := 7) rfl (Sub.cons (i := 13) rfl (Sub.cons (i := 14) rfl (Sub.cons (i := 15) rfl (Sub.nil)))))))) ?_
      refine TC.seq ?_
      refine TC.seq ?_
      refine TC.regionL ?_
      refine TL.gets (Wants.none rfl) rfl (Gets.move rfl rfl) ?_
      refine TL.gets (Wants.none rfl) rfl (Gets.lenSlice rfl Tryd.underlying24 rfl) ?_
      refine TL.gets (Wants.none rfl) rfl (Gets.gtr rfl rfl rfl) ?_
      refine TL.nil ?_
      refine TE.then ?_
      refine TC.sub (Sub.cons (i := 0) rfl (Sub.cons (i := 1) rfl (Sub.cons (i := 5) rfl (Sub.cons (i := 7) rfl (Sub.cons (i := 13) rfl (Sub.cons (i := 14) rfl (Sub.cons (i := 15) rfl (Sub.cons (i := 21) rfl (Sub.nil))))))))) ?_
      refine TC.split rfl (fun hq2 => ?_) (fun hq2 => ?_)
      · refine TC.seq ?_
        refine TC.regionL ?_
        refine TL.call0 (Wants.none rfl) rfl enters9 rfl rfl (v := .bool true) (fun w hs => alive_c w (Nat.lt_of_lt_of_le h1 hs.size) (hLO.keepH hs (by omega) (ne_app ne_nil (hown.ne (Nat.lt_trans Nat.zero_lt_one h1)))) (hHI.keepH hs h1 (ne_app ne_nil (hown.ne h1)))) ?_
        refine TL.gets (Wants.none rfl) rfl (Gets.assign rfl rfl) ?_
        refine TL.nil ?_
        refine TE.then ?_
        refine TC.ret ?_
        refine TE.thenR ?_
        refine TE.blockR ?_
        refine TE.thenR ?_
        refine TE.thenR ?_
        refine TE.blockR ?_
        refine TE.thenR ?_
        exact TE.ret1 rfl rfl (fun w hs => ⟨rfl, (St.left (H := []) hs hown.new)⟩)
      · refine TC.skip ?_
        refine TE.then ?_
        refine TC.regionL ?_
        refine TL.gets (Wants.none rfl) rfl (Gets.move rfl rfl) ?_
        refine TL.gets (Wants.none rfl) rfl (Gets.move rfl rfl) ?_
        refine TL.appendOwn (H := []) (Wants.none rfl) rfl rfl Tryd.underlying24 mk5 rfl rfl rfl (W := (Ps.take k).flatten) (B := Ps.getD k []) hown (fun w hs => hSi.at_ hs (fun b hb => ne_app ne_nil (hown.ne hb))) (by have := own_small hC2; omega) (by have := own_small hC2; omega) (fun vo Ho ho hne => ?_)
        refine TL.gets (Wants.none rfl) rfl (Gets.assign rfl rfl) ?_
        refine TL.nil ?_
        refine TE.blockN ?_
        refine TE.then ?_
        refine TC.sub (Sub.cons (i := 0) rfl (Sub.cons (i := 1) rfl (Sub.cons (i := 5) rfl (Sub.cons (i := 13) rfl (Sub.cons (i := 14) rfl (Sub.cons (i := 15) rfl (Sub.nil))))))) ?_
        refine TC.regionL ?_
        refine TL.gets (Wants.none rfl) rfl (Gets.add rfl rfl rfl (r := ((k : Int) + 1)) (w64 (by omega) (by omega))) ?_
        refine TL.gets (Wants.none rfl) rfl (Gets.move rfl rfl) ?_
        refine TL.nil ?_
        exact TE.back (⟨k + 1, vo, Ho⟩ : WP) (by show m - (k + 1) < m - k; omega) ⟨by show Own _ _ _ vo (Ps.take (k + 1)).flatten Ho; have := flat_succ (i := k) (Ps := Ps) (by omega) []; simp only [List.nil_append] at this; rw [this]; exact ho, by show k + 1 ≤ 60; omega, by show k + 1 ≤ Ps.length; omega, small_succ hC2.2.2 (by omega)⟩ (Sub.slice (i := 0) rfl rfl (by first | omega | (dsimp only; omega) | rfl) (by first | omega | (dsimp only; omega) | rfl) (Sub.int (i := 1) rfl (by first | rfl | omega) (Sub.cons (i := 5) rfl (Sub.slice (i := 13) rfl (by first | rfl | (congr 2; omega)) (by first | omega | (dsimp only; omega) | rfl) (by first | omega | (dsimp only; omega) | rfl) (Sub.int (i := 14) rfl (by first | omega | rfl) (Sub.int (i := 15) rfl (by first | omega | rfl) (Sub.nil))))))) (fun w h => h)
    · have htk := take_all hP.1 (by have := hP.1; omega) hq1
      have hflat : Ps.flatten.length ≤ 18000 := by have := own_small hC2; rwa [htk] at this
      rw [htk] at hown
      obtain ⟨Av, cv, hv, hcv, hcv2⟩ := hown.form
      subst hv
      have hsm : ∀ j, j < m → (Ps.getD j []).length ≤ 300 := fun j hj => hC2.2.2 j (by omega)
      refine TC.exit ?_
      refine TE.thenX ?_
      refine TE.thenX ?_
      refine TE.blockX ?_
      refine TE.then ?_
      refine TC.seq ?_
      refine TC.regionL ?_
      refine TL.gets (Wants.none rfl) rfl (Gets.move rfl rfl) ?_
      refine TL.gets (Wants.none rfl) rfl (Gets.conv rfl Tryd.underlying5 Tryd.underlying3 rfl (r := kk) (w64 rfl (by omega))) ?_
      refine TL.gets (Wants.none rfl) rfl (Gets.move rfl rfl) ?_
      refine TL.gets (Wants.none rfl) rfl (Gets.lenSlice rfl Tryd.underlying22 rfl) ?_
      refine TL.gets (Wants.none rfl) rfl (Gets.congr (Gets.min2 rfl rfl rfl) (by rw [hnn])) ?_
      refine TL.gets (Wants.none rfl) rfl (Gets.assign rfl rfl) ?_
      refine TL.nil ?_
      refine TE.then ?_
      refine TC.sub (Sub.cons (i := 0) rfl (Sub.cons (i := 5) rfl (Sub.cons (i := 8) rfl (Sub.nil)))) ?_
      refine TC.seq ?_
      refine TC.mix (by kernel_rfl) [1, 0, 0, 1, 0, 1, 0, 0, 0, 0, 0, 0, 1, 0, 0, 0, 1, 0, 1, 0, 0, 0] rfl (by kernel_rfl) ?_
      refine TM.call0 (Wants.none rfl) rfl enters9 rfl rfl (v := .bool true) (fun w hs => alive_c w (Nat.lt_of_lt_of_le h1 hs.size) (hLO.keepH hs (by omega) (ne_app ne_nil (hown.ne (Nat.lt_trans Nat.zero_lt_one h1)))) (hHI.keepH hs h1 (ne_app ne_nil (hown.ne h1)))) ?_
      refine TM.free (Wants.none rfl) rfl (fun _ => Gets.move rfl rfl) ?_
      refine TM.free (Wants.yes rfl rfl rfl) rfl (fun _ => Gets.move rfl rfl) ?_
      refine TM.call0 (Wants.yes rfl rfl rfl) rfl enters10 rfl rfl (v := .int .u32 (vI (crcV 0#32 Ps.flatten))) (fun w hs => of_c Ps A m c w (hP.at_ hs (fun b hb => (ne_app ne_nil (hown.ne hb)))) hmc hcm (fun j hj => by have := hsm j hj; omega) (Nat.lt_of_lt_of_le h1 hs.size) (hLO.keepH hs (by omega) (ne_app ne_nil (hown.ne (Nat.lt_trans Nat.zero_lt_one h1)))) (hHI.keepH hs h1 (ne_app ne_nil (hown.ne h1)))) ?_
      refine TM.free (Wants.yes rfl rfl rfl) rfl (fun _ => Gets.move rfl rfl) ?_
      refine TM.call0 (Wants.yes rfl rfl rfl) rfl enters11 rfl rfl (v := .int .u32 (vI (crcV 0#32 Ps.flatten))) (fun w hs => rof_c Ps.flatten hB Av Ps.flatten.length cv w (hown.srcOf (St.right (H1 := []) hs)) (by omega) (by omega)) ?_
      refine TM.free (Wants.yes rfl rfl rfl) rfl (fun _ => Gets.isTrue (Gets.eql rfl rfl rfl) rfl) ?_
      refine TM.free (Wants.none rfl) rfl (fun _ => Gets.pickT rfl rfl rfl) ?_
      refine TM.free (Wants.none rfl) rfl (fun _ => Gets.move rfl rfl) ?_
      refine TM.free (Wants.yes rfl rfl rfl) rfl (fun _ => Gets.move rfl rfl) ?_
      refine TM.free (Wants.yes rfl rfl rfl) rfl (fun _ => Gets.move rfl rfl) ?_
      refine TM.free (Wants.yes rfl rfl rfl) rfl (fun _ => Gets.sliceS rfl Tryd.underlying22 size24 rfl bnd.dflt (bnd.at_ (l := nn) rfl (by omega)) (by omega) (by omega) (cutA_zero _ _ _) (ln := nn) (cp := c) (by omega) (by omega)) ?_
      refine TM.call0 (Wants.yes rfl rfl rfl) rfl enters10 rfl rfl (v := .int .u32 (vI (crcV 0#32 (Ps.take nn).flatten))) (fun w hs => of_c (Ps.take nn) A nn c w ((hP.at_ hs (fun b hb => (ne_app ne_nil (hown.ne hb)))).head hnm) (by omega) hcm (len_take hsm nn hnm) (Nat.lt_of_lt_of_le h1 hs.size) (hLO.keepH hs (by omega) (ne_app ne_nil (hown.ne (Nat.lt_trans Nat.zero_lt_one h1)))) (hHI.keepH hs h1 (ne_app ne_nil (hown.ne h1)))) ?_
      refine TM.free (Wants.yes rfl rfl rfl) rfl (fun _ => Gets.move rfl rfl) ?_
      refine TM.free (Wants.yes rfl rfl rfl) rfl (fun _ => Gets.move rfl rfl) ?_
      refine TM.free (Wants.yes rfl rfl rfl) rfl (fun _ => Gets.sliceS rfl Tryd.underlying22 size24 rfl (bnd.at_ (l := nn) rfl (by omega)) bnd.dflt (by omega) (by omega) rfl (ln := (m - nn)) (cp := (c - nn)) (by omega) (by omega)) ?_
      refine TM.call0 (Wants.yes rfl rfl rfl) rfl enters12 rfl rfl (v := .int .u32 (vI (crcV (crcV 0#32 (Ps.take nn).flatten) (Ps.drop nn).flatten))) (fun w hs => extend_c (crcV 0#32 (Ps.take nn).flatten) (Ps.drop nn) (cutA A c nn 1) (m - nn) (c - nn) w ((hP.at_ hs (fun b hb => (ne_app ne_nil (hown.ne hb)))).tail hnm hmc) (by omega) (by omega) (len_drop hsm nn) (Nat.lt_of_lt_of_le h1 hs.size) (hLO.keepH hs (by omega) (ne_app ne_nil (hown.ne (Nat.lt_trans Nat.zero_lt_one h1)))) (hHI.keepH hs h1 (ne_app ne_nil (hown.ne h1)))) ?_
      refine TM.free (Wants.yes rfl rfl rfl) rfl (fun _ => Gets.move rfl rfl) ?_
      refine TM.call0 (Wants.yes rfl rfl rfl) rfl enters11 rfl rfl (v := .int .u32 (vI (crcV 0#32 Ps.flatten))) (fun w hs => rof_c Ps.flatten hB Av Ps.flatten.length cv w (hown.srcOf (St.right (H1 := []) hs)) (by omega) (by omega)) ?_
      refine TM.free (Wants.yes rfl rfl rfl) rfl (fun _ => Gets.isTrue (Gets.eql rfl rfl rfl) (by rw [← crcV_app, ← List.flatten_append, List.take_append_drop])) ?_
      refine TM.free (Wants.none rfl) rfl (fun _ => Gets.pickT rfl rfl rfl) ?_
      refine TM.free (Wants.none rfl) rfl (fun _ => Gets.assign rfl rfl) ?_
      refine TM.nil ?_
      refine TE.then ?_
      refine TC.ret ?_
      exact TE.ret1 rfl rfl (fun w hs => ⟨rfl, (St.left (H := []) hs hown.new)⟩)


theorem checkParts_walk (w : World) (Ps : List (List Int)) (A : Option Addr) (m c : Nat) (hP : PartsO w A m Ps) (hmc : m ≤ c) (hcm : c ≤ 9223372036854775807) (hB : Bytes Ps.flatten) (kk : Int) (hkk : 0 ≤ kk ∧ kk ≤ 255) (h1 : 1 < w.heap.size) (hLO : RowI w 0 0 16 .u32 LOWT) (hHI : RowI w 1 0 16 .u32 HIGHT) : Calls Tryd.prog 3 #[.slice A m c, .int .u8 kk] w fun e w' => e = .returned (.bool true) ∧ St w [] w' := by
  obtain ⟨nn, hnn, hnm⟩ : ∃ nn : Nat, (if (m : Int) < kk then (m : Int) else kk) = (nn : Int) ∧ nn ≤ m := by
    refine ⟨min m kk.toNat, ?_, by omega⟩
    split <;> omega
  exact checkParts_walk0 w Ps A m c hP hmc hcm hB kk hkk nn hnn hnm h1 hLO hHI
end Go.Proofs.YtilmoheipkncfaaDoor
