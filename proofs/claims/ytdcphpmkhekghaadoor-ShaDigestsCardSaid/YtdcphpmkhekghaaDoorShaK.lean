/-
  ShaParts: the walk.
-/
import Derived.Test.YtdcphpmkhekghaaDoorShaJ
namespace Go.Proofs.YtdcphpmkhekghaaDoor
set_option linter.unusedVariables false
set_option linter.unusedSimpArgs false
open Go Go.RowKit


theorem PartsO.at_ {w0 w : World} {H : List Ent} {A : Option Addr} {m : Nat} {Ps : List (List Int)} (h : PartsO w0 A m Ps) (hs : St w0 H w) (hH : ∀ b, b < w0.heap.size → ∀ e ∈ H, e.g ≠ b) : PartsO w A m Ps := by
  obtain ⟨h1, h2⟩ := h
  refine ⟨h1, ?_⟩
  rcases h2 with h2 | ⟨b, off, hA, hb, hc⟩
  · exact .inl h2
  · refine .inr ⟨b, off, hA, Nat.lt_of_lt_of_le hb hs.size, fun i hi => ?_⟩
    obtain ⟨Ai, mi, ci, k1, k2, k3⟩ := hc i hi
    exact ⟨Ai, mi, ci, (hs.old_cell (ad := ⟨b, off + i, none⟩) hb (hH b hb)).trans k1, k2.at_ hs hH, k3⟩
theorem flat_len {Ps : List (List Int)} (h : ∀ j, j < Ps.length → (Ps.getD j []).length ≤ 200) : Ps.flatten.length ≤ 200 * Ps.length := by
  induction Ps with
  | nil => simp
  | cons p Ps ih =>
    have h0 := h 0 (by simp)
    have h1 := ih (fun j hj => by have := h (j + 1) (by simpa using hj); simpa using this)
    simp only [List.getD_cons_zero] at h0
    simp only [List.flatten_cons, List.length_append, List.length_cons]
    omega
structure WP where
  k : Nat
  v : Value
  He : List Ent
structure WQ where
  k : Nat
  st : List Int
  rs : List Int

theorem own_small {k : Nat} {Ps : List (List Int)} (h : k ≤ 30 ∧ k ≤ Ps.length ∧ ∀ j, j < k → (Ps.getD j []).length ≤ 200) : (Ps.take k).flatten.length ≤ 6000 := by
  have := flat_len (Ps := Ps.take k) (fun j hj => by
    have hjk : j < k := by simp at hj; omega
    have := h.2.2 j hjk
    simpa [List.getD_eq_getElem?_getD, List.getElem?_take, hjk] using this)
  simp at this
  simp
  omega
theorem small_succ {k : Nat} {Ps : List (List Int)} (h : ∀ j, j < k → (Ps.getD j []).length ≤ 200) (h2 : (Ps.getD k []).length ≤ 200) : ∀ j, j < k + 1 → (Ps.getD j []).length ≤ 200 := fun j hj => by
  by_cases hjk : j = k
  · rw [hjk]; exact h2
  · exact h j (by omega)
theorem take_all {k m : Nat} {Ps : List (List Int)} (h : Ps.length = m) (hk : k ≤ m) (hn : ¬ (k : Int) < m) : Ps.take k = Ps := List.take_of_length_le (by omega)

set_option maxRecDepth 100000 in
set_option maxHeartbeats 2000000 in
theorem shaParts_walk (w : World) (Ps : List (List Int)) (A : Option Addr) (m c : Nat) (hP : PartsO w A m Ps) (hmc : m ≤ c) (hcm : c ≤ 9223372036854775807) (h1 : 1 < w.heap.size) (hIV : RowI w 0 0 8 .u32 IV) (hK : RowI w 1 0 64 .u32 KT) : Calls Tryd.prog 5 #[.slice A m c] w fun e w' => e = .returned (.bool true) ∧ St w [] w' := by
  refine calls_from (args := [.slice A m c]) Tryd.func5 rfl Tryd.ntmps5 (by simp) ?_
  refine TC.sub (Sub.cons (i := 0) rfl (Sub.nil)) ?_
  refine TC.seq ?_
  refine TC.regionL ?_
  refine TL.gets (Wants.none rfl) rfl (Gets.assign rfl rfl) ?_
  refine TL.nil ?_
  refine TE.then ?_
  refine TC.seq ?_
  refine TC.seq ?_
  refine TC.regionL ?_
  refine TL.gets (Wants.none rfl) rfl (Gets.move rfl rfl) ?_
  refine TL.gets (Wants.none rfl) rfl (Gets.lenSlice rfl Tryd.underlying34 rfl) ?_
  refine TL.gets (Wants.none rfl) rfl (Gets.gtr rfl rfl rfl) ?_
  refine TL.nil ?_
  refine TE.then ?_
  refine TC.split rfl (fun hq0 => ?_) (fun hq0 => ?_)
  · refine TC.seq ?_
    refine TC.regionL ?_
    refine TL.call0 (Wants.none rfl) rfl enters9 rfl rfl (v := .bool true) (fun w hs => alive_c w (Nat.lt_of_lt_of_le h1 hs.size) (hIV.keepH hs (by omega) ne_nil) (hK.keepH hs h1 ne_nil)) ?_
    refine TL.gets (Wants.none rfl) rfl (Gets.assign rfl rfl) ?_
    refine TL.nil ?_
    refine TE.then ?_
    refine TC.ret ?_
    refine TE.thenR ?_
    exact TE.ret1 rfl rfl (fun w hs => ⟨rfl, hs⟩)
  · refine TC.skip ?_
    refine TE.then ?_
    refine TC.seq ?_
    refine TC.regionL ?_
    refine TL.gets (Wants.none rfl) rfl (Gets.assign rfl rfl) ?_
    refine TL.nil ?_
    refine TE.then ?_
    refine TC.seq ?_
    refine TC.seq ?_
    refine TC.regionL ?_
    refine TL.gets (Wants.none rfl) rfl (Gets.move rfl rfl) ?_
    refine TL.gets (Wants.none rfl) rfl (Gets.lenSlice rfl Tryd.underlying34 rfl) ?_
    refine TL.gets (Wants.none rfl) rfl (Gets.move rfl rfl) ?_
    refine TL.nil ?_
    refine TE.then ?_
    refine TC.sub (Sub.cons (i := 0) rfl (Sub.cons (i := 2) rfl (Sub.cons (i := 3) rfl (Sub.cons (i := 16) rfl (Sub.cons (i := 17) rfl (Sub.cons (i := 18) rfl (Sub.nil))))))) ?_
    refine TC.block ?_
    refine TC.loop (ι := WP) (fun x => [(0, .slice A m c), (3, x.v), (16, .slice A m c), (17, .int .i64 (m : Int)), (18, .int .i64 (x.k : Int))]) (fun x => [] ++ x.He) (fun x => m - x.k) (fun x => Own w.heap.size 5 .u8 x.v (Ps.take x.k).flatten x.He ∧ x.k ≤ 30 ∧ x.k ≤ Ps.length ∧ ∀ j, j < x.k → (Ps.getD j []).length ≤ 200) (⟨0, .slice none 0 0, []⟩ : WP) ⟨by simpa using Own.nil _ _ _, by show 0 ≤ 30; omega, Nat.zero_le _, fun j hj => absurd hj (Nat.not_lt_zero j)⟩ (Sub.slice (i := 0) rfl rfl (by first | omega | (dsimp only; omega) | rfl) (by first | omega | (dsimp only; omega) | rfl) (Sub.cons (i := 3) rfl (Sub.slice (i := 16) rfl rfl (by first | omega | (dsimp only; omega) | rfl) (by first | omega | (dsimp only; omega) | rfl) (Sub.int (i := 17) rfl (by first | omega | rfl) (Sub.int (i := 18) rfl (by first | omega | rfl) (Sub.nil)))))) (fun w h => h) (fun x hC0 => ?_)
    obtain ⟨k, v, He⟩ := x
    obtain ⟨hown, hC2⟩ := hC0
    dsimp only at hown hC2 ⊢
    have hPl := hP.1
    refine TC.seq ?_
    refine TC.regionL ?_
    refine TL.gets (Wants.none rfl) rfl (Gets.lss rfl rfl rfl) ?_
    refine TL.nil ?_
    refine TE.then ?_
    refine TC.seq ?_
    refine TC.split rfl (fun hq1 => ?_) (fun hq1 => ?_)
    · obtain ⟨b, off, hE, hb, hcells⟩ := hP.2.resolve_left (by omega)
      subst hE
      obtain ⟨Ai, mi, ci, hci, hSi, hmi⟩ := hcells k (by omega)
      have hoff : off + k = (off + k) := rfl
      have hPl := hP.1
      have hSl := hSi.1
      refine TC.skip ?_
      refine TE.then ?_
      refine TC.seq ?_
      refine TC.block ?_
      refine TC.seq ?_
      refine TC.regionL ?_
      refine TL.gets (Wants.none rfl) rfl (Gets.idxSlice rfl Tryd.underlying34 size22 rfl rfl (i := k) (by omega) (by omega) (off' := (off + k)) (by omega)) ?_
      refine TL.gets (Wants.none rfl) rfl (Gets.load1 rfl agg22 rfl (At.old (hoff ▸ hci) hb (ne_app ne_nil (hown.ne hb)))) ?_
      refine TL.gets (Wants.none rfl) rfl (Gets.assign rfl rfl) ?_
      refine TL.nil ?_
      refine TE.then ?_
      refine TC.sub (Sub.cons (i := 0) rfl (Sub.cons (i := 3) rfl (Sub.cons (i := 5) rfl (Sub.cons (i := 16) rfl (Sub.cons (i := 17) rfl (Sub.cons (i := 18) rfl (Sub.nil))))))) ?_
      refine TC.seq ?_
      refine TC.seq ?_
      refine TC.regionL ?_
      refine TL.gets (Wants.none rfl) rfl (Gets.move rfl rfl) ?_
      refine TL.gets (Wants.none rfl) rfl (Gets.lenSlice rfl Tryd.underlying22 rfl) ?_
      refine TL.gets (Wants.none rfl) rfl (Gets.gtr rfl rfl rfl) ?_
      refine TL.nil ?_
      refine TE.then ?_
      refine TC.sub (Sub.cons (i := 0) rfl (Sub.cons (i := 3) rfl (Sub.cons (i := 5) rfl (Sub.cons (i := 16) rfl (Sub.cons (i := 17) rfl (Sub.cons (i := 18) rfl (Sub.cons (i := 24) rfl (Sub.nil)))))))) ?_
      refine TC.split rfl (fun hq2 => ?_) (fun hq2 => ?_)
      · refine TC.seq ?_
        refine TC.regionL ?_
        refine TL.call0 (Wants.none rfl) rfl enters9 rfl rfl (v := .bool true) (fun w hs => alive_c w (Nat.lt_of_lt_of_le h1 hs.size) (hIV.keepH hs (by omega) (ne_app ne_nil (hown.ne (by omega)))) (hK.keepH hs h1 (ne_app ne_nil (hown.ne (by omega))))) ?_
        refine TL.gets (Wants.none rfl) rfl (Gets.assign rfl rfl) ?_
        refine TL.nil ?_
        refine TE.then ?_
        refine TC.ret ?_
        refine TE.thenR ?_
        refine TE.blockR ?_
        refine TE.thenR ?_
        refine TE.thenR ?_
        refine TE.blockR ?_
        refine TE.thenR ?_
        exact TE.ret1 rfl rfl (fun w hs => ⟨rfl, (St.left (H := []) hs hown.new)⟩)
      · refine TC.skip ?_
        refine TE.then ?_
        refine TC.regionL ?_
        refine TL.gets (Wants.none rfl) rfl (Gets.move rfl rfl) ?_
        refine TL.gets (Wants.none rfl) rfl (Gets.move rfl rfl) ?_
        refine TL.appendOwn (H := []) (Wants.none rfl) rfl rfl Tryd.underlying22 mk5 rfl rfl rfl (W := (Ps.take k).flatten) (B := Ps.getD k []) hown (fun w hs => hSi.at_ hs (fun b hb => ne_app ne_nil (hown.ne hb))) (by have := own_small hC2; omega) (by have := own_small hC2; omega) (fun vo Ho ho hne => ?_)
        refine TL.gets (Wants.none rfl) rfl (Gets.assign rfl rfl) ?_
        refine TL.nil ?_
        refine TE.blockN ?_
        refine TE.then ?_
        refine TC.sub (Sub.cons (i := 0) rfl (Sub.cons (i := 3) rfl (Sub.cons (i := 16) rfl (Sub.cons (i := 17) rfl (Sub.cons (i := 18) rfl (Sub.nil)))))) ?_
        refine TC.regionL ?_
        refine TL.gets (Wants.none rfl) rfl (Gets.add rfl rfl rfl (r := ((k : Int) + 1)) (w64 (by omega) (by omega))) ?_
        refine TL.gets (Wants.none rfl) rfl (Gets.move rfl rfl) ?_
        refine TL.nil ?_
        exact TE.back (⟨k + 1, vo, Ho⟩ : WP) (by show m - (k + 1) < m - k; omega) ⟨by show Own _ _ _ vo (Ps.take (k + 1)).flatten Ho; have := flat_succ (i := k) (Ps := Ps) (by omega) []; simp only [List.nil_append] at this; rw [this]; exact ho, by show k + 1 ≤ 30; omega, by show k + 1 ≤ Ps.length; omega, small_succ hC2.2.2 (by omega)⟩ (Sub.slice (i := 0) rfl rfl (by first | omega | (dsimp only; omega) | rfl) (by first | omega | (dsimp only; omega) | rfl) (Sub.cons (i := 3) rfl (Sub.slice (i := 16) rfl (by first | rfl | (congr 2; omega)) (by first | omega | (dsimp only; omega) | rfl) (by first | omega | (dsimp only; omega) | rfl) (Sub.int (i := 17) rfl (by first | omega | rfl) (Sub.int (i := 18) rfl (by first | omega | rfl) (Sub.nil)))))) (fun w h => h)
    · have htk := take_all hP.1 (by have := hP.1; omega) hq1
      have hflat : Ps.flatten.length ≤ 6000 := by have := own_small hC2; rwa [htk] at this
      rw [htk] at hown
      obtain ⟨Av, cv, hv, hcv, hcv2⟩ := hown.form
      subst hv
      refine TC.exit ?_
      refine TE.thenX ?_
      refine TE.thenX ?_
      refine TE.blockX ?_
      refine TE.then ?_
      refine TC.seq ?_
      refine TC.regionL ?_
      refine TL.call (ι := Nat) (V := fun gh1 => .pointer (some ⟨gh1, 0, none⟩)) (R := fun gh1 => w.heap.size ≤ gh1) (H' := fun gh1 => [⟨gh1, 53, IV.map (Value.int .u32) ++ ((List.replicate 64 0).map (Value.int .u8) ++ ([Value.int .i64 (([] : List Int).length : Int)])), 73⟩] ++ He) (Wants.none rfl) rfl enters12 rfl rfl (fun w hs => (new_m w (by have := hs.size; omega) (hIV.keepH hs (by omega) (ne_app ne_nil (hown.ne (by omega))))).mono fun e w' ⟨g, he, hge, hw⟩ => ⟨g, he, Nat.le_trans hs.size hge, hs.made hw hge⟩) (fun gh1 hgh1 => ?_)
      refine TL.call (ι := Nat) (V := fun gh2 => .pointer (some ⟨gh2, 0, none⟩)) (R := fun gh2 => w.heap.size ≤ gh2) (H' := fun gh2 => [⟨gh2, 53, IV.map (Value.int .u32) ++ ((List.replicate 64 0).map (Value.int .u8) ++ ([Value.int .i64 (([] : List Int).length : Int)])), 73⟩, ⟨gh1, 53, IV.map (Value.int .u32) ++ ((List.replicate 64 0).map (Value.int .u8) ++ ([Value.int .i64 (([] : List Int).length : Int)])), 73⟩] ++ He) (Wants.none rfl) rfl enters12 rfl rfl (fun w hs => (new_m w (by have := hs.size; omega) (hIV.keepH hs (by omega) (ne_app (ne_cons (by show gh1 ≠ 0; omega) ne_nil) (hown.ne (by omega))))).mono fun e w' ⟨g, he, hge, hw⟩ => ⟨g, he, Nat.le_trans hs.size hge, hs.made hw hge⟩) (fun gh2 hgh2 => ?_)
      refine TL.gets (Wants.none rfl) rfl (Gets.assign rfl rfl) ?_
      refine TL.gets (Wants.none rfl) rfl (Gets.assign rfl rfl) ?_
      refine TL.nil ?_
      refine TE.then ?_
      refine TC.sub (Sub.cons (i := 0) rfl (Sub.cons (i := 3) rfl (Sub.cons (i := 6) rfl (Sub.cons (i := 7) rfl (Sub.nil))))) ?_
      refine TC.seq ?_
      refine TC.seq ?_
      refine TC.regionL ?_
      refine TL.gets (Wants.none rfl) rfl (Gets.move rfl rfl) ?_
      refine TL.gets (Wants.none rfl) rfl (Gets.ptrNil rfl Tryd.underlying28 rfl rfl) ?_
      refine TL.gets (Wants.none rfl) rfl (Gets.move rfl rfl) ?_
      refine TL.gets (Wants.yes rfl rfl rfl) rfl (Gets.move rfl rfl) ?_
      refine TL.gets (Wants.yes rfl rfl rfl) rfl (Gets.ptrNil rfl Tryd.underlying28 rfl rfl) ?_
      refine TL.gets (Wants.none rfl) rfl (Gets.pickF rfl rfl rfl) ?_
      refine TL.nil ?_
      refine TE.then ?_
      refine TC.sub (Sub.cons (i := 0) rfl (Sub.cons (i := 3) rfl (Sub.cons (i := 6) rfl (Sub.cons (i := 7) rfl (Sub.cons (i := 37) rfl (Sub.nil)))))) ?_
      refine TC.no rfl ?_
      refine TC.skip ?_
      refine TE.then ?_
      refine TC.seq ?_
      refine TC.seq ?_
      refine TC.regionL ?_
      refine TL.gets (Wants.none rfl) rfl (Gets.move rfl rfl) ?_
      refine TL.gets (Wants.none rfl) rfl (Gets.lenSlice rfl Tryd.underlying34 rfl) ?_
      refine TL.gets (Wants.none rfl) rfl (Gets.move rfl rfl) ?_
      refine TL.nil ?_
      refine TE.then ?_
      refine TC.block ?_
      refine TC.loop (ι := WQ) (fun x => [(0, .slice A m c), (3, .slice Av Ps.flatten.length cv), (6, .pointer (some ⟨gh1, 0, none⟩)), (7, .pointer (some ⟨gh2, 0, none⟩)), (38, .slice A m c), (39, .int .i64 (m : Int)), (40, .int .i64 (x.k : Int))]) (fun x => [⟨gh2, 53, IV.map (Value.int .u32) ++ ((List.replicate 64 0).map (Value.int .u8) ++ ([Value.int .i64 (([] : List Int).length : Int)])), 73⟩, ⟨gh1, 53, x.st.map (Value.int .u32) ++ (x.rs.map (Value.int .u8) ++ ([Value.int .i64 ((Ps.take x.k).flatten.length : Int)])), 73⟩] ++ He) (fun x => m - x.k) (fun x => x.k ≤ m ∧ HashOK (Ps.take x.k).flatten x.st x.rs) (⟨0, IV, List.replicate 64 0⟩ : WQ) ⟨Nat.zero_le _, by simpa using hash_nil⟩ (Sub.slice (i := 0) rfl rfl (by first | omega | (dsimp only; omega) | rfl) (by first | omega | (dsimp only; omega) | rfl) (Sub.slice (i := 3) rfl rfl (by first | omega | (dsimp only; omega) | rfl) (by first | omega | (dsimp only; omega) | rfl) (Sub.cons (i := 6) rfl (Sub.cons (i := 7) rfl (Sub.slice (i := 38) rfl rfl (by first | omega | (dsimp only; omega) | rfl) (by first | omega | (dsimp only; omega) | rfl) (Sub.int (i := 39) rfl (by first | omega | rfl) (Sub.int (i := 40) rfl (by first | omega | rfl) (Sub.nil)))))))) (fun w h => by simpa using h) (fun x hC1 => ?_)
      obtain ⟨k, st1, rs1⟩ := x
      obtain ⟨hC1, hC3⟩ := hC1
      dsimp only at hC1 hC3 ⊢
      have hstx := hC3.len
      have hrsx := hC3.rlen
      refine TC.seq ?_
      refine TC.regionL ?_
      refine TL.gets (Wants.none rfl) rfl (Gets.lss rfl rfl rfl) ?_
      refine TL.nil ?_
      refine TE.then ?_
      refine TC.seq ?_
      refine TC.split rfl (fun hq4 => ?_) (fun hq4 => ?_)
      · obtain ⟨b, off, hE, hb, hcells⟩ := hP.2.resolve_left (by omega)
        subst hE
        obtain ⟨Ai, mi, ci, hci, hSi, hmi⟩ := hcells k (by omega)
        have hoff : off + k = (off + k) := rfl
        have hPl := hP.1
        have hSl := hSi.1
        refine TC.skip ?_
        refine TE.then ?_
        refine TC.seq ?_
        refine TC.block ?_
        refine TC.seq ?_
        refine TC.regionL ?_
        refine TL.gets (Wants.none rfl) rfl (Gets.move rfl rfl) ?_
        refine TL.gets (Wants.none rfl) rfl (Gets.idxSlice rfl Tryd.underlying34 size22 rfl rfl (i := k) (by omega) (by omega) (off' := (off + k)) (by omega)) ?_
        refine TL.gets (Wants.none rfl) rfl (Gets.load1 rfl agg22 rfl (At.old (hoff ▸ hci) hb (ne_app (ne_cons (by show gh2 ≠ b; omega) (ne_cons (by show gh1 ≠ b; omega) ne_nil)) (hown.ne hb)))) ?_
        refine TL.gets (Wants.none rfl) rfl (Gets.assign rfl rfl) ?_
        refine TL.gets (Wants.none rfl) rfl (Gets.assign rfl rfl) ?_
        refine TL.nil ?_
        refine TE.then ?_
        refine TC.sub (Sub.cons (i := 0) rfl (Sub.cons (i := 3) rfl (Sub.cons (i := 6) rfl (Sub.cons (i := 7) rfl (Sub.cons (i := 8) rfl (Sub.cons (i := 9) rfl (Sub.cons (i := 38) rfl (Sub.cons (i := 39) rfl (Sub.cons (i := 40) rfl (Sub.nil)))))))))) ?_
        refine TC.seq ?_
        refine TC.seq ?_
        refine TC.regionL ?_
        refine TL.gets (Wants.none rfl) rfl (Gets.move rfl rfl) ?_
        refine TL.gets (Wants.none rfl) rfl (Gets.move rfl rfl) ?_
        refine TL.buildSlice (Wants.none rfl) rfl rfl Tryd.underlying34 size22 zero22 rfl (by decide) (by decide) (cells := #[.slice Ai mi ci]) (tot := 1) (by kernel_rfl) (cs := [.slice Ai mi ci]) rfl rfl (fun g1 hg1 => ?_)
        refine TL.call (ι := List Int × List Int) (V := fun s1 => .int .i64 ((Ps.getD k []).length : Int)) (R := fun s1 => HashOK ((Ps.take k).flatten ++ (Ps.getD k [])) s1.1 s1.2) (H' := fun s1 => [⟨g1, 22, [Value.slice Ai mi ci], 1⟩, ⟨gh2, 53, IV.map (Value.int .u32) ++ ((List.replicate 64 0).map (Value.int .u8) ++ ([Value.int .i64 (([] : List Int).length : Int)])), 73⟩, ⟨gh1, 53, s1.1.map (Value.int .u32) ++ (s1.2.map (Value.int .u8) ++ ([Value.int .i64 (((Ps.take k).flatten ++ (Ps.getD k [])).length : Int)])), 73⟩] ++ He) (Wants.none rfl) rfl enters13 rfl rfl (fun w hs => (write_m (Ps.take k).flatten st1 rs1 [(Ps.getD k [])] ((Ps.take k).flatten ++ (Ps.getD k [])) (by simp) gh1 (some ⟨g1, 0, none⟩) 1 1 w hC3 (hs.has (⟨gh1, 53, st1.map (Value.int .u32) ++ (rs1.map (Value.int .u8) ++ ([Value.int .i64 ((Ps.take k).flatten.length : Int)])), 73⟩) (by simp)) (partsN_one (hs.has (⟨g1, 22, [Value.slice Ai mi ci], 1⟩) (by simp)) (pairwise_ne hs.apart (i := 0) (j := 2) rfl rfl (by omega)) (hSi.toN hs (fun b hb => (ne_app (ne_cons (by show g1 ≠ b; omega) (ne_cons (by show gh2 ≠ b; omega) (ne_cons (by show gh1 ≠ b; omega) ne_nil))) (hown.ne hb))) hgh1) (by omega)) (by omega) (by omega) (by have lf := hflat; have hPl2 := hP.1; (try have fl := flat_le (i := k) (Ps := Ps) (by omega)); (try simp only [List.length_append]); omega) (Nat.lt_of_lt_of_le h1 hs.size) (hIV.keepH hs (by omega) (ne_app (ne_cons (by show g1 ≠ 0; omega) (ne_cons (by show gh2 ≠ 0; omega) (ne_cons (by show gh1 ≠ 0; omega) ne_nil))) (hown.ne (by omega)))) (hK.keepH hs h1 (ne_app (ne_cons (by show g1 ≠ 1; omega) (ne_cons (by show gh2 ≠ 1; omega) (ne_cons (by show gh1 ≠ 1; omega) ne_nil))) (hown.ne (by omega)))) (by omega)).mono fun e w' ⟨he, st', rs', h1, h2⟩ => ⟨(st', rs'), he.trans (by simp), h1, St.turn (i := 2) (e := ⟨gh1, 53, (st').map (Value.int .u32) ++ ((rs').map (Value.int .u8) ++ ([Value.int .i64 (((Ps.take k).flatten ++ (Ps.getD k [])).length : Int)])), 73⟩) hs rfl rfl h2⟩) (fun s1 hk1 => ?_)
        have hx1 := hk1.len
        have hy1 := hk1.rlen
        refine TL.gets (Wants.none rfl) rfl (Gets.move rfl rfl) ?_
        refine TL.gets (Wants.none rfl) rfl (Gets.lenSlice rfl Tryd.underlying22 rfl) ?_
        refine TL.gets (Wants.none rfl) rfl (Gets.neq rfl rfl rfl) ?_
        refine TL.nil ?_
        refine TE.then ?_
        refine TC.sub (Sub.cons (i := 0) rfl (Sub.cons (i := 3) rfl (Sub.cons (i := 6) rfl (Sub.cons (i := 7) rfl (Sub.cons (i := 8) rfl (Sub.cons (i := 38) rfl (Sub.cons (i := 39) rfl (Sub.cons (i := 40) rfl (Sub.cons (i := 51) rfl (Sub.nil)))))))))) ?_
        refine TC.split rfl (fun hq5 => ?_) (fun hq5 => ?_)
        · exfalso; omega
        · refine TC.skip ?_
          refine TE.then ?_
          refine TC.sub (Sub.cons (i := 0) rfl (Sub.cons (i := 3) rfl (Sub.cons (i := 6) rfl (Sub.cons (i := 7) rfl (Sub.cons (i := 8) rfl (Sub.cons (i := 38) rfl (Sub.cons (i := 39) rfl (Sub.cons (i := 40) rfl (Sub.nil))))))))) ?_
          refine TC.seq ?_
          refine TC.regionL ?_
          refine TL.gets (Wants.none rfl) rfl (Gets.move rfl rfl) ?_
          refine TL.gets (Wants.none rfl) rfl (Gets.rem rfl rfl rfl (by omega) (r := ((k : Int) % 3)) (tmod_pos (by omega) rfl)) ?_
          refine TL.gets (Wants.none rfl) rfl (Gets.eql rfl rfl rfl) ?_
          refine TL.nil ?_
          refine TE.then ?_
          refine TC.sub (Sub.cons (i := 0) rfl (Sub.cons (i := 3) rfl (Sub.cons (i := 6) rfl (Sub.cons (i := 7) rfl (Sub.cons (i := 38) rfl (Sub.cons (i := 39) rfl (Sub.cons (i := 40) rfl (Sub.cons (i := 54) rfl (Sub.nil))))))))) ?_
          refine TC.split rfl (fun hq6 => ?_) (fun hq6 => ?_)
          · refine TC.regionL ?_
            refine TL.gets (Wants.none rfl) rfl (Gets.move rfl rfl) ?_
            refine TL.call0 (Wants.none rfl) rfl enters14 rfl rfl (v := .agg ((shaM ((Ps.take k).flatten ++ (Ps.getD k []))).map (Value.int .u8)).toArray) (fun w hs => sum_m ((Ps.take k).flatten ++ (Ps.getD k [])) s1.1 s1.2 gh1 w hk1 (hs.has (⟨gh1, 53, s1.1.map (Value.int .u32) ++ (s1.2.map (Value.int .u8) ++ ([Value.int .i64 (((Ps.take k).flatten ++ (Ps.getD k [])).length : Int)])), 73⟩) (by simp)) (by have lf := hflat; have hPl2 := hP.1; (try have fl := flat_le (i := k) (Ps := Ps) (by omega)); (try simp only [List.length_append]); omega) (Nat.lt_of_lt_of_le h1 hs.size) (hIV.keepH hs (by omega) (ne_app (ne_cons (by show g1 ≠ 0; omega) (ne_cons (by show gh2 ≠ 0; omega) (ne_cons (by show gh1 ≠ 0; omega) ne_nil))) (hown.ne (by omega)))) (hK.keepH hs h1 (ne_app (ne_cons (by show g1 ≠ 1; omega) (ne_cons (by show gh2 ≠ 1; omega) (ne_cons (by show gh1 ≠ 1; omega) ne_nil))) (hown.ne (by omega))))) ?_
            refine TL.nil ?_
            refine TE.blockN ?_
            refine TE.then ?_
            refine TC.sub (Sub.cons (i := 0) rfl (Sub.cons (i := 3) rfl (Sub.cons (i := 6) rfl (Sub.cons (i := 7) rfl (Sub.cons (i := 38) rfl (Sub.cons (i := 39) rfl (Sub.cons (i := 40) rfl (Sub.nil)))))))) ?_
            refine TC.regionL ?_
            refine TL.gets (Wants.none rfl) rfl (Gets.add rfl rfl rfl (r := ((k : Int) + 1)) (w64 (by omega) (by omega))) ?_
            refine TL.gets (Wants.none rfl) rfl (Gets.move rfl rfl) ?_
            refine TL.nil ?_
            exact TE.back (⟨k + 1, s1.1, s1.2⟩ : WQ) (by show m - (k + 1) < m - k; omega) ⟨by show k + 1 ≤ m; omega, by show HashOK (Ps.take (k + 1)).flatten s1.1 s1.2; have := flat_succ (i := k) (Ps := Ps) (by omega) []; simp only [List.nil_append] at this; rw [this]; exact hk1⟩ (Sub.slice (i := 0) rfl rfl (by first | omega | (dsimp only; omega) | rfl) (by first | omega | (dsimp only; omega) | rfl) (Sub.slice (i := 3) rfl rfl (by first | omega | (dsimp only; omega) | rfl) (by first | omega | (dsimp only; omega) | rfl) (Sub.cons (i := 6) rfl (Sub.cons (i := 7) rfl (Sub.slice (i := 38) rfl (by first | rfl | (congr 2; omega)) (by first | omega | (dsimp only; omega) | rfl) (by first | omega | (dsimp only; omega) | rfl) (Sub.int (i := 39) rfl (by first | omega | rfl) (Sub.int (i := 40) rfl (by first | omega | rfl) (Sub.nil)))))))) (fun w h => by have hf := flat_succ (i := k) (Ps := Ps) (by omega) []; simp only [List.nil_append] at hf; have h2 := h.drop (by assumption); rw [← hf] at h2; exact h2)
          · refine TC.skip ?_
            refine TE.blockN ?_
            refine TE.then ?_
            refine TC.regionL ?_
            refine TL.gets (Wants.none rfl) rfl (Gets.add rfl rfl rfl (r := ((k : Int) + 1)) (w64 (by omega) (by omega))) ?_
            refine TL.gets (Wants.none rfl) rfl (Gets.move rfl rfl) ?_
            refine TL.nil ?_
            exact TE.back (⟨k + 1, s1.1, s1.2⟩ : WQ) (by show m - (k + 1) < m - k; omega) ⟨by show k + 1 ≤ m; omega, by show HashOK (Ps.take (k + 1)).flatten s1.1 s1.2; have := flat_succ (i := k) (Ps := Ps) (by omega) []; simp only [List.nil_append] at this; rw [this]; exact hk1⟩ (Sub.slice (i := 0) rfl rfl (by first | omega | (dsimp only; omega) | rfl) (by first | omega | (dsimp only; omega) | rfl) (Sub.slice (i := 3) rfl rfl (by first | omega | (dsimp only; omega) | rfl) (by first | omega | (dsimp only; omega) | rfl) (Sub.cons (i := 6) rfl (Sub.cons (i := 7) rfl (Sub.slice (i := 38) rfl (by first | rfl | (congr 2; omega)) (by first | omega | (dsimp only; omega) | rfl) (by first | omega | (dsimp only; omega) | rfl) (Sub.int (i := 39) rfl (by first | omega | rfl) (Sub.int (i := 40) rfl (by first | omega | rfl) (Sub.nil)))))))) (fun w h => by have hf := flat_succ (i := k) (Ps := Ps) (by omega) []; simp only [List.nil_append] at hf; have h2 := h.drop (by assumption); rw [← hf] at h2; exact h2)
      · have htk := take_all hP.1 hC1 hq4
        rw [htk] at hC3 ⊢
        refine TC.exit ?_
        refine TE.thenX ?_
        refine TE.thenX ?_
        refine TE.blockX ?_
        refine TE.then ?_
        refine TC.seq ?_
        refine TC.regionL ?_
        refine TL.gets (Wants.none rfl) rfl (Gets.move rfl rfl) ?_
        refine TL.gets (Wants.none rfl) rfl (Gets.move rfl rfl) ?_
        refine TL.call (ι := List Int × List Int) (V := fun s2 => .int .i64 (Ps.flatten.length : Int)) (R := fun s2 => HashOK Ps.flatten s2.1 s2.2) (H' := fun s2 => [⟨gh2, 53, s2.1.map (Value.int .u32) ++ (s2.2.map (Value.int .u8) ++ ([Value.int .i64 (Ps.flatten.length : Int)])), 73⟩, ⟨gh1, 53, st1.map (Value.int .u32) ++ (rs1.map (Value.int .u8) ++ ([Value.int .i64 (Ps.flatten.length : Int)])), 73⟩] ++ He) (Wants.none rfl) rfl enters13 rfl rfl (fun w hs => (write_m ([] : List Int) IV (List.replicate 64 0) Ps Ps.flatten (by simp) gh2 A m c w hash_nil (hs.has (⟨gh2, 53, IV.map (Value.int .u32) ++ ((List.replicate 64 0).map (Value.int .u8) ++ ([Value.int .i64 (([] : List Int).length : Int)])), 73⟩) (by simp)) (hP.keep' hs (fun b hb => ⟨by omega, (ne_app (ne_cons (by show gh2 ≠ b; omega) (ne_cons (by show gh1 ≠ b; omega) ne_nil)) (hown.ne hb))⟩)) (by omega) (by omega) (by have lf := hflat; have hPl2 := hP.1; (try have fl := flat_le (i := k) (Ps := Ps) (by omega)); (try simp only [List.length_append]); omega) (Nat.lt_of_lt_of_le h1 hs.size) (hIV.keepH hs (by omega) (ne_app (ne_cons (by show gh2 ≠ 0; omega) (ne_cons (by show gh1 ≠ 0; omega) ne_nil)) (hown.ne (by omega)))) (hK.keepH hs h1 (ne_app (ne_cons (by show gh2 ≠ 1; omega) (ne_cons (by show gh1 ≠ 1; omega) ne_nil)) (hown.ne (by omega)))) (by omega)).mono fun e w' ⟨he, st', rs', h1, h2⟩ => ⟨(st', rs'), he, h1, St.turn (i := 0) (e := ⟨gh2, 53, (st').map (Value.int .u32) ++ ((rs').map (Value.int .u8) ++ ([Value.int .i64 (Ps.flatten.length : Int)])), 73⟩) hs rfl rfl h2⟩) (fun s2 hk2 => ?_)
        have hx2 := hk2.len
        have hy2 := hk2.rlen
        refine TL.gets (Wants.none rfl) rfl (Gets.assign rfl rfl) ?_
        refine TL.nil ?_
        refine TE.then ?_
        refine TC.sub (Sub.cons (i := 0) rfl (Sub.cons (i := 3) rfl (Sub.cons (i := 6) rfl (Sub.cons (i := 7) rfl (Sub.cons (i := 10) rfl (Sub.nil)))))) ?_
        refine TC.seq ?_
        refine TC.regionL ?_
        refine TL.gets (Wants.none rfl) rfl (Gets.move rfl rfl) ?_
        refine TL.buildSlice (Wants.none rfl) rfl rfl Tryd.underlying34 size22 zero22 rfl (by decide) (by decide) (cells := #[.slice Av Ps.flatten.length cv]) (tot := 1) (by kernel_rfl) (cs := [.slice Av Ps.flatten.length cv]) rfl rfl (fun g2 hg2 => ?_)
        refine TL.call0 (Wants.none rfl) rfl enters10 rfl rfl (v := .agg ((shaM Ps.flatten).map (Value.int .u8)).toArray) (fun w hs => of_m [Ps.flatten] Ps.flatten (by simp) (some ⟨g2, 0, none⟩) 1 1 w (parts_one (hs.has (⟨g2, 22, [Value.slice Av Ps.flatten.length cv], 1⟩) (by simp)) (hown.srcOf (St.right (H1 := [⟨g2, 22, [Value.slice Av Ps.flatten.length cv], 1⟩, ⟨gh2, 53, s2.1.map (Value.int .u32) ++ (s2.2.map (Value.int .u8) ++ ([Value.int .i64 (Ps.flatten.length : Int)])), 73⟩, ⟨gh1, 53, st1.map (Value.int .u32) ++ (rs1.map (Value.int .u8) ++ ([Value.int .i64 (Ps.flatten.length : Int)])), 73⟩]) hs)) (by omega)) (Nat.le_refl _) (by omega) (by have lf := hflat; have hPl2 := hP.1; (try have fl := flat_le (i := k) (Ps := Ps) (by omega)); (try simp only [List.length_append]); omega) (Nat.lt_of_lt_of_le h1 hs.size) (hIV.keepH hs (by omega) (ne_app (ne_cons (by show g2 ≠ 0; omega) (ne_cons (by show gh2 ≠ 0; omega) (ne_cons (by show gh1 ≠ 0; omega) ne_nil))) (hown.ne (by omega)))) (hK.keepH hs h1 (ne_app (ne_cons (by show g2 ≠ 1; omega) (ne_cons (by show gh2 ≠ 1; omega) (ne_cons (by show gh1 ≠ 1; omega) ne_nil))) (hown.ne (by omega))))) ?_
        refine TL.alloc (Wants.none rfl) rfl rfl zero24 (cs := (List.replicate 32 0).map (Value.int .u8)) rfl (tot := 32) (by simp) (fun g3 hg3 => ?_)
        refine TL.storeW (Wants.none rfl) rfl rfl size24 rfl (vs := (shaM Ps.flatten).map (Value.int .u8)) rfl (by simp [(shaM_len Ps.flatten)]) ints_one (i := 0) (ent := ⟨g3, 24, (List.replicate 32 0).map (Value.int .u8), 32⟩) rfl rfl (by simp []) (H' := [⟨g3, 24, (shaM Ps.flatten).map (Value.int .u8), 32⟩, ⟨g2, 22, [Value.slice Av Ps.flatten.length cv], 1⟩, ⟨gh2, 53, s2.1.map (Value.int .u32) ++ (s2.2.map (Value.int .u8) ++ ([Value.int .i64 (Ps.flatten.length : Int)])), 73⟩, ⟨gh1, 53, st1.map (Value.int .u32) ++ (rs1.map (Value.int .u8) ++ ([Value.int .i64 (Ps.flatten.length : Int)])), 73⟩] ++ He) rfl ?_
        refine TL.nil ?_
        refine TE.then ?_
        refine TC.sub (Sub.cons (i := 0) rfl (Sub.cons (i := 3) rfl (Sub.cons (i := 6) rfl (Sub.cons (i := 7) rfl (Sub.cons (i := 10) rfl (Sub.cons (i := 11) rfl (Sub.nil))))))) ?_
        refine TC.seq ?_
        refine TC.mix (by kernel_rfl) [1, 0, 0, 0, 0, 0, 0, 0, 0, 1, 1, 0, 0, 0, 0, 1, 1, 0, 0, 0, 0, 1, 1, 0, 0, 0, 0, 1, 1, 0, 0, 0, 0, 1, 0, 0, 0, 0, 0] rfl (by kernel_rfl) ?_
        refine TM.call0 (Wants.none rfl) rfl enters9 rfl rfl (v := .bool true) (fun w hs => alive_c w (Nat.lt_of_lt_of_le h1 hs.size) (hIV.keepH hs (by omega) (ne_app (ne_cons (by show g3 ≠ 0; omega) (ne_cons (by show g2 ≠ 0; omega) (ne_cons (by show gh2 ≠ 0; omega) (ne_cons (by show gh1 ≠ 0; omega) ne_nil)))) (hown.ne (by omega)))) (hK.keepH hs h1 (ne_app (ne_cons (by show g3 ≠ 1; omega) (ne_cons (by show g2 ≠ 1; omega) (ne_cons (by show gh2 ≠ 1; omega) (ne_cons (by show gh1 ≠ 1; omega) ne_nil)))) (hown.ne (by omega))))) ?_
        refine TM.free (Wants.none rfl) rfl (fun _ => Gets.move rfl rfl) ?_
        refine TM.free (Wants.yes rfl rfl rfl) rfl (fun _ => Gets.move rfl rfl) ?_
        refine TM.free (Wants.yes rfl rfl rfl) rfl (fun _ => Gets.move rfl rfl) ?_
        refine TM.free (Wants.yes rfl rfl rfl) rfl (fun _ => Gets.lenSlice rfl Tryd.underlying22 rfl) ?_
        refine TM.free (Wants.yes rfl rfl rfl) rfl (fun _ => Gets.isTrue (Gets.eql rfl rfl rfl) rfl) ?_
        refine TM.free (Wants.none rfl) rfl (fun _ => Gets.pickT rfl rfl rfl) ?_
        refine TM.free (Wants.none rfl) rfl (fun _ => Gets.move rfl rfl) ?_
        refine TM.free (Wants.yes rfl rfl rfl) rfl (fun _ => Gets.move rfl rfl) ?_
        refine TM.call0 (Wants.yes rfl rfl rfl) rfl enters14 rfl rfl (v := .agg ((shaM Ps.flatten).map (Value.int .u8)).toArray) (fun w hs => sum_m Ps.flatten st1 rs1 gh1 w hC3 (hs.has (⟨gh1, 53, st1.map (Value.int .u32) ++ (rs1.map (Value.int .u8) ++ ([Value.int .i64 (Ps.flatten.length : Int)])), 73⟩) (by simp)) (by have lf := hflat; have hPl2 := hP.1; (try have fl := flat_le (i := k) (Ps := Ps) (by omega)); (try simp only [List.length_append]); omega) (Nat.lt_of_lt_of_le h1 hs.size) (hIV.keepH hs (by omega) (ne_app (ne_cons (by show g3 ≠ 0; omega) (ne_cons (by show g2 ≠ 0; omega) (ne_cons (by show gh2 ≠ 0; omega) (ne_cons (by show gh1 ≠ 0; omega) ne_nil)))) (hown.ne (by omega)))) (hK.keepH hs h1 (ne_app (ne_cons (by show g3 ≠ 1; omega) (ne_cons (by show g2 ≠ 1; omega) (ne_cons (by show gh2 ≠ 1; omega) (ne_cons (by show gh1 ≠ 1; omega) ne_nil)))) (hown.ne (by omega))))) ?_
        refine TM.gets (Wants.yes rfl rfl rfl) rfl (Gets.loadN rfl agg24 size24 rfl (vs := (shaM Ps.flatten).map (Value.int .u8)) (by simp [(shaM_len Ps.flatten)]) (Row.all (i := 0) (ent := ⟨g3, 24, (shaM Ps.flatten).map (Value.int .u8), 32⟩) rfl rfl rfl)) ?_
        refine TM.free (Wants.yes rfl rfl rfl) rfl (fun _ => Gets.arrSame rfl Tryd.underlying24 Tryd.underlying5 size5 geq24 rfl rfl (shaM_len Ps.flatten)) ?_
        refine TM.free (Wants.none rfl) rfl (fun _ => Gets.pickT rfl rfl rfl) ?_
        refine TM.free (Wants.none rfl) rfl (fun _ => Gets.move rfl rfl) ?_
        refine TM.free (Wants.yes rfl rfl rfl) rfl (fun _ => Gets.move rfl rfl) ?_
        refine TM.call0 (Wants.yes rfl rfl rfl) rfl enters14 rfl rfl (v := .agg ((shaM Ps.flatten).map (Value.int .u8)).toArray) (fun w hs => sum_m Ps.flatten s2.1 s2.2 gh2 w hk2 (hs.has (⟨gh2, 53, s2.1.map (Value.int .u32) ++ (s2.2.map (Value.int .u8) ++ ([Value.int .i64 (Ps.flatten.length : Int)])), 73⟩) (by simp)) (by have lf := hflat; have hPl2 := hP.1; (try have fl := flat_le (i := k) (Ps := Ps) (by omega)); (try simp only [List.length_append]); omega) (Nat.lt_of_lt_of_le h1 hs.size) (hIV.keepH hs (by omega) (ne_app (ne_cons (by show g3 ≠ 0; omega) (ne_cons (by show g2 ≠ 0; omega) (ne_cons (by show gh2 ≠ 0; omega) (ne_cons (by show gh1 ≠ 0; omega) ne_nil)))) (hown.ne (by omega)))) (hK.keepH hs h1 (ne_app (ne_cons (by show g3 ≠ 1; omega) (ne_cons (by show g2 ≠ 1; omega) (ne_cons (by show gh2 ≠ 1; omega) (ne_cons (by show gh1 ≠ 1; omega) ne_nil)))) (hown.ne (by omega))))) ?_
        refine TM.gets (Wants.yes rfl rfl rfl) rfl (Gets.loadN rfl agg24 size24 rfl (vs := (shaM Ps.flatten).map (Value.int .u8)) (by simp [(shaM_len Ps.flatten)]) (Row.all (i := 0) (ent := ⟨g3, 24, (shaM Ps.flatten).map (Value.int .u8), 32⟩) rfl rfl rfl)) ?_
        refine TM.free (Wants.yes rfl rfl rfl) rfl (fun _ => Gets.arrSame rfl Tryd.underlying24 Tryd.underlying5 size5 geq24 rfl rfl (shaM_len Ps.flatten)) ?_
        refine TM.free (Wants.none rfl) rfl (fun _ => Gets.pickT rfl rfl rfl) ?_
        refine TM.free (Wants.none rfl) rfl (fun _ => Gets.move rfl rfl) ?_
        refine TM.free (Wants.yes rfl rfl rfl) rfl (fun _ => Gets.move rfl rfl) ?_
        refine TM.call0 (Wants.yes rfl rfl rfl) rfl enters14 rfl rfl (v := .agg ((shaM Ps.flatten).map (Value.int .u8)).toArray) (fun w hs => sum_m Ps.flatten st1 rs1 gh1 w hC3 (hs.has (⟨gh1, 53, st1.map (Value.int .u32) ++ (rs1.map (Value.int .u8) ++ ([Value.int .i64 (Ps.flatten.length : Int)])), 73⟩) (by simp)) (by have lf := hflat; have hPl2 := hP.1; (try have fl := flat_le (i := k) (Ps := Ps) (by omega)); (try simp only [List.length_append]); omega) (Nat.lt_of_lt_of_le h1 hs.size) (hIV.keepH hs (by omega) (ne_app (ne_cons (by show g3 ≠ 0; omega) (ne_cons (by show g2 ≠ 0; omega) (ne_cons (by show gh2 ≠ 0; omega) (ne_cons (by show gh1 ≠ 0; omega) ne_nil)))) (hown.ne (by omega)))) (hK.keepH hs h1 (ne_app (ne_cons (by show g3 ≠ 1; omega) (ne_cons (by show g2 ≠ 1; omega) (ne_cons (by show gh2 ≠ 1; omega) (ne_cons (by show gh1 ≠ 1; omega) ne_nil)))) (hown.ne (by omega))))) ?_
        refine TM.gets (Wants.yes rfl rfl rfl) rfl (Gets.loadN rfl agg24 size24 rfl (vs := (shaM Ps.flatten).map (Value.int .u8)) (by simp [(shaM_len Ps.flatten)]) (Row.all (i := 0) (ent := ⟨g3, 24, (shaM Ps.flatten).map (Value.int .u8), 32⟩) rfl rfl rfl)) ?_
        refine TM.free (Wants.yes rfl rfl rfl) rfl (fun _ => Gets.arrSame rfl Tryd.underlying24 Tryd.underlying5 size5 geq24 rfl rfl (shaM_len Ps.flatten)) ?_
        refine TM.free (Wants.none rfl) rfl (fun _ => Gets.pickT rfl rfl rfl) ?_
        refine TM.free (Wants.none rfl) rfl (fun _ => Gets.move rfl rfl) ?_
        refine TM.free (Wants.yes rfl rfl rfl) rfl (fun _ => Gets.move rfl rfl) ?_
        refine TM.call0 (Wants.yes rfl rfl rfl) rfl enters10 rfl rfl (v := .agg ((shaM Ps.flatten).map (Value.int .u8)).toArray) (fun w hs => of_m Ps Ps.flatten rfl A m c w (hP.at_ hs (fun b hb => (ne_app (ne_cons (by show g3 ≠ b; omega) (ne_cons (by show g2 ≠ b; omega) (ne_cons (by show gh2 ≠ b; omega) (ne_cons (by show gh1 ≠ b; omega) ne_nil)))) (hown.ne hb)))) (by omega) (by omega) (by have lf := hflat; have hPl2 := hP.1; (try have fl := flat_le (i := k) (Ps := Ps) (by omega)); omega) (Nat.lt_of_lt_of_le h1 hs.size) (hIV.keepH hs (by omega) (ne_app (ne_cons (by show g3 ≠ 0; omega) (ne_cons (by show g2 ≠ 0; omega) (ne_cons (by show gh2 ≠ 0; omega) (ne_cons (by show gh1 ≠ 0; omega) ne_nil)))) (hown.ne (by omega)))) (hK.keepH hs h1 (ne_app (ne_cons (by show g3 ≠ 1; omega) (ne_cons (by show g2 ≠ 1; omega) (ne_cons (by show gh2 ≠ 1; omega) (ne_cons (by show gh1 ≠ 1; omega) ne_nil)))) (hown.ne (by omega))))) ?_
        refine TM.gets (Wants.yes rfl rfl rfl) rfl (Gets.loadN rfl agg24 size24 rfl (vs := (shaM Ps.flatten).map (Value.int .u8)) (by simp [(shaM_len Ps.flatten)]) (Row.all (i := 0) (ent := ⟨g3, 24, (shaM Ps.flatten).map (Value.int .u8), 32⟩) rfl rfl rfl)) ?_
        refine TM.free (Wants.yes rfl rfl rfl) rfl (fun _ => Gets.arrSame rfl Tryd.underlying24 Tryd.underlying5 size5 geq24 rfl rfl (shaM_len Ps.flatten)) ?_
        refine TM.free (Wants.none rfl) rfl (fun _ => Gets.pickT rfl rfl rfl) ?_
        refine TM.free (Wants.none rfl) rfl (fun _ => Gets.move rfl rfl) ?_
        refine TM.free (Wants.yes rfl rfl rfl) rfl (fun _ => Gets.move rfl rfl) ?_
        refine TM.call0 (Wants.yes rfl rfl rfl) rfl enters15 rfl rfl (v := .int .i64 (Ps.flatten.length : Int)) (fun w hs => len_m Ps.flatten st1 rs1 gh1 w hC3 (hs.has (⟨gh1, 53, st1.map (Value.int .u32) ++ (rs1.map (Value.int .u8) ++ ([Value.int .i64 (Ps.flatten.length : Int)])), 73⟩) (by simp))) ?_
        refine TM.free (Wants.yes rfl rfl rfl) rfl (fun _ => Gets.move rfl rfl) ?_
        refine TM.free (Wants.yes rfl rfl rfl) rfl (fun _ => Gets.lenSlice rfl Tryd.underlying22 rfl) ?_
        refine TM.free (Wants.yes rfl rfl rfl) rfl (fun _ => Gets.isTrue (Gets.eql rfl rfl rfl) rfl) ?_
        refine TM.free (Wants.none rfl) rfl (fun _ => Gets.pickT rfl rfl rfl) ?_
        refine TM.free (Wants.none rfl) rfl (fun _ => Gets.assign rfl rfl) ?_
        refine TM.nil ?_
        refine TE.then ?_
        refine TC.ret ?_
        exact TE.ret1 rfl rfl (fun w hs => ⟨rfl, (((((St.left (H := [⟨g3, 24, (shaM Ps.flatten).map (Value.int .u8), 32⟩, ⟨g2, 22, [Value.slice Av Ps.flatten.length cv], 1⟩, ⟨gh2, 53, s2.1.map (Value.int .u32) ++ (s2.2.map (Value.int .u8) ++ ([Value.int .i64 (Ps.flatten.length : Int)])), 73⟩, ⟨gh1, 53, st1.map (Value.int .u32) ++ (rs1.map (Value.int .u8) ++ ([Value.int .i64 (Ps.flatten.length : Int)])), 73⟩]) hs hown.new).drop (by assumption)).drop (by assumption)).drop (by assumption)).drop (by assumption))⟩)
end Go.Proofs.YtdcphpmkhekghaaDoor
