/-
  Split.
-/
import Derived.Test.YtfdhghidjkbojaaExtD
import Derived.RangeFuncBox
import Derived.Maps.AppendAt
namespace Go.Proofs.Ytfdhghidjkbojaa
set_option linter.unusedVariables false
set_option linter.unusedSimpArgs false
open Go.RowKit Go.Shelf
attribute [local go_sem] Oper.semAt_some

/-- The parts as a list; their cells. -/
def partsL (o l s : Int) : Nat → List (Int × Int)
  | 0 => []
  | i + 1 => partsL o l s i ++ [(o + pq l s i, minI s (l - pq l s i))]
def rowsV (o l s : Int) : Nat → List Value
  | 0 => []
  | i + 1 => rowsV o l s i ++ [.int .i64 (o + pq l s i), .int .i64 (minI s (l - pq l s i))]
theorem partsL_length (o l s : Int) (n : Nat) : (partsL o l s n).length = n := by induction n with
  | zero => rfl
  | succ n ih => simp [partsL, ih]
theorem rowsV_length (o l s : Int) (n : Nat) : (rowsV o l s n).length = n * 2 := by induction n with
  | zero => rfl
  | succ n ih => simp [rowsV, ih]; omega
theorem partsL_at (o l s : Int) (n i : Nat) (h : i < n) : (partsL o l s n).getD i (0, 0) = (o + pq l s i, minI s (l - pq l s i)) := by
  induction n with
  | zero => omega
  | succ n ih =>
    have hl := partsL_length o l s n
    by_cases hi : i < n
    · have := ih hi
      simp only [partsL, List.getD_eq_getElem?_getD] at this ⊢
      rw [List.getElem?_append_left (by omega)]; exact this
    · obtain rfl : i = n := by omega
      simp only [partsL, List.getD_eq_getElem?_getD]
      rw [List.getElem?_append_right (by omega), hl]; simp
theorem rowsV_at (o l s : Int) (n i : Nat) (h : i < n) : (rowsV o l s n)[i * 2]? = some (.int .i64 (o + pq l s i)) ∧ (rowsV o l s n)[i * 2 + 1]? = some (.int .i64 (minI s (l - pq l s i))) := by
  induction n with
  | zero => omega
  | succ n ih =>
    have hl := rowsV_length o l s n
    by_cases hi : i < n
    · obtain ⟨h1, h2⟩ := ih hi
      simp only [rowsV]
      rw [List.getElem?_append_left (by omega), List.getElem?_append_left (by omega)]; exact ⟨h1, h2⟩
    · obtain rfl : i = n := by omega
      simp only [rowsV]
      rw [List.getElem?_append_right (by omega), List.getElem?_append_right (by omega), hl]
      constructor
      · simp
      · rw [show i * 2 + 1 - i * 2 = 1 by omega]; rfl

theorem ownsRow_same {w w' : World} {base g n cap : Nat} {e : TypeId} {size : Nat} {xs : List Value} (h : w.ownsRow base e size (.slice (some ⟨g, 0, none⟩) n cap) n xs) (hg : w'.heap[g]? = w.heap[g]?) : w'.ownsRow base e size (.slice (some ⟨g, 0, none⟩) n cap) n xs := by
  obtain ⟨h1, h2⟩ := h
  refine ⟨h1, ?_⟩
  rcases h2 with ⟨hv, _⟩ | ⟨g', cap', cur, hv, hb, hh, r⟩
  · cases hv
  · have hgg : g' = g := by injection hv with h1 h2 h3; injection h1 with h1; injection h1 with h1; exact h1.symm
    subst hgg
    exact .inr ⟨g', cap', cur, hv, hb, by rw [hg]; exact hh, r⟩
theorem ownsRow_lt {w : World} {base g n cap : Nat} {e : TypeId} {size : Nat} {xs : List Value} (h : w.ownsRow base e size (.slice (some ⟨g, 0, none⟩) n cap) n xs) : g < w.heap.size := by
  rcases h.2 with ⟨hv, _⟩ | ⟨g', cap', cur, hv, hb, hh, r⟩
  · cases hv
  · have hgg : g' = g := by injection hv with h1 h2 h3; injection h1 with h1; injection h1 with h1; exact h1.symm
    subst hgg
    exact (Array.getElem?_eq_some_iff.1 hh).1
theorem ownsRow_cell {w : World} {base g n cap : Nat} {e : TypeId} {size : Nat} {xs : List Value} (h : w.ownsRow base e size (.slice (some ⟨g, 0, none⟩) n cap) n xs) (j : Nat) (u : Value) (hj : xs[j]? = some u) : w.cell? ⟨g, j, none⟩ = some u := by
  rcases h.2 with ⟨hv, _⟩ | ⟨g', cap', cur, hv, hb, hh, h1, h2, h3, h4⟩
  · cases hv
  · have hgg : g' = g := by injection hv with h1 h2 h3; injection h1 with h1; injection h1 with h1; exact h1.symm
    subst hgg
    rw [← h4, List.getElem?_take] at hj
    split at hj
    · simp only [World.cell?, hh]
      simpa using hj
    · cases hj

theorem cells_two_new (w : World) (t : TypeId) (x y : Value) : ∀ (j : Nat) (u : Value), [x, y][j]? = some u → (w.alloc (.cells #[x, y] t)).cell? ((⟨w.heap.size, 0, none⟩ : Addr).add j) = some u := by
  rintro j u h
  match j with
  | 0 => simp at h; subst h; simp [go_sem, Addr.add]
  | 1 => simp at h; subst h; simp [go_sem, Addr.add]
  | j + 2 => simp at h

theorem infoExt : (Try.prog.info? 23).map (fun i => (i.zero, i.size, i.bytes)) = some (some (.agg #[.int .i64 0, .int .i64 0]), 2, 16) := by kernel_rfl

set_option maxHeartbeats 2000000 in
theorem split_yes (o l s : Int) (w : World) (h0 : 0 ≤ o) (h1 : 0 ≤ l) (h2 : o + l ≤ 4611686018427387903) (h3 : 1 ≤ s) (h4 : s ≤ 9223372036854775807) (N : Nat) (hN : 1 ≤ N) (hN2 : N ≤ 1048576) (hc : countE l s = N)
    (hq : ∀ i, i < N → pq l s i < l) (hq2 : pq l s N = l) :
    Calls Try.prog 19 #[.agg #[.int .i64 o, .int .i64 l], .int .i64 s] w fun e w' => e = .returned (.slice (some ⟨w.heap.size + 1, 0, none⟩) N N) ∧ w'.ownsRow (w.heap.size + 1) 23 2 (.slice (some ⟨w.heap.size + 1, 0, none⟩) N N) N (rowsV o l s N) ∧ Below w.heap.size w w' := by
  have HC := Lib.hid hc
  have HQ := Lib.hid hq
  have HQ2 := Lib.hid hq2
  clear hc hq hq2
  obtain ⟨i0, hi, hz0, hz1, hz2⟩ := info_parts infoExt
  have HI := Lib.hid hi
  have HZ0 := Lib.hid hz0
  have HZ1 := Lib.hid hz1
  have HZ2 := Lib.hid hz2
  clear hi hz0 hz1 hz2
  refine callsIn_wide.1 (callsIn_of_wp_marks (n := 4) Try.func19 rfl trivial ?_ rfl)
  refine wpIn_wide.2 ?_
  simp only [Try.ntmps19, List.size_toArray, List.length_cons, List.length_nil, Nat.reduceAdd, Nat.reduceSub, Array.replicate_succ, Array.replicate_zero, List.push_toArray, List.append_toArray, List.nil_append, List.cons_append]
  go_wp2_with (first
    | (go_at_call 27; refine (count_any _ _ _ (by omega) (by omega)).mono ?_; rintro e w' ⟨rfl, rfl⟩; rw [HC.out])
    | (at_make; refine wpList_make_own _ rfl _ _ 35 rfl (w.heap.size + 1) 23 i0 (.agg #[.int .i64 0, .int .i64 0]) 2 Try.underlying35 HI.out HZ0.out HZ1.out .i64 .i64 _ N rfl rfl rfl (by rw [HZ2.out]; omega) (by unfold maxLen; omega) (by simp) ?_; intro w1 hown hgrow
       have hbw1 : Below (w.heap.size + 1) (w.alloc (.cells #[.int .i64 o, .int .i64 l] 23)) w1 := (Below.refl _ _).grown hgrow (by simp) (fun k e => by cases e)
       have hlt1 : w.heap.size + 1 < w1.heap.size := by have := ownsRow_lt hown; simpa using this
       have k1 : ∀ x, (w1.alloc x).cell? ⟨w.heap.size, 0, none⟩ = some (.int .i64 o) := fun x => (old_cell (by omega)).trans ((hbw1.cell (p := ⟨w.heap.size, 0, none⟩) (by simp)).trans (by simp [go_sem]))
       have k2 : ∀ x, (w1.alloc x).cell? ⟨w.heap.size, 1, none⟩ = some (.int .i64 l) := fun x => (old_cell (by omega)).trans ((hbw1.cell (p := ⟨w.heap.size, 1, none⟩) (by simp)).trans (by simp [go_sem]))
       have HO := Lib.hid hown
       clear hown)
    | (go_at_call 28; refine (parts_any _ _ _ _).mono ?_; rintro e w' ⟨rfl, rfl⟩))
  refine wp_world _ (fun W => W.cell? ⟨w1.heap.size, 0, none⟩ = some (.slice (some ⟨w.heap.size + 1, 0, none⟩) 0 N) ∧ W.frozen? ⟨w1.heap.size, 0, none⟩ = false ∧ W.cell? ⟨w1.heap.size + 1, 0, none⟩ = some (.int .i64 o) ∧ W.cell? ⟨w1.heap.size + 1, 1, none⟩ = some (.int .i64 l) ∧ W.cell? ⟨w1.heap.size + 1 + 1, 0, none⟩ = some (.int .i64 s)
    ∧ W.ownsRow (w.heap.size + 1) 23 2 (.slice (some ⟨w.heap.size + 1, 0, none⟩) 0 N) 0 [] ∧ Below w.heap.size w W ∧ W.heap.size = w1.heap.size + 3)
    ⟨by simp [go_sem], by simp [go_sem], by simp [go_sem], by simp [go_sem], by simp [go_sem], ?own, ?bel, by simp⟩ ?_
  case own =>
    have h := HO.out
    rw [World.size_alloc] at h
    exact ownsRow_same h ((Below.heap_alloc _ _ _ (by simp; omega)).trans ((Below.heap_alloc _ _ _ (by simp; omega)).trans (Below.heap_alloc _ _ _ (by omega))))
  case bel => exact ((((((Below.refl w.heap.size w).alloc (Nat.le_refl _) _).trans (hbw1.mono (by omega))).alloc (by omega) _).alloc (by simp; omega) _).alloc (by simp; omega) _)
  rintro W ⟨c1, c2, c3, c4, c5, hown, hbW, hsz⟩
  have HS := Lib.hid hsz
  have HO2 := Lib.hid hown
  have hsz1 : w1.heap.size + 3 ≤ W.heap.size := by omega
  clear hsz hown HO k1 k2 hbw1 hgrow
  refine wpIn_wide.1 (wpIn_rangeFunc_it (n := 4) rfl (by omega) (gf := 29) (lb := #[.pointer (some ⟨w1.heap.size + 1, 0, none⟩), .pointer (some ⟨w1.heap.size + 1 + 1, 0, none⟩)]) rfl trivial (enters_of Try.func29 (by kernel_rfl) rfl)
    (parts_iter Fence.wide 3 trivial rfl (by omega) o l s (w1.heap.size + 1) N W h0 h1 h2 h3 h4 HQ.out HQ2.out (by omega) c3 c4 c5) (Below.refl _ _) (by rintro k (rfl | rfl) <;> omega) (fun _ => rfl)
    (fun i W' => W'.cell? ⟨w1.heap.size, 0, none⟩ = some (.slice (some ⟨w.heap.size + 1, 0, none⟩) i N) ∧ W'.frozen? ⟨w1.heap.size, 0, none⟩ = false ∧ W'.ownsRow (w.heap.size + 1) 23 2 (.slice (some ⟨w.heap.size + 1, 0, none⟩) i N) i (rowsV o l s i) ∧ Below w.heap.size w W' ∧ W.heap.size ≤ W'.heap.size)
    (fun _ _ _ => False)
    (fun i a' W' => (W'.cell? ⟨w1.heap.size, 0, none⟩ = some (.slice (some ⟨w.heap.size + 1, 0, none⟩) i N) ∧ W'.frozen? ⟨w1.heap.size, 0, none⟩ = false ∧ W'.ownsRow (w.heap.size + 1) 23 2 (.slice (some ⟨w.heap.size + 1, 0, none⟩) i N) i (rowsV o l s i) ∧ Below w.heap.size w W' ∧ W.heap.size ≤ W'.heap.size)
      ∧ ∃ B, W.heap.size + 3 ≤ B ∧ B < W'.heap.size ∧ W'.cell? ⟨B, 0, none⟩ = some (.int .i64 (o + pq l s i)) ∧ W'.cell? ⟨B, 1, none⟩ = some (.int .i64 (minI s (l - pq l s i))) ∧ a' = { tmps := #[.agg #[.int .i64 o, .int .i64 l], .int .i64 s, .pointer (some ⟨w.heap.size, 0, none⟩), undef, .slice none 0 0, .int .i64 N, .pointer (some ⟨w1.heap.size, 0, none⟩), .pointer (some ⟨B, 0, none⟩), .pointer (some ⟨w.heap.size, 1, none⟩), .int .i64 l, .int .i64 s, .int .i64 N, .int .i64 N, .bool (decide ((N : Int) < 1)), .bool (decide ((N : Int) < 1)), .int .i64 N, .bool (decide (1048576 < (N : Int))), .bool (decide ((N : Int) < 1) || decide (1048576 < (N : Int))), .int .i64 N, .slice (some ⟨w.heap.size + 1, 0, none⟩) 0 N, .agg #[.int .i64 o, .int .i64 l], .int .i64 s, .func (.func 29) #[] #[.pointer (some ⟨w1.heap.size + 1, 0, none⟩), .pointer (some ⟨w1.heap.size + 1 + 1, 0, none⟩)], .agg #[.int .i64 (o + pq l s i), .int .i64 (minI s (l - pq l s i))], undef, undef, undef, undef, undef], defers := [] })
    ?hI ?hIx ?hAx ?h0 ?assign ?body ?done ?stop)
  case hI =>
    rintro i A B ⟨a1, a2, a3, a4, a5⟩ hb
    have := ownsRow_lt a3
    exact ⟨(hb.cell (by omega) (by omega)).trans a1, (hb.frozen (by omega) (by omega)).trans a2, ownsRow_same a3 (hb.block _ (by omega) (by omega)), a4.trans (hb.below (by omega) (by omega)), Nat.le_trans a5 hb.size⟩
  case hIx => exact fun _ _ _ _ h _ => h
  case hAx =>
    rintro i a A B ⟨⟨a1, a2, a3, a4, a5⟩, Bx, b1, b2, b3, b4, b5⟩ hb
    have := ownsRow_lt a3
    exact ⟨⟨(hb.cell (by omega) (by omega)).trans a1, (hb.frozen (by omega) (by omega)).trans a2, ownsRow_same a3 (hb.block _ (by omega) (by omega)), a4.trans (hb.below (by omega) (by omega)), Nat.le_trans a5 hb.size⟩, Bx, b1, Nat.lt_of_lt_of_le b2 hb.size, (hb.cell b2 (by omega)).trans b3, (hb.cell b2 (by omega)).trans b4, b5⟩
  case h0 => exact ⟨c1, c2, HO2.out, hbW, Nat.le_refl _⟩
  case assign =>
    rintro lp i W' hiN ⟨a1, a2, a3, a4, a5⟩ hW'
    have HA3 := Lib.hid a3
    clear a3
    gi_wp2
    exact ⟨⟨⟨(old_cell (by omega)).trans a1, (old_frozen (by omega)).trans a2, ownsRow_same HA3.out (Below.heap_alloc _ _ _ (ownsRow_lt HA3.out)), a4.alloc a4.size _, by simp; omega⟩, W'.heap.size, by omega, by simp, by simp [go_sem], by simp [go_sem], rfl⟩, Keeps.alloc _ _ _⟩
  case body =>
    rintro lp i a' W' hiN ⟨⟨a1, a2, a3, a4, a5⟩, B, b1, b2, b3, b4, rfl⟩ hW'
    have HA3 := Lib.hid a3
    clear a3
    gi_wp2_with (
      gi_at_builtin; refine wpListIn_append_fits _ rfl _ _ 35 rfl (w.heap.size + 1) 23 i0 2 Try.underlying35 HI.out HZ1.out (w.heap.size + 1) i N (rowsV o l s i) rfl (ownsRow_same HA3.out (Below.heap_alloc _ _ _ (ownsRow_lt HA3.out))) ⟨W'.heap.size, 0, none⟩ 1 1 [.int .i64 (o + pq l s i), .int .i64 (minI s (l - pq l s i))] rfl rfl (cells_two_new _ _ _ _) (fun x hx => by simp at hx; rcases hx with rfl | rfl <;> rfl) (by omega) ?_; intro w3 hown' hgrow3
      have HO3 := Lib.hid hown'
      have hlt3 := ownsRow_lt hown'
      have e1 : w3.cell? ⟨w1.heap.size, 0, none⟩ = some (.slice (some ⟨w.heap.size + 1, 0, none⟩) i N) := (World.cell?_of_block (w := W'.alloc (.cells #[.int .i64 (o + pq l s i), .int .i64 (minI s (l - pq l s i))] 23)) (hgrow3.block w1.heap.size (by simp; omega) (by simp; omega))).trans ((old_cell (by omega)).trans a1)
      have e2 : w3.frozen? ⟨w1.heap.size, 0, none⟩ = false := (World.frozen?_of_block (w := W'.alloc (.cells #[.int .i64 (o + pq l s i), .int .i64 (minI s (l - pq l s i))] 23)) (hgrow3.block w1.heap.size (by simp; omega) (by simp; omega))).trans ((old_frozen (by omega)).trans a2)
      have HG3 := Lib.hid hgrow3
      clear hown' hgrow3)
    have hz3 := HG3.out.size
    simp only [World.size_alloc] at hz3
    refine ⟨((Keeps.alloc _ _ _).trans (Keeps.grown HG3.out (by rintro r hr; cases hr; rintro (h | h | h) <;> omega))).trans (Keeps.setCell _ _ _ (by rintro (h | h | h) <;> simp at h <;> omega)), ?_, ?_, ?_, ?_, ?_⟩
    · simp [go_sem, e1]
    · simp [go_sem, e2]
    · exact ownsRow_same HO3.out (Below.heap_setCell _ _ _ _ (by simp; omega))
    · exact ((a4.alloc a4.size _).grown HG3.out (by simp; have := a4.size; omega) (by rintro k hk; cases hk; omega)).setCell (by simp; omega) _
    · simp [World.setCell]; omega
  case done =>
    rintro W' ⟨a1, a2, a3, a4, a5⟩ hK
    have HA3 := Lib.hid a3
    have HK := Lib.hid hK
    clear a3 hK
    go_wp2
    refine ⟨by simp, .inl ⟨_, _, rfl, run_takeDeferred HK.out, ?_⟩⟩
    have hg := ownsRow_lt HA3.out
    refine ⟨_, results_tmp rfl _ _ _, rfl, ownsRow_same HA3.out (World.putObj_heap_other (by omega)), ?_⟩
    exact a4.trans ((Beside.putObj (lo := W.heap.size) (hi := W.heap.size + 1) _ _ _ (by omega) (by omega)).below (by omega) a4.size)
  case stop =>
    rintro j i W' _ h _
    exact h.elim
end Go.Proofs.Ytfdhghidjkbojaa
