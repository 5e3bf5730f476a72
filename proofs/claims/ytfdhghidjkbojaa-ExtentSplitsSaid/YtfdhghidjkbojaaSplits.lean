/-
  ExtentSplits: for every extent and size, the law returns true and leaves its arguments as they were. No condition.
-/
import Derived.Test.YtfdhghidjkbojaaFrame
namespace Go.Proofs.Ytfdhghidjkbojaa
set_option linter.unusedVariables false
set_option linter.unusedSimpArgs false
open Go.RowKit Go.ChangeShapes Go.WideShapes Go.ChangeAt Go.Joins Go.Deep
attribute [local go_sem] World.cell?_alloc_some frozen_alloc_some

/-! ### Numbers of parts -/
theorem pq_is {l s : Int} {i : Nat} (h : pq l s i < l) : pq l s i = i * s := by unfold pq at *; omega
theorem parts_num (l s : Int) (hl : 1 ≤ l) (hs : 1 ≤ s) (N : Nat) (hN : (l - 1) / s + 1 = N) : (∀ i, i < N → pq l s i < l) ∧ pq l s N = l := by
  have h1 : (l - 1) / s * s ≤ l - 1 := Int.ediv_mul_le _ (by omega)
  have h2 : l - 1 < ((l - 1) / s + 1) * s := Int.lt_ediv_add_one_mul_self _ (by omega)
  rw [hN] at h2
  constructor
  · intro i hi
    have h3 : (i : Int) ≤ (l - 1) / s := by omega
    have h4 : (i : Int) * s ≤ (l - 1) / s * s := Int.mul_le_mul_of_nonneg_right h3 (by omega)
    unfold pq; omega
  · unfold pq; omega
theorem parts_o (o l s : Int) (N i : Nat) (h : i < N) : eo (partsL o l s N) i = o + pq l s i ∧ el (partsL o l s N) i = minI s (l - pq l s i) := by
  unfold eo el; rw [partsL_at o l s N i h]; exact ⟨rfl, rfl⟩
theorem parts_tot (o l s : Int) (N : Nat) (h0 : 0 ≤ l) (h1 : l ≤ 4611686018427387903) (hs : 1 ≤ s) (hq : ∀ i, i < N → pq l s i < l) (hq2 : pq l s N = l) :
    ∀ r k, k + r = N → totS (pq l s k) ((partsL o l s N).drop k) = some l
  | 0, k, h => by
    obtain rfl : k = N := by omega
    rw [List.drop_of_length_le (by rw [partsL_length]; omega), hq2]; rfl
  | r + 1, k, h => by
    have hk : k < N := by omega
    rw [totS_step _ k (by rw [partsL_length]; exact hk), (parts_o o l s N k hk).2]
    have := hq k hk
    have ⟨b1, b2⟩ := pq_bd k h0 hs
    have ⟨y1, y2, y3⟩ := minI_bd s (l - pq l s k)
    rw [if_neg (by omega)]
    rcases pq_succ (l := l) k hs with h | h
    · rw [← h]; exact parts_tot o l s N h0 h1 hs hq hq2 r (k + 1) (by omega)
    · omega
theorem parts_all (o l s : Int) (N : Nat) (h0 : 0 ≤ l) (hs : 1 ≤ s) (hq : ∀ i, i < N → pq l s i < l) : allB (insB o l) (partsL o l s N) = true := by
  unfold allB
  rw [List.all_eq_true]
  intro x hx
  obtain ⟨i, hi, rfl⟩ := List.getElem_of_mem hx
  have hiN : i < N := by rw [partsL_length] at hi; exact hi
  have hp := partsL_at o l s N i hiN
  rw [List.getD_eq_getElem?_getD, List.getElem?_eq_getElem hi, Option.getD_some] at hp
  rw [hp]
  have := hq i hiN
  have ⟨b1, b2⟩ := pq_bd i h0 hs
  have ⟨y1, y2, y3⟩ := minI_bd s (l - pq l s i)
  exact ins_yes (by simp; omega) (by simp; omega)

set_option maxHeartbeats 1000000 in
theorem extentSplits_no (o l s : Int) (w : World) (hl : l ≤ 9223372036854775807) (hv1 : validB o l = false) :
    Calls Try.prog 7 #[.agg #[.int .i64 o, .int .i64 l], .int .i64 s] w fun e w' => e = .returned (.bool true) ∧ Below w.heap.size w w' := by
  go_enter Try.func7, Try.ntmps7
  go_upto_region 1 with (fail)
  refine wp_world _ (fun W => W.cell? ⟨w.heap.size, 0, none⟩ = some (.int .i64 o) ∧ W.cell? ⟨w.heap.size, 1, none⟩ = some (.int .i64 l) ∧ Below w.heap.size w W ∧ w.heap.size + 1 ≤ W.heap.size)
    ⟨by simp [*, go_sem, World.cell?_alloc_some], by simp [*, go_sem, World.cell?_alloc_some], by go_grown, by go_size⟩ ?_
  rintro w0 ⟨c1, c2, hB, hN⟩
  go_wp2_with (first
    | (go_at_call 9; (with_reducible refine (refvalid_any _ _ _ (by first | assumption | omega)).mono ?_); rintro e w1 ⟨rfl, hb1⟩; have hz1 := hb1.size; (try simp only [World.size_alloc] at hz1); replace hB := below_call hB hb1 (by go_size); replace c1 := keep_cell hb1 (c1); replace c2 := keep_cell hb1 (c2))
    | (go_at_call 10; (with_reducible refine (alive_any _).mono ?_); rintro e w3 ⟨rfl, hb3⟩; have hz3 := hb3.size; (try simp only [World.size_alloc] at hz3); replace hB := below_call hB hb3 (by go_size)))
  go_ret
  exact ⟨rfl, hB⟩

set_option maxHeartbeats 1000000 in
theorem extentSplits_big (o l s : Int) (w : World) (hv1 : validB o l = true) (hs : s ≤ 9223372036854775807) (d1 : 3000 < l) (d2 : 0 < s) (d3 : 3000 < l / s) (d4 : l / s < 2097152) :
    Calls Try.prog 7 #[.agg #[.int .i64 o, .int .i64 l], .int .i64 s] w fun e w' => e = .returned (.bool true) ∧ Below w.heap.size w w' := by
  have ⟨o0, o1, o2⟩ := validB_iff.1 hv1
  go_enter Try.func7, Try.ntmps7
  go_upto_region 1 with (fail)
  refine wp_world _ (fun W => W.cell? ⟨w.heap.size, 0, none⟩ = some (.int .i64 o) ∧ W.cell? ⟨w.heap.size, 1, none⟩ = some (.int .i64 l) ∧ Below w.heap.size w W ∧ w.heap.size + 1 ≤ W.heap.size)
    ⟨by simp [*, go_sem, World.cell?_alloc_some], by simp [*, go_sem, World.cell?_alloc_some], by go_grown, by go_size⟩ ?_
  rintro w0 ⟨c1, c2, hB, hN⟩
  go_wp2_with (first
    | (go_at_call 9; (with_reducible refine (refvalid_any _ _ _ (by first | assumption | omega)).mono ?_); rintro e w1 ⟨rfl, hb1⟩; have hz1 := hb1.size; (try simp only [World.size_alloc] at hz1); replace hB := below_call hB hb1 (by go_size); replace c1 := keep_cell hb1 (c1); replace c2 := keep_cell hb1 (c2))
    | (go_at_call 10; (with_reducible refine (alive_any _).mono ?_); rintro e w3 ⟨rfl, hb3⟩; have hz3 := hb3.size; (try simp only [World.size_alloc] at hz3); replace hB := below_call hB hb3 (by go_size)))
  go_ret
  exact ⟨rfl, hB⟩

theorem exts_at {w : World} {b n k : Nat} {xs : List (Int × Int)} (h : IsExts w (some ⟨b, 0, none⟩) n xs) (hk : k < n) : w.cell? ⟨b, k * 2, none⟩ = some (.int .i64 (eo xs k)) ∧ w.cell? ⟨b, k * 2 + 1, none⟩ = some (.int .i64 (el xs k)) := by
  obtain ⟨_, h0 | ⟨b', off, ha, _, hc⟩⟩ := h
  · omega
  · injection ha with ha
    injection ha with h1 h2
    subst h1; subst h2
    simpa using hc k hk

theorem none_exts (w : World) : IsExts w none 0 [] := ⟨rfl, .inl rfl⟩

set_option maxHeartbeats 1000000 in
theorem extentSplits_none (o l s : Int) (w : World) (hv1 : validB o l = true) (hs : s ≤ 9223372036854775807) (hc : countE l s < 1 ∨ 1048576 < countE l s) (hp : piecesE l s = 0)
    (hd : l ≤ 3000 ∨ (3000 < l ∧ s ≤ 0) ∨ (3000 < l ∧ 0 < s ∧ l / s ≤ 3000) ∨ (3000 < l ∧ 0 < s ∧ 2097152 ≤ l / s)) :
    Calls Try.prog 7 #[.agg #[.int .i64 o, .int .i64 l], .int .i64 s] w fun e w' => e = .returned (.bool true) ∧ Below w.heap.size w w' := by
  have ⟨o0, o1, o2⟩ := validB_iff.1 hv1
  have C1 := Lib.hid (fun W => split_no o l s W o0 o1 o2 hs hc)
  have C2x := fun W => pieces_any o l s W o1 (by omega) hs
  rw [hp] at C2x
  have C2 := Lib.hid C2x
  have C3 := Lib.hid (fun W => total_any none 0 0 [] W (none_exts W) (by omega) (fun i hi => absurd hi (Nat.not_lt_zero _)))
  have C4 := Lib.hid (fun W => contains_any o l none 0 0 [] W o0 o1 o2 (none_exts W) (by omega) (fun i hi => absurd hi (Nat.not_lt_zero _)))
  clear C2x hc hp
  have hq0 : 0 ≤ s → 0 ≤ l / s := fun h => Int.ediv_nonneg o1 h
  have hq1 : l / s ≤ l := Int.ediv_le_self _ o1
  rcases hd with d1 | ⟨d1, d2⟩ | ⟨d1, d2, d3⟩ | ⟨d1, d2, d3⟩
  all_goals
    try have hq2 := hq0 (by omega)
    clear hq0
    go_enter Try.func7, Try.ntmps7
    go_upto_region 1 with (fail)
    refine wp_world _ (fun W => W.cell? ⟨w.heap.size, 0, none⟩ = some (.int .i64 o) ∧ W.cell? ⟨w.heap.size, 1, none⟩ = some (.int .i64 l) ∧ Below w.heap.size w W ∧ w.heap.size + 1 ≤ W.heap.size)
      ⟨by simp [*, go_sem, World.cell?_alloc_some], by simp [*, go_sem, World.cell?_alloc_some], by go_grown, by go_size⟩ ?_
    rintro w0 ⟨c1, c2, hB, hN⟩
    go_wp2_with (first
      | (go_at_call 9; (with_reducible refine (refvalid_any _ _ _ (by first | assumption | omega)).mono ?_); rintro e w1 ⟨rfl, hb1⟩; have hz1 := hb1.size; (try simp only [World.size_alloc] at hz1); replace hB := below_call hB hb1 (by go_size); replace c1 := keep_cell hb1 (c1); replace c2 := keep_cell hb1 (c2))
      | (go_at_call 19; (with_reducible refine (C1.out _).mono ?_); rintro e w2 ⟨rfl, hb2⟩; have hz2 := hb2.size; (try simp only [World.size_alloc] at hz2); replace hB := below_call hB hb2 (by go_size); replace c1 := keep_cell hb2 (c1); replace c2 := keep_cell hb2 (c2))
      | (go_at_call 20; (with_reducible refine (C2.out _).mono ?_); rintro e w3 ⟨rfl, hb3⟩; have hz3 := hb3.size; (try simp only [World.size_alloc] at hz3); replace hB := below_call hB hb3 (by go_size); replace c1 := keep_cell hb3 (c1); replace c2 := keep_cell hb3 (c2)))
    refine wp_loop_rounds 1 ?_
    rw [rounds_succ]
    go_wp2_with (first
      | (go_at_call 22; (with_reducible refine (C3.out _).mono ?_); rintro e w4 ⟨rfl, hb4⟩; have hz4 := hb4.size; (try simp only [World.size_alloc] at hz4); replace hB := below_call hB hb4 (by go_size); replace c1 := keep_cell hb4 (c1); replace c2 := keep_cell hb4 (c2))
      | (go_at_call 10; (with_reducible refine (alive_any _).mono ?_); rintro e w5 ⟨rfl, hb5⟩; have hz5 := hb5.size; (try simp only [World.size_alloc] at hz5); replace hB := below_call hB hb5 (by go_size); replace c1 := keep_cell hb5 (c1); replace c2 := keep_cell hb5 (c2))
      | (go_at_call 15; (with_reducible refine (C4.out _).mono ?_); rintro e w6 ⟨rfl, hb6⟩; have hz6 := hb6.size; (try simp only [World.size_alloc] at hz6); replace hB := below_call hB hb6 (by go_size); replace c1 := keep_cell hb6 (c1); replace c2 := keep_cell hb6 (c2)))
    go_ret
    exact ⟨rfl, hB⟩

set_option maxHeartbeats 2000000 in
theorem extentSplits_some (o l s : Int) (w : World) (hv1 : validB o l = true) (hs0 : 1 ≤ s) (hs : s ≤ 9223372036854775807) (N : Nat) (hN1 : 1 ≤ N) (hN2 : N ≤ 1048576) (hc : countE l s = N) (hp : piecesE l s = N) (hq : ∀ i, i < N → pq l s i < l) (hq2 : pq l s N = l)
    (hd : l ≤ 3000 ∨ (3000 < l ∧ l / s ≤ 3000)) :
    Calls Try.prog 7 #[.agg #[.int .i64 o, .int .i64 l], .int .i64 s] w fun e w' => e = .returned (.bool true) ∧ Below w.heap.size w w' := by
  have ⟨o0, o1, o2⟩ := validB_iff.1 hv1
  have C1 := Lib.hid (fun W => split_yes o l s W o0 o1 o2 hs0 hs N hN1 hN2 hc hq hq2)
  have C2x := fun W => pieces_any o l s W o1 (by omega) hs
  rw [hp] at C2x
  have C2 := Lib.hid C2x
  have hpb : ∀ i, i < N → 0 ≤ eo (partsL o l s N) i ∧ 0 ≤ el (partsL o l s N) i ∧ eo (partsL o l s N) i + el (partsL o l s N) i ≤ 4611686018427387903 := fun i hi => by
    rw [(parts_o o l s N i hi).1, (parts_o o l s N i hi).2]
    have := hq i hi
    have ⟨b1, b2⟩ := pq_bd i o1 hs0
    have ⟨y1, y2, y3⟩ := minI_bd s (l - pq l s i)
    omega
  have C3x := fun W a cap (h : IsExts W a N (partsL o l s N)) => total_any a N cap (partsL o l s N) W h (by omega) (fun i hi => by have := hpb i hi; omega)
  have ht := parts_tot o l s N o1 (by omega) hs0 hq hq2 N 0 (by omega)
  rw [pq_zero o1, List.drop_zero] at ht
  rw [(tot_some ht).1, (tot_some ht).2] at C3x
  have C3 := Lib.hid C3x
  have C4x := fun W a cap (h : IsExts W a N (partsL o l s N)) => contains_any o l a N cap (partsL o l s N) W o0 o1 o2 h (by omega) hpb
  rw [parts_all o l s N o1 hs0 hq] at C4x
  have C4 := Lib.hid C4x
  have C5 : Hid (∀ (k : Nat) (W : World), k < N → Calls Try.prog 21 #[.agg #[.int .i64 o, .int .i64 l], .int .i64 s, .int .i64 k] W fun e w' => e = .returned (ext (o + pq l s k) (minI s (l - pq l s k))) ∧ Below W.heap.size W w') := Lib.hid (fun k W hk => by
    have h1 := hq k hk
    have h2 := pq_is h1
    have h3 := piece_any o l s k W o0 o1 o2 hs0 hs (by omega) (by omega) (by rw [← h2]; omega)
    rw [← h2, ← minI_is] at h3
    exact h3)
  have HQ := Lib.hid hq
  have HQ2 := Lib.hid hq2
  clear C2x C3x C4x hc hp hpb ht hq hq2
  have hqa : 0 ≤ l / s := Int.ediv_nonneg o1 (by omega)
  have hqb : l / s ≤ l := Int.ediv_le_self _ o1
  rcases hd with d1 | ⟨d1, d3⟩
  all_goals
    go_enter Try.func7, Try.ntmps7
    go_upto_region 1 with (fail)
    refine wp_world _ (fun W => W.cell? ⟨w.heap.size, 0, none⟩ = some (.int .i64 o) ∧ W.cell? ⟨w.heap.size, 1, none⟩ = some (.int .i64 l) ∧ Below w.heap.size w W ∧ w.heap.size + 1 ≤ W.heap.size)
      ⟨by simp [*, go_sem, World.cell?_alloc_some], by simp [*, go_sem, World.cell?_alloc_some], by go_grown, by go_size⟩ ?_
    rintro w0 ⟨c1, c2, hB, hN⟩
    go_upto_region 7 with (first
      | (go_at_call 9; (with_reducible refine (refvalid_any _ _ _ (by first | assumption | omega)).mono ?_); rintro e w1 ⟨rfl, hb1⟩; have hz1 := hb1.size; (try simp only [World.size_alloc] at hz1); replace hB := below_call hB hb1 (by go_size); replace c1 := keep_cell hb1 (c1); replace c2 := keep_cell hb1 (c2))
      | (go_at_call 19; (with_reducible refine (C1.out _).mono ?_); rintro e w2 ⟨rfl, hrow, hb2⟩; have hz2 := hb2.size; (try simp only [World.size_alloc] at hz2); replace hB := below_call hB hb2 (by go_size); replace c1 := keep_cell hb2 (c1); replace c2 := keep_cell hb2 (c2); have HX := Lib.hid (exts_of_row hrow); clear hrow)
      | (go_at_call 20; (with_reducible refine (C2.out _).mono ?_); rintro e w3 ⟨rfl, hb3⟩; have hz3 := hb3.size; (try simp only [World.size_alloc] at hz3); replace hB := below_call hB hb3 (by go_size); replace c1 := keep_cell hb3 (c1); replace c2 := keep_cell hb3 (c2)))
    have HX3 := Lib.hid (HX.out.later hb3)
    clear HX
    go_wp2
    go_loopw [6, 51] (fun at' i wr => ∃ k : Nat, k ≤ N ∧ i = .int .i64 k ∧ at' = .int .i64 (o + pq l s k) ∧ wr.cell? ⟨w.heap.size, 0, none⟩ = some (.int .i64 o) ∧ wr.cell? ⟨w.heap.size, 1, none⟩ = some (.int .i64 l) ∧ Hid (IsExts wr (some ⟨w1.heap.size + 1, 0, none⟩) N (partsL o l s N)) ∧ Below w.heap.size w wr) (fun _ i _ => N - (intOf i).toNat)
    case atStart => exact ⟨0, Nat.zero_le _, rfl, by rw [pq_zero o1]; simp, c1, c2, HX3, hB⟩
    case round =>
      clear c1 c2 hB HX3
      obtain ⟨k, hk, rfl, rfl, c1, c2, HX, hB⟩ := hrel
      have hzr := hB.size
      have ⟨b1, b2⟩ := pq_bd k o1 hs0
      by_cases hlt : k < N
      · have hpk := HQ.out k hlt
        have ⟨y1, y2, y3⟩ := minI_bd s (l - pq l s k)
        have ⟨e1, e2⟩ := exts_at HX.out hlt
        rw [(parts_o o l s N k hlt).1] at e1
        rw [(parts_o o l s N k hlt).2] at e2
        have t1 : decide (minI s (l - pq l s k) < 1) = false := decide_eq_false (by omega)
        have t2 : decide (s < minI s (l - pq l s k)) = false := decide_eq_false (by omega)
        have hps : pq l s k + minI s (l - pq l s k) = pq l s (k + 1) := by
          rcases pq_succ (l := l) k hs0 with h | h
          · exact h.symm
          · omega
        have HPS := Lib.hid hps
        clear hps
        go_upto_region 10 with (fail)
        refine wp_world _ (fun W => W.cell? ⟨w.heap.size, 0, none⟩ = some (.int .i64 o) ∧ W.cell? ⟨w.heap.size, 1, none⟩ = some (.int .i64 l) ∧ W.cell? ⟨wr.heap.size, 0, none⟩ = some (.int .i64 (o + pq l s k)) ∧ W.cell? ⟨wr.heap.size, 1, none⟩ = some (.int .i64 (minI s (l - pq l s k))) ∧ Below wr.heap.size wr W ∧ wr.heap.size + 1 ≤ W.heap.size)
          ⟨by simp [*, go_sem, World.cell?_alloc_some], by simp [*, go_sem, World.cell?_alloc_some], by simp [go_sem], by simp [go_sem], (Below.refl _ _).alloc (Nat.le_refl _) _, by simp⟩ ?_
        have HX5 := Lib.hid (HX.out.later ((Below.refl _ _).alloc (Nat.le_refl _) (.cells #[.int .i64 (o + pq l s k), .int .i64 (minI s (l - pq l s k))] 23)))
        clear HX5
        rintro W ⟨c1', c2', c3, c4, hBW, hNW⟩
        refine wpFrom_start (by kernel_rfl) ?_
        refine wpFrom_seq (k := 0) 23 (Kept W) (by kernel_rfl) (kept_drew _) ?_
        iterate 23 (first
          | (apply SeqM.take rfl
             · (intro wx hSx; obtain ⟨hcx, hfx, hbx⟩ := hSx; go_simp; (try simp (disch := omega) only [IntWalk.i64_in]); first | with_reducible rfl | exact ⟨rfl, rfl⟩)
             simp only [Act.put, List.setIfInBounds_toArray, List.set_cons_zero, List.set_cons_succ])
          | (apply SeqM.call rfl
             · (intro wx hSx; obtain ⟨hcx, hfx, hbx⟩ := hSx; go_simp; (try simp (disch := omega) only [IntWalk.i64_in]); exact ⟨rfl, rfl⟩)
             · (intro wx hSx; (first
                | (go_at_call 21; refine (C5.out k _ hlt).mono ?_; rintro e w' ⟨rfl, hb⟩; first | exact ⟨rfl, kept_step hSx hb⟩ | exact ⟨rfl, hSx⟩)
                ))
             simp only [Act.put, List.setIfInBounds_toArray, List.set_cons_zero, List.set_cons_succ])
          | (apply SeqM.skip rfl
             simp only [Act.put, List.setIfInBounds_toArray, List.set_cons_zero, List.set_cons_succ]))
        refine SeqM.done ?_
        rintro wq ⟨hcq, hfq, hbq⟩
        refine wpFrom_end ?_
        have hzq := hbq.size
        have f1 := keep_cell hbq c1'
        have f2 := keep_cell hbq c2'
        have f3 := keep_cell hbq c3
        have f4 := keep_cell hbq c4
        clear hcq hfq c1' c2' c3 c4
        go_wp2
        go_roundw
        case rel => exact ⟨k + 1, by omega, by go_num, by rw [← HPS.out]; congr 1; omega, f1, f2, HX.out.later (hBW.trans (hbq.mono hBW.size)), (hB.trans (hBW.mono hB.size)).trans (hbq.mono (by omega))⟩
        case measure => simp [intOf]; omega
      · obtain rfl : k = N := by omega
        have hq2 := HQ2.out
        rw [hq2]
        clear hq2
        go_wp2_with (first
          | (go_at_call 22; (with_reducible refine (C3.out _ _ _ (HX.out.later (Below.refl _ _))).mono ?_); rintro e w6 ⟨rfl, hb6⟩; have hz6 := hb6.size; (try simp only [World.size_alloc] at hz6); replace hB := below_call hB hb6 (by go_size); replace c1 := keep_cell hb6 (c1); replace c2 := keep_cell hb6 (c2); have HX6 := Lib.hid (HX.out.later hb6))
          | (go_at_call 10; (with_reducible refine (alive_any _).mono ?_); rintro e w7 ⟨rfl, hb7⟩; have hz7 := hb7.size; (try simp only [World.size_alloc] at hz7); replace hB := below_call hB hb7 (by go_size); replace c1 := keep_cell hb7 (c1); replace c2 := keep_cell hb7 (c2); have HX7 := Lib.hid (HX6.out.later hb7))
          | (go_at_call 15; (with_reducible refine (C4.out _ _ _ HX7.out).mono ?_); rintro e w8 ⟨rfl, hb8⟩; have hz8 := hb8.size; (try simp only [World.size_alloc] at hz8); replace hB := below_call hB hb8 (by go_size); replace c1 := keep_cell hb8 (c1); replace c2 := keep_cell hb8 (c2)))
        go_ret
        exact ⟨rfl, hB⟩

theorem extentSplits_walk (o l s : Int) (w : World) (_ : -9223372036854775808 ≤ o ∧ o ≤ 9223372036854775807) (hl : -9223372036854775808 ≤ l ∧ l ≤ 9223372036854775807) (hs : -9223372036854775808 ≤ s ∧ s ≤ 9223372036854775807) :
    Calls Try.prog 7 #[.agg #[.int .i64 o, .int .i64 l], .int .i64 s] w fun e w' => e = .returned (.bool true) ∧ Below w.heap.size w w' := by
  by_cases h : validB o l = true
  · have ⟨o0, o1, o2⟩ := validB_iff.1 h
    by_cases hbig : 3000 < l ∧ 0 < s ∧ 3000 < l / s ∧ l / s < 2097152
    · exact extentSplits_big o l s w h hs.2 hbig.1 hbig.2.1 hbig.2.2.1 hbig.2.2.2
    · by_cases hc : countE l s < 1 ∨ 1048576 < countE l s
      · refine extentSplits_none o l s w h hs.2 hc ?_ (by omega)
        by_cases hz : s < 1 ∨ l = 0
        · exact piecesE_low (by omega)
        · rw [countE_up (by omega) (by omega)] at hc
          have : 0 ≤ (l - 1) / s := Int.ediv_nonneg (by omega) (by omega)
          exact piecesE_low (.inr (.inr (by omega)))
      · have hz : ¬ (l < 1 ∨ s < 1) := fun hz => hc (.inl (by rw [countE_low hz]; omega))
        have hcu := countE_up (n := l) (s := s) (by omega) (by omega)
        obtain ⟨N, hN⟩ : ∃ N : Nat, countE l s = N := ⟨(countE l s).toNat, by omega⟩
        have hnum := parts_num l s (by omega) (by omega) N (by rw [← hcu]; exact hN)
        refine extentSplits_some o l s w h (by omega) hs.2 N (by omega) (by omega) hN ?_ hnum.1 hnum.2 ?_
        · rw [piecesE_up (by omega) (by omega) (by omega), ← hcu]; exact hN
        · have h1 : (l - 1) / s ≤ 1048575 := by omega
          have h2 : l / s ≤ (l - 1) / s + 1 := by
            have := Int.ediv_le_ediv (c := s) (by omega) (show l ≤ (l - 1) + 1 * s by omega)
            rw [Int.add_mul_ediv_right _ _ (by omega)] at this
            exact this
          omega
  · exact extentSplits_no o l s w hl.2 (by simpa using h)

theorem extentSplits_params : Try.f7.params = #[23, 3] := by kernel_rfl
set_option maxRecDepth 100000 in
theorem extentSplits_lifted (os : Os) (started : os.Started) (H : Type) (enc : TypeId × Value → H) :
    ReturnsInHanded {} Try.checked os 7 .any (Rows.extentSplitsSpec.pre6 enc Try.prog Try.f7 Rows.extentSplitsRow.domain false) (Rows.extentSplitsSpec.post enc Try.prog Try.f7 false true false false) := by
  refine returnsInHanded_of_change (C := Try.checked) own_knob started (by kernel_rfl) Try.func7
    (ChangeSpec.witness6 (enc := enc) (C := Try.checked) false ⟨#[], #[.agg #[.int .i64 0, .int .i64 0], .int .i64 0], []⟩ 8 (by kernel_rfl) (by kernel_rfl) (by kernel_rfl) (by kernel_rfl)) ?_
  intro W base args ds gs before hval0 hW hcnd _
  have hval : ∀ (j : Nat) t v, Try.f7.params[j]? = some t → args[j]? = some v → Value.okWide Try.prog W .any base t v := hval0
  have hW' := hW
  obtain ⟨p, q, hA0, hV, rfl, hfz, hnd⟩ := hW
  have hA : DataW.TrodAll enc Try.prog W 0 (fun _ => true) true Try.f7.params.toList args.toList ds p := hA0
  rw [extentSplits_params] at hA hval
  obtain ⟨v0, vs0, d0, ds0, p0, q0, hargs, rfl, rfl, h0, r0⟩ := trodAll_cons hA
  obtain ⟨v1, vs1, d1, ds1, p1, q1, rfl, rfl, rfl, h1, r1⟩ := trodAll_cons r0
  obtain ⟨rfl, rfl, rfl⟩ := trodAll_nil r1
  obtain rfl : args = #[v0, v1] := by cases args; simp_all
  obtain ⟨rfl, rfl⟩ := trodVars_none hV
  have k0 := h0
  have lt0 : ∀ x ∈ p0, x.block < W.heap.size := by obtain ⟨m, hm⟩ := k0; exact DataW.trod_lt m _ _ _ hm
  have k1 := h1
  have lt1 : ∀ x ∈ p1, x.block < W.heap.size := by obtain ⟨m, hm⟩ := k1; exact DataW.trod_lt m _ _ _ hm
  obtain ⟨eo, el, hv0, bo0, bl0⟩ := open_ext (hval 0 23 v0 rfl rfl) h0
  subst hv0
  obtain ⟨s, hv1, hd1, hp1, wf1⟩ := open_int Try.underlying3 (hval 1 3 v1 rfl rfl) h1
  have bd1 := bounds_i64 wf1
  subst hv1
  clear hA0 hval0
  refine (extentSplits_walk eo el s W bo0 bl0 bd1).mono fun e W' ⟨he, bel⟩ => ?_
  subst he
  exact ⟨_, rfl, _, _, _, [], _, [], hW', trodAll_mk1 (shut_bool Try.underlying4 _), (trodAll_cons_mk (Below.trod laid_out (by kernel_rfl) (of_decide_eq_true (by kernel_rfl)) k0 bel lt0) (trodAll_cons_mk (Below.trod laid_out (by kernel_rfl) (of_decide_eq_true (by kernel_rfl)) k1 bel lt1) trodAll_mk0)), rfl, bel.frame _, fun h => by cases h⟩

/-- The statement. -/
theorem extentSplits_holds : Rows.ExtentSplitsSaid :=
  OpenClaim.holds_of_wide 7 Try.f7 rfl rfl rfl rfl rfl rfl rfl ⟨rfl, rfl, rfl, rfl, rfl⟩ rfl rfl rfl rfl rfl (by kernel_rfl) Try.func7 (by kernel_rfl)
    (of_decide_eq_true (by kernel_rfl)) (by unfold Func.isWrapper; first | (rw [if_pos (by decide +kernel)]; kernel_rfl) | (rw [if_neg (by decide +kernel)]; exact ⟨rfl, rfl⟩))
    (fun os started H enc _ => extentSplits_lifted os started H enc)

end Go.Proofs.Ytfdhghidjkbojaa
