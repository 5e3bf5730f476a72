/-
  ExtentShifts: for every extent and number, the law returns true and leaves its arguments as they were. No condition.
-/
import Derived.Test.YtfdhghidjkbojaaFrame
namespace Go.Proofs.Ytfdhghidjkbojaa
set_option linter.unusedVariables false
set_option linter.unusedSimpArgs false
open Go.RowKit Go.ChangeShapes Go.WideShapes Go.ChangeAt Go.Joins Go.Deep
attribute [local go_sem] World.cell?_alloc_some frozen_alloc_some

set_option maxHeartbeats 1000000 in
theorem extentShifts_no (o l n : Int) (w : World) (hl : l ≤ 9223372036854775807) (hv1 : validB o l = false) :
    Calls Try.prog 6 #[.agg #[.int .i64 o, .int .i64 l], .int .i64 n] w fun e w' => e = .returned (.bool true) ∧ Below w.heap.size w w' := by
  go_enter Try.func6, Try.ntmps6
  go_upto_region 1 with (fail)
  refine wp_world _ (fun W => W.cell? ⟨w.heap.size, 0, none⟩ = some (.int .i64 o) ∧ W.cell? ⟨w.heap.size, 1, none⟩ = some (.int .i64 l) ∧ Below w.heap.size w W ∧ w.heap.size + 1 ≤ W.heap.size)
    ⟨by simp [*, go_sem, World.cell?_alloc_some], by simp [*, go_sem, World.cell?_alloc_some], by go_grown, by go_size⟩ ?_
  rintro w0 ⟨c1, c2, hB, hN⟩
  go_wp2_with (first
    | (go_at_call 9; (with_reducible refine (refvalid_any _ _ _ (by first | assumption | omega)).mono ?_); rintro e w1 ⟨rfl, hb1⟩; have hz1 := hb1.size; (try simp only [World.size_alloc] at hz1); replace hB := below_call hB hb1 (by go_size); replace c1 := keep_cell hb1 (c1); replace c2 := keep_cell hb1 (c2))
    | (go_at_call 10; (with_reducible refine (alive_any _).mono ?_); rintro e w3 ⟨rfl, hb3⟩; have hz3 := hb3.size; (try simp only [World.size_alloc] at hz3); replace hB := below_call hB hb3 (by go_size)))
  go_ret
  exact ⟨rfl, hB⟩

set_option maxHeartbeats 1000000 in
theorem extentShifts_stay (o l n : Int) (w : World) (hn1 : -9223372036854775808 ≤ n) (hn2 : n ≤ 9223372036854775807) (hv1 : validB o l = true) (ht : shiftB o l n = false) :
    Calls Try.prog 6 #[.agg #[.int .i64 o, .int .i64 l], .int .i64 n] w fun e w' => e = .returned (.bool true) ∧ Below w.heap.size w w' := by
  have ⟨o0, o1, o2⟩ := validB_iff.1 hv1
  have C1 := Lib.hid (fun W => shift_no o l n W o0 o1 o2 hn1 hn2 ht)
  have hn : ¬ (-o ≤ n ∧ n ≤ 4611686018427387903 - (o + l)) := by unfold shiftB at ht; exact of_decide_eq_false ht
  clear ht
  by_cases d1 : 0 ≤ n
  · have d2 : 4611686018427387903 - o - l < n := by omega
    have e1 : decide (0 ≤ n) = true := decide_eq_true d1
    have e2 : decide (n ≤ 4611686018427387903 - o - l) = false := decide_eq_false (by omega)
    have e3 : decide (n < 0) = false := decide_eq_false (by omega)
    clear hn
    go_enter Try.func6, Try.ntmps6
    go_upto_region 1 with (fail)
    refine wp_world _ (fun W => W.cell? ⟨w.heap.size, 0, none⟩ = some (.int .i64 o) ∧ W.cell? ⟨w.heap.size, 1, none⟩ = some (.int .i64 l) ∧ Below w.heap.size w W ∧ w.heap.size + 1 ≤ W.heap.size)
      ⟨by simp [*, go_sem, World.cell?_alloc_some], by simp [*, go_sem, World.cell?_alloc_some], by go_grown, by go_size⟩ ?_
    rintro w0 ⟨c1, c2, hB, hN⟩
    go_upto_region 3 with (go_at_call 9; (with_reducible refine (refvalid_any _ _ _ (by first | assumption | omega)).mono ?_); rintro e w1 ⟨rfl, hb1⟩; have hz1 := hb1.size; (try simp only [World.size_alloc] at hz1); replace hB := below_call hB hb1 (by go_size); replace c1 := keep_cell hb1 (c1); replace c2 := keep_cell hb1 (c2))
    go_upto_region 4 with (go_at_call 17; (with_reducible refine (C1.out _).mono ?_); rintro e w2 ⟨rfl, hb2⟩; have hz2 := hb2.size; (try simp only [World.size_alloc] at hz2); replace hB := below_call hB hb2 (by go_size); replace c1 := keep_cell hb2 (c1); replace c2 := keep_cell hb2 (c2))
    refine wp_world _ (fun W => W.cell? ⟨w.heap.size, 0, none⟩ = some (.int .i64 o) ∧ W.cell? ⟨w.heap.size, 1, none⟩ = some (.int .i64 l) ∧ W.cell? ⟨w2.heap.size, 0, none⟩ = some (.int .i64 0) ∧ W.cell? ⟨w2.heap.size, 1, none⟩ = some (.int .i64 0) ∧ Below w.heap.size w W ∧ w.heap.size + 1 ≤ W.heap.size)
      ⟨by simp [*, go_sem, World.cell?_alloc_some], by simp [*, go_sem, World.cell?_alloc_some], by simp [*, go_sem, World.cell?_alloc_some], by simp [*, go_sem, World.cell?_alloc_some], by go_grown, by go_size⟩ ?_
    clear c1 c2 hB hN
    rintro wb ⟨c1, c2, c3, c4, hB, hN⟩
    refine wpFrom_start (by kernel_rfl) ?_
    refine wpFrom_seq (k := 0) 25 (Kept wb) (by kernel_rfl) (kept_drew _) ?_
    iterate 25 (first
      | (apply SeqM.take rfl
         · (intro wx hSx; obtain ⟨hcx, hfx, hbx⟩ := hSx; go_simp; (try simp (disch := omega) only [IntWalk.i64_in]); first | with_reducible rfl | exact ⟨rfl, rfl⟩)
         simp only [Act.put, List.setIfInBounds_toArray, List.set_cons_zero, List.set_cons_succ])
      | (apply SeqM.call rfl
         · (intro wx hSx; obtain ⟨hcx, hfx, hbx⟩ := hSx; go_simp; (try simp (disch := omega) only [IntWalk.i64_in]); exact ⟨rfl, rfl⟩)
         · (intro wx hSx; (first
            | (go_at_call 18; refine (max_any _).mono ?_; rintro e w' ⟨rfl, rfl⟩; first | exact ⟨rfl, kept_step hSx hb⟩ | exact ⟨rfl, hSx⟩)
            ))
         simp only [Act.put, List.setIfInBounds_toArray, List.set_cons_zero, List.set_cons_succ])
      | (apply SeqM.skip rfl
         simp only [Act.put, List.setIfInBounds_toArray, List.set_cons_zero, List.set_cons_succ]))
    refine SeqM.done ?_
    rintro wq ⟨hcq, hfq, hbq⟩
    refine wpFrom_end ?_
    have hzq := hbq.size
    replace hB := below_call hB hbq hB.size
    replace c1 := keep_cell hbq c1; replace c2 := keep_cell hbq c2; replace c3 := keep_cell hbq c3; replace c4 := keep_cell hbq c4
    clear hcq hfq
    go_wp2_with (go_at_call 10; (with_reducible refine (alive_any _).mono ?_); rintro e w4 ⟨rfl, hb4⟩; have hz4 := hb4.size; (try simp only [World.size_alloc] at hz4); replace hB := below_call hB hb4 (by go_size); replace c1 := keep_cell hb4 (c1); replace c2 := keep_cell hb4 (c2); replace c3 := keep_cell hb4 (c3); replace c4 := keep_cell hb4 (c4))
    go_ret
    exact ⟨rfl, hB⟩
  · have d2 : n < -o := by omega
    have e1 : decide (0 ≤ n) = false := decide_eq_false d1
    have e2 : decide (n < 0) = true := decide_eq_true (by omega)
    have e3 : decide (-o ≤ n) = false := decide_eq_false (by omega)
    clear hn
    go_enter Try.func6, Try.ntmps6
    go_upto_region 1 with (fail)
    refine wp_world _ (fun W => W.cell? ⟨w.heap.size, 0, none⟩ = some (.int .i64 o) ∧ W.cell? ⟨w.heap.size, 1, none⟩ = some (.int .i64 l) ∧ Below w.heap.size w W ∧ w.heap.size + 1 ≤ W.heap.size)
      ⟨by simp [*, go_sem, World.cell?_alloc_some], by simp [*, go_sem, World.cell?_alloc_some], by go_grown, by go_size⟩ ?_
    rintro w0 ⟨c1, c2, hB, hN⟩
    go_upto_region 3 with (go_at_call 9; (with_reducible refine (refvalid_any _ _ _ (by first | assumption | omega)).mono ?_); rintro e w1 ⟨rfl, hb1⟩; have hz1 := hb1.size; (try simp only [World.size_alloc] at hz1); replace hB := below_call hB hb1 (by go_size); replace c1 := keep_cell hb1 (c1); replace c2 := keep_cell hb1 (c2))
    go_upto_region 4 with (go_at_call 17; (with_reducible refine (C1.out _).mono ?_); rintro e w2 ⟨rfl, hb2⟩; have hz2 := hb2.size; (try simp only [World.size_alloc] at hz2); replace hB := below_call hB hb2 (by go_size); replace c1 := keep_cell hb2 (c1); replace c2 := keep_cell hb2 (c2))
    refine wp_world _ (fun W => W.cell? ⟨w.heap.size, 0, none⟩ = some (.int .i64 o) ∧ W.cell? ⟨w.heap.size, 1, none⟩ = some (.int .i64 l) ∧ W.cell? ⟨w2.heap.size, 0, none⟩ = some (.int .i64 0) ∧ W.cell? ⟨w2.heap.size, 1, none⟩ = some (.int .i64 0) ∧ Below w.heap.size w W ∧ w.heap.size + 1 ≤ W.heap.size)
      ⟨by simp [*, go_sem, World.cell?_alloc_some], by simp [*, go_sem, World.cell?_alloc_some], by simp [*, go_sem, World.cell?_alloc_some], by simp [*, go_sem, World.cell?_alloc_some], by go_grown, by go_size⟩ ?_
    clear c1 c2 hB hN
    rintro wb ⟨c1, c2, c3, c4, hB, hN⟩
    refine wpFrom_start (by kernel_rfl) ?_
    refine wpFrom_seq (k := 0) 25 (Kept wb) (by kernel_rfl) (kept_drew _) ?_
    iterate 25 (first
      | (apply SeqM.take rfl
         · (intro wx hSx; obtain ⟨hcx, hfx, hbx⟩ := hSx; go_simp; (try simp (disch := omega) only [IntWalk.i64_in]); first | with_reducible rfl | exact ⟨rfl, rfl⟩)
         simp only [Act.put, List.setIfInBounds_toArray, List.set_cons_zero, List.set_cons_succ])
      | (apply SeqM.call rfl
         · (intro wx hSx; obtain ⟨hcx, hfx, hbx⟩ := hSx; go_simp; (try simp (disch := omega) only [IntWalk.i64_in]); exact ⟨rfl, rfl⟩)
         · (intro wx hSx; (first
            | (go_at_call 18; refine (max_any _).mono ?_; rintro e w' ⟨rfl, rfl⟩; first | exact ⟨rfl, kept_step hSx hb⟩ | exact ⟨rfl, hSx⟩)
            ))
         simp only [Act.put, List.setIfInBounds_toArray, List.set_cons_zero, List.set_cons_succ])
      | (apply SeqM.skip rfl
         simp only [Act.put, List.setIfInBounds_toArray, List.set_cons_zero, List.set_cons_succ]))
    refine SeqM.done ?_
    rintro wq ⟨hcq, hfq, hbq⟩
    refine wpFrom_end ?_
    have hzq := hbq.size
    replace hB := below_call hB hbq hB.size
    replace c1 := keep_cell hbq c1; replace c2 := keep_cell hbq c2; replace c3 := keep_cell hbq c3; replace c4 := keep_cell hbq c4
    clear hcq hfq
    go_wp2_with (go_at_call 10; (with_reducible refine (alive_any _).mono ?_); rintro e w4 ⟨rfl, hb4⟩; have hz4 := hb4.size; (try simp only [World.size_alloc] at hz4); replace hB := below_call hB hb4 (by go_size); replace c1 := keep_cell hb4 (c1); replace c2 := keep_cell hb4 (c2); replace c3 := keep_cell hb4 (c3); replace c4 := keep_cell hb4 (c4))
    go_ret
    exact ⟨rfl, hB⟩

set_option maxHeartbeats 1000000 in
theorem extentShifts_move (o l n : Int) (w : World) (hn1 : -9223372036854775808 ≤ n) (hn2 : n ≤ 9223372036854775807) (hv1 : validB o l = true) (ht : shiftB o l n = true) :
    Calls Try.prog 6 #[.agg #[.int .i64 o, .int .i64 l], .int .i64 n] w fun e w' => e = .returned (.bool true) ∧ Below w.heap.size w w' := by
  have ⟨o0, o1, o2⟩ := validB_iff.1 hv1
  have C1 := Lib.hid (fun W => shift_yes o l n W o0 o1 o2 hn1 hn2 ht)
  have ⟨t1, t2⟩ : -o ≤ n ∧ n ≤ 4611686018427387903 - (o + l) := by unfold shiftB at ht; exact of_decide_eq_true ht
  clear ht
  by_cases d1 : 0 ≤ n
  · have e1 : decide (0 ≤ n) = true := decide_eq_true d1
    have e2 : decide (n ≤ 4611686018427387903 - o - l) = true := decide_eq_true (by omega)
    have C2x := fun W => shift_yes (o + n) l (-n) W (by omega) o1 (by omega) (by omega) (by omega) (by unfold shiftB; exact decide_eq_true (by omega))
    rw [show o + n + -n = o by omega] at C2x
    have C2 := Lib.hid C2x
    clear C2x
    go_enter Try.func6, Try.ntmps6
    go_upto_region 1 with (fail)
    refine wp_world _ (fun W => W.cell? ⟨w.heap.size, 0, none⟩ = some (.int .i64 o) ∧ W.cell? ⟨w.heap.size, 1, none⟩ = some (.int .i64 l) ∧ Below w.heap.size w W ∧ w.heap.size + 1 ≤ W.heap.size)
      ⟨by simp [*, go_sem, World.cell?_alloc_some], by simp [*, go_sem, World.cell?_alloc_some], by go_grown, by go_size⟩ ?_
    rintro w0 ⟨c1, c2, hB, hN⟩
    go_upto_region 3 with (go_at_call 9; (with_reducible refine (refvalid_any _ _ _ (by first | assumption | omega)).mono ?_); rintro e w1 ⟨rfl, hb1⟩; have hz1 := hb1.size; (try simp only [World.size_alloc] at hz1); replace hB := below_call hB hb1 (by go_size); replace c1 := keep_cell hb1 (c1); replace c2 := keep_cell hb1 (c2))
    go_upto_region 4 with (go_at_call 17; (with_reducible refine (C1.out _).mono ?_); rintro e w2 ⟨rfl, hb2⟩; have hz2 := hb2.size; (try simp only [World.size_alloc] at hz2); replace hB := below_call hB hb2 (by go_size); replace c1 := keep_cell hb2 (c1); replace c2 := keep_cell hb2 (c2))
    refine wp_world _ (fun W => W.cell? ⟨w.heap.size, 0, none⟩ = some (.int .i64 o) ∧ W.cell? ⟨w.heap.size, 1, none⟩ = some (.int .i64 l) ∧ W.cell? ⟨w2.heap.size, 0, none⟩ = some (.int .i64 (o + n)) ∧ W.cell? ⟨w2.heap.size, 1, none⟩ = some (.int .i64 l) ∧ Below w.heap.size w W ∧ w.heap.size + 1 ≤ W.heap.size)
      ⟨by simp [*, go_sem, World.cell?_alloc_some], by simp [*, go_sem, World.cell?_alloc_some], by simp [*, go_sem, World.cell?_alloc_some], by simp [*, go_sem, World.cell?_alloc_some], by go_grown, by go_size⟩ ?_
    clear c1 c2 hB hN
    rintro wb ⟨c1, c2, c3, c4, hB, hN⟩
    refine wpFrom_start (by kernel_rfl) ?_
    refine wpFrom_seq (k := 0) 25 (Kept wb) (by kernel_rfl) (kept_drew _) ?_
    iterate 25 (first
      | (apply SeqM.take rfl
         · (intro wx hSx; obtain ⟨hcx, hfx, hbx⟩ := hSx; go_simp; (try simp (disch := omega) only [IntWalk.i64_in]); first | with_reducible rfl | exact ⟨rfl, rfl⟩)
         simp only [Act.put, List.setIfInBounds_toArray, List.set_cons_zero, List.set_cons_succ])
      | (apply SeqM.call rfl
         · (intro wx hSx; obtain ⟨hcx, hfx, hbx⟩ := hSx; go_simp; (try simp (disch := omega) only [IntWalk.i64_in]); exact ⟨rfl, rfl⟩)
         · (intro wx hSx; (first
            | (go_at_call 18; refine (max_any _).mono ?_; rintro e w' ⟨rfl, rfl⟩; first | exact ⟨rfl, kept_step hSx hb⟩ | exact ⟨rfl, hSx⟩)
            ))
         simp only [Act.put, List.setIfInBounds_toArray, List.set_cons_zero, List.set_cons_succ])
      | (apply SeqM.skip rfl
         simp only [Act.put, List.setIfInBounds_toArray, List.set_cons_zero, List.set_cons_succ]))
    refine SeqM.done ?_
    rintro wq ⟨hcq, hfq, hbq⟩
    refine wpFrom_end ?_
    have hzq := hbq.size
    replace hB := below_call hB hbq hB.size
    replace c1 := keep_cell hbq c1; replace c2 := keep_cell hbq c2; replace c3 := keep_cell hbq c3; replace c4 := keep_cell hbq c4
    clear hcq hfq
    go_upto_region 10 with (go_at_call 17; (with_reducible refine (C2.out _).mono ?_); rintro e w5 ⟨rfl, hb5⟩; have hz5 := hb5.size; (try simp only [World.size_alloc] at hz5); replace hB := below_call hB hb5 (by go_size); replace c1 := keep_cell hb5 (c1); replace c2 := keep_cell hb5 (c2); replace c3 := keep_cell hb5 (c3); replace c4 := keep_cell hb5 (c4))
    refine wp_world _ (fun W => W.cell? ⟨w.heap.size, 0, none⟩ = some (.int .i64 o) ∧ W.cell? ⟨w.heap.size, 1, none⟩ = some (.int .i64 l) ∧ W.cell? ⟨w2.heap.size, 0, none⟩ = some (.int .i64 (o + n)) ∧ W.cell? ⟨w2.heap.size, 1, none⟩ = some (.int .i64 l) ∧ W.cell? ⟨w5.heap.size, 0, none⟩ = some (.int .i64 o) ∧ W.cell? ⟨w5.heap.size, 1, none⟩ = some (.int .i64 l) ∧ Below w.heap.size w W ∧ w.heap.size + 1 ≤ W.heap.size)
      ⟨by simp [*, go_sem, World.cell?_alloc_some], by simp [*, go_sem, World.cell?_alloc_some], by simp [*, go_sem, World.cell?_alloc_some], by simp [*, go_sem, World.cell?_alloc_some], by simp [*, go_sem, World.cell?_alloc_some], by simp [*, go_sem, World.cell?_alloc_some], by go_grown, by go_size⟩ ?_
    clear c1 c2 c3 c4 hB hN
    rintro wc ⟨c1, c2, c3, c4, c5, c6, hB, hN⟩
    go_wp2_with (go_at_call 10; (with_reducible refine (alive_any _).mono ?_); rintro e w6 ⟨rfl, hb6⟩; have hz6 := hb6.size; (try simp only [World.size_alloc] at hz6); replace hB := below_call hB hb6 (by go_size); replace c1 := keep_cell hb6 (c1); replace c2 := keep_cell hb6 (c2); replace c3 := keep_cell hb6 (c3); replace c4 := keep_cell hb6 (c4); replace c5 := keep_cell hb6 (c5); replace c6 := keep_cell hb6 (c6))
    go_ret
    exact ⟨rfl, hB⟩
  · have e1 : decide (0 ≤ n) = false := decide_eq_false d1
    have e2 : decide (n < 0) = true := decide_eq_true (by omega)
    have e3 : decide (-o ≤ n) = true := decide_eq_true (by omega)
    have C2x := fun W => shift_yes (o + n) l (-n) W (by omega) o1 (by omega) (by omega) (by omega) (by unfold shiftB; exact decide_eq_true (by omega))
    rw [show o + n + -n = o by omega] at C2x
    have C2 := Lib.hid C2x
    clear C2x
    go_enter Try.func6, Try.ntmps6
    go_upto_region 1 with (fail)
    refine wp_world _ (fun W => W.cell? ⟨w.heap.size, 0, none⟩ = some (.int .i64 o) ∧ W.cell? ⟨w.heap.size, 1, none⟩ = some (.int .i64 l) ∧ Below w.heap.size w W ∧ w.heap.size + 1 ≤ W.heap.size)
      ⟨by simp [*, go_sem, World.cell?_alloc_some], by simp [*, go_sem, World.cell?_alloc_some], by go_grown, by go_size⟩ ?_
    rintro w0 ⟨c1, c2, hB, hN⟩
    go_upto_region 3 with (go_at_call 9; (with_reducible refine (refvalid_any _ _ _ (by first | assumption | omega)).mono ?_); rintro e w1 ⟨rfl, hb1⟩; have hz1 := hb1.size; (try simp only [World.size_alloc] at hz1); replace hB := below_call hB hb1 (by go_size); replace c1 := keep_cell hb1 (c1); replace c2 := keep_cell hb1 (c2))
    go_upto_region 4 with (go_at_call 17; (with_reducible refine (C1.out _).mono ?_); rintro e w2 ⟨rfl, hb2⟩; have hz2 := hb2.size; (try simp only [World.size_alloc] at hz2); replace hB := below_call hB hb2 (by go_size); replace c1 := keep_cell hb2 (c1); replace c2 := keep_cell hb2 (c2))
    refine wp_world _ (fun W => W.cell? ⟨w.heap.size, 0, none⟩ = some (.int .i64 o) ∧ W.cell? ⟨w.heap.size, 1, none⟩ = some (.int .i64 l) ∧ W.cell? ⟨w2.heap.size, 0, none⟩ = some (.int .i64 (o + n)) ∧ W.cell? ⟨w2.heap.size, 1, none⟩ = some (.int .i64 l) ∧ Below w.heap.size w W ∧ w.heap.size + 1 ≤ W.heap.size)
      ⟨by simp [*, go_sem, World.cell?_alloc_some], by simp [*, go_sem, World.cell?_alloc_some], by simp [*, go_sem, World.cell?_alloc_some], by simp [*, go_sem, World.cell?_alloc_some], by go_grown, by go_size⟩ ?_
    clear c1 c2 hB hN
    rintro wb ⟨c1, c2, c3, c4, hB, hN⟩
    refine wpFrom_start (by kernel_rfl) ?_
    refine wpFrom_seq (k := 0) 25 (Kept wb) (by kernel_rfl) (kept_drew _) ?_
    iterate 25 (first
      | (apply SeqM.take rfl
         · (intro wx hSx; obtain ⟨hcx, hfx, hbx⟩ := hSx; go_simp; (try simp (disch := omega) only [IntWalk.i64_in]); first | with_reducible rfl | exact ⟨rfl, rfl⟩)
         simp only [Act.put, List.setIfInBounds_toArray, List.set_cons_zero, List.set_cons_succ])
      | (apply SeqM.call rfl
         · (intro wx hSx; obtain ⟨hcx, hfx, hbx⟩ := hSx; go_simp; (try simp (disch := omega) only [IntWalk.i64_in]); exact ⟨rfl, rfl⟩)
         · (intro wx hSx; (first
            | (go_at_call 18; refine (max_any _).mono ?_; rintro e w' ⟨rfl, rfl⟩; first | exact ⟨rfl, kept_step hSx hb⟩ | exact ⟨rfl, hSx⟩)
            ))
         simp only [Act.put, List.setIfInBounds_toArray, List.set_cons_zero, List.set_cons_succ])
      | (apply SeqM.skip rfl
         simp only [Act.put, List.setIfInBounds_toArray, List.set_cons_zero, List.set_cons_succ]))
    refine SeqM.done ?_
    rintro wq ⟨hcq, hfq, hbq⟩
    refine wpFrom_end ?_
    have hzq := hbq.size
    replace hB := below_call hB hbq hB.size
    replace c1 := keep_cell hbq c1; replace c2 := keep_cell hbq c2; replace c3 := keep_cell hbq c3; replace c4 := keep_cell hbq c4
    clear hcq hfq
    go_upto_region 10 with (go_at_call 17; (with_reducible refine (C2.out _).mono ?_); rintro e w5 ⟨rfl, hb5⟩; have hz5 := hb5.size; (try simp only [World.size_alloc] at hz5); replace hB := below_call hB hb5 (by go_size); replace c1 := keep_cell hb5 (c1); replace c2 := keep_cell hb5 (c2); replace c3 := keep_cell hb5 (c3); replace c4 := keep_cell hb5 (c4))
    refine wp_world _ (fun W => W.cell? ⟨w.heap.size, 0, none⟩ = some (.int .i64 o) ∧ W.cell? ⟨w.heap.size, 1, none⟩ = some (.int .i64 l) ∧ W.cell? ⟨w2.heap.size, 0, none⟩ = some (.int .i64 (o + n)) ∧ W.cell? ⟨w2.heap.size, 1, none⟩ = some (.int .i64 l) ∧ W.cell? ⟨w5.heap.size, 0, none⟩ = some (.int .i64 o) ∧ W.cell? ⟨w5.heap.size, 1, none⟩ = some (.int .i64 l) ∧ Below w.heap.size w W ∧ w.heap.size + 1 ≤ W.heap.size)
      ⟨by simp [*, go_sem, World.cell?_alloc_some], by simp [*, go_sem, World.cell?_alloc_some], by simp [*, go_sem, World.cell?_alloc_some], by simp [*, go_sem, World.cell?_alloc_some], by simp [*, go_sem, World.cell?_alloc_some], by simp [*, go_sem, World.cell?_alloc_some], by go_grown, by go_size⟩ ?_
    clear c1 c2 c3 c4 hB hN
    rintro wc ⟨c1, c2, c3, c4, c5, c6, hB, hN⟩
    go_wp2_with (go_at_call 10; (with_reducible refine (alive_any _).mono ?_); rintro e w6 ⟨rfl, hb6⟩; have hz6 := hb6.size; (try simp only [World.size_alloc] at hz6); replace hB := below_call hB hb6 (by go_size); replace c1 := keep_cell hb6 (c1); replace c2 := keep_cell hb6 (c2); replace c3 := keep_cell hb6 (c3); replace c4 := keep_cell hb6 (c4); replace c5 := keep_cell hb6 (c5); replace c6 := keep_cell hb6 (c6))
    go_ret
    exact ⟨rfl, hB⟩

theorem extentShifts_walk (o l n : Int) (w : World) (_ : -9223372036854775808 ≤ o ∧ o ≤ 9223372036854775807) (hl : -9223372036854775808 ≤ l ∧ l ≤ 9223372036854775807) (hn : -9223372036854775808 ≤ n ∧ n ≤ 9223372036854775807) :
    Calls Try.prog 6 #[.agg #[.int .i64 o, .int .i64 l], .int .i64 n] w fun e w' => e = .returned (.bool true) ∧ Below w.heap.size w w' := by
  by_cases h : validB o l = true
  · by_cases ht : shiftB o l n = true
    · exact extentShifts_move o l n w hn.1 hn.2 h ht
    · exact extentShifts_stay o l n w hn.1 hn.2 h (by simpa using ht)
  · exact extentShifts_no o l n w hl.2 (by simpa using h)

theorem extentShifts_params : Try.f6.params = #[23, 3] := by kernel_rfl
set_option maxRecDepth 100000 in
theorem extentShifts_lifted (os : Os) (started : os.Started) (H : Type) (enc : TypeId × Value → H) :
    ReturnsInHanded {} Try.checked os 6 .any (Rows.extentShiftsSpec.pre6 enc Try.prog Try.f6 Rows.extentShiftsRow.domain false) (Rows.extentShiftsSpec.post enc Try.prog Try.f6 false true false false) := by
  refine returnsInHanded_of_change (C := Try.checked) own_knob started (by kernel_rfl) Try.func6
    (ChangeSpec.witness6 (enc := enc) (C := Try.checked) false ⟨#[], #[.agg #[.int .i64 0, .int .i64 0], .int .i64 0], []⟩ 8 (by kernel_rfl) (by kernel_rfl) (by kernel_rfl) (by kernel_rfl)) ?_
  intro W base args ds gs before hval0 hW hcnd _
  have hval : ∀ (j : Nat) t v, Try.f6.params[j]? = some t → args[j]? = some v → Value.okWide Try.prog W .any base t v := hval0
  have hW' := hW
  obtain ⟨p, q, hA0, hV, rfl, hfz, hnd⟩ := hW
  have hA : DataW.TrodAll enc Try.prog W 0 (fun _ => true) true Try.f6.params.toList args.toList ds p := hA0
  rw [extentShifts_params] at hA hval
  obtain ⟨v0, vs0, d0, ds0, p0, q0, hargs, rfl, rfl, h0, r0⟩ := trodAll_cons hA
  obtain ⟨v1, vs1, d1, ds1, p1, q1, rfl, rfl, rfl, h1, r1⟩ := trodAll_cons r0
  obtain ⟨rfl, rfl, rfl⟩ := trodAll_nil r1
  obtain rfl : args = #[v0, v1] := by cases args; simp_all
  obtain ⟨rfl, rfl⟩ := trodVars_none hV
  have k0 := h0
  have lt0 : ∀ x ∈ p0, x.block < W.heap.size := by obtain ⟨m, hm⟩ := k0; exact DataW.trod_lt m _ _ _ hm
  have k1 := h1
  have lt1 : ∀ x ∈ p1, x.block < W.heap.size := by obtain ⟨m, hm⟩ := k1; exact DataW.trod_lt m _ _ _ hm
  obtain ⟨eo, el, hv0, bo0, bl0⟩ := open_ext (hval 0 23 v0 rfl rfl) h0
  subst hv0
  obtain ⟨n, hv1, hd1, hp1, wf1⟩ := open_int Try.underlying3 (hval 1 3 v1 rfl rfl) h1
  have bd1 := bounds_i64 wf1
  subst hv1
  clear hA0 hval0
  refine (extentShifts_walk eo el n W bo0 bl0 bd1).mono fun e W' ⟨he, bel⟩ => ?_
  subst he
  exact ⟨_, rfl, _, _, _, [], _, [], hW', trodAll_mk1 (shut_bool Try.underlying4 _), (trodAll_cons_mk (Below.trod laid_out (by kernel_rfl) (of_decide_eq_true (by kernel_rfl)) k0 bel lt0) (trodAll_cons_mk (Below.trod laid_out (by kernel_rfl) (of_decide_eq_true (by kernel_rfl)) k1 bel lt1) trodAll_mk0)), rfl, bel.frame _, fun h => by cases h⟩

/-- The statement. -/
theorem extentShifts_holds : Rows.ExtentShiftsSaid :=
  OpenClaim.holds_of_wide 6 Try.f6 rfl rfl rfl rfl rfl rfl rfl ⟨rfl, rfl, rfl, rfl, rfl⟩ rfl rfl rfl rfl rfl (by kernel_rfl) Try.func6 (by kernel_rfl)
    (of_decide_eq_true (by kernel_rfl)) (by unfold Func.isWrapper; first | (rw [if_pos (by decide +kernel)]; kernel_rfl) | (rw [if_neg (by decide +kernel)]; exact ⟨rfl, rfl⟩))
    (fun os started H enc _ => extentShifts_lifted os started H enc)

end Go.Proofs.Ytfdhghidjkbojaa
