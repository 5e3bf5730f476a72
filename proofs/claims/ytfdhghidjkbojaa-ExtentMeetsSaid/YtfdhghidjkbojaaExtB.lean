/-
  Contracts of Overlap, Join, Shift.
-/
import Derived.Test.YtfdhghidjkbojaaExtA
namespace Go.Proofs.Ytfdhghidjkbojaa
set_option linter.unusedVariables false
set_option linter.unusedSimpArgs false
open Go.RowKit
attribute [local go_sem] World.cell?_alloc_some frozen_alloc_some
/-- Two extents and a result, each in a block of its own. -/
abbrev TwoExt (w : World) (o l p m : Int) (w1 : World) : Prop := w1.cell? ⟨w.heap.size, 0, none⟩ = some (.int .i64 o) ∧ w1.cell? ⟨w.heap.size, 1, none⟩ = some (.int .i64 l) ∧ w1.cell? ⟨w.heap.size + 1, 0, none⟩ = some (.int .i64 p) ∧ w1.cell? ⟨w.heap.size + 1, 1, none⟩ = some (.int .i64 m)
    ∧ w1.cell? ⟨w.heap.size + 1 + 1, 0, none⟩ = some (.int .i64 0) ∧ w1.cell? ⟨w.heap.size + 1 + 1, 1, none⟩ = some (.int .i64 0) ∧ w1.frozen? ⟨w.heap.size + 1 + 1, 0, none⟩ = false ∧ w1.frozen? ⟨w.heap.size + 1 + 1, 1, none⟩ = false ∧ Below w.heap.size w w1 ∧ w.heap.size + 3 ≤ w1.heap.size

set_option maxHeartbeats 1000000 in
theorem overlap_any (o l p m : Int) (w : World) (h0 : 0 ≤ o) (h1 : 0 ≤ l) (h2 : o + l ≤ 4611686018427387903) (h3 : 0 ≤ p) (h4 : 0 ≤ m) (h5 : p + m ≤ 4611686018427387903) :
    Calls Try.prog 13 #[.agg #[.int .i64 o, .int .i64 l], .agg #[.int .i64 p, .int .i64 m]] w fun e w' => e = .returned (.tuple #[ext (overE o l p m).1 (overE o l p m).2, .bool (decide (0 < (overE o l p m).2))]) ∧ Below w.heap.size w w' := by
  have hm1 : (if o < p then p else o) = maxI o p := rfl
  have hm2 : (if p + m < o + l then p + m else o + l) = minI (o + l) (p + m) := rfl
  have ⟨x1, x2, x3⟩ := maxI_bd o p
  have ⟨y1, y2, y3⟩ := minI_bd (o + l) (p + m)
  go_enter Try.func13, Try.ntmps13
  go_wp2
  refine wp_world _ (TwoExt w o l p m)
    ⟨by simp [go_sem], by simp [go_sem], by simp [go_sem], by simp [go_sem], by simp [go_sem], by simp [go_sem], by simp [go_sem], by simp [go_sem], by go_grown, by simp⟩ ?_
  rintro w1 ⟨c1, c2, c3, c4, c5, c6, c7, c8, hb1, hN⟩
  refine wpFrom_start (by kernel_rfl) ?_
  refine wpFrom_seq (k := 0) 12 (Kept w1) (by kernel_rfl) (kept_drew _) ?_
  iterate 12 (first
    | (apply SeqM.take rfl
       · (intro wx hSx; obtain ⟨hcx, hfx, hbx⟩ := hSx; go_simp; (try simp (disch := omega) only [IntWalk.i64_in]); first | with_reducible rfl | exact ⟨rfl, rfl⟩)
       simp only [Act.put, List.setIfInBounds_toArray, List.set_cons_zero, List.set_cons_succ])
    | (apply SeqM.call rfl
       · (intro wx hSx; obtain ⟨hcx, hfx, hbx⟩ := hSx; go_simp; (try simp (disch := omega) only [IntWalk.i64_in]); exact ⟨rfl, rfl⟩)
       · (intro wx hSx; (first
          | (go_at_call 12; refine (end_any _ _ _ (by omega) (by omega) (by omega)).mono ?_; rintro e w' ⟨rfl, hb⟩; first | exact ⟨rfl, kept_step hSx hb⟩ | exact ⟨rfl, hSx⟩)
          ))
       simp only [Act.put, List.setIfInBounds_toArray, List.set_cons_zero, List.set_cons_succ])
    | (apply SeqM.skip rfl
       simp only [Act.put, List.setIfInBounds_toArray, List.set_cons_zero, List.set_cons_succ]))
  refine SeqM.done ?_
  rintro w2 ⟨hc2, hf2, hb2⟩
  refine wpFrom_end ?_
  have hN2 := hb2.size
  by_cases c : minI (o + l) (p + m) ≤ maxI o p
  · have HE := Lib.hid (overE_no c)
    go_wp2
    refine bodyPost_ret (v := .tuple #[ext 0 0, .bool false]) (by simp [results, Try.results13, go_sem, hc2, c5, c6]) rfl ⟨by rw [HE.out]; rfl, ?_⟩
    exact ((hb1.trans (hb2.mono (by omega))).setCell (by simp; omega) _).setCell (by simp; omega) _
  · have HE := Lib.hid (overE_yes (Int.not_le.mp c))
    go_wp2_with (go_at_call 26; refine (between_any _ _ _ (by omega) (by omega) (by omega)).mono ?_; rintro e w' ⟨rfl, hb⟩; obtain ⟨hc3, hf3, hb3⟩ := kept_step ⟨hc2, hf2, hb2⟩ hb; clear hc2 hf2)
    refine bodyPost_ret (v := .tuple #[ext (maxI o p) (minI (o + l) (p + m) - maxI o p), .bool true]) (by simp [results, Try.results13, go_sem, hc3, c5, c6]) rfl ⟨by rw [HE.out]; simp; omega, ?_⟩
    exact ((hb1.trans (hb3.mono (by omega))).setCell (by simp; omega) _).setCell (by simp; omega) _

def joinE (o l p m : Int) : Int × Int := (minI o p, maxI (o + l) (p + m) - minI o p)
def touchB (o l p m : Int) : Bool := decide (o ≤ p + m ∧ p ≤ o + l)
theorem touch_yes {o l p m : Int} (h : o ≤ p + m) (h2 : p ≤ o + l) : touchB o l p m = true := by unfold touchB; exact decide_eq_true (by omega)

set_option maxHeartbeats 1000000 in
theorem join_no (o l p m : Int) (w : World) (h0 : 0 ≤ o) (h1 : 0 ≤ l) (h2 : o + l ≤ 4611686018427387903) (h3 : 0 ≤ p) (h4 : 0 ≤ m) (h5 : p + m ≤ 4611686018427387903) (ht : touchB o l p m = false) :
    Calls Try.prog 16 #[.agg #[.int .i64 o, .int .i64 l], .agg #[.int .i64 p, .int .i64 m]] w fun e w' => e = .returned (.tuple #[ext 0 0, .bool false]) ∧ Below w.heap.size w w' := by
  by_cases d : p + m < o
  · have d1 : decide (p + m < o) = true := decide_eq_true d
    clear ht
    go_enter Try.func16, Try.ntmps16
    go_wp2
    refine wp_world _ (TwoExt w o l p m)
      ⟨by simp [go_sem], by simp [go_sem], by simp [go_sem], by simp [go_sem], by simp [go_sem], by simp [go_sem], by simp [go_sem], by simp [go_sem], by go_grown, by simp⟩ ?_
    rintro w1 ⟨c1, c2, c3, c4, c5, c6, c7, c8, hb1, hN⟩
    refine wpFrom_start (by kernel_rfl) ?_
    refine wpFrom_seq (k := 0) 12 (Kept w1) (by kernel_rfl) (kept_drew _) ?_
    iterate 12 (first
      | (apply SeqM.take rfl
         · (intro wx hSx; obtain ⟨hcx, hfx, hbx⟩ := hSx; go_simp; (try simp (disch := omega) only [IntWalk.i64_in]); first | with_reducible rfl | exact ⟨rfl, rfl⟩)
         simp only [Act.put, List.setIfInBounds_toArray, List.set_cons_zero, List.set_cons_succ])
      | (apply SeqM.call rfl
         · (intro wx hSx; obtain ⟨hcx, hfx, hbx⟩ := hSx; go_simp; (try simp (disch := omega) only [IntWalk.i64_in]); exact ⟨rfl, rfl⟩)
         · (intro wx hSx; (first
            | (go_at_call 12; refine (end_any _ _ _ (by omega) (by omega) (by omega)).mono ?_; rintro e w' ⟨rfl, hb⟩; first | exact ⟨rfl, kept_step hSx hb⟩ | exact ⟨rfl, hSx⟩)
            ))
         simp only [Act.put, List.setIfInBounds_toArray, List.set_cons_zero, List.set_cons_succ])
      | (apply SeqM.skip rfl
         simp only [Act.put, List.setIfInBounds_toArray, List.set_cons_zero, List.set_cons_succ]))
    refine SeqM.done ?_
    rintro w2 ⟨hc2, hf2, hb2⟩
    refine wpFrom_end ?_
    have hN2 := hb2.size
    go_wp2
    refine bodyPost_ret (v := .tuple #[ext 0 0, .bool false]) (by simp [results, Try.results16, go_sem, hc2, c5, c6]) rfl ⟨rfl, ?_⟩
    exact ((hb1.trans (hb2.mono (by omega))).setCell (by simp; omega) _).setCell (by simp; omega) _
  · have d1 : decide (p + m < o) = false := decide_eq_false d
    have d2 : decide (o + l < p) = true := by
      by_cases e : o + l < p
      · exact decide_eq_true e
      · rw [touch_yes (by omega) (by omega)] at ht; cases ht
    clear ht
    go_enter Try.func16, Try.ntmps16
    go_wp2
    refine wp_world _ (TwoExt w o l p m)
      ⟨by simp [go_sem], by simp [go_sem], by simp [go_sem], by simp [go_sem], by simp [go_sem], by simp [go_sem], by simp [go_sem], by simp [go_sem], by go_grown, by simp⟩ ?_
    rintro w1 ⟨c1, c2, c3, c4, c5, c6, c7, c8, hb1, hN⟩
    refine wpFrom_start (by kernel_rfl) ?_
    refine wpFrom_seq (k := 0) 12 (Kept w1) (by kernel_rfl) (kept_drew _) ?_
    iterate 12 (first
      | (apply SeqM.take rfl
         · (intro wx hSx; obtain ⟨hcx, hfx, hbx⟩ := hSx; go_simp; (try simp (disch := omega) only [IntWalk.i64_in]); first | with_reducible rfl | exact ⟨rfl, rfl⟩)
         simp only [Act.put, List.setIfInBounds_toArray, List.set_cons_zero, List.set_cons_succ])
      | (apply SeqM.call rfl
         · (intro wx hSx; obtain ⟨hcx, hfx, hbx⟩ := hSx; go_simp; (try simp (disch := omega) only [IntWalk.i64_in]); exact ⟨rfl, rfl⟩)
         · (intro wx hSx; (first
            | (go_at_call 12; refine (end_any _ _ _ (by omega) (by omega) (by omega)).mono ?_; rintro e w' ⟨rfl, hb⟩; first | exact ⟨rfl, kept_step hSx hb⟩ | exact ⟨rfl, hSx⟩)
            ))
         simp only [Act.put, List.setIfInBounds_toArray, List.set_cons_zero, List.set_cons_succ])
      | (apply SeqM.skip rfl
         simp only [Act.put, List.setIfInBounds_toArray, List.set_cons_zero, List.set_cons_succ]))
    refine SeqM.done ?_
    rintro w2 ⟨hc2, hf2, hb2⟩
    refine wpFrom_end ?_
    have hN2 := hb2.size
    go_wp2
    refine bodyPost_ret (v := .tuple #[ext 0 0, .bool false]) (by simp [results, Try.results16, go_sem, hc2, c5, c6]) rfl ⟨rfl, ?_⟩
    exact ((hb1.trans (hb2.mono (by omega))).setCell (by simp; omega) _).setCell (by simp; omega) _

set_option maxHeartbeats 1000000 in
theorem join_yes (o l p m : Int) (w : World) (h0 : 0 ≤ o) (h1 : 0 ≤ l) (h2 : o + l ≤ 4611686018427387903) (h3 : 0 ≤ p) (h4 : 0 ≤ m) (h5 : p + m ≤ 4611686018427387903) (ht : touchB o l p m = true) :
    Calls Try.prog 16 #[.agg #[.int .i64 o, .int .i64 l], .agg #[.int .i64 p, .int .i64 m]] w fun e w' => e = .returned (.tuple #[ext (joinE o l p m).1 (joinE o l p m).2, .bool true]) ∧ Below w.heap.size w w' := by
  have hd : o ≤ p + m ∧ p ≤ o + l := by unfold touchB at ht; exact of_decide_eq_true ht
  clear ht
  have d1 : decide (p + m < o) = false := by simp; omega
  have d2 : decide (o + l < p) = false := by simp; omega
  have hm1 : (if p < o then p else o) = minI o p := rfl
  have hm2 : (if o + l < p + m then p + m else o + l) = maxI (o + l) (p + m) := rfl
  have ⟨x1, x2, x3⟩ := minI_bd o p
  have ⟨y1, y2, y3⟩ := maxI_bd (o + l) (p + m)
  go_enter Try.func16, Try.ntmps16
  go_wp2
  refine wp_world _ (TwoExt w o l p m)
    ⟨by simp [go_sem], by simp [go_sem], by simp [go_sem], by simp [go_sem], by simp [go_sem], by simp [go_sem], by simp [go_sem], by simp [go_sem], by go_grown, by simp⟩ ?_
  rintro w1 ⟨c1, c2, c3, c4, c5, c6, c7, c8, hb1, hN⟩
  refine wpFrom_start (by kernel_rfl) ?_
  refine wpFrom_seq (k := 0) 12 (Kept w1) (by kernel_rfl) (kept_drew _) ?_
  iterate 12 (first
    | (apply SeqM.take rfl
       · (intro wx hSx; obtain ⟨hcx, hfx, hbx⟩ := hSx; go_simp; (try simp (disch := omega) only [IntWalk.i64_in]); first | with_reducible rfl | exact ⟨rfl, rfl⟩)
       simp only [Act.put, List.setIfInBounds_toArray, List.set_cons_zero, List.set_cons_succ])
    | (apply SeqM.call rfl
       · (intro wx hSx; obtain ⟨hcx, hfx, hbx⟩ := hSx; go_simp; (try simp (disch := omega) only [IntWalk.i64_in]); exact ⟨rfl, rfl⟩)
       · (intro wx hSx; (first
          | (go_at_call 12; refine (end_any _ _ _ (by omega) (by omega) (by omega)).mono ?_; rintro e w' ⟨rfl, hb⟩; first | exact ⟨rfl, kept_step hSx hb⟩ | exact ⟨rfl, hSx⟩)
          ))
       simp only [Act.put, List.setIfInBounds_toArray, List.set_cons_zero, List.set_cons_succ])
    | (apply SeqM.skip rfl
       simp only [Act.put, List.setIfInBounds_toArray, List.set_cons_zero, List.set_cons_succ]))
  refine SeqM.done ?_
  rintro w2 ⟨hc2, hf2, hb2⟩
  refine wpFrom_end ?_
  have hN2 := hb2.size
  have hN3 : w.heap.size + 3 ≤ w2.heap.size := by omega
  go_wp2
  refine wp_world _ (TwoExt w o l p m) ⟨by simp [hc2, c1], by simp [hc2, c2], by simp [hc2, c3], by simp [hc2, c4], by simp [hc2, c5], by simp [hc2, c6], by simp [hf2, c5, c7], by simp [hf2, c6, c8], hb1.trans (hb2.mono (by omega)), by omega⟩ ?_
  clear c1 c2 c3 c4 c5 c6 c7 c8 hb1 hN hc2 hf2 hb2 hN2 hN3
  rintro w3 ⟨c1, c2, c3, c4, c5, c6, c7, c8, hb1, hN⟩
  refine wpFrom_start (by kernel_rfl) ?_
  refine wpFrom_seq (k := 0) 11 (Kept w3) (by kernel_rfl) (kept_drew _) ?_
  iterate 11 (first
    | (apply SeqM.take rfl
       · (intro wx hSx; obtain ⟨hcx, hfx, hbx⟩ := hSx; go_simp; (try simp (disch := omega) only [IntWalk.i64_in]); first | with_reducible rfl | exact ⟨rfl, rfl⟩)
       simp only [Act.put, List.setIfInBounds_toArray, List.set_cons_zero, List.set_cons_succ])
    | (apply SeqM.call rfl
       · (intro wx hSx; obtain ⟨hcx, hfx, hbx⟩ := hSx; go_simp; (try simp (disch := omega) only [IntWalk.i64_in]); exact ⟨rfl, rfl⟩)
       · (intro wx hSx; (first
          | (go_at_call 12; refine (end_any _ _ _ (by omega) (by omega) (by omega)).mono ?_; rintro e w' ⟨rfl, hb⟩; first | exact ⟨rfl, kept_step hSx hb⟩ | exact ⟨rfl, hSx⟩)
          | (go_at_call 26; refine (between_any _ _ _ (by omega) (by omega) (by omega)).mono ?_; rintro e w' ⟨rfl, hb⟩; first | exact ⟨rfl, kept_step hSx hb⟩ | exact ⟨rfl, hSx⟩)
          ))
       simp only [Act.put, List.setIfInBounds_toArray, List.set_cons_zero, List.set_cons_succ])
    | (apply SeqM.skip rfl
       simp only [Act.put, List.setIfInBounds_toArray, List.set_cons_zero, List.set_cons_succ]))
  refine SeqM.done ?_
  rintro w2 ⟨hc2, hf2, hb2⟩
  refine wpFrom_tail (by kernel_rfl) ?_
  simp only [List.drop_succ_cons, List.drop_zero, Nat.zero_add, Nat.reduceAdd]
  have hN2 := hb2.size
  go_wp2
  refine bodyPost_ret (v := .tuple #[ext (minI o p) (maxI (o + l) (p + m) - minI o p), .bool true]) (by simp [results, Try.results16, go_sem, hc2, c5, c6]) rfl ⟨rfl, ?_⟩
  exact ((hb1.trans (hb2.mono (by omega))).setCell (by simp; omega) _).setCell (by simp; omega) _

def shiftB (o l by' : Int) : Bool := decide (-o ≤ by' ∧ by' ≤ 4611686018427387903 - (o + l))

theorem shift_no (o l n : Int) (w : World) (h0 : 0 ≤ o) (h1 : 0 ≤ l) (h2 : o + l ≤ 4611686018427387903) (hn1 : -9223372036854775808 ≤ n) (hn2 : n ≤ 9223372036854775807) (hs : shiftB o l n = false) :
    Calls Try.prog 17 #[.agg #[.int .i64 o, .int .i64 l], .int .i64 n] w fun e w' => e = .returned (.tuple #[ext 0 0, .bool false]) ∧ Below w.heap.size w w' := by
  have hs' : ¬ (-o ≤ n ∧ n ≤ 4611686018427387903 - (o + l)) := by unfold shiftB at hs; exact of_decide_eq_false hs
  clear hs
  by_cases d : n < -o
  · clear hs'
    go_enter Try.func17, Try.ntmps17
    go_wp2
    refine bodyPost_ret (v := .tuple #[ext 0 0, .bool false]) (by simp [results, Try.results17, go_sem]) rfl ⟨rfl, ?_⟩
    go_grown
  · have d2 : 4611686018427387903 - (o + l) < n := by omega
    clear hs'
    go_enter Try.func17, Try.ntmps17
    go_wp2_with (go_at_call 12; refine (end_any _ _ _ (by omega) (by omega) (by omega)).mono ?_; rintro e w' ⟨rfl, hb⟩; obtain ⟨hc3, hf3, hb3⟩ := kept_of hb)
    refine bodyPost_ret (v := .tuple #[ext 0 0, .bool false]) (by simp [results, Try.results17, go_sem, hc3]) rfl ⟨rfl, ?_⟩
    exact ((((Below.refl _ _).alloc (Nat.le_refl _) _).alloc (by simp) _).trans (hb3.mono (by simp only [World.size_alloc]; omega))).setCell (by simp) _ |>.setCell (by simp) _

theorem shift_yes (o l n : Int) (w : World) (h0 : 0 ≤ o) (h1 : 0 ≤ l) (h2 : o + l ≤ 4611686018427387903) (hn1 : -9223372036854775808 ≤ n) (hn2 : n ≤ 9223372036854775807) (hs : shiftB o l n = true) :
    Calls Try.prog 17 #[.agg #[.int .i64 o, .int .i64 l], .int .i64 n] w fun e w' => e = .returned (.tuple #[ext (o + n) l, .bool true]) ∧ Below w.heap.size w w' := by
  have hs' : -o ≤ n ∧ n ≤ 4611686018427387903 - (o + l) := by unfold shiftB at hs; exact of_decide_eq_true hs
  clear hs
  go_enter Try.func17, Try.ntmps17
  go_wp2_with (go_at_call 12; refine (end_any _ _ _ (by omega) (by omega) (by omega)).mono ?_; rintro e w' ⟨rfl, hb⟩; obtain ⟨hc3, hf3, hb3⟩ := kept_of hb)
  refine bodyPost_ret (v := .tuple #[ext (o + n) l, .bool true]) (by simp [results, Try.results17, go_sem, hc3]) rfl ⟨rfl, ?_⟩
  exact ((((Below.refl _ _).alloc (Nat.le_refl _) _).alloc (by simp) _).trans (hb3.mono (by simp only [World.size_alloc]; omega))).setCell (by simp) _ |>.setCell (by simp) _

end Go.Proofs.Ytfdhghidjkbojaa
