/-
  ExtentJoins: for every two extents, the law returns true and leaves its arguments as they were. No condition.
-/
import Derived.Test.YtfdhghidjkbojaaFrame
namespace Go.Proofs.Ytfdhghidjkbojaa
set_option linter.unusedVariables false
set_option linter.unusedSimpArgs false
open Go.RowKit Go.ChangeShapes Go.WideShapes Go.ChangeAt Go.Joins Go.Deep
attribute [local go_sem] World.cell?_alloc_some frozen_alloc_some

set_option maxHeartbeats 1000000 in
theorem extentJoins_no (o l p m : Int) (w : World) (hl : l ≤ 9223372036854775807) (hm : m ≤ 9223372036854775807) (hv : (validB o l && validB p m) = false) :
    Calls Try.prog 5 #[.agg #[.int .i64 o, .int .i64 l], .agg #[.int .i64 p, .int .i64 m]] w fun e w' => e = .returned (.bool true) ∧ Below w.heap.size w w' := by
  obtain ⟨v1, hv1⟩ : ∃ v, validB o l = v := ⟨_, rfl⟩
  obtain ⟨v2, hv2⟩ : ∃ v, validB p m = v := ⟨_, rfl⟩
  have hor : v1 = false ∨ v2 = false := by rw [hv1, hv2] at hv; cases v1 <;> cases v2 <;> simp at hv ⊢
  clear hv
  cases v1 <;> cases v2
  case true.true => simp at hor
  all_goals
    clear hor
    go_enter Try.func5, Try.ntmps5
    go_upto_region 1 with (fail)
    refine wp_world _ (fun W => W.cell? ⟨w.heap.size, 0, none⟩ = some (.int .i64 o) ∧ W.cell? ⟨w.heap.size, 1, none⟩ = some (.int .i64 l) ∧ W.cell? ⟨w.heap.size + 1, 0, none⟩ = some (.int .i64 p) ∧ W.cell? ⟨w.heap.size + 1, 1, none⟩ = some (.int .i64 m) ∧ Below w.heap.size w W ∧ w.heap.size + 2 ≤ W.heap.size)
      ⟨by simp [*, go_sem, World.cell?_alloc_some], by simp [*, go_sem, World.cell?_alloc_some], by simp [*, go_sem, World.cell?_alloc_some], by simp [*, go_sem, World.cell?_alloc_some], by go_grown, by go_size⟩ ?_
    rintro w0 ⟨c1, c2, c3, c4, hB, hN⟩
    go_wp2_with (first
      | (go_at_call 9; (with_reducible refine (refvalid_any _ _ _ (by first | assumption | omega)).mono ?_); rintro e w1 ⟨rfl, hb1⟩; have hz1 := hb1.size; (try simp only [World.size_alloc] at hz1); replace hB := below_call hB hb1 (by go_size); replace c1 := keep_cell hb1 (c1); replace c2 := keep_cell hb1 (c2); replace c3 := keep_cell hb1 (c3); replace c4 := keep_cell hb1 (c4))
      | (go_at_call 10; (with_reducible refine (alive_any _).mono ?_); rintro e w3 ⟨rfl, hb3⟩; have hz3 := hb3.size; (try simp only [World.size_alloc] at hz3); replace hB := below_call hB hb3 (by go_size)))
    go_ret
    exact ⟨rfl, hB⟩

theorem two_new (w : World) (o l p m : Int) : IsExts (w.alloc (.cells #[.int .i64 o, .int .i64 l, .int .i64 p, .int .i64 m] 23)) (some ⟨w.heap.size, 0, none⟩) 2 [(o, l), (p, m)] := by
  refine ⟨rfl, .inr ⟨_, 0, rfl, by simp, fun i hi => ?_⟩⟩
  match i, hi with
  | 0, _ => exact ⟨by simp [go_sem, eo], by simp [go_sem, el]⟩
  | 1, _ => exact ⟨by simp [go_sem, eo], by simp [go_sem, el]⟩

theorem contains_two (x y o l p m : Int) (W : World) (h0 : 0 ≤ x) (h1 : 0 ≤ y) (h2 : x + y ≤ 4611686018427387903) (h3 : 0 ≤ o) (h4 : 0 ≤ l) (h5 : o + l ≤ 4611686018427387903) (h6 : 0 ≤ p) (h7 : 0 ≤ m) (h8 : p + m ≤ 4611686018427387903) (hi : insB x y o l = true) (hj : insB x y p m = true) :
    Calls Try.prog 15 #[.agg #[.int .i64 x, .int .i64 y], .slice (some ⟨W.heap.size, 0, none⟩) 2 2] (W.alloc (.cells #[.int .i64 o, .int .i64 l, .int .i64 p, .int .i64 m] 23)) fun e w' => e = .returned (.bool true) ∧ Below (W.alloc (.cells #[.int .i64 o, .int .i64 l, .int .i64 p, .int .i64 m] 23)).heap.size (W.alloc (.cells #[.int .i64 o, .int .i64 l, .int .i64 p, .int .i64 m] 23)) w' := by
  refine (contains_any x y _ 2 2 [(o, l), (p, m)] _ h0 h1 h2 (two_new W o l p m) (by omega) (fun i hlt => ?_)).mono ?_
  · match i, hlt with
    | 0, _ => exact ⟨h3, h4, h5⟩
    | 1, _ => exact ⟨h6, h7, h8⟩
  · rintro e w' ⟨rfl, hb⟩
    exact ⟨ret_bool (by simp [allB, hi, hj]), hb⟩

set_option maxHeartbeats 1000000 in
theorem extentJoins_apart (o l p m : Int) (w : World) (hv1 : validB o l = true) (hv2 : validB p m = true) (ht : touchB o l p m = false) :
    Calls Try.prog 5 #[.agg #[.int .i64 o, .int .i64 l], .agg #[.int .i64 p, .int .i64 m]] w fun e w' => e = .returned (.bool true) ∧ Below w.heap.size w w' := by
  have ⟨o0, o1, o2⟩ := validB_iff.1 hv1
  have ⟨p0, p1, p2⟩ := validB_iff.1 hv2
  have C1 := Lib.hid (fun W => join_no o l p m W o0 o1 o2 p0 p1 p2 ht)
  have hn : ¬ (o ≤ p + m ∧ p ≤ o + l) := by unfold touchB at ht; exact of_decide_eq_false ht
  clear ht
  by_cases d1 : o ≤ p + m
  all_goals
    try have d2 : ¬ p ≤ o + l := fun h => hn ⟨by assumption, h⟩
    clear hn
    go_enter Try.func5, Try.ntmps5
    go_upto_region 1 with (fail)
    refine wp_world _ (fun W => W.cell? ⟨w.heap.size, 0, none⟩ = some (.int .i64 o) ∧ W.cell? ⟨w.heap.size, 1, none⟩ = some (.int .i64 l) ∧ W.cell? ⟨w.heap.size + 1, 0, none⟩ = some (.int .i64 p) ∧ W.cell? ⟨w.heap.size + 1, 1, none⟩ = some (.int .i64 m) ∧ Below w.heap.size w W ∧ w.heap.size + 2 ≤ W.heap.size)
      ⟨by simp [*, go_sem, World.cell?_alloc_some], by simp [*, go_sem, World.cell?_alloc_some], by simp [*, go_sem, World.cell?_alloc_some], by simp [*, go_sem, World.cell?_alloc_some], by go_grown, by go_size⟩ ?_
    rintro w0 ⟨c1, c2, c3, c4, hB, hN⟩
    go_upto_region 3 with (go_at_call 9; (with_reducible refine (refvalid_any _ _ _ (by first | assumption | omega)).mono ?_); rintro e w1 ⟨rfl, hb1⟩; have hz1 := hb1.size; (try simp only [World.size_alloc] at hz1); replace hB := below_call hB hb1 (by go_size); replace c1 := keep_cell hb1 (c1); replace c2 := keep_cell hb1 (c2); replace c3 := keep_cell hb1 (c3); replace c4 := keep_cell hb1 (c4))
    go_upto_region 4 with (go_at_call 16; (with_reducible refine (C1.out _).mono ?_); rintro e w2 ⟨rfl, hb2⟩; have hz2 := hb2.size; (try simp only [World.size_alloc] at hz2); replace hB := below_call hB hb2 (by go_size); replace c1 := keep_cell hb2 (c1); replace c2 := keep_cell hb2 (c2); replace c3 := keep_cell hb2 (c3); replace c4 := keep_cell hb2 (c4))
    refine wp_world _ (fun W => W.cell? ⟨w.heap.size, 0, none⟩ = some (.int .i64 o) ∧ W.cell? ⟨w.heap.size, 1, none⟩ = some (.int .i64 l) ∧ W.cell? ⟨w.heap.size + 1, 0, none⟩ = some (.int .i64 p) ∧ W.cell? ⟨w.heap.size + 1, 1, none⟩ = some (.int .i64 m) ∧ W.cell? ⟨w2.heap.size, 0, none⟩ = some (.int .i64 0) ∧ W.cell? ⟨w2.heap.size, 1, none⟩ = some (.int .i64 0) ∧ Below w.heap.size w W ∧ w.heap.size + 2 ≤ W.heap.size)
      ⟨by simp [*, go_sem, World.cell?_alloc_some], by simp [*, go_sem, World.cell?_alloc_some], by simp [*, go_sem, World.cell?_alloc_some], by simp [*, go_sem, World.cell?_alloc_some], by simp [*, go_sem, World.cell?_alloc_some], by simp [*, go_sem, World.cell?_alloc_some], by go_grown, by go_size⟩ ?_
    clear c1 c2 c3 c4 hB hN
    rintro wb ⟨c1, c2, c3, c4, c5, c6, hB, hN⟩
    go_wp2_with (go_at_call 10; (with_reducible refine (alive_any _).mono ?_); rintro e w3 ⟨rfl, hb3⟩; have hz3 := hb3.size; (try simp only [World.size_alloc] at hz3); replace hB := below_call hB hb3 (by go_size); replace c1 := keep_cell hb3 (c1); replace c2 := keep_cell hb3 (c2); replace c3 := keep_cell hb3 (c3); replace c4 := keep_cell hb3 (c4); replace c5 := keep_cell hb3 (c5); replace c6 := keep_cell hb3 (c6))
    go_ret
    exact ⟨rfl, hB⟩

set_option maxHeartbeats 1000000 in
theorem extentJoins_touch (o l p m : Int) (w : World) (hv1 : validB o l = true) (hv2 : validB p m = true) (ht : touchB o l p m = true) :
    Calls Try.prog 5 #[.agg #[.int .i64 o, .int .i64 l], .agg #[.int .i64 p, .int .i64 m]] w fun e w' => e = .returned (.bool true) ∧ Below w.heap.size w w' := by
  have ⟨o0, o1, o2⟩ := validB_iff.1 hv1
  have ⟨p0, p1, p2⟩ := validB_iff.1 hv2
  have C1x := fun W => join_yes o l p m W o0 o1 o2 p0 p1 p2 ht
  simp only [joinE] at C1x
  have C1 := Lib.hid C1x
  clear C1x
  have ⟨d1, d2⟩ : o ≤ p + m ∧ p ≤ o + l := by unfold touchB at ht; exact of_decide_eq_true ht
  clear ht
  have hm1 : (if p < o then p else o) = minI o p := rfl
  have hm2 : (if o + l < p + m then p + m else o + l) = maxI (o + l) (p + m) := rfl
  have ⟨x1, x2, x3⟩ := minI_bd o p
  have ⟨y1, y2, y3⟩ := maxI_bd (o + l) (p + m)
  have C2 := Lib.hid (fun W => contains_two (minI o p) (maxI (o + l) (p + m) - minI o p) o l p m W (by omega) (by omega) (by omega) o0 o1 o2 p0 p1 p2 (ins_yes (by omega) (by omega)) (ins_yes (by omega) (by omega)))
  go_enter Try.func5, Try.ntmps5
  go_upto_region 1 with (fail)
  refine wp_world _ (fun W => W.cell? ⟨w.heap.size, 0, none⟩ = some (.int .i64 o) ∧ W.cell? ⟨w.heap.size, 1, none⟩ = some (.int .i64 l) ∧ W.cell? ⟨w.heap.size + 1, 0, none⟩ = some (.int .i64 p) ∧ W.cell? ⟨w.heap.size + 1, 1, none⟩ = some (.int .i64 m) ∧ Below w.heap.size w W ∧ w.heap.size + 2 ≤ W.heap.size)
    ⟨by simp [*, go_sem, World.cell?_alloc_some], by simp [*, go_sem, World.cell?_alloc_some], by simp [*, go_sem, World.cell?_alloc_some], by simp [*, go_sem, World.cell?_alloc_some], by go_grown, by go_size⟩ ?_
  rintro w0 ⟨c1, c2, c3, c4, hB, hN⟩
  go_upto_region 3 with (go_at_call 9; (with_reducible refine (refvalid_any _ _ _ (by first | assumption | omega)).mono ?_); rintro e w1 ⟨rfl, hb1⟩; have hz1 := hb1.size; (try simp only [World.size_alloc] at hz1); replace hB := below_call hB hb1 (by go_size); replace c1 := keep_cell hb1 (c1); replace c2 := keep_cell hb1 (c2); replace c3 := keep_cell hb1 (c3); replace c4 := keep_cell hb1 (c4))
  go_upto_region 4 with (go_at_call 16; (with_reducible refine (C1.out _).mono ?_); rintro e w2 ⟨rfl, hb2⟩; have hz2 := hb2.size; (try simp only [World.size_alloc] at hz2); replace hB := below_call hB hb2 (by go_size); replace c1 := keep_cell hb2 (c1); replace c2 := keep_cell hb2 (c2); replace c3 := keep_cell hb2 (c3); replace c4 := keep_cell hb2 (c4))
  refine wp_world _ (fun W => W.cell? ⟨w.heap.size, 0, none⟩ = some (.int .i64 o) ∧ W.cell? ⟨w.heap.size, 1, none⟩ = some (.int .i64 l) ∧ W.cell? ⟨w.heap.size + 1, 0, none⟩ = some (.int .i64 p) ∧ W.cell? ⟨w.heap.size + 1, 1, none⟩ = some (.int .i64 m) ∧ W.cell? ⟨w2.heap.size, 0, none⟩ = some (.int .i64 (minI o p)) ∧ W.cell? ⟨w2.heap.size, 1, none⟩ = some (.int .i64 (maxI (o + l) (p + m) - minI o p)) ∧ Below w.heap.size w W ∧ w.heap.size + 2 ≤ W.heap.size)
    ⟨by simp [*, go_sem, World.cell?_alloc_some], by simp [*, go_sem, World.cell?_alloc_some], by simp [*, go_sem, World.cell?_alloc_some], by simp [*, go_sem, World.cell?_alloc_some], by simp [*, go_sem, World.cell?_alloc_some], by simp [*, go_sem, World.cell?_alloc_some], by go_grown, by go_size⟩ ?_
  clear c1 c2 c3 c4 hB hN
  rintro wb ⟨c1, c2, c3, c4, c5, c6, hB, hN⟩
  go_wp2_with (first
    | (go_at_call 10; (with_reducible refine (alive_any _).mono ?_); rintro e w3 ⟨rfl, hb3⟩; have hz3 := hb3.size; (try simp only [World.size_alloc] at hz3); replace hB := below_call hB hb3 (by go_size); replace c1 := keep_cell hb3 (c1); replace c2 := keep_cell hb3 (c2); replace c3 := keep_cell hb3 (c3); replace c4 := keep_cell hb3 (c4); replace c5 := keep_cell hb3 (c5); replace c6 := keep_cell hb3 (c6))
    | (go_at_call 15; (with_reducible refine (C2.out _).mono ?_); rintro e w4 ⟨rfl, hb4⟩; have hz4 := hb4.size; (try simp only [World.size_alloc] at hz4); replace hB := below_call (hB.alloc hB.size _) hb4 (by go_size); replace c1 := keep_cell hb4 (alloc_cell (c1)); replace c2 := keep_cell hb4 (alloc_cell (c2)); replace c3 := keep_cell hb4 (alloc_cell (c3)); replace c4 := keep_cell hb4 (alloc_cell (c4)); replace c5 := keep_cell hb4 (alloc_cell (c5)); replace c6 := keep_cell hb4 (alloc_cell (c6))))
  go_ret
  exact ⟨rfl, hB⟩

theorem extentJoins_walk (o l p m : Int) (w : World) (_ : -9223372036854775808 ≤ o ∧ o ≤ 9223372036854775807) (hl : -9223372036854775808 ≤ l ∧ l ≤ 9223372036854775807) (_ : -9223372036854775808 ≤ p ∧ p ≤ 9223372036854775807) (hm : -9223372036854775808 ≤ m ∧ m ≤ 9223372036854775807) :
    Calls Try.prog 5 #[.agg #[.int .i64 o, .int .i64 l], .agg #[.int .i64 p, .int .i64 m]] w fun e w' => e = .returned (.bool true) ∧ Below w.heap.size w w' := by
  by_cases h : (validB o l && validB p m) = true
  · have h' : validB o l = true ∧ validB p m = true := by simpa using h
    by_cases ht : touchB o l p m = true
    · exact extentJoins_touch o l p m w h'.1 h'.2 ht
    · exact extentJoins_apart o l p m w h'.1 h'.2 (by simpa using ht)
  · exact extentJoins_no o l p m w hl.2 hm.2 (by simpa using h)

theorem extentJoins_params : Try.f5.params = #[23, 23] := by kernel_rfl
set_option maxRecDepth 100000 in
theorem extentJoins_lifted (os : Os) (started : os.Started) (H : Type) (enc : TypeId × Value → H) :
    ReturnsInHanded {} Try.checked os 5 .any (Rows.extentJoinsSpec.pre6 enc Try.prog Try.f5 Rows.extentJoinsRow.domain false) (Rows.extentJoinsSpec.post enc Try.prog Try.f5 false true false false) := by
  refine returnsInHanded_of_change (C := Try.checked) own_knob started (by kernel_rfl) Try.func5
    (ChangeSpec.witness6 (enc := enc) (C := Try.checked) false ⟨#[], #[.agg #[.int .i64 0, .int .i64 0], .agg #[.int .i64 0, .int .i64 0]], []⟩ 8 (by kernel_rfl) (by kernel_rfl) (by kernel_rfl) (by kernel_rfl)) ?_
  intro W base args ds gs before hval0 hW hcnd _
  have hval : ∀ (j : Nat) t v, Try.f5.params[j]? = some t → args[j]? = some v → Value.okWide Try.prog W .any base t v := hval0
  have hW' := hW
  obtain ⟨p, q, hA0, hV, rfl, hfz, hnd⟩ := hW
  have hA : DataW.TrodAll enc Try.prog W 0 (fun _ => true) true Try.f5.params.toList args.toList ds p := hA0
  rw [extentJoins_params] at hA hval
  obtain ⟨v0, vs0, d0, ds0, p0, q0, hargs, rfl, rfl, h0, r0⟩ := trodAll_cons hA
  obtain ⟨v1, vs1, d1, ds1, p1, q1, rfl, rfl, rfl, h1, r1⟩ := trodAll_cons r0
  obtain ⟨rfl, rfl, rfl⟩ := trodAll_nil r1
  obtain rfl : args = #[v0, v1] := by cases args; simp_all
  obtain ⟨rfl, rfl⟩ := trodVars_none hV
  have k0 := h0
  have lt0 : ∀ x ∈ p0, x.block < W.heap.size := by obtain ⟨m, hm⟩ := k0; exact DataW.trod_lt m _ _ _ hm
  have k1 := h1
  have lt1 : ∀ x ∈ p1, x.block < W.heap.size := by obtain ⟨m, hm⟩ := k1; exact DataW.trod_lt m _ _ _ hm
  obtain ⟨ao, al, hv0, bo0, bl0⟩ := open_ext (hval 0 23 v0 rfl rfl) h0
  subst hv0
  obtain ⟨bo, bl, hv1, bo1, bl1⟩ := open_ext (hval 1 23 v1 rfl rfl) h1
  subst hv1
  clear hA0 hval0
  refine (extentJoins_walk ao al bo bl W bo0 bl0 bo1 bl1).mono fun e W' ⟨he, bel⟩ => ?_
  subst he
  exact ⟨_, rfl, _, _, _, [], _, [], hW', trodAll_mk1 (shut_bool Try.underlying4 _), (trodAll_cons_mk (Below.trod laid_out (by kernel_rfl) (of_decide_eq_true (by kernel_rfl)) k0 bel lt0) (trodAll_cons_mk (Below.trod laid_out (by kernel_rfl) (of_decide_eq_true (by kernel_rfl)) k1 bel lt1) trodAll_mk0)), rfl, bel.frame _, fun h => by cases h⟩

/-- The statement. -/
theorem extentJoins_holds : Rows.ExtentJoinsSaid :=
  OpenClaim.holds_of_wide 5 Try.f5 rfl rfl rfl rfl rfl rfl rfl ⟨rfl, rfl, rfl, rfl, rfl⟩ rfl rfl rfl rfl rfl (by kernel_rfl) Try.func5 (by kernel_rfl)
    (of_decide_eq_true (by kernel_rfl)) (by unfold Func.isWrapper; first | (rw [if_pos (by decide +kernel)]; kernel_rfl) | (rw [if_neg (by decide +kernel)]; exact ⟨rfl, rfl⟩))
    (fun os started H enc _ => extentJoins_lifted os started H enc)

end Go.Proofs.Ytfdhghidjkbojaa
