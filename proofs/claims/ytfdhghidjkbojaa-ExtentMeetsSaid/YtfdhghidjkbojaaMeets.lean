/-
  ExtentMeets: for every two extents, the law returns true and leaves its arguments as they were. No condition.
-/
import Derived.Test.YtfdhghidjkbojaaFrame
namespace Go.Proofs.Ytfdhghidjkbojaa
set_option linter.unusedVariables false
set_option linter.unusedSimpArgs false
open Go.RowKit Go.ChangeShapes Go.WideShapes Go.ChangeAt Go.Joins Go.Deep
attribute [local go_sem] World.cell?_alloc_some frozen_alloc_some

/-- Two extents, each in a block of its own. -/
abbrev TwoBox (w : World) (o l p m : Int) (w1 : World) : Prop := w1.cell? ⟨w.heap.size, 0, none⟩ = some (.int .i64 o) ∧ w1.cell? ⟨w.heap.size, 1, none⟩ = some (.int .i64 l) ∧ w1.cell? ⟨w.heap.size + 1, 0, none⟩ = some (.int .i64 p) ∧ w1.cell? ⟨w.heap.size + 1, 1, none⟩ = some (.int .i64 m)
    ∧ Below w.heap.size w w1 ∧ w.heap.size + 2 ≤ w1.heap.size

set_option maxHeartbeats 1000000 in
theorem extentMeets_no (o l p m : Int) (w : World) (hl : l ≤ 9223372036854775807) (hm : m ≤ 9223372036854775807) (hv : (validB o l && validB p m) = false) :
    Calls Try.prog 4 #[.agg #[.int .i64 o, .int .i64 l], .agg #[.int .i64 p, .int .i64 m]] w fun e w' => e = .returned (.bool true) ∧ Below w.heap.size w w' := by
  obtain ⟨v1, hv1⟩ : ∃ v, validB o l = v := ⟨_, rfl⟩
  obtain ⟨v2, hv2⟩ : ∃ v, validB p m = v := ⟨_, rfl⟩
  have hor : v1 = false ∨ v2 = false := by rw [hv1, hv2] at hv; cases v1 <;> cases v2 <;> simp at hv ⊢
  clear hv
  cases v1 <;> cases v2
  case true.true => simp at hor
  all_goals
    clear hor
    go_enter Try.func4, Try.ntmps4
    go_upto_region 1 with (fail)
    refine wp_world _ (TwoBox w o l p m) ⟨by simp [go_sem], by simp [go_sem], by simp [go_sem], by simp [go_sem], by go_grown, by simp⟩ ?_
    rintro w0 ⟨c1, c2, c3, c4, hB, hN⟩
    go_wp2_with (first
      | (go_at_call 9; (with_reducible refine (refvalid_any _ _ _ (by assumption)).mono ?_); rintro e w1 ⟨rfl, hb1⟩; obtain ⟨hc1, hf1, hk1⟩ := kept_of hb1; replace hB := below_call hB hb1 hB.size)
      | (go_at_call 10; (with_reducible refine (alive_any _).mono ?_); rintro e w3 ⟨rfl, hb3⟩; replace hB := below_call hB hb3 hB.size))
    go_ret
    exact ⟨rfl, hB⟩

theorem overE_swap (o l p m : Int) : overE p m o l = overE o l p m := by
  unfold overE
  rw [maxI_is, maxI_is, minI_is, minI_is, Int.max_comm p o, Int.min_comm (p + m)]
theorem overE_in {o l p m : Int} (h : 0 < (overE o l p m).2) : 0 ≤ (overE o l p m).1 ∨ (overE o l p m).1 < 0 := by omega
theorem overE_ins {o l p m : Int} (h : 0 < (overE o l p m).2) : insB o l (overE o l p m).1 (overE o l p m).2 = true ∧ insB p m (overE o l p m).1 (overE o l p m).2 = true ∧ o ≤ (overE o l p m).1 ∧ (overE o l p m).1 + (overE o l p m).2 ≤ o + l := by
  have ⟨x1, x2, x3⟩ := maxI_bd o p
  have ⟨y1, y2, y3⟩ := minI_bd (o + l) (p + m)
  by_cases c : minI (o + l) (p + m) ≤ maxI o p
  · rw [overE_no c] at h; simp at h
  · rw [overE_yes (by omega)]
    exact ⟨ins_yes (by simp; omega) (by simp; omega), ins_yes (by simp; omega) (by simp; omega), by simp; omega, by simp; omega⟩

theorem one_new (w : World) (o l : Int) : IsExts (w.alloc (.cells #[.int .i64 o, .int .i64 l] 23)) (some ⟨w.heap.size, 0, none⟩) 1 [(o, l)] := by
  refine ⟨rfl, .inr ⟨_, 0, rfl, by simp, fun i hi => ?_⟩⟩
  obtain rfl : i = 0 := by omega
  exact ⟨by simp [go_sem, eo], by simp [go_sem, el]⟩

theorem contains_one (o l x y : Int) (W : World) (h0 : 0 ≤ o) (h1 : 0 ≤ l) (h2 : o + l ≤ 4611686018427387903) (h3 : 0 ≤ x) (h4 : 0 ≤ y) (h5 : x + y ≤ 4611686018427387903) (hi : insB o l x y = true) :
    Calls Try.prog 15 #[.agg #[.int .i64 o, .int .i64 l], .slice (some ⟨W.heap.size, 0, none⟩) 1 1] (W.alloc (.cells #[.int .i64 x, .int .i64 y] 23)) fun e w' => e = .returned (.bool true) ∧ Below (W.alloc (.cells #[.int .i64 x, .int .i64 y] 23)).heap.size (W.alloc (.cells #[.int .i64 x, .int .i64 y] 23)) w' := by
  refine (contains_any o l _ 1 1 [(x, y)] _ h0 h1 h2 (one_new W x y) (by omega) (fun i hi => ?_)).mono ?_
  · obtain rfl : i = 0 := by omega
    exact ⟨h3, h4, h5⟩
  · rintro e w' ⟨rfl, hb⟩
    exact ⟨ret_bool (by simp [allB, hi]), hb⟩

set_option maxHeartbeats 1000000 in
theorem extentMeets_yes (o l p m : Int) (w : World) (hv1 : validB o l = true) (hv2 : validB p m = true) :
    Calls Try.prog 4 #[.agg #[.int .i64 o, .int .i64 l], .agg #[.int .i64 p, .int .i64 m]] w fun e w' => e = .returned (.bool true) ∧ Below w.heap.size w w' := by
  have ⟨o0, o1, o2⟩ := validB_iff.1 hv1
  have ⟨p0, p1, p2⟩ := validB_iff.1 hv2
  obtain ⟨x, hx⟩ : ∃ x, overE o l p m = x := ⟨_, rfl⟩
  obtain ⟨xo, xl⟩ := x
  obtain ⟨t, ht⟩ : ∃ t, decide (0 < xl) = t := ⟨_, rfl⟩
  have C1 := Lib.hid (fun W => overlap_any o l p m W o0 o1 o2 p0 p1 p2)
  have C2 := Lib.hid (fun W => overlap_any p m o l W p0 p1 p2 o0 o1 o2)
  have C3 := Lib.hid (fun W => refoverlap_any o l p m W o0 o1 o2 p0 p1 p2)
  rw [overE_swap] at C2
  rw [hx] at C1 C2 C3
  simp only [ht] at C1 C2
  have hins : t = true → insB o l xo xl = true ∧ insB p m xo xl = true ∧ 0 ≤ xo ∧ 0 ≤ xl ∧ xo + xl ≤ 4611686018427387903 := fun h => by
    have h0 : 0 < xl := of_decide_eq_true (ht.trans h)
    have h1 := overE_ins (o := o) (l := l) (p := p) (m := m) (by rw [hx]; exact h0)
    rw [hx] at h1
    exact ⟨h1.1, h1.2.1, by omega, by omega, by have := h1.2.2.2; simp at this; omega⟩
  have HI := Lib.hid hins
  have HX := Lib.hid hx
  clear hx hins
  go_enter Try.func4, Try.ntmps4
  go_upto_region 1 with (fail)
  refine wp_world _ (TwoBox w o l p m) ⟨by simp [go_sem], by simp [go_sem], by simp [go_sem], by simp [go_sem], by go_grown, by simp⟩ ?_
  rintro w0 ⟨c1, c2, c3, c4, hB, hN⟩
  go_upto_region 3 with (go_at_call 9; (with_reducible refine (refvalid_any _ _ _ (by omega)).mono ?_); rintro e w1 ⟨rfl, hb1⟩; have hz1 := hb1.size; obtain ⟨hc1, hf1, hk1⟩ := kept_of hb1; replace hB := below_call hB hb1 hB.size)
  have hN1 := hb1.size
  refine wp_world _ (fun W => W.cell? ⟨w.heap.size, 0, none⟩ = some (.int .i64 o) ∧ W.cell? ⟨w.heap.size, 1, none⟩ = some (.int .i64 l) ∧ W.cell? ⟨w.heap.size + 1, 0, none⟩ = some (.int .i64 p) ∧ W.cell? ⟨w.heap.size + 1, 1, none⟩ = some (.int .i64 m) ∧ Below w.heap.size w W ∧ w.heap.size + 2 ≤ W.heap.size)
    ⟨by simp [*, go_sem, World.cell?_alloc_some], by simp [*, go_sem, World.cell?_alloc_some], by simp [*, go_sem, World.cell?_alloc_some], by simp [*, go_sem, World.cell?_alloc_some], by go_grown, by go_size⟩ ?_
  clear c1 c2 c3 c4 hB hN hc1 hf1 hk1 hN1
  rintro wa ⟨c1, c2, c3, c4, hB, hN⟩
  go_upto_region 4 with (go_at_call 13; (with_reducible refine (C1.out _).mono ?_); rintro e w2 ⟨rfl, hb2⟩; have hz2 := hb2.size; (try simp only [World.size_alloc] at hz2); replace hB := below_call hB hb2 (by go_size); replace c1 := keep_cell hb2 (c1); replace c2 := keep_cell hb2 (c2); replace c3 := keep_cell hb2 (c3); replace c4 := keep_cell hb2 (c4))
  refine wp_world _ (fun W => W.cell? ⟨w.heap.size, 0, none⟩ = some (.int .i64 o) ∧ W.cell? ⟨w.heap.size, 1, none⟩ = some (.int .i64 l) ∧ W.cell? ⟨w.heap.size + 1, 0, none⟩ = some (.int .i64 p) ∧ W.cell? ⟨w.heap.size + 1, 1, none⟩ = some (.int .i64 m) ∧ W.cell? ⟨w2.heap.size, 0, none⟩ = some (.int .i64 xo) ∧ W.cell? ⟨w2.heap.size, 1, none⟩ = some (.int .i64 xl) ∧ Below w.heap.size w W ∧ w.heap.size + 2 ≤ W.heap.size)
    ⟨by simp [*, go_sem, World.cell?_alloc_some], by simp [*, go_sem, World.cell?_alloc_some], by simp [*, go_sem, World.cell?_alloc_some], by simp [*, go_sem, World.cell?_alloc_some], by simp [*, go_sem, World.cell?_alloc_some], by simp [*, go_sem, World.cell?_alloc_some], by go_grown, by go_size⟩ ?_
  clear c1 c2 c3 c4 hB hN
  rintro wb ⟨c1, c2, c3, c4, c5, c6, hB, hN⟩
  go_upto_region 5 with (go_at_call 13; (with_reducible refine (C2.out _).mono ?_); rintro e w3 ⟨rfl, hb3⟩; have hz3 := hb3.size; (try simp only [World.size_alloc] at hz3); replace hB := below_call hB hb3 (by go_size); replace c1 := keep_cell hb3 (c1); replace c2 := keep_cell hb3 (c2); replace c3 := keep_cell hb3 (c3); replace c4 := keep_cell hb3 (c4); replace c5 := keep_cell hb3 (c5); replace c6 := keep_cell hb3 (c6))
  refine wp_world _ (fun W => W.cell? ⟨w.heap.size, 0, none⟩ = some (.int .i64 o) ∧ W.cell? ⟨w.heap.size, 1, none⟩ = some (.int .i64 l) ∧ W.cell? ⟨w.heap.size + 1, 0, none⟩ = some (.int .i64 p) ∧ W.cell? ⟨w.heap.size + 1, 1, none⟩ = some (.int .i64 m) ∧ W.cell? ⟨w2.heap.size, 0, none⟩ = some (.int .i64 xo) ∧ W.cell? ⟨w2.heap.size, 1, none⟩ = some (.int .i64 xl) ∧ W.cell? ⟨w3.heap.size, 0, none⟩ = some (.int .i64 xo) ∧ W.cell? ⟨w3.heap.size, 1, none⟩ = some (.int .i64 xl) ∧ Below w.heap.size w W ∧ w.heap.size + 2 ≤ W.heap.size)
    ⟨by simp [*, go_sem, World.cell?_alloc_some], by simp [*, go_sem, World.cell?_alloc_some], by simp [*, go_sem, World.cell?_alloc_some], by simp [*, go_sem, World.cell?_alloc_some], by simp [*, go_sem, World.cell?_alloc_some], by simp [*, go_sem, World.cell?_alloc_some], by simp [*, go_sem, World.cell?_alloc_some], by simp [*, go_sem, World.cell?_alloc_some], by go_grown, by go_size⟩ ?_
  clear c1 c2 c3 c4 c5 c6 hB hN
  rintro wc ⟨c1, c2, c3, c4, c5, c6, c7, c8, hB, hN⟩
  go_upto_region 6 with (go_at_call 14; (with_reducible refine (C3.out _).mono ?_); rintro e w4 ⟨rfl, hb4⟩; have hz4 := hb4.size; (try simp only [World.size_alloc] at hz4); replace hB := below_call hB hb4 (by go_size); replace c1 := keep_cell hb4 (c1); replace c2 := keep_cell hb4 (c2); replace c3 := keep_cell hb4 (c3); replace c4 := keep_cell hb4 (c4); replace c5 := keep_cell hb4 (c5); replace c6 := keep_cell hb4 (c6); replace c7 := keep_cell hb4 (c7); replace c8 := keep_cell hb4 (c8))
  refine wp_world _ (fun W => W.cell? ⟨w.heap.size, 0, none⟩ = some (.int .i64 o) ∧ W.cell? ⟨w.heap.size, 1, none⟩ = some (.int .i64 l) ∧ W.cell? ⟨w.heap.size + 1, 0, none⟩ = some (.int .i64 p) ∧ W.cell? ⟨w.heap.size + 1, 1, none⟩ = some (.int .i64 m) ∧ W.cell? ⟨w2.heap.size, 0, none⟩ = some (.int .i64 xo) ∧ W.cell? ⟨w2.heap.size, 1, none⟩ = some (.int .i64 xl) ∧ W.cell? ⟨w3.heap.size, 0, none⟩ = some (.int .i64 xo) ∧ W.cell? ⟨w3.heap.size, 1, none⟩ = some (.int .i64 xl) ∧ W.cell? ⟨w4.heap.size, 0, none⟩ = some (.int .i64 xo) ∧ W.cell? ⟨w4.heap.size, 1, none⟩ = some (.int .i64 xl) ∧ Below w.heap.size w W ∧ w.heap.size + 2 ≤ W.heap.size)
    ⟨by simp [*, go_sem, World.cell?_alloc_some], by simp [*, go_sem, World.cell?_alloc_some], by simp [*, go_sem, World.cell?_alloc_some], by simp [*, go_sem, World.cell?_alloc_some], by simp [*, go_sem, World.cell?_alloc_some], by simp [*, go_sem, World.cell?_alloc_some], by simp [*, go_sem, World.cell?_alloc_some], by simp [*, go_sem, World.cell?_alloc_some], by simp [*, go_sem, World.cell?_alloc_some], by simp [*, go_sem, World.cell?_alloc_some], by go_grown, by go_size⟩ ?_
  clear c1 c2 c3 c4 c5 c6 c7 c8 hB hN
  rintro wd ⟨c1, c2, c3, c4, c5, c6, c7, c8, c9, c10, hB, hN⟩
  cases t
  · go_wp2_with (go_at_call 10; (with_reducible refine (alive_any _).mono ?_); rintro e w5 ⟨rfl, hb5⟩; have hz5 := hb5.size; (try simp only [World.size_alloc] at hz5); replace hB := below_call hB hb5 (by go_size); replace c1 := keep_cell hb5 (c1); replace c2 := keep_cell hb5 (c2); replace c3 := keep_cell hb5 (c3); replace c4 := keep_cell hb5 (c4); replace c5 := keep_cell hb5 (c5); replace c6 := keep_cell hb5 (c6); replace c7 := keep_cell hb5 (c7); replace c8 := keep_cell hb5 (c8); replace c9 := keep_cell hb5 (c9); replace c10 := keep_cell hb5 (c10))
    go_ret
    exact ⟨rfl, hB⟩
  · have ⟨i1, i2, i3, i4, i5⟩ := HI.out rfl
    have HI1 := Lib.hid i1
    have HI2 := Lib.hid i2
    clear i1 i2
    have CA := Lib.hid (fun W => contains_one o l xo xl W o0 o1 o2 i3 i4 i5 HI1.out)
    have CB := Lib.hid (fun W => contains_one p m xo xl W p0 p1 p2 i3 i4 i5 HI2.out)
    go_wp2_with (first
      | (go_at_call 10; (with_reducible refine (alive_any _).mono ?_); rintro e w5 ⟨rfl, hb5⟩; have hz5 := hb5.size; (try simp only [World.size_alloc] at hz5); replace hB := below_call hB hb5 (by go_size); replace c1 := keep_cell hb5 (c1); replace c2 := keep_cell hb5 (c2); replace c3 := keep_cell hb5 (c3); replace c4 := keep_cell hb5 (c4); replace c5 := keep_cell hb5 (c5); replace c6 := keep_cell hb5 (c6); replace c7 := keep_cell hb5 (c7); replace c8 := keep_cell hb5 (c8); replace c9 := keep_cell hb5 (c9); replace c10 := keep_cell hb5 (c10))
      | (go_at_call 15; (with_reducible refine (CA.out _).mono ?_); rintro e w6 ⟨rfl, hb6⟩; have hz6 := hb6.size; (try simp only [World.size_alloc] at hz6); replace hB := below_call (hB.alloc hB.size _) hb6 (by go_size); replace c1 := keep_cell hb6 (alloc_cell (c1)); replace c2 := keep_cell hb6 (alloc_cell (c2)); replace c3 := keep_cell hb6 (alloc_cell (c3)); replace c4 := keep_cell hb6 (alloc_cell (c4)); replace c5 := keep_cell hb6 (alloc_cell (c5)); replace c6 := keep_cell hb6 (alloc_cell (c6)); replace c7 := keep_cell hb6 (alloc_cell (c7)); replace c8 := keep_cell hb6 (alloc_cell (c8)); replace c9 := keep_cell hb6 (alloc_cell (c9)); replace c10 := keep_cell hb6 (alloc_cell (c10)))
      | (go_at_call 15; (with_reducible refine (CB.out _).mono ?_); rintro e w7 ⟨rfl, hb7⟩; have hz7 := hb7.size; (try simp only [World.size_alloc] at hz7); replace hB := below_call (hB.alloc hB.size _) hb7 (by go_size); replace c1 := keep_cell hb7 (alloc_cell (c1)); replace c2 := keep_cell hb7 (alloc_cell (c2)); replace c3 := keep_cell hb7 (alloc_cell (c3)); replace c4 := keep_cell hb7 (alloc_cell (c4)); replace c5 := keep_cell hb7 (alloc_cell (c5)); replace c6 := keep_cell hb7 (alloc_cell (c6)); replace c7 := keep_cell hb7 (alloc_cell (c7)); replace c8 := keep_cell hb7 (alloc_cell (c8)); replace c9 := keep_cell hb7 (alloc_cell (c9)); replace c10 := keep_cell hb7 (alloc_cell (c10))))
    go_ret
    exact ⟨rfl, hB⟩

theorem extentMeets_walk (o l p m : Int) (w : World) (_ : -9223372036854775808 ≤ o ∧ o ≤ 9223372036854775807) (hl : -9223372036854775808 ≤ l ∧ l ≤ 9223372036854775807) (_ : -9223372036854775808 ≤ p ∧ p ≤ 9223372036854775807) (hm : -9223372036854775808 ≤ m ∧ m ≤ 9223372036854775807) :
    Calls Try.prog 4 #[.agg #[.int .i64 o, .int .i64 l], .agg #[.int .i64 p, .int .i64 m]] w fun e w' => e = .returned (.bool true) ∧ Below w.heap.size w w' := by
  by_cases h : (validB o l && validB p m) = true
  · have h' : validB o l = true ∧ validB p m = true := by simpa using h
    exact extentMeets_yes o l p m w h'.1 h'.2
  · exact extentMeets_no o l p m w hl.2 hm.2 (by simpa using h)

theorem extentMeets_params : Try.f4.params = #[23, 23] := by kernel_rfl
set_option maxRecDepth 100000 in
theorem extentMeets_lifted (os : Os) (started : os.Started) (H : Type) (enc : TypeId × Value → H) :
    ReturnsInHanded {} Try.checked os 4 .any (Rows.extentMeetsSpec.pre6 enc Try.prog Try.f4 Rows.extentMeetsRow.domain false) (Rows.extentMeetsSpec.post enc Try.prog Try.f4 false true false false) := by
  refine returnsInHanded_of_change (C := Try.checked) own_knob started (by kernel_rfl) Try.func4
    (ChangeSpec.witness6 (enc := enc) (C := Try.checked) false ⟨#[], #[.agg #[.int .i64 0, .int .i64 0], .agg #[.int .i64 0, .int .i64 0]], []⟩ 8 (by kernel_rfl) (by kernel_rfl) (by kernel_rfl) (by kernel_rfl)) ?_
  intro W base args ds gs before hval0 hW hcnd _
  have hval : ∀ (j : Nat) t v, Try.f4.params[j]? = some t → args[j]? = some v → Value.okWide Try.prog W .any base t v := hval0
  have hW' := hW
  obtain ⟨p, q, hA0, hV, rfl, hfz, hnd⟩ := hW
  have hA : DataW.TrodAll enc Try.prog W 0 (fun _ => true) true Try.f4.params.toList args.toList ds p := hA0
  rw [extentMeets_params] at hA hval
  obtain ⟨v0, vs0, d0, ds0, p0, q0, hargs, rfl, rfl, h0, r0⟩ := trodAll_cons hA
  obtain ⟨v1, vs1, d1, ds1, p1, q1, rfl, rfl, rfl, h1, r1⟩ := trodAll_cons r0
  obtain ⟨rfl, rfl, rfl⟩ := trodAll_nil r1
  obtain rfl : args = #[v0, v1] := by cases args; simp_all
  obtain ⟨rfl, rfl⟩ := trodVars_none hV
  have k0 := h0
  have lt0 : ∀ x ∈ p0, x.block < W.heap.size := by obtain ⟨m, hm⟩ := k0; exact DataW.trod_lt m _ _ _ hm
  have k1 := h1
  have lt1 : ∀ x ∈ p1, x.block < W.heap.size := by obtain ⟨m, hm⟩ := k1; exact DataW.trod_lt m _ _ _ hm
  obtain ⟨ao, al, hv0, bo0, bl0⟩ := open_ext (hval 0 23 v0 rfl rfl) h0
  subst hv0
  obtain ⟨bo, bl, hv1, bo1, bl1⟩ := open_ext (hval 1 23 v1 rfl rfl) h1
  subst hv1
  clear hA0 hval0
  refine (extentMeets_walk ao al bo bl W bo0 bl0 bo1 bl1).mono fun e W' ⟨he, bel⟩ => ?_
  subst he
  exact ⟨_, rfl, _, _, _, [], _, [], hW', trodAll_mk1 (shut_bool Try.underlying4 _), (trodAll_cons_mk (Below.trod laid_out (by kernel_rfl) (of_decide_eq_true (by kernel_rfl)) k0 bel lt0) (trodAll_cons_mk (Below.trod laid_out (by kernel_rfl) (of_decide_eq_true (by kernel_rfl)) k1 bel lt1) trodAll_mk0)), rfl, bel.frame _, fun h => by cases h⟩

/-- The statement. -/
theorem extentMeets_holds : Rows.ExtentMeetsSaid :=
  OpenClaim.holds_of_wide 4 Try.f4 rfl rfl rfl rfl rfl rfl rfl ⟨rfl, rfl, rfl, rfl, rfl⟩ rfl rfl rfl rfl rfl (by kernel_rfl) Try.func4 (by kernel_rfl)
    (of_decide_eq_true (by kernel_rfl)) (by unfold Func.isWrapper; first | (rw [if_pos (by decide +kernel)]; kernel_rfl) | (rw [if_neg (by decide +kernel)]; exact ⟨rfl, rfl⟩))
    (fun os started H enc _ => extentMeets_lifted os started H enc)

end Go.Proofs.Ytfdhghidjkbojaa
