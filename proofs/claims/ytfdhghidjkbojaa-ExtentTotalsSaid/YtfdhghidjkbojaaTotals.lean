/-
  ExtentTotals: for every extent and every slice of extents, the law returns true and leaves its arguments as they were. No condition.
-/
import Derived.Test.YtfdhghidjkbojaaFrame
namespace Go.Proofs.Ytfdhghidjkbojaa
set_option linter.unusedVariables false
set_option linter.unusedSimpArgs false
open Go.RowKit Go.ChangeShapes Go.WideShapes Go.ChangeAt Go.Joins Go.Deep
attribute [local go_sem] World.cell?_alloc_some frozen_alloc_some

set_option maxHeartbeats 1000000 in
theorem extentTotals_early (o l : Int) (a : Option Addr) (len cap : Nat) (xs : List (Int × Int)) (w : World) (hx : IsExts w a len xs) (hm : len ≤ 9223372036854775807) (hl : l ≤ 9223372036854775807) (hi : ∀ i, i < len → el xs i ≤ 9223372036854775807) (hv : (validB o l && (allB validB xs && decide (len ≤ 300))) = false) :
    Calls Try.prog 8 #[.agg #[.int .i64 o, .int .i64 l], .slice a len cap] w fun e w' => e = .returned (.bool true) ∧ Below w.heap.size w w' := by
  have HX := Lib.hid hx
  have HI := Lib.hid hi
  clear hx hi
  obtain ⟨v1, hv1⟩ : ∃ v, validB o l = v := ⟨_, rfl⟩
  obtain ⟨v2, hv2⟩ : ∃ v, allB validB xs = v := ⟨_, rfl⟩
  cases v1
  · clear hv hv2
    go_enter Try.func8, Try.ntmps8
    go_upto_region 1 with (fail)
    refine wp_world _ (fun W => W.cell? ⟨w.heap.size, 0, none⟩ = some (.int .i64 o) ∧ W.cell? ⟨w.heap.size, 1, none⟩ = some (.int .i64 l) ∧ Below w.heap.size w W ∧ w.heap.size + 1 ≤ W.heap.size)
      ⟨by simp [*, go_sem, World.cell?_alloc_some], by simp [*, go_sem, World.cell?_alloc_some], by go_grown, by go_size⟩ ?_
    rintro w0 ⟨c1, c2, hB, hN⟩
    go_wp2_with (first
      | (go_at_call 9; (with_reducible refine (refvalid_any _ _ _ (by first | assumption | omega)).mono ?_); rintro e w1 ⟨rfl, hb1⟩; have hz1 := hb1.size; (try simp only [World.size_alloc] at hz1); replace hB := below_call hB hb1 (by go_size); replace c1 := keep_cell hb1 (c1); replace c2 := keep_cell hb1 (c2))
      | (go_at_call 10; (with_reducible refine (alive_any _).mono ?_); rintro e w3 ⟨rfl, hb3⟩; have hz3 := hb3.size; (try simp only [World.size_alloc] at hz3); replace hB := below_call hB hb3 (by go_size)))
    go_ret
    exact ⟨rfl, hB⟩
  · cases v2
    · clear hv
      have HV := Lib.hid hv2
      clear hv2
      go_enter Try.func8, Try.ntmps8
      go_upto_region 1 with (fail)
      refine wp_world _ (fun W => W.cell? ⟨w.heap.size, 0, none⟩ = some (.int .i64 o) ∧ W.cell? ⟨w.heap.size, 1, none⟩ = some (.int .i64 l) ∧ Below w.heap.size w W ∧ w.heap.size + 1 ≤ W.heap.size)
        ⟨by simp [*, go_sem, World.cell?_alloc_some], by simp [*, go_sem, World.cell?_alloc_some], by go_grown, by go_size⟩ ?_
      rintro w0 ⟨c1, c2, hB, hN⟩
      go_wp2_with (first
        | (go_at_call 9; (with_reducible refine (refvalid_any _ _ _ (by first | assumption | omega)).mono ?_); rintro e w1 ⟨rfl, hb1⟩; have hz1 := hb1.size; (try simp only [World.size_alloc] at hz1); replace hB := below_call hB hb1 (by go_size); replace c1 := keep_cell hb1 (c1); replace c2 := keep_cell hb1 (c2))
        | (go_at_call 23; (with_reducible refine (refall_any _ _ _ _ _ (HX.out.later (hB.mono (Nat.le_refl _))) hm HI.out).mono ?_); rintro e w2 ⟨rfl, hb2⟩; have hz2 := hb2.size; (try simp only [World.size_alloc] at hz2); replace hB := below_call hB hb2 (by go_size); rw [HV.out])
        | (go_at_call 10; (with_reducible refine (alive_any _).mono ?_); rintro e w3 ⟨rfl, hb3⟩; have hz3 := hb3.size; (try simp only [World.size_alloc] at hz3); replace hB := below_call hB hb3 (by go_size)))
      go_ret
      exact ⟨rfl, hB⟩
    · have hlen : 300 < len := by rw [hv1, hv2] at hv; simpa using hv
      clear hv
      have HV := Lib.hid hv2
      clear hv2
      go_enter Try.func8, Try.ntmps8
      go_upto_region 1 with (fail)
      refine wp_world _ (fun W => W.cell? ⟨w.heap.size, 0, none⟩ = some (.int .i64 o) ∧ W.cell? ⟨w.heap.size, 1, none⟩ = some (.int .i64 l) ∧ Below w.heap.size w W ∧ w.heap.size + 1 ≤ W.heap.size)
        ⟨by simp [*, go_sem, World.cell?_alloc_some], by simp [*, go_sem, World.cell?_alloc_some], by go_grown, by go_size⟩ ?_
      rintro w0 ⟨c1, c2, hB, hN⟩
      go_wp2_with (first
        | (go_at_call 9; (with_reducible refine (refvalid_any _ _ _ (by first | assumption | omega)).mono ?_); rintro e w1 ⟨rfl, hb1⟩; have hz1 := hb1.size; (try simp only [World.size_alloc] at hz1); replace hB := below_call hB hb1 (by go_size); replace c1 := keep_cell hb1 (c1); replace c2 := keep_cell hb1 (c2))
        | (go_at_call 23; (with_reducible refine (refall_any _ _ _ _ _ (HX.out.later (hB.mono (Nat.le_refl _))) hm HI.out).mono ?_); rintro e w2 ⟨rfl, hb2⟩; have hz2 := hb2.size; (try simp only [World.size_alloc] at hz2); replace hB := below_call hB hb2 (by go_size); rw [HV.out])
        | (go_at_call 10; (with_reducible refine (alive_any _).mono ?_); rintro e w3 ⟨rfl, hb3⟩; have hz3 := hb3.size; (try simp only [World.size_alloc] at hz3); replace hB := below_call hB hb3 (by go_size)))
      go_ret
      exact ⟨rfl, hB⟩

theorem contains_is (o l x y : Int) (W : World) (B : Nat) (hB : B = W.heap.size) (v : Bool) (h0 : 0 ≤ o) (h1 : 0 ≤ l) (h2 : o + l ≤ 4611686018427387903) (h3 : 0 ≤ x) (h4 : 0 ≤ y) (h5 : x + y ≤ 4611686018427387903) (hi : insB o l x y = v) :
    Calls Try.prog 15 #[.agg #[.int .i64 o, .int .i64 l], .slice (some ⟨B, 0, none⟩) 1 1] (W.alloc (.cells #[.int .i64 x, .int .i64 y] 23)) fun e w' => e = .returned (.bool v) ∧ Below (W.alloc (.cells #[.int .i64 x, .int .i64 y] 23)).heap.size (W.alloc (.cells #[.int .i64 x, .int .i64 y] 23)) w' := by
  subst hB
  refine (contains_any o l _ 1 1 [(x, y)] _ h0 h1 h2 ?_ (by omega) (fun i hi => ?_)).mono ?_
  · refine ⟨rfl, .inr ⟨_, 0, rfl, by simp, fun i hi => ?_⟩⟩
    obtain rfl : i = 0 := by omega
    exact ⟨by simp [go_sem, eo], by simp [go_sem, el]⟩
  · obtain rfl : i = 0 := by omega
    exact ⟨h3, h4, h5⟩
  · rintro e w' ⟨rfl, hb⟩
    exact ⟨ret_bool (by simp [allB, hi]), hb⟩

theorem allB_step (t : Int → Int → Bool) (xs : List (Int × Int)) (k : Nat) (h : k < xs.length) : allB t (xs.take (k + 1)) = (allB t (xs.take k) && t (eo xs k) (el xs k)) := by
  rw [take_snoc xs (0, 0) k h]; unfold allB; rw [List.all_append]; simp [eo, el]

set_option maxHeartbeats 2000000 in
theorem extentTotals_main (o l : Int) (a : Option Addr) (len cap : Nat) (xs : List (Int × Int)) (w : World) (hx : IsExts w a len xs) (hm : len ≤ 9223372036854775807) (hv1 : validB o l = true) (hv2 : allB validB xs = true) (hlen : len ≤ 300) (hi : ∀ i, i < len → 0 ≤ eo xs i ∧ 0 ≤ el xs i ∧ eo xs i + el xs i ≤ 4611686018427387903) :
    Calls Try.prog 8 #[.agg #[.int .i64 o, .int .i64 l], .slice a len cap] w fun e w' => e = .returned (.bool true) ∧ Below w.heap.size w w' := by
  have ⟨o0, o1, o2⟩ := validB_iff.1 hv1
  have HX := Lib.hid hx
  have HV := Lib.hid hv2
  have HI := Lib.hid hi
  clear hx hi hv2
  obtain ⟨tn, htn⟩ : ∃ n, totN xs = n := ⟨_, rfl⟩
  obtain ⟨tb, htb⟩ : ∃ n, totB xs = n := ⟨_, rfl⟩
  obtain ⟨al, hal⟩ : ∃ n, allB (insB o l) xs = n := ⟨_, rfl⟩
  have HTN := Lib.hid htn
  have HTB := Lib.hid htb
  have HAL := Lib.hid hal
  clear htn htb hal
  have C1 := Lib.hid (fun W a cap (h : IsExts W a len xs) => total_any a len cap xs W h hm (fun i hi => by have := HI.out i hi; omega))
  have C2 := Lib.hid (fun W a cap (h : IsExts W a len xs) => reftotal_any a len cap xs W h hm (fun i hi => by have := HI.out i hi; omega))
  have C3 := Lib.hid (fun W a cap (h : IsExts W a len xs) => contains_any o l a len cap xs W o0 o1 o2 h hm HI.out)
  simp only [HTN.out, HTB.out] at C1 C2
  simp only [HAL.out] at C3
  go_enter Try.func8, Try.ntmps8
  go_upto_region 1 with (fail)
  refine wp_world _ (fun W => W.cell? ⟨w.heap.size, 0, none⟩ = some (.int .i64 o) ∧ W.cell? ⟨w.heap.size, 1, none⟩ = some (.int .i64 l) ∧ Below w.heap.size w W ∧ w.heap.size + 1 ≤ W.heap.size)
    ⟨by simp [*, go_sem, World.cell?_alloc_some], by simp [*, go_sem, World.cell?_alloc_some], by go_grown, by go_size⟩ ?_
  rintro w0 ⟨c1, c2, hB, hN⟩
  go_upto_region 7 with (first
    | (go_at_call 9; (with_reducible refine (refvalid_any _ _ _ (by first | assumption | omega)).mono ?_); rintro e w1 ⟨rfl, hb1⟩; have hz1 := hb1.size; (try simp only [World.size_alloc] at hz1); replace hB := below_call hB hb1 (by go_size); replace c1 := keep_cell hb1 (c1); replace c2 := keep_cell hb1 (c2))
    | (go_at_call 23; (with_reducible refine (refall_any _ _ _ _ _ (HX.out.later (hB.mono (Nat.le_refl _))) hm (fun i hi => by have := HI.out i hi; omega)).mono ?_); rintro e w2 ⟨rfl, hb2⟩; have hz2 := hb2.size; (try simp only [World.size_alloc] at hz2); replace hB := below_call hB hb2 (by go_size); replace c1 := keep_cell hb2 (c1); replace c2 := keep_cell hb2 (c2); rw [HV.out])
    | (go_at_call 22; (with_reducible refine (C1.out _ _ _ (HX.out.later (hB.mono (Nat.le_refl _)))).mono ?_); rintro e w3 ⟨rfl, hb3⟩; have hz3 := hb3.size; (try simp only [World.size_alloc] at hz3); replace hB := below_call hB hb3 (by go_size); replace c1 := keep_cell hb3 (c1); replace c2 := keep_cell hb3 (c2))
    | (go_at_call 24; (with_reducible refine (C2.out _ _ _ (HX.out.later (hB.mono (Nat.le_refl _)))).mono ?_); rintro e w4 ⟨rfl, hb4⟩; have hz4 := hb4.size; (try simp only [World.size_alloc] at hz4); replace hB := below_call hB hb4 (by go_size); replace c1 := keep_cell hb4 (c1); replace c2 := keep_cell hb4 (c2)))
  have hBl := hB
  obtain ⟨hlenx, hz | ⟨b, off, ha, hb, hcell⟩⟩ := HX.out
  · have hxs : xs = [] := List.length_eq_zero_iff.1 (by omega)
    have hal1 : al = true := by rw [← HAL.out, hxs]; rfl
    subst hal1
    subst hz
    clear hlenx
    refine wp_loop_rounds 1 ?_
    rw [rounds_succ]
    go_wp2_with (first
      | (go_at_call 10; (with_reducible refine (alive_any _).mono ?_); rintro e w5 ⟨rfl, hb5⟩; have hz5 := hb5.size; (try simp only [World.size_alloc] at hz5); replace hB := below_call hB hb5 (by go_size); replace c1 := keep_cell hb5 (c1); replace c2 := keep_cell hb5 (c2))
      | (go_at_call 15; (with_reducible refine (C3.out _ _ _ (HX.out.later (hB.mono (Nat.le_refl _)))).mono ?_); rintro e w6 ⟨rfl, hb6⟩; have hz6 := hb6.size; (try simp only [World.size_alloc] at hz6); replace hB := below_call hB hb6 (by go_size); replace c1 := keep_cell hb6 (c1); replace c2 := keep_cell hb6 (c2)))
    go_ret
    exact ⟨rfl, hB⟩
  · subst ha
    have HL := Lib.hid hlenx
    have HC := Lib.hid hcell
    clear hlenx hcell
    go_loopw [9, 39] (fun v i wr => ∃ k : Nat, k ≤ len ∧ i = .int .i64 k ∧ v = .bool (allB (insB o l) (xs.take k)) ∧ wr.cell? ⟨w.heap.size, 0, none⟩ = some (.int .i64 o) ∧ wr.cell? ⟨w.heap.size, 1, none⟩ = some (.int .i64 l) ∧ Below w.heap.size w wr) (fun _ i _ => len - (intOf i).toNat)
    case atStart => exact ⟨0, Nat.zero_le _, rfl, rfl, c1, c2, hB⟩
    case round =>
      clear c1 c2 hB
      obtain ⟨k, hk, rfl, rfl, c1, c2, hB⟩ := hrel
      have hzr := hB.size
      by_cases hlt : k < len
      · have ⟨e1, e2⟩ := ext_cells hb HC.out hB k hlt
        have ⟨i1, i2, i3⟩ := HI.out k hlt
        obtain ⟨v, hv⟩ : ∃ v, insB o l (eo xs k) (el xs k) = v := ⟨_, rfl⟩
        have C4 := Lib.hid (fun W B hB => contains_is o l (eo xs k) (el xs k) W B hB v o0 o1 o2 i1 i2 i3 hv)
        have hd : v = decide (o ≤ eo xs k ∧ eo xs k + el xs k ≤ o + l) := hv.symm
        have HS := Lib.hid (allB_step (insB o l) xs k (by rw [HL.out]; exact hlt))
        obtain ⟨q, hq⟩ : ∃ q, allB (insB o l) (xs.take k) = q := ⟨_, rfl⟩
        have HV2 := Lib.hid hv
        have HQ := Lib.hid hq
        by_cases d1 : o ≤ eo xs k
        · by_cases d2 : eo xs k + el xs k ≤ o + l
          · obtain rfl : v = true := by rw [hd]; simp [d1, d2]
            clear hd hv
            rw [hq]
            clear hq
            cases q
            all_goals
              go_wp2_with (go_at_call 15; (with_reducible refine (C4.out _ _ (by simp)).mono ?_); rintro e w5 ⟨rfl, hb5⟩; have hz5 := hb5.size; (try simp only [World.size_alloc] at hz5); replace hB := below_call ((hB.alloc hB.size _).alloc (by go_size) _) hb5 (by go_size); replace c1 := keep_cell hb5 (alloc_cell (alloc_cell c1)); replace c2 := keep_cell hb5 (alloc_cell (alloc_cell c2)))
              go_roundw
              case rel => exact ⟨k + 1, by omega, by go_num, by rw [HS.out, HQ.out, HV2.out]; rfl, c1, c2, hB⟩
              case measure => simp [intOf]; omega
          · obtain rfl : v = false := by rw [hd]; simp [d1, d2]
            clear hd hv
            rw [hq]
            clear hq
            cases q
            all_goals
              go_wp2_with (go_at_call 15; (with_reducible refine (C4.out _ _ (by simp)).mono ?_); rintro e w5 ⟨rfl, hb5⟩; have hz5 := hb5.size; (try simp only [World.size_alloc] at hz5); replace hB := below_call ((hB.alloc hB.size _).alloc (by go_size) _) hb5 (by go_size); replace c1 := keep_cell hb5 (alloc_cell (alloc_cell c1)); replace c2 := keep_cell hb5 (alloc_cell (alloc_cell c2)))
              go_roundw
              case rel => exact ⟨k + 1, by omega, by go_num, by rw [HS.out, HQ.out, HV2.out]; rfl, c1, c2, hB⟩
              case measure => simp [intOf]; omega
        · obtain rfl : v = false := by rw [hd]; simp [d1]
          clear hd hv
          rw [hq]
          clear hq
          cases q
          all_goals
            go_wp2_with (go_at_call 15; (with_reducible refine (C4.out _ _ (by simp)).mono ?_); rintro e w5 ⟨rfl, hb5⟩; have hz5 := hb5.size; (try simp only [World.size_alloc] at hz5); replace hB := below_call ((hB.alloc hB.size _).alloc (by go_size) _) hb5 (by go_size); replace c1 := keep_cell hb5 (alloc_cell (alloc_cell c1)); replace c2 := keep_cell hb5 (alloc_cell (alloc_cell c2)))
            go_roundw
            case rel => exact ⟨k + 1, by omega, by go_num, by rw [HS.out, HQ.out, HV2.out]; rfl, c1, c2, hB⟩
            case measure => simp [intOf]; omega
      · have hkl : k = len := by omega
        subst hkl
        have e0 : allB (insB o l) (xs.take k) = al := by rw [List.take_of_length_le (by rw [HL.out]; omega)]; exact HAL.out
        rw [e0]
        clear e0
        go_wp2_with (first
          | (go_at_call 10; (with_reducible refine (alive_any _).mono ?_); rintro e w5 ⟨rfl, hb5⟩; have hz5 := hb5.size; (try simp only [World.size_alloc] at hz5); replace hB := below_call hB hb5 (by go_size); replace c1 := keep_cell hb5 (c1); replace c2 := keep_cell hb5 (c2))
          | (go_at_call 15; (with_reducible refine (C3.out _ _ _ (HX.out.later (hB.mono (Nat.le_refl _)))).mono ?_); rintro e w6 ⟨rfl, hb6⟩; have hz6 := hb6.size; (try simp only [World.size_alloc] at hz6); replace hB := below_call hB hb6 (by go_size); replace c1 := keep_cell hb6 (c1); replace c2 := keep_cell hb6 (c2)))
        go_ret
        exact ⟨rfl, hB⟩

theorem extentTotals_walk (o l : Int) (a : Option Addr) (len cap : Nat) (xs : List (Int × Int)) (w : World) (_ : -9223372036854775808 ≤ o ∧ o ≤ 9223372036854775807) (hl : -9223372036854775808 ≤ l ∧ l ≤ 9223372036854775807) (hm : len ≤ maxLen) (hx : IsExts w a len xs)
    (hi : ∀ i, i < len → (-9223372036854775808 ≤ eo xs i ∧ eo xs i ≤ 9223372036854775807) ∧ (-9223372036854775808 ≤ el xs i ∧ el xs i ≤ 9223372036854775807)) :
    Calls Try.prog 8 #[.agg #[.int .i64 o, .int .i64 l], .slice a len cap] w fun e w' => e = .returned (.bool true) ∧ Below w.heap.size w w' := by
  have hm' : len ≤ 9223372036854775807 := by unfold maxLen at hm; exact hm
  by_cases h : (validB o l && (allB validB xs && decide (len ≤ 300))) = true
  · have h' : validB o l = true ∧ allB validB xs = true ∧ len ≤ 300 := by simpa using h
    refine extentTotals_main o l a len cap xs w hx hm' h'.1 h'.2.1 h'.2.2 (fun i hlt => ?_)
    have hall := h'.2.1
    unfold allB at hall
    rw [List.all_eq_true] at hall
    have := hall (xs.getD i (0, 0)) (by simp [hx.1, hlt])
    exact validB_iff.1 this
  · exact extentTotals_early o l a len cap xs w hx hm' hl.2 (fun i hlt => (hi i hlt).2.2) (by simpa using h)

theorem extentTotals_params : Try.f8.params = #[23, 35] := by kernel_rfl
set_option maxRecDepth 100000 in
theorem extentTotals_lifted (os : Os) (started : os.Started) (H : Type) (enc : TypeId × Value → H) :
    ReturnsInHanded {} Try.checked os 8 .any (Rows.extentTotalsSpec.pre6 enc Try.prog Try.f8 Rows.extentTotalsRow.domain false) (Rows.extentTotalsSpec.post enc Try.prog Try.f8 false true false false) := by
  refine returnsInHanded_of_change (C := Try.checked) own_knob started (by kernel_rfl) Try.func8
    (ChangeSpec.witness6 (enc := enc) (C := Try.checked) false ⟨#[], #[.agg #[.int .i64 0, .int .i64 0], .slice none 0 0], []⟩ 8 (by kernel_rfl) (by kernel_rfl) (by kernel_rfl) (by kernel_rfl)) ?_
  intro W base args ds gs before hval0 hW hcnd _
  have hval : ∀ (j : Nat) t v, Try.f8.params[j]? = some t → args[j]? = some v → Value.okWide Try.prog W .any base t v := hval0
  have hW' := hW
  obtain ⟨p, q, hA0, hV, rfl, hfz, hnd⟩ := hW
  have hA : DataW.TrodAll enc Try.prog W 0 (fun _ => true) true Try.f8.params.toList args.toList ds p := hA0
  rw [extentTotals_params] at hA hval
  obtain ⟨v0, vs0, d0, ds0, p0, q0, hargs, rfl, rfl, h0, r0⟩ := trodAll_cons hA
  obtain ⟨v1, vs1, d1, ds1, p1, q1, rfl, rfl, rfl, h1, r1⟩ := trodAll_cons r0
  obtain ⟨rfl, rfl, rfl⟩ := trodAll_nil r1
  obtain rfl : args = #[v0, v1] := by cases args; simp_all
  obtain ⟨rfl, rfl⟩ := trodVars_none hV
  have k0 := h0
  have lt0 : ∀ x ∈ p0, x.block < W.heap.size := by obtain ⟨m, hm⟩ := k0; exact DataW.trod_lt m _ _ _ hm
  have k1 := h1
  have lt1 : ∀ x ∈ p1, x.block < W.heap.size := by obtain ⟨m, hm⟩ := k1; exact DataW.trod_lt m _ _ _ hm
  obtain ⟨eo, el, hv0, bo0, bl0⟩ := open_ext (hval 0 23 v0 rfl rfl) h0
  subst hv0
  obtain ⟨la, ln, lc, lx, hv1, hm1, hx1, hi1⟩ := open_exts (hval 1 35 v1 rfl rfl) h1
  subst hv1
  clear hA0 hval0
  refine (extentTotals_walk eo el la ln lc lx W bo0 bl0 hm1 hx1 hi1).mono fun e W' ⟨he, bel⟩ => ?_
  subst he
  exact ⟨_, rfl, _, _, _, [], _, [], hW', trodAll_mk1 (shut_bool Try.underlying4 _), (trodAll_cons_mk (Below.trod laid_out (by kernel_rfl) (of_decide_eq_true (by kernel_rfl)) k0 bel lt0) (trodAll_cons_mk (Below.trod laid_out (by kernel_rfl) (of_decide_eq_true (by kernel_rfl)) k1 bel lt1) trodAll_mk0)), rfl, bel.frame _, fun h => by cases h⟩

/-- The statement. -/
theorem extentTotals_holds : Rows.ExtentTotalsSaid :=
  OpenClaim.holds_of_wide 8 Try.f8 rfl rfl rfl rfl rfl rfl rfl ⟨rfl, rfl, rfl, rfl, rfl⟩ rfl rfl rfl rfl rfl (by kernel_rfl) Try.func8 (by kernel_rfl)
    (of_decide_eq_true (by kernel_rfl)) (by unfold Func.isWrapper; first | (rw [if_pos (by decide +kernel)]; kernel_rfl) | (rw [if_neg (by decide +kernel)]; exact ⟨rfl, rfl⟩))
    (fun os started H enc _ => extentTotals_lifted os started H enc)

end Go.Proofs.Ytfdhghidjkbojaa
