/-
  ExtentValid: for every extent, the law returns true and leaves its argument as it was. No condition.
-/
import Derived.Test.YtfdhghidjkbojaaFrame
namespace Go.Proofs.Ytfdhghidjkbojaa
set_option linter.unusedVariables false
set_option linter.unusedSimpArgs false
open Go.RowKit Go.ChangeShapes Go.WideShapes Go.ChangeAt Go.Joins Go.Deep

set_option maxHeartbeats 1000000 in
theorem extentValid_walk (o l : Int) (w : World) (ho : -9223372036854775808 ≤ o ∧ o ≤ 9223372036854775807) (hl : -9223372036854775808 ≤ l ∧ l ≤ 9223372036854775807) :
    Calls Try.prog 3 #[.agg #[.int .i64 o, .int .i64 l]] w fun e w' => e = .returned (.bool true) ∧ Below w.heap.size w w' := by
  obtain ⟨v, hv⟩ : ∃ v, validB o l = v := ⟨_, rfl⟩
  have HV := Lib.hid hv
  cases v
  · go_enter Try.func3, Try.ntmps3
    go_wp2_with (go_at_call 9; refine (refvalid_any _ _ _ (by omega)).mono ?_; rintro e w1 ⟨rfl, hb1⟩; obtain ⟨hc1, hf1, hk1⟩ := kept_of hb1; have hN : w.heap.size + 1 ≤ w1.heap.size := by have := hb1.size; simpa using this)
    refine wpFrom_start (by kernel_rfl) ?_
    refine wpFrom_seq (k := 0) 22 (Kept w1) (by kernel_rfl) (kept_drew _) ?_
    iterate 22 (first
      | (apply SeqM.take rfl
         · (intro wx hSx; obtain ⟨hcx, hfx, hbx⟩ := hSx; go_simp; (try simp (disch := omega) only [IntWalk.i64_in]); first | with_reducible rfl | exact ⟨rfl, rfl⟩)
         simp only [Act.put, List.setIfInBounds_toArray, List.set_cons_zero, List.set_cons_succ])
      | (apply SeqM.call rfl
         · (intro wx hSx; obtain ⟨hcx, hfx, hbx⟩ := hSx; go_simp; (try simp (disch := omega) only [IntWalk.i64_in]); exact ⟨rfl, rfl⟩)
         · (intro wx hSx; (first
            | (go_at_call 10; refine (alive_any _).mono ?_; rintro e w' ⟨rfl, hb⟩; first | exact ⟨rfl, kept_step hSx hb⟩ | exact ⟨rfl, hSx⟩)
            | (go_at_call 11; refine (valid_any _ _ _ (by omega)).mono ?_; rintro e w' ⟨rfl, hb⟩; first | exact ⟨rfl, kept_step hSx hb⟩ | exact ⟨rfl, hSx⟩)
            ))
         simp only [Act.put, List.setIfInBounds_toArray, List.set_cons_zero, List.set_cons_succ])
      | (apply SeqM.skip rfl
         simp only [Act.put, List.setIfInBounds_toArray, List.set_cons_zero, List.set_cons_succ]))
    refine SeqM.done ?_
    rintro w2 ⟨hc2, hf2, hb2⟩
    refine wpFrom_end ?_
    go_wp2
    go_ret
    exact ⟨rfl, (((Below.refl _ _).alloc (Nat.le_refl _) _).trans (hk1.mono (by simp only [World.size_alloc]; omega))).trans (hb2.mono (by omega))⟩
  · have hd := validB_iff.1 HV.out
    go_enter Try.func3, Try.ntmps3
    go_wp2_with (go_at_call 9; refine (refvalid_any _ _ _ (by omega)).mono ?_; rintro e w1 ⟨rfl, hb1⟩; obtain ⟨hc1, hf1, hk1⟩ := kept_of hb1; have hN : w.heap.size + 1 ≤ w1.heap.size := by have := hb1.size; simpa using this)
    refine wpFrom_start (by kernel_rfl) ?_
    refine wpFrom_seq (k := 0) 22 (Kept w1) (by kernel_rfl) (kept_drew _) ?_
    iterate 22 (first
      | (apply SeqM.take rfl
         · (intro wx hSx; obtain ⟨hcx, hfx, hbx⟩ := hSx; go_simp; (try simp (disch := omega) only [IntWalk.i64_in]); first | with_reducible rfl | exact ⟨rfl, rfl⟩)
         simp only [Act.put, List.setIfInBounds_toArray, List.set_cons_zero, List.set_cons_succ])
      | (apply SeqM.call rfl
         · (intro wx hSx; obtain ⟨hcx, hfx, hbx⟩ := hSx; go_simp; (try simp (disch := omega) only [IntWalk.i64_in]); exact ⟨rfl, rfl⟩)
         · (intro wx hSx; (first
            | (go_at_call 10; refine (alive_any _).mono ?_; rintro e w' ⟨rfl, hb⟩; first | exact ⟨rfl, kept_step hSx hb⟩ | exact ⟨rfl, hSx⟩)
            | (go_at_call 11; refine (valid_any _ _ _ (by omega)).mono ?_; rintro e w' ⟨rfl, hb⟩; first | exact ⟨rfl, kept_step hSx hb⟩ | exact ⟨rfl, hSx⟩)
            | (go_at_call 12; refine (end_any _ _ _ (by omega) (by omega) (by omega)).mono ?_; rintro e w' ⟨rfl, hb⟩; first | exact ⟨rfl, kept_step hSx hb⟩ | exact ⟨rfl, hSx⟩)
            ))
         simp only [Act.put, List.setIfInBounds_toArray, List.set_cons_zero, List.set_cons_succ])
      | (apply SeqM.skip rfl
         simp only [Act.put, List.setIfInBounds_toArray, List.set_cons_zero, List.set_cons_succ]))
    refine SeqM.done ?_
    rintro w2 ⟨hc2, hf2, hb2⟩
    refine wpFrom_end ?_
    go_wp2
    go_ret
    exact ⟨rfl, (((Below.refl _ _).alloc (Nat.le_refl _) _).trans (hk1.mono (by simp only [World.size_alloc]; omega))).trans (hb2.mono (by omega))⟩

theorem extentValid_params : Try.f3.params = #[23] := by kernel_rfl
set_option maxRecDepth 100000 in
theorem extentValid_lifted (os : Os) (started : os.Started) (H : Type) (enc : TypeId × Value → H) :
    ReturnsInHanded {} Try.checked os 3 .any (Rows.extentValidSpec.pre6 enc Try.prog Try.f3 Rows.extentValidRow.domain false) (Rows.extentValidSpec.post enc Try.prog Try.f3 false true false false) := by
  refine returnsInHanded_of_change (C := Try.checked) own_knob started (by kernel_rfl) Try.func3
    (ChangeSpec.witness6 (enc := enc) (C := Try.checked) false ⟨#[], #[.agg #[.int .i64 0, .int .i64 0]], []⟩ 8 (by kernel_rfl) (by kernel_rfl) (by kernel_rfl) (by kernel_rfl)) ?_
  intro W base args ds gs before hval0 hW hcnd _
  have hval : ∀ (j : Nat) t v, Try.f3.params[j]? = some t → args[j]? = some v → Value.okWide Try.prog W .any base t v := hval0
  have hW' := hW
  obtain ⟨p, q, hA0, hV, rfl, hfz, hnd⟩ := hW
  have hA : DataW.TrodAll enc Try.prog W 0 (fun _ => true) true Try.f3.params.toList args.toList ds p := hA0
  rw [extentValid_params] at hA hval
  obtain ⟨v0, vs0, d0, ds0, p0, q0, hargs, rfl, rfl, h0, r0⟩ := trodAll_cons hA
  obtain ⟨rfl, rfl, rfl⟩ := trodAll_nil r0
  obtain rfl : args = #[v0] := by cases args; simp_all
  obtain ⟨rfl, rfl⟩ := trodVars_none hV
  have k0 := h0
  have lt0 : ∀ x ∈ p0, x.block < W.heap.size := by obtain ⟨m, hm⟩ := k0; exact DataW.trod_lt m _ _ _ hm
  obtain ⟨eo, el, hv0, bo0, bl0⟩ := open_ext (hval 0 23 v0 rfl rfl) h0
  subst hv0
  clear hA0 hval0
  refine (extentValid_walk eo el W bo0 bl0).mono fun e W' ⟨he, bel⟩ => ?_
  subst he
  exact ⟨_, rfl, _, _, _, [], _, [], hW', trodAll_mk1 (shut_bool Try.underlying4 _), (trodAll_cons_mk (Below.trod laid_out (by kernel_rfl) (of_decide_eq_true (by kernel_rfl)) k0 bel lt0) trodAll_mk0), rfl, bel.frame _, fun h => by cases h⟩

/-- The statement. -/
theorem extentValid_holds : Rows.ExtentValidSaid :=
  OpenClaim.holds_of_wide 3 Try.f3 rfl rfl rfl rfl rfl rfl rfl ⟨rfl, rfl, rfl, rfl, rfl⟩ rfl rfl rfl rfl rfl (by kernel_rfl) Try.func3 (by kernel_rfl)
    (of_decide_eq_true (by kernel_rfl)) (by unfold Func.isWrapper; first | (rw [if_pos (by decide +kernel)]; kernel_rfl) | (rw [if_neg (by decide +kernel)]; exact ⟨rfl, rfl⟩))
    (fun os started H enc _ => extentValid_lifted os started H enc)


end Go.Proofs.Ytfdhghidjkbojaa
