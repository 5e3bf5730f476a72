/-
  Contracts of the functions of package extent and of its reference that only compute with numbers.
-/
import Derived.Test.YtfdhghidjkbojaaBase
namespace Go.Proofs.Ytfdhghidjkbojaa
set_option linter.unusedVariables false
set_option linter.unusedSimpArgs false
open Go.RowKit

/-- An extent as a value. -/
abbrev ext (o l : Int) : Value := .agg #[.int .i64 o, .int .i64 l]
def validB (o l : Int) : Bool := decide (0 ≤ o ∧ 0 ≤ l ∧ o + l ≤ 4611686018427387903)
theorem validB_iff {o l : Int} : validB o l = true ↔ 0 ≤ o ∧ 0 ≤ l ∧ o + l ≤ 4611686018427387903 := by unfold validB; exact decide_eq_true_iff

set_option maxHeartbeats 400000 in
theorem end_any (o l : Int) (w : World) (h1 : 0 ≤ o) (h2 : 0 ≤ l) (h3 : o + l ≤ 4611686018427387903) :
    Calls Try.prog 12 #[.agg #[.int .i64 o, .int .i64 l]] w fun e w' => e = .returned (.int .i64 (o + l)) ∧ Below w.heap.size w w' := by
  go_enter Try.func12, Try.ntmps12
  go_wp2
  go_ret
  exact ⟨rfl, (Below.refl _ _).alloc (Nat.le_refl _) _⟩

set_option maxHeartbeats 400000 in
theorem valid_any (o l : Int) (w : World) (hl1 : l ≤ 9223372036854775807) :
    Calls Try.prog 11 #[.agg #[.int .i64 o, .int .i64 l]] w fun e w' => e = .returned (.bool (validB o l)) ∧ Below w.heap.size w w' := by
  by_cases h1 : 0 ≤ o <;> by_cases h2 : 0 ≤ l
  all_goals
    go_enter Try.func11, Try.ntmps11
    go_wp2
    go_ret
    refine ⟨ret_bool ?_, (Below.refl _ _).alloc (Nat.le_refl _) _⟩
    rw [Bool.eq_iff_iff, validB_iff]; simp; try omega

theorem max_any (w : World) :
    Calls Try.prog 18 #[] w fun e w' => e = .returned (.int .i64 4611686018427387903) ∧ w' = w := by
  go_enter Try.func18, Try.ntmps18
  go_wp2
  go_ret
  exact ⟨rfl, rfl⟩

set_option maxHeartbeats 400000 in
theorem refvalid_any (o l : Int) (w : World) (hl1 : l ≤ 9223372036854775807) :
    Calls Try.prog 9 #[.agg #[.int .i64 o, .int .i64 l]] w fun e w' => e = .returned (.bool (validB o l)) ∧ Below w.heap.size w w' := by
  obtain ⟨b1, d1⟩ : ∃ b, decide (0 ≤ o) = b := ⟨_, rfl⟩
  obtain ⟨b2, d2⟩ : ∃ b, decide (0 ≤ l) = b := ⟨_, rfl⟩
  obtain ⟨b3, d3⟩ : ∃ b, decide (o ≤ 4611686018427387903) = b := ⟨_, rfl⟩
  cases b1 <;> cases b2 <;> cases b3
  all_goals
    go_enter Try.func9, Try.ntmps9
    go_wp2
    go_quiet ((go_at_call 18; exact Calls.quiet_of_same (max_any _)))
    go_wp2
    go_ret
    refine ⟨ret_bool ?_, below_drewN ((Below.refl _ _).alloc (Nat.le_refl _) _) _⟩
    simp only [decide_eq_true_eq, decide_eq_false_iff_not] at d1 d2 d3
    rw [Bool.eq_iff_iff, validB_iff]; simp
    first | omega | (rw [IntWalk.wrap64_in _ (by omega)]; omega)

def countE (n s : Int) : Int := if n < 1 ∨ s < 1 then 0 else (n - 1) / s + 1
theorem countE_low {n s : Int} (h : n < 1 ∨ s < 1) : countE n s = 0 := by unfold countE; rw [if_pos h]
theorem countE_up {n s : Int} (h : 1 ≤ n) (h2 : 1 ≤ s) : countE n s = (n - 1) / s + 1 := by unfold countE; rw [if_neg (by omega)]

theorem count_any (n s : Int) (w : World) (hn2 : n ≤ 9223372036854775807) (hs4 : s ≤ 9223372036854775807) :
    Calls Try.prog 27 #[.int .i64 n, .int .i64 s] w fun e w' => e = .returned (.int .i64 (countE n s)) ∧ w = w' := by
  by_cases h1 : n < 1
  · go_enter Try.func27, Try.ntmps27
    go_wp2
    all_goals
      go_ret
      exact ⟨ret_int (countE_low (.inl h1)).symm, rfl⟩
  · by_cases h2 : s < 1
    · go_enter Try.func27, Try.ntmps27
      go_wp2
      go_ret
      exact ⟨ret_int (countE_low (.inr h2)).symm, rfl⟩
    · have hq0 : 0 ≤ (n - 1) / s := Int.ediv_nonneg (by omega) (by omega)
      have hq1 : (n - 1) / s ≤ n - 1 := Int.ediv_le_self _ (by omega)
      go_enter Try.func27, Try.ntmps27
      go_wp2
      go_ret
      exact ⟨ret_int (countE_up (by omega) (by omega)).symm, rfl⟩

theorem between_any (o e : Int) (w : World) (h1 : 0 ≤ o) (h2 : o ≤ e) (h3 : e ≤ 4611686018427387903) :
    Calls Try.prog 26 #[.int .i64 o, .int .i64 e] w fun x w' => x = .returned (ext o (e - o)) ∧ Below w.heap.size w w' := by
  go_enter Try.func26, Try.ntmps26
  go_wp2
  go_returns
  refine ⟨rfl, ?_⟩
  go_grown

/-- Pieces, of a valid extent. -/
def piecesE (l s : Int) : Int := if s < 1 ∨ l = 0 ∨ 1048576 ≤ (l - 1) / s then 0 else (l - 1) / s + 1

theorem piecesE_up {l s : Int} (h : 1 ≤ s) (h2 : 1 ≤ l) (h3 : (l - 1) / s < 1048576) : piecesE l s = (l - 1) / s + 1 := by unfold piecesE; rw [if_neg (by omega)]
theorem piecesE_low {l s : Int} (h : s < 1 ∨ l = 0 ∨ 1048576 ≤ (l - 1) / s) : piecesE l s = 0 := by unfold piecesE; rw [if_pos h]

theorem pieces_any (o l s : Int) (w : World) (h0 : 0 ≤ l) (h1 : l ≤ 4611686018427387903) (hs : s ≤ 9223372036854775807) :
    Calls Try.prog 20 #[.agg #[.int .i64 o, .int .i64 l], .int .i64 s] w fun e w' => e = .returned (.int .i64 (piecesE l s)) ∧ Below w.heap.size w w' := by
  by_cases h2 : s < 1
  · go_enter Try.func20, Try.ntmps20
    go_wp2
    go_ret
    exact ⟨ret_int (piecesE_low (.inl h2)).symm, by go_grown⟩
  · by_cases h3 : l = 0
    · subst h3
      go_enter Try.func20, Try.ntmps20
      go_wp2
      go_ret
      exact ⟨ret_int (piecesE_low (.inr (.inl rfl))).symm, by go_grown⟩
    · have hq0 : 0 ≤ (l - 1) / s := Int.ediv_nonneg (by omega) (by omega)
      have hq1 : (l - 1) / s ≤ l - 1 := Int.ediv_le_self _ (by omega)
      by_cases h4 : 1048576 ≤ (l - 1) / s
      · go_enter Try.func20, Try.ntmps20
        go_wp2
        go_ret
        exact ⟨ret_int (piecesE_low (.inr (.inr h4))).symm, by go_grown⟩
      · go_enter Try.func20, Try.ntmps20
        go_wp2
        go_ret
        exact ⟨ret_int (piecesE_up (by omega) (by omega) (by omega)).symm, by go_grown⟩

theorem ret_ext {a b c d : Int} (h : a = c) (h2 : b = d) : Ending.returned (ext a b) = .returned (ext c d) := by rw [h, h2]

theorem piece_any (o l s i : Int) (w : World) (h0 : 0 ≤ o) (h1 : 0 ≤ l) (h3 : o + l ≤ 4611686018427387903) (hs : 1 ≤ s) (hs2 : s ≤ 9223372036854775807) (hi : 0 ≤ i) (hi1 : i ≤ 9223372036854775807) (hi2 : i * s ≤ l) :
    Calls Try.prog 21 #[.agg #[.int .i64 o, .int .i64 l], .int .i64 s, .int .i64 i] w fun e w' => e = .returned (ext (o + i * s) (min s (l - i * s))) ∧ Below w.heap.size w w' := by
  have hi3 : 0 ≤ i * s := Int.mul_nonneg hi (by omega)
  by_cases h : s ≤ l - i * s
  all_goals
    go_enter Try.func21, Try.ntmps21
    go_wp2
    go_returns
    exact ⟨ret_ext rfl (by omega), by go_grown⟩


def overE (o l p m : Int) : Int × Int := if minI (o + l) (p + m) ≤ maxI o p then (0, 0) else (maxI o p, minI (o + l) (p + m) - maxI o p)

theorem overE_no {o l p m : Int} (h : minI (o + l) (p + m) ≤ maxI o p) : overE o l p m = (0, 0) := if_pos h
theorem overE_yes {o l p m : Int} (h : maxI o p < minI (o + l) (p + m)) : overE o l p m = (maxI o p, minI (o + l) (p + m) - maxI o p) := if_neg (by omega)

theorem refoverlap_any (o l p m : Int) (w : World) (h0 : 0 ≤ o) (h1 : 0 ≤ l) (h2 : o + l ≤ 4611686018427387903) (h3 : 0 ≤ p) (h4 : 0 ≤ m) (h5 : p + m ≤ 4611686018427387903) :
    Calls Try.prog 14 #[.agg #[.int .i64 o, .int .i64 l], .agg #[.int .i64 p, .int .i64 m]] w fun e w' => e = .returned (ext (overE o l p m).1 (overE o l p m).2) ∧ Below w.heap.size w w' := by
  have hm1 : (if o < p then p else o) = maxI o p := rfl
  have hm2 : (if p + m < o + l then p + m else o + l) = minI (o + l) (p + m) := rfl
  have ⟨x1, x2, x3⟩ := maxI_bd o p
  have ⟨y1, y2, y3⟩ := minI_bd (o + l) (p + m)
  by_cases c : minI (o + l) (p + m) ≤ maxI o p
  · have HE := Lib.hid (overE_no c)
    go_enter Try.func14, Try.ntmps14
    go_wp2
    go_returns
    exact ⟨by rw [HE.out], by go_grown⟩
  · have HE := Lib.hid (overE_yes (Int.not_le.mp c))
    go_enter Try.func14, Try.ntmps14
    go_wp2
    go_returns
    exact ⟨by rw [HE.out], by go_grown⟩

end Go.Proofs.Ytfdhghidjkbojaa
