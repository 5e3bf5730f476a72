/-
  slices.Equal at extents; the example of the chapter.
-/
import Derived.Test.YtfdhghidjkbojaaExtE
import Derived.Test.YtfdhghidjkbojaaExtB
namespace Go.Proofs.Ytfdhghidjkbojaa
set_option linter.unusedVariables false
set_option linter.unusedSimpArgs false
open Go.RowKit Go.Shelf

theorem split_no (o l s : Int) (w : World) (h0 : 0 ≤ o) (h1 : 0 ≤ l) (h2 : o + l ≤ 4611686018427387903) (h4 : s ≤ 9223372036854775807) (hc : countE l s < 1 ∨ 1048576 < countE l s) :
    Calls Try.prog 19 #[.agg #[.int .i64 o, .int .i64 l], .int .i64 s] w fun e w' => e = .returned (.slice none 0 0) ∧ Below w.heap.size w w' := by
  obtain ⟨c, hcc⟩ : ∃ c, countE l s = c := ⟨_, rfl⟩
  rw [hcc] at hc
  have HC := Lib.hid hcc
  clear hcc
  by_cases hlow : c < 1
  all_goals
    have hup : c < 1 ∨ 1048576 < c := by omega
    clear hc
    go_enter Try.func19, Try.ntmps19
    go_wp2_with (go_at_call 27; refine (count_any _ _ _ (by omega) (by omega)).mono ?_; rintro e w' ⟨rfl, rfl⟩; rw [HC.out])
    all_goals first
      | (exfalso; omega)
      | (go_ret; exact ⟨rfl, by go_grown⟩)

set_option maxHeartbeats 1000000 in
theorem equal_any (a1 a2 : Option Addr) (n1 c1 n2 c2 : Nat) (xs ys : List (Int × Int)) (w : World) (hx : IsExts w a1 n1 xs) (hy : IsExts w a2 n2 ys) (hl1 : n1 ≤ 9223372036854775807) (hl2 : n2 ≤ 9223372036854775807) (heq : xs = ys) :
    Calls Try.prog 25 #[.slice a1 n1 c1, .slice a2 n2 c2] w fun e w' => e = .returned (.bool true) ∧ Below w.heap.size w w' := by
  subst heq
  obtain ⟨hlen1, hx⟩ := hx
  obtain ⟨hlen2, hy⟩ := hy
  obtain rfl : n1 = n2 := by omega
  rcases hx with h0 | ⟨b, off, rfl, hb, hcell⟩
  · subst h0
    clear hy hlen1 hlen2
    go_enter Try.func25, Try.ntmps25
    go_wp2
    go_rounds 1
    go_ret
    exact ⟨rfl, Below.refl _ _⟩
  rcases hy with h0 | ⟨b', off', rfl, hb', hcell'⟩
  · subst h0
    clear hcell hlen1 hlen2
    go_enter Try.func25, Try.ntmps25
    go_wp2
    go_rounds 1
    go_ret
    exact ⟨rfl, Below.refl _ _⟩
  have HC := Lib.hid hcell
  have HC' := Lib.hid hcell'
  have HL := Lib.hid hlen1
  clear hcell hcell' hlen1 hlen2
  go_enter Try.func25, Try.ntmps25
  go_wp2
  go_loopw [13] (fun i wr => ∃ k : Nat, k ≤ n1 ∧ i = .int .i64 k ∧ Below w.heap.size w wr) (fun i _ => n1 - (intOf i).toNat)
  case atStart => exact ⟨0, Nat.zero_le _, rfl, Below.refl _ _⟩
  case round =>
    obtain ⟨k, hk, rfl, hbw⟩ := hrel
    by_cases hlt : k < n1
    · have ⟨e1, e2⟩ := ext_cells hb HC.out hbw k hlt
      have ⟨e3, e4⟩ := ext_cells hb' HC'.out hbw k hlt
      have hN : wr.heap.size ≤ wr.heap.size := Nat.le_refl _
      have hbl := Nat.lt_of_lt_of_le hb hbw.size
      have hbl' := Nat.lt_of_lt_of_le hb' hbw.size
      go_wp2
      refine wpFrom_start (by kernel_rfl) ?_
      refine wpFrom_seq (k := 0) 9 (Kept wr) (by kernel_rfl) (kept_drew _) ?_
      iterate 9 (first
        | (apply SeqM.take rfl
           · (intro wx hSx; obtain ⟨hcx, hfx, hbx⟩ := hSx; go_simp; (try simp (disch := omega) only [IntWalk.i64_in]); first | with_reducible rfl | exact ⟨rfl, rfl⟩)
           simp only [Act.put, List.setIfInBounds_toArray, List.set_cons_zero, List.set_cons_succ])
        | (apply SeqM.skip rfl
           simp only [Act.put, List.setIfInBounds_toArray, List.set_cons_zero, List.set_cons_succ]))
      refine SeqM.done ?_
      rintro w2 ⟨hc2, hf2, hb2⟩
      refine wpFrom_end ?_
      go_wp2
      go_roundw
      case rel => exact ⟨k + 1, by omega, by go_num, below_step hbw hb2 (Nat.le_refl _)⟩
      case measure => simp [intOf]; omega
    · go_wp2
      go_ret
      exact ⟨rfl, hbw⟩

theorem exts_of_row {w : World} {base g N cap : Nat} {o l s : Int} (h : w.ownsRow base 23 2 (.slice (some ⟨g, 0, none⟩) N cap) N (rowsV o l s N)) : IsExts w (some ⟨g, 0, none⟩) N (partsL o l s N) := by
  refine ⟨partsL_length o l s N, .inr ⟨g, 0, rfl, ownsRow_lt h, fun i hi => ?_⟩⟩
  obtain ⟨r1, r2⟩ := rowsV_at o l s N i hi
  have e1 := ownsRow_cell h _ _ r1
  have e2 := ownsRow_cell h _ _ r2
  unfold eo el
  rw [partsL_at o l s N i hi]
  simpa using ⟨e1, e2⟩

theorem IsExts.later {w w' : World} {a : Option Addr} {n : Nat} {xs : List (Int × Int)} (h : IsExts w a n xs) (hb : Below w.heap.size w w') : IsExts w' a n xs := by
  obtain ⟨h1, h2 | ⟨b, off, ha, hlt, hc⟩⟩ := h
  · exact ⟨h1, .inl h2⟩
  · exact ⟨h1, .inr ⟨b, off, ha, Nat.lt_of_lt_of_le hlt hb.size, fun i hi => ext_cells hlt hc hb i hi⟩⟩

theorem example_parts : partsL 5 7 3 3 = [(5, 3), (8, 3), (11, 1)] := by decide

theorem example_new (w : World) : IsExts (w.alloc (.cells #[.int .i64 5, .int .i64 3, .int .i64 8, .int .i64 3, .int .i64 11, .int .i64 1] 23)) (some ⟨w.heap.size, 0, none⟩) 3 [(5, 3), (8, 3), (11, 1)] := by
  refine ⟨rfl, .inr ⟨_, 0, rfl, by simp, fun i hi => ?_⟩⟩
  match i, hi with
  | 0, _ => exact ⟨by simp [go_sem, eo], by simp [go_sem, el]⟩
  | 1, _ => exact ⟨by simp [go_sem, eo], by simp [go_sem, el]⟩
  | 2, _ => exact ⟨by simp [go_sem, eo], by simp [go_sem, el]⟩

set_option maxHeartbeats 1000000 in
theorem alive_any (w : World) : Calls Try.prog 10 #[] w fun e w' => e = .returned (.bool true) ∧ Below w.heap.size w w' := by
  go_enter Try.func10, Try.ntmps10
  go_wp2_with (first
    | (go_at_call 19; refine (split_yes 5 7 3 _ (by omega) (by omega) (by omega) (by omega) (by omega) 3 (by omega) (by omega) (by decide) (by decide) (by decide)).mono ?_
       rintro e w1 ⟨rfl, hrow, hb1⟩
       have HX := Lib.hid (exts_of_row hrow)
       clear hrow)
    | (go_at_call 25
       refine (equal_any _ _ _ _ _ _ (partsL 5 7 3 3) [(5, 3), (8, 3), (11, 1)] _ (HX.out.later ((Below.refl _ _).alloc (Nat.le_refl _) _)) (example_new _) (by omega) (by omega) example_parts).mono ?_
       rintro e w2 ⟨rfl, hb2⟩)
    | (go_at_call 12; refine (end_any _ _ _ (by omega) (by omega) (by omega)).mono ?_; rintro e w3 ⟨rfl, hb3⟩)
    | (go_at_call 11; refine (valid_any _ _ _ (by omega)).mono ?_; rintro e w4 ⟨rfl, hb4⟩))
  go_ret
  exact ⟨ret_bool (by decide), below_step (below_step (below_step hb1 (((Below.refl _ _).alloc (Nat.le_refl _) _).trans (hb2.mono (by simp))) (Nat.le_refl _)) hb3 (Nat.le_refl _)) hb4 (Nat.le_refl _)⟩
end Go.Proofs.Ytfdhghidjkbojaa
