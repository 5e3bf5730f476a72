/-
  Contracts of the functions over slices of extents.
-/
import Derived.Test.YtfdhghidjkbojaaExtA
namespace Go.Proofs.Ytfdhghidjkbojaa
set_option linter.unusedVariables false
set_option linter.unusedSimpArgs false
open Go.RowKit

/-- Offset and length of element k. -/
def eo (xs : List (Int × Int)) (k : Nat) : Int := (xs.getD k (0, 0)).1
def el (xs : List (Int × Int)) (k : Nat) : Int := (xs.getD k (0, 0)).2

/-- A slice of extents reads as the list xs. -/
def IsExts (w : World) (a : Option Addr) (len : Nat) (xs : List (Int × Int)) : Prop :=
  xs.length = len ∧ (len = 0 ∨ ∃ b off, a = some ⟨b, off, none⟩ ∧ b < w.heap.size ∧ ∀ i, i < len → w.cell? ⟨b, off + i * 2, none⟩ = some (.int .i64 (eo xs i)) ∧ w.cell? ⟨b, off + i * 2 + 1, none⟩ = some (.int .i64 (el xs i)))

theorem ext_cells {w wr : World} {b off len : Nat} {xs : List (Int × Int)} (hb : b < w.heap.size) (hc : ∀ i, i < len → w.cell? ⟨b, off + i * 2, none⟩ = some (.int .i64 (eo xs i)) ∧ w.cell? ⟨b, off + i * 2 + 1, none⟩ = some (.int .i64 (el xs i)))
    (h : Below w.heap.size w wr) (k : Nat) (hk : k < len) : wr.cell? ⟨b, off + k * 2, none⟩ = some (.int .i64 (eo xs k)) ∧ wr.cell? ⟨b, off + k * 2 + 1, none⟩ = some (.int .i64 (el xs k)) :=
  ⟨(h.cell (p := ⟨b, off + k * 2, none⟩) hb).trans (hc k hk).1, (h.cell (p := ⟨b, off + k * 2 + 1, none⟩) hb).trans (hc k hk).2⟩

theorem take_snoc {α : Type} (xs : List α) (d : α) (k : Nat) (h : k < xs.length) : xs.take (k + 1) = xs.take k ++ [xs.getD k d] := by
  rw [List.take_succ_eq_append_getElem h]
  simp [h]

/-- Do all elements pass a test? -/
def allB (t : Int → Int → Bool) (xs : List (Int × Int)) : Bool := xs.all fun x => t x.1 x.2
theorem allB_snoc (t : Int → Int → Bool) (xs : List (Int × Int)) (k : Nat) (h : k < xs.length) (ha : allB t (xs.take k) = true) (hv : t (eo xs k) (el xs k) = true) : allB t (xs.take (k + 1)) = true := by
  rw [take_snoc xs (0, 0) k h]; unfold allB at *; rw [List.all_append, ha]; simpa [eo, el] using hv
theorem allB_false (t : Int → Int → Bool) (xs : List (Int × Int)) (k : Nat) (h : k < xs.length) (hv : t (eo xs k) (el xs k) = false) : allB t xs = false := by
  unfold allB
  rw [List.all_eq_false]
  exact ⟨xs.getD k (0, 0), by simp [h], by unfold eo el at hv; rw [hv]; simp⟩
theorem allB_all (t : Int → Int → Bool) (xs : List (Int × Int)) (k len : Nat) (hl : xs.length = len) (hk : k ≤ len) (hn : ¬ k < len) (ha : allB t (xs.take k) = true) : allB t xs = true := by
  rw [List.take_of_length_le (by omega)] at ha; exact ha

set_option maxHeartbeats 1000000 in
theorem refall_any (a : Option Addr) (len cap : Nat) (xs : List (Int × Int)) (w : World) (hx : IsExts w a len xs) (hl : len ≤ 9223372036854775807) (hi : ∀ i, i < len → el xs i ≤ 9223372036854775807) :
    Calls Try.prog 23 #[.slice a len cap] w fun e w' => e = .returned (.bool (allB validB xs)) ∧ Below w.heap.size w w' := by
  obtain ⟨hlen, h0 | ⟨b, off, rfl, hb, hcell⟩⟩ := hx
  · subst h0
    obtain rfl : xs = [] := List.length_eq_zero_iff.1 hlen
    clear hlen hi
    go_enter Try.func23, Try.ntmps23
    go_wp2
    go_rounds 1
    go_ret
    exact ⟨rfl, Below.refl _ _⟩
  have HL := Lib.hid hlen
  have HC := Lib.hid hcell
  have HI := Lib.hid hi
  clear hlen hcell hi
  go_enter Try.func23, Try.ntmps23
  go_wp2
  go_loopw [3] (fun i wr => ∃ k : Nat, k ≤ len ∧ i = .int .i64 k ∧ allB validB (xs.take k) = true ∧ Below w.heap.size w wr) (fun i _ => len - (intOf i).toNat)
  case atStart => exact ⟨0, Nat.zero_le _, rfl, rfl, Below.refl _ _⟩
  case round =>
    obtain ⟨k, hk, rfl, hall, hbw⟩ := hrel
    have HA := Lib.hid hall
    clear hall
    by_cases hlt : k < len
    · have ⟨e1, e2⟩ := ext_cells hb HC.out hbw k hlt
      have hik := HI.out k hlt
      obtain ⟨v, hv⟩ : ∃ v, validB (eo xs k) (el xs k) = v := ⟨_, rfl⟩
      have HV := Lib.hid hv
      cases v
      · go_wp2_with (go_at_call 9; refine (refvalid_any _ _ _ (by assumption)).mono ?_; rintro e w' ⟨rfl, hb'⟩)
        go_ret
        exact ⟨ret_bool (allB_false _ xs k (by rw [HL.out]; exact hlt) HV.out).symm, below_step hbw hb' (Nat.le_refl _)⟩
      · go_wp2_with (go_at_call 9; refine (refvalid_any _ _ _ (by assumption)).mono ?_; rintro e w' ⟨rfl, hb'⟩)
        go_roundw
        case rel => exact ⟨k + 1, by omega, by go_num, allB_snoc _ xs k (by rw [HL.out]; exact hlt) HA.out HV.out, below_step hbw hb' (Nat.le_refl _)⟩
        case measure => simp [intOf]; omega
    · go_wp2
      go_ret
      exact ⟨ret_bool (allB_all _ xs k len HL.out hk hlt HA.out).symm, hbw⟩

/-- The sum of the lengths, or none if it exceeds the greatest length. -/
def totS : Int → List (Int × Int) → Option Int
  | n, [] => some n
  | n, x :: xs => if 4611686018427387903 - n < x.2 then none else totS (n + x.2) xs
theorem totS_step (xs : List (Int × Int)) (k : Nat) (h : k < xs.length) (n : Int) : totS n (xs.drop k) = if 4611686018427387903 - n < el xs k then none else totS (n + el xs k) (xs.drop (k + 1)) := by
  rw [List.drop_eq_getElem_cons h]
  simp [totS, el, h]
def totN (xs : List (Int × Int)) : Int := (totS 0 xs).getD 0
def totB (xs : List (Int × Int)) : Bool := (totS 0 xs).isSome
theorem tot_none {xs : List (Int × Int)} (h : totS 0 xs = none) : totN xs = 0 ∧ totB xs = false := by unfold totN totB; rw [h]; exact ⟨rfl, rfl⟩
theorem tot_some {xs : List (Int × Int)} {n : Int} (h : totS 0 xs = some n) : totN xs = n ∧ totB xs = true := by unfold totN totB; rw [h]; exact ⟨rfl, rfl⟩

theorem ret_tot {a c : Int} {b d : Bool} (h : a = c ∧ b = d) : Ending.returned (.tuple #[.int .i64 a, .bool b]) = .returned (.tuple #[.int .i64 c, .bool d]) := by rw [h.1, h.2]

set_option maxHeartbeats 1000000 in
theorem reftotal_any (a : Option Addr) (len cap : Nat) (xs : List (Int × Int)) (w : World) (hx : IsExts w a len xs) (hl : len ≤ 9223372036854775807) (hi : ∀ i, i < len → 0 ≤ el xs i ∧ el xs i ≤ 4611686018427387903) :
    Calls Try.prog 24 #[.slice a len cap] w fun e w' => e = .returned (.tuple #[.int .i64 (totN xs), .bool (totB xs)]) ∧ Below w.heap.size w w' := by
  obtain ⟨hlen, h0 | ⟨b, off, rfl, hb, hcell⟩⟩ := hx
  · subst h0
    obtain rfl : xs = [] := List.length_eq_zero_iff.1 hlen
    clear hlen hi
    go_enter Try.func24, Try.ntmps24
    go_wp2
    go_rounds 1
    go_ret2
    exact ⟨rfl, Below.refl _ _⟩
  have HL := Lib.hid hlen
  have HC := Lib.hid hcell
  have HI := Lib.hid hi
  clear hlen hcell hi
  go_enter Try.func24, Try.ntmps24
  go_wp2
  go_loopw [4, 5] (fun n i wr => ∃ (k : Nat) (s : Int), k ≤ len ∧ i = .int .i64 k ∧ n = .int .i64 s ∧ 0 ≤ s ∧ s ≤ 4611686018427387903 ∧ totS s (xs.drop k) = totS 0 xs ∧ Below w.heap.size w wr) (fun _ i _ => len - (intOf i).toNat)
  case atStart => exact ⟨0, 0, Nat.zero_le _, rfl, rfl, by omega, by omega, rfl, Below.refl _ _⟩
  case round =>
    obtain ⟨k, s, hk, rfl, rfl, hs0, hs1, htot, hbw⟩ := hrel
    have HA := Lib.hid htot
    clear htot
    by_cases hlt : k < len
    · have ⟨e1, e2⟩ := ext_cells hb HC.out hbw k hlt
      have ⟨hi0, hi1⟩ := HI.out k hlt
      have HT := Lib.hid (totS_step xs k (by rw [HL.out]; exact hlt) s)
      have hN : wr.heap.size ≤ wr.heap.size := Nat.le_refl _
      have hbl := Nat.lt_of_lt_of_le hb hbw.size
      go_wp2
      refine wpFrom_start (by kernel_rfl) ?_
      refine wpFrom_seq (k := 0) 9 (Kept wr) (by kernel_rfl) (kept_drew _) ?_
      iterate 9 (first
        | (apply SeqM.take rfl
           · (intro wx hSx; obtain ⟨hcx, hfx, hbx⟩ := hSx; go_simp; (try simp (disch := omega) only [IntWalk.i64_in]); first | with_reducible rfl | exact ⟨rfl, rfl⟩)
           simp only [Act.put, List.setIfInBounds_toArray, List.set_cons_zero, List.set_cons_succ])
        | (apply SeqM.call rfl
           · (intro wx hSx; obtain ⟨hcx, hfx, hbx⟩ := hSx; go_simp; (try simp (disch := omega) only [IntWalk.i64_in]); exact ⟨rfl, rfl⟩)
           · (intro wx hSx; (first
              | (go_at_call 18; refine (max_any _).mono ?_; rintro e w' ⟨rfl, rfl⟩; first | exact ⟨rfl, kept_step hSx hb⟩ | exact ⟨rfl, hSx⟩)
              ))
           simp only [Act.put, List.setIfInBounds_toArray, List.set_cons_zero, List.set_cons_succ])
        | (apply SeqM.skip rfl
           simp only [Act.put, List.setIfInBounds_toArray, List.set_cons_zero, List.set_cons_succ]))
      refine SeqM.done ?_
      rintro w2 ⟨hc2, hf2, hb2⟩
      refine wpFrom_end ?_
      have hc2' : w2.cell? ⟨b, off + k * 2 + 1, none⟩ = some (.int .i64 (el xs k)) := (hb2.cell (p := ⟨b, off + k * 2 + 1, none⟩) hbl).trans e2
      by_cases ht : 4611686018427387903 - s < el xs k
      · go_wp2
        go_ret2
        have e : totS 0 xs = none := by rw [← HA.out, HT.out, if_pos ht]
        exact ⟨ret_tot ⟨(tot_none e).1.symm, (tot_none e).2.symm⟩, below_step hbw hb2 (Nat.le_refl _)⟩
      · go_wp2
        go_roundw
        case rel => exact ⟨k + 1, s + el xs k, by omega, by go_num, rfl, by omega, by omega, by rw [← HA.out, HT.out, if_neg ht], below_step hbw hb2 (Nat.le_refl _)⟩
        case measure => simp [intOf]; omega
    · go_wp2
      go_ret2
      have e : totS 0 xs = some s := by rw [← HA.out, List.drop_of_length_le (by rw [HL.out]; omega)]; rfl
      exact ⟨ret_tot ⟨(tot_some e).1.symm, (tot_some e).2.symm⟩, hbw⟩

set_option maxHeartbeats 1000000 in
theorem total_any (a : Option Addr) (len cap : Nat) (xs : List (Int × Int)) (w : World) (hx : IsExts w a len xs) (hl : len ≤ 9223372036854775807) (hi : ∀ i, i < len → 0 ≤ el xs i ∧ el xs i ≤ 4611686018427387903) :
    Calls Try.prog 22 #[.slice a len cap] w fun e w' => e = .returned (.tuple #[.int .i64 (totN xs), .bool (totB xs)]) ∧ Below w.heap.size w w' := by
  obtain ⟨hlen, h0 | ⟨b, off, rfl, hb, hcell⟩⟩ := hx
  · subst h0
    obtain rfl : xs = [] := List.length_eq_zero_iff.1 hlen
    clear hlen hi
    go_enter Try.func22, Try.ntmps22
    go_wp2
    go_rounds 1
    go_ret2
    exact ⟨rfl, Below.refl _ _⟩
  have HL := Lib.hid hlen
  have HC := Lib.hid hcell
  have HI := Lib.hid hi
  clear hlen hcell hi
  go_enter Try.func22, Try.ntmps22
  go_wp2
  go_loopw [4, 9] (fun n i wr => ∃ (k : Nat) (s : Int), k ≤ len ∧ i = .int .i64 k ∧ n = .int .i64 s ∧ 0 ≤ s ∧ s ≤ 4611686018427387903 ∧ totS s (xs.drop k) = totS 0 xs ∧ Below w.heap.size w wr) (fun _ i _ => len - (intOf i).toNat)
  case atStart => exact ⟨0, 0, Nat.zero_le _, rfl, rfl, by omega, by omega, rfl, Below.refl _ _⟩
  case round =>
    obtain ⟨k, s, hk, rfl, rfl, hs0, hs1, htot, hbw⟩ := hrel
    have HA := Lib.hid htot
    clear htot
    by_cases hlt : k < len
    · have ⟨e1, e2⟩ := ext_cells hb HC.out hbw k hlt
      have ⟨hi0, hi1⟩ := HI.out k hlt
      have HT := Lib.hid (totS_step xs k (by rw [HL.out]; exact hlt) s)
      by_cases ht : 4611686018427387903 - s < el xs k
      · go_wp2
        go_ret2
        have e : totS 0 xs = none := by rw [← HA.out, HT.out, if_pos ht]
        exact ⟨ret_tot ⟨(tot_none e).1.symm, (tot_none e).2.symm⟩, hbw.alloc hbw.size _⟩
      · go_wp2
        go_roundw
        case rel => exact ⟨k + 1, s + el xs k, by omega, by go_num, rfl, by omega, by omega, by rw [← HA.out, HT.out, if_neg ht], hbw.alloc hbw.size _⟩
        case measure => simp [intOf]; omega
    · go_wp2
      go_ret2
      have e : totS 0 xs = some s := by rw [← HA.out, List.drop_of_length_le (by rw [HL.out]; omega)]; rfl
      exact ⟨ret_tot ⟨(tot_some e).1.symm, (tot_some e).2.symm⟩, hbw⟩

/-- Does an extent lie in another one? -/
def insB (o l p m : Int) : Bool := decide (o ≤ p ∧ p + m ≤ o + l)
theorem ins_low {o l p m : Int} (h : p < o) : insB o l p m = false := by unfold insB; exact decide_eq_false (by omega)
theorem ins_high {o l p m : Int} (h : o + l < p + m) : insB o l p m = false := by unfold insB; exact decide_eq_false (by omega)
theorem ins_yes {o l p m : Int} (h : ¬ p < o) (h2 : ¬ o + l < p + m) : insB o l p m = true := by unfold insB; exact decide_eq_true (by omega)

set_option maxHeartbeats 2000000 in
theorem contains_any (o l : Int) (a : Option Addr) (len cap : Nat) (xs : List (Int × Int)) (w : World) (h0 : 0 ≤ o) (h1 : 0 ≤ l) (h2 : o + l ≤ 4611686018427387903) (hx : IsExts w a len xs) (hl : len ≤ 9223372036854775807)
    (hi : ∀ i, i < len → 0 ≤ eo xs i ∧ 0 ≤ el xs i ∧ eo xs i + el xs i ≤ 4611686018427387903) :
    Calls Try.prog 15 #[.agg #[.int .i64 o, .int .i64 l], .slice a len cap] w fun e w' => e = .returned (.bool (allB (insB o l) xs)) ∧ Below w.heap.size w w' := by
  obtain ⟨hlen, hz | ⟨b, off, rfl, hb, hcell⟩⟩ := hx
  · subst hz
    obtain rfl : xs = [] := List.length_eq_zero_iff.1 hlen
    clear hlen hi
    go_enter Try.func15, Try.ntmps15
    go_wp2
    go_rounds 1
    go_ret
    exact ⟨rfl, by go_grown⟩
  have HL := Lib.hid hlen
  have HC := Lib.hid hcell
  have HI := Lib.hid hi
  clear hlen hcell hi
  go_enter Try.func15, Try.ntmps15
  go_wp2
  go_loopw [9] (fun i wr => ∃ k : Nat, k ≤ len ∧ i = .int .i64 k ∧ allB (insB o l) (xs.take k) = true ∧ wr.cell? ⟨w.heap.size, 0, none⟩ = some (.int .i64 o) ∧ wr.cell? ⟨w.heap.size, 1, none⟩ = some (.int .i64 l) ∧ w.heap.size + 1 ≤ wr.heap.size ∧ Below w.heap.size w wr) (fun i _ => len - (intOf i).toNat)
  case atStart => exact ⟨0, Nat.zero_le _, rfl, rfl, by simp [go_sem], by simp [go_sem], by simp, by go_grown⟩
  case round =>
    obtain ⟨k, hk, rfl, hall, hc5, hc6, hsz, hbw⟩ := hrel
    have HA := Lib.hid hall
    clear hall
    by_cases hlt : k < len
    · have ⟨e1, e2⟩ := ext_cells hb HC.out hbw k hlt
      have ⟨hi0, hi1, hi2⟩ := HI.out k hlt
      have hbl := Nat.lt_of_lt_of_le hb hbw.size
      obtain ⟨b1, d1⟩ : ∃ b, decide (eo xs k < o) = b := ⟨_, rfl⟩
      obtain ⟨b2, d2⟩ : ∃ b, decide (o + l < eo xs k + el xs k) = b := ⟨_, rfl⟩
      have hlt1 : w.heap.size < wr.heap.size + 1 := by omega
      cases b1
      · cases b2
        · have hins := Lib.hid (ins_yes (of_decide_eq_false d1) (of_decide_eq_false d2))
          go_wp2
          refine wp_world _ (fun w1 => w1.cell? ⟨w.heap.size, 0, none⟩ = some (.int .i64 o) ∧ w1.cell? ⟨w.heap.size, 1, none⟩ = some (.int .i64 l) ∧ w1.cell? ⟨wr.heap.size, 0, none⟩ = some (.int .i64 (eo xs k)) ∧ w1.cell? ⟨wr.heap.size, 1, none⟩ = some (.int .i64 (el xs k)) ∧ Below w.heap.size w w1 ∧ Below wr.heap.size wr w1 ∧ wr.heap.size + 1 ≤ w1.heap.size)
            ⟨(old_cell (by omega)).trans hc5, (old_cell (by omega)).trans hc6, by simp [go_sem], by simp [go_sem], hbw.alloc hbw.size _, (Below.refl _ _).alloc (Nat.le_refl _) _, by simp⟩ ?_
          rintro w1 ⟨p1, p2, p3, p4, hb1, hbr1, hN⟩
          refine wpFrom_start (by kernel_rfl) ?_
          refine wpFrom_seq (k := 0) 12 (Kept w1) (by kernel_rfl) (kept_drew _) ?_
          iterate 12 (first
            | (apply SeqM.take rfl
               · (intro wx hSx; obtain ⟨hcx, hfx, hbx⟩ := hSx; go_simp; (try simp (disch := omega) only [IntWalk.i64_in]); first | with_reducible rfl | exact ⟨rfl, rfl⟩)
               simp only [Act.put, List.setIfInBounds_toArray, List.set_cons_zero, List.set_cons_succ])
            | (apply SeqM.call rfl
               · (intro wx hSx; obtain ⟨hcx, hfx, hbx⟩ := hSx; go_simp; (try simp (disch := omega) only [IntWalk.i64_in]); exact ⟨rfl, rfl⟩)
               · (intro wx hSx; (first
                  | (go_at_call 12; refine (end_any _ _ _ (by omega) (by omega) (by omega)).mono ?_; rintro e w' ⟨rfl, hb⟩; first | exact ⟨rfl, kept_step hSx hb⟩ | exact ⟨rfl, hSx⟩)
                  ))
               simp only [Act.put, List.setIfInBounds_toArray, List.set_cons_zero, List.set_cons_succ])
            | (apply SeqM.skip rfl
               simp only [Act.put, List.setIfInBounds_toArray, List.set_cons_zero, List.set_cons_succ]))
          refine SeqM.done ?_
          rintro w2 ⟨hc2, hf2, hb2⟩
          refine wpFrom_end ?_
          go_wp2
          go_roundw
          case rel =>
            refine ⟨k + 1, by omega, by go_num, allB_snoc _ xs k (by rw [HL.out]; exact hlt) HA.out hins.out, ?_, ?_, ?_, hb1.trans (hb2.mono (by omega))⟩
            · rw [hc2 _ _ (by rw [p1]; rfl)]; exact p1
            · rw [hc2 _ _ (by rw [p2]; rfl)]; exact p2
            · have := hb2.size; omega
          case measure => simp [intOf]; omega
        · have hins := Lib.hid (ins_high (of_decide_eq_true d2))
          go_wp2
          refine wp_world _ (fun w1 => w1.cell? ⟨w.heap.size, 0, none⟩ = some (.int .i64 o) ∧ w1.cell? ⟨w.heap.size, 1, none⟩ = some (.int .i64 l) ∧ w1.cell? ⟨wr.heap.size, 0, none⟩ = some (.int .i64 (eo xs k)) ∧ w1.cell? ⟨wr.heap.size, 1, none⟩ = some (.int .i64 (el xs k)) ∧ Below w.heap.size w w1 ∧ Below wr.heap.size wr w1 ∧ wr.heap.size + 1 ≤ w1.heap.size)
            ⟨(old_cell (by omega)).trans hc5, (old_cell (by omega)).trans hc6, by simp [go_sem], by simp [go_sem], hbw.alloc hbw.size _, (Below.refl _ _).alloc (Nat.le_refl _) _, by simp⟩ ?_
          rintro w1 ⟨p1, p2, p3, p4, hb1, hbr1, hN⟩
          refine wpFrom_start (by kernel_rfl) ?_
          refine wpFrom_seq (k := 0) 12 (Kept w1) (by kernel_rfl) (kept_drew _) ?_
          iterate 12 (first
            | (apply SeqM.take rfl
               · (intro wx hSx; obtain ⟨hcx, hfx, hbx⟩ := hSx; go_simp; (try simp (disch := omega) only [IntWalk.i64_in]); first | with_reducible rfl | exact ⟨rfl, rfl⟩)
               simp only [Act.put, List.setIfInBounds_toArray, List.set_cons_zero, List.set_cons_succ])
            | (apply SeqM.call rfl
               · (intro wx hSx; obtain ⟨hcx, hfx, hbx⟩ := hSx; go_simp; (try simp (disch := omega) only [IntWalk.i64_in]); exact ⟨rfl, rfl⟩)
               · (intro wx hSx; (first
                  | (go_at_call 12; refine (end_any _ _ _ (by omega) (by omega) (by omega)).mono ?_; rintro e w' ⟨rfl, hb⟩; first | exact ⟨rfl, kept_step hSx hb⟩ | exact ⟨rfl, hSx⟩)
                  ))
               simp only [Act.put, List.setIfInBounds_toArray, List.set_cons_zero, List.set_cons_succ])
            | (apply SeqM.skip rfl
               simp only [Act.put, List.setIfInBounds_toArray, List.set_cons_zero, List.set_cons_succ]))
          refine SeqM.done ?_
          rintro w2 ⟨hc2, hf2, hb2⟩
          refine wpFrom_end ?_
          go_wp2
          go_ret
          exact ⟨ret_bool (allB_false _ xs k (by rw [HL.out]; exact hlt) hins.out).symm, hb1.trans (hb2.mono (by omega))⟩
      · have hins := Lib.hid (ins_low (l := l) (m := el xs k) (of_decide_eq_true d1))
        go_wp2
        refine wp_world _ (fun w1 => w1.cell? ⟨w.heap.size, 0, none⟩ = some (.int .i64 o) ∧ w1.cell? ⟨w.heap.size, 1, none⟩ = some (.int .i64 l) ∧ w1.cell? ⟨wr.heap.size, 0, none⟩ = some (.int .i64 (eo xs k)) ∧ w1.cell? ⟨wr.heap.size, 1, none⟩ = some (.int .i64 (el xs k)) ∧ Below w.heap.size w w1 ∧ Below wr.heap.size wr w1 ∧ wr.heap.size + 1 ≤ w1.heap.size)
          ⟨(old_cell (by omega)).trans hc5, (old_cell (by omega)).trans hc6, by simp [go_sem], by simp [go_sem], hbw.alloc hbw.size _, (Below.refl _ _).alloc (Nat.le_refl _) _, by simp⟩ ?_
        rintro w1 ⟨p1, p2, p3, p4, hb1, hbr1, hN⟩
        refine wpFrom_start (by kernel_rfl) ?_
        refine wpFrom_seq (k := 0) 12 (Kept w1) (by kernel_rfl) (kept_drew _) ?_
        iterate 12 (first
          | (apply SeqM.take rfl
             · (intro wx hSx; obtain ⟨hcx, hfx, hbx⟩ := hSx; go_simp; (try simp (disch := omega) only [IntWalk.i64_in]); first | with_reducible rfl | exact ⟨rfl, rfl⟩)
             simp only [Act.put, List.setIfInBounds_toArray, List.set_cons_zero, List.set_cons_succ])
          | (apply SeqM.call rfl
             · (intro wx hSx; obtain ⟨hcx, hfx, hbx⟩ := hSx; go_simp; (try simp (disch := omega) only [IntWalk.i64_in]); exact ⟨rfl, rfl⟩)
             · (intro wx hSx; (first
                | (go_at_call 12; refine (end_any _ _ _ (by omega) (by omega) (by omega)).mono ?_; rintro e w' ⟨rfl, hb⟩; first | exact ⟨rfl, kept_step hSx hb⟩ | exact ⟨rfl, hSx⟩)
                ))
             simp only [Act.put, List.setIfInBounds_toArray, List.set_cons_zero, List.set_cons_succ])
          | (apply SeqM.skip rfl
             simp only [Act.put, List.setIfInBounds_toArray, List.set_cons_zero, List.set_cons_succ]))
        refine SeqM.done ?_
        rintro w2 ⟨hc2, hf2, hb2⟩
        refine wpFrom_end ?_
        go_wp2
        go_ret
        exact ⟨ret_bool (allB_false _ xs k (by rw [HL.out]; exact hlt) hins.out).symm, hb1.trans (hb2.mono (by omega))⟩
    · go_wp2
      go_ret
      exact ⟨ret_bool (allB_all _ xs k len HL.out hk hlt HA.out).symm, hbw⟩

end Go.Proofs.Ytfdhghidjkbojaa
