/-
  The iterator of package extent, and Split.
-/
import Derived.Test.YtfdhghidjkbojaaExtC
import Derived.Test.YtfdhghidjkbojaaIter
import Derived.RangeFuncNested
import Derived.RangeFuncBound
import Derived.RangeFuncCalls
import Derived.RangeFuncLeaves
import Derived.Shelf.Abstract
import Derived.Shelf.RegionOpen
import Derived.OwnWalkIn
import Derived.TacticsInMore
import Derived.LoopNIn
import Derived.LoopIn
namespace Go.Proofs.Ytfdhghidjkbojaa
set_option linter.unusedVariables false
set_option linter.unusedSimpArgs false
open Go.RowKit Go.Shelf
attribute [local go_sem] Oper.semAt_some

/-- How many bytes the first i parts have. -/
def pq (l s : Int) (i : Nat) : Int := min (i * s) l
theorem pq_zero {l s : Int} (h : 0 ≤ l) : pq l s 0 = 0 := by unfold pq; simp; omega
theorem pq_succ {l s : Int} (i : Nat) (hs : 1 ≤ s) : pq l s (i + 1) = pq l s i + minI s (l - pq l s i) ∨ l ≤ pq l s i := by
  unfold pq; rw [minI_is]
  have : ((i + 1 : Nat) : Int) * s = i * s + s := by rw [Int.natCast_add, Int.add_mul]; simp
  rw [this]; omega
theorem pq_bd {l s : Int} (i : Nat) (h : 0 ≤ l) (hs : 1 ≤ s) : 0 ≤ pq l s i ∧ pq l s i ≤ l := by
  unfold pq
  have : 0 ≤ (i : Int) * s := Int.mul_nonneg (by omega) (by omega)
  omega

theorem parts_any (o l s : Int) (w : World) :
    Calls Try.prog 28 #[.agg #[.int .i64 o, .int .i64 l], .int .i64 s] w fun e w' => e = .returned (.func (.func 29) #[] #[.pointer (some ⟨w.heap.size, 0, none⟩), .pointer (some ⟨w.heap.size + 1, 0, none⟩)]) ∧
      w' = (w.alloc (.cells #[.int .i64 o, .int .i64 l] 23)).alloc (.cells #[.int .i64 s] 3) := by
  go_enter Try.func28, Try.ntmps28
  go_wp2
  go_ret
  exact ⟨rfl, rfl⟩

/-- The number in a cell. -/
def cellNat (wr : World) (b o : Nat) : Nat := match wr.cell? ⟨b, o, none⟩ with | some v => (intOf v).toNat | none => 0
theorem cellNat_eq {wr : World} {b o : Nat} {k : Int} (h : wr.cell? ⟨b, o, none⟩ = some (.int .i64 k)) : cellNat wr b o = k.toNat := by unfold cellNat; rw [h]; rfl

set_option maxHeartbeats 1000000 in
theorem parts_iter (F : Fence) (n : Nat) (hF : F.fn 29) (hro : F.round = none) (hn : 1 ≤ n) (o l s : Int) (B N : Nat) (w0 : World)
    (h0 : 0 ≤ o) (h1 : 0 ≤ l) (h2 : o + l ≤ 4611686018427387903) (h3 : 1 ≤ s) (h4 : s ≤ 9223372036854775807) (hN : ∀ i, i < N → pq l s i < l) (hN2 : pq l s N = l)
    (hB : B + 1 < w0.heap.size) (c1 : w0.cell? ⟨B, 0, none⟩ = some (.int .i64 o)) (c2 : w0.cell? ⟨B, 1, none⟩ = some (.int .i64 l)) (c3 : w0.cell? ⟨B + 1, 0, none⟩ = some (.int .i64 s)) :
    IterC F n Try.prog 29 #[.pointer (some ⟨B, 0, none⟩), .pointer (some ⟨B + 1, 0, none⟩)] (fun i => #[.agg #[.int .i64 (o + pq l s i), .int .i64 (minI s (l - pq l s i))]]) N 1 (fun k => k = B ∨ k = B + 1) w0 := by
  intro lp J Jx W hW hJ hJx hY hJ0
  have d1 : W.cell? ⟨B, 0, none⟩ = some (.int .i64 o) := (hW.cell (p := ⟨B, 0, none⟩) (by show B < _; omega)).trans c1
  have d2 : W.cell? ⟨B, 1, none⟩ = some (.int .i64 l) := (hW.cell (p := ⟨B, 1, none⟩) (by show B < _; omega)).trans c2
  have d3 : W.cell? ⟨B + 1, 0, none⟩ = some (.int .i64 s) := (hW.cell (p := ⟨B + 1, 0, none⟩) (by show B + 1 < _; omega)).trans c3
  have hBW : B + 1 < W.heap.size := Nat.lt_of_lt_of_le hB hW.size
  have HN := Lib.hid hN
  have HN2 := Lib.hid hN2
  have HY := Lib.hid hY
  have HJ := Lib.hid hJ
  have HJx := Lib.hid hJx
  clear hN hN2 hY hJ hJx
  refine callsIn_of_wp Try.func29 rfl hF ?_ hro
  simp only [Try.ntmps29, List.size_toArray, List.length_cons, List.length_nil, Nat.reduceAdd, Nat.reduceSub, Array.replicate_succ, Array.replicate_zero, List.push_toArray, List.append_toArray, List.nil_append, List.cons_append]
  gi_wp2
  gi_loopw [5] (fun _ wr => ∃ i : Nat, i ≤ N ∧ wr.cell? ⟨W.heap.size, 0, none⟩ = some (.int .i64 (o + pq l s i)) ∧ wr.cell? ⟨W.heap.size, 1, none⟩ = some (.int .i64 (l - pq l s i)) ∧ wr.frozen? ⟨W.heap.size, 0, none⟩ = false ∧ wr.frozen? ⟨W.heap.size, 1, none⟩ = false
      ∧ wr.cell? ⟨B, 0, none⟩ = some (.int .i64 o) ∧ wr.cell? ⟨B, 1, none⟩ = some (.int .i64 l) ∧ wr.cell? ⟨B + 1, 0, none⟩ = some (.int .i64 s) ∧ W.heap.size + 1 ≤ wr.heap.size ∧ J i wr)
    (fun _ wr => cellNat wr W.heap.size 1)
  case atStart =>
    refine ⟨0, Nat.zero_le _, ?_, ?_, by simp [go_sem], by simp [go_sem], (old_cell (by omega)).trans d1, (old_cell (by omega)).trans d2, (old_cell (by omega)).trans d3, by simp, HJ.out _ _ _ hJ0 (Beside.alloc _ _ _ _)⟩
    · rw [pq_zero h1]; simp [go_sem]
    · rw [pq_zero h1]; simp [go_sem]
  case round =>
    obtain ⟨i, hi, c4, c5, c6, c7, c8, c9, c10, hsz, hJi⟩ := hrel
    have ⟨q0, q1⟩ := pq_bd i h1 h3
    by_cases hlt : i < N
    · have ql := HN.out i hlt
      have hm1 : (if l - pq l s i < s then l - pq l s i else s) = minI s (l - pq l s i) := rfl
      have ⟨y1, y2, y3⟩ := minI_bd s (l - pq l s i)
      obtain ⟨fn, tmps, assign, body, hy, hR⟩ := HY.out i wr hlt hJi hsz
      have HR := Lib.hid hR
      clear hR
      have hpq : pq l s i + minI s (l - pq l s i) = pq l s (i + 1) := by
        rcases pq_succ (l := l) i h3 with h | h
        · exact h.symm
        · omega
      have HP := Lib.hid hpq
      clear hpq
      gi_wp2
      refine HR.out.mono ?_
      rintro e W' (⟨rfl, hJ', hk⟩ | ⟨rfl, hJx', hks⟩)
      · have e4 := (hk.cell (b := W.heap.size) (o := 0) (by omega) (.inl ⟨by omega, by omega⟩)).trans c4
        have e5 := (hk.cell (b := W.heap.size) (o := 1) (by omega) (.inl ⟨by omega, by omega⟩)).trans c5
        have e6 := (hk.frozen (b := W.heap.size) (o := 0) (by omega) (.inl ⟨by omega, by omega⟩)).trans c6
        have e7 := (hk.frozen (b := W.heap.size) (o := 1) (by omega) (.inl ⟨by omega, by omega⟩)).trans c7
        have e8 := (hk.cell (b := B) (o := 0) (by omega) (.inr (.inl rfl))).trans c8
        have e9 := (hk.cell (b := B) (o := 1) (by omega) (.inr (.inl rfl))).trans c9
        have e10 := (hk.cell (b := B + 1) (o := 0) (by omega) (.inr (.inr rfl))).trans c10
        have hsz' := hk.size
        clear HR hy hk
        gi_wp2
        go_roundw
        case rel =>
          have hx : o + pq l s i + minI s (l - pq l s i) = o + pq l s (i + 1) := by rw [← HP.out]; omega
          have hx2 : l - pq l s i - minI s (l - pq l s i) = l - pq l s (i + 1) := by rw [← HP.out]; omega
          rw [hx, hx2]
          refine ⟨i + 1, by omega, ?_, ?_, ?_, ?_, ?_, ?_, ?_, ?_, HJ.out _ _ _ (HJ.out _ _ _ hJ' (Beside.setCell _ _ _ (by simp) (by simp))) (Beside.setCell _ _ _ (by simp) (by simp))⟩
          · simp [go_sem, e4]
          · simp [go_sem, e5]
          · simp [go_sem, e6]
          · simp [go_sem, e7]
          · rw [World.cell?_setCell_far _ _ _ _ (by simp; omega), World.cell?_setCell_far _ _ _ _ (by simp; omega)]; exact e8
          · rw [World.cell?_setCell_far _ _ _ _ (by simp; omega), World.cell?_setCell_far _ _ _ _ (by simp; omega)]; exact e9
          · rw [World.cell?_setCell_far _ _ _ _ (by simp; omega), World.cell?_setCell_far _ _ _ _ (by simp; omega)]; exact e10
          · simp; omega
        case measure =>
          rw [cellNat_eq c5, cellNat_eq (k := l - pq l s i - minI s (l - pq l s i)) (by simp [go_sem, e5])]
          omega
      · gi_wp2
        refine bodyPost_ret (results_none rfl _ _ _) rfl ?_
        exact ⟨⟨_, rfl⟩, .inr ⟨i, hlt, hJx'⟩⟩
    · obtain rfl : i = N := by omega
      have hz : l - pq l s i = 0 := by rw [HN2.out]; omega
      have HZ := Lib.hid hz
      clear hz
      rw [HZ.out] at c5
      gi_wp2
      go_end0
      exact ⟨⟨_, rfl⟩, .inl hJi⟩
end Go.Proofs.Ytfdhghidjkbojaa
