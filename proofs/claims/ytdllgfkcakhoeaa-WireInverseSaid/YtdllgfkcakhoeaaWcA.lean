/-
  The code of layer 6: validSize, bits.Len64.
-/
import Derived.Test.YtdllgfkcakhoeaaRd
import Derived.Test.YtdllgfkcakhoeaaWrB
import Derived.Test.YtdllgfkcakhoeaaAuto
namespace Go.Proofs.Ytdllgfkcakhoeaa
set_option linter.unusedVariables false
set_option linter.unusedSimpArgs false
open Go Go.RowKit

set_option maxRecDepth 100000 in
set_option maxHeartbeats 400000 in
theorem vsize_c (n : Int) (w : World) : Calls Try.prog 23 #[.int .i64 n] w fun e w' => e = .returned (.bool (decide (1 ≤ n ∧ n ≤ 8))) ∧ St w [] w' := by
  refine calls_from (args := [.int .i64 n]) Try.func23 rfl Try.ntmps23 (by simp) ?_
  refine TC.pr [0] ?_
  iterate 8 refine gx ?_
  by_cases c1 : 1 ≤ n
  · refine TL.gets (Wants.none rfl) rfl (Gets.isTrue (Gets.geq rfl rfl rfl) c1) ?_
    iterate 2 refine gx ?_
    by_cases c2 : n ≤ 8
    · refine TL.gets (Wants.yes rfl rfl rfl) rfl (Gets.isTrue (Gets.leq rfl rfl rfl) c2) ?_
      iterate 5 refine gx ?_
      exact TE.ret1 rfl rfl (fun w hs => ⟨dec_t (by omega), hs⟩)
    · refine TL.gets (Wants.yes rfl rfl rfl) rfl (Gets.isFalse (Gets.leq rfl rfl rfl) c2) ?_
      iterate 5 refine gx ?_
      exact TE.ret1 rfl rfl (fun w hs => ⟨dec_f (by omega), hs⟩)
  · refine TL.gets (Wants.none rfl) rfl (Gets.isFalse (Gets.geq rfl rfl rfl) c1) ?_
    iterate 8 refine gx ?_
    exact TE.ret1 rfl rfl (fun w hs => ⟨dec_f (by omega), hs⟩)


theorem ba_get (b : ByteArray) {y : Nat} (h : y < b.size) : b[y]'h = b.data.getD y 0 := by
  show b.data[y]'h = _
  rw [Array.getD_eq_getD_getElem?, Array.getElem?_eq_getElem (show y < b.data.size from h)]; rfl
def lenTab : ByteArray := ⟨List.toArray (List.append (List.append [0, 1, 2, 2, 3, 3, 3, 3, 4, 4, 4, 4, 4, 4, 4, 4, 5, 5, 5, 5, 5, 5, 5, 5, 5, 5, 5, 5, 5, 5, 5, 5, 6, 6, 6, 6, 6, 6, 6, 6, 6, 6, 6, 6, 6, 6, 6, 6, 6, 6, 6, 6, 6, 6, 6, 6, 6, 6, 6, 6, 6, 6, 6, 6] [7, 7, 7, 7, 7, 7, 7, 7, 7, 7, 7, 7, 7, 7, 7, 7, 7, 7, 7, 7, 7, 7, 7, 7, 7, 7, 7, 7, 7, 7, 7, 7, 7, 7, 7, 7, 7, 7, 7, 7, 7, 7, 7, 7, 7, 7, 7, 7, 7, 7, 7, 7, 7, 7, 7, 7, 7, 7, 7, 7, 7, 7, 7, 7]) (List.append [8, 8, 8, 8, 8, 8, 8, 8, 8, 8, 8, 8, 8, 8, 8, 8, 8, 8, 8, 8, 8, 8, 8, 8, 8, 8, 8, 8, 8, 8, 8, 8, 8, 8, 8, 8, 8, 8, 8, 8, 8, 8, 8, 8, 8, 8, 8, 8, 8, 8, 8, 8, 8, 8, 8, 8, 8, 8, 8, 8, 8, 8, 8, 8] [8, 8, 8, 8, 8, 8, 8, 8, 8, 8, 8, 8, 8, 8, 8, 8, 8, 8, 8, 8, 8, 8, 8, 8, 8, 8, 8, 8, 8, 8, 8, 8, 8, 8, 8, 8, 8, 8, 8, 8, 8, 8, 8, 8, 8, 8, 8, 8, 8, 8, 8, 8, 8, 8, 8, 8, 8, 8, 8, 8, 8, 8, 8, 8]))⟩
theorem lenTab_size : lenTab.size = 256 := by decide +kernel
theorem lenTab_all : ∀ y : Fin 256, (lenTab.data.getD y.1 0).toNat = lenB y.1 := by decide +kernel
theorem lenTab_at {y : Nat} (h : y < lenTab.size) : ((lenTab[y]'h).toNat : Int) = (lenB y : Int) := by
  have h2 : y < 256 := by rw [lenTab_size] at h; exact h
  have h3 := lenTab_all ⟨y, h2⟩
  rw [ba_get lenTab h, h3]

set_option maxRecDepth 100000 in
set_option maxHeartbeats 400000 in
theorem len64_c (x : Nat) (hx : x < 18446744073709551616) (w : World) : Calls Try.prog 24 #[.int .u64 (x : Int)] w fun e w' => e = .returned (.int .i64 (lenB x : Int)) ∧ St w [] w' := by
  refine calls_from (args := [.int .u64 (x : Int)]) Try.func24 rfl Try.ntmps24 (by simp) ?_
  refine TC.pr [0] ?_
  iterate 12 refine gx ?_
  refine TC.split rfl (fun h0 => ?_) (fun h0 => ?_)
  · iterate 3 refine gx ?_
    obtain ⟨y6, hy6⟩ : ∃ y6 : Nat, y6 = x / 4294967296 := ⟨_, rfl⟩
    have ly6 : lenB x = lenB y6 + 32 := lenB_shr (s := 32) (by omega) hy6
    refine TL.gets (Wants.none rfl) rfl (Gets.shr rfl rfl rfl (by omega) (r := (y6 : Int)) (by rw [hy6]; exact shr_nat (q := 32) (by omega))) ?_
    iterate 14 refine gx ?_
    refine TC.split rfl (fun h1 => ?_) (fun h1 => ?_)
    · iterate 3 refine gx ?_
      obtain ⟨y10, hy10⟩ : ∃ y10 : Nat, y10 = y6 / 65536 := ⟨_, rfl⟩
      have ly10 : lenB y6 = lenB y10 + 16 := lenB_shr (s := 16) (by omega) hy10
      refine TL.gets (Wants.none rfl) rfl (Gets.shr rfl rfl rfl (by omega) (r := (y10 : Int)) (by rw [hy10]; exact shr_nat (q := 16) (by omega))) ?_
      iterate 3 refine gx ?_
      refine TC.pr [0, 2] ?_
      iterate 2 refine gx ?_
      refine TL.gets (Wants.none rfl) rfl (Gets.add rfl rfl rfl (r := 48) (w64 (by omega) (by omega))) ?_
      iterate 10 refine gx ?_
      refine TC.split rfl (fun h2 => ?_) (fun h2 => ?_)
      · iterate 3 refine gx ?_
        obtain ⟨y16, hy16⟩ : ∃ y16 : Nat, y16 = y10 / 256 := ⟨_, rfl⟩
        have ly16 : lenB y10 = lenB y16 + 8 := lenB_shr (s := 8) (by omega) hy16
        refine TL.gets (Wants.none rfl) rfl (Gets.shr rfl rfl rfl (by omega) (r := (y16 : Int)) (by rw [hy16]; exact shr_nat (q := 8) (by omega))) ?_
        iterate 5 refine gx ?_
        refine TL.gets (Wants.none rfl) rfl (Gets.add rfl rfl rfl (r := 56) (w64 (by omega) (by omega))) ?_
        iterate 3 refine gx ?_
        refine TC.pr [0, 2] ?_
        iterate 4 refine gx ?_
        refine TL.gets (Wants.none rfl) rfl (Gets.conv rfl Try.underlying34 Try.underlying5 rfl (r := (y16 : Int)) (wu8 rfl (by omega))) ?_
        have hlb : lenB y16 ≤ 8 := (lenB_le (q := 8)).2 (by omega)
        refine TL.gets (Wants.none rfl) rfl (Gets.congr (Gets.indexStr (str := lenTab) rfl Try.underlying9 rfl rfl (i := y16) rfl (by rw [lenTab_size]; omega)) (by rw [lenTab_at])) ?_
        refine TL.gets (Wants.none rfl) rfl (Gets.conv rfl Try.underlying5 Try.underlying3 rfl (r := ((lenB y16) : Int)) (w64 rfl (by omega))) ?_
        refine TL.gets (Wants.none rfl) rfl (Gets.add rfl rfl rfl (r := (((lenB y16) : Int) + 56)) (w64 (by omega) (by omega))) ?_
        iterate 4 refine gx ?_
        exact TE.ret1 rfl rfl (fun w hs => ⟨ret_i (by omega), hs⟩)
      · iterate 6 refine gx ?_
        refine TL.gets (Wants.none rfl) rfl (Gets.conv rfl Try.underlying34 Try.underlying5 rfl (r := (y10 : Int)) (wu8 rfl (by omega))) ?_
        have hlb : lenB y10 ≤ 8 := (lenB_le (q := 8)).2 (by omega)
        refine TL.gets (Wants.none rfl) rfl (Gets.congr (Gets.indexStr (str := lenTab) rfl Try.underlying9 rfl rfl (i := y10) rfl (by rw [lenTab_size]; omega)) (by rw [lenTab_at])) ?_
        refine TL.gets (Wants.none rfl) rfl (Gets.conv rfl Try.underlying5 Try.underlying3 rfl (r := ((lenB y10) : Int)) (w64 rfl (by omega))) ?_
        refine TL.gets (Wants.none rfl) rfl (Gets.add rfl rfl rfl (r := (((lenB y10) : Int) + 48)) (w64 (by omega) (by omega))) ?_
        iterate 4 refine gx ?_
        exact TE.ret1 rfl rfl (fun w hs => ⟨ret_i (by omega), hs⟩)
    · iterate 9 refine gx ?_
      refine TC.pr [0, 2, 14] ?_
      refine TC.split rfl (fun h2 => ?_) (fun h2 => ?_)
      · iterate 3 refine gx ?_
        obtain ⟨y16, hy16⟩ : ∃ y16 : Nat, y16 = y6 / 256 := ⟨_, rfl⟩
        have ly16 : lenB y6 = lenB y16 + 8 := lenB_shr (s := 8) (by omega) hy16
        refine TL.gets (Wants.none rfl) rfl (Gets.shr rfl rfl rfl (by omega) (r := (y16 : Int)) (by rw [hy16]; exact shr_nat (q := 8) (by omega))) ?_
        iterate 5 refine gx ?_
        refine TL.gets (Wants.none rfl) rfl (Gets.add rfl rfl rfl (r := 40) (w64 (by omega) (by omega))) ?_
        iterate 7 refine gx ?_
        refine TL.gets (Wants.none rfl) rfl (Gets.conv rfl Try.underlying34 Try.underlying5 rfl (r := (y16 : Int)) (wu8 rfl (by omega))) ?_
        have hlb : lenB y16 ≤ 8 := (lenB_le (q := 8)).2 (by omega)
        refine TL.gets (Wants.none rfl) rfl (Gets.congr (Gets.indexStr (str := lenTab) rfl Try.underlying9 rfl rfl (i := y16) rfl (by rw [lenTab_size]; omega)) (by rw [lenTab_at])) ?_
        refine TL.gets (Wants.none rfl) rfl (Gets.conv rfl Try.underlying5 Try.underlying3 rfl (r := ((lenB y16) : Int)) (w64 rfl (by omega))) ?_
        refine TL.gets (Wants.none rfl) rfl (Gets.add rfl rfl rfl (r := (((lenB y16) : Int) + 40)) (w64 (by omega) (by omega))) ?_
        iterate 4 refine gx ?_
        exact TE.ret1 rfl rfl (fun w hs => ⟨ret_i (by omega), hs⟩)
      · iterate 6 refine gx ?_
        refine TL.gets (Wants.none rfl) rfl (Gets.conv rfl Try.underlying34 Try.underlying5 rfl (r := (y6 : Int)) (wu8 rfl (by omega))) ?_
        have hlb : lenB y6 ≤ 8 := (lenB_le (q := 8)).2 (by omega)
        refine TL.gets (Wants.none rfl) rfl (Gets.congr (Gets.indexStr (str := lenTab) rfl Try.underlying9 rfl rfl (i := y6) rfl (by rw [lenTab_size]; omega)) (by rw [lenTab_at])) ?_
        refine TL.gets (Wants.none rfl) rfl (Gets.conv rfl Try.underlying5 Try.underlying3 rfl (r := ((lenB y6) : Int)) (w64 rfl (by omega))) ?_
        refine TL.gets (Wants.none rfl) rfl (Gets.add rfl rfl rfl (r := (((lenB y6) : Int) + 32)) (w64 (by omega) (by omega))) ?_
        iterate 4 refine gx ?_
        exact TE.ret1 rfl rfl (fun w hs => ⟨ret_i (by omega), hs⟩)
  · iterate 9 refine gx ?_
    refine TC.split rfl (fun h1 => ?_) (fun h1 => ?_)
    · iterate 3 refine gx ?_
      obtain ⟨y10, hy10⟩ : ∃ y10 : Nat, y10 = x / 65536 := ⟨_, rfl⟩
      have ly10 : lenB x = lenB y10 + 16 := lenB_shr (s := 16) (by omega) hy10
      refine TL.gets (Wants.none rfl) rfl (Gets.shr rfl rfl rfl (by omega) (r := (y10 : Int)) (by rw [hy10]; exact shr_nat (q := 16) (by omega))) ?_
      iterate 5 refine gx ?_
      refine TL.gets (Wants.none rfl) rfl (Gets.add rfl rfl rfl (r := 16) (w64 (by omega) (by omega))) ?_
      iterate 3 refine gx ?_
      refine TC.pr [0, 2] ?_
      iterate 7 refine gx ?_
      refine TC.split rfl (fun h2 => ?_) (fun h2 => ?_)
      · iterate 3 refine gx ?_
        obtain ⟨y16, hy16⟩ : ∃ y16 : Nat, y16 = y10 / 256 := ⟨_, rfl⟩
        have ly16 : lenB y10 = lenB y16 + 8 := lenB_shr (s := 8) (by omega) hy16
        refine TL.gets (Wants.none rfl) rfl (Gets.shr rfl rfl rfl (by omega) (r := (y16 : Int)) (by rw [hy16]; exact shr_nat (q := 8) (by omega))) ?_
        iterate 5 refine gx ?_
        refine TL.gets (Wants.none rfl) rfl (Gets.add rfl rfl rfl (r := 24) (w64 (by omega) (by omega))) ?_
        iterate 7 refine gx ?_
        refine TL.gets (Wants.none rfl) rfl (Gets.conv rfl Try.underlying34 Try.underlying5 rfl (r := (y16 : Int)) (wu8 rfl (by omega))) ?_
        have hlb : lenB y16 ≤ 8 := (lenB_le (q := 8)).2 (by omega)
        refine TL.gets (Wants.none rfl) rfl (Gets.congr (Gets.indexStr (str := lenTab) rfl Try.underlying9 rfl rfl (i := y16) rfl (by rw [lenTab_size]; omega)) (by rw [lenTab_at])) ?_
        refine TL.gets (Wants.none rfl) rfl (Gets.conv rfl Try.underlying5 Try.underlying3 rfl (r := ((lenB y16) : Int)) (w64 rfl (by omega))) ?_
        refine TL.gets (Wants.none rfl) rfl (Gets.add rfl rfl rfl (r := (((lenB y16) : Int) + 24)) (w64 (by omega) (by omega))) ?_
        iterate 4 refine gx ?_
        exact TE.ret1 rfl rfl (fun w hs => ⟨ret_i (by omega), hs⟩)
      · iterate 6 refine gx ?_
        refine TL.gets (Wants.none rfl) rfl (Gets.conv rfl Try.underlying34 Try.underlying5 rfl (r := (y10 : Int)) (wu8 rfl (by omega))) ?_
        have hlb : lenB y10 ≤ 8 := (lenB_le (q := 8)).2 (by omega)
        refine TL.gets (Wants.none rfl) rfl (Gets.congr (Gets.indexStr (str := lenTab) rfl Try.underlying9 rfl rfl (i := y10) rfl (by rw [lenTab_size]; omega)) (by rw [lenTab_at])) ?_
        refine TL.gets (Wants.none rfl) rfl (Gets.conv rfl Try.underlying5 Try.underlying3 rfl (r := ((lenB y10) : Int)) (w64 rfl (by omega))) ?_
        refine TL.gets (Wants.none rfl) rfl (Gets.add rfl rfl rfl (r := (((lenB y10) : Int) + 16)) (w64 (by omega) (by omega))) ?_
        iterate 4 refine gx ?_
        exact TE.ret1 rfl rfl (fun w hs => ⟨ret_i (by omega), hs⟩)
    · iterate 9 refine gx ?_
      refine TC.split rfl (fun h2 => ?_) (fun h2 => ?_)
      · iterate 3 refine gx ?_
        obtain ⟨y16, hy16⟩ : ∃ y16 : Nat, y16 = x / 256 := ⟨_, rfl⟩
        have ly16 : lenB x = lenB y16 + 8 := lenB_shr (s := 8) (by omega) hy16
        refine TL.gets (Wants.none rfl) rfl (Gets.shr rfl rfl rfl (by omega) (r := (y16 : Int)) (by rw [hy16]; exact shr_nat (q := 8) (by omega))) ?_
        iterate 3 refine gx ?_
        refine TC.pr [0, 2] ?_
        iterate 2 refine gx ?_
        refine TL.gets (Wants.none rfl) rfl (Gets.add rfl rfl rfl (r := 8) (w64 (by omega) (by omega))) ?_
        iterate 7 refine gx ?_
        refine TL.gets (Wants.none rfl) rfl (Gets.conv rfl Try.underlying34 Try.underlying5 rfl (r := (y16 : Int)) (wu8 rfl (by omega))) ?_
        have hlb : lenB y16 ≤ 8 := (lenB_le (q := 8)).2 (by omega)
        refine TL.gets (Wants.none rfl) rfl (Gets.congr (Gets.indexStr (str := lenTab) rfl Try.underlying9 rfl rfl (i := y16) rfl (by rw [lenTab_size]; omega)) (by rw [lenTab_at])) ?_
        refine TL.gets (Wants.none rfl) rfl (Gets.conv rfl Try.underlying5 Try.underlying3 rfl (r := ((lenB y16) : Int)) (w64 rfl (by omega))) ?_
        refine TL.gets (Wants.none rfl) rfl (Gets.add rfl rfl rfl (r := (((lenB y16) : Int) + 8)) (w64 (by omega) (by omega))) ?_
        iterate 4 refine gx ?_
        exact TE.ret1 rfl rfl (fun w hs => ⟨ret_i (by omega), hs⟩)
      · iterate 6 refine gx ?_
        refine TL.gets (Wants.none rfl) rfl (Gets.conv rfl Try.underlying34 Try.underlying5 rfl (r := (x : Int)) (wu8 rfl (by omega))) ?_
        have hlb : lenB x ≤ 8 := (lenB_le (q := 8)).2 (by omega)
        refine TL.gets (Wants.none rfl) rfl (Gets.congr (Gets.indexStr (str := lenTab) rfl Try.underlying9 rfl rfl (i := x) rfl (by rw [lenTab_size]; omega)) (by rw [lenTab_at])) ?_
        refine TL.gets (Wants.none rfl) rfl (Gets.conv rfl Try.underlying5 Try.underlying3 rfl (r := ((lenB x) : Int)) (w64 rfl (by omega))) ?_
        refine TL.gets (Wants.none rfl) rfl (Gets.add rfl rfl rfl (r := ((lenB x) : Int)) (w64 (by omega) (by omega))) ?_
        iterate 4 refine gx ?_
        exact TE.ret1 rfl rfl (fun w hs => ⟨ret_i (by omega), hs⟩)


theorem len64_i (x : Int) (hx : 0 ≤ x ∧ x ≤ 18446744073709551615) (w : World) : Calls Try.prog 24 #[.int .u64 x] w fun e w' => e = .returned (.int .i64 (lenI x)) ∧ St w [] w' := by
  obtain ⟨y, rfl⟩ := Int.eq_ofNat_of_zero_le hx.1
  have := len64_c y (by omega) w
  unfold lenI; rw [Int.toNat_natCast]; exact this
end Go.Proofs.Ytdllgfkcakhoeaa
