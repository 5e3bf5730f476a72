/-
  What the code of the format's reader needs besides: a copy in a region that draws its order; results in two blocks; back to an earlier world.
-/
import Derived.Test.YtclmgfcdnokaiaaFormatDecodes7Pc
import Derived.Test.YtclmgfcdnokaiaaFormatDecodes7Pb
import Derived.Test.YtclmgfcdnokaiaaFormatDecodes7Pa
import Derived.MapKept
/-
  The reader of layer 6: the closures.
-/
namespace Go.Proofs.Ytclmgfcdnokaiaa
set_option linter.unusedVariables false
set_option linter.unusedSimpArgs false
open Go Go.RowKit
theorem enters42 : Enters Try.prog 42 := ⟨_, Try.func42, by kernel_rfl, by kernel_rfl⟩
set_option maxRecDepth 100000 in
set_option maxHeartbeats 400000 in
theorem u1_c (gv : Nat) (A : Option Addr) (n c : Nat) (D : List Int) (hBD : Bytes D) (w : World) (hX : SrcX w [gv] A n .u8 D) (hl : Ent.lies ⟨gv, 51, [Value.int .u64 0], 1⟩ w) (hnc : n ≤ c) (hcm : c ≤ 9223372036854775807) (hn : n ≤ 8) : Calls Try.prog 67 #[.slice A n c, .pointer (some ⟨gv, 0, none⟩)] w fun e w' => e = .returned (.tuple #[]) ∧ St w [⟨gv, 51, [Value.int .u64 (valB D)], 1⟩] w' := by
  refine calls_from (args := [.slice A n c, .pointer (some ⟨gv, 0, none⟩)]) Try.func67 rfl Try.ntmps67 (by simp) ?_
  refine TC.pr [0, 1] ?_
  refine TC.heap (H' := [⟨gv, 51, [Value.int .u64 0], 1⟩]) (fun w hs => hs.take hl ne_nil) ?_
  iterate 8 refine gx ?_
  refine TC.loop (ι := Nat) (fun i => [(1, .pointer (some ⟨gv, 0, none⟩)), (5, .slice A n c), (6, .int .i64 (n : Int)), (7, .int .i64 (i : Int))]) (fun i => [⟨gv, 51, [Value.int .u64 (valB (D.take (i)))], 1⟩]) (fun i => n - i) (fun i => i ≤ n) 0 (Nat.zero_le _) (Sub.cons (i := 1) rfl (Sub.slice (i := 5) rfl rfl (by first | omega | (dsimp only; omega) | rfl) (by first | omega | (dsimp only; omega) | rfl) (Sub.int (i := 6) rfl (by first | omega | rfl) (Sub.int (i := 7) rfl (by first | omega | rfl) (Sub.nil))))) (fun w h => by rw [List.take_zero]; exact h) (fun i hC0 => ?_)
  iterate 6 refine gx ?_
  refine TC.split rfl (fun hq0 => ?_) (fun hq0 => ?_)
  · have hDl := hX.1
    obtain ⟨b, off, hAe, hb, hbX, hr⟩ := hX.2.resolve_left (by omega)
    have hbg : b ≠ gv := hbX gv (by simp)
    subst hAe
    have hbd := hBD.get i
    iterate 6 refine gx ?_
    refine TL.gets (Wants.none rfl) rfl (Gets.idxSlice rfl Try.underlying28 size5 rfl rfl (i := i) (by omega) (by omega) (off' := (off + i)) (by omega)) ?_
    refine TL.gets (Wants.none rfl) rfl (Gets.load1 rfl agg5 rfl (At.rowI hr (i := i) (by omega) (by omega) hb (ne_cons (by show gv ≠ b; omega) ne_nil))) ?_
    iterate 5 refine gx ?_
    refine TL.gets (Wants.none rfl) rfl (Gets.shl rfl rfl rfl (by omega) (r := (shlI .u64 (valB (D.take (i))) 8)) rfl) ?_
    refine gx ?_
    refine TL.gets (Wants.none rfl) rfl (Gets.conv rfl Try.underlying5 Try.underlying51 rfl (r := (D.getD i 0)) (wu64 rfl (by omega))) ?_
    refine TL.gets (Wants.none rfl) rfl (Gets.or rfl rfl rfl (r := valB (D.take (i + 1))) (valB_step hBD (by have := hX.1; omega) (by have := hX.1; omega))) ?_
    refine TL.store1 (Wants.none rfl) rfl rfl size51 rfl rfl rfl (i := 0) rfl rfl (by simp [] <;> omega) (cs' := [Value.int .u64 (valB (D.take (i + 1)))]) (rfl) (H' := [⟨gv, 51, [Value.int .u64 (valB (D.take (i + 1)))], 1⟩]) rfl ?_
    iterate 3 refine gx ?_
    refine TC.pr [1, 5, 6, 7] ?_
    refine gx ?_
    refine TL.gets (Wants.none rfl) rfl (Gets.add rfl rfl rfl (r := ((i : Int) + 1)) (w64 (by omega) (by omega))) ?_
    iterate 2 refine gx ?_
    exact TE.back (i + 1) (by omega) (by omega) (Sub.cons (i := 1) rfl (Sub.slice (i := 5) rfl (by first | rfl | (congr 2; omega)) (by first | omega | (dsimp only; omega) | rfl) (by first | omega | (dsimp only; omega) | rfl) (Sub.int (i := 6) rfl (by first | omega | rfl) (Sub.int (i := 7) rfl (by first | omega | rfl) (Sub.nil))))) (fun w h => h)
  · obtain rfl : n = i := by omega
    have htk : D.take n = D := List.take_of_length_le (by have := hX.1; omega)
    rw [htk]
    iterate 4 refine gx ?_
    exact TE.end0 rfl (fun w hs => ⟨rfl, hs⟩)

set_option maxRecDepth 100000 in
set_option maxHeartbeats 400000 in
theorem wclone_some (M : List Int) (ad : Addr) (m c : Nat) (w : World) (hsM : Src w (some ad) m .u8 M) (hmc : m ≤ c) (hm : m ≤ 1000010) : Calls Try.prog 42 #[.slice (some ad) m c] w fun e w' => ∃ v He, e = .returned v ∧ Own w.heap.size 5 .u8 v M He ∧ St w He w' := by
  refine calls_from (args := [.slice (some ad) m c]) Try.func42 rfl Try.ntmps42 (by simp) ?_
  refine TC.pr [0] ?_
  iterate 9 refine gx ?_
  refine TL.gets (Wants.none rfl) rfl (Gets.sliceNil (A := some ad) rfl Try.underlying28 rfl rfl) ?_
  iterate 2 refine gx ?_
  refine TC.no rfl ?_
  iterate 4 refine gx ?_
  refine TL.emptySlice (Wants.none rfl) rfl rfl Try.underlying28 size5 (fun g1 hg1 => ?_)
  refine gx ?_
  refine TL.appendOwn (H := []) (He := [⟨g1, 5, ([] : List Int).map (Value.int .u8), 0⟩]) (Wants.none rfl) rfl rfl Try.underlying28 mk5 rfl rfl rfl (W := []) (B := M) (.inr ⟨g1, 0, rfl, rfl, hg1, Nat.le_refl _, by unfold maxLen; omega⟩) (fun w hs => hsM.at_ hs (fun b hb => ne_app ne_nil (ne_cons (by show g1 ≠ b; omega) ne_nil))) (by simp only [List.length_nil]; omega) (by simp only [List.length_nil]; omega) (fun vo Ho ho hne => ?_)
  rw [List.nil_append] at ho
  iterate 4 refine gx ?_
  exact TE.ret1 rfl rfl (fun w hs => ⟨vo, Ho, rfl, ho, hs⟩)

set_option maxRecDepth 100000 in
set_option maxHeartbeats 400000 in
theorem wclone_nil (m c : Nat) (w : World) : Calls Try.prog 42 #[.slice none m c] w fun e w' => e = .returned (.slice none 0 0) ∧ St w [] w' := by
  refine calls_from (args := [.slice none m c]) Try.func42 rfl Try.ntmps42 (by simp) ?_
  refine TC.pr [0] ?_
  iterate 9 refine gx ?_
  refine TL.gets (Wants.none rfl) rfl (Gets.sliceNil (A := none) rfl Try.underlying28 rfl rfl) ?_
  iterate 2 refine gx ?_
  refine TC.yes rfl ?_
  iterate 7 refine gx ?_
  exact TE.ret1 rfl rfl (fun w hs => ⟨rfl, hs⟩)

theorem wclone_c (M : List Int) (A : Option Addr) (m c : Nat) (w : World) (hsM : Src w A m .u8 M) (hmc : m ≤ c) (hm : m ≤ 1000010) : Calls Try.prog 42 #[.slice A m c] w fun e w' => ∃ v He, e = .returned v ∧ Own w.heap.size 5 .u8 v M He ∧ St w He w' := by
  cases A with
  | some ad => exact wclone_some M ad m c w hsM hmc hm
  | none =>
    refine (wclone_nil m c w).mono fun e w' ⟨he, hw⟩ => ⟨_, [], he, ?_, hw⟩
    have hM : M = [] := by
      rcases hsM.2 with h | ⟨b, off, h, _⟩
      · exact List.length_eq_zero_iff.1 (by rw [hsM.1, h])
      · cases h
    rw [hM]; exact Own.nil _ _ _

set_option maxRecDepth 100000 in
set_option maxHeartbeats 400000 in
theorem b1_c (gv : Nat) (A : Option Addr) (n c : Nat) (D : List Int) (u0 : Value) (w : World) (hX : SrcX w [gv] A n .u8 D) (hl : Ent.lies ⟨gv, 28, [u0], 1⟩ w) (hnc : n ≤ c) (hn : n ≤ 1000000) : Calls Try.prog 70 #[.slice A n c, .pointer (some ⟨gv, 0, none⟩)] w fun e w' => ∃ v He, e = .returned (.tuple #[]) ∧ Own w.heap.size 5 .u8 v D He ∧ St w ((⟨gv, 28, [v], 1⟩ : Ent) :: He) w' := by
  refine calls_from (args := [.slice A n c, .pointer (some ⟨gv, 0, none⟩)]) Try.func70 rfl Try.ntmps70 (by simp) ?_
  refine TC.pr [0, 1] ?_
  refine TC.heap (H' := [⟨gv, 28, [u0], 1⟩]) (fun w hs => hs.take hl ne_nil) ?_
  iterate 2 refine gx ?_
  refine TL.call (ι := Value × List Ent) (V := fun yl => yl.1) (R := fun yl => Own w.heap.size 5 .u8 yl.1 D yl.2) (H' := fun yl => [⟨gv, 28, [u0], 1⟩] ++ yl.2) (Wants.none rfl) rfl enters42 rfl rfl (fun w hs => (wclone_c D A n c w (hX.at_ hs (fun b hb hbX => (ne_cons (fun h => hbX gv (by simp) h.symm) ne_nil))).src (by omega) (by omega)).mono fun e w' ⟨v, He, he, ho, hw⟩ => ⟨(v, He), he, own_mono ho hs.size, st_call hs hw ho.new⟩) (fun yl hOl => ?_)
  obtain ⟨vl, Hl⟩ := yl
  dsimp only at hOl ⊢
  obtain ⟨Al, cl, hvl, hcl, hdl⟩ := hOl.form
  subst hvl
  refine TL.store1 (Wants.none rfl) rfl rfl size28 rfl rfl rfl (i := 0) rfl rfl (by simp [] <;> omega) (cs' := [Value.slice Al D.length cl]) (rfl) (H' := [⟨gv, 28, [Value.slice Al D.length cl], 1⟩] ++ Hl) rfl ?_
  refine gx ?_
  exact TE.end0 rfl (fun w hs => ⟨_, Hl, rfl, hOl, hs⟩)
end Go.Proofs.Ytclmgfcdnokaiaa
/-
  The reader of layer 6: Uint, Length.
-/
namespace Go.Proofs.Ytclmgfcdnokaiaa
set_option linter.unusedVariables false
set_option linter.unusedSimpArgs false
open Go Go.RowKit
theorem enters47 : Enters Try.prog 47 := ⟨_, Try.func47, by kernel_rfl, by kernel_rfl⟩
theorem enters49 : Enters Try.prog 49 := ⟨_, Try.func49, by kernel_rfl, by kernel_rfl⟩
theorem enters50 : Enters Try.prog 50 := ⟨_, Try.func50, by kernel_rfl, by kernel_rfl⟩
theorem enters60 : Enters Try.prog 60 := ⟨_, Try.func60, by kernel_rfl, by kernel_rfl⟩
theorem enters61 : Enters Try.prog 61 := ⟨_, Try.func61, by kernel_rfl, by kernel_rfl⟩
theorem enters66 : Enters Try.prog 66 := ⟨_, Try.func66, by kernel_rfl, by kernel_rfl⟩
theorem enters67 : Enters Try.prog 67 := ⟨_, Try.func67, by kernel_rfl, by kernel_rfl⟩
theorem enters70 : Enters Try.prog 70 := ⟨_, Try.func70, by kernel_rfl, by kernel_rfl⟩
theorem zero51 : (Try.prog.info? 51).bind (·.zero) = some (.int .u64 0) := by kernel_rfl
instance : Zer Try.prog 51 [Value.int .u64 0] := ⟨⟨_, zero51, rfl⟩⟩
set_option maxRecDepth 100000 in
set_option maxHeartbeats 400000 in
theorem read_dead (g : Nat) (A : Option Addr) (m c k : Nat) (co po n : Int) (u : Value) (hco : co ≠ 0) (w : World) (hl : Ent.lies ⟨g, 87, rdC A m c k co po, rdN⟩ w)  : Calls Try.prog 66 #[.pointer (some ⟨g, 0, none⟩), .int .i64 n, u] w fun e w' => e = .returned (.tuple #[]) ∧ St w [] w' := by
  refine calls_from (args := [.pointer (some ⟨g, 0, none⟩), .int .i64 n, u]) Try.func66 rfl Try.ntmps66 (by simp) ?_
  refine TC.pr [0, 1, 2] ?_
  refine TC.heap (H' := [⟨g, 87, [Value.slice A m c, Value.int .i64 (k : Int), Value.int .i64 co, Value.int .i64 po], 4⟩]) (fun w hs => hs.take hl ne_nil) ?_
  iterate 4 refine gx ?_
  refine TL.call0 (Wants.none rfl) rfl enters57 rfl rfl (v := .bool false) (fun w hs => calls_no hco (ready_c g A m c k co po w (hs.has (⟨g, 87, [Value.slice A m c, Value.int .i64 (k : Int), Value.int .i64 co, Value.int .i64 po], 4⟩) (by simp)))) ?_
  iterate 3 refine gx ?_
  refine TC.yes rfl ?_
  iterate 2 refine gx ?_
  exact TE.ret0 rfl (fun w hs => ⟨rfl, (hs.same hl rfl)⟩)

set_option maxRecDepth 100000 in
set_option maxHeartbeats 400000 in
theorem read_nil (n : Int) (u : Value) (w : World) : Calls Try.prog 66 #[.pointer none, .int .i64 n, u] w fun e w' => e = .returned (.tuple #[]) ∧ St w [] w' := by
  refine calls_from (args := [.pointer none, .int .i64 n, u]) Try.func66 rfl Try.ntmps66 (by simp) ?_
  refine TC.pr [0, 1, 2] ?_
  iterate 4 refine gx ?_
  refine TL.call0 (Wants.none rfl) rfl enters57 rfl rfl (v := .bool false) (fun w hs => ready_nil w) ?_
  iterate 3 refine gx ?_
  refine TC.yes rfl ?_
  iterate 2 refine gx ?_
  exact TE.ret0 rfl (fun w hs => ⟨rfl, hs⟩)

set_option maxRecDepth 100000 in
set_option maxHeartbeats 400000 in
theorem read_short (g : Nat) (A : Option Addr) (m c k : Nat) (po n : Int) (u : Value) (hn : (m : Int) - (k : Int) < n) (w : World) (hl : Ent.lies ⟨g, 87, rdC A m c k 0 po, rdN⟩ w) (hk : k ≤ m) (hmc : m ≤ c) (hcm : c ≤ 9223372036854775807)  : Calls Try.prog 66 #[.pointer (some ⟨g, 0, none⟩), .int .i64 n, u] w fun e w' => e = .returned (.tuple #[]) ∧ St w [⟨g, 87, rdC A m c k 8 (m : Int), rdN⟩] w' := by
  refine calls_from (args := [.pointer (some ⟨g, 0, none⟩), .int .i64 n, u]) Try.func66 rfl Try.ntmps66 (by simp) ?_
  refine TC.pr [0, 1, 2] ?_
  refine TC.heap (H' := [⟨g, 87, [Value.slice A m c, Value.int .i64 (k : Int), Value.int .i64 0, Value.int .i64 po], 4⟩]) (fun w hs => hs.take hl ne_nil) ?_
  iterate 4 refine gx ?_
  refine TL.call0 (Wants.none rfl) rfl enters57 rfl rfl (v := .bool true) (fun w hs => calls_yes rfl (ready_c g A m c k 0 po w (hs.has (⟨g, 87, [Value.slice A m c, Value.int .i64 (k : Int), Value.int .i64 0, Value.int .i64 po], 4⟩) (by simp)))) ?_
  iterate 3 refine gx ?_
  refine TC.no rfl ?_
  iterate 7 refine gx ?_
  refine TL.gets (Wants.none rfl) rfl (Gets.nilCheck rfl rfl) ?_
  refine gx ?_
  refine TL.call0 (Wants.none rfl) rfl enters58 rfl rfl (v := .slice (cutA A c k 1) (m - k) (c - k)) (fun w hs => left_c g A m c k 0 po w (hs.has (⟨g, 87, [Value.slice A m c, Value.int .i64 (k : Int), Value.int .i64 0, Value.int .i64 po], 4⟩) (by simp)) (by omega) (by omega) (by omega)) ?_
  refine gx ?_
  refine TL.gets (Wants.none rfl) rfl (Gets.isTrue (Gets.gtr rfl rfl rfl) (by omega)) ?_
  iterate 2 refine gx ?_
  refine TC.pr [0, 1, 2, 15] ?_
  refine TC.yes rfl ?_
  iterate 4 refine gx ?_
  refine TL.gets (Wants.none rfl) rfl (Gets.nilCheck rfl rfl) ?_
  refine gx ?_
  refine TL.call0 (Wants.none rfl) rfl enters61 rfl rfl (v := .int .i64 (m : Int)) (fun w hs => end_c g A m c k 0 po w (hs.has (⟨g, 87, [Value.slice A m c, Value.int .i64 (k : Int), Value.int .i64 0, Value.int .i64 po], 4⟩) (by simp)) (by omega) (by omega) (by omega)) ?_
  refine TL.call (ι := Unit) (V := fun _ => .tuple #[]) (R := fun _ => True) (H' := fun _ => [⟨g, 87, [Value.slice A m c, Value.int .i64 (k : Int), Value.int .i64 8, Value.int .i64 (m : Int)], 4⟩]) (Wants.none rfl) rfl enters49 rfl rfl (fun w hs => (fail_set g A m c k po 8 (m : Int) (by decide) w (hs.has (⟨g, 87, [Value.slice A m c, Value.int .i64 (k : Int), Value.int .i64 0, Value.int .i64 po], 4⟩) (by simp))).mono fun e w' ⟨he, hw⟩ => ⟨(), he, trivial, St.turn (i := 0) (e := ⟨g, 87, [Value.slice A m c, Value.int .i64 (k : Int), Value.int .i64 8, Value.int .i64 (m : Int)], 4⟩) hs rfl rfl hw⟩) (fun _ _ => ?_)
  iterate 4 refine gx ?_
  exact TE.ret0 rfl (fun w hs => ⟨rfl, hs⟩)

set_option maxRecDepth 100000 in
set_option maxHeartbeats 400000 in
theorem read_u (gv : Nat) (g : Nat) (A : Option Addr) (m c k : Nat) (n : Nat) (po : Int) (B : List Int) (hkn : k + n ≤ m) (hn : n ≤ 8) (w : World) (hl : Ent.lies ⟨g, 87, rdC A m c k 0 po, rdN⟩ w) (hv : Ent.lies ⟨gv, 51, [Value.int .u64 0], 1⟩ w) (hk : k ≤ m) (hmc : m ≤ c) (hcm : c ≤ 9223372036854775807) (hgg : g ≠ gv) (hX : SrcX w [gv, g] A m .u8 B) (hBB : Bytes B)  : Calls Try.prog 66 #[.pointer (some ⟨g, 0, none⟩), .int .i64 (n : Int), .func (.func 67) #[] #[.pointer (some ⟨gv, 0, none⟩)]] w fun e w' => e = .returned (.tuple #[]) ∧ St w [⟨gv, 51, [Value.int .u64 (valB ((B.drop k).take n))], 1⟩, ⟨g, 87, rdC A m c (k + n) 0 po, rdN⟩] w' := by
  refine calls_from (args := [.pointer (some ⟨g, 0, none⟩), .int .i64 (n : Int), .func (.func 67) #[] #[.pointer (some ⟨gv, 0, none⟩)]]) Try.func66 rfl Try.ntmps66 (by simp) ?_
  refine TC.pr [0, 1, 2] ?_
  refine TC.heap (H' := [⟨gv, 51, [Value.int .u64 0], 1⟩, ⟨g, 87, [Value.slice A m c, Value.int .i64 (k : Int), Value.int .i64 0, Value.int .i64 po], 4⟩]) (fun w hs => (hs.take hl ne_nil).take hv (ne_cons (by show g ≠ gv; exact hgg) ne_nil)) ?_
  iterate 4 refine gx ?_
  refine TL.call0 (Wants.none rfl) rfl enters57 rfl rfl (v := .bool true) (fun w hs => calls_yes rfl (ready_c g A m c k 0 po w (hs.has (⟨g, 87, [Value.slice A m c, Value.int .i64 (k : Int), Value.int .i64 0, Value.int .i64 po], 4⟩) (by simp)))) ?_
  iterate 3 refine gx ?_
  refine TC.no rfl ?_
  iterate 7 refine gx ?_
  refine TL.gets (Wants.none rfl) rfl (Gets.nilCheck rfl rfl) ?_
  refine gx ?_
  refine TL.call0 (Wants.none rfl) rfl enters58 rfl rfl (v := .slice (cutA A c k 1) (m - k) (c - k)) (fun w hs => left_c g A m c k 0 po w (hs.has (⟨g, 87, [Value.slice A m c, Value.int .i64 (k : Int), Value.int .i64 0, Value.int .i64 po], 4⟩) (by simp)) (by omega) (by omega) (by omega)) ?_
  refine gx ?_
  refine TL.gets (Wants.none rfl) rfl (Gets.isFalse (Gets.gtr rfl rfl rfl) (by omega)) ?_
  iterate 2 refine gx ?_
  refine TC.pr [0, 1, 2, 15] ?_
  refine TC.no rfl ?_
  iterate 5 refine gx ?_
  refine TL.gets (Wants.none rfl) rfl (Gets.nilCheck rfl rfl) ?_
  iterate 2 refine gx ?_
  refine TL.call (ι := Unit) (V := fun _ => .slice (cutA A c k 1) n (c - k)) (R := fun _ => True) (H' := fun _ => [⟨gv, 51, [Value.int .u64 0], 1⟩, ⟨g, 87, [Value.slice A m c, Value.int .i64 (((k + n) : Nat) : Int), Value.int .i64 0, Value.int .i64 po], 4⟩]) (Wants.none rfl) rfl enters60 rfl rfl (fun w hs => (pass_c g A m c k n (by omega) 0 po w (hs.has (⟨g, 87, [Value.slice A m c, Value.int .i64 (k : Int), Value.int .i64 0, Value.int .i64 po], 4⟩) (by simp)) (by omega) (by omega) (by omega)).mono fun e w' ⟨he, hw⟩ => ⟨(), he, trivial, St.turn (i := 1) (e := ⟨g, 87, [Value.slice A m c, Value.int .i64 (((k + n) : Nat) : Int), Value.int .i64 0, Value.int .i64 po], 4⟩) hs rfl rfl hw⟩) (fun _ _ => ?_)
  refine TL.callF (ι := Unit) (V := fun _ => .tuple #[]) (R := fun _ => True) (H' := fun _ => [⟨gv, 51, [Value.int .u64 (valB ((B.drop k).take n))], 1⟩, ⟨g, 87, [Value.slice A m c, Value.int .i64 (((k + n) : Nat) : Int), Value.int .i64 0, Value.int .i64 po], 4⟩]) (Wants.none rfl) rfl enters67 rfl rfl rfl (fun w hs => (u1_c gv (cutA A c k 1) n (c - k) ((B.drop k).take n) ((hBB.drop k).take n) w ((((hX.at_ hs (fun b hb hbX => (ne_cons (fun h => hbX gv (by simp) h.symm) (ne_cons (fun h => hbX g (by simp) h.symm) ne_nil)))).drop (by omega) (by omega)).head (by omega)).sub (Y := [gv]) (fun y hy => by rw [List.mem_singleton.1 hy]; simp)) (hs.has (⟨gv, 51, [Value.int .u64 0], 1⟩) (by simp)) (by omega) (by omega) (by omega)).mono fun e w' ⟨he, hw⟩ => ⟨(), he, trivial, St.turn (i := 0) (e := ⟨gv, 51, [Value.int .u64 (valB ((B.drop k).take n))], 1⟩) hs rfl rfl hw⟩) (fun _ _ => ?_)
  refine gx ?_
  exact TE.end0 rfl (fun w hs => ⟨rfl, hs⟩)

theorem st_swap (a b : Ent) (He : List Ent) : ([a] ++ (He ++ [b])).Perm ([a, b] ++ He) := by
  show (a :: (He ++ [b])).Perm (a :: b :: He)
  exact List.Perm.cons _ (List.perm_append_comm (l₁ := He) (l₂ := [b]))

set_option maxRecDepth 100000 in
set_option maxHeartbeats 400000 in
theorem read_b (gv : Nat) (g : Nat) (A : Option Addr) (m c k : Nat) (n : Nat) (po : Int) (B : List Int) (hkn : k + n ≤ m) (hm : m ≤ 1000000) (w : World) (hl : Ent.lies ⟨g, 87, rdC A m c k 0 po, rdN⟩ w) (hv : Ent.lies ⟨gv, 28, [Value.slice none 0 0], 1⟩ w) (hk : k ≤ m) (hmc : m ≤ c) (hcm : c ≤ 9223372036854775807) (hgg : g ≠ gv) (hX : SrcX w [gv, g] A m .u8 B) (hBB : Bytes B)  : Calls Try.prog 66 #[.pointer (some ⟨g, 0, none⟩), .int .i64 (n : Int), .func (.func 70) #[] #[.pointer (some ⟨gv, 0, none⟩)]] w fun e w' => ∃ v He, e = .returned (.tuple #[]) ∧ Own w.heap.size 5 .u8 v ((B.drop k).take n) He ∧ St w ((⟨gv, 28, [v], 1⟩ : Ent) :: (⟨g, 87, rdC A m c (k + n) 0 po, rdN⟩ : Ent) :: He) w' := by
  refine calls_from (args := [.pointer (some ⟨g, 0, none⟩), .int .i64 (n : Int), .func (.func 70) #[] #[.pointer (some ⟨gv, 0, none⟩)]]) Try.func66 rfl Try.ntmps66 (by simp) ?_
  refine TC.pr [0, 1, 2] ?_
  refine TC.heap (H' := [⟨gv, 28, [Value.slice none 0 0], 1⟩, ⟨g, 87, [Value.slice A m c, Value.int .i64 (k : Int), Value.int .i64 0, Value.int .i64 po], 4⟩]) (fun w hs => (hs.take hl ne_nil).take hv (ne_cons (by show g ≠ gv; exact hgg) ne_nil)) ?_
  iterate 4 refine gx ?_
  refine TL.call0 (Wants.none rfl) rfl enters57 rfl rfl (v := .bool true) (fun w hs => calls_yes rfl (ready_c g A m c k 0 po w (hs.has (⟨g, 87, [Value.slice A m c, Value.int .i64 (k : Int), Value.int .i64 0, Value.int .i64 po], 4⟩) (by simp)))) ?_
  iterate 3 refine gx ?_
  refine TC.no rfl ?_
  iterate 7 refine gx ?_
  refine TL.gets (Wants.none rfl) rfl (Gets.nilCheck rfl rfl) ?_
  refine gx ?_
  refine TL.call0 (Wants.none rfl) rfl enters58 rfl rfl (v := .slice (cutA A c k 1) (m - k) (c - k)) (fun w hs => left_c g A m c k 0 po w (hs.has (⟨g, 87, [Value.slice A m c, Value.int .i64 (k : Int), Value.int .i64 0, Value.int .i64 po], 4⟩) (by simp)) (by omega) (by omega) (by omega)) ?_
  refine gx ?_
  refine TL.gets (Wants.none rfl) rfl (Gets.isFalse (Gets.gtr rfl rfl rfl) (by omega)) ?_
  iterate 2 refine gx ?_
  refine TC.pr [0, 1, 2, 15] ?_
  refine TC.no rfl ?_
  iterate 5 refine gx ?_
  refine TL.gets (Wants.none rfl) rfl (Gets.nilCheck rfl rfl) ?_
  iterate 2 refine gx ?_
  refine TL.call (ι := Unit) (V := fun _ => .slice (cutA A c k 1) n (c - k)) (R := fun _ => True) (H' := fun _ => [⟨gv, 28, [Value.slice none 0 0], 1⟩, ⟨g, 87, [Value.slice A m c, Value.int .i64 (((k + n) : Nat) : Int), Value.int .i64 0, Value.int .i64 po], 4⟩]) (Wants.none rfl) rfl enters60 rfl rfl (fun w hs => (pass_c g A m c k n (by omega) 0 po w (hs.has (⟨g, 87, [Value.slice A m c, Value.int .i64 (k : Int), Value.int .i64 0, Value.int .i64 po], 4⟩) (by simp)) (by omega) (by omega) (by omega)).mono fun e w' ⟨he, hw⟩ => ⟨(), he, trivial, St.turn (i := 1) (e := ⟨g, 87, [Value.slice A m c, Value.int .i64 (((k + n) : Nat) : Int), Value.int .i64 0, Value.int .i64 po], 4⟩) hs rfl rfl hw⟩) (fun _ _ => ?_)
  refine TL.callF (ι := Value × List Ent) (V := fun _ => .tuple #[]) (R := fun y => Own w.heap.size 5 .u8 y.1 ((B.drop k).take n) y.2) (H' := fun y => [⟨gv, 28, [y.1], 1⟩, ⟨g, 87, [Value.slice A m c, Value.int .i64 (((k + n) : Nat) : Int), Value.int .i64 0, Value.int .i64 po], 4⟩] ++ y.2) (Wants.none rfl) rfl enters70 rfl rfl rfl (fun w hs => (b1_c gv (cutA A c k 1) n (c - k) ((B.drop k).take n) _ w ((((hX.at_ hs (fun b hb hbX => (ne_cons (fun h => hbX gv (by simp) h.symm) (ne_cons (fun h => hbX g (by simp) h.symm) ne_nil)))).drop (by omega) (by omega)).head (by omega)).sub (Y := [gv]) (fun y hy => by rw [List.mem_singleton.1 hy]; simp)) (hs.has (⟨gv, 28, [Value.slice none 0 0], 1⟩) (by simp)) (by omega) (by omega)).mono fun e w' ⟨v, He, he, ho, hw⟩ => ⟨(v, He), he, own_mono ho hs.size, (St.turns (H := [⟨gv, 28, [Value.slice none 0 0], 1⟩]) (F := [⟨g, 87, [Value.slice A m c, Value.int .i64 (((k + n) : Nat) : Int), Value.int .i64 0, Value.int .i64 po], 4⟩]) (H' := [⟨gv, 28, [v], 1⟩]) (E := He) hs hw rfl ho.new).perm (st_swap _ _ _)⟩) (fun y hR => ?_)
  obtain ⟨v, He⟩ := y
  dsimp only at hR ⊢
  refine gx ?_
  exact TE.end0 rfl (fun w hs => ⟨v, He, rfl, hR, hs⟩)

set_option maxRecDepth 100000 in
set_option maxHeartbeats 400000 in
theorem uint_ok (g : Nat) (A : Option Addr) (m c k : Nat) (n : Nat) (po : Int) (hn : 1 ≤ n ∧ n ≤ 8) (hkn : k + n ≤ m) (w : World) (hl : Ent.lies ⟨g, 87, rdC A m c k 0 po, rdN⟩ w) (hk : k ≤ m) (hmc : m ≤ c) (hcm : c ≤ 9223372036854775807) (B : List Int) (hX : SrcX w [g] A m .u8 B) (hBB : Bytes B)  : Calls Try.prog 47 #[.pointer (some ⟨g, 0, none⟩), .int .i64 (n : Int)] w fun e w' => e = .returned (.int .u64 (valB ((B.drop k).take n))) ∧ St w [⟨g, 87, rdC A m c (k + n) 0 po, rdN⟩] w' := by
  have hg : g < w.heap.size := hl.lt
  refine calls_from (args := [.pointer (some ⟨g, 0, none⟩), .int .i64 (n : Int)]) Try.func47 rfl Try.ntmps47 (by simp) ?_
  refine TC.pr [0, 1] ?_
  refine TC.heap (H' := [⟨g, 87, [Value.slice A m c, Value.int .i64 (k : Int), Value.int .i64 0, Value.int .i64 po], 4⟩]) (fun w hs => hs.take hl ne_nil) ?_
  iterate 9 refine gx ?_
  refine TL.call0 (Wants.none rfl) rfl enters55 rfl rfl (v := .bool true) (fun w hs => (vsize_c (n : Int) w).mono fun e w' h => by rw [decide_eq_true (p := 1 ≤ (n : Int) ∧ (n : Int) ≤ 8) (by omega)] at h; exact h) ?_
  iterate 3 refine gx ?_
  refine TC.no rfl ?_
  iterate 4 refine gx ?_
  refine TL.al (fun g1 hg1 => ?_)
  refine TL.store1 (Wants.none rfl) rfl rfl size51 rfl rfl rfl (i := 0) rfl rfl (by simp [] <;> omega) (cs' := [Value.int .u64 0]) (rfl) (H' := [⟨g1, 51, [Value.int .u64 0], 1⟩, ⟨g, 87, [Value.slice A m c, Value.int .i64 (k : Int), Value.int .i64 0, Value.int .i64 po], 4⟩]) rfl ?_
  iterate 6 refine gx ?_
  refine TL.gets (Wants.none rfl) rfl (Gets.makeFunc rfl rfl rfl) ?_
  refine TL.call (ι := Unit) (V := fun _ => .tuple #[]) (R := fun _ => True) (H' := fun _ => [⟨g1, 51, [Value.int .u64 (valB ((B.drop k).take n))], 1⟩, ⟨g, 87, [Value.slice A m c, Value.int .i64 (((k + n) : Nat) : Int), Value.int .i64 0, Value.int .i64 po], 4⟩]) (Wants.none rfl) rfl enters66 rfl rfl (fun w hs => (read_u g1 g A m c k n po B (by omega) (by omega) w (hs.has (⟨g, 87, [Value.slice A m c, Value.int .i64 (k : Int), Value.int .i64 0, Value.int .i64 po], 4⟩) (by simp)) (hs.has (⟨g1, 51, [Value.int .u64 0], 1⟩) (by simp)) (by omega) (by omega) (by omega) (by omega) ((hX.more hg1).at_ hs (fun b hb hbX => (ne_cons (fun h => hbX g1 (by simp) h.symm) (ne_cons (fun h => hbX g (by simp) h.symm) ne_nil)))) hBB).mono fun e w' ⟨he, hw⟩ => ⟨(), he, trivial, St.turns (H := [⟨g1, 51, [Value.int .u64 0], 1⟩, ⟨g, 87, [Value.slice A m c, Value.int .i64 (k : Int), Value.int .i64 0, Value.int .i64 po], 4⟩]) (F := []) (H' := [⟨g1, 51, [Value.int .u64 (valB ((B.drop k).take n))], 1⟩, ⟨g, 87, [Value.slice A m c, Value.int .i64 (((k + n) : Nat) : Int), Value.int .i64 0, Value.int .i64 po], 4⟩]) (E := []) hs hw rfl (by simp)⟩) (fun _ _ => ?_)
  iterate 2 refine gx ?_
  refine TC.pr [4, 5] ?_
  iterate 7 refine gx ?_
  exact TE.ret1 rfl rfl (fun w hs => ⟨rfl, hs.drop (by assumption)⟩)

set_option maxRecDepth 100000 in
set_option maxHeartbeats 400000 in
theorem uint_short (g : Nat) (A : Option Addr) (m c k : Nat) (n po : Int) (hn : 1 ≤ n ∧ n ≤ 8) (hkn : (m : Int) - (k : Int) < n) (w : World) (hl : Ent.lies ⟨g, 87, rdC A m c k 0 po, rdN⟩ w) (hk : k ≤ m) (hmc : m ≤ c) (hcm : c ≤ 9223372036854775807)  : Calls Try.prog 47 #[.pointer (some ⟨g, 0, none⟩), .int .i64 n] w fun e w' => e = .returned (.int .u64 0) ∧ St w [⟨g, 87, rdC A m c k 8 (m : Int), rdN⟩] w' := by
  have hg : g < w.heap.size := hl.lt
  refine calls_from (args := [.pointer (some ⟨g, 0, none⟩), .int .i64 n]) Try.func47 rfl Try.ntmps47 (by simp) ?_
  refine TC.pr [0, 1] ?_
  refine TC.heap (H' := [⟨g, 87, [Value.slice A m c, Value.int .i64 (k : Int), Value.int .i64 0, Value.int .i64 po], 4⟩]) (fun w hs => hs.take hl ne_nil) ?_
  iterate 9 refine gx ?_
  refine TL.call0 (Wants.none rfl) rfl enters55 rfl rfl (v := .bool true) (fun w hs => (vsize_c n w).mono fun e w' h => by rw [decide_eq_true (p := 1 ≤ n ∧ n ≤ 8) hn] at h; exact h) ?_
  iterate 3 refine gx ?_
  refine TC.no rfl ?_
  iterate 4 refine gx ?_
  refine TL.al (fun g1 hg1 => ?_)
  refine TL.store1 (Wants.none rfl) rfl rfl size51 rfl rfl rfl (i := 0) rfl rfl (by simp [] <;> omega) (cs' := [Value.int .u64 0]) (rfl) (H' := [⟨g1, 51, [Value.int .u64 0], 1⟩, ⟨g, 87, [Value.slice A m c, Value.int .i64 (k : Int), Value.int .i64 0, Value.int .i64 po], 4⟩]) rfl ?_
  iterate 6 refine gx ?_
  refine TL.gets (Wants.none rfl) rfl (Gets.makeFunc rfl rfl rfl) ?_
  refine TL.call (ι := Unit) (V := fun _ => .tuple #[]) (R := fun _ => True) (H' := fun _ => [⟨g1, 51, [Value.int .u64 0], 1⟩, ⟨g, 87, [Value.slice A m c, Value.int .i64 (k : Int), Value.int .i64 8, Value.int .i64 (m : Int)], 4⟩]) (Wants.none rfl) rfl enters66 rfl rfl (fun w hs => (read_short g A m c k po n (.func (.func 67) #[] #[.pointer (some ⟨g1, 0, none⟩)]) (by omega) w (hs.has (⟨g, 87, [Value.slice A m c, Value.int .i64 (k : Int), Value.int .i64 0, Value.int .i64 po], 4⟩) (by simp)) (by omega) (by omega) (by omega)).mono fun e w' ⟨he, hw⟩ => ⟨(), he, trivial, St.turn (i := 1) (e := ⟨g, 87, [Value.slice A m c, Value.int .i64 (k : Int), Value.int .i64 8, Value.int .i64 (m : Int)], 4⟩) hs rfl rfl hw⟩) (fun _ _ => ?_)
  iterate 2 refine gx ?_
  refine TC.pr [4, 5] ?_
  iterate 7 refine gx ?_
  exact TE.ret1 rfl rfl (fun w hs => ⟨rfl, hs.drop (by assumption)⟩)

set_option maxRecDepth 100000 in
set_option maxHeartbeats 400000 in
theorem uint_f (g : Nat) (A : Option Addr) (m c k : Nat) (co po n : Int) (hco : co ≠ 0) (w : World) (hl : Ent.lies ⟨g, 87, rdC A m c k co po, rdN⟩ w)  : Calls Try.prog 47 #[.pointer (some ⟨g, 0, none⟩), .int .i64 n] w fun e w' => e = .returned (.int .u64 0) ∧ St w [] w' := by
  have hg : g < w.heap.size := hl.lt
  refine calls_from (args := [.pointer (some ⟨g, 0, none⟩), .int .i64 n]) Try.func47 rfl Try.ntmps47 (by simp) ?_
  refine TC.pr [0, 1] ?_
  refine TC.heap (H' := [⟨g, 87, [Value.slice A m c, Value.int .i64 (k : Int), Value.int .i64 co, Value.int .i64 po], 4⟩]) (fun w hs => hs.take hl ne_nil) ?_
  iterate 9 refine gx ?_
  by_cases c1 : 1 ≤ n ∧ n ≤ 8
  · refine TL.call0 (Wants.none rfl) rfl enters55 rfl rfl (v := .bool true) (fun w hs => (vsize_c n w).mono fun e w' h => by rw [decide_eq_true (p := 1 ≤ n ∧ n ≤ 8) c1] at h; exact h) ?_
    iterate 3 refine gx ?_
    refine TC.no rfl ?_
    iterate 4 refine gx ?_
    refine TL.al (fun g1 hg1 => ?_)
    refine TL.store1 (Wants.none rfl) rfl rfl size51 rfl rfl rfl (i := 0) rfl rfl (by simp [] <;> omega) (cs' := [Value.int .u64 0]) (rfl) (H' := [⟨g1, 51, [Value.int .u64 0], 1⟩, ⟨g, 87, [Value.slice A m c, Value.int .i64 (k : Int), Value.int .i64 co, Value.int .i64 po], 4⟩]) rfl ?_
    iterate 6 refine gx ?_
    refine TL.gets (Wants.none rfl) rfl (Gets.makeFunc rfl rfl rfl) ?_
    refine TL.call0 (Wants.none rfl) rfl enters66 rfl rfl (v := .tuple #[]) (fun w hs => read_dead g A m c k co po n (.func (.func 67) #[] #[.pointer (some ⟨g1, 0, none⟩)]) hco w (hs.has (⟨g, 87, [Value.slice A m c, Value.int .i64 (k : Int), Value.int .i64 co, Value.int .i64 po], 4⟩) (by simp))) ?_
    iterate 2 refine gx ?_
    refine TC.pr [4, 5] ?_
    iterate 7 refine gx ?_
    exact TE.ret1 rfl rfl (fun w hs => ⟨rfl, ((hs.drop (by assumption)).same hl rfl)⟩)
  · refine TL.call0 (Wants.none rfl) rfl enters55 rfl rfl (v := .bool false) (fun w hs => (vsize_c n w).mono fun e w' h => by rw [decide_eq_false (p := 1 ≤ n ∧ n ≤ 8) c1] at h; exact h) ?_
    iterate 3 refine gx ?_
    refine TC.yes rfl ?_
    iterate 4 refine gx ?_
    refine TL.call0 (Wants.none rfl) rfl enters50 rfl rfl (v := .int .i64 (k : Int)) (fun w hs => at_c g A m c k co po w (hs.has (⟨g, 87, [Value.slice A m c, Value.int .i64 (k : Int), Value.int .i64 co, Value.int .i64 po], 4⟩) (by simp))) ?_
    refine TL.call0 (Wants.none rfl) rfl enters49 rfl rfl (v := .tuple #[]) (fun w hs => fail_dead g A m c k co po 2 (k : Int) hco w (hs.has (⟨g, 87, [Value.slice A m c, Value.int .i64 (k : Int), Value.int .i64 co, Value.int .i64 po], 4⟩) (by simp))) ?_
    iterate 2 refine gx ?_
    refine TC.pr [0, 1, 4] ?_
    iterate 7 refine gx ?_
    exact TE.ret1 rfl rfl (fun w hs => ⟨rfl, (hs.same hl rfl)⟩)

set_option maxRecDepth 100000 in
set_option maxHeartbeats 400000 in
theorem uint_nil (n : Int) (w : World) : Calls Try.prog 47 #[.pointer none, .int .i64 n] w fun e w' => e = .returned (.int .u64 0) ∧ St w [] w' := by
  refine calls_from (args := [.pointer none, .int .i64 n]) Try.func47 rfl Try.ntmps47 (by simp) ?_
  refine TC.pr [0, 1] ?_
  iterate 9 refine gx ?_
  by_cases c1 : 1 ≤ n ∧ n ≤ 8
  · refine TL.call0 (Wants.none rfl) rfl enters55 rfl rfl (v := .bool true) (fun w hs => (vsize_c n w).mono fun e w' h => by rw [decide_eq_true (p := 1 ≤ n ∧ n ≤ 8) c1] at h; exact h) ?_
    iterate 3 refine gx ?_
    refine TC.no rfl ?_
    iterate 4 refine gx ?_
    refine TL.al (fun g1 hg1 => ?_)
    refine TL.store1 (Wants.none rfl) rfl rfl size51 rfl rfl rfl (i := 0) rfl rfl (by simp [] <;> omega) (cs' := [Value.int .u64 0]) (rfl) (H' := [⟨g1, 51, [Value.int .u64 0], 1⟩]) rfl ?_
    iterate 6 refine gx ?_
    refine TL.gets (Wants.none rfl) rfl (Gets.makeFunc rfl rfl rfl) ?_
    refine TL.call0 (Wants.none rfl) rfl enters66 rfl rfl (v := .tuple #[]) (fun w hs => read_nil n (.func (.func 67) #[] #[.pointer (some ⟨g1, 0, none⟩)]) w) ?_
    iterate 2 refine gx ?_
    refine TC.pr [4, 5] ?_
    iterate 7 refine gx ?_
    exact TE.ret1 rfl rfl (fun w hs => ⟨rfl, (hs.drop (by assumption))⟩)
  · refine TL.call0 (Wants.none rfl) rfl enters55 rfl rfl (v := .bool false) (fun w hs => (vsize_c n w).mono fun e w' h => by rw [decide_eq_false (p := 1 ≤ n ∧ n ≤ 8) c1] at h; exact h) ?_
    iterate 3 refine gx ?_
    refine TC.yes rfl ?_
    iterate 4 refine gx ?_
    refine TL.call0 (Wants.none rfl) rfl enters50 rfl rfl (v := .int .i64 0) (fun w hs => at_nil w) ?_
    refine TL.call0 (Wants.none rfl) rfl enters49 rfl rfl (v := .tuple #[]) (fun w hs => fail_nil 2 0 w) ?_
    iterate 2 refine gx ?_
    refine TC.pr [0, 1, 4] ?_
    iterate 7 refine gx ?_
    exact TE.ret1 rfl rfl (fun w hs => ⟨rfl, hs⟩)

set_option maxRecDepth 100000 in
set_option maxHeartbeats 400000 in
theorem length_ok (g : Nat) (A : Option Addr) (m c k : Nat) (po : Int) (hkn : k + 8 ≤ m) (w : World) (hl : Ent.lies ⟨g, 87, rdC A m c k 0 po, rdN⟩ w) (hk : k ≤ m) (hmc : m ≤ c) (hcm : c ≤ 9223372036854775807) (B : List Int) (hX : SrcX w [g] A m .u8 B) (hBB : Bytes B) (hv : (valB ((B.drop k).take 8)) ≤ 4611686018427387903) : Calls Try.prog 44 #[.pointer (some ⟨g, 0, none⟩)] w fun e w' => e = .returned (.int .i64 (valB ((B.drop k).take 8))) ∧ St w [⟨g, 87, rdC A m c (k + 8) 0 po, rdN⟩] w' := by
  have hv0 := valB_bd ((hBB.drop k).take 8) (by rw [List.length_take]; omega)
  refine calls_from (args := [.pointer (some ⟨g, 0, none⟩)]) Try.func44 rfl Try.ntmps44 (by simp) ?_
  refine TC.pr [0] ?_
  refine TC.heap (H' := [⟨g, 87, [Value.slice A m c, Value.int .i64 (k : Int), Value.int .i64 0, Value.int .i64 po], 4⟩]) (fun w hs => hs.take hl ne_nil) ?_
  iterate 8 refine gx ?_
  refine TL.call0 (Wants.none rfl) rfl enters50 rfl rfl (v := .int .i64 (k : Int)) (fun w hs => at_c g A m c k 0 po w (hs.has (⟨g, 87, [Value.slice A m c, Value.int .i64 (k : Int), Value.int .i64 0, Value.int .i64 po], 4⟩) (by simp))) ?_
  iterate 6 refine gx ?_
  refine TL.call (ι := Unit) (V := fun _ => .int .u64 (valB ((B.drop k).take 8))) (R := fun _ => True) (H' := fun _ => [⟨g, 87, [Value.slice A m c, Value.int .i64 (((k + 8) : Nat) : Int), Value.int .i64 0, Value.int .i64 po], 4⟩]) (Wants.none rfl) rfl enters47 rfl rfl (fun w hs => (uint_ok g A m c k 8 po (by omega) (by omega) w (hs.has (⟨g, 87, [Value.slice A m c, Value.int .i64 (k : Int), Value.int .i64 0, Value.int .i64 po], 4⟩) (by simp)) (by omega) (by omega) (by omega) B (hX.at_ hs (fun b hb hbX => (ne_cons (fun h => hbX g (by simp) h.symm) ne_nil))) hBB).mono fun e w' ⟨he, hw⟩ => ⟨(), he, trivial, St.turn (i := 0) (e := ⟨g, 87, [Value.slice A m c, Value.int .i64 (((k + 8) : Nat) : Int), Value.int .i64 0, Value.int .i64 po], 4⟩) hs rfl rfl hw⟩) (fun _ _ => ?_)
  iterate 7 refine gx ?_
  refine TL.gets (Wants.none rfl) rfl (Gets.isFalse (Gets.gtr rfl rfl rfl) (by omega)) ?_
  iterate 2 refine gx ?_
  refine TC.pr [0, 2, 3, 4, 10] ?_
  refine TC.no rfl ?_
  iterate 5 refine gx ?_
  refine TL.gets (Wants.none rfl) rfl (Gets.conv rfl Try.underlying51 Try.underlying3 rfl (r := (valB ((B.drop k).take 8))) (w64 rfl (by omega))) ?_
  iterate 4 refine gx ?_
  exact TE.ret1 rfl rfl (fun w hs => ⟨rfl, hs⟩)

set_option maxRecDepth 100000 in
set_option maxHeartbeats 400000 in
theorem length_big (g : Nat) (A : Option Addr) (m c k : Nat) (po : Int) (hkn : k + 8 ≤ m) (w : World) (hl : Ent.lies ⟨g, 87, rdC A m c k 0 po, rdN⟩ w) (hk : k ≤ m) (hmc : m ≤ c) (hcm : c ≤ 9223372036854775807) (B : List Int) (hX : SrcX w [g] A m .u8 B) (hBB : Bytes B) (hv : 4611686018427387903 < (valB ((B.drop k).take 8))) : Calls Try.prog 44 #[.pointer (some ⟨g, 0, none⟩)] w fun e w' => e = .returned (.int .i64 0) ∧ St w [⟨g, 87, rdC A m c (k + 8) 2 (k : Int), rdN⟩] w' := by
  have hv0 := valB_bd ((hBB.drop k).take 8) (by rw [List.length_take]; omega)
  refine calls_from (args := [.pointer (some ⟨g, 0, none⟩)]) Try.func44 rfl Try.ntmps44 (by simp) ?_
  refine TC.pr [0] ?_
  refine TC.heap (H' := [⟨g, 87, [Value.slice A m c, Value.int .i64 (k : Int), Value.int .i64 0, Value.int .i64 po], 4⟩]) (fun w hs => hs.take hl ne_nil) ?_
  iterate 8 refine gx ?_
  refine TL.call0 (Wants.none rfl) rfl enters50 rfl rfl (v := .int .i64 (k : Int)) (fun w hs => at_c g A m c k 0 po w (hs.has (⟨g, 87, [Value.slice A m c, Value.int .i64 (k : Int), Value.int .i64 0, Value.int .i64 po], 4⟩) (by simp))) ?_
  iterate 6 refine gx ?_
  refine TL.call (ι := Unit) (V := fun _ => .int .u64 (valB ((B.drop k).take 8))) (R := fun _ => True) (H' := fun _ => [⟨g, 87, [Value.slice A m c, Value.int .i64 (((k + 8) : Nat) : Int), Value.int .i64 0, Value.int .i64 po], 4⟩]) (Wants.none rfl) rfl enters47 rfl rfl (fun w hs => (uint_ok g A m c k 8 po (by omega) (by omega) w (hs.has (⟨g, 87, [Value.slice A m c, Value.int .i64 (k : Int), Value.int .i64 0, Value.int .i64 po], 4⟩) (by simp)) (by omega) (by omega) (by omega) B (hX.at_ hs (fun b hb hbX => (ne_cons (fun h => hbX g (by simp) h.symm) ne_nil))) hBB).mono fun e w' ⟨he, hw⟩ => ⟨(), he, trivial, St.turn (i := 0) (e := ⟨g, 87, [Value.slice A m c, Value.int .i64 (((k + 8) : Nat) : Int), Value.int .i64 0, Value.int .i64 po], 4⟩) hs rfl rfl hw⟩) (fun _ _ => ?_)
  iterate 7 refine gx ?_
  refine TL.gets (Wants.none rfl) rfl (Gets.isTrue (Gets.gtr rfl rfl rfl) (by omega)) ?_
  iterate 2 refine gx ?_
  refine TC.pr [0, 2, 3, 4, 10] ?_
  refine TC.yes rfl ?_
  iterate 4 refine gx ?_
  refine TL.call (ι := Unit) (V := fun _ => .tuple #[]) (R := fun _ => True) (H' := fun _ => [⟨g, 87, [Value.slice A m c, Value.int .i64 (((k + 8) : Nat) : Int), Value.int .i64 2, Value.int .i64 (k : Int)], 4⟩]) (Wants.none rfl) rfl enters49 rfl rfl (fun w hs => (fail_set g A m c (k + 8) po 2 (k : Int) (by decide) w (hs.has (⟨g, 87, [Value.slice A m c, Value.int .i64 (((k + 8) : Nat) : Int), Value.int .i64 0, Value.int .i64 po], 4⟩) (by simp))).mono fun e w' ⟨he, hw⟩ => ⟨(), he, trivial, St.turn (i := 0) (e := ⟨g, 87, [Value.slice A m c, Value.int .i64 (((k + 8) : Nat) : Int), Value.int .i64 2, Value.int .i64 (k : Int)], 4⟩) hs rfl rfl hw⟩) (fun _ _ => ?_)
  iterate 9 refine gx ?_
  exact TE.ret1 rfl rfl (fun w hs => ⟨rfl, hs⟩)

set_option maxRecDepth 100000 in
set_option maxHeartbeats 400000 in
theorem length_short (g : Nat) (A : Option Addr) (m c k : Nat) (po : Int) (hkn : m < k + 8) (w : World) (hl : Ent.lies ⟨g, 87, rdC A m c k 0 po, rdN⟩ w) (hk : k ≤ m) (hmc : m ≤ c) (hcm : c ≤ 9223372036854775807)  : Calls Try.prog 44 #[.pointer (some ⟨g, 0, none⟩)] w fun e w' => e = .returned (.int .i64 0) ∧ St w [⟨g, 87, rdC A m c k 8 (m : Int), rdN⟩] w' := by
  refine calls_from (args := [.pointer (some ⟨g, 0, none⟩)]) Try.func44 rfl Try.ntmps44 (by simp) ?_
  refine TC.pr [0] ?_
  refine TC.heap (H' := [⟨g, 87, [Value.slice A m c, Value.int .i64 (k : Int), Value.int .i64 0, Value.int .i64 po], 4⟩]) (fun w hs => hs.take hl ne_nil) ?_
  iterate 8 refine gx ?_
  refine TL.call0 (Wants.none rfl) rfl enters50 rfl rfl (v := .int .i64 (k : Int)) (fun w hs => at_c g A m c k 0 po w (hs.has (⟨g, 87, [Value.slice A m c, Value.int .i64 (k : Int), Value.int .i64 0, Value.int .i64 po], 4⟩) (by simp))) ?_
  iterate 6 refine gx ?_
  refine TL.call (ι := Unit) (V := fun _ => .int .u64 0) (R := fun _ => True) (H' := fun _ => [⟨g, 87, [Value.slice A m c, Value.int .i64 (k : Int), Value.int .i64 8, Value.int .i64 (m : Int)], 4⟩]) (Wants.none rfl) rfl enters47 rfl rfl (fun w hs => (uint_short g A m c k 8 po (by omega) (by omega) w (hs.has (⟨g, 87, [Value.slice A m c, Value.int .i64 (k : Int), Value.int .i64 0, Value.int .i64 po], 4⟩) (by simp)) (by omega) (by omega) (by omega)).mono fun e w' ⟨he, hw⟩ => ⟨(), he, trivial, St.turn (i := 0) (e := ⟨g, 87, [Value.slice A m c, Value.int .i64 (k : Int), Value.int .i64 8, Value.int .i64 (m : Int)], 4⟩) hs rfl rfl hw⟩) (fun _ _ => ?_)
  iterate 7 refine gx ?_
  refine TL.gets (Wants.none rfl) rfl (Gets.isFalse (Gets.gtr rfl rfl rfl) (by omega)) ?_
  iterate 2 refine gx ?_
  refine TC.pr [0, 2, 3, 4, 10] ?_
  refine TC.no rfl ?_
  iterate 5 refine gx ?_
  refine TL.gets (Wants.none rfl) rfl (Gets.conv rfl Try.underlying51 Try.underlying3 rfl (r := 0) (w64 rfl (by omega))) ?_
  iterate 4 refine gx ?_
  exact TE.ret1 rfl rfl (fun w hs => ⟨rfl, hs⟩)

set_option maxRecDepth 100000 in
set_option maxHeartbeats 400000 in
theorem length_f (g : Nat) (A : Option Addr) (m c k : Nat) (co po : Int) (hco : co ≠ 0) (w : World) (hl : Ent.lies ⟨g, 87, rdC A m c k co po, rdN⟩ w)  : Calls Try.prog 44 #[.pointer (some ⟨g, 0, none⟩)] w fun e w' => e = .returned (.int .i64 0) ∧ St w [] w' := by
  refine calls_from (args := [.pointer (some ⟨g, 0, none⟩)]) Try.func44 rfl Try.ntmps44 (by simp) ?_
  refine TC.pr [0] ?_
  refine TC.heap (H' := [⟨g, 87, [Value.slice A m c, Value.int .i64 (k : Int), Value.int .i64 co, Value.int .i64 po], 4⟩]) (fun w hs => hs.take hl ne_nil) ?_
  iterate 8 refine gx ?_
  refine TL.call0 (Wants.none rfl) rfl enters50 rfl rfl (v := .int .i64 (k : Int)) (fun w hs => at_c g A m c k co po w (hs.has (⟨g, 87, [Value.slice A m c, Value.int .i64 (k : Int), Value.int .i64 co, Value.int .i64 po], 4⟩) (by simp))) ?_
  iterate 6 refine gx ?_
  refine TL.call0 (Wants.none rfl) rfl enters47 rfl rfl (v := .int .u64 0) (fun w hs => uint_f g A m c k co po 8 hco w (hs.has (⟨g, 87, [Value.slice A m c, Value.int .i64 (k : Int), Value.int .i64 co, Value.int .i64 po], 4⟩) (by simp))) ?_
  iterate 7 refine gx ?_
  refine TL.gets (Wants.none rfl) rfl (Gets.isFalse (Gets.gtr rfl rfl rfl) (by omega)) ?_
  iterate 2 refine gx ?_
  refine TC.pr [0, 2, 3, 4, 10] ?_
  refine TC.no rfl ?_
  iterate 5 refine gx ?_
  refine TL.gets (Wants.none rfl) rfl (Gets.conv rfl Try.underlying51 Try.underlying3 rfl (r := 0) (w64 rfl (by omega))) ?_
  iterate 4 refine gx ?_
  exact TE.ret1 rfl rfl (fun w hs => ⟨rfl, (hs.same hl rfl)⟩)

set_option maxRecDepth 100000 in
set_option maxHeartbeats 400000 in
theorem length_nil (w : World) : Calls Try.prog 44 #[.pointer none] w fun e w' => e = .returned (.int .i64 0) ∧ St w [] w' := by
  refine calls_from (args := [.pointer none]) Try.func44 rfl Try.ntmps44 (by simp) ?_
  refine TC.pr [0] ?_
  iterate 8 refine gx ?_
  refine TL.call0 (Wants.none rfl) rfl enters50 rfl rfl (v := .int .i64 0) (fun w hs => at_nil w) ?_
  iterate 6 refine gx ?_
  refine TL.call0 (Wants.none rfl) rfl enters47 rfl rfl (v := .int .u64 0) (fun w hs => uint_nil 8 w) ?_
  iterate 7 refine gx ?_
  refine TL.gets (Wants.none rfl) rfl (Gets.isFalse (Gets.gtr rfl rfl rfl) (by omega)) ?_
  iterate 2 refine gx ?_
  refine TC.pr [0, 2, 3, 4, 10] ?_
  refine TC.no rfl ?_
  iterate 5 refine gx ?_
  refine TL.gets (Wants.none rfl) rfl (Gets.conv rfl Try.underlying51 Try.underlying3 rfl (r := 0) (w64 rfl (by omega))) ?_
  iterate 4 refine gx ?_
  exact TE.ret1 rfl rfl (fun w hs => ⟨rfl, hs⟩)
end Go.Proofs.Ytclmgfcdnokaiaa
/-
  The reader of layer 6: Bytes, Expect, New.
-/
namespace Go.Proofs.Ytclmgfcdnokaiaa
set_option linter.unusedVariables false
set_option linter.unusedSimpArgs false
open Go Go.RowKit
theorem enters59 : Enters Try.prog 59 := ⟨_, Try.func59, by kernel_rfl, by kernel_rfl⟩
theorem enters69 : Enters Try.prog 69 := ⟨_, Try.func69, by kernel_rfl, by kernel_rfl⟩
theorem zero28 : (Try.prog.info? 28).bind (·.zero) = some (.slice none 0 0) := by kernel_rfl
instance : Zer Try.prog 28 [Value.slice none 0 0] := ⟨⟨_, zero28, rfl⟩⟩
set_option maxRecDepth 100000 in
set_option maxHeartbeats 400000 in
theorem bytes_ok (g : Nat) (A : Option Addr) (m c k : Nat) (n : Nat) (po : Int) (hkn : k + n ≤ m) (w : World) (hl : Ent.lies ⟨g, 87, rdC A m c k 0 po, rdN⟩ w) (hk : k ≤ m) (hmc : m ≤ c) (hcm : c ≤ 9223372036854775807) (B : List Int) (hX : SrcX w [g] A m .u8 B) (hBB : Bytes B) (hm : m ≤ 1000000) : Calls Try.prog 62 #[.pointer (some ⟨g, 0, none⟩), .int .i64 (n : Int)] w fun e w' => ∃ v He, e = .returned v ∧ Own w.heap.size 5 .u8 v ((B.drop k).take n) He ∧ St w ((⟨g, 87, rdC A m c (k + n) 0 po, rdN⟩ : Ent) :: He) w' := by
  have hg : g < w.heap.size := hl.lt
  refine calls_from (args := [.pointer (some ⟨g, 0, none⟩), .int .i64 (n : Int)]) Try.func62 rfl Try.ntmps62 (by simp) ?_
  refine TC.pr [0, 1] ?_
  refine TC.heap (H' := [⟨g, 87, [Value.slice A m c, Value.int .i64 (k : Int), Value.int .i64 0, Value.int .i64 po], 4⟩]) (fun w hs => hs.take hl ne_nil) ?_
  iterate 9 refine gx ?_
  refine TL.gets (Wants.none rfl) rfl (Gets.isFalse (Gets.lss rfl rfl rfl) (by omega)) ?_
  iterate 2 refine gx ?_
  refine TC.no rfl ?_
  iterate 4 refine gx ?_
  refine TL.al (fun g1 hg1 => ?_)
  iterate 6 refine gx ?_
  refine TL.gets (Wants.none rfl) rfl (Gets.makeFunc rfl rfl rfl) ?_
  refine TL.call (ι := Value × List Ent) (V := fun _ => .tuple #[]) (R := fun y => Own w.heap.size 5 .u8 y.1 ((B.drop k).take n) y.2) (H' := fun y => [⟨g1, 28, [y.1], 1⟩, ⟨g, 87, [Value.slice A m c, Value.int .i64 (((k + n) : Nat) : Int), Value.int .i64 0, Value.int .i64 po], 4⟩] ++ y.2) (Wants.none rfl) rfl enters66 rfl rfl (fun w hs => (read_b g1 g A m c k n po B (by omega) (by omega) w (hs.has (⟨g, 87, [Value.slice A m c, Value.int .i64 (k : Int), Value.int .i64 0, Value.int .i64 po], 4⟩) (by simp)) (hs.has (⟨g1, 28, [Value.slice none 0 0], 1⟩) (by simp)) (by omega) (by omega) (by omega) (by omega) ((hX.more hg1).at_ hs (fun b hb hbX => (ne_cons (fun h => hbX g1 (by simp) h.symm) (ne_cons (fun h => hbX g (by simp) h.symm) ne_nil)))) hBB).mono fun e w' ⟨v, He, he, ho, hw⟩ => ⟨(v, He), he, own_mono ho hs.size, (St.turns (H := [⟨g1, 28, [Value.slice none 0 0], 1⟩, ⟨g, 87, [Value.slice A m c, Value.int .i64 (k : Int), Value.int .i64 0, Value.int .i64 po], 4⟩]) (F := []) (H' := [⟨g1, 28, [v], 1⟩, ⟨g, 87, [Value.slice A m c, Value.int .i64 (((k + n) : Nat) : Int), Value.int .i64 0, Value.int .i64 po], 4⟩]) (E := He) hs hw rfl ho.new).perm (List.Perm.of_eq (by rw [List.append_nil]))⟩) (fun y hR => ?_)
  obtain ⟨v, He⟩ := y
  dsimp only at hR ⊢
  iterate 2 refine gx ?_
  refine TC.pr [4, 5] ?_
  iterate 7 refine gx ?_
  exact TE.ret1 rfl rfl (fun w hs => ⟨v, He, rfl, hR, hs.drop (by assumption)⟩)

set_option maxRecDepth 100000 in
set_option maxHeartbeats 400000 in
theorem bytes_short (g : Nat) (A : Option Addr) (m c k : Nat) (n po : Int) (hkn : (m : Int) - (k : Int) < n) (w : World) (hl : Ent.lies ⟨g, 87, rdC A m c k 0 po, rdN⟩ w) (hk : k ≤ m) (hmc : m ≤ c) (hcm : c ≤ 9223372036854775807)  : Calls Try.prog 62 #[.pointer (some ⟨g, 0, none⟩), .int .i64 n] w fun e w' => e = .returned (.slice none 0 0) ∧ St w [⟨g, 87, rdC A m c k 8 (m : Int), rdN⟩] w' := by
  have hg : g < w.heap.size := hl.lt
  refine calls_from (args := [.pointer (some ⟨g, 0, none⟩), .int .i64 n]) Try.func62 rfl Try.ntmps62 (by simp) ?_
  refine TC.pr [0, 1] ?_
  refine TC.heap (H' := [⟨g, 87, [Value.slice A m c, Value.int .i64 (k : Int), Value.int .i64 0, Value.int .i64 po], 4⟩]) (fun w hs => hs.take hl ne_nil) ?_
  iterate 9 refine gx ?_
  refine TL.gets (Wants.none rfl) rfl (Gets.isFalse (Gets.lss rfl rfl rfl) (by omega)) ?_
  iterate 2 refine gx ?_
  refine TC.no rfl ?_
  iterate 4 refine gx ?_
  refine TL.al (fun g1 hg1 => ?_)
  iterate 6 refine gx ?_
  refine TL.gets (Wants.none rfl) rfl (Gets.makeFunc rfl rfl rfl) ?_
  refine TL.call (ι := Unit) (V := fun _ => .tuple #[]) (R := fun _ => True) (H' := fun _ => [⟨g1, 28, [Value.slice none 0 0], 1⟩, ⟨g, 87, [Value.slice A m c, Value.int .i64 (k : Int), Value.int .i64 8, Value.int .i64 (m : Int)], 4⟩]) (Wants.none rfl) rfl enters66 rfl rfl (fun w hs => (read_short g A m c k po n (.func (.func 70) #[] #[.pointer (some ⟨g1, 0, none⟩)]) (by omega) w (hs.has (⟨g, 87, [Value.slice A m c, Value.int .i64 (k : Int), Value.int .i64 0, Value.int .i64 po], 4⟩) (by simp)) (by omega) (by omega) (by omega)).mono fun e w' ⟨he, hw⟩ => ⟨(), he, trivial, St.turn (i := 1) (e := ⟨g, 87, [Value.slice A m c, Value.int .i64 (k : Int), Value.int .i64 8, Value.int .i64 (m : Int)], 4⟩) hs rfl rfl hw⟩) (fun _ _ => ?_)
  iterate 2 refine gx ?_
  refine TC.pr [4, 5] ?_
  iterate 7 refine gx ?_
  exact TE.ret1 rfl rfl (fun w hs => ⟨rfl, hs.drop (by assumption)⟩)

set_option maxRecDepth 100000 in
set_option maxHeartbeats 400000 in
theorem bytes_f (g : Nat) (A : Option Addr) (m c k : Nat) (co po n : Int) (hco : co ≠ 0) (w : World) (hl : Ent.lies ⟨g, 87, rdC A m c k co po, rdN⟩ w)  : Calls Try.prog 62 #[.pointer (some ⟨g, 0, none⟩), .int .i64 n] w fun e w' => e = .returned (.slice none 0 0) ∧ St w [] w' := by
  have hg : g < w.heap.size := hl.lt
  refine calls_from (args := [.pointer (some ⟨g, 0, none⟩), .int .i64 n]) Try.func62 rfl Try.ntmps62 (by simp) ?_
  refine TC.pr [0, 1] ?_
  refine TC.heap (H' := [⟨g, 87, [Value.slice A m c, Value.int .i64 (k : Int), Value.int .i64 co, Value.int .i64 po], 4⟩]) (fun w hs => hs.take hl ne_nil) ?_
  iterate 9 refine gx ?_
  by_cases c1 : n < 0
  · refine TL.gets (Wants.none rfl) rfl (Gets.isTrue (Gets.lss rfl rfl rfl) c1) ?_
    iterate 2 refine gx ?_
    refine TC.yes rfl ?_
    iterate 4 refine gx ?_
    refine TL.call0 (Wants.none rfl) rfl enters50 rfl rfl (v := .int .i64 (k : Int)) (fun w hs => at_c g A m c k co po w (hs.has (⟨g, 87, [Value.slice A m c, Value.int .i64 (k : Int), Value.int .i64 co, Value.int .i64 po], 4⟩) (by simp))) ?_
    refine TL.call0 (Wants.none rfl) rfl enters49 rfl rfl (v := .tuple #[]) (fun w hs => fail_dead g A m c k co po 2 (k : Int) hco w (hs.has (⟨g, 87, [Value.slice A m c, Value.int .i64 (k : Int), Value.int .i64 co, Value.int .i64 po], 4⟩) (by simp))) ?_
    iterate 2 refine gx ?_
    refine TC.pr [0, 1, 4] ?_
    iterate 7 refine gx ?_
    exact TE.ret1 rfl rfl (fun w hs => ⟨rfl, (hs.same hl rfl)⟩)
  · refine TL.gets (Wants.none rfl) rfl (Gets.isFalse (Gets.lss rfl rfl rfl) c1) ?_
    iterate 2 refine gx ?_
    refine TC.no rfl ?_
    iterate 4 refine gx ?_
    refine TL.al (fun g1 hg1 => ?_)
    iterate 6 refine gx ?_
    refine TL.gets (Wants.none rfl) rfl (Gets.makeFunc rfl rfl rfl) ?_
    refine TL.call0 (Wants.none rfl) rfl enters66 rfl rfl (v := .tuple #[]) (fun w hs => read_dead g A m c k co po n (.func (.func 70) #[] #[.pointer (some ⟨g1, 0, none⟩)]) hco w (hs.has (⟨g, 87, [Value.slice A m c, Value.int .i64 (k : Int), Value.int .i64 co, Value.int .i64 po], 4⟩) (by simp))) ?_
    iterate 2 refine gx ?_
    refine TC.pr [4, 5] ?_
    iterate 7 refine gx ?_
    exact TE.ret1 rfl rfl (fun w hs => ⟨rfl, ((hs.drop (by assumption)).same hl rfl)⟩)

set_option maxRecDepth 100000 in
set_option maxHeartbeats 400000 in
theorem wequal_c (PA PB : List Int) (hBA : Bytes PA) (hBB : Bytes PB) (A A2 : Option Addr) (m c m2 c2 : Nat) (w : World) (hsA : Src w A m .u8 PA) (hsB : Src w A2 m2 .u8 PB) : Calls Try.prog 69 #[.slice A m c, .slice A2 m2 c2] w fun e w' => e = .returned (.bool (decide (PA = PB))) ∧ St w [] w' := by
  refine calls_from (args := [.slice A m c, .slice A2 m2 c2]) Try.func69 rfl Try.ntmps69 (by simp) ?_
  refine TC.pr [0, 1] ?_
  iterate 8 refine gx ?_
  refine TL.gets (Wants.none rfl) rfl (Gets.b2s rfl Try.underlying28 Try.underlying9 Try.underlying5 rfl (fun w hs => (hsA.at_ hs (fun b hb => ne_nil)))) ?_
  refine gx ?_
  refine TL.gets (Wants.none rfl) rfl (Gets.b2s rfl Try.underlying28 Try.underlying9 Try.underlying5 rfl (fun w hs => (hsB.at_ hs (fun b hb => ne_nil)))) ?_
  refine TL.gets (Wants.none rfl) rfl (Gets.bytesEq rfl rfl rfl hBA hBB) ?_
  iterate 4 refine gx ?_
  exact TE.ret1 rfl rfl (fun w hs => ⟨rfl, hs⟩)

set_option maxRecDepth 100000 in
set_option maxHeartbeats 400000 in
theorem hpre_c (P D : List Int) (hBP : Bytes P) (hBD : Bytes D) (A A2 : Option Addr) (m c m2 c2 : Nat) (w : World) (hsP : Src w A m .u8 P) (hsD : Src w A2 m2 .u8 D) (hmc : m ≤ c) (hcm : c ≤ 9223372036854775807) (hcm2 : m2 ≤ 9223372036854775807) : Calls Try.prog 59 #[.slice A m c, .slice A2 m2 c2] w fun e w' => e = .returned (.bool (decide (P.take m2 = D))) ∧ St w [] w' := by
  refine calls_from (args := [.slice A m c, .slice A2 m2 c2]) Try.func59 rfl Try.ntmps59 (by simp) ?_
  refine TC.pr [0, 1] ?_
  iterate 11 refine gx ?_
  by_cases c1 : (m2 : Int) ≤ (m : Int)
  · refine TL.gets (Wants.none rfl) rfl (Gets.isTrue (Gets.geq rfl rfl rfl) c1) ?_
    iterate 4 refine gx ?_
    refine TL.gets (Wants.yes rfl rfl rfl) rfl (Gets.sliceS rfl Try.underlying28 size5 rfl bnd.dflt (bnd.at_ (l := m2) rfl (by omega)) (by omega) (by omega) (cutA_zero _ _ _) (ln := m2) (cp := c) (by omega) (by omega)) ?_
    refine gx ?_
    refine TL.call0 (Wants.yes rfl rfl rfl) rfl enters69 rfl rfl (v := .bool (decide (P.take m2 = D))) (fun w hs => wequal_c (P.take m2) D (hBP.take m2) hBD A A2 m2 c m2 c2 w ((hsP.at_ hs (fun b hb => ne_nil)).head (by omega)) (hsD.at_ hs (fun b hb => ne_nil))) ?_
    iterate 5 refine gx ?_
    exact TE.ret1 rfl rfl (fun w hs => ⟨rfl, hs⟩)
  · refine TL.gets (Wants.none rfl) rfl (Gets.isFalse (Gets.geq rfl rfl rfl) c1) ?_
    iterate 12 refine gx ?_
    exact TE.ret1 rfl rfl (fun w hs => ⟨by rw [decide_eq_false (fun h => by have h2 := congrArg List.length h; rw [List.length_take, hsP.1, hsD.1] at h2; omega)], hs⟩)

set_option maxRecDepth 100000 in
set_option maxHeartbeats 400000 in
theorem expect_ok (g : Nat) (A : Option Addr) (m c k : Nat) (po d : Int) (w : World) (hl : Ent.lies ⟨g, 87, rdC A m c k 0 po, rdN⟩ w) (hk : k ≤ m) (hmc : m ≤ c) (hcm : c ≤ 9223372036854775807) (B : List Int) (hX : SrcX w [g] A m .u8 B) (hBB : Bytes B) (D : List Int) (Ad : Option Addr) (md cd : Nat) (hXD : SrcX w [g] Ad md .u8 D) (hBD : Bytes D) (hmd : md ≤ cd) (hcd : cd ≤ 9223372036854775807) (h1 : (B.drop k).take md = D) : Calls Try.prog 43 #[.pointer (some ⟨g, 0, none⟩), .slice Ad md cd, .int .i64 d] w fun e w' => e = .returned (.bool true) ∧ St w [⟨g, 87, rdC A m c (k + md) 0 po, rdN⟩] w' := by
  have hl1 : md ≤ m - k := by have h2 := congrArg List.length h1; rw [List.length_take, List.length_drop, hXD.1, hX.1] at h2; omega
  refine calls_from (args := [.pointer (some ⟨g, 0, none⟩), .slice Ad md cd, .int .i64 d]) Try.func43 rfl Try.ntmps43 (by simp) ?_
  refine TC.pr [0, 1, 2] ?_
  refine TC.heap (H' := [⟨g, 87, [Value.slice A m c, Value.int .i64 (k : Int), Value.int .i64 0, Value.int .i64 po], 4⟩]) (fun w hs => hs.take hl ne_nil) ?_
  iterate 9 refine gx ?_
  refine TL.call0 (Wants.none rfl) rfl enters57 rfl rfl (v := .bool true) (fun w hs => calls_yes rfl (ready_c g A m c k 0 po w (hs.has (⟨g, 87, [Value.slice A m c, Value.int .i64 (k : Int), Value.int .i64 0, Value.int .i64 po], 4⟩) (by simp)))) ?_
  iterate 3 refine gx ?_
  refine TC.no rfl ?_
  iterate 5 refine gx ?_
  refine TL.gets (Wants.none rfl) rfl (Gets.nilCheck rfl rfl) ?_
  refine gx ?_
  refine TL.call0 (Wants.none rfl) rfl enters58 rfl rfl (v := .slice (cutA A c k 1) (m - k) (c - k)) (fun w hs => left_c g A m c k 0 po w (hs.has (⟨g, 87, [Value.slice A m c, Value.int .i64 (k : Int), Value.int .i64 0, Value.int .i64 po], 4⟩) (by simp)) (by omega) (by omega) (by omega)) ?_
  iterate 3 refine gx ?_
  refine TC.pr [0, 1, 2, 6, 7] ?_
  iterate 6 refine gx ?_
  refine TL.call0 (Wants.none rfl) rfl enters59 rfl rfl (v := .bool true) (fun w hs => (hpre_c (B.drop k) D (hBB.drop k) hBD (cutA A c k 1) Ad (m - k) (c - k) md cd w (((hX.at_ hs (fun b hb hbX => (ne_cons (fun h => hbX g (by simp) h.symm) ne_nil))).drop (by omega) (by omega)).src) ((hXD.at_ hs (fun b hb hbX => (ne_cons (fun h => hbX g (by simp) h.symm) ne_nil))).src) (by omega) (by omega) (by omega)).mono fun e w' h => by rw [decide_eq_true (p := (B.drop k).take md = D) h1] at h; exact h) ?_
  iterate 3 refine gx ?_
  refine TC.pr [0, 1, 2, 6, 7, 23] ?_
  refine TC.yes rfl ?_
  iterate 3 refine gx ?_
  refine TL.gets (Wants.none rfl) rfl (Gets.nilCheck rfl rfl) ?_
  iterate 3 refine gx ?_
  refine TL.call (ι := Unit) (V := fun _ => .slice (cutA A c k 1) md (c - k)) (R := fun _ => True) (H' := fun _ => [⟨g, 87, [Value.slice A m c, Value.int .i64 (((k + md) : Nat) : Int), Value.int .i64 0, Value.int .i64 po], 4⟩]) (Wants.none rfl) rfl enters60 rfl rfl (fun w hs => (pass_c g A m c k md (by omega) 0 po w (hs.has (⟨g, 87, [Value.slice A m c, Value.int .i64 (k : Int), Value.int .i64 0, Value.int .i64 po], 4⟩) (by simp)) (by omega) (by omega) (by omega)).mono fun e w' ⟨he, hw⟩ => ⟨(), he, trivial, St.turn (i := 0) (e := ⟨g, 87, [Value.slice A m c, Value.int .i64 (((k + md) : Nat) : Int), Value.int .i64 0, Value.int .i64 po], 4⟩) hs rfl rfl hw⟩) (fun _ _ => ?_)
  iterate 2 refine gx ?_
  refine TC.pr [6] ?_
  iterate 8 refine gx ?_
  exact TE.ret1 rfl rfl (fun w hs => ⟨rfl, hs⟩)

set_option maxRecDepth 100000 in
set_option maxHeartbeats 400000 in
theorem expect_short (g : Nat) (A : Option Addr) (m c k : Nat) (po d : Int) (w : World) (hl : Ent.lies ⟨g, 87, rdC A m c k 0 po, rdN⟩ w) (hk : k ≤ m) (hmc : m ≤ c) (hcm : c ≤ 9223372036854775807) (B : List Int) (hX : SrcX w [g] A m .u8 B) (hBB : Bytes B) (D : List Int) (Ad : Option Addr) (md cd : Nat) (hXD : SrcX w [g] Ad md .u8 D) (hBD : Bytes D) (hmd : md ≤ cd) (hcd : cd ≤ 9223372036854775807) (h1 : ¬ ((B.drop k).take md = D)) (h2 : D.take (m - k) = B.drop k) : Calls Try.prog 43 #[.pointer (some ⟨g, 0, none⟩), .slice Ad md cd, .int .i64 d] w fun e w' => e = .returned (.bool false) ∧ St w [⟨g, 87, rdC A m c k 8 (m : Int), rdN⟩] w' := by
  refine calls_from (args := [.pointer (some ⟨g, 0, none⟩), .slice Ad md cd, .int .i64 d]) Try.func43 rfl Try.ntmps43 (by simp) ?_
  refine TC.pr [0, 1, 2] ?_
  refine TC.heap (H' := [⟨g, 87, [Value.slice A m c, Value.int .i64 (k : Int), Value.int .i64 0, Value.int .i64 po], 4⟩]) (fun w hs => hs.take hl ne_nil) ?_
  iterate 9 refine gx ?_
  refine TL.call0 (Wants.none rfl) rfl enters57 rfl rfl (v := .bool true) (fun w hs => calls_yes rfl (ready_c g A m c k 0 po w (hs.has (⟨g, 87, [Value.slice A m c, Value.int .i64 (k : Int), Value.int .i64 0, Value.int .i64 po], 4⟩) (by simp)))) ?_
  iterate 3 refine gx ?_
  refine TC.no rfl ?_
  iterate 5 refine gx ?_
  refine TL.gets (Wants.none rfl) rfl (Gets.nilCheck rfl rfl) ?_
  refine gx ?_
  refine TL.call0 (Wants.none rfl) rfl enters58 rfl rfl (v := .slice (cutA A c k 1) (m - k) (c - k)) (fun w hs => left_c g A m c k 0 po w (hs.has (⟨g, 87, [Value.slice A m c, Value.int .i64 (k : Int), Value.int .i64 0, Value.int .i64 po], 4⟩) (by simp)) (by omega) (by omega) (by omega)) ?_
  iterate 3 refine gx ?_
  refine TC.pr [0, 1, 2, 6, 7] ?_
  iterate 6 refine gx ?_
  refine TL.call0 (Wants.none rfl) rfl enters59 rfl rfl (v := .bool false) (fun w hs => (hpre_c (B.drop k) D (hBB.drop k) hBD (cutA A c k 1) Ad (m - k) (c - k) md cd w (((hX.at_ hs (fun b hb hbX => (ne_cons (fun h => hbX g (by simp) h.symm) ne_nil))).drop (by omega) (by omega)).src) ((hXD.at_ hs (fun b hb hbX => (ne_cons (fun h => hbX g (by simp) h.symm) ne_nil))).src) (by omega) (by omega) (by omega)).mono fun e w' h => by rw [decide_eq_false (p := (B.drop k).take md = D) h1] at h; exact h) ?_
  iterate 3 refine gx ?_
  refine TC.pr [0, 1, 2, 6, 7, 23] ?_
  refine TC.no rfl ?_
  iterate 4 refine gx ?_
  refine TL.call0 (Wants.none rfl) rfl enters59 rfl rfl (v := .bool true) (fun w hs => (hpre_c D (B.drop k) hBD (hBB.drop k) Ad (cutA A c k 1) md cd (m - k) (c - k) w ((hXD.at_ hs (fun b hb hbX => (ne_cons (fun h => hbX g (by simp) h.symm) ne_nil))).src) (((hX.at_ hs (fun b hb hbX => (ne_cons (fun h => hbX g (by simp) h.symm) ne_nil))).drop (by omega) (by omega)).src) (by omega) (by omega) (by omega)).mono fun e w' h => by rw [decide_eq_true (p := D.take (m - k) = B.drop k) h2] at h; exact h) ?_
  iterate 3 refine gx ?_
  refine TC.pr [0, 2, 6, 33] ?_
  refine TC.yes rfl ?_
  iterate 3 refine gx ?_
  refine TL.gets (Wants.none rfl) rfl (Gets.nilCheck rfl rfl) ?_
  refine gx ?_
  refine TL.call0 (Wants.none rfl) rfl enters61 rfl rfl (v := .int .i64 (m : Int)) (fun w hs => end_c g A m c k 0 po w (hs.has (⟨g, 87, [Value.slice A m c, Value.int .i64 (k : Int), Value.int .i64 0, Value.int .i64 po], 4⟩) (by simp)) (by omega) (by omega) (by omega)) ?_
  refine TL.call (ι := Unit) (V := fun _ => .tuple #[]) (R := fun _ => True) (H' := fun _ => [⟨g, 87, [Value.slice A m c, Value.int .i64 (k : Int), Value.int .i64 8, Value.int .i64 (m : Int)], 4⟩]) (Wants.none rfl) rfl enters49 rfl rfl (fun w hs => (fail_set g A m c k po 8 (m : Int) (by decide) w (hs.has (⟨g, 87, [Value.slice A m c, Value.int .i64 (k : Int), Value.int .i64 0, Value.int .i64 po], 4⟩) (by simp))).mono fun e w' ⟨he, hw⟩ => ⟨(), he, trivial, St.turn (i := 0) (e := ⟨g, 87, [Value.slice A m c, Value.int .i64 (k : Int), Value.int .i64 8, Value.int .i64 (m : Int)], 4⟩) hs rfl rfl hw⟩) (fun _ _ => ?_)
  iterate 3 refine gx ?_
  refine TC.pr [6] ?_
  iterate 6 refine gx ?_
  exact TE.ret1 rfl rfl (fun w hs => ⟨rfl, hs⟩)

set_option maxRecDepth 100000 in
set_option maxHeartbeats 400000 in
theorem expect_bad (g : Nat) (A : Option Addr) (m c k : Nat) (po d : Int) (hd : d ≠ 0) (w : World) (hl : Ent.lies ⟨g, 87, rdC A m c k 0 po, rdN⟩ w) (hk : k ≤ m) (hmc : m ≤ c) (hcm : c ≤ 9223372036854775807) (B : List Int) (hX : SrcX w [g] A m .u8 B) (hBB : Bytes B) (D : List Int) (Ad : Option Addr) (md cd : Nat) (hXD : SrcX w [g] Ad md .u8 D) (hBD : Bytes D) (hmd : md ≤ cd) (hcd : cd ≤ 9223372036854775807) (h1 : ¬ ((B.drop k).take md = D)) (h2 : ¬ (D.take (m - k) = B.drop k)) : Calls Try.prog 43 #[.pointer (some ⟨g, 0, none⟩), .slice Ad md cd, .int .i64 d] w fun e w' => e = .returned (.bool false) ∧ St w [⟨g, 87, rdC A m c k d (k : Int), rdN⟩] w' := by
  refine calls_from (args := [.pointer (some ⟨g, 0, none⟩), .slice Ad md cd, .int .i64 d]) Try.func43 rfl Try.ntmps43 (by simp) ?_
  refine TC.pr [0, 1, 2] ?_
  refine TC.heap (H' := [⟨g, 87, [Value.slice A m c, Value.int .i64 (k : Int), Value.int .i64 0, Value.int .i64 po], 4⟩]) (fun w hs => hs.take hl ne_nil) ?_
  iterate 9 refine gx ?_
  refine TL.call0 (Wants.none rfl) rfl enters57 rfl rfl (v := .bool true) (fun w hs => calls_yes rfl (ready_c g A m c k 0 po w (hs.has (⟨g, 87, [Value.slice A m c, Value.int .i64 (k : Int), Value.int .i64 0, Value.int .i64 po], 4⟩) (by simp)))) ?_
  iterate 3 refine gx ?_
  refine TC.no rfl ?_
  iterate 5 refine gx ?_
  refine TL.gets (Wants.none rfl) rfl (Gets.nilCheck rfl rfl) ?_
  refine gx ?_
  refine TL.call0 (Wants.none rfl) rfl enters58 rfl rfl (v := .slice (cutA A c k 1) (m - k) (c - k)) (fun w hs => left_c g A m c k 0 po w (hs.has (⟨g, 87, [Value.slice A m c, Value.int .i64 (k : Int), Value.int .i64 0, Value.int .i64 po], 4⟩) (by simp)) (by omega) (by omega) (by omega)) ?_
  iterate 3 refine gx ?_
  refine TC.pr [0, 1, 2, 6, 7] ?_
  iterate 6 refine gx ?_
  refine TL.call0 (Wants.none rfl) rfl enters59 rfl rfl (v := .bool false) (fun w hs => (hpre_c (B.drop k) D (hBB.drop k) hBD (cutA A c k 1) Ad (m - k) (c - k) md cd w (((hX.at_ hs (fun b hb hbX => (ne_cons (fun h => hbX g (by simp) h.symm) ne_nil))).drop (by omega) (by omega)).src) ((hXD.at_ hs (fun b hb hbX => (ne_cons (fun h => hbX g (by simp) h.symm) ne_nil))).src) (by omega) (by omega) (by omega)).mono fun e w' h => by rw [decide_eq_false (p := (B.drop k).take md = D) h1] at h; exact h) ?_
  iterate 3 refine gx ?_
  refine TC.pr [0, 1, 2, 6, 7, 23] ?_
  refine TC.no rfl ?_
  iterate 4 refine gx ?_
  refine TL.call0 (Wants.none rfl) rfl enters59 rfl rfl (v := .bool false) (fun w hs => (hpre_c D (B.drop k) hBD (hBB.drop k) Ad (cutA A c k 1) md cd (m - k) (c - k) w ((hXD.at_ hs (fun b hb hbX => (ne_cons (fun h => hbX g (by simp) h.symm) ne_nil))).src) (((hX.at_ hs (fun b hb hbX => (ne_cons (fun h => hbX g (by simp) h.symm) ne_nil))).drop (by omega) (by omega)).src) (by omega) (by omega) (by omega)).mono fun e w' h => by rw [decide_eq_false (p := D.take (m - k) = B.drop k) h2] at h; exact h) ?_
  iterate 3 refine gx ?_
  refine TC.pr [0, 2, 6, 33] ?_
  refine TC.no rfl ?_
  iterate 4 refine gx ?_
  refine TL.gets (Wants.none rfl) rfl (Gets.nilCheck rfl rfl) ?_
  iterate 3 refine gx ?_
  refine TL.call (ι := Unit) (V := fun _ => .tuple #[]) (R := fun _ => True) (H' := fun _ => [⟨g, 87, [Value.slice A m c, Value.int .i64 (k : Int), Value.int .i64 d, Value.int .i64 (k : Int)], 4⟩]) (Wants.none rfl) rfl enters49 rfl rfl (fun w hs => (fail_set g A m c k po d (k : Int) hd w (hs.has (⟨g, 87, [Value.slice A m c, Value.int .i64 (k : Int), Value.int .i64 0, Value.int .i64 po], 4⟩) (by simp))).mono fun e w' ⟨he, hw⟩ => ⟨(), he, trivial, St.turn (i := 0) (e := ⟨g, 87, [Value.slice A m c, Value.int .i64 (k : Int), Value.int .i64 d, Value.int .i64 (k : Int)], 4⟩) hs rfl rfl hw⟩) (fun _ _ => ?_)
  iterate 3 refine gx ?_
  refine TC.pr [6] ?_
  iterate 6 refine gx ?_
  exact TE.ret1 rfl rfl (fun w hs => ⟨rfl, hs⟩)

set_option maxRecDepth 100000 in
set_option maxHeartbeats 400000 in
theorem expect_f (g : Nat) (A : Option Addr) (m c k : Nat) (co po d : Int) (Ad : Option Addr) (md cd : Nat) (hco : co ≠ 0) (w : World) (hl : Ent.lies ⟨g, 87, rdC A m c k co po, rdN⟩ w)  : Calls Try.prog 43 #[.pointer (some ⟨g, 0, none⟩), .slice Ad md cd, .int .i64 d] w fun e w' => e = .returned (.bool false) ∧ St w [] w' := by
  refine calls_from (args := [.pointer (some ⟨g, 0, none⟩), .slice Ad md cd, .int .i64 d]) Try.func43 rfl Try.ntmps43 (by simp) ?_
  refine TC.pr [0, 1, 2] ?_
  refine TC.heap (H' := [⟨g, 87, [Value.slice A m c, Value.int .i64 (k : Int), Value.int .i64 co, Value.int .i64 po], 4⟩]) (fun w hs => hs.take hl ne_nil) ?_
  iterate 9 refine gx ?_
  refine TL.call0 (Wants.none rfl) rfl enters57 rfl rfl (v := .bool false) (fun w hs => calls_no hco (ready_c g A m c k co po w (hs.has (⟨g, 87, [Value.slice A m c, Value.int .i64 (k : Int), Value.int .i64 co, Value.int .i64 po], 4⟩) (by simp)))) ?_
  iterate 3 refine gx ?_
  refine TC.yes rfl ?_
  iterate 7 refine gx ?_
  exact TE.ret1 rfl rfl (fun w hs => ⟨rfl, (hs.same hl rfl)⟩)

set_option maxRecDepth 100000 in
set_option maxHeartbeats 400000 in
theorem new_raw (B : List Int) (A : Option Addr) (c : Nat) (w : World) (hsB : Src w A B.length .u8 B) (hmc : B.length ≤ c) (hm : B.length ≤ 1000000) : Calls Try.prog 26 #[.slice A B.length c] w fun e w' => ∃ (g : Nat) (A' : Option Addr) (c' : Nat) (He : List Ent), e = .returned (.pointer (some ⟨g, 0, none⟩)) ∧ Own w.heap.size 5 .u8 (.slice A' B.length c') B He ∧ w.heap.size ≤ g ∧ St w ((⟨g, 87, rdC A' B.length c' 0 0 0, rdN⟩ : Ent) :: He) w' := by
  refine calls_from (args := [.slice A B.length c]) Try.func26 rfl Try.ntmps26 (by simp) ?_
  refine TC.pr [0] ?_
  iterate 8 refine gx ?_
  refine TL.call (ι := Value × List Ent) (V := fun yl => yl.1) (R := fun yl => Own w.heap.size 5 .u8 yl.1 B yl.2) (H' := fun yl => [] ++ yl.2) (Wants.none rfl) rfl enters42 rfl rfl (fun w hs => (wclone_c B A B.length c w (hsB.at_ hs (fun b hb => ne_nil)) (by omega) (by omega)).mono fun e w' ⟨v, He, he, ho, hw⟩ => ⟨(v, He), he, own_mono ho hs.size, st_call hs hw ho.new⟩) (fun yl hOl => ?_)
  obtain ⟨vl, Hl⟩ := yl
  dsimp only at hOl ⊢
  obtain ⟨Al, cl, hvl, hcl, hdl⟩ := hOl.form
  subst hvl
  refine TL.gets (Wants.none rfl) rfl (Gets.build rfl (vs := [(0, Value.slice Al B.length cl)]) rfl (fun w => by first | rfl | kernel_rfl) (v := .agg ([Value.slice Al B.length cl, Value.int .i64 0]).toArray)) ?_
  refine TL.gets (Wants.none rfl) rfl (Gets.build rfl (vs := [(0, Value.agg ([Value.slice Al B.length cl, Value.int .i64 0]).toArray)]) rfl (fun w => by first | rfl | kernel_rfl) (v := .agg ([Value.slice Al B.length cl, Value.int .i64 0, Value.int .i64 0, Value.int .i64 0]).toArray)) ?_
  refine TL.bxA (fun g1 hg1 => ?_)
  iterate 4 refine gx ?_
  exact TE.ret1 rfl rfl (fun w hs => ⟨g1, Al, cl, Hl, rfl, hOl, by assumption, hs⟩)

theorem new_c (B : List Int) (A : Option Addr) (m c : Nat) (w : World) (hsB : Src w A m .u8 B) (hmc : m ≤ c) (hm : m ≤ 1000000) : Calls Try.prog 26 #[.slice A m c] w fun e w' => ∃ (g : Nat) (A' : Option Addr) (c' : Nat) (He : List Ent), e = .returned (.pointer (some ⟨g, 0, none⟩)) ∧ Own w.heap.size 5 .u8 (.slice A' m c') B He ∧ w.heap.size ≤ g ∧ St w ((⟨g, 87, rdC A' m c' 0 0 0, rdN⟩ : Ent) :: He) w' := by
  have h := hsB.1
  subst h
  exact new_raw B A c w hsB hmc hm
end Go.Proofs.Ytclmgfcdnokaiaa
/-
  The code's reader of layer 6, in states.
-/
namespace Go.Proofs.Ytclmgfcdnokaiaa
set_option linter.unusedVariables false
set_option linter.unusedSimpArgs false
open Go Go.RowKit

theorem wfail_s (g : Nat) (A : Option Addr) (m c : Nat) (s : RS) (d n : Int) (hd : d ≠ 0) (w : World) (hl : Ent.lies ⟨g, 87, rdC A m c s.k s.co s.po, rdN⟩ w) : Calls Try.prog 49 #[.pointer (some ⟨g, 0, none⟩), .int .i64 d, .int .i64 n] w fun e w' => e = .returned (.tuple #[]) ∧ St w [⟨g, 87, rdC A m c (rFail s d n).k (rFail s d n).co (rFail s d n).po, rdN⟩] w' := by
  obtain ⟨k, co, po⟩ := s
  unfold rFail
  dsimp only at hl ⊢
  by_cases h : co = 0
  · subst h
    rw [if_pos ⟨rfl, hd⟩]
    exact fail_set g A m c k po d n hd w hl
  · rw [if_neg (fun x => h x.1)]
    exact (fail_dead g A m c k co po d n h w hl).mono fun e w' ⟨he, hw⟩ => ⟨he, hw.take hl ne_nil⟩

theorem wuint_s (g : Nat) (A : Option Addr) (m c : Nat) (s : RS) (n : Nat) (hn : 1 ≤ n ∧ n ≤ 8) (w : World) (hl : Ent.lies ⟨g, 87, rdC A m c s.k s.co s.po, rdN⟩ w) (hk : s.k ≤ m) (hmc : m ≤ c) (hcm : c ≤ 9223372036854775807) (B : List Int) (hX : SrcX w [g] A m .u8 B) (hBB : Bytes B) : Calls Try.prog 47 #[.pointer (some ⟨g, 0, none⟩), .int .i64 (n : Int)] w fun e w' => e = .returned (.int .u64 (rUint B s n).1) ∧ St w [⟨g, 87, rdC A m c (rUint B s n).2.k (rUint B s n).2.co (rUint B s n).2.po, rdN⟩] w' := by
  obtain ⟨k, co, po⟩ := s
  have hBm := hX.1
  unfold rUint
  dsimp only at hl hk ⊢
  by_cases h : co = 0
  · subst h
    rw [if_pos rfl]
    by_cases h1 : B.length < k + n
    · rw [if_pos h1]
      dsimp only
      rw [hBm]
      exact uint_short g A m c k (n : Int) po (by omega) (by omega) w hl hk hmc hcm
    · rw [if_neg h1]; exact uint_ok g A m c k n po hn (by omega) w hl hk hmc hcm B hX hBB
  · rw [if_neg h]
    exact (uint_f g A m c k co po n h w hl).mono fun e w' ⟨he, hw⟩ => ⟨he, hw.take hl ne_nil⟩

theorem wlen_s (g : Nat) (A : Option Addr) (m c : Nat) (s : RS) (w : World) (hl : Ent.lies ⟨g, 87, rdC A m c s.k s.co s.po, rdN⟩ w) (hk : s.k ≤ m) (hmc : m ≤ c) (hcm : c ≤ 9223372036854775807) (B : List Int) (hX : SrcX w [g] A m .u8 B) (hBB : Bytes B) : Calls Try.prog 44 #[.pointer (some ⟨g, 0, none⟩)] w fun e w' => e = .returned (.int .i64 (rLen B s).1) ∧ St w [⟨g, 87, rdC A m c (rLen B s).2.k (rLen B s).2.co (rLen B s).2.po, rdN⟩] w' := by
  obtain ⟨k, co, po⟩ := s
  have hBm := hX.1
  unfold rLen rUint
  dsimp only at hl hk ⊢
  by_cases h : co = 0
  · subst h
    rw [if_pos rfl]
    by_cases h1 : B.length < k + 8
    · rw [if_pos h1, if_neg (show ¬ (4611686018427387903 : Int) < 0 by decide)]
      dsimp only
      rw [hBm]
      exact length_short g A m c k po (by omega) w hl hk hmc hcm
    · rw [if_neg h1]
      by_cases h2 : 4611686018427387903 < valB ((B.drop k).take 8)
      · rw [if_pos h2]
        unfold rFail
        rw [if_pos ⟨rfl, by decide⟩]
        exact length_big g A m c k po (by omega) w hl hk hmc hcm B hX hBB h2
      · rw [if_neg h2]
        exact length_ok g A m c k po (by omega) w hl hk hmc hcm B hX hBB (by omega)
  · rw [if_neg h, if_neg (show ¬ (4611686018427387903 : Int) < 0 by decide)]
    exact (length_f g A m c k co po h w hl).mono fun e w' ⟨he, hw⟩ => ⟨he, hw.take hl ne_nil⟩

theorem wbytes_s (g : Nat) (A : Option Addr) (m c : Nat) (s : RS) (n : Int) (hn : 0 ≤ n) (w : World) (hl : Ent.lies ⟨g, 87, rdC A m c s.k s.co s.po, rdN⟩ w) (hk : s.k ≤ m) (hmc : m ≤ c) (hcm : c ≤ 9223372036854775807) (B : List Int) (hX : SrcX w [g] A m .u8 B) (hBB : Bytes B) (hm : m ≤ 1000000) : Calls Try.prog 62 #[.pointer (some ⟨g, 0, none⟩), .int .i64 n] w fun e w' => ∃ v He, e = .returned v ∧ Own w.heap.size 5 .u8 v (rBytes B s n.toNat).1 He ∧ St w ((⟨g, 87, rdC A m c (rBytes B s n.toNat).2.k (rBytes B s n.toNat).2.co (rBytes B s n.toNat).2.po, rdN⟩ : Ent) :: He) w' := by
  obtain ⟨k, co, po⟩ := s
  have hBm := hX.1
  obtain ⟨j, rfl⟩ : ∃ j : Nat, n = (j : Int) := ⟨n.toNat, by omega⟩
  unfold rBytes
  rw [Int.toNat_natCast]
  dsimp only at hl hk ⊢
  by_cases h : co = 0
  · subst h
    rw [if_pos rfl]
    by_cases h1 : B.length < k + j
    · rw [if_pos h1]
      dsimp only
      rw [hBm]
      exact (bytes_short g A m c k (j : Int) po (by omega) w hl hk hmc hcm).mono fun e w' ⟨he, hw⟩ => ⟨_, [], he, Own.nil _ _ _, hw⟩
    · rw [if_neg h1]; exact bytes_ok g A m c k j po (by omega) w hl hk hmc hcm B hX hBB hm
  · rw [if_neg h]
    exact (bytes_f g A m c k co po j h w hl).mono fun e w' ⟨he, hw⟩ => ⟨_, [], he, Own.nil _ _ _, hw.take hl ne_nil⟩

theorem wexp_s (g : Nat) (A : Option Addr) (m c : Nat) (s : RS) (d : Int) (hd : d ≠ 0) (w : World) (hl : Ent.lies ⟨g, 87, rdC A m c s.k s.co s.po, rdN⟩ w) (hk : s.k ≤ m) (hmc : m ≤ c) (hcm : c ≤ 9223372036854775807) (B : List Int) (hX : SrcX w [g] A m .u8 B) (hBB : Bytes B) (D : List Int) (Ad : Option Addr) (md cd : Nat) (hXD : SrcX w [g] Ad md .u8 D) (hBD : Bytes D) (hmd : md ≤ cd) (hcd : cd ≤ 9223372036854775807) : Calls Try.prog 43 #[.pointer (some ⟨g, 0, none⟩), .slice Ad md cd, .int .i64 d] w fun e w' => e = .returned (.bool (rExp B s D d).1) ∧ St w [⟨g, 87, rdC A m c (rExp B s D d).2.k (rExp B s D d).2.co (rExp B s D d).2.po, rdN⟩] w' := by
  obtain ⟨k, co, po⟩ := s
  have hBm := hX.1
  have hDm := hXD.1
  unfold rExp
  dsimp only at hl hk ⊢
  by_cases h : co = 0
  · subst h
    rw [if_pos rfl]
    by_cases h1 : (B.drop k).take D.length = D
    · rw [if_pos h1]
      dsimp only
      rw [hDm] at h1 ⊢
      exact expect_ok g A m c k po d w hl hk hmc hcm B hX hBB D Ad md cd hXD hBD hmd hcd h1
    · rw [if_neg h1]
      rw [hDm] at h1
      by_cases h2 : D.take (B.length - k) = B.drop k
      · rw [if_pos h2]
        dsimp only
        rw [hBm] at h2 ⊢
        exact expect_short g A m c k po d w hl hk hmc hcm B hX hBB D Ad md cd hXD hBD hmd hcd h1 h2
      · rw [if_neg h2]
        rw [hBm] at h2
        unfold rFail
        rw [if_pos ⟨rfl, hd⟩]
        exact expect_bad g A m c k po d hd w hl hk hmc hcm B hX hBB D Ad md cd hXD hBD hmd hcd h1 h2
  · rw [if_neg h]
    exact (expect_f g A m c k co po d Ad md cd h w hl).mono fun e w' ⟨he, hw⟩ => ⟨he, hw.take hl ne_nil⟩
end Go.Proofs.Ytclmgfcdnokaiaa
/-
  The code of layer 7: what a delta must meet to be encoded.
-/
namespace Go.Proofs.Ytclmgfcdnokaiaa
set_option linter.unusedVariables false
set_option linter.unusedSimpArgs false
open Go Go.RowKit
theorem enters36 : Enters Try.prog 36 := ⟨_, Try.func36, by kernel_rfl, by kernel_rfl⟩
theorem enters37 : Enters Try.prog 37 := ⟨_, Try.func37, by kernel_rfl, by kernel_rfl⟩
theorem enters38 : Enters Try.prog 38 := ⟨_, Try.func38, by kernel_rfl, by kernel_rfl⟩
theorem enters39 : Enters Try.prog 39 := ⟨_, Try.func39, by kernel_rfl, by kernel_rfl⟩
theorem enters52 : Enters Try.prog 52 := ⟨_, Try.func52, by kernel_rfl, by kernel_rfl⟩
theorem enters53 : Enters Try.prog 53 := ⟨_, Try.func53, by kernel_rfl, by kernel_rfl⟩
theorem enters54 : Enters Try.prog 54 := ⟨_, Try.func54, by kernel_rfl, by kernel_rfl⟩
theorem enters68 : Enters Try.prog 68 := ⟨_, Try.func68, by kernel_rfl, by kernel_rfl⟩
theorem zero3 : (Try.prog.info? 3).bind (·.zero) = some (.int .i64 0) := by kernel_rfl
instance : Sli Try.prog 95 3 := ⟨Try.underlying95⟩
instance (x : CV) : Decidable (okK x) := by unfold okK; infer_instance
instance (x : CV) : Decidable (okV x) := by unfold okV; infer_instance
def allK (Cs : List CV) : Prop := ∀ (i : Nat) (x : CV), Cs[i]? = some x → okK x
def allV (Cs : List CV) : Prop := ∀ (i : Nat) (x : CV), Cs[i]? = some x → okV x
noncomputable instance (Cs : List CV) : Decidable (allK Cs) := Classical.propDecidable _
noncomputable instance (Cs : List CV) : Decidable (allV Cs) := Classical.propDecidable _
theorem wrongI_notK {o n : Int} {Cs : List CV} (h : ¬ allK Cs) : wrongI o n Cs = 11 := by unfold wrongI; exact if_neg h
theorem wrongI_notV {o n : Int} {Cs : List CV} (hk : allK Cs) (hl : inR o ∧ inR n) (h : ¬ allV Cs) : wrongI o n Cs = 2 := by unfold wrongI; exact (if_pos hk).trans ((if_pos hl).trans (if_neg h))
def allR (B : List Int) : Prop := ∀ x ∈ B, inR x
instance (B : List Int) : Decidable (allR B) := by unfold allR; infer_instance
theorem allR2 {a b : Int} : allR [a, b] ↔ inR a ∧ inR b := by unfold allR; simp
theorem allR3 {a b c : Int} : allR [a, b, c] ↔ (inR a ∧ inR b ∧ inR c) := by unfold allR; simp
theorem allR_iff {B : List Int} {m : Nat} (hl : B.length = m) : allR B ↔ ∀ i, i < m → inR (B.getD i 0) := by
  subst hl
  unfold allR
  constructor
  · intro h i hi
    rw [List.getD_eq_getElem?_getD, List.getElem?_eq_getElem hi]
    exact h _ (List.getElem_mem hi)
  · intro h x hx
    obtain ⟨i, hi, rfl⟩ := List.getElem_of_mem hx
    have := h i hi
    rw [List.getD_eq_getElem?_getD, List.getElem?_eq_getElem hi] at this; exact this

set_option maxRecDepth 100000 in
set_option maxHeartbeats 400000 in
theorem unk_c (x : CV) (w : World) : Calls Try.prog 37 #[.agg ([Value.int .i64 x.k, Value.int .i64 x.t, Value.int .i64 x.f, Value.int .i64 x.l, Value.slice x.A x.m x.c]).toArray] w fun e w' => e = .returned (.bool (decide (¬ okK x))) ∧ St w [] w' := by
  refine calls_from (args := [.agg ([Value.int .i64 x.k, Value.int .i64 x.t, Value.int .i64 x.f, Value.int .i64 x.l, Value.slice x.A x.m x.c]).toArray]) Try.func37 rfl Try.ntmps37 (by simp) ?_
  refine TC.pr [0] ?_
  iterate 2 refine gx ?_
  refine TL.bxA (fun g1 hg1 => ?_)
  iterate 7 refine gx ?_
  by_cases c1 : x.k ≠ 1
  · refine TL.gets (Wants.none rfl) rfl (Gets.isTrue (Gets.neq rfl rfl rfl) c1) ?_
    iterate 3 refine gx ?_
    by_cases c2 : x.k ≠ 2
    · refine TL.gets (Wants.yes rfl rfl rfl) rfl (Gets.isTrue (Gets.neq rfl rfl rfl) c2) ?_
      iterate 5 refine gx ?_
      exact TE.ret1 rfl rfl (fun w hs => ⟨dec_t (by unfold okK; omega), (hs.drop (by assumption))⟩)
    · refine TL.gets (Wants.yes rfl rfl rfl) rfl (Gets.isFalse (Gets.neq rfl rfl rfl) c2) ?_
      iterate 5 refine gx ?_
      exact TE.ret1 rfl rfl (fun w hs => ⟨dec_f (by unfold okK; omega), (hs.drop (by assumption))⟩)
  · refine TL.gets (Wants.none rfl) rfl (Gets.isFalse (Gets.neq rfl rfl rfl) c1) ?_
    iterate 9 refine gx ?_
    exact TE.ret1 rfl rfl (fun w hs => ⟨dec_f (by unfold okK; omega), (hs.drop (by assumption))⟩)

set_option maxRecDepth 100000 in
set_option maxHeartbeats 400000 in
theorem inr1_c (n : Int) (w : World) : Calls Try.prog 54 #[.int .i64 n] w fun e w' => e = .returned (.bool (decide (¬ inR n))) ∧ St w [] w' := by
  refine calls_from (args := [.int .i64 n]) Try.func54 rfl Try.ntmps54 (by simp) ?_
  refine TC.pr [0] ?_
  iterate 8 refine gx ?_
  by_cases c1 : n < 0
  · refine TL.gets (Wants.none rfl) rfl (Gets.isTrue (Gets.lss rfl rfl rfl) c1) ?_
    iterate 8 refine gx ?_
    exact TE.ret1 rfl rfl (fun w hs => ⟨dec_t (by unfold inR; omega), hs⟩)
  · refine TL.gets (Wants.none rfl) rfl (Gets.isFalse (Gets.lss rfl rfl rfl) c1) ?_
    iterate 2 refine gx ?_
    by_cases c2 : 4611686018427387903 < n
    · refine TL.gets (Wants.yes rfl rfl rfl) rfl (Gets.isTrue (Gets.gtr rfl rfl rfl) c2) ?_
      iterate 5 refine gx ?_
      exact TE.ret1 rfl rfl (fun w hs => ⟨dec_t (by unfold inR; omega), hs⟩)
    · refine TL.gets (Wants.yes rfl rfl rfl) rfl (Gets.isFalse (Gets.gtr rfl rfl rfl) c2) ?_
      iterate 5 refine gx ?_
      exact TE.ret1 rfl rfl (fun w hs => ⟨dec_f (by unfold inR; omega), hs⟩)

set_option maxRecDepth 100000 in
set_option maxHeartbeats 400000 in
theorem idxi_c (B : List Int) (A : Option Addr) (m c : Nat) (w : World) (hs0 : Src w A m .i64 B) (hm : m ≤ 1000) : Calls Try.prog 68 #[.slice A m c, .func (.func 54) #[] #[]] w fun e w' => ∃ r : Int, e = .returned (.int .i64 r) ∧ ((0 : Int) ≤ r ↔ ¬ allR B) ∧ St w [] w' := by
  refine calls_from (args := [.slice A m c, .func (.func 54) #[] #[]]) Try.func68 rfl Try.ntmps68 (by simp) ?_
  refine TC.pr [0, 1] ?_
  iterate 14 refine gx ?_
  refine TC.loop (ι := Nat) (fun i => [(0, .slice A m c), (1, .func (.func 54) #[] #[]), (7, .int .i64 (m : Int)), (8, .int .i64 (i : Int))]) (fun i => []) (fun i => m - i) (fun i => i ≤ m ∧ ∀ j, j < i → inR (B.getD j 0)) 0 ⟨Nat.zero_le _, fun j h => absurd h (Nat.not_lt_zero j)⟩ (Sub.slice (i := 0) rfl rfl (by first | omega | (dsimp only; omega) | rfl) (by first | omega | (dsimp only; omega) | rfl) (Sub.cons (i := 1) rfl (Sub.int (i := 7) rfl (by first | omega | rfl) (Sub.int (i := 8) rfl (by first | omega | rfl) (Sub.nil))))) (fun w h => h) (fun i hC0 => ?_)
  obtain ⟨hi0, hC1⟩ := hC0
  iterate 6 refine gx ?_
  refine TC.split rfl (fun hq0 => ?_) (fun hq0 => ?_)
  · obtain ⟨b, off, hAe, hb, hr⟩ := hs0.2.resolve_left (by omega)
    subst hAe
    iterate 15 refine gx ?_
    refine TL.gets (Wants.none rfl) rfl (Gets.idxSlice rfl Try.underlying95 size3 rfl rfl (i := i) (by omega) (by omega) (off' := (off + i)) (by omega)) ?_
    refine TL.gets (Wants.none rfl) rfl (Gets.load1 rfl agg3 rfl (At.rowI hr (i := i) (by omega) (by omega) hb ne_nil)) ?_
    refine TL.call0F (Wants.none rfl) rfl enters54 rfl rfl rfl (u := .bool (decide (¬ inR (B.getD i 0)))) (fun w hs => inr1_c (B.getD i 0) w) ?_
    iterate 2 refine gx ?_
    refine TC.pr [0, 1, 5, 7, 8, 16] ?_
    refine TC.split rfl (fun hq1 => ?_) (fun hq1 => ?_)
    · iterate 12 refine gx ?_
      exact TE.ret1 rfl rfl (fun w hs => ⟨_, rfl, ⟨fun _ h => hq1 ((allR_iff hs0.1).1 h i (by omega)), fun _ => by omega⟩, hs⟩)
    · iterate 4 refine gx ?_
      refine TL.gets (Wants.none rfl) rfl (Gets.add rfl rfl rfl (r := ((i : Int) + 1)) (w64 (by omega) (by omega))) ?_
      iterate 2 refine gx ?_
      exact TE.back (i + 1) (by omega) ⟨by omega, fun j hj => by rcases Nat.lt_succ_iff_lt_or_eq.1 hj with hj | rfl; exact hC1 j hj; exact Decidable.not_not.1 hq1⟩ (Sub.slice (i := 0) rfl (by first | rfl | (congr 2; omega)) (by first | omega | (dsimp only; omega) | rfl) (by first | omega | (dsimp only; omega) | rfl) (Sub.cons (i := 1) rfl (Sub.int (i := 7) rfl (by first | omega | rfl) (Sub.int (i := 8) rfl (by first | omega | rfl) (Sub.nil))))) (fun w h => h)
  · iterate 11 refine gx ?_
    exact TE.ret1 rfl rfl (fun w hs => ⟨_, rfl, ⟨fun h => absurd h (by decide), fun h => absurd ((allR_iff hs0.1).2 (fun j hj => hC1 j (by omega))) h⟩, hs⟩)

set_option maxRecDepth 100000 in
set_option maxHeartbeats 400000 in
theorem coni_c (B : List Int) (A : Option Addr) (m c : Nat) (w : World) (hs0 : Src w A m .i64 B) (hm : m ≤ 1000) : Calls Try.prog 53 #[.slice A m c, .func (.func 54) #[] #[]] w fun e w' => e = .returned (.bool (decide (¬ allR B))) ∧ St w [] w' := by
  refine calls_from (args := [.slice A m c, .func (.func 54) #[] #[]]) Try.func53 rfl Try.ntmps53 (by simp) ?_
  refine TC.pr [0, 1] ?_
  iterate 9 refine gx ?_
  refine TL.call (ι := Int) (V := fun yr => .int .i64 yr) (R := fun yr => (0 : Int) ≤ yr ↔ ¬ allR B) (H' := fun _ => []) (Wants.none rfl) rfl enters68 rfl rfl (fun w hs => (idxi_c B A m c w (hs0.at_ hs (fun b hb => ne_nil)) (by omega)).mono fun e w' ⟨y, he, hR, hw⟩ => ⟨y, he, hR, hs.call' hw⟩) (fun yr hyr => ?_)
  iterate 5 refine gx ?_
  exact TE.ret1 rfl rfl (fun w hs => ⟨dec_iff (hyr), hs⟩)

set_option maxRecDepth 100000 in
set_option maxHeartbeats 400000 in
theorem inrange_c (B : List Int) (A : Option Addr) (m c : Nat) (w : World) (hs0 : Src w A m .i64 B) (hm : m ≤ 1000) : Calls Try.prog 38 #[.slice A m c] w fun e w' => e = .returned (.bool (decide (allR B))) ∧ St w [] w' := by
  refine calls_from (args := [.slice A m c]) Try.func38 rfl Try.ntmps38 (by simp) ?_
  refine TC.pr [0] ?_
  iterate 8 refine gx ?_
  refine TL.call0 (Wants.none rfl) rfl enters53 rfl rfl (v := .bool (decide (¬ allR B))) (fun w hs => coni_c B A m c w (hs0.at_ hs (fun b hb => ne_nil)) (by omega)) ?_
  iterate 5 refine gx ?_
  exact TE.ret1 rfl rfl (fun w hs => ⟨dec_iff (Decidable.not_not), hs⟩)

set_option maxRecDepth 100000 in
set_option maxHeartbeats 2000000 in
theorem unfit_c (x : CV) (hk : okK x) (w : World) : Calls Try.prog 39 #[.agg ([Value.int .i64 x.k, Value.int .i64 x.t, Value.int .i64 x.f, Value.int .i64 x.l, Value.slice x.A x.m x.c]).toArray] w fun e w' => e = .returned (.bool (decide (¬ okV x))) ∧ St w [] w' := by
  have hk2 := hk
  unfold okK at hk2
  refine calls_from (args := [.agg ([Value.int .i64 x.k, Value.int .i64 x.t, Value.int .i64 x.f, Value.int .i64 x.l, Value.slice x.A x.m x.c]).toArray]) Try.func39 rfl Try.ntmps39 (by simp) ?_
  refine TC.pr [0] ?_
  iterate 2 refine gx ?_
  refine TL.bxA (fun g1 hg1 => ?_)
  iterate 12 refine gx ?_
  refine TL.buildSlice (Wants.none rfl) rfl rfl Try.underlying95 size3 zero3 rfl (by decide) (by decide) (cells := #[.int .i64 x.t, .int .i64 x.f, .int .i64 x.l]) (tot := 3) (by kernel_rfl) (cs := [.int .i64 x.t, .int .i64 x.f, .int .i64 x.l]) rfl rfl (fun g2 hg2 => ?_)
  by_cases c1 : inR x.t ∧ inR x.f ∧ inR x.l
  · refine TL.call0 (Wants.none rfl) rfl enters38 rfl rfl (v := .bool true) (fun w hs => ((inrange_c [x.t, x.f, x.l] (some ⟨g2, 0, none⟩) 3 3 w (src_ent (W := [x.t, x.f, x.l]) (hs.has (⟨g2, 3, [Value.int .i64 x.t, Value.int .i64 x.f, Value.int .i64 x.l], 3⟩) (by simp)) rfl) (by omega)).mono fun e w' h => by rw [decide_eq_decide.2 allR3] at h; exact h).mono fun e w' h => by rw [decide_eq_true (p := inR x.t ∧ inR x.f ∧ inR x.l) c1] at h; exact h) ?_
    iterate 3 refine gx ?_
    refine TC.pr [1, 2, 11] ?_
    refine TC.no rfl ?_
    iterate 10 refine gx ?_
    refine TC.split rfl (fun h1 => ?_) (fun h1 => ?_)
    · iterate 11 refine gx ?_
      exact TE.ret1 rfl rfl (fun w hs => ⟨dec_iff (by unfold okV; simp only [inR] at *; omega), ((hs.drop (by assumption)).drop (by assumption))⟩)
    · iterate 6 refine gx ?_
      by_cases c2 : x.f ≠ 0
      · refine TL.gets (Wants.none rfl) rfl (Gets.isTrue (Gets.neq rfl rfl rfl) c2) ?_
        iterate 9 refine gx ?_
        exact TE.ret1 rfl rfl (fun w hs => ⟨dec_t (by unfold okV; simp only [inR] at *; omega), ((hs.drop (by assumption)).drop (by assumption))⟩)
      · refine TL.gets (Wants.none rfl) rfl (Gets.isFalse (Gets.neq rfl rfl rfl) c2) ?_
        iterate 9 refine gx ?_
        exact TE.ret1 rfl rfl (fun w hs => ⟨dec_iff (by unfold okV; simp only [inR] at *; omega), ((hs.drop (by assumption)).drop (by assumption))⟩)
  · refine TL.call0 (Wants.none rfl) rfl enters38 rfl rfl (v := .bool false) (fun w hs => ((inrange_c [x.t, x.f, x.l] (some ⟨g2, 0, none⟩) 3 3 w (src_ent (W := [x.t, x.f, x.l]) (hs.has (⟨g2, 3, [Value.int .i64 x.t, Value.int .i64 x.f, Value.int .i64 x.l], 3⟩) (by simp)) rfl) (by omega)).mono fun e w' h => by rw [decide_eq_decide.2 allR3] at h; exact h).mono fun e w' h => by rw [decide_eq_false (p := inR x.t ∧ inR x.f ∧ inR x.l) c1] at h; exact h) ?_
    iterate 3 refine gx ?_
    refine TC.pr [1, 2, 11] ?_
    refine TC.yes rfl ?_
    iterate 7 refine gx ?_
    exact TE.ret1 rfl rfl (fun w hs => ⟨dec_t (by unfold okV; simp only [inR] at *; omega), ((hs.drop (by assumption)).drop (by assumption))⟩)

set_option maxRecDepth 100000 in
set_option maxHeartbeats 400000 in
theorem idxunk_c (A : Option Addr) (m c : Nat) (Cs : List CV) (hmm : m ≤ 1000000000) (hN : NumsC Cs) (w : World) (hC : SrcC w A m Cs) : Calls Try.prog 52 #[.slice A m c, .func (.func 37) #[] #[]] w fun e w' => ∃ r : Int, e = .returned (.int .i64 r) ∧ ((0 : Int) ≤ r ↔ ¬ allK Cs) ∧ St w [] w' := by
  refine calls_from (args := [.slice A m c, .func (.func 37) #[] #[]]) Try.func52 rfl Try.ntmps52 (by simp) ?_
  refine TC.pr [0, 1] ?_
  iterate 14 refine gx ?_
  refine TC.loop (ι := Nat) (fun i => [(0, .slice A m c), (1, .func (.func 37) #[] #[]), (7, .int .i64 (m : Int)), (8, .int .i64 (i : Int))]) (fun i => []) (fun i => m - i) (fun i => i ≤ m ∧ ∀ (j : Nat) (y : CV), j < i → Cs[j]? = some y → okK y) 0 ⟨Nat.zero_le _, fun j y h => absurd h (Nat.not_lt_zero j)⟩ (Sub.slice (i := 0) rfl rfl (by first | omega | (dsimp only; omega) | rfl) (by first | omega | (dsimp only; omega) | rfl) (Sub.cons (i := 1) rfl (Sub.int (i := 7) rfl (by first | omega | rfl) (Sub.int (i := 8) rfl (by first | omega | rfl) (Sub.nil))))) (fun w h => h) (fun i hC0 => ?_)
  obtain ⟨hi0, hC1⟩ := hC0
  iterate 6 refine gx ?_
  refine TC.split rfl (fun hq0 => ?_) (fun hq0 => ?_)
  · obtain ⟨b, off, hAe, hb, hrw⟩ := hC.some_ (i := i) (by omega)
    subst hAe
    obtain ⟨x, hx⟩ := hC.get (i := i) (by omega)
    have hnx := hN i x hx
    unfold NumC at hnx
    have hlbx := lenV_bd (k := x.k) (l := x.l) (m := x.m) (by omega) (by omega)
    iterate 15 refine gx ?_
    refine TL.gets (Wants.none rfl) rfl (Gets.idxSlice rfl Try.underlying23 size47 rfl rfl (i := i) (by omega) (by omega) (off' := (off + 5 * i)) (by omega)) ?_
    refine TL.gets (Wants.none rfl) rfl (Gets.loadN rfl agg47 size47 rfl rfl (Row.old (fun jj u h => hrw i x hx jj u h) hb ne_nil)) ?_
    refine TL.call0F (Wants.none rfl) rfl enters37 rfl rfl rfl (u := .bool (decide (¬ okK x))) (fun w hs => unk_c x w) ?_
    iterate 2 refine gx ?_
    refine TC.pr [0, 1, 5, 7, 8, 16] ?_
    refine TC.split rfl (fun hq1 => ?_) (fun hq1 => ?_)
    · iterate 12 refine gx ?_
      exact TE.ret1 rfl rfl (fun w hs => ⟨_, rfl, ⟨fun _ h => hq1 (h i x hx), fun _ => by omega⟩, hs⟩)
    · iterate 4 refine gx ?_
      refine TL.gets (Wants.none rfl) rfl (Gets.add rfl rfl rfl (r := ((i : Int) + 1)) (w64 (by omega) (by omega))) ?_
      iterate 2 refine gx ?_
      exact TE.back (i + 1) (by omega) ⟨by omega, all_succ hC1 hx (Decidable.not_not.1 hq1)⟩ (Sub.slice (i := 0) rfl (by first | rfl | (congr 2; omega)) (by first | omega | (dsimp only; omega) | rfl) (by first | omega | (dsimp only; omega) | rfl) (Sub.cons (i := 1) rfl (Sub.int (i := 7) rfl (by first | omega | rfl) (Sub.int (i := 8) rfl (by first | omega | rfl) (Sub.nil))))) (fun w h => h)
  · iterate 11 refine gx ?_
    exact TE.ret1 rfl rfl (fun w hs => ⟨_, rfl, ⟨fun h => absurd h (by decide), fun h => absurd (all_of (m := m) (by have := hC.1; omega) (fun j y hj => hC1 j y (by omega))) h⟩, hs⟩)

set_option maxRecDepth 100000 in
set_option maxHeartbeats 400000 in
theorem conunk_c (A : Option Addr) (m c : Nat) (Cs : List CV) (hmm : m ≤ 1000000000) (hN : NumsC Cs) (w : World) (hC : SrcC w A m Cs) : Calls Try.prog 36 #[.slice A m c, .func (.func 37) #[] #[]] w fun e w' => e = .returned (.bool (decide (¬ allK Cs))) ∧ St w [] w' := by
  refine calls_from (args := [.slice A m c, .func (.func 37) #[] #[]]) Try.func36 rfl Try.ntmps36 (by simp) ?_
  refine TC.pr [0, 1] ?_
  iterate 9 refine gx ?_
  refine TL.call (ι := Int) (V := fun yr => .int .i64 yr) (R := fun yr => (0 : Int) ≤ yr ↔ ¬ allK Cs) (H' := fun _ => []) (Wants.none rfl) rfl enters52 rfl rfl (fun w hs => (idxunk_c A m c Cs (by omega) hN w (hC.at_ hs (fun b hb => ne_nil))).mono fun e w' ⟨y, he, hR, hw⟩ => ⟨y, he, hR, hs.call' hw⟩) (fun yr hyr => ?_)
  iterate 5 refine gx ?_
  exact TE.ret1 rfl rfl (fun w hs => ⟨dec_iff (hyr), hs⟩)

set_option maxRecDepth 100000 in
set_option maxHeartbeats 400000 in
theorem idxunf_c (A : Option Addr) (m c : Nat) (Cs : List CV) (hk : allK Cs) (hmm : m ≤ 1000000000) (hN : NumsC Cs) (w : World) (hC : SrcC w A m Cs) : Calls Try.prog 52 #[.slice A m c, .func (.func 39) #[] #[]] w fun e w' => ∃ r : Int, e = .returned (.int .i64 r) ∧ ((0 : Int) ≤ r ↔ ¬ allV Cs) ∧ St w [] w' := by
  refine calls_from (args := [.slice A m c, .func (.func 39) #[] #[]]) Try.func52 rfl Try.ntmps52 (by simp) ?_
  refine TC.pr [0, 1] ?_
  iterate 14 refine gx ?_
  refine TC.loop (ι := Nat) (fun i => [(0, .slice A m c), (1, .func (.func 39) #[] #[]), (7, .int .i64 (m : Int)), (8, .int .i64 (i : Int))]) (fun i => []) (fun i => m - i) (fun i => i ≤ m ∧ ∀ (j : Nat) (y : CV), j < i → Cs[j]? = some y → okV y) 0 ⟨Nat.zero_le _, fun j y h => absurd h (Nat.not_lt_zero j)⟩ (Sub.slice (i := 0) rfl rfl (by first | omega | (dsimp only; omega) | rfl) (by first | omega | (dsimp only; omega) | rfl) (Sub.cons (i := 1) rfl (Sub.int (i := 7) rfl (by first | omega | rfl) (Sub.int (i := 8) rfl (by first | omega | rfl) (Sub.nil))))) (fun w h => h) (fun i hC0 => ?_)
  obtain ⟨hi0, hC1⟩ := hC0
  iterate 6 refine gx ?_
  refine TC.split rfl (fun hq0 => ?_) (fun hq0 => ?_)
  · obtain ⟨b, off, hAe, hb, hrw⟩ := hC.some_ (i := i) (by omega)
    subst hAe
    obtain ⟨x, hx⟩ := hC.get (i := i) (by omega)
    have hnx := hN i x hx
    unfold NumC at hnx
    have hlbx := lenV_bd (k := x.k) (l := x.l) (m := x.m) (by omega) (by omega)
    iterate 15 refine gx ?_
    refine TL.gets (Wants.none rfl) rfl (Gets.idxSlice rfl Try.underlying23 size47 rfl rfl (i := i) (by omega) (by omega) (off' := (off + 5 * i)) (by omega)) ?_
    refine TL.gets (Wants.none rfl) rfl (Gets.loadN rfl agg47 size47 rfl rfl (Row.old (fun jj u h => hrw i x hx jj u h) hb ne_nil)) ?_
    refine TL.call0F (Wants.none rfl) rfl enters39 rfl rfl rfl (u := .bool (decide (¬ okV x))) (fun w hs => unfit_c x (hk i x hx) w) ?_
    iterate 2 refine gx ?_
    refine TC.pr [0, 1, 5, 7, 8, 16] ?_
    refine TC.split rfl (fun hq1 => ?_) (fun hq1 => ?_)
    · iterate 12 refine gx ?_
      exact TE.ret1 rfl rfl (fun w hs => ⟨_, rfl, ⟨fun _ h => hq1 (h i x hx), fun _ => by omega⟩, hs⟩)
    · iterate 4 refine gx ?_
      refine TL.gets (Wants.none rfl) rfl (Gets.add rfl rfl rfl (r := ((i : Int) + 1)) (w64 (by omega) (by omega))) ?_
      iterate 2 refine gx ?_
      exact TE.back (i + 1) (by omega) ⟨by omega, all_succ hC1 hx (Decidable.not_not.1 hq1)⟩ (Sub.slice (i := 0) rfl (by first | rfl | (congr 2; omega)) (by first | omega | (dsimp only; omega) | rfl) (by first | omega | (dsimp only; omega) | rfl) (Sub.cons (i := 1) rfl (Sub.int (i := 7) rfl (by first | omega | rfl) (Sub.int (i := 8) rfl (by first | omega | rfl) (Sub.nil))))) (fun w h => h)
  · iterate 11 refine gx ?_
    exact TE.ret1 rfl rfl (fun w hs => ⟨_, rfl, ⟨fun h => absurd h (by decide), fun h => absurd (all_of (m := m) (by have := hC.1; omega) (fun j y hj => hC1 j y (by omega))) h⟩, hs⟩)

set_option maxRecDepth 100000 in
set_option maxHeartbeats 400000 in
theorem conunf_c (A : Option Addr) (m c : Nat) (Cs : List CV) (hk : allK Cs) (hmm : m ≤ 1000000000) (hN : NumsC Cs) (w : World) (hC : SrcC w A m Cs) : Calls Try.prog 36 #[.slice A m c, .func (.func 39) #[] #[]] w fun e w' => e = .returned (.bool (decide (¬ allV Cs))) ∧ St w [] w' := by
  refine calls_from (args := [.slice A m c, .func (.func 39) #[] #[]]) Try.func36 rfl Try.ntmps36 (by simp) ?_
  refine TC.pr [0, 1] ?_
  iterate 9 refine gx ?_
  refine TL.call (ι := Int) (V := fun yr => .int .i64 yr) (R := fun yr => (0 : Int) ≤ yr ↔ ¬ allV Cs) (H' := fun _ => []) (Wants.none rfl) rfl enters52 rfl rfl (fun w hs => (idxunf_c A m c Cs hk (by omega) hN w (hC.at_ hs (fun b hb => ne_nil))).mono fun e w' ⟨y, he, hR, hw⟩ => ⟨y, he, hR, hs.call' hw⟩) (fun yr hyr => ?_)
  iterate 5 refine gx ?_
  exact TE.ret1 rfl rfl (fun w hs => ⟨dec_iff (hyr), hs⟩)

set_option maxRecDepth 100000 in
set_option maxHeartbeats 2000000 in
theorem check7_c (o n : Int) (H1 H2 : List Int) (hH1 : H1.length = 32) (hH2 : H2.length = 32) (A : Option Addr) (m c : Nat) (Cs : List CV) (hmc : m ≤ c) (hcm : c ≤ 9223372036854775807) (hm : m ≤ 1000000) (hN : NumsC Cs) (w : World) (hC : SrcC w A m Cs) : Calls Try.prog 18 #[.agg ([Value.int .i64 o, Value.int .i64 n] ++ (H1.map (Value.int .u8) ++ (H2.map (Value.int .u8) ++ ([Value.slice A m c])))).toArray] w fun e w' => e = .returned (.int .i64 (wrongI o n Cs)) ∧ St w [] w' := by
  refine calls_from (args := [.agg ([Value.int .i64 o, Value.int .i64 n] ++ (H1.map (Value.int .u8) ++ (H2.map (Value.int .u8) ++ ([Value.slice A m c])))).toArray]) Try.func18 rfl Try.ntmps18 (by simp) ?_
  refine TC.pr [0] ?_
  iterate 2 refine gx ?_
  refine TL.box (Wants.none rfl) rfl rfl rfl (cs := [Value.int .i64 o, Value.int .i64 n] ++ (H1.map (Value.int .u8) ++ (H2.map (Value.int .u8) ++ ([Value.slice A m c])))) (by simp [Value.cells]) (tot := 67) (by simp [hH1, hH2]) (fun g1 hg1 => ?_)
  iterate 8 refine gx ?_
  refine TL.call0 (Wants.none rfl) rfl enters36 rfl rfl (v := .bool (decide (¬ allK Cs))) (fun w hs => conunk_c A m c Cs (by omega) hN w (hC.at_ hs (fun b hb => (ne_cons (by show g1 ≠ b; omega) ne_nil)))) ?_
  iterate 2 refine gx ?_
  refine TC.split rfl (fun h0 => ?_) (fun h0 => ?_)
  · iterate 7 refine gx ?_
    exact TE.ret1 rfl rfl (fun w hs => ⟨ret_i ((wrongI_notK h0).symm), (hs.drop (by assumption))⟩)
  · have hkk : allK Cs := Decidable.not_not.1 h0
    iterate 9 refine gx ?_
    refine TL.buildSlice (Wants.none rfl) rfl rfl Try.underlying95 size3 zero3 rfl (by decide) (by decide) (cells := #[.int .i64 o, .int .i64 n]) (tot := 2) (by kernel_rfl) (cs := [.int .i64 o, .int .i64 n]) rfl rfl (fun g2 hg2 => ?_)
    by_cases q1 : inR o ∧ inR n
    · refine TL.call0 (Wants.none rfl) rfl enters38 rfl rfl (v := .bool true) (fun w hs => ((inrange_c [o, n] (some ⟨g2, 0, none⟩) 2 2 w (src_ent (W := [o, n]) (hs.has (⟨g2, 3, [Value.int .i64 o, Value.int .i64 n], 2⟩) (by simp)) rfl) (by omega)).mono fun e w' h => by rw [decide_eq_decide.2 allR2] at h; exact h).mono fun e w' h => by rw [decide_eq_true (p := inR o ∧ inR n) q1] at h; exact h) ?_
      iterate 5 refine gx ?_
      refine TL.gets (Wants.yes rfl rfl rfl) rfl (Gets.isFalse (Gets.gtr rfl rfl rfl) (by omega)) ?_
      iterate 4 refine gx ?_
      by_cases q2 : ¬ allV Cs
      · refine TL.call0 (Wants.yes rfl rfl rfl) rfl enters36 rfl rfl (v := .bool true) (fun w hs => (conunf_c A m c Cs hkk (by omega) hN w (hC.at_ hs (fun b hb => (ne_cons (by show g2 ≠ b; omega) (ne_cons (by show g1 ≠ b; omega) ne_nil))))).mono fun e w' h => by rw [decide_eq_true (p := ¬ allV Cs) q2] at h; exact h) ?_
        iterate 3 refine gx ?_
        refine TC.pr [2, 23] ?_
        refine TC.yes rfl ?_
        iterate 7 refine gx ?_
        exact TE.ret1 rfl rfl (fun w hs => ⟨ret_i (by first | exact (wrongI_len hkk q1).symm | exact (wrongI_notV hkk q1 q2).symm), ((hs.drop (by assumption)).drop (by assumption))⟩)
      · refine TL.call0 (Wants.yes rfl rfl rfl) rfl enters36 rfl rfl (v := .bool false) (fun w hs => (conunf_c A m c Cs hkk (by omega) hN w (hC.at_ hs (fun b hb => (ne_cons (by show g2 ≠ b; omega) (ne_cons (by show g1 ≠ b; omega) ne_nil))))).mono fun e w' h => by rw [decide_eq_false (p := ¬ allV Cs) q2] at h; exact h) ?_
        iterate 3 refine gx ?_
        refine TC.pr [2, 23] ?_
        refine TC.no rfl ?_
        iterate 8 refine gx ?_
        exact TE.ret1 rfl rfl (fun w hs => ⟨ret_i ((wrongI_0 hkk q1 (show allV Cs from Classical.not_not.1 q2)).symm), ((hs.drop (by assumption)).drop (by assumption))⟩)
    · refine TL.call0 (Wants.none rfl) rfl enters38 rfl rfl (v := .bool false) (fun w hs => ((inrange_c [o, n] (some ⟨g2, 0, none⟩) 2 2 w (src_ent (W := [o, n]) (hs.has (⟨g2, 3, [Value.int .i64 o, Value.int .i64 n], 2⟩) (by simp)) rfl) (by omega)).mono fun e w' h => by rw [decide_eq_decide.2 allR2] at h; exact h).mono fun e w' h => by rw [decide_eq_false (p := inR o ∧ inR n) q1] at h; exact h) ?_
      iterate 14 refine gx ?_
      refine TC.pr [2, 23] ?_
      refine TC.yes rfl ?_
      iterate 7 refine gx ?_
      exact TE.ret1 rfl rfl (fun w hs => ⟨ret_i (by first | exact (wrongI_len hkk q1).symm | exact (wrongI_notV hkk q1 q2).symm), ((hs.drop (by assumption)).drop (by assumption))⟩)
end Go.Proofs.Ytclmgfcdnokaiaa
/-
  A region that draws its order, with a constant text among its operations: a block that is made, marked, and read at the region's end.
-/
namespace Go.Proofs.Ytclmgfcdnokaiaa
set_option linter.unusedVariables false
set_option linter.unusedSimpArgs false
set_option linter.unusedVariables false
open Go Go.RowKit
/-- A block of which all is known, its mark too. -/
structure GEnt where
  g : Nat
  t : TypeId
  cs : List Value
  fl : Nat × Nat
def GEnt.lies (d : GEnt) (w : World) : Prop := w.heap[d.g]? = some (.cells d.cs.toArray d.t d.fl)
structure StG (w0 : World) (H : List Ent) (D : List GEnt) (w : World) : Prop where
  st : St w0 H w
  ds : ∀ d ∈ D, d.lies w ∧ w0.heap.size ≤ d.g ∧ ∀ e ∈ H, e.g ≠ d.g
section
variable {P : Program} {ops : Array Oper} {md : Region.Mode} {w0 : World} {HB : List Ent}
theorem GEnt.lies.lt {d : GEnt} {w : World} (h : d.lies w) : d.g < w.heap.size := (Array.getElem?_eq_some_iff.1 h).1
theorem StG.perm {w : World} {H H' : List Ent} {D : List GEnt} (h : StG w0 H D w) (hp : H.Perm H') : StG w0 H' D w :=
  ⟨h.st.perm hp, fun d hd => ⟨(h.ds d hd).1, (h.ds d hd).2.1, fun e he => (h.ds d hd).2.2 e (hp.mem_iff.2 he)⟩⟩
theorem StG.call {w w' : World} {H E : List Ent} {D : List GEnt} (h : StG w0 H D w) (hw : St w E w') (hE : Fresh w E) : StG w0 (H ++ E) D w' :=
  ⟨st_call h.st hw hE, fun d hd => by
    obtain ⟨h1, h2, h3⟩ := h.ds d hd
    refine ⟨(hw.old d.g h1.lt (hE.ne h1.lt)).trans h1, h2, fun e he => ?_⟩
    rcases List.mem_append.1 he with he | he
    · exact h3 e he
    · exact hE.ne h1.lt e he⟩
def OneG (P : Program) (o : Oper) (v : Value) (a : Act) (w : World) : Prop :=
  (execOp a.eval o).run P w = .ok (.value v) w ∨ ∃ f vs, (execOp a.eval o).run P w = .ok (.enter f vs) w ∧ Calls P f vs w fun e w' => e = .returned v ∧ St w [] w'
def ValG (P : Program) (ops : Array Oper) (w0 : World) (HB : List Ent) (k : Nat) (X : List Ent) (o : Oper) (v : Value) (a : Act) : Prop :=
  Region.wanted o (yielded ops a.tmps) = true ∧ ∀ Z w, Fresh w0 Z → St w0 (HB ++ (if k = 0 then Z else X ++ Z)) w → OneG P o v a w
theorem ValG.of_same {k : Nat} {X : List Ent} {o : Oper} {v : Value} {a a' : Act} (h : ValG P ops w0 HB k X o v a) (he : execOp a'.eval o = execOp a.eval o)
    (hw : Region.wanted o (yielded ops a'.tmps) = Region.wanted o (yielded ops a.tmps)) : ValG P ops w0 HB k X o v a' := by
  unfold ValG OneG at *; rw [he, hw]; exact h
theorem ValG.perm {k : Nat} {X X' : List Ent} {o : Oper} {v : Value} {a : Act} (h : ValG P ops w0 HB k X o v a) (hp : X.Perm X') : ValG P ops w0 HB k X' o v a := ⟨h.1, fun Z w hZ hs => by
  refine h.2 Z w hZ ?_
  by_cases hk : k = 0
  · rw [if_pos hk] at hs ⊢; exact hs
  · rw [if_neg hk] at hs ⊢
    exact hs.perm (List.Perm.append_left HB (List.Perm.append_right Z hp.symm))⟩
theorem ValG.more {k : Nat} {X E : List Ent} {o : Oper} {v : Value} {a : Act} (h : ValG P ops w0 HB k X o v a) (he : Fresh w0 E) : ValG P ops w0 HB k (X ++ E) o v a := ⟨h.1, fun Z w hZ hs => by
  by_cases hk : k = 0
  · refine h.2 Z w hZ ?_
    rw [if_pos hk] at hs ⊢; exact hs
  · refine h.2 (E ++ Z) w (he.app hZ) ?_
    rw [if_neg hk] at hs ⊢
    rw [← List.append_assoc X]; exact hs⟩
/-- The operation makes a block of which all is known. -/
def MakesG (P : Program) (ops : Array Oper) (o : Oper) (a : Act) (R : Value → GEnt → Prop) (w : World) : Prop :=
  (∃ v d w', (execOp a.eval o).run P w = .ok (.value v) w' ∧ R v d ∧ w.heap.size ≤ d.g ∧ d.lies w' ∧ St w [] w') ∧ Region.wanted o (yielded ops a.tmps) = true
theorem MakesG.of_same {o : Oper} {a a' : Act} {w : World} {R : Value → GEnt → Prop} (h : MakesG P ops o a R w) (he : execOp a'.eval o = execOp a.eval o)
    (hw : Region.wanted o (yielded ops a'.tmps) = Region.wanted o (yielded ops a.tmps)) : MakesG P ops o a' R w := by
  unfold MakesG at *; rw [he, hw]; exact h
/-- The operation turns such blocks. -/
def MarksG (P : Program) (ops : Array Oper) (w0 : World) (D D' : List GEnt) (o : Oper) (v : Value) (a : Act) : Prop :=
  (∀ w H, StG w0 H D w → ∃ w', (execOp a.eval o).run P w = .ok (.value v) w' ∧ StG w0 H D' w') ∧ Region.wanted o (yielded ops a.tmps) = true
theorem MarksG.of_same {D D' : List GEnt} {o : Oper} {v : Value} {a a' : Act} (h : MarksG P ops w0 D D' o v a) (he : execOp a'.eval o = execOp a.eval o)
    (hw : Region.wanted o (yielded ops a'.tmps) = Region.wanted o (yielded ops a.tmps)) : MarksG P ops w0 D D' o v a' := by
  unfold MarksG at *; rw [he, hw]; exact h
def compatG (i j : Nat) : Bool :=
  match j with
  | 0 => Nat.beq i 0 || Nat.beq i 1 || Nat.beq i 4
  | 1 => Nat.beq i 0 || Nat.beq i 1 || Nat.beq i 4
  | 3 => Nat.beq i 0 || Nat.beq i 1 || Nat.beq i 4 || Nat.beq i 3 || Nat.beq i 5 || Nat.beq i 6
  | 4 => Nat.beq i 0 || Nat.beq i 1
  | 5 => Nat.beq i 0 || Nat.beq i 1
  | 6 => Nat.beq i 0 || Nat.beq i 1 || Nat.beq i 4 || Nat.beq i 5
  | _ => false
def pairOKG (md : Region.Mode) (ops : Array Oper) (ks ms : List Nat) (i j : Nat) : Bool :=
  !Nat.beq i j &&
  ((ms.getD j 0).testBit i || (match ops[i]? with
    | some oi => (match ops[j]? with | some oj => oi.apart ops oj && compatG (ks.getD i 2) (ks.getD j 2) | none => true)
    | none => true)) &&
  (match ops[i]? with | some oi => oi.after.all (fun e => !Region.binds md e || !Nat.beq e.on j) | none => true)
def mixOKG (md : Region.Mode) (ops : Array Oper) (ks p : List Nat) : Bool :=
  Region.noSelect ops && Nat.beq p.length ops.size && ((List.range ops.size).all fun q => p.any (Nat.beq q)) &&
  (let ms := masks md ops
   p.all (fun i => decide (i < ops.size) && (match ops[i]? with | some oi => oi.after.all (fun e => !Region.binds md e || (!Nat.beq e.on i && decide (e.on < ops.size))) | none => true)) &&
   pairsOK (pairOKG md ops ks ms) p)
def PairG (md : Region.Mode) (ops : Array Oper) (ks : List Nat) (i j : Nat) : Prop :=
  i ≠ j ∧ (∀ oi oj, ops[i]? = some oi → ops[j]? = some oj → Before md ops j i ∨ (oi.apart ops oj = true ∧ compatG (ks.getD i 2) (ks.getD j 2) = true)) ∧
  ∀ oi, ops[i]? = some oi → ∀ e ∈ oi.after, Region.binds md e = true → e.on ≠ j
theorem pairOKG_spec {ks : List Nat} {i j : Nat} (h : pairOKG md ops ks (masks md ops) i j = true) : PairG md ops ks i j := by
  unfold pairOKG at h
  simp only [Bool.and_eq_true, Bool.or_eq_true, Bool.not_eq_true'] at h
  obtain ⟨⟨h1, h2⟩, h3⟩ := h
  refine ⟨nbeq_ne h1, fun oi oj hi hj => ?_, fun oi hi e he hb => ?_⟩
  · rcases h2 with h2 | h2
    · exact .inl (masks_spec h2)
    · rw [hi, hj] at h2
      simp only [Bool.and_eq_true] at h2
      exact .inr h2
  · rw [hi] at h3
    simp only [Array.all_eq_true_iff_forall_mem, Bool.or_eq_true, Bool.not_eq_true'] at h3
    exact nbeq_ne ((h3 e he).resolve_left (by simp [hb]))
theorem mixOKG_spec {ks p : List Nat} (h : mixOKG md ops ks p = true) : Region.noSelect ops = true ∧ p.length = ops.size ∧ (∀ q, q < ops.size → q ∈ p) ∧
    (∀ i ∈ p, i < ops.size ∧ ∀ oi, ops[i]? = some oi → ∀ e ∈ oi.after, Region.binds md e = true → e.on ≠ i ∧ e.on < ops.size) ∧ p.Pairwise (PairG md ops ks) := by
  unfold mixOKG at h
  simp only [Bool.and_eq_true, List.all_eq_true, decide_eq_true_eq] at h
  obtain ⟨⟨⟨h1, h2⟩, h7⟩, h3, h4⟩ := h
  refine ⟨h1, Nat.eq_of_beq_eq_true h2, fun q hq => ?_, fun i hi => ⟨(h3 i hi).1, fun oi hoi e he hb => ?_⟩, (pairsOK_spec h4).imp pairOKG_spec⟩
  · obtain ⟨r, hr, hqr⟩ := List.any_eq_true.1 (h7 q (List.mem_range.2 hq))
    rw [Nat.eq_of_beq_eq_true hqr]; exact hr
  have h5 := (h3 i hi).2
  rw [hoi] at h5
  simp only [Array.all_eq_true_iff_forall_mem, Bool.or_eq_true, Bool.and_eq_true, Bool.not_eq_true', decide_eq_true_eq] at h5
  have h6 := (h5 e he).resolve_left (by simp [hb])
  exact ⟨nbeq_ne h6.1, h6.2⟩
def isN (k : Nat) : Prop := k = 3 ∨ k = 6
def MixG (P : Program) (ops : Array Oper) (w0 : World) (HB : List Ent) (K : Nat → Nat) (RR : Nat → Value → List Ent → Prop) (T : Act → World → Prop) : List Nat → Act → List Ent → List GEnt → Prop
  | [], a, X, D => ∀ w, StG w0 (HB ++ X) D w → T a w
  | i :: is, a, X, D => ∃ o, ops[i]? = some o ∧ (
      (K i < 2 ∧ ∃ v, ValG P ops w0 HB (K i) X o v a ∧ MixG P ops w0 HB K RR T is (a.put o.dst v) X D) ∨
      (isN (K i) ∧ (∀ Z w, Fresh w0 Z → St w0 (HB ++ zOf (K i) X Z) w → MakesL P ops o a (RR i) w) ∧ ∀ v E, Fresh w0 E → RR i v E → MixG P ops w0 HB K RR T is (a.put o.dst v) (X ++ E) D) ∨
      (K i = 5 ∧ ∃ R, (∀ w, MakesG P ops o a R w) ∧ ∀ v d, w0.heap.size ≤ d.g → R v d → MixG P ops w0 HB K RR T is (a.put o.dst v) X (d :: D)) ∨
      (K i = 4 ∧ ∃ v D', MarksG P ops w0 D D' o v a ∧ MixG P ops w0 HB K RR T is (a.put o.dst v) X D') ∨
      (K i = 8 ∧ ∃ R, (∀ w, StG w0 (HB ++ X) D w → MakesL P ops o a R w) ∧ ∀ v E, Fresh w0 E → R v E → MixG P ops w0 HB K RR T is (a.put o.dst v) (X ++ E) D))
theorem MixG.perm {K : Nat → Nat} {RR : Nat → Value → List Ent → Prop} {T : Act → World → Prop} : ∀ (is : List Nat) (a : Act) (X X' : List Ent) (D : List GEnt), X.Perm X' → MixG P ops w0 HB K RR T is a X D → MixG P ops w0 HB K RR T is a X' D
  | [], a, X, X', D, hp, h => fun w hs => h w (hs.perm (List.Perm.append_left HB hp.symm))
  | i :: is, a, X, X', D, hp, h => by
    obtain ⟨o, ho, h⟩ := h
    refine ⟨o, ho, ?_⟩
    rcases h with ⟨h1, v, h2, h3⟩ | ⟨h1, h2, h3⟩ | ⟨h1, R, h2, h3⟩ | ⟨h1, v, D', h2, h3⟩ | ⟨h1, R, h2, h3⟩
    · exact .inl ⟨h1, v, h2.perm hp, MixG.perm is _ X X' _ hp h3⟩
    · exact .inr (.inl ⟨h1, fun Z w hZ hw => h2 Z w hZ (hw.perm (List.Perm.append_left HB (zOf_perm hp.symm))), fun v E hE hR => MixG.perm is _ _ _ _ (List.Perm.append_right E hp) (h3 v E hE hR)⟩)
    · exact .inr (.inr (.inl ⟨h1, R, h2, fun v d hd hR => MixG.perm is _ _ _ _ hp (h3 v d hd hR)⟩))
    · exact .inr (.inr (.inr (.inl ⟨h1, v, D', h2, MixG.perm is _ _ _ _ hp h3⟩)))
    · exact .inr (.inr (.inr (.inr ⟨h1, R, fun w hw => h2 w (hw.perm (List.Perm.append_left HB hp.symm)), fun v E hE hR => MixG.perm is _ _ _ _ (List.Perm.append_right E hp) (h3 v E hE hR)⟩)))
theorem compatG_01 {i j : Nat} (h : compatG i j = true) (hj : j < 2) : i < 2 ∨ i = 4 := by
  unfold compatG at h
  match j, hj with
  | 0, _ => simp at h; omega
  | 1, _ => simp at h; omega
theorem compatG_45 {i j : Nat} (hj : j = 4 ∨ j = 5) (h : compatG i j = true) : i < 2 := by
  rcases hj with rfl | rfl <;> (simp [compatG] at h; omega)
theorem compatG_N {i j : Nat} (hj : isN j) (h : compatG i j = true) : i < 2 ∨ (isN i ∧ j = 3) ∨ i = 4 ∨ i = 5 := by
  unfold isN at *
  rcases hj with rfl | rfl <;> (simp [compatG] at h; omega)
theorem compatG_8 {i : Nat} (h : compatG i 8 = true) : False := by simp [compatG] at h
theorem MixG.first01 {K : Nat → Nat} {RR : Nat → Value → List Ent → Prop} {T : Act → World → Prop} (hsel : ∀ (j : Nat) (o : Oper) cs b, ops[j]? = some o → o.op ≠ .select cs b) {j : Nat} {oj : Oper} (hj : ops[j]? = some oj) (hk : K j < 2) (post : List Nat) :
    ∀ (pre : List Nat) (a : Act) (X : List Ent) (D : List GEnt), (∀ i oi, i ∈ pre → ops[i]? = some oi → oi.apart ops oj = true ∧ compatG (K i) (K j) = true) → MixG P ops w0 HB K RR T (pre ++ j :: post) a X D →
      ∃ v, ValG P ops w0 HB (K j) X oj v a ∧ MixG P ops w0 HB K RR T (pre ++ post) (a.put oj.dst v) X D
  | [], a, X, D, _, h => by
    obtain ⟨o, ho, h⟩ := h
    rw [hj] at ho; cases ho
    rcases h with ⟨_, v, h2, h3⟩ | ⟨h1, _⟩ | ⟨h1, _⟩ | ⟨h1, _⟩ | ⟨h1, _⟩
    · exact ⟨v, h2, h3⟩
    all_goals first | omega | (unfold isN at *; omega)
  | i :: pre, a, X, D, hap, h => by
    obtain ⟨oi, hi, h⟩ := h
    obtain ⟨hap1, hcomp⟩ := hap i oi List.mem_cons_self hi
    obtain ⟨h1, h2, h3⟩ := Oper.apart_spec hap1
    have hap' := fun k ok hk => hap k ok (List.mem_cons_of_mem _ hk)
    have hc := compatG_01 hcomp hk
    rcases h with ⟨hki, vi, hf, hs⟩ | ⟨hki, _⟩ | ⟨hki, _⟩ | ⟨hki, vi, Di, hw, hs⟩ | ⟨hki, _⟩
    · obtain ⟨vj, hfj, hsj⟩ := MixG.first01 hsel hj hk post pre (a.put oi.dst vi) X D hap' hs
      exact ⟨vj, hfj.of_same (execOp_put oj (fun cs b => hsel j oj cs b hj) a oi.dst vi h1).symm (wanted_put oj a oi.dst vi h1).symm, oi, hi,
        .inl ⟨hki, vi, hf.of_same (execOp_put oi (fun cs b => hsel i oi cs b hi) a oj.dst vj h3) (wanted_put oi a oj.dst vj h3), by rw [← Act.put_comm a vi vj h2]; exact hsj⟩⟩
    · unfold isN at hki; omega
    · omega
    · obtain ⟨vj, hfj, hsj⟩ := MixG.first01 hsel hj hk post pre (a.put oi.dst vi) X Di hap' hs
      exact ⟨vj, hfj.of_same (execOp_put oj (fun cs b => hsel j oj cs b hj) a oi.dst vi h1).symm (wanted_put oj a oi.dst vi h1).symm, oi, hi,
        .inr (.inr (.inr (.inl ⟨hki, vi, Di, hw.of_same (execOp_put oi (fun cs b => hsel i oi cs b hi) a oj.dst vj h3) (wanted_put oi a oj.dst vj h3), by rw [← Act.put_comm a vi vj h2]; exact hsj⟩)))⟩
    · omega
theorem MixG.first45 {K : Nat → Nat} {RR : Nat → Value → List Ent → Prop} {T : Act → World → Prop} (hsel : ∀ (j : Nat) (o : Oper) cs b, ops[j]? = some o → o.op ≠ .select cs b) {j : Nat} {oj : Oper} (hj : ops[j]? = some oj) (hk : K j = 4 ∨ K j = 5) (post : List Nat) :
    ∀ (pre : List Nat) (a : Act) (X : List Ent) (D : List GEnt), (∀ i oi, i ∈ pre → ops[i]? = some oi → oi.apart ops oj = true ∧ compatG (K i) (K j) = true) → MixG P ops w0 HB K RR T (pre ++ j :: post) a X D →
      (∃ R, (∀ w, MakesG P ops oj a R w) ∧ ∀ v d, w0.heap.size ≤ d.g → R v d → MixG P ops w0 HB K RR T (pre ++ post) (a.put oj.dst v) X (d :: D)) ∨
      (∃ v D', MarksG P ops w0 D D' oj v a ∧ MixG P ops w0 HB K RR T (pre ++ post) (a.put oj.dst v) X D')
  | [], a, X, D, _, h => by
    obtain ⟨o, ho, h⟩ := h
    rw [hj] at ho; cases ho
    rcases h with ⟨h1, _⟩ | ⟨h1, _⟩ | ⟨_, R, h2, h3⟩ | ⟨_, v, D', h2, h3⟩ | ⟨h1, _⟩
    · omega
    · unfold isN at h1; omega
    · exact .inl ⟨R, h2, h3⟩
    · exact .inr ⟨v, D', h2, h3⟩
    · omega
  | i :: pre, a, X, D, hap, h => by
    obtain ⟨oi, hi, h⟩ := h
    obtain ⟨hap1, hcomp⟩ := hap i oi List.mem_cons_self hi
    obtain ⟨h1, h2, h3⟩ := Oper.apart_spec hap1
    have hap' := fun k ok hk => hap k ok (List.mem_cons_of_mem _ hk)
    have hc := compatG_45 hk hcomp
    have ej := fun v => (execOp_put oj (fun cs b => hsel j oj cs b hj) a oi.dst v h1).symm
    have wj := fun v => (wanted_put oj a oi.dst v h1).symm
    have ei := fun v => execOp_put oi (fun cs b => hsel i oi cs b hi) a oj.dst v h3
    have wi := fun v => wanted_put oi a oj.dst v h3
    rcases h with ⟨hki, vi, hf, hs⟩ | ⟨hki, _⟩ | ⟨hki, _⟩ | ⟨hki, _⟩ | ⟨hki, _⟩
    · rcases MixG.first45 hsel hj hk post pre (a.put oi.dst vi) X D hap' hs with ⟨R, hm, hsj⟩ | ⟨vj, Dj, hm, hsj⟩
      · exact .inl ⟨R, fun w => (hm w).of_same (ej vi) (wj vi), fun v d hd hR => ⟨oi, hi, .inl ⟨hki, vi, hf.of_same (ei v) (wi v), by rw [← Act.put_comm a vi v h2]; exact hsj v d hd hR⟩⟩⟩
      · exact .inr ⟨vj, Dj, hm.of_same (ej vi) (wj vi), oi, hi, .inl ⟨hki, vi, hf.of_same (ei vj) (wi vj), by rw [← Act.put_comm a vi vj h2]; exact hsj⟩⟩
    · unfold isN at hki; omega
    · omega
    · omega
    · omega
theorem MixG.firstN {K : Nat → Nat} {RR : Nat → Value → List Ent → Prop} {T : Act → World → Prop} (hsel : ∀ (j : Nat) (o : Oper) cs b, ops[j]? = some o → o.op ≠ .select cs b) {j : Nat} {oj : Oper} (hj : ops[j]? = some oj) (hk : isN (K j)) (post : List Nat) :
    ∀ (pre : List Nat) (a : Act) (X : List Ent) (D : List GEnt), (∀ i oi, i ∈ pre → ops[i]? = some oi → oi.apart ops oj = true ∧ compatG (K i) (K j) = true) → MixG P ops w0 HB K RR T (pre ++ j :: post) a X D →
      ((∃ Z w, Fresh w0 (X ++ Z) ∧ St w0 (HB ++ (X ++ Z)) w) → ∀ Z w, Fresh w0 Z → St w0 (HB ++ zOf (K j) X Z) w → MakesL P ops oj a (RR j) w) ∧
        ∀ v E, Fresh w0 E → RR j v E → MixG P ops w0 HB K RR T (pre ++ post) (a.put oj.dst v) (X ++ E) D
  | [], a, X, D, _, h => by
    obtain ⟨o, ho, h⟩ := h
    rw [hj] at ho; cases ho
    rcases h with ⟨h1, _⟩ | ⟨_, h2, h3⟩ | ⟨h1, _⟩ | ⟨h1, _⟩ | ⟨h1, _⟩
    · unfold isN at hk; omega
    · exact ⟨fun _ => h2, h3⟩
    all_goals (unfold isN at hk; omega)
  | i :: pre, a, X, D, hap, h => by
    obtain ⟨oi, hi, h⟩ := h
    obtain ⟨hap1, hcomp⟩ := hap i oi List.mem_cons_self hi
    obtain ⟨h1, h2, h3⟩ := Oper.apart_spec hap1
    have hap' := fun k ok hk => hap k ok (List.mem_cons_of_mem _ hk)
    have hc := compatG_N hk hcomp
    have ej := fun v => (execOp_put oj (fun cs b => hsel j oj cs b hj) a oi.dst v h1).symm
    have wj := fun v => (wanted_put oj a oi.dst v h1).symm
    have ei := fun v => execOp_put oi (fun cs b => hsel i oi cs b hi) a oj.dst v h3
    have wi := fun v => wanted_put oi a oj.dst v h3
    rcases h with ⟨hki, vi, hf, hs⟩ | ⟨hki, hm, hs⟩ | ⟨hki, R, hm, hs⟩ | ⟨hki, vi, Di, hw, hs⟩ | ⟨hki, _⟩
    · obtain ⟨hmj, hsj⟩ := MixG.firstN hsel hj hk post pre (a.put oi.dst vi) X D hap' hs
      refine ⟨fun hex Z w hZ hst => (hmj hex Z w hZ hst).of_same (ej vi) (wj vi), fun v E hE hR => ⟨oi, hi, .inl ⟨hki, vi, ?_, ?_⟩⟩⟩
      · exact (hf.of_same (ei v) (wi v)).more hE
      · rw [← Act.put_comm a vi v h2]; exact hsj v E hE hR
    · have rec_ := fun v E (hE : Fresh w0 E) (hR : RR i v E) => MixG.firstN hsel hj hk post pre (a.put oi.dst v) (X ++ E) D hap' (hs v E hE hR)
      have hc2 : K j ≠ 6 := by unfold isN at *; omega
      refine ⟨fun hex Z w hZ hst => ?_, fun v E hE hR => ⟨oi, hi, .inr (.inl ⟨hki, fun Z w hZ hst => ?_, fun vi Ei hEi hRi => ?_⟩)⟩⟩
      · obtain ⟨Z1, w1, hZ1, hs1⟩ := hex
        have hone : ∃ v E w', RR i v E ∧ Fresh w1 E ∧ St w1 E w' := by
          by_cases h6 : K i = 6
          · refine (hm Z1 w1 (fun e he => hZ1 e (List.mem_append.2 (.inr he))) ?_).one
            unfold zOf; rw [if_pos h6]; exact hs1
          · refine (hm (X ++ Z1) w1 hZ1 ?_).one
            unfold zOf; rw [if_neg h6]; exact hs1
        obtain ⟨vi, Ei, w', hRi, hEi, hst'⟩ := hone
        have hEi0 : Fresh w0 Ei := fun e he => Nat.le_trans hs1.size (hEi e he)
        have hall := st_call hs1 hst' hEi
        have hex' : ∃ Z w, Fresh w0 ((X ++ Ei) ++ Z) ∧ St w0 (HB ++ ((X ++ Ei) ++ Z)) w := by
          refine ⟨Z1, w', fun e he => ?_, hall.perm ?_⟩
          · simp only [List.append_assoc, List.mem_append] at he
            rcases he with he | he | he
            · exact hZ1 e (List.mem_append.2 (.inl he))
            · exact hEi0 e he
            · exact hZ1 e (List.mem_append.2 (.inr he))
          · simp only [List.append_assoc]
            exact List.Perm.append_left HB (List.Perm.append_left X List.perm_append_comm)
        refine ((rec_ vi Ei hEi0 hRi).1 hex' Z w hZ ?_).of_same (ej vi) (wj vi)
        unfold zOf at hst ⊢
        rw [if_neg hc2] at hst ⊢; exact hst
      · by_cases h6 : K i = 6
        · unfold zOf at hst; rw [if_pos h6] at hst
          refine (hm (E ++ Z) w (hE.app hZ) ?_).of_same (ei v) (wi v)
          unfold zOf; rw [if_pos h6, ← List.append_assoc X]; exact hst
        · unfold zOf at hst; rw [if_neg h6] at hst
          refine (hm Z w hZ ?_).of_same (ei v) (wi v)
          unfold zOf; rw [if_neg h6]; exact hst
      · have := (rec_ vi Ei hEi hRi).2 v E hE hR
        rw [Act.put_comm a vi v h2] at this
        refine MixG.perm _ _ _ _ _ ?_ this
        rw [List.append_assoc, List.append_assoc]
        exact List.Perm.append_left X List.perm_append_comm
    · have rec_ := fun v d (hd : w0.heap.size ≤ d.g) (hR : R v d) => MixG.firstN hsel hj hk post pre (a.put oi.dst v) X (d :: D) hap' (hs v d hd hR)
      refine ⟨fun hex Z w hZ hst => ?_, fun v E hE hR => ⟨oi, hi, .inr (.inr (.inl ⟨hki, R, fun w => (hm w).of_same (ei v) (wi v), fun vi d hd hRi => ?_⟩))⟩⟩
      · obtain ⟨Z1, w1, hZ1, hs1⟩ := hex
        obtain ⟨⟨vi, d, w', _, hRi, hd, _, _⟩, _⟩ := hm w1
        exact ((rec_ vi d (Nat.le_trans hs1.size hd) hRi).1 ⟨Z1, w1, hZ1, hs1⟩ Z w hZ hst).of_same (ej vi) (wj vi)
      · have := (rec_ vi d hd hRi).2 v E hE hR
        rw [Act.put_comm a vi v h2] at this; exact this
    · obtain ⟨hmj, hsj⟩ := MixG.firstN hsel hj hk post pre (a.put oi.dst vi) X Di hap' hs
      exact ⟨fun hex Z w hZ hst => (hmj hex Z w hZ hst).of_same (ej vi) (wj vi), fun v E hE hR => ⟨oi, hi, .inr (.inr (.inr (.inl ⟨hki, vi, Di, hw.of_same (ei v) (wi v), by rw [← Act.put_comm a vi v h2]; exact hsj v E hE hR⟩)))⟩⟩
    · unfold isN at *; omega
def kindsOKG (ks p : List Nat) : Bool := p.all fun i => Nat.blt (ks.getD i 2) 2 || (Nat.beq (ks.getD i 2) 3 || Nat.beq (ks.getD i 2) 6) || (Nat.beq (ks.getD i 2) 4 || Nat.beq (ks.getD i 2) 5) || Nat.beq (ks.getD i 2) 8
theorem kindsOKG_spec {ks p : List Nat} (h : kindsOKG ks p = true) : ∀ i ∈ p, ks.getD i 2 < 2 ∨ isN (ks.getD i 2) ∨ (ks.getD i 2 = 4 ∨ ks.getD i 2 = 5) ∨ ks.getD i 2 = 8 := fun i hi => by
  unfold kindsOKG at h
  have := List.all_eq_true.1 h i hi
  simp only [Bool.or_eq_true, Nat.blt_eq] at this
  unfold isN
  rcases this with ((h1 | h1 | h1) | h1 | h1) | h1
  · exact .inl h1
  · exact .inr (.inl (.inl (Nat.eq_of_beq_eq_true h1)))
  · exact .inr (.inl (.inr (Nat.eq_of_beq_eq_true h1)))
  · exact .inr (.inr (.inl (.inl (Nat.eq_of_beq_eq_true h1))))
  · exact .inr (.inr (.inl (.inr (Nat.eq_of_beq_eq_true h1))))
  · exact .inr (.inr (.inr (Nat.eq_of_beq_eq_true h1)))
theorem wpAny_of_mixG {Q : Exit → Act → World → Prop} {RR : Nat → Value → List Ent → Prop} {ks p : List Nat} (hks : ∀ i ∈ p, ks.getD i 2 < 2 ∨ isN (ks.getD i 2) ∨ (ks.getD i 2 = 4 ∨ ks.getD i 2 = 5) ∨ ks.getD i 2 = 8) (hns : Region.noSelect ops = true) (hself : ∀ i ∈ p, i < ops.size ∧ ∀ oi, ops[i]? = some oi → ∀ e ∈ oi.after, Region.binds md e = true → e.on ≠ i ∧ e.on < ops.size) :
    ∀ (n : Nat) (is : List Nat) (listed : Array Bool) (a : Act) (w : World) (X : List Ent) (D : List GEnt), is.length = n → is.Pairwise (PairG md ops ks) → (∀ i ∈ is, i ∈ p) → Lists ops.size md ops is listed → MixG P ops w0 HB (ks.getD · 2) RR (Q .normal) is a X D → Fresh w0 X → StG w0 (HB ++ X) D w →
      wpAny P md ops Q n listed a w := by
  have hsel := Region.noSelect_spec hns
  intro n
  induction n with
  | zero =>
    intro is listed a w X D hlen _ _ hl hs hX hS
    obtain rfl : is = [] := List.length_eq_zero_iff.1 hlen
    exact wpAny_end hl (hs w hS)
  | succ n ih =>
    intro is listed a w X D hlen hpw hlt hl hs hX hS
    have hnd : is.Nodup := hpw.imp (fun h => h.1)
    refine ⟨fun hnone => ?_, fun j hj => ?_⟩
    · exfalso
      obtain ⟨i, is', rfl⟩ : ∃ i is', is = i :: is' := by
        cases is with
        | nil => simp at hlen
        | cons i is' => exact ⟨i, is', rfl⟩
      obtain ⟨him, hafter⟩ := hself i (hlt i List.mem_cons_self)
      have hi : ops[i]? = some ops[i] := Array.getElem?_eq_getElem him
      have hmem : i ∈ Region.ready md ops listed := by
        rw [mem_ready]
        refine ⟨(hl.2.1 i him).2 (.inl List.mem_cons_self), _, hi, fun e he hb => ?_⟩
        obtain ⟨hne, hon⟩ := hafter _ hi e he hb
        rw [getD_false_of (by rw [hl.1]; exact hon), hl.2.1 e.on hon]
        rintro (h | h)
        · rcases List.mem_cons.1 h with h | h
          · exact hne h
          · exact ((List.pairwise_cons.1 hpw).1 _ h).2.2 _ hi e he hb rfl
        · omega
      rw [hnone] at hmem
      cases hmem
    · obtain ⟨hjun, oj, hoj, hall⟩ := mem_ready.1 hj
      have hjs : j < ops.size := (Array.getElem?_eq_some_iff.1 hoj).1
      have hnw : ∀ i ∈ is, ¬ Before md ops j i := fun i hi hw => by
        have h1 := hw listed hl.2.2 (fun o ho' e he hb => by rw [hoj] at ho'; cases ho'; exact hall e he hb)
        have him := (hself i (hlt i hi)).1
        exact (getD_false_of (by rw [hl.1]; omega)).1 h1 ((hl.2.1 i him).2 (.inl hi))
      have hjin : j ∈ is := by
        rcases (hl.2.1 j hjs).1 hjun with h | h
        · exact h
        · omega
      obtain ⟨pre, post, rfl⟩ := List.append_of_mem hjin
      have hap : ∀ i oi, i ∈ pre → ops[i]? = some oi → oi.apart ops oj = true ∧ compatG (ks.getD i 2) (ks.getD j 2) = true := fun i oi hi hoi => by
        have hij := (List.pairwise_append.1 hpw).2.2 i hi j List.mem_cons_self
        rcases hij.2.1 oi oj hoi hoj with hw | hap
        · exact absurd hw (hnw i (by simp [hi]))
        · exact hap
      have hsub : (pre ++ post).Sublist (pre ++ j :: post) := List.Sublist.append_left (List.sublist_cons_self _ _) _
      have next := fun a' w' X' D' => ih (pre ++ post) (listed.setIfInBounds j true) a' w' X' D' (by simp at hlen ⊢; omega) (hpw.sublist hsub) (fun i hi => hlt i (hsub.subset hi)) (hl.next rfl hnd hjs (Nat.le_refl _) hj)
      have made : ∀ R : Value → List Ent → Prop, MakesL P ops oj a R w → (∀ v E, Fresh w0 E → R v E → MixG P ops w0 HB (ks.getD · 2) RR (Q .normal) (pre ++ post) (a.put oj.dst v) (X ++ E) D) → Go.wpOp P ops Q j (fun a w => wpAny P md ops Q n (listed.setIfInBounds j true) a w) a w := fun R hmk hs' => by
        obtain ⟨hr, hw⟩ := hmk
        unfold Go.wpOp
        simp only [hoj, hw, if_true, Oper.wp]
        refine .inl ?_
        have go : ∀ v E w', R v E → Fresh w E → St w E w' → wpAny P md ops Q n (listed.setIfInBounds j true) (a.put oj.dst v) w' := fun v E w' hR hE hw' => by
          have hE0 : Fresh w0 E := fun e he => Nat.le_trans hS.st.size (hE e he)
          refine next _ w' _ _ (hs' v E hE0 hR) (hX.app hE0) ?_
          rw [← List.append_assoc]; exact hS.call hw' hE
        rcases hr with ⟨v, E, w', hr, hR, hE, hw'⟩ | ⟨f, vs, hr, hc⟩
        · rw [hr]; exact go v E w' hR hE hw'
        · rw [hr]
          refine hc.mono ?_
          rintro e w'' ⟨v, E, rfl, hR, hE, hw'⟩
          exact go v E w'' hR hE hw'
      rcases hks j (hlt j hjin) with hk | hk | hk | hk
      · obtain ⟨vj, ⟨hw, hf⟩, hs'⟩ := MixG.first01 (K := (ks.getD · 2)) hsel hoj hk post pre a X D hap hs
        have hone : OneG P oj vj a w := by
          by_cases hk0 : ks.getD j 2 = 0
          · refine hf X w hX ?_
            rw [if_pos hk0]; exact hS.st
          · refine hf [] w Fresh.nil ?_
            rw [if_neg hk0, List.append_nil]; exact hS.st
        unfold Go.wpOp
        simp only [hoj, hw, if_true, Oper.wp]
        refine .inl ?_
        rcases hone with hr | ⟨f, vs, hr, hc⟩
        · rw [hr]; exact next _ w X D hs' hX hS
        · rw [hr]
          refine hc.mono ?_
          rintro e w'' ⟨rfl, hw'⟩
          refine next _ w'' X D hs' hX ?_
          have := hS.call hw' Fresh.nil
          rwa [List.append_nil] at this
      · obtain ⟨hf, hs'⟩ := MixG.firstN (K := (ks.getD · 2)) hsel hoj hk post pre a X D hap hs
        refine made _ ?_ hs'
        by_cases h6 : ks.getD j 2 = 6
        · refine hf ⟨[], w, by rw [List.append_nil]; exact hX, by rw [List.append_nil]; exact hS.st⟩ [] w Fresh.nil ?_
          unfold zOf; rw [if_pos h6, List.append_nil]; exact hS.st
        · refine hf ⟨[], w, by rw [List.append_nil]; exact hX, by rw [List.append_nil]; exact hS.st⟩ X w hX ?_
          unfold zOf; rw [if_neg h6]; exact hS.st
      · rcases MixG.first45 (K := (ks.getD · 2)) hsel hoj hk post pre a X D hap hs with ⟨R, hm, hs'⟩ | ⟨vj, D', ⟨hm, hw⟩, hs'⟩
        · obtain ⟨⟨v, d, w', hr, hR, hd, hl', hw'⟩, hw⟩ := hm w
          unfold Go.wpOp
          simp only [hoj, hw, if_true, Oper.wp]
          refine .inl ?_
          rw [hr]
          have hd0 := Nat.le_trans hS.st.size hd
          have h0 := hS.call hw' Fresh.nil
          rw [List.append_nil] at h0
          refine next _ w' X (d :: D) (hs' v d hd0 hR) hX ⟨h0.st, fun c hc => ?_⟩
          rcases List.mem_cons.1 hc with rfl | hc
          · exact ⟨hl', hd0, fun e he => by have := (hS.st.has e he).lt; omega⟩
          · exact h0.ds c hc
        · obtain ⟨w', hr, hS'⟩ := hm w _ hS
          unfold Go.wpOp
          simp only [hoj, hw, if_true, Oper.wp]
          refine .inl ?_
          rw [hr]
          exact next _ w' X D' hs' hX hS'
      · obtain rfl : pre = [] := by
          cases pre with
          | nil => rfl
          | cons i pre =>
            have him := (hself i (hlt i (by simp))).1
            have hcc := (hap i ops[i] List.mem_cons_self (Array.getElem?_eq_getElem him)).2
            rw [hk] at hcc
            exact (compatG_8 hcc).elim
        obtain ⟨o, ho, hseq⟩ := hs
        rw [hoj] at ho; cases ho
        rcases hseq with ⟨h1, _⟩ | ⟨h1, _⟩ | ⟨h1, _⟩ | ⟨h1, _⟩ | ⟨_, R, h2, h3⟩
        · have h1' : ks.getD j 2 < 2 := h1
          omega
        · have h1' : isN (ks.getD j 2) := h1
          unfold isN at h1'; omega
        · have h1' : ks.getD j 2 = 5 := h1
          omega
        · have h1' : ks.getD j 2 = 4 := h1
          omega
        · exact made R (h2 w hS) h3
def MixMG (P : Program) (ops : Array Oper) (w0 : World) (HB : List Ent) (T : Act → World → Prop) : List Nat → List (Value → List Ent → Prop) → List Oper → Act → List Ent → List GEnt → Prop
  | [], [], [], a, X, D => ∀ w, StG w0 (HB ++ X) D w → T a w
  | k :: ks, r :: rs, o :: rest, a, X, D => (k < 2 ∧ ∃ v, ValG P ops w0 HB k X o v a ∧ MixMG P ops w0 HB T ks rs rest (a.put o.dst v) X D) ∨
      (isN k ∧ (∀ Z w, Fresh w0 Z → St w0 (HB ++ zOf k X Z) w → MakesL P ops o a r w) ∧ ∀ v E, Fresh w0 E → r v E → MixMG P ops w0 HB T ks rs rest (a.put o.dst v) (X ++ E) D) ∨
      (k = 5 ∧ ∃ R, (∀ w, MakesG P ops o a R w) ∧ ∀ v d, w0.heap.size ≤ d.g → R v d → MixMG P ops w0 HB T ks rs rest (a.put o.dst v) X (d :: D)) ∨
      (k = 4 ∧ ∃ v D', MarksG P ops w0 D D' o v a ∧ MixMG P ops w0 HB T ks rs rest (a.put o.dst v) X D') ∨
      (k = 8 ∧ ∃ R, (∀ w, StG w0 (HB ++ X) D w → MakesL P ops o a R w) ∧ ∀ v E, Fresh w0 E → R v E → MixMG P ops w0 HB T ks rs rest (a.put o.dst v) (X ++ E) D)
  | _, _, _, _, _, _ => False
theorem MixMG.seqp {T : Act → World → Prop} {l : List Oper} {ks : List Nat} {rs : List (Value → List Ent → Prop)} : ∀ (p : List Nat) (a : Act) (X : List Ent) (D : List GEnt), (∀ i ∈ p, i < l.length) → MixMG P l.toArray w0 HB T (pickK ks p) (pickRL rs p) (pickO l p) a X D →
    MixG P l.toArray w0 HB (ks.getD · 2) (rs.getD · (fun _ _ => False)) T p a X D
  | [], _, _, _, _, h => h
  | i :: is, a, X, D, hp, h => by
    have hlt := hp i List.mem_cons_self
    have hi : l[i]? = some l[i] := List.getElem?_eq_getElem hlt
    unfold pickO pickK pickRL at h
    rw [hi] at h
    have rec_ : ∀ a X D, MixMG P l.toArray w0 HB T (pickK ks is) (pickRL rs is) (pickO l is) a X D → MixG P l.toArray w0 HB (ks.getD · 2) (rs.getD · (fun _ _ => False)) T is a X D := fun a X D h => MixMG.seqp is a X D (fun j hj => hp j (List.mem_cons_of_mem _ hj)) h
    refine ⟨l[i], by rw [List.getElem?_toArray]; exact hi, ?_⟩
    rcases h with ⟨h1, v, h2, h3⟩ | ⟨h1, h2, h3⟩ | ⟨h1, R, h2, h3⟩ | ⟨h1, v, D', h2, h3⟩ | ⟨h1, R, h2, h3⟩
    · exact .inl ⟨h1, v, h2, rec_ _ _ _ h3⟩
    · exact .inr (.inl ⟨h1, h2, fun v E hE hR => rec_ _ _ _ (h3 v E hE hR)⟩)
    · exact .inr (.inr (.inl ⟨h1, R, h2, fun v d hd hR => rec_ _ _ _ (h3 v d hd hR)⟩))
    · exact .inr (.inr (.inr (.inl ⟨h1, v, D', h2, rec_ _ _ _ h3⟩)))
    · exact .inr (.inr (.inr (.inr ⟨h1, R, h2, fun v E hE hR => rec_ _ _ _ (h3 v E hE hR)⟩)))
theorem wp_mixG {md0 : Md} {Q : Exit → Act → World → Prop} {id : Nat} {l : List Oper} {a : Act} {w : World} (hmix : P.follows .mixedOrders = true) (ks p : List Nat) (rs : List (Value → List Ent → Prop)) (hks : kindsOKG ks p = true) (ho : mixOKG .any l.toArray ks p = true)
    (hS : St w0 HB w.drew) (h : MixMG P l.toArray w0 HB (Q .normal) (pickK ks p) (pickRL rs p) (pickO l p) a [] []) (hok : OkR md0 l.toArray Q) : wpn md0 P (Code.region id l.toArray true) Q a w := by
  refine wpnFrom_start hok hmix ?_
  intro listed hl
  have hsz : l.toArray.size = l.length := by simp
  obtain ⟨hns, hlen, hall, hself, hpw⟩ := mixOKG_spec ho
  have := wpAny_of_mixG (P := P) (Q := Q) (ks := ks) (kindsOKG_spec hks) hns hself l.length p listed a w.drew [] [] (hlen.trans hsz) hpw (fun i hi => hi)
    ⟨hl.1, fun q hq => by
      rw [hl.2.1 q hq]
      have := hall q hq
      simp [this], hl.2.2⟩ (MixMG.seqp p a [] [] (fun i hi => by rw [← hsz]; exact (hself i hi).1) h) Fresh.nil ⟨by rw [List.append_nil]; exact hS, fun d hd => by cases hd⟩
  rw [hsz, Nat.sub_zero]
  exact this
end
section
variable {P : Program} {ops : Array Oper} {Q : Exit → Act → World → Prop} {n : Sz} {w0 : World} {L L' : List (Nat × Value)} {HB X : List Ent} {D : List GEnt}
variable {o : Oper} {rest : List Oper} {v u : Value} {x y z : Operand} {k m j : Nat} {t t' e : TypeId} {ks : List Nat} {kd : IntKind} {r : Value → List Ent → Prop} {rs : List (Value → List Ent → Prop)}
def TG (P : Program) (ops : Array Oper) (Q : Exit → Act → World → Prop) (n : Sz) (w0 : World) (HB : List Ent) (ks : List Nat) (rs : List (Value → List Ent → Prop)) (rest : List Oper) (L : List (Nat × Value)) (X : List Ent) (D : List GEnt) : Prop :=
  ∀ a, Fr n L a → MixMG P ops w0 HB (Q .normal) ks rs rest a X D
theorem TC.mixG {id : Nat} {l : List Oper} (HB : List Ent) (hmix : P.follows .mixedOrders = true) (ks p : List Nat) (rs : List (Value → List Ent → Prop)) (hks : kindsOKG ks p = true) (ho : mixOKG .any l.toArray ks p = true)
    (h : TG P l.toArray Q n w0 HB (pickK ks p) (pickRL rs p) (pickO l p) L [] []) (hok : OkR n.md l.toArray Q := by exact trivial) : TC P Q n w0 (.region id l.toArray true) L HB :=
  fun a w hf hs => wp_mixG hmix ks p rs hks ho hs.drew (h a hf) hok
theorem TG.nil (h : TE Q .normal n w0 L (HB ++ X)) : TG P ops Q n w0 HB [] [] [] L X D := fun a hf w hs => h a w hf hs.st
theorem TG.free (hg : Wants n ops L o) (hi : inside n o.dst = true) (h : ∀ w0, Gets P n w0 o L [] v) (hr : TG P ops Q n w0 HB ks rs rest (put L o.dst v) X D) : TG P ops Q n w0 HB (0 :: ks) (r :: rs) (o :: rest) L X D :=
  fun a hf => .inl ⟨by decide, v, ⟨hg a hf, fun Z w _ _ => .inl (h w a w hf (St.refl w))⟩, hr _ (hf.put o.dst v hi)⟩
theorem TG.gets (hg : Wants n ops L o) (hi : inside n o.dst = true) (h : ∀ Z, Fresh w0 Z → Gets P n w0 o L (HB ++ (X ++ Z)) v) (hr : TG P ops Q n w0 HB ks rs rest (put L o.dst v) X D) : TG P ops Q n w0 HB (1 :: ks) (r :: rs) (o :: rest) L X D :=
  fun a hf => .inl ⟨by decide, v, ⟨hg a hf, fun Z w hZ hS => .inl (by rw [if_neg (by decide)] at hS; exact h Z hZ a w hf hS)⟩, hr _ (hf.put o.dst v hi)⟩
theorem TG.call0 {f : FuncId} {xs : List Operand} {ts : Array TypeId} {vs : List Value} (hg : Wants n ops L o) (hi : inside n o.dst = true) (h : Enters P f)
    (ho : o.op = .call { callee := .value (.func f), args := xs.toArray, argTypes := ts }) (hx : evs L xs = some vs)
    (hc : ∀ Z w, Fresh w0 Z → St w0 (HB ++ (X ++ Z)) w → Calls P f vs.toArray w fun e w' => e = .returned v ∧ St w [] w')
    (hr : TG P ops Q n w0 HB ks rs rest (put L o.dst v) X D) : TG P ops Q n w0 HB (1 :: ks) (r :: rs) (o :: rest) L X D :=
  fun a hf => .inl ⟨by decide, v, ⟨hg a hf, fun Z w hZ hS => .inr (by rw [if_neg (by decide)] at hS; exact ⟨f, vs.toArray, run_enter h ho hf hx, hc Z w hZ hS⟩)⟩, hr _ (hf.put o.dst v hi)⟩
theorem TG.call6 {ι : Type} {f : FuncId} {xs : List Operand} {ts : Array TypeId} {vs : List Value} {V : ι → Value} {R : ι → Prop} {E : ι → List Ent} (hg : Wants n ops L o) (hi : inside n o.dst = true) (h : Enters P f)
    (ho : o.op = .call { callee := .value (.func f), args := xs.toArray, argTypes := ts }) (hx : evs L xs = some vs)
    (hc : ∀ Z w, Fresh w0 Z → St w0 (HB ++ (X ++ Z)) w → Calls P f vs.toArray w fun e w' => ∃ i, e = .returned (V i) ∧ R i ∧ Fresh w (E i) ∧ St w (E i) w')
    (hr : ∀ i, R i → Fresh w0 (E i) → TG P ops Q n w0 HB ks rs rest (put L o.dst (V i)) (X ++ E i) D) : TG P ops Q n w0 HB (6 :: ks) ((fun v e => ∃ i, R i ∧ v = V i ∧ e = E i) :: rs) (o :: rest) L X D :=
  fun a hf => .inr (.inl ⟨.inr rfl, fun Z w hZ hs => ⟨.inr ⟨f, vs.toArray, run_enter h ho hf hx, (hc Z w hZ hs).mono fun e w' ⟨i, he, hR, hE, hs'⟩ => ⟨V i, E i, he, ⟨i, hR, rfl, rfl⟩, hE, hs'⟩⟩, hg a hf⟩,
    fun v e hE ⟨i, hR, h1, h2⟩ => by subst h1; subst h2; exact hr i hR hE _ (hf.put o.dst _ hi)⟩)
/-- A call behind all else, which reads the marked block too. -/
theorem TG.call8 {ι : Type} {f : FuncId} {xs : List Operand} {ts : Array TypeId} {vs : List Value} {V : ι → Value} {R : ι → Prop} {E : ι → List Ent} (hg : Wants n ops L o) (hi : inside n o.dst = true) (h : Enters P f)
    (ho : o.op = .call { callee := .value (.func f), args := xs.toArray, argTypes := ts }) (hx : evs L xs = some vs)
    (hc : ∀ w, StG w0 (HB ++ X) D w → Calls P f vs.toArray w fun e w' => ∃ i, e = .returned (V i) ∧ R i ∧ Fresh w (E i) ∧ St w (E i) w')
    (hr : ∀ i, R i → Fresh w0 (E i) → TG P ops Q n w0 HB ks rs rest (put L o.dst (V i)) (X ++ E i) D) : TG P ops Q n w0 HB (8 :: ks) (r :: rs) (o :: rest) L X D :=
  fun a hf => .inr (.inr (.inr (.inr ⟨rfl, (fun v e => ∃ i, R i ∧ v = V i ∧ e = E i), fun w hs => ⟨.inr ⟨f, vs.toArray, run_enter h ho hf hx, (hc w hs).mono fun e w' ⟨i, he, hR, hE, hs'⟩ => ⟨V i, E i, he, ⟨i, hR, rfl, rfl⟩, hE, hs'⟩⟩, hg a hf⟩,
    fun v e hE ⟨i, hR, h1, h2⟩ => by subst h1; subst h2; exact hr i hR hE _ (hf.put o.dst _ hi)⟩)))
theorem run_buildS {len s : Nat} {ps : List (Nat × Operand)} {vs : List (Nat × Value)} {cells : Array Value} {zv : Value} {a : Act} {w : World} (hf : Fr n L a) (ho : o.op = .buildSlice t len ps.toArray)
    (h1 : P.underlying t = some (.slice e)) (hsz : (P.info? e).map (·.size) = some s) (hz : (P.info? e).bind (·.zero) = some zv) (hv : operVals L ps = some vs) (hlen : len * s ≤ 2 ^ 24) (hpos : (len * s = 0) = False)
    (hfill : Instr.fill (fun i => some (i * s, s)) ((Array.range (len * s)).map (zv.cells[· % zv.cells.size]!)) vs = some cells) :
    (execOp a.eval o).run P w = .ok (.value (.slice (some ⟨w.heap.size, 0, none⟩) len len)) (w.alloc (.cells cells e)) := by
  have hm := operVals_eval hf hv
  have hm2 : (ps.map fun (x : Nat × Operand) => match x with | (i, x) => (i, a.eval x)) = vs := hm
  simp only [execOp, ho]
  refine run_value ?_
  simp only [Instr.buildSlice, Sem.run_bind, run_under h1, Result.andThen_ok, run_size hsz, List.map_toArray, hm2]
  rw [if_neg (by omega), if_neg (by simp [hpos])]
  simp only [Sem.run_bind, run_zero hz, Result.andThen_ok, Sem.run_pure, hfill]
  simp [newRow, newObj, Sem.run_bind, Sem.run]
theorem TG.buildSlice {len s : Nat} {ps : List (Nat × Operand)} {vs : List (Nat × Value)} {cells : Array Value} {cs : List Value} {zv : Value} (hg : Wants n ops L o) (hi : inside n o.dst = true) (ho : o.op = .buildSlice t len ps.toArray)
    (h1 : P.underlying t = some (.slice e)) (hsz : (P.info? e).map (·.size) = some s) (hz : (P.info? e).bind (·.zero) = some zv) (hv : operVals L ps = some vs) (hlen : len * s ≤ 2 ^ 24) (hpos : (len * s = 0) = False)
    {tot : Nat} (hfill : Instr.fill (fun i => some (i * s, s)) ((Array.range (len * s)).map (zv.cells[· % zv.cells.size]!)) vs = some cells) (hcs : cells.toList = cs) (htot : cs.length = tot)
    (hr : ∀ g, w0.heap.size ≤ g → TG P ops Q n w0 HB ks rs rest (put L o.dst (.slice (some ⟨g, 0, none⟩) len len)) (X ++ [⟨g, e, cs, tot⟩]) D) :
    TG P ops Q n w0 HB (3 :: ks) ((fun v d => ∃ g, v = .slice (some ⟨g, 0, none⟩) len len ∧ d = [⟨g, e, cs, tot⟩]) :: rs) (o :: rest) L X D :=
  fun a hf => .inr (.inl ⟨.inl rfl, fun Z w hZ hs => by
    have hrun := run_buildS (w := w) hf ho h1 hsz hz hv hlen hpos hfill
    subst htot
    exact ⟨.inl ⟨_, _, _, hrun, ⟨_, rfl, rfl⟩, fresh_one (Nat.le_refl _), (St.refl w).alloc e cs cells hcs⟩, hg a hf⟩,
    fun v d hE ⟨g, h2, h3⟩ => by subst h2; subst h3; exact hr g (fresh_head hE) _ (hf.put o.dst _ hi)⟩)
theorem TG.build8 {len s : Nat} {ps : List (Nat × Operand)} {vs : List (Nat × Value)} {cells : Array Value} {cs : List Value} {zv : Value} (hg : Wants n ops L o) (hi : inside n o.dst = true) (ho : o.op = .buildSlice t len ps.toArray)
    (h1 : P.underlying t = some (.slice e)) (hsz : (P.info? e).map (·.size) = some s) (hz : (P.info? e).bind (·.zero) = some zv) (hv : operVals L ps = some vs) (hlen : len * s ≤ 2 ^ 24) (hpos : (len * s = 0) = False)
    {tot : Nat} (hfill : Instr.fill (fun i => some (i * s, s)) ((Array.range (len * s)).map (zv.cells[· % zv.cells.size]!)) vs = some cells) (hcs : cells.toList = cs) (htot : cs.length = tot)
    (hr : ∀ g, w0.heap.size ≤ g → TG P ops Q n w0 HB ks rs rest (put L o.dst (.slice (some ⟨g, 0, none⟩) len len)) (X ++ [⟨g, e, cs, tot⟩]) D) : TG P ops Q n w0 HB (8 :: ks) (r :: rs) (o :: rest) L X D :=
  fun a hf => .inr (.inr (.inr (.inr ⟨rfl, (fun v d => ∃ g, v = .slice (some ⟨g, 0, none⟩) len len ∧ d = [⟨g, e, cs, tot⟩]), fun w hs => by
    have hrun := run_buildS (w := w) hf ho h1 hsz hz hv hlen hpos hfill
    subst htot
    exact ⟨.inl ⟨_, _, _, hrun, ⟨_, rfl, rfl⟩, fresh_one (Nat.le_refl _), (St.refl w).alloc e cs cells hcs⟩, hg a hf⟩,
    fun v d hE ⟨g, h2, h3⟩ => by subst h2; subst h3; exact hr g (fresh_head hE) _ (hf.put o.dst _ hi)⟩)))
/-- A constant text's bytes, made anew. -/
theorem TG.buildG {len s : Nat} {ps : List (Nat × Operand)} {vs : List (Nat × Value)} {cells : Array Value} {cs : List Value} {zv : Value} (hg : Wants n ops L o) (hi : inside n o.dst = true) (ho : o.op = .buildSlice t len ps.toArray)
    (h1 : P.underlying t = some (.slice e)) (hsz : (P.info? e).map (·.size) = some s) (hz : (P.info? e).bind (·.zero) = some zv) (hv : operVals L ps = some vs) (hlen : len * s ≤ 2 ^ 24) (hpos : (len * s = 0) = False)
    (hfill : Instr.fill (fun i => some (i * s, s)) ((Array.range (len * s)).map (zv.cells[· % zv.cells.size]!)) vs = some cells) (hcs : cells = cs.toArray)
    (hr : ∀ g, w0.heap.size ≤ g → TG P ops Q n w0 HB ks rs rest (put L o.dst (.slice (some ⟨g, 0, none⟩) len len)) X (⟨g, e, cs, (0, 0)⟩ :: D)) : TG P ops Q n w0 HB (5 :: ks) (r :: rs) (o :: rest) L X D :=
  fun a hf => .inr (.inr (.inl ⟨rfl, fun v d => ∃ g, v = .slice (some ⟨g, 0, none⟩) len len ∧ d = ⟨g, e, cs, (0, 0)⟩, fun w => by
    have hrun := run_buildS (w := w) hf ho h1 hsz hz hv hlen hpos hfill
    subst hcs
    refine ⟨⟨_, ⟨w.heap.size, e, cs, (0, 0)⟩, _, hrun, ⟨_, rfl, rfl⟩, Nat.le_refl _, heap_alloc_new w _, ?_⟩, hg a hf⟩
    exact ((St.refl w).alloc e cs cs.toArray (by simp)).drop (Nat.le_refl _),
    fun v d hd ⟨g, h2, h3⟩ => by subst h2; subst h3; exact hr g hd _ (hf.put o.dst _ hi)⟩))
theorem st_free {H : List Ent} {w : World} {g k : Nat} (h : St w0 H w) (hg : w0.heap.size ≤ g) (hne : ∀ e ∈ H, e.g ≠ g) : St w0 H (w.freeze ⟨g, k, none⟩ 1) := by
  have hother : ∀ b, b ≠ g → (w.freeze ⟨g, k, none⟩ 1).heap[b]? = w.heap[b]? := by
    intro b hb
    unfold World.freeze
    rw [if_neg (by omega)]
    simp [Array.getElem?_modify, hb.symm]
  have hsize : (w.freeze ⟨g, k, none⟩ 1).heap.size = w.heap.size := by
    unfold World.freeze
    rw [if_neg (by omega)]
    simp
  exact ⟨by unfold World.freeze; rw [if_neg (by omega)]; exact h.os, by unfold World.freeze; rw [if_neg (by omega)]; exact h.tape, by unfold World.freeze; rw [if_neg (by omega)]; exact h.output, by rw [hsize]; exact h.size,
    fun c hc => (h.has c hc).of_block (hother _ (hne c hc)), fun b hb hne' => (hother b (by omega)).trans (h.old b hb hne'), h.apart⟩
/-- The text is marked. -/
theorem TG.mark {g ln cp : Nat} {cs : List Value} (hg : Wants n ops L o) (hi' : inside n o.dst = true) (ho : o.op = .convert t t x) (h1 : P.underlying t = some (.slice e)) (h2 : P.underlying e = some (.int .u8))
    (hx : ev L x = some (.slice (some ⟨g, 0, none⟩) ln cp))
    (hr : TG P ops Q n w0 HB ks rs rest (put L o.dst (.slice (some ⟨g, 0, none⟩) ln cp)) X [⟨g, e, cs, (cs.length, cs.length + 1)⟩]) : TG P ops Q n w0 HB (4 :: ks) (r :: rs) (o :: rest) L X [⟨g, e, cs, (0, 0)⟩] :=
  fun a hf => .inr (.inr (.inr (.inl ⟨rfl, _, [⟨g, e, cs, (cs.length, cs.length + 1)⟩], ⟨fun w H hs => by
    obtain ⟨hl, h3, h4⟩ := hs.ds _ (List.mem_singleton.2 rfl)
    have hc1 : w.heap[g]? = some (.cells cs.toArray e (0, 0)) := hl
    have hsh : w.shape? g = some (e, cs.length) := by simp [World.shape?, hc1]
    refine ⟨w.freeze ⟨g, cs.length, none⟩ 1, ?_, st_free hs.st h3 h4, fun d hd => ?_⟩
    · simp only [execOp, ho, hf.eval hx]
      refine run_value ?_
      simp [convert, Sem.run_bind, run_under h1, run_under h2, markStringish, shape, Sem.run, hsh, freeze]
    · rw [List.mem_singleton.1 hd]
      exact ⟨frozen_mark hc1, h3, h4⟩, hg a hf⟩, hr _ (hf.put o.dst _ hi')⟩)))
theorem GEnt.src {d : GEnt} {w : World} {W : List Int} {m : Nat} (h : d.lies w) (hc : d.cs = W.map (Value.int kd)) (hm : W.length = m) : Src w (some ⟨d.g, 0, none⟩) m kd W := by
  refine ⟨hm, .inr ⟨d.g, 0, rfl, h.lt, fun j hj => ?_⟩⟩
  have h2 : w.heap[d.g]? = some (.cells d.cs.toArray d.t d.fl) := h
  rw [hc] at h2
  have h3 : (W.map (Value.int kd))[j]? = some (.int kd (W.getD j 0)) := ints_get (by omega)
  simp [World.cell?, h2] at h3 ⊢
  exact h3
end
theorem St.madeB {w0 w w' : World} {HB H : List Ent} {e : Ent} (hs : St w0 (HB ++ H) w) (hw : St w [e] w') (hE : w.heap.size ≤ e.g) : St w0 (HB ++ e :: H) w' := (hs.made hw hE).perm List.perm_middle.symm
theorem seg_store {A B C V : List Value} {a : Nat} (ha : A.length = a) (hb : B.length = V.length) : (A ++ (B ++ C)).take a ++ V ++ (A ++ (B ++ C)).drop (a + V.length) = A ++ (V ++ C) := by
  subst ha
  rw [List.take_left, ← hb, ← List.drop_drop, List.drop_left, List.drop_left, List.append_assoc]
theorem seg_store2 {A0 A B C V : List Value} {a : Nat} (ha : A0.length + A.length = a) (hb : B.length = V.length) : (A0 ++ (A ++ (B ++ C))).take a ++ V ++ (A0 ++ (A ++ (B ++ C))).drop (a + V.length) = A0 ++ (A ++ (V ++ C)) := by
  have := seg_store (A := A0 ++ A) (B := B) (C := C) (V := V) (a := a) (by rw [List.length_append]; exact ha) hb
  simpa only [List.append_assoc] using this
/-! ### Bytes appended part by part -/
structure PV where
  A : Option Addr
  m : Nat
  c : Nat
  B : List Int
def catP (Vs : List PV) : List Int := Vs.flatMap (·.B)
/-- Bytes that lie as they are in every world in which the blocks H do. -/
def Reads (w0 : World) (H : List Ent) (A : Option Addr) (m : Nat) (B : List Int) : Prop := ∀ w Hx, Fresh w0 Hx → St w0 (H ++ Hx) w → Src w A m .u8 B
def PartsF (w0 : World) (H : List Ent) (A : Option Addr) (m : Nat) (Vs : List PV) : Prop :=
  Vs.length = m ∧ (m = 0 ∨ ∃ b off, A = some ⟨b, off, none⟩ ∧ ∀ w Hx, Fresh w0 Hx → St w0 (H ++ Hx) w → ∀ (i : Nat) (x : PV), Vs[i]? = some x → w.cell? ⟨b, off + i, none⟩ = some (.slice x.A x.m x.c)) ∧
    ∀ (i : Nat) (x : PV), Vs[i]? = some x → x.B.length = x.m ∧ Reads w0 H x.A x.m x.B
theorem catP_take {Vs : List PV} {i : Nat} {x : PV} (h : Vs[i]? = some x) : catP (Vs.take (i + 1)) = catP (Vs.take i) ++ x.B := by
  obtain ⟨hi, rfl⟩ := List.getElem?_eq_some_iff.1 h
  unfold catP
  rw [List.take_succ_eq_append_getElem hi, List.flatMap_append]; simp
theorem catP_le {Vs : List PV} {i : Nat} : (catP (Vs.take i)).length ≤ (catP Vs).length := by
  have h : catP Vs = catP (Vs.take i) ++ catP (Vs.drop i) := by unfold catP; rw [← List.flatMap_append, List.take_append_drop]
  rw [h, List.length_append]; omega
theorem PartsF.some_ {w0 : World} {H : List Ent} {A : Option Addr} {m i : Nat} {Vs : List PV} (h : PartsF w0 H A m Vs) (hi : i < m) : ∃ b off, A = some ⟨b, off, none⟩ ∧ ∀ w Hx, Fresh w0 Hx → St w0 (H ++ Hx) w → ∀ (i : Nat) (x : PV), Vs[i]? = some x → w.cell? ⟨b, off + i, none⟩ = some (.slice x.A x.m x.c) := h.2.1.resolve_left (by omega)
theorem PartsF.get {w0 : World} {H : List Ent} {A : Option Addr} {m i : Nat} {Vs : List PV} (h : PartsF w0 H A m Vs) (hi : i < m) : ∃ x, Vs[i]? = some x := ⟨_, List.getElem?_eq_getElem (by rw [h.1]; exact hi)⟩
theorem Src.reads {w0 : World} {H : List Ent} {A : Option Addr} {m : Nat} {B : List Int} (h : Src w0 A m .u8 B) (hH : Fresh w0 H) : Reads w0 H A m B := fun w Hx hx hs =>
  h.at_ hs fun b hb e he => (hH.app hx).ne hb e he
theorem Reads.more {w0 : World} {H E : List Ent} {A : Option Addr} {m : Nat} {B : List Int} (h : Reads w0 H A m B) (hE : Fresh w0 E) : Reads w0 (E ++ H) A m B := fun w Hx hx hs =>
  h w (E ++ Hx) (hE.app hx) (hs.perm (by rw [List.append_assoc]; exact (List.perm_append_comm_assoc E H Hx)))
theorem reads_ent {w0 : World} {H : List Ent} {e : Ent} {W : List Int} {m : Nat} (he : e ∈ H) (hc : e.cs = W.map (Value.int .u8)) (hm : W.length = m) : Reads w0 H (some ⟨e.g, 0, none⟩) m W := fun w Hx hx hs => by
  have hl := hs.has e (List.mem_append.2 (.inl he))
  obtain ⟨g, t, cs, tot⟩ := e
  subst hc
  exact src_ent hl hm
/-- A few parts in a block. -/
theorem parts_ent {w0 : World} {H : List Ent} {e : Ent} {Vs : List PV} {m : Nat} (he : e ∈ H) (hc : e.cs = Vs.map (fun x => Value.slice x.A x.m x.c)) (hm : Vs.length = m) (hv : ∀ x ∈ Vs, x.B.length = x.m ∧ Reads w0 H x.A x.m x.B) : PartsF w0 H (some ⟨e.g, 0, none⟩) m Vs :=
  ⟨hm, .inr ⟨e.g, 0, rfl, fun w Hx hx hs i x hi => by
    have hl := hs.has e (List.mem_append.2 (.inl he))
    refine hl.cell ?_
    rw [hc, Nat.zero_add, List.getElem?_map, hi]; rfl⟩, fun i x hi => hv x (List.mem_of_getElem? hi)⟩
/-- A few parts in a block, of a world in which all of them lie. -/
theorem parts_lies {w : World} {e : Ent} {Vs : List PV} {m : Nat} (hl : e.lies w) (hc : e.cs = Vs.map (fun x => Value.slice x.A x.m x.c)) (hm : Vs.length = m) (hv : ∀ x ∈ Vs, x.B.length = x.m ∧ Src w x.A x.m .u8 x.B) : PartsF w [] (some ⟨e.g, 0, none⟩) m Vs :=
  ⟨hm, .inr ⟨e.g, 0, rfl, fun w' Hx hx hs i x hi => by
    have h1 : w.cell? ⟨e.g, i, none⟩ = some (.slice x.A x.m x.c) := hl.cell (by rw [hc, List.getElem?_map, hi]; rfl)
    rw [Nat.zero_add]
    exact (hs.old_cell (ad := ⟨e.g, i, none⟩) hl.lt (hx.ne hl.lt)).trans h1⟩, fun i x hi => ⟨(hv x (List.mem_of_getElem? hi)).1, (hv x (List.mem_of_getElem? hi)).2.reads Fresh.nil⟩⟩
theorem lies_srcF {w : World} {g t tot m : Nat} {cs : List Value} {Fs : List FV} (h : Ent.lies ⟨g, t, cs, tot⟩ w) (hc : cs = flatF Fs) (hm : Fs.length = m) : SrcF w (some ⟨g, 0, none⟩) m Fs := ⟨hm, .inr ⟨g, 0, rfl, h.lt, fun i x hx j u hu => by
  subst hc
  rw [Nat.zero_add]
  exact h.cell (flatF_get hx hu)⟩⟩
end Go.Proofs.Ytclmgfcdnokaiaa
/-
  The code of layer 7: the bytes of numbers, parts and commands.
-/
namespace Go.Proofs.Ytclmgfcdnokaiaa
set_option linter.unusedVariables false
set_option linter.unusedSimpArgs false
open Go Go.RowKit
theorem enters19 : Enters Try.prog 19 := ⟨_, Try.func19, by kernel_rfl, by kernel_rfl⟩
theorem enters20 : Enters Try.prog 20 := ⟨_, Try.func20, by kernel_rfl, by kernel_rfl⟩
theorem enters21 : Enters Try.prog 21 := ⟨_, Try.func21, by kernel_rfl, by kernel_rfl⟩
theorem enters40 : Enters Try.prog 40 := ⟨_, Try.func40, by kernel_rfl, by kernel_rfl⟩
instance : Sli Try.prog 78 28 := ⟨Try.underlying78⟩
set_option maxRecDepth 100000 in
set_option maxHeartbeats 400000 in
theorem length_c (n : Int) (h : 0 ≤ n ∧ n ≤ 4611686018427387903) (w : World) : Calls Try.prog 21 #[.int .i64 n] w fun e w' => e = .returned (.agg ([Value.int .u64 n, Value.int .i64 8]).toArray) ∧ St w [] w' := by
  refine calls_from (args := [.int .i64 n]) Try.func21 rfl Try.ntmps21 (by simp) ?_
  refine TC.pr [0] ?_
  iterate 2 refine gx ?_
  refine TL.al (fun g1 hg1 => ?_)
  iterate 5 refine gx ?_
  refine TL.gets (Wants.none rfl) rfl (Gets.conv rfl Try.underlying3 Try.underlying51 rfl (r := n) (wu64 rfl (by omega))) ?_
  refine TL.gets (Wants.none rfl) rfl (Gets.build rfl (vs := [(0, Value.int .u64 n), (1, Value.int .i64 8)]) rfl (fun w => by first | rfl | kernel_rfl) (v := .agg ([Value.int .u64 n, Value.int .i64 8]).toArray)) ?_
  iterate 4 refine gx ?_
  exact TE.retC rfl agg53 size53 rfl (vs := [Value.int .u64 n, Value.int .i64 8]) rfl (Row.all (i := 0) (ent := ⟨g1, 53, [Value.int .u64 n, Value.int .i64 8], 2⟩) rfl rfl rfl) (fun w hs => ⟨rfl, (hs.drop (by assumption))⟩)

set_option maxRecDepth 100000 in
set_option maxHeartbeats 400000 in
theorem numbers_c (Fs : List FV) (A2 : Option Addr) (m2 c2 : Nat) (w : World) (hsF : SrcF w A2 m2 Fs) (hNF : NumsF Fs) (hmc2 : m2 ≤ c2) (hcm2 : c2 ≤ 9223372036854775807) (hm2 : m2 ≤ 100000) (hf : fitAll Fs) : Calls Try.prog 20 #[.slice A2 m2 c2] w fun e w' => ∃ v He, e = .returned v ∧ Own w.heap.size 5 .u8 v (encF Fs) He ∧ St w He w' := by
  refine calls_from (args := [.slice A2 m2 c2]) Try.func20 rfl Try.ntmps20 (by simp) ?_
  refine TC.pr [0] ?_
  iterate 8 refine gx ?_
  refine TL.call (ι := Value × List Ent) (V := fun yl => .tuple #[yl.1, .bool true]) (R := fun yl => Own w.heap.size 5 .u8 yl.1 (encF Fs) yl.2) (H' := fun yl => [] ++ yl.2) (Wants.none rfl) rfl enters40 rfl rfl (fun w hs => (wapp_yes [] Fs none A2 0 0 m2 c2 w ⟨rfl, .inl rfl⟩ (hsF.at_ hs (fun b hb => ne_nil)) hNF (by omega) (by omega) hmc2 hcm2 (by omega) hm2 hf).mono fun e w' ⟨v, He, he, ho, hw⟩ => ⟨(v, He), he, own_mono ho hs.size, st_call hs hw ho.new⟩) (fun yl hOl => ?_)
  obtain ⟨vl, Hl⟩ := yl
  dsimp only at hOl ⊢
  obtain ⟨Al, cl, hvl, hcl, hdl⟩ := hOl.form
  subst hvl
  iterate 7 refine gx ?_
  refine TC.pr [2, 3] ?_
  iterate 7 refine gx ?_
  exact TE.ret1 rfl rfl (fun w hs => ⟨_, Hl, rfl, hOl, hs⟩)

theorem numbers_o (Fs : List FV) (A2 : Option Addr) (m2 c2 : Nat) (w : World) (hsF : SrcF w A2 m2 Fs) (hNF : NumsF Fs) (hmc2 : m2 ≤ c2) (hcm2 : c2 ≤ 9223372036854775807) (hm2 : m2 ≤ 100000) (hf : fitAll Fs) (h0 : 0 < (encF Fs).length) : Calls Try.prog 20 #[.slice A2 m2 c2] w fun e w' =>
    ∃ y : Nat × Nat, e = .returned (.slice (some ⟨y.1, 0, none⟩) (encF Fs).length y.2) ∧ ((encF Fs).length ≤ y.2 ∧ y.2 ≤ 9223372036854775807) ∧ w.heap.size ≤ (⟨y.1, 5, (encF Fs).map (Value.int .u8), y.2⟩ : Ent).g ∧ St w [⟨y.1, 5, (encF Fs).map (Value.int .u8), y.2⟩] w' :=
  (numbers_c Fs A2 m2 c2 w hsF hNF hmc2 hcm2 hm2 hf).mono fun e w' ⟨v, He, he, ho, hs⟩ => by
    obtain ⟨A', c', rfl, h1, h2⟩ := ho.form
    rcases ho with ⟨h3, h4, _⟩ | ⟨g, c, h3, h4, h5, h6, h7⟩
    · rw [h4] at h0; exact absurd h0 (Nat.lt_irrefl 0)
    · subst h4
      exact ⟨(g, c), by rw [he, h3], ⟨h6, by unfold maxLen at h7; omega⟩, h5, hs⟩
theorem num8 {x : Int} (h : inR x) : NumF ⟨x, 8⟩ := by unfold inR at h; unfold NumF; dsimp only; omega
theorem numsF_of {Fs : List FV} (h : ∀ f ∈ Fs, NumF f) : NumsF Fs := fun i f hf => h f (List.mem_of_getElem? hf)

set_option maxRecDepth 100000 in
set_option maxHeartbeats 2000000 in
theorem add_c (W : List Int) (v0 : Value) (Vs : List PV) (A : Option Addr) (m c : Nat) (H He : List Ent) (w w1 : World) (hown0 : Own w.heap.size 5 .u8 v0 W He) (hs1 : St w (H ++ He) w1) (hP : PartsF w H A m Vs) (hmc : m ≤ c) (hcm : c ≤ 9223372036854775807) (hT : W.length + (catP Vs).length ≤ 1000000) : Calls Try.prog 19 #[v0, .slice A m c] w1 fun e w' => ∃ v' He', e = .returned v' ∧ Own w.heap.size 5 .u8 v' (W ++ catP Vs) He' ∧ St w (H ++ He') w' := by
  refine calls_over (w0 := w) (H := [] ++ H ++ He) (args := [v0, .slice A m c]) Try.func19 rfl Try.ntmps19 (by simp) hs1 ?_
  refine TC.pr [0, 1] ?_
  iterate 14 refine gx ?_
  refine TC.loop (ι := WN) (fun x0 => [(0, x0.v), (7, .slice A m c), (8, .int .i64 (m : Int)), (9, .int .i64 (x0.k : Int))]) (fun x0 => [] ++ H ++ x0.He) (fun x0 => m - x0.k) (fun x0 => Own w.heap.size 5 .u8 x0.v (W ++ catP (Vs.take x0.k)) x0.He ∧ x0.k ≤ m) (⟨0, v0, He⟩ : WN) ⟨by show Own _ _ _ v0 (W ++ []) He; rw [List.append_nil]; exact hown0, Nat.zero_le _⟩ (Sub.cons (i := 0) rfl (Sub.slice (i := 7) rfl rfl (by first | omega | (dsimp only; omega) | rfl) (by first | omega | (dsimp only; omega) | rfl) (Sub.int (i := 8) rfl (by first | omega | rfl) (Sub.int (i := 9) rfl rfl (Sub.nil))))) (fun w h => h) (fun x0 hC0 => ?_)
  obtain ⟨i, v1, H1⟩ := x0
  obtain ⟨hown, hi⟩ := hC0
  dsimp only at hown hi ⊢
  iterate 6 refine gx ?_
  refine TC.split rfl (fun hq0 => ?_) (fun hq0 => ?_)
  · obtain ⟨b, off, hAe, hcell⟩ := hP.some_ (i := i) (by omega)
    subst hAe
    obtain ⟨x, hx⟩ := hP.get (i := i) (by omega)
    obtain ⟨hxl, hxr⟩ := hP.2.2 i x hx
    have hct := catP_take hx
    have hcl := catP_le (Vs := Vs) (i := i + 1)
    rw [hct, List.length_append] at hcl
    have hFr : Fresh w H1 := hown.new
    iterate 6 refine gx ?_
    refine TL.gets (Wants.none rfl) rfl (Gets.idxSlice rfl Try.underlying78 size28 rfl rfl (i := i) (by omega) (by omega) (off' := (off + i)) (by omega)) ?_
    refine TL.gets (Wants.none rfl) rfl (Gets.load1 rfl agg28 rfl ((fun w hs => hcell w H1 hFr hs i x hx))) ?_
    iterate 6 refine gx ?_
    refine TL.appendOwn (H := [] ++ H) (He := H1) (Wants.none rfl) rfl rfl Try.underlying28 mk5 rfl rfl rfl (W := W ++ catP (Vs.take i)) (B := x.B) hown (fun w hs => hxr w H1 hFr hs) (by rw [List.length_append]; omega) (by rw [List.length_append]; omega) (fun vo Ho ho hne => ?_)
    iterate 4 refine gx ?_
    refine TC.pr [0, 7, 8, 9] ?_
    refine gx ?_
    refine TL.gets (Wants.none rfl) rfl (Gets.add rfl rfl rfl (r := ((i : Int) + 1)) (w64 (by omega) (by omega))) ?_
    iterate 2 refine gx ?_
    exact TE.back (⟨i + 1, vo, Ho⟩ : WN) (by show m - (i + 1) < m - i; omega) ⟨by show Own _ _ _ vo (W ++ catP (Vs.take (i + 1))) Ho; rw [hct, ← List.append_assoc]; exact ho, by show i + 1 ≤ m; omega⟩ (Sub.cons (i := 0) rfl (Sub.slice (i := 7) rfl (by first | rfl | (congr 2; omega)) (by first | omega | (dsimp only; omega) | rfl) (by first | omega | (dsimp only; omega) | rfl) (Sub.int (i := 8) rfl (by first | omega | rfl) (Sub.int (i := 9) rfl (by show (i : Int) + 1 = ((i + 1 : Nat) : Int); omega) (Sub.nil))))) (fun w h => h)
  · obtain rfl : m = i := by omega
    rw [List.take_of_length_le (by have := hP.1; omega)] at hown
    iterate 12 refine gx ?_
    exact TE.ret1 rfl rfl (fun w hs => ⟨_, H1, rfl, hown, hs⟩)

theorem encC_copy {x : CV} (h : x.k = 1) : encC (cmC x) = encF [⟨x.k, 1⟩, ⟨x.t, 8⟩, ⟨x.f, 8⟩, ⟨x.l, 8⟩] := by
  unfold encC
  show beV x.k 1 ++ (beV x.t 8 ++ (if x.k = 1 then beV x.f 8 ++ beV x.l 8 else beV (x.B.length : Int) 8 ++ x.B)) = _
  rw [if_pos h]; simp [encF]
theorem encC_lit {x : CV} (h : ¬ x.k = 1) : encC (cmC x) = encF [⟨x.k, 1⟩, ⟨x.t, 8⟩, ⟨(x.B.length : Int), 8⟩] ++ x.B := by
  unfold encC
  show beV x.k 1 ++ (beV x.t 8 ++ (if x.k = 1 then beV x.f 8 ++ beV x.l 8 else beV (x.B.length : Int) 8 ++ x.B)) = _
  rw [if_neg h]; simp [encF]
theorem encC_room {x : CV} (hv : okV x) (hm : x.B.length = x.m) : x.B.length ≤ (encC (cmC x)).length := by
  by_cases h : x.k = 1
  · have h2 : ¬ 0 < x.m := fun h2 => hv.2.2.2.1 ⟨h, h2⟩
    omega
  · rw [encC_lit h, List.length_append]; omega
theorem fit1 {x : Int} (h : x = 1 ∨ x = 2) : fitV x 1 := by rcases h with rfl | rfl <;> exact ⟨by decide, by decide, .inr (by decide +kernel)⟩
theorem fit8' (x : Int) : fitV x 8 := ⟨by decide, by decide, .inl rfl⟩
theorem num1 {x : Int} (h : x = 1 ∨ x = 2) : NumF ⟨x, 1⟩ := by unfold NumF; dsimp only; omega
theorem encF_4 (a b c d : Int) : (encF [⟨a, 1⟩, ⟨b, 8⟩, ⟨c, 8⟩, ⟨d, 8⟩]).length = 25 := by simp [encF, beV_len]
theorem encF_3 (a b c : Int) : (encF [⟨a, 1⟩, ⟨b, 8⟩, ⟨c, 8⟩]).length = 17 := by simp [encF, beV_len]
theorem encF_2 (a b : Int) : (encF [⟨a, 8⟩, ⟨b, 8⟩]).length = 16 := by simp [encF, beV_len]
theorem encF_14 (a : Int) : (encF [⟨a, 4⟩]).length = 4 := by simp [encF, beV_len]

set_option maxRecDepth 100000 in
set_option maxHeartbeats 2000000 in
theorem addc_c (W : List Int) (v0 : Value) (x : CV) (H He : List Ent) (w w1 : World) (hown0 : Own w.heap.size 5 .u8 v0 W He) (hs1 : St w (H ++ He) w1) (hk : okK x) (hv : okV x) (hxm : x.B.length = x.m) (hxc : x.m ≤ x.c ∧ x.c ≤ 9223372036854775807) (hr : Reads w H x.A x.m x.B) (hT : W.length + (encC (cmC x)).length ≤ 1000000) : Calls Try.prog 22 #[v0, .agg ([Value.int .i64 x.k, Value.int .i64 x.t, Value.int .i64 x.f, Value.int .i64 x.l, Value.slice x.A x.m x.c]).toArray] w1 fun e w' => ∃ v' He', e = .returned v' ∧ Own w.heap.size 5 .u8 v' (W ++ encC (cmC x)) He' ∧ St w (H ++ He') w' := by
  have hk2 := hk
  unfold okK at hk2
  have hv2 := hv
  unfold okV inR at hv2
  have hbl := encC_room hv hxm
  refine calls_over (w0 := w) (H := [] ++ H ++ He) (args := [v0, .agg ([Value.int .i64 x.k, Value.int .i64 x.t, Value.int .i64 x.f, Value.int .i64 x.l, Value.slice x.A x.m x.c]).toArray]) Try.func22 rfl Try.ntmps22 (by simp) hs1 ?_
  refine TC.pr [0, 1] ?_
  iterate 2 refine gx ?_
  refine TL.bxA (fun g1 hg1 => ?_)
  iterate 7 refine gx ?_
  refine TL.gets (Wants.none rfl) rfl (Gets.conv rfl Try.underlying3 Try.underlying51 rfl (r := x.k) (wu64 rfl (by omega))) ?_
  refine TL.gets (Wants.none rfl) rfl (Gets.build rfl (vs := [(0, Value.int .u64 x.k), (1, Value.int .i64 1)]) rfl (fun w => by first | rfl | kernel_rfl) (v := .agg ([Value.int .u64 x.k, Value.int .i64 1]).toArray)) ?_
  refine TL.al (fun g2 hg2 => ?_)
  refine TL.storeW (Wants.none rfl) rfl rfl size53 rfl (vs := [Value.int .u64 x.k, Value.int .i64 1]) rfl (by simp []) (by simp [Value.oneCell']) (i := 0) (ent := ⟨g2, 53, [Value.int .u64 0, Value.int .i64 0], 2⟩) rfl rfl (by simp []) (H' := [⟨g2, 53, [Value.int .u64 x.k, Value.int .i64 1], 2⟩, ⟨g1, 47, [Value.int .i64 x.k, Value.int .i64 x.t, Value.int .i64 x.f, Value.int .i64 x.l, Value.slice x.A x.m x.c], 5⟩] ++ H ++ He) rfl ?_
  iterate 2 refine gx ?_
  refine TC.pr [0, 3, 4, 5] ?_
  iterate 8 refine gx ?_
  refine TC.split rfl (fun h0 => ?_) (fun h0 => ?_)
  · refine gx ?_
    refine TC.heap (H' := [⟨g2, 53, [Value.int .u64 x.k, Value.int .i64 1], 2⟩, ⟨g1, 47, [Value.int .i64 x.k, Value.int .i64 x.t, Value.int .i64 x.f, Value.int .i64 x.l, Value.slice x.A x.m x.c], 5⟩] ++ ([] ++ H ++ He)) (fun w h => h) ?_
    refine TC.mixB (HB := [Ent.mk g2 53 ([Value.int .u64 x.k, Value.int .i64 1]) 2, Ent.mk g1 47 ([Value.int .i64 x.k, Value.int .i64 x.t, Value.int .i64 x.f, Value.int .i64 x.l, Value.slice x.A x.m x.c]) 5]) (H := [] ++ H ++ He) (by kernel_rfl) [0, 0, 0, 0, 3, 0, 0, 3, 0, 0, 3, 3, 3, 3, 3, 0] [0, 1, 2, 3, 5, 6, 8, 9, 4, 7, 10, 11, 12, 13, 14, 15] (by kernel_rfl) ?_
    refine TP.free (Wants.none rfl) rfl (fun _ => Gets.move rfl rfl) ?_
    refine TP.stay (Wants.none rfl) rfl (fun H' => Gets.loadN rfl agg53 size53 rfl (vs := [Value.int .u64 x.k, Value.int .i64 1]) (by simp []) (Row.all (i := 0) (ent := ⟨g2, 53, [Value.int .u64 x.k, Value.int .i64 1], 2⟩) rfl rfl rfl)) ?_
    refine TP.free (Wants.none rfl) rfl (fun _ => Gets.fieldAddr rfl Try.underlying47 rfl size3 rfl (off' := 1) (by first | rfl | omega)) ?_
    refine TP.stay (Wants.none rfl) rfl (fun H' => Gets.load1 rfl agg3 rfl (At.ent (i := 1) (ent := ⟨g1, 47, [Value.int .i64 x.k, Value.int .i64 x.t, Value.int .i64 x.f, Value.int .i64 x.l, Value.slice x.A x.m x.c], 5⟩) (off := 1) rfl rfl (by exact rfl))) ?_
    refine TP.free (Wants.none rfl) rfl (fun _ => Gets.fieldAddr rfl Try.underlying47 rfl size3 rfl (off' := 2) (by first | rfl | omega)) ?_
    refine TP.stay (Wants.none rfl) rfl (fun H' => Gets.load1 rfl agg3 rfl (At.ent (i := 1) (ent := ⟨g1, 47, [Value.int .i64 x.k, Value.int .i64 x.t, Value.int .i64 x.f, Value.int .i64 x.l, Value.slice x.A x.m x.c], 5⟩) (off := 2) rfl rfl (by exact rfl))) ?_
    refine TP.free (Wants.none rfl) rfl (fun _ => Gets.fieldAddr rfl Try.underlying47 rfl size3 rfl (off' := 3) (by first | rfl | omega)) ?_
    refine TP.stay (Wants.none rfl) rfl (fun H' => Gets.load1 rfl agg3 rfl (At.ent (i := 1) (ent := ⟨g1, 47, [Value.int .i64 x.k, Value.int .i64 x.t, Value.int .i64 x.f, Value.int .i64 x.l, Value.slice x.A x.m x.c], 5⟩) (off := 3) rfl rfl (by exact rfl))) ?_
    refine TP.call0 (Wants.none rfl) rfl enters21 rfl rfl (v := .agg ([Value.int .u64 x.t, Value.int .i64 8]).toArray) (fun w hs => length_c x.t (by omega) w) ?_
    refine TP.call0 (Wants.none rfl) rfl enters21 rfl rfl (v := .agg ([Value.int .u64 x.f, Value.int .i64 8]).toArray) (fun w hs => length_c x.f (by omega) w) ?_
    refine TP.call0 (Wants.none rfl) rfl enters21 rfl rfl (v := .agg ([Value.int .u64 x.l, Value.int .i64 8]).toArray) (fun w hs => length_c x.l (by omega) w) ?_
    refine TP.buildSlice (Wants.none rfl) rfl rfl Try.underlying79 size53 zero53 rfl (by decide) (by decide) (cells := #[.int .u64 x.k, .int .i64 1, .int .u64 x.t, .int .i64 8, .int .u64 x.f, .int .i64 8, .int .u64 x.l, .int .i64 8]) (tot := 8) (by kernel_rfl) (cs := [.int .u64 x.k, .int .i64 1, .int .u64 x.t, .int .i64 8, .int .u64 x.f, .int .i64 8, .int .u64 x.l, .int .i64 8]) rfl rfl (fun g3 hg3 => ?_)
    refine TP.call (ι := Nat × Nat) (V := fun y25 => .slice (some ⟨y25.1, 0, none⟩) (((encF [⟨x.k, 1⟩, ⟨x.t, 8⟩, ⟨x.f, 8⟩, ⟨x.l, 8⟩]).length)) y25.2) (R := fun y25 => ((encF [⟨x.k, 1⟩, ⟨x.t, 8⟩, ⟨x.f, 8⟩, ⟨x.l, 8⟩]).length ≤ y25.2 ∧ y25.2 ≤ 9223372036854775807) ∧ w.heap.size ≤ (⟨y25.1, 5, (encF [⟨x.k, 1⟩, ⟨x.t, 8⟩, ⟨x.f, 8⟩, ⟨x.l, 8⟩]).map (Value.int .u8), y25.2⟩ : Ent).g) (H' := fun y25 => [⟨y25.1, 5, (encF [⟨x.k, 1⟩, ⟨x.t, 8⟩, ⟨x.f, 8⟩, ⟨x.l, 8⟩]).map (Value.int .u8), y25.2⟩, ⟨g3, 53, [Value.int .u64 x.k, Value.int .i64 1, Value.int .u64 x.t, Value.int .i64 8, Value.int .u64 x.f, Value.int .i64 8, Value.int .u64 x.l, Value.int .i64 8], 8⟩] ++ H ++ He) (Wants.none rfl) rfl enters20 rfl rfl (fun w hs => (show Calls Try.prog 20 #[.slice (some ⟨g3, 0, none⟩) 4 4] w (fun e w' => ∃ y25 : Nat × Nat, e = .returned (.slice (some ⟨y25.1, 0, none⟩) (((encF [⟨x.k, 1⟩, ⟨x.t, 8⟩, ⟨x.f, 8⟩, ⟨x.l, 8⟩]).length)) y25.2) ∧ ((encF [⟨x.k, 1⟩, ⟨x.t, 8⟩, ⟨x.f, 8⟩, ⟨x.l, 8⟩]).length ≤ y25.2 ∧ y25.2 ≤ 9223372036854775807) ∧ w.heap.size ≤ (⟨y25.1, 5, (encF [⟨x.k, 1⟩, ⟨x.t, 8⟩, ⟨x.f, 8⟩, ⟨x.l, 8⟩]).map (Value.int .u8), y25.2⟩ : Ent).g ∧ St w [⟨y25.1, 5, (encF [⟨x.k, 1⟩, ⟨x.t, 8⟩, ⟨x.f, 8⟩, ⟨x.l, 8⟩]).map (Value.int .u8), y25.2⟩] w') from numbers_o [⟨x.k, 1⟩, ⟨x.t, 8⟩, ⟨x.f, 8⟩, ⟨x.l, 8⟩] (some ⟨g3, 0, none⟩) 4 4 w (lies_srcF (Fs := [⟨x.k, 1⟩, ⟨x.t, 8⟩, ⟨x.f, 8⟩, ⟨x.l, 8⟩]) (hs.has (⟨g3, 53, [Value.int .u64 x.k, Value.int .i64 1, Value.int .u64 x.t, Value.int .i64 8, Value.int .u64 x.f, Value.int .i64 8, Value.int .u64 x.l, Value.int .i64 8], 8⟩) (by simp)) rfl rfl) (numsF_of (by simp only [List.mem_cons, List.not_mem_nil, or_false, forall_eq_or_imp, forall_eq]; exact ⟨num1 hk, num8 hv.1, num8 hv.2.1, num8 hv.2.2.1⟩)) (by omega) (by omega) (by omega) (by unfold fitAll; simp only [List.mem_cons, List.not_mem_nil, or_false, forall_eq_or_imp, forall_eq]; exact ⟨fit1 hk, fit8' _, fit8' _, fit8' _⟩) (by rw [encF_4]; omega)).mono fun e w' ⟨x, he, hR, hE, hw⟩ => ⟨x, he, ⟨hR, Nat.le_trans hs.size hE⟩, St.madeB hs hw hE⟩) (fun y25 ⟨hn25, hgn25⟩ => ?_)
    obtain ⟨gn25, c25⟩ := y25
    dsimp only at hn25 hgn25 ⊢
    refine TP.buildSlice (Wants.none rfl) rfl rfl Try.underlying78 size28 zero28 rfl (by decide) (by decide) (cells := #[.slice (some ⟨gn25, 0, none⟩) (((encF [⟨x.k, 1⟩, ⟨x.t, 8⟩, ⟨x.f, 8⟩, ⟨x.l, 8⟩]).length)) c25]) (tot := 1) (by kernel_rfl) (cs := [.slice (some ⟨gn25, 0, none⟩) (((encF [⟨x.k, 1⟩, ⟨x.t, 8⟩, ⟨x.f, 8⟩, ⟨x.l, 8⟩]).length)) c25]) rfl rfl (fun g4 hg4 => ?_)
    have hcat : catP [⟨(some ⟨gn25, 0, none⟩), (((encF [⟨x.k, 1⟩, ⟨x.t, 8⟩, ⟨x.f, 8⟩, ⟨x.l, 8⟩]).length)), c25, encF [⟨x.k, 1⟩, ⟨x.t, 8⟩, ⟨x.f, 8⟩, ⟨x.l, 8⟩]⟩] = encC (cmC x) := by rw [encC_copy h0]; simp [catP]
    refine TP.call (ι := Value × List Ent) (V := fun y => y.1) (R := fun y => Own w.heap.size 5 .u8 y.1 (W ++ encC (cmC x)) y.2) (H' := fun y => [⟨g4, 28, [Value.slice (some ⟨gn25, 0, none⟩) (((encF [⟨x.k, 1⟩, ⟨x.t, 8⟩, ⟨x.f, 8⟩, ⟨x.l, 8⟩]).length)) c25], 1⟩, ⟨gn25, 5, (encF [⟨x.k, 1⟩, ⟨x.t, 8⟩, ⟨x.f, 8⟩, ⟨x.l, 8⟩]).map (Value.int .u8), c25⟩, ⟨g3, 53, [Value.int .u64 x.k, Value.int .i64 1, Value.int .u64 x.t, Value.int .i64 8, Value.int .u64 x.f, Value.int .i64 8, Value.int .u64 x.l, Value.int .i64 8], 8⟩] ++ H ++ y.2) (Wants.none rfl) rfl enters19 rfl rfl (fun w' hs => (add_c W v0 [⟨(some ⟨gn25, 0, none⟩), (((encF [⟨x.k, 1⟩, ⟨x.t, 8⟩, ⟨x.f, 8⟩, ⟨x.l, 8⟩]).length)), c25, encF [⟨x.k, 1⟩, ⟨x.t, 8⟩, ⟨x.f, 8⟩, ⟨x.l, 8⟩]⟩] (some ⟨g4, 0, none⟩) 1 1 ([⟨g2, 53, [Value.int .u64 x.k, Value.int .i64 1], 2⟩, ⟨g1, 47, [Value.int .i64 x.k, Value.int .i64 x.t, Value.int .i64 x.f, Value.int .i64 x.l, Value.slice x.A x.m x.c], 5⟩, ⟨g4, 28, [Value.slice (some ⟨gn25, 0, none⟩) (((encF [⟨x.k, 1⟩, ⟨x.t, 8⟩, ⟨x.f, 8⟩, ⟨x.l, 8⟩]).length)) c25], 1⟩, ⟨gn25, 5, (encF [⟨x.k, 1⟩, ⟨x.t, 8⟩, ⟨x.f, 8⟩, ⟨x.l, 8⟩]).map (Value.int .u8), c25⟩, ⟨g3, 53, [Value.int .u64 x.k, Value.int .i64 1, Value.int .u64 x.t, Value.int .i64 8, Value.int .u64 x.f, Value.int .i64 8, Value.int .u64 x.l, Value.int .i64 8], 8⟩] ++ H) He w w' hown0 hs (parts_ent (e := ⟨g4, 28, [Value.slice (some ⟨gn25, 0, none⟩) (((encF [⟨x.k, 1⟩, ⟨x.t, 8⟩, ⟨x.f, 8⟩, ⟨x.l, 8⟩]).length)) c25], 1⟩) (by simp) rfl rfl (by simp only [List.mem_cons, List.not_mem_nil, or_false, forall_eq_or_imp, forall_eq]; exact ⟨by first | exact trivial | rfl, reads_ent (e := ⟨gn25, 5, (encF [⟨x.k, 1⟩, ⟨x.t, 8⟩, ⟨x.f, 8⟩, ⟨x.l, 8⟩]).map (Value.int .u8), c25⟩) (by simp) rfl rfl⟩)) (by omega) (by omega) (by rw [hcat]; exact hT)).mono fun e w'' ⟨v', He', he, ho, hs'⟩ => ⟨(v', He'), he, by rw [← hcat]; exact ho, hs'⟩) (fun y hR => ?_)
    obtain ⟨vo, Ho⟩ := y
    dsimp only at hR ⊢
    refine TP.free (Wants.none rfl) rfl (fun _ => Gets.assign rfl rfl) ?_
    refine TP.nil ?_
    refine TE.heap (H' := [⟨g2, 53, [Value.int .u64 x.k, Value.int .i64 1], 2⟩, ⟨g1, 47, [Value.int .i64 x.k, Value.int .i64 x.t, Value.int .i64 x.f, Value.int .i64 x.l, Value.slice x.A x.m x.c], 5⟩, ⟨g4, 28, [Value.slice (some ⟨gn25, 0, none⟩) (((encF [⟨x.k, 1⟩, ⟨x.t, 8⟩, ⟨x.f, 8⟩, ⟨x.l, 8⟩]).length)) c25], 1⟩, ⟨gn25, 5, (encF [⟨x.k, 1⟩, ⟨x.t, 8⟩, ⟨x.f, 8⟩, ⟨x.l, 8⟩]).map (Value.int .u8), c25⟩, ⟨g3, 53, [Value.int .u64 x.k, Value.int .i64 1, Value.int .u64 x.t, Value.int .i64 8, Value.int .u64 x.f, Value.int .i64 8, Value.int .u64 x.l, Value.int .i64 8], 8⟩] ++ H ++ Ho) (fun w h => h) ?_
    iterate 3 refine gx ?_
    exact TE.ret1 rfl rfl (fun w hs => ⟨_, Ho, rfl, hR, (((((hs.drop (by assumption)).drop (by assumption)).drop (by assumption)).drop (by assumption)).drop (by assumption))⟩)
  · iterate 3 refine gx ?_
    refine TC.heap (H' := [⟨g2, 53, [Value.int .u64 x.k, Value.int .i64 1], 2⟩, ⟨g1, 47, [Value.int .i64 x.k, Value.int .i64 x.t, Value.int .i64 x.f, Value.int .i64 x.l, Value.slice x.A x.m x.c], 5⟩] ++ ([] ++ H ++ He)) (fun w h => h) ?_
    refine TC.mixB (HB := [Ent.mk g2 53 ([Value.int .u64 x.k, Value.int .i64 1]) 2, Ent.mk g1 47 ([Value.int .i64 x.k, Value.int .i64 x.t, Value.int .i64 x.f, Value.int .i64 x.l, Value.slice x.A x.m x.c]) 5]) (H := [] ++ H ++ He) (by kernel_rfl) [0, 0, 0, 0, 3, 0, 0, 0, 3, 3, 3, 0, 0, 3, 3, 0] [0, 1, 2, 3, 5, 6, 7, 11, 12, 4, 8, 9, 10, 13, 14, 15] (by kernel_rfl) ?_
    refine TP.free (Wants.none rfl) rfl (fun _ => Gets.move rfl rfl) ?_
    refine TP.stay (Wants.none rfl) rfl (fun H' => Gets.loadN rfl agg53 size53 rfl (vs := [Value.int .u64 x.k, Value.int .i64 1]) (by simp []) (Row.all (i := 0) (ent := ⟨g2, 53, [Value.int .u64 x.k, Value.int .i64 1], 2⟩) rfl rfl rfl)) ?_
    refine TP.free (Wants.none rfl) rfl (fun _ => Gets.fieldAddr rfl Try.underlying47 rfl size3 rfl (off' := 1) (by first | rfl | omega)) ?_
    refine TP.stay (Wants.none rfl) rfl (fun H' => Gets.load1 rfl agg3 rfl (At.ent (i := 1) (ent := ⟨g1, 47, [Value.int .i64 x.k, Value.int .i64 x.t, Value.int .i64 x.f, Value.int .i64 x.l, Value.slice x.A x.m x.c], 5⟩) (off := 1) rfl rfl (by exact rfl))) ?_
    refine TP.free (Wants.none rfl) rfl (fun _ => Gets.fieldAddr rfl Try.underlying47 rfl size28 rfl (off' := 4) (by first | rfl | omega)) ?_
    refine TP.stay (Wants.none rfl) rfl (fun H' => Gets.load1 rfl agg28 rfl (At.ent (i := 1) (ent := ⟨g1, 47, [Value.int .i64 x.k, Value.int .i64 x.t, Value.int .i64 x.f, Value.int .i64 x.l, Value.slice x.A x.m x.c], 5⟩) (off := 4) rfl rfl (by exact rfl))) ?_
    refine TP.free (Wants.none rfl) rfl (fun _ => Gets.lenSlice rfl Try.underlying28 rfl) ?_
    refine TP.free (Wants.none rfl) rfl (fun _ => Gets.fieldAddr rfl Try.underlying47 rfl size28 rfl (off' := 4) (by first | rfl | omega)) ?_
    refine TP.stay (Wants.none rfl) rfl (fun H' => Gets.load1 rfl agg28 rfl (At.ent (i := 1) (ent := ⟨g1, 47, [Value.int .i64 x.k, Value.int .i64 x.t, Value.int .i64 x.f, Value.int .i64 x.l, Value.slice x.A x.m x.c], 5⟩) (off := 4) rfl rfl (by exact rfl))) ?_
    refine TP.call0 (Wants.none rfl) rfl enters21 rfl rfl (v := .agg ([Value.int .u64 x.t, Value.int .i64 8]).toArray) (fun w hs => length_c x.t (by omega) w) ?_
    refine TP.call0 (Wants.none rfl) rfl enters21 rfl rfl (v := .agg ([Value.int .u64 (x.m : Int), Value.int .i64 8]).toArray) (fun w hs => length_c (x.m : Int) (by omega) w) ?_
    refine TP.buildSlice (Wants.none rfl) rfl rfl Try.underlying79 size53 zero53 rfl (by decide) (by decide) (cells := #[.int .u64 x.k, .int .i64 1, .int .u64 x.t, .int .i64 8, .int .u64 (x.m : Int), .int .i64 8]) (tot := 6) (by kernel_rfl) (cs := [.int .u64 x.k, .int .i64 1, .int .u64 x.t, .int .i64 8, .int .u64 (x.m : Int), .int .i64 8]) rfl rfl (fun g5 hg5 => ?_)
    refine TP.call (ι := Nat × Nat) (V := fun y38 => .slice (some ⟨y38.1, 0, none⟩) (((encF [⟨x.k, 1⟩, ⟨x.t, 8⟩, ⟨(x.m : Int), 8⟩]).length)) y38.2) (R := fun y38 => ((encF [⟨x.k, 1⟩, ⟨x.t, 8⟩, ⟨(x.m : Int), 8⟩]).length ≤ y38.2 ∧ y38.2 ≤ 9223372036854775807) ∧ w.heap.size ≤ (⟨y38.1, 5, (encF [⟨x.k, 1⟩, ⟨x.t, 8⟩, ⟨(x.m : Int), 8⟩]).map (Value.int .u8), y38.2⟩ : Ent).g) (H' := fun y38 => [⟨y38.1, 5, (encF [⟨x.k, 1⟩, ⟨x.t, 8⟩, ⟨(x.m : Int), 8⟩]).map (Value.int .u8), y38.2⟩, ⟨g5, 53, [Value.int .u64 x.k, Value.int .i64 1, Value.int .u64 x.t, Value.int .i64 8, Value.int .u64 (x.m : Int), Value.int .i64 8], 6⟩] ++ H ++ He) (Wants.none rfl) rfl enters20 rfl rfl (fun w hs => (show Calls Try.prog 20 #[.slice (some ⟨g5, 0, none⟩) 3 3] w (fun e w' => ∃ y38 : Nat × Nat, e = .returned (.slice (some ⟨y38.1, 0, none⟩) (((encF [⟨x.k, 1⟩, ⟨x.t, 8⟩, ⟨(x.m : Int), 8⟩]).length)) y38.2) ∧ ((encF [⟨x.k, 1⟩, ⟨x.t, 8⟩, ⟨(x.m : Int), 8⟩]).length ≤ y38.2 ∧ y38.2 ≤ 9223372036854775807) ∧ w.heap.size ≤ (⟨y38.1, 5, (encF [⟨x.k, 1⟩, ⟨x.t, 8⟩, ⟨(x.m : Int), 8⟩]).map (Value.int .u8), y38.2⟩ : Ent).g ∧ St w [⟨y38.1, 5, (encF [⟨x.k, 1⟩, ⟨x.t, 8⟩, ⟨(x.m : Int), 8⟩]).map (Value.int .u8), y38.2⟩] w') from numbers_o [⟨x.k, 1⟩, ⟨x.t, 8⟩, ⟨(x.m : Int), 8⟩] (some ⟨g5, 0, none⟩) 3 3 w (lies_srcF (Fs := [⟨x.k, 1⟩, ⟨x.t, 8⟩, ⟨(x.m : Int), 8⟩]) (hs.has (⟨g5, 53, [Value.int .u64 x.k, Value.int .i64 1, Value.int .u64 x.t, Value.int .i64 8, Value.int .u64 (x.m : Int), Value.int .i64 8], 6⟩) (by simp)) rfl rfl) (numsF_of (by simp only [List.mem_cons, List.not_mem_nil, or_false, forall_eq_or_imp, forall_eq]; exact ⟨num1 hk, num8 hv.1, num8 (by unfold inR; omega)⟩)) (by omega) (by omega) (by omega) (by unfold fitAll; simp only [List.mem_cons, List.not_mem_nil, or_false, forall_eq_or_imp, forall_eq]; exact ⟨fit1 hk, fit8' _, fit8' _⟩) (by rw [encF_3]; omega)).mono fun e w' ⟨x, he, hR, hE, hw⟩ => ⟨x, he, ⟨hR, Nat.le_trans hs.size hE⟩, St.madeB hs hw hE⟩) (fun y38 ⟨hn38, hgn38⟩ => ?_)
    obtain ⟨gn38, c38⟩ := y38
    dsimp only at hn38 hgn38 ⊢
    refine TP.buildSlice (Wants.none rfl) rfl rfl Try.underlying78 size28 zero28 rfl (by decide) (by decide) (cells := #[.slice (some ⟨gn38, 0, none⟩) (((encF [⟨x.k, 1⟩, ⟨x.t, 8⟩, ⟨(x.m : Int), 8⟩]).length)) c38, .slice x.A x.m x.c]) (tot := 2) (by kernel_rfl) (cs := [.slice (some ⟨gn38, 0, none⟩) (((encF [⟨x.k, 1⟩, ⟨x.t, 8⟩, ⟨(x.m : Int), 8⟩]).length)) c38, .slice x.A x.m x.c]) rfl rfl (fun g6 hg6 => ?_)
    have hcat : catP [⟨(some ⟨gn38, 0, none⟩), (((encF [⟨x.k, 1⟩, ⟨x.t, 8⟩, ⟨(x.m : Int), 8⟩]).length)), c38, encF [⟨x.k, 1⟩, ⟨x.t, 8⟩, ⟨(x.m : Int), 8⟩]⟩, ⟨x.A, x.m, x.c, x.B⟩] = encC (cmC x) := by rw [encC_lit h0, hxm]; simp [catP]
    refine TP.call (ι := Value × List Ent) (V := fun y => y.1) (R := fun y => Own w.heap.size 5 .u8 y.1 (W ++ encC (cmC x)) y.2) (H' := fun y => [⟨g6, 28, [Value.slice (some ⟨gn38, 0, none⟩) (((encF [⟨x.k, 1⟩, ⟨x.t, 8⟩, ⟨(x.m : Int), 8⟩]).length)) c38, Value.slice x.A x.m x.c], 2⟩, ⟨gn38, 5, (encF [⟨x.k, 1⟩, ⟨x.t, 8⟩, ⟨(x.m : Int), 8⟩]).map (Value.int .u8), c38⟩, ⟨g5, 53, [Value.int .u64 x.k, Value.int .i64 1, Value.int .u64 x.t, Value.int .i64 8, Value.int .u64 (x.m : Int), Value.int .i64 8], 6⟩] ++ H ++ y.2) (Wants.none rfl) rfl enters19 rfl rfl (fun w' hs => (add_c W v0 [⟨(some ⟨gn38, 0, none⟩), (((encF [⟨x.k, 1⟩, ⟨x.t, 8⟩, ⟨(x.m : Int), 8⟩]).length)), c38, encF [⟨x.k, 1⟩, ⟨x.t, 8⟩, ⟨(x.m : Int), 8⟩]⟩, ⟨x.A, x.m, x.c, x.B⟩] (some ⟨g6, 0, none⟩) 2 2 ([⟨g2, 53, [Value.int .u64 x.k, Value.int .i64 1], 2⟩, ⟨g1, 47, [Value.int .i64 x.k, Value.int .i64 x.t, Value.int .i64 x.f, Value.int .i64 x.l, Value.slice x.A x.m x.c], 5⟩, ⟨g6, 28, [Value.slice (some ⟨gn38, 0, none⟩) (((encF [⟨x.k, 1⟩, ⟨x.t, 8⟩, ⟨(x.m : Int), 8⟩]).length)) c38, Value.slice x.A x.m x.c], 2⟩, ⟨gn38, 5, (encF [⟨x.k, 1⟩, ⟨x.t, 8⟩, ⟨(x.m : Int), 8⟩]).map (Value.int .u8), c38⟩, ⟨g5, 53, [Value.int .u64 x.k, Value.int .i64 1, Value.int .u64 x.t, Value.int .i64 8, Value.int .u64 (x.m : Int), Value.int .i64 8], 6⟩] ++ H) He w w' hown0 hs (parts_ent (e := ⟨g6, 28, [Value.slice (some ⟨gn38, 0, none⟩) (((encF [⟨x.k, 1⟩, ⟨x.t, 8⟩, ⟨(x.m : Int), 8⟩]).length)) c38, Value.slice x.A x.m x.c], 2⟩) (by simp) rfl rfl (by simp only [List.mem_cons, List.not_mem_nil, or_false, forall_eq_or_imp, forall_eq]; exact ⟨⟨by first | exact trivial | rfl, reads_ent (e := ⟨gn38, 5, (encF [⟨x.k, 1⟩, ⟨x.t, 8⟩, ⟨(x.m : Int), 8⟩]).map (Value.int .u8), c38⟩) (by simp) rfl rfl⟩, hxm, hr.more (E := [⟨g2, 53, [Value.int .u64 x.k, Value.int .i64 1], 2⟩, ⟨g1, 47, [Value.int .i64 x.k, Value.int .i64 x.t, Value.int .i64 x.f, Value.int .i64 x.l, Value.slice x.A x.m x.c], 5⟩, ⟨g6, 28, [Value.slice (some ⟨gn38, 0, none⟩) (((encF [⟨x.k, 1⟩, ⟨x.t, 8⟩, ⟨(x.m : Int), 8⟩]).length)) c38, Value.slice x.A x.m x.c], 2⟩, ⟨gn38, 5, (encF [⟨x.k, 1⟩, ⟨x.t, 8⟩, ⟨(x.m : Int), 8⟩]).map (Value.int .u8), c38⟩, ⟨g5, 53, [Value.int .u64 x.k, Value.int .i64 1, Value.int .u64 x.t, Value.int .i64 8, Value.int .u64 (x.m : Int), Value.int .i64 8], 6⟩]) (Fresh.cons (by assumption) (Fresh.cons (by assumption) (Fresh.cons (by assumption) (Fresh.cons (by assumption) (Fresh.cons (by assumption) Fresh.nil)))))⟩)) (by omega) (by omega) (by rw [hcat]; exact hT)).mono fun e w'' ⟨v', He', he, ho, hs'⟩ => ⟨(v', He'), he, by rw [← hcat]; exact ho, hs'⟩) (fun y hR => ?_)
    obtain ⟨vo, Ho⟩ := y
    dsimp only at hR ⊢
    refine TP.free (Wants.none rfl) rfl (fun _ => Gets.assign rfl rfl) ?_
    refine TP.nil ?_
    refine TE.heap (H' := [⟨g2, 53, [Value.int .u64 x.k, Value.int .i64 1], 2⟩, ⟨g1, 47, [Value.int .i64 x.k, Value.int .i64 x.t, Value.int .i64 x.f, Value.int .i64 x.l, Value.slice x.A x.m x.c], 5⟩, ⟨g6, 28, [Value.slice (some ⟨gn38, 0, none⟩) (((encF [⟨x.k, 1⟩, ⟨x.t, 8⟩, ⟨(x.m : Int), 8⟩]).length)) c38, Value.slice x.A x.m x.c], 2⟩, ⟨gn38, 5, (encF [⟨x.k, 1⟩, ⟨x.t, 8⟩, ⟨(x.m : Int), 8⟩]).map (Value.int .u8), c38⟩, ⟨g5, 53, [Value.int .u64 x.k, Value.int .i64 1, Value.int .u64 x.t, Value.int .i64 8, Value.int .u64 (x.m : Int), Value.int .i64 8], 6⟩] ++ H ++ Ho) (fun w h => h) ?_
    iterate 2 refine gx ?_
    exact TE.ret1 rfl rfl (fun w hs => ⟨_, Ho, rfl, hR, (((((hs.drop (by assumption)).drop (by assumption)).drop (by assumption)).drop (by assumption)).drop (by assumption))⟩)
end Go.Proofs.Ytclmgfcdnokaiaa
/-
  The code of layer 7: Encode, Size.
-/
namespace Go.Proofs.Ytclmgfcdnokaiaa
set_option linter.unusedVariables false
set_option linter.unusedSimpArgs false
open Go Go.RowKit
theorem enters18 : Enters Try.prog 18 := ⟨_, Try.func18, by kernel_rfl, by kernel_rfl⟩
theorem enters22 : Enters Try.prog 22 := ⟨_, Try.func22, by kernel_rfl, by kernel_rfl⟩
theorem enters24 : Enters Try.prog 24 := ⟨_, Try.func24, by kernel_rfl, by kernel_rfl⟩
instance : AgY Try.prog 25 := ⟨agg25⟩
instance : Siz Try.prog 25 67 := ⟨size25⟩
open Classical in
noncomputable def sizeI (o n : Int) (H1 H2 : List Int) (Cs : List CV) : Int := if wrongI o n Cs = 0 then ((encD o n H1 H2 (Cs.map cmC)).length : Int) else 0
theorem sizeI_0 {o n : Int} {H1 H2 : List Int} {Cs : List CV} (h : wrongI o n Cs ≠ 0) : sizeI o n H1 H2 Cs = 0 := by unfold sizeI; rw [if_neg h]
theorem sizeI_len {o n : Int} {H1 H2 : List Int} {Cs : List CV} (h : wrongI o n Cs = 0) : sizeI o n H1 H2 Cs = ((encD o n H1 H2 (Cs.map cmC)).length : Int) := by unfold sizeI; rw [if_pos h]
theorem encD_len_le {o n : Int} {H1 H2 : List Int} {Cs : List CV} {m : Nat} (h1 : H1.length = 32) (h2 : H2.length = 32) (hm : Cs.length = m) (hD : ∀ (i : Nat) (x : CV), Cs[i]? = some x → x.B.length ≤ 300) : (encD o n H1 H2 (Cs.map cmC)).length ≤ 89 + 325 * m := by
  rw [← encD_is (o := o) (n := n) (H1 := H1) (H2 := H2) rfl]
  have hc : ∀ (l : List CV), (∀ x ∈ l, x.B.length ≤ 300) → (encCs (l.map cmC)).length ≤ 325 * l.length := by
    intro l
    induction l with
    | nil => intro _; exact Nat.le_refl _
    | cons x l ih =>
      intro h
      have h3 := ih (fun y hy => h y (by simp [hy]))
      have h4 := h x (by simp)
      show (encC (cmC x) ++ encCs (l.map cmC)).length ≤ 325 * (l.length + 1)
      have h5 : (encC (cmC x)).length ≤ 325 := by
        unfold encC
        rw [List.length_append, List.length_append, be1_len, be8_len]
        split <;> rw [List.length_append, be8_len] <;> first | (rw [be8_len]; omega) | (show 1 + (8 + (8 + x.B.length)) ≤ 325; omega)
      rw [List.length_append]; omega
  have h3 := hc Cs (fun x hx => by obtain ⟨i, hi⟩ := List.mem_iff_getElem?.1 hx; exact hD i x hi)
  have e1 : (magicB ++ [1]).length = 5 := rfl
  rw [List.length_append, List.length_append, List.length_append, List.length_append, List.length_append, List.length_append, e1, be8_len, be8_len, be4_len, h1, h2]
  omega


theorem encCs_take_le {Cs : List CV} {i : Nat} : (encCs ((Cs.take i).map cmC)).length ≤ (encCs (Cs.map cmC)).length := by
  have h : Cs.map cmC = (Cs.take i).map cmC ++ (Cs.drop i).map cmC := by rw [← List.map_append, List.take_append_drop]
  rw [h, encCs_app, List.length_append]; omega
theorem encCs_count (l : List CM) : l.length ≤ (encCs l).length := by
  induction l with
  | nil => exact Nat.le_refl _
  | cons c l ih =>
    show l.length + 1 ≤ (encC c ++ encCs l).length
    have h : 1 ≤ (encC c).length := by unfold encC; rw [List.length_append, be1_len]; omega
    rw [List.length_append]; omega
theorem few_len {o n : Int} {H1 H2 : List Int} {Cs : List CV} {m : Nat} (hm : Cs.length = m) (hL : (encD o n H1 H2 (Cs.map cmC)).length ≤ 100000) : m ≤ 100000 := by
  rw [← encD_is (o := o) (n := n) (H1 := H1) (H2 := H2) rfl, List.length_append] at hL
  have h := encCs_count (Cs.map cmC)
  rw [List.length_map] at h; omega

theorem num4 {x : Int} (h : 0 ≤ x ∧ x ≤ 100000) : NumF ⟨x, 4⟩ := by unfold NumF; dsimp only; omega
theorem fit4 {x : Int} (h : 0 ≤ x ∧ x ≤ 100000) : fitV x 4 := by
  obtain ⟨y, rfl⟩ := Int.eq_ofNat_of_zero_le h.1
  refine ⟨by decide, by decide, .inr ?_⟩
  rw [show (8 * (4 : Int)) = ((32 : Nat) : Int) by decide, shr_nat (by decide), Nat.div_eq_of_lt (by omega)]; rfl

set_option maxRecDepth 100000 in
set_option maxHeartbeats 2000000 in
theorem fenc_yes (o n : Int) (H1 H2 : List Int) (hH1 : H1.length = 32) (hH2 : H2.length = 32) (A : Option Addr) (m c : Nat) (Cs : List CV) (hmc : m ≤ c) (hcm : c ≤ 9223372036854775807) (hN : NumsC Cs) (hL : (encD o n H1 H2 (Cs.map cmC)).length ≤ 100000) (w : World) (hC : SrcC w A m Cs) (hD : DatC w Cs) (hw : wrongI o n Cs = 0) : Calls Try.prog 10 #[.agg ([Value.int .i64 o, Value.int .i64 n] ++ (H1.map (Value.int .u8) ++ (H2.map (Value.int .u8) ++ ([Value.slice A m c])))).toArray] w fun e w' => ∃ v He, e = .returned (.tuple #[v, .int .i64 0]) ∧ Own w.heap.size 5 .u8 v (encD o n H1 H2 (Cs.map cmC)) He ∧ St w He w' := by
  have hm7 : m ≤ 100000 := few_len hC.1 hL
  have hok := wrongI_ok hw
  have hok3 := hok.2.1
  unfold inR at hok3
  refine calls_from (args := [.agg ([Value.int .i64 o, Value.int .i64 n] ++ (H1.map (Value.int .u8) ++ (H2.map (Value.int .u8) ++ ([Value.slice A m c])))).toArray]) Try.func10 rfl Try.ntmps10 (by simp) ?_
  refine TC.pr [0] ?_
  iterate 2 refine gx ?_
  refine TL.box (Wants.none rfl) rfl rfl rfl (cs := [Value.int .i64 o, Value.int .i64 n] ++ (H1.map (Value.int .u8) ++ (H2.map (Value.int .u8) ++ ([Value.slice A m c])))) (by simp [Value.cells]) (tot := 67) (by simp [hH1, hH2]) (fun g1 hg1 => ?_)
  iterate 8 refine gx ?_
  refine TL.call0 (Wants.none rfl) rfl enters18 rfl rfl (v := .int .i64 (wrongI o n Cs)) (fun w hs => check7_c o n H1 H2 hH1 hH2 A m c Cs (by omega) (by omega) (by omega) hN w (hC.at_ hs (fun b hb => (ne_cons (by show g1 ≠ b; omega) ne_nil)))) ?_
  iterate 6 refine gx ?_
  refine TL.gets (Wants.none rfl) rfl (Gets.isFalse (Gets.neq rfl rfl rfl) (fun h => h hw)) ?_
  iterate 2 refine gx ?_
  refine TC.pr [1, 2, 3, 4, 11] ?_
  refine TC.no rfl ?_
  iterate 3 refine gx ?_
  refine TC.mixG [⟨g1, 25, [Value.int .i64 o, Value.int .i64 n] ++ (H1.map (Value.int .u8) ++ (H2.map (Value.int .u8) ++ ([Value.slice A m c]))), 67⟩] (by kernel_rfl) [5, 4, 3, 0, 1, 1, 0, 1, 1, 3, 6, 0, 0, 0, 0, 0, 1, 0, 1, 0, 3, 6, 8, 8, 0] [3, 4, 5, 6, 7, 8, 11, 12, 13, 14, 15, 16, 17, 18, 19, 0, 1, 9, 10, 20, 21, 2, 22, 23, 24] [fun _ _ => True, fun _ _ => True, fun v d => ∃ g, v = .slice (some ⟨g, 0, none⟩) 1 1 ∧ d = [⟨g, 5, [.int .u8 1], 1⟩], fun _ _ => True, fun _ _ => True, fun _ _ => True, fun _ _ => True, fun _ _ => True, fun _ _ => True, fun v d => ∃ g, v = .slice (some ⟨g, 0, none⟩) 2 2 ∧ d = [⟨g, 53, [.int .u64 o, .int .i64 8, .int .u64 n, .int .i64 8], 4⟩], fun v e => ∃ y23 : Nat × Nat, ((encF [⟨o, 8⟩, ⟨n, 8⟩]).length ≤ y23.2 ∧ y23.2 ≤ 9223372036854775807) ∧ v = .slice (some ⟨y23.1, 0, none⟩) (((encF [⟨o, 8⟩, ⟨n, 8⟩]).length)) y23.2 ∧ e = [⟨y23.1, 5, (encF [⟨o, 8⟩, ⟨n, 8⟩]).map (Value.int .u8), y23.2⟩], fun _ _ => True, fun _ _ => True, fun _ _ => True, fun _ _ => True, fun _ _ => True, fun _ _ => True, fun _ _ => True, fun _ _ => True, fun _ _ => True, fun v d => ∃ g, v = .slice (some ⟨g, 0, none⟩) 1 1 ∧ d = [⟨g, 53, [.int .u64 (m : Int), .int .i64 4], 2⟩], fun v e => ∃ y34 : Nat × Nat, ((encF [⟨(m : Int), 4⟩]).length ≤ y34.2 ∧ y34.2 ≤ 9223372036854775807) ∧ v = .slice (some ⟨y34.1, 0, none⟩) (((encF [⟨(m : Int), 4⟩]).length)) y34.2 ∧ e = [⟨y34.1, 5, (encF [⟨(m : Int), 4⟩]).map (Value.int .u8), y34.2⟩], fun _ _ => True, fun _ _ => True, fun _ _ => True] (by kernel_rfl) (by kernel_rfl) ?_
  refine TG.free (Wants.none rfl) rfl (fun _ => Gets.fieldAddr rfl Try.underlying25 rfl size3 rfl (off' := 0) (by first | rfl | omega)) ?_
  refine TG.gets (Wants.none rfl) rfl (fun Z hZ => Gets.load1 rfl agg3 rfl (At.ent (i := 0) (ent := ⟨g1, 25, [Value.int .i64 o, Value.int .i64 n] ++ (H1.map (Value.int .u8) ++ (H2.map (Value.int .u8) ++ ([Value.slice A m c]))), 67⟩) (off := 0) rfl rfl (by exact app_left (i := 0) (B := H1.map (Value.int .u8) ++ (H2.map (Value.int .u8) ++ ([Value.slice A m c]))) (rfl)))) ?_
  refine TG.call0 (Wants.none rfl) rfl enters21 rfl rfl (v := .agg ([Value.int .u64 o, Value.int .i64 8]).toArray) (fun Z w hZ hs => length_c o (by omega) w) ?_
  refine TG.free (Wants.none rfl) rfl (fun _ => Gets.fieldAddr rfl Try.underlying25 rfl size3 rfl (off' := 1) (by first | rfl | omega)) ?_
  refine TG.gets (Wants.none rfl) rfl (fun Z hZ => Gets.load1 rfl agg3 rfl (At.ent (i := 0) (ent := ⟨g1, 25, [Value.int .i64 o, Value.int .i64 n] ++ (H1.map (Value.int .u8) ++ (H2.map (Value.int .u8) ++ ([Value.slice A m c]))), 67⟩) (off := 1) rfl rfl (by exact app_left (i := 1) (B := H1.map (Value.int .u8) ++ (H2.map (Value.int .u8) ++ ([Value.slice A m c]))) (rfl)))) ?_
  refine TG.call0 (Wants.none rfl) rfl enters21 rfl rfl (v := .agg ([Value.int .u64 n, Value.int .i64 8]).toArray) (fun Z w hZ hs => length_c n (by omega) w) ?_
  refine TG.free (Wants.none rfl) rfl (fun _ => Gets.fieldAddr rfl Try.underlying25 rfl size22 rfl (off' := 2) (by first | rfl | omega)) ?_
  refine TG.free (Wants.none rfl) rfl (fun _ => Gets.sliceA rfl Try.underlying22 size5 rfl bnd.dflt bnd.dflt (by omega) (by omega) (cutA_zero _ _ _) (ln := 32) (cp := 32) (by omega) (by omega)) ?_
  refine TG.free (Wants.none rfl) rfl (fun _ => Gets.fieldAddr rfl Try.underlying25 rfl size22 rfl (off' := 34) (by first | rfl | omega)) ?_
  refine TG.free (Wants.none rfl) rfl (fun _ => Gets.sliceA rfl Try.underlying22 size5 rfl bnd.dflt bnd.dflt (by omega) (by omega) (cutA_zero _ _ _) (ln := 32) (cp := 32) (by omega) (by omega)) ?_
  refine TG.free (Wants.none rfl) rfl (fun _ => Gets.fieldAddr rfl Try.underlying25 rfl size23 rfl (off' := 66) (by first | rfl | omega)) ?_
  refine TG.gets (Wants.none rfl) rfl (fun Z hZ => Gets.load1 rfl agg23 rfl (At.ent (i := 0) (ent := ⟨g1, 25, [Value.int .i64 o, Value.int .i64 n] ++ (H1.map (Value.int .u8) ++ (H2.map (Value.int .u8) ++ ([Value.slice A m c]))), 67⟩) (off := 66) rfl rfl (by exact app_right (a := 2) (i := 64) (rfl) (app_right (a := 32) (i := 32) (ints_len hH1) (app_right (a := 32) (i := 0) (ints_len hH2) (rfl)))))) ?_
  refine TG.free (Wants.none rfl) rfl (fun _ => Gets.lenSlice rfl Try.underlying23 rfl) ?_
  refine TG.gets (Wants.none rfl) rfl (fun Z hZ => Gets.conv rfl Try.underlying3 Try.underlying51 rfl (r := (m : Int)) (wu64 rfl (by omega))) ?_
  refine TG.free (Wants.none rfl) rfl (fun _ => Gets.build rfl (vs := [(0, Value.int .u64 (m : Int)), (1, Value.int .i64 4)]) rfl (fun w => by first | rfl | kernel_rfl) (v := .agg ([Value.int .u64 (m : Int), Value.int .i64 4]).toArray)) ?_
  refine TG.buildG (Wants.none rfl) rfl rfl Try.underlying28 size5 zero5 rfl (by decide) (by decide) (cells := #[.int .u8 71, .int .u8 82, .int .u8 70, .int .u8 84]) (by kernel_rfl) (cs := magicB.map (Value.int .u8)) rfl (fun gm hgm => ?_)
  refine TG.mark (Wants.none rfl) rfl rfl Try.underlying28 Try.underlying5 rfl ?_
  refine TG.buildSlice (Wants.none rfl) rfl rfl Try.underlying79 size53 zero53 rfl (by decide) (by decide) (cells := #[.int .u64 o, .int .i64 8, .int .u64 n, .int .i64 8]) (tot := 4) (by kernel_rfl) (cs := [.int .u64 o, .int .i64 8, .int .u64 n, .int .i64 8]) rfl rfl (fun g2 hg2 => ?_)
  refine TG.call6 (ι := Nat × Nat) (V := fun y23 => .slice (some ⟨y23.1, 0, none⟩) (((encF [⟨o, 8⟩, ⟨n, 8⟩]).length)) y23.2) (R := fun y23 => (encF [⟨o, 8⟩, ⟨n, 8⟩]).length ≤ y23.2 ∧ y23.2 ≤ 9223372036854775807) (E := fun y23 => [⟨y23.1, 5, (encF [⟨o, 8⟩, ⟨n, 8⟩]).map (Value.int .u8), y23.2⟩]) (Wants.none rfl) rfl enters20 rfl rfl (fun Z w hZ hs => (show Calls Try.prog 20 #[.slice (some ⟨g2, 0, none⟩) 2 2] w (fun e w' => ∃ y23 : Nat × Nat, e = .returned (.slice (some ⟨y23.1, 0, none⟩) (((encF [⟨o, 8⟩, ⟨n, 8⟩]).length)) y23.2) ∧ ((encF [⟨o, 8⟩, ⟨n, 8⟩]).length ≤ y23.2 ∧ y23.2 ≤ 9223372036854775807) ∧ w.heap.size ≤ (⟨y23.1, 5, (encF [⟨o, 8⟩, ⟨n, 8⟩]).map (Value.int .u8), y23.2⟩ : Ent).g ∧ St w [⟨y23.1, 5, (encF [⟨o, 8⟩, ⟨n, 8⟩]).map (Value.int .u8), y23.2⟩] w') from numbers_o [⟨o, 8⟩, ⟨n, 8⟩] (some ⟨g2, 0, none⟩) 2 2 w (lies_srcF (Fs := [⟨o, 8⟩, ⟨n, 8⟩]) (hs.has (⟨g2, 53, [Value.int .u64 o, Value.int .i64 8, Value.int .u64 n, Value.int .i64 8], 4⟩) (by simp)) rfl rfl) (numsF_of (by simp only [List.mem_cons, List.not_mem_nil, or_false, forall_eq_or_imp, forall_eq]; exact ⟨num8 hok.2.1.1, num8 hok.2.1.2⟩)) (by omega) (by omega) (by omega) (by unfold fitAll; simp only [List.mem_cons, List.not_mem_nil, or_false, forall_eq_or_imp, forall_eq]; exact ⟨fit8' _, fit8' _⟩) (by rw [encF_2]; omega)).mono fun e w' ⟨x, he, hR, hE, hw⟩ => ⟨x, he, hR, fresh_one hE, hw⟩) (fun y23 hn23 hgn23 => ?_)
  have hgn23 := fresh_head hgn23
  obtain ⟨gn23, c23⟩ := y23
  dsimp only at hn23 hgn23 ⊢
  refine TG.buildSlice (Wants.none rfl) rfl rfl Try.underlying79 size53 zero53 rfl (by decide) (by decide) (cells := #[.int .u64 (m : Int), .int .i64 4]) (tot := 2) (by kernel_rfl) (cs := [.int .u64 (m : Int), .int .i64 4]) rfl rfl (fun g3 hg3 => ?_)
  refine TG.call6 (ι := Nat × Nat) (V := fun y34 => .slice (some ⟨y34.1, 0, none⟩) (((encF [⟨(m : Int), 4⟩]).length)) y34.2) (R := fun y34 => (encF [⟨(m : Int), 4⟩]).length ≤ y34.2 ∧ y34.2 ≤ 9223372036854775807) (E := fun y34 => [⟨y34.1, 5, (encF [⟨(m : Int), 4⟩]).map (Value.int .u8), y34.2⟩]) (Wants.none rfl) rfl enters20 rfl rfl (fun Z w hZ hs => (show Calls Try.prog 20 #[.slice (some ⟨g3, 0, none⟩) 1 1] w (fun e w' => ∃ y34 : Nat × Nat, e = .returned (.slice (some ⟨y34.1, 0, none⟩) (((encF [⟨(m : Int), 4⟩]).length)) y34.2) ∧ ((encF [⟨(m : Int), 4⟩]).length ≤ y34.2 ∧ y34.2 ≤ 9223372036854775807) ∧ w.heap.size ≤ (⟨y34.1, 5, (encF [⟨(m : Int), 4⟩]).map (Value.int .u8), y34.2⟩ : Ent).g ∧ St w [⟨y34.1, 5, (encF [⟨(m : Int), 4⟩]).map (Value.int .u8), y34.2⟩] w') from numbers_o [⟨(m : Int), 4⟩] (some ⟨g3, 0, none⟩) 1 1 w (lies_srcF (Fs := [⟨(m : Int), 4⟩]) (hs.has (⟨g3, 53, [Value.int .u64 (m : Int), Value.int .i64 4], 2⟩) (by simp)) rfl rfl) (numsF_of (by simp only [List.mem_cons, List.not_mem_nil, or_false, forall_eq_or_imp, forall_eq]; exact num4 (by omega))) (by omega) (by omega) (by omega) (by unfold fitAll; simp only [List.mem_cons, List.not_mem_nil, or_false, forall_eq_or_imp, forall_eq]; exact fit4 (by omega)) (by rw [encF_14]; omega)).mono fun e w' ⟨x, he, hR, hE, hw⟩ => ⟨x, he, hR, fresh_one hE, hw⟩) (fun y34 hn34 hgn34 => ?_)
  have hgn34 := fresh_head hgn34
  obtain ⟨gn34, c34⟩ := y34
  dsimp only at hn34 hgn34 ⊢
  refine TG.buildSlice (Wants.none rfl) rfl rfl Try.underlying28 size5 zero5 rfl (by decide) (by decide) (cells := #[.int .u8 1]) (tot := 1) (by kernel_rfl) (cs := [.int .u8 1]) rfl rfl (fun g4 hg4 => ?_)
  refine TG.build8 (Wants.none rfl) rfl rfl Try.underlying78 size28 zero28 rfl (by decide) (by decide) (cells := #[.slice (some ⟨gm, 0, none⟩) 4 4, .slice (some ⟨g4, 0, none⟩) 1 1, .slice (some ⟨gn23, 0, none⟩) (((encF [⟨o, 8⟩, ⟨n, 8⟩]).length)) c23, .slice (some ⟨g1, 2, none⟩) 32 32, .slice (some ⟨g1, 34, none⟩) 32 32, .slice (some ⟨gn34, 0, none⟩) (((encF [⟨(m : Int), 4⟩]).length)) c34]) (tot := 6) (by kernel_rfl) (cs := [.slice (some ⟨gm, 0, none⟩) 4 4, .slice (some ⟨g4, 0, none⟩) 1 1, .slice (some ⟨gn23, 0, none⟩) (((encF [⟨o, 8⟩, ⟨n, 8⟩]).length)) c23, .slice (some ⟨g1, 2, none⟩) 32 32, .slice (some ⟨g1, 34, none⟩) 32 32, .slice (some ⟨gn34, 0, none⟩) (((encF [⟨(m : Int), 4⟩]).length)) c34]) rfl rfl (fun g5 hg5 => ?_)
  have hcat : catP [⟨(some ⟨gm, 0, none⟩), 4, 4, magicB⟩, ⟨(some ⟨g4, 0, none⟩), 1, 1, [1]⟩, ⟨(some ⟨gn23, 0, none⟩), (((encF [⟨o, 8⟩, ⟨n, 8⟩]).length)), c23, encF [⟨o, 8⟩, ⟨n, 8⟩]⟩, ⟨(some ⟨g1, 2, none⟩), 32, 32, H1⟩, ⟨(some ⟨g1, 34, none⟩), 32, 32, H2⟩, ⟨(some ⟨gn34, 0, none⟩), (((encF [⟨(m : Int), 4⟩]).length)), c34, encF [⟨(m : Int), 4⟩]⟩] = (magicB ++ [1] ++ beV o 8 ++ beV n 8 ++ H1 ++ H2 ++ beV (m : Int) 4) := by simp [catP, encF]
  have hlP : ((magicB ++ [1] ++ beV o 8 ++ beV n 8 ++ H1 ++ H2 ++ beV (m : Int) 4)).length ≤ 100000 := by have h := hL; rw [← encD_is (o := o) (n := n) (H1 := H1) (H2 := H2) hC.1, List.length_append] at h; omega
  refine TG.call8 (ι := Value × List Ent) (V := fun y => y.1) (R := fun y => Own w.heap.size 5 .u8 y.1 (magicB ++ [1] ++ beV o 8 ++ beV n 8 ++ H1 ++ H2 ++ beV (m : Int) 4) y.2) (E := fun y => y.2) (Wants.none rfl) rfl enters19 rfl rfl (fun w1 hs => (add_c [] (.slice none 0 0) [⟨(some ⟨gm, 0, none⟩), 4, 4, magicB⟩, ⟨(some ⟨g4, 0, none⟩), 1, 1, [1]⟩, ⟨(some ⟨gn23, 0, none⟩), (((encF [⟨o, 8⟩, ⟨n, 8⟩]).length)), c23, encF [⟨o, 8⟩, ⟨n, 8⟩]⟩, ⟨(some ⟨g1, 2, none⟩), 32, 32, H1⟩, ⟨(some ⟨g1, 34, none⟩), 32, 32, H2⟩, ⟨(some ⟨gn34, 0, none⟩), (((encF [⟨(m : Int), 4⟩]).length)), c34, encF [⟨(m : Int), 4⟩]⟩] (some ⟨g5, 0, none⟩) 6 6 [] [] w1 w1 (Own.nil _ _ _) (St.refl w1) (parts_lies (e := ⟨g5, 28, [Value.slice (some ⟨gm, 0, none⟩) 4 4, Value.slice (some ⟨g4, 0, none⟩) 1 1, Value.slice (some ⟨gn23, 0, none⟩) (((encF [⟨o, 8⟩, ⟨n, 8⟩]).length)) c23, Value.slice (some ⟨g1, 2, none⟩) 32 32, Value.slice (some ⟨g1, 34, none⟩) 32 32, Value.slice (some ⟨gn34, 0, none⟩) (((encF [⟨(m : Int), 4⟩]).length)) c34], 6⟩) (hs.st.has (⟨g5, 28, [Value.slice (some ⟨gm, 0, none⟩) 4 4, Value.slice (some ⟨g4, 0, none⟩) 1 1, Value.slice (some ⟨gn23, 0, none⟩) (((encF [⟨o, 8⟩, ⟨n, 8⟩]).length)) c23, Value.slice (some ⟨g1, 2, none⟩) 32 32, Value.slice (some ⟨g1, 34, none⟩) 32 32, Value.slice (some ⟨gn34, 0, none⟩) (((encF [⟨(m : Int), 4⟩]).length)) c34], 6⟩) (by simp)) rfl rfl (by simp only [List.mem_cons, List.not_mem_nil, or_false, forall_eq_or_imp, forall_eq]; exact ⟨⟨by first | exact trivial | rfl, GEnt.src (hs.ds _ (List.mem_singleton.2 rfl)).1 rfl rfl⟩, ⟨by first | exact trivial | rfl, src_ent (W := [1]) (hs.st.has (⟨g4, 5, [Value.int .u8 1], 1⟩) (by simp)) rfl⟩, ⟨by first | exact trivial | rfl, src_ent (W := encF [⟨o, 8⟩, ⟨n, 8⟩]) (hs.st.has (⟨gn23, 5, (encF [⟨o, 8⟩, ⟨n, 8⟩]).map (Value.int .u8), c23⟩) (by simp)) rfl⟩, ⟨hH1, src_seg (g := g1) (t := 25) (tot := 67) (X := [Value.int .i64 o, Value.int .i64 n]) (R := (H2.map (Value.int .u8) ++ [.slice A m c])) (W := H1) (hs.st.has (⟨g1, 25, [Value.int .i64 o, Value.int .i64 n] ++ (H1.map (Value.int .u8) ++ (H2.map (Value.int .u8) ++ ([Value.slice A m c]))), 67⟩) (by simp)) rfl hH1⟩, ⟨hH2, src_seg (g := g1) (t := 25) (tot := 67) (X := [Value.int .i64 o, Value.int .i64 n] ++ H1.map (Value.int .u8)) (R := [.slice A m c]) (W := H2) (by rw [List.append_assoc]; exact (hs.st.has (⟨g1, 25, [Value.int .i64 o, Value.int .i64 n] ++ (H1.map (Value.int .u8) ++ (H2.map (Value.int .u8) ++ ([Value.slice A m c]))), 67⟩) (by simp))) (by simp [hH1]) hH2⟩, ⟨by first | exact trivial | rfl, src_ent (W := encF [⟨(m : Int), 4⟩]) (hs.st.has (⟨gn34, 5, (encF [⟨(m : Int), 4⟩]).map (Value.int .u8), c34⟩) (by simp)) rfl⟩⟩)) (by omega) (by omega) (by rw [hcat]; show 0 + _ ≤ _; omega)).mono fun e w' ⟨v', He', he, ho, hs'⟩ => ⟨(v', He'), he, by rw [← hcat]; exact own_mono ho hs.st.size, ho.new, hs'⟩) (fun y hR0 hRF => ?_)
  obtain ⟨v36, H36⟩ := y
  dsimp only at hR0 hRF ⊢
  refine TG.free (Wants.none rfl) rfl (fun _ => Gets.assign rfl rfl) ?_
  refine TG.nil ?_
  refine TE.heap (H' := [⟨g1, 25, [Value.int .i64 o, Value.int .i64 n] ++ (H1.map (Value.int .u8) ++ (H2.map (Value.int .u8) ++ ([Value.slice A m c]))), 67⟩] ++ H36) (fun w h => st_dm (A := [⟨g1, 25, [Value.int .i64 o, Value.int .i64 n] ++ (H1.map (Value.int .u8) ++ (H2.map (Value.int .u8) ++ ([Value.slice A m c]))), 67⟩]) (B := [⟨g2, 53, [Value.int .u64 o, Value.int .i64 8, Value.int .u64 n, Value.int .i64 8], 4⟩, ⟨gn23, 5, (encF [⟨o, 8⟩, ⟨n, 8⟩]).map (Value.int .u8), c23⟩, ⟨g3, 53, [Value.int .u64 (m : Int), Value.int .i64 4], 2⟩, ⟨gn34, 5, (encF [⟨(m : Int), 4⟩]).map (Value.int .u8), c34⟩, ⟨g4, 5, [Value.int .u8 1], 1⟩, ⟨g5, 28, [Value.slice (some ⟨gm, 0, none⟩) 4 4, Value.slice (some ⟨g4, 0, none⟩) 1 1, Value.slice (some ⟨gn23, 0, none⟩) (((encF [⟨o, 8⟩, ⟨n, 8⟩]).length)) c23, Value.slice (some ⟨g1, 2, none⟩) 32 32, Value.slice (some ⟨g1, 34, none⟩) 32 32, Value.slice (some ⟨gn34, 0, none⟩) (((encF [⟨(m : Int), 4⟩]).length)) c34], 6⟩]) (C := H36) h (Fresh.cons (by assumption) (Fresh.cons (by assumption) (Fresh.cons (by assumption) (Fresh.cons (by assumption) (Fresh.cons (by assumption) (Fresh.cons (by assumption) Fresh.nil))))))) ?_
  refine gx ?_
  refine TC.pr [1, 2, 3, 5] ?_
  iterate 10 refine gx ?_
  refine TC.loop (ι := WN) (fun x0 => [(5, x0.v), (38, .slice A m c), (39, .int .i64 (m : Int)), (40, .int .i64 (x0.k : Int))]) (fun x0 => [⟨g1, 25, [Value.int .i64 o, Value.int .i64 n] ++ (H1.map (Value.int .u8) ++ (H2.map (Value.int .u8) ++ ([Value.slice A m c]))), 67⟩] ++ x0.He) (fun x0 => m - x0.k) (fun x0 => Own w.heap.size 5 .u8 x0.v ((magicB ++ [1] ++ beV o 8 ++ beV n 8 ++ H1 ++ H2 ++ beV (m : Int) 4) ++ encCs ((Cs.take x0.k).map cmC)) x0.He ∧ x0.k ≤ m) (⟨0, v36, H36⟩ : WN) ⟨by show Own _ _ _ v36 ((magicB ++ [1] ++ beV o 8 ++ beV n 8 ++ H1 ++ H2 ++ beV (m : Int) 4) ++ []) H36; rw [List.append_nil]; exact hR0, Nat.zero_le _⟩ (Sub.cons (i := 5) rfl (Sub.slice (i := 38) rfl rfl (by first | omega | (dsimp only; omega) | rfl) (by first | omega | (dsimp only; omega) | rfl) (Sub.int (i := 39) rfl (by first | omega | rfl) (Sub.int (i := 40) rfl rfl (Sub.nil))))) (fun w h => h) (fun x0 hC0 => ?_)
  obtain ⟨i, v1, H1_⟩ := x0
  obtain ⟨hown, hi⟩ := hC0
  dsimp only at hown hi ⊢
  iterate 6 refine gx ?_
  refine TC.split rfl (fun hq1 => ?_) (fun hq1 => ?_)
  · obtain ⟨b, off, hAe, hb, hrw⟩ := hC.some_ (i := i) (by omega)
    subst hAe
    obtain ⟨x, hx⟩ := hC.get (i := i) (by omega)
    have hnx := hN i x hx
    unfold NumC at hnx
    have hlbx := lenV_bd (k := x.k) (l := x.l) (m := x.m) (by omega) (by omega)
    have hkx := hok.1 i x hx
    have hvx := hok.2.2 i x hx
    have hdx := hD i x hx
    have hlx : ((magicB ++ [1] ++ beV o 8 ++ beV n 8 ++ H1 ++ H2 ++ beV (m : Int) 4) ++ encCs ((Cs.take i).map cmC)).length + (encC (cmC x)).length ≤ 100000 := by have h := hL; rw [← encD_is (o := o) (n := n) (H1 := H1) (H2 := H2) hC.1, List.length_append] at h; have h2 := encCs_take_le (Cs := Cs) (i := i + 1); rw [enc_take hx, List.length_append] at h2; rw [List.length_append]; omega
    iterate 6 refine gx ?_
    refine TL.gets (Wants.none rfl) rfl (Gets.idxSlice rfl Try.underlying23 size47 rfl rfl (i := i) (by omega) (by omega) (off' := (off + 5 * i)) (by omega)) ?_
    refine TL.gets (Wants.none rfl) rfl (Gets.loadN rfl agg47 size47 rfl rfl (Row.old (fun jj u h => hrw i x hx jj u h) hb (ne_app (ne_cons (by show g1 ≠ b; omega) ne_nil) (hown.fr7.ne hb)))) ?_
    refine TL.al (fun g6 hg6 => ?_)
    refine TL.storeW (Wants.none rfl) rfl rfl size47 rfl (vs := [Value.int .i64 x.k, Value.int .i64 x.t, Value.int .i64 x.f, Value.int .i64 x.l, Value.slice x.A x.m x.c]) rfl (by simp []) (by simp [Value.oneCell']) (i := 0) (ent := ⟨g6, 47, [Value.int .i64 0, Value.int .i64 0, Value.int .i64 0, Value.int .i64 0, Value.slice none 0 0], 5⟩) rfl rfl (by simp []) (H' := [⟨g6, 47, [Value.int .i64 x.k, Value.int .i64 x.t, Value.int .i64 x.f, Value.int .i64 x.l, Value.slice x.A x.m x.c], 5⟩, ⟨g1, 25, [Value.int .i64 o, Value.int .i64 n] ++ (H1.map (Value.int .u8) ++ (H2.map (Value.int .u8) ++ ([Value.slice (some ⟨b, off, none⟩) m c]))), 67⟩] ++ H1_) rfl ?_
    iterate 5 refine gx ?_
    refine TL.call (ι := Value × List Ent) (V := fun y => y.1) (R := fun y => Own w.heap.size 5 .u8 y.1 (((magicB ++ [1] ++ beV o 8 ++ beV n 8 ++ H1 ++ H2 ++ beV (m : Int) 4) ++ encCs ((Cs.take i).map cmC)) ++ encC (cmC x)) y.2) (H' := fun y => [⟨g6, 47, [Value.int .i64 x.k, Value.int .i64 x.t, Value.int .i64 x.f, Value.int .i64 x.l, Value.slice x.A x.m x.c], 5⟩, ⟨g1, 25, [Value.int .i64 o, Value.int .i64 n] ++ (H1.map (Value.int .u8) ++ (H2.map (Value.int .u8) ++ ([Value.slice (some ⟨b, off, none⟩) m c]))), 67⟩] ++ y.2) (Wants.none rfl) rfl enters22 rfl rfl (fun w' hs => (addc_c ((magicB ++ [1] ++ beV o 8 ++ beV n 8 ++ H1 ++ H2 ++ beV (m : Int) 4) ++ encCs ((Cs.take i).map cmC)) v1 x [⟨g6, 47, [Value.int .i64 x.k, Value.int .i64 x.t, Value.int .i64 x.f, Value.int .i64 x.l, Value.slice x.A x.m x.c], 5⟩, ⟨g1, 25, [Value.int .i64 o, Value.int .i64 n] ++ (H1.map (Value.int .u8) ++ (H2.map (Value.int .u8) ++ ([Value.slice (some ⟨b, off, none⟩) m c]))), 67⟩] H1_ w w' hown hs hkx hvx hdx.1.1 ⟨by omega, by omega⟩ (hdx.1.reads (Fresh.cons (by assumption) (Fresh.cons (by assumption) Fresh.nil))) (by omega)).mono fun e w'' ⟨v', He', he, ho, hs'⟩ => ⟨(v', He'), he, ho, hs'⟩) (fun y hR => ?_)
    obtain ⟨vo, Ho⟩ := y
    dsimp only at hR ⊢
    iterate 4 refine gx ?_
    refine TC.pr [5, 38, 39, 40] ?_
    refine gx ?_
    refine TL.gets (Wants.none rfl) rfl (Gets.add rfl rfl rfl (r := ((i : Int) + 1)) (w64 (by omega) (by omega))) ?_
    iterate 2 refine gx ?_
    exact TE.back (⟨i + 1, vo, Ho⟩ : WN) (by show m - (i + 1) < m - i; omega) ⟨by show Own _ _ _ vo ((magicB ++ [1] ++ beV o 8 ++ beV n 8 ++ H1 ++ H2 ++ beV (m : Int) 4) ++ encCs ((Cs.take (i + 1)).map cmC)) Ho; rw [enc_take hx, ← List.append_assoc]; exact hR, by show i + 1 ≤ m; omega⟩ (Sub.cons (i := 5) rfl (Sub.slice (i := 38) rfl (by first | rfl | (congr 2; omega)) (by first | omega | (dsimp only; omega) | rfl) (by first | omega | (dsimp only; omega) | rfl) (Sub.int (i := 39) rfl (by first | omega | rfl) (Sub.int (i := 40) rfl (by show (i : Int) + 1 = ((i + 1 : Nat) : Int); omega) (Sub.nil))))) (fun w h => (h.drop (by assumption)))
  · obtain rfl : m = i := by omega
    have htk : Cs.take m = Cs := List.take_of_length_le (by have := hC.1; omega)
    rw [htk] at hown
    iterate 13 refine gx ?_
    exact TE.ret2 rfl rfl rfl (fun w hs => ⟨_, H1_, rfl, by rw [← encD_is hC.1]; exact hown, hs.drop (by assumption)⟩)

theorem enc_size {x : CV} (hv : okV x) (hm : x.B.length = x.m) : (encC (cmC x)).length = if x.k = 1 then 25 else 17 + x.m := by
  by_cases h : x.k = 1
  · rw [if_pos h, encC_copy h, encF_4]
  · rw [if_neg h, encC_lit h, List.length_append, encF_3, hm]

set_option maxRecDepth 100000 in
set_option maxHeartbeats 2000000 in
theorem csize_c (x : CV) (hv : okV x) (hm : x.B.length = x.m) (hm2 : x.m ≤ 1000000) (w : World) : Calls Try.prog 24 #[.agg ([Value.int .i64 x.k, Value.int .i64 x.t, Value.int .i64 x.f, Value.int .i64 x.l, Value.slice x.A x.m x.c]).toArray] w fun e w' => e = .returned (.int .i64 ((encC (cmC x)).length : Int)) ∧ St w [] w' := by
  refine calls_from (args := [.agg ([Value.int .i64 x.k, Value.int .i64 x.t, Value.int .i64 x.f, Value.int .i64 x.l, Value.slice x.A x.m x.c]).toArray]) Try.func24 rfl Try.ntmps24 (by simp) ?_
  refine TC.pr [0] ?_
  iterate 2 refine gx ?_
  refine TL.bxA (fun g1 hg1 => ?_)
  iterate 11 refine gx ?_
  refine TC.split rfl (fun h0 => ?_) (fun h0 => ?_)
  · iterate 7 refine gx ?_
    exact TE.ret1 rfl rfl (fun w hs => ⟨ret_i (by rw [enc_size hv hm]; simp [h0] <;> omega), (hs.drop (by assumption))⟩)
  · iterate 7 refine gx ?_
    refine TL.gets (Wants.none rfl) rfl (Gets.add rfl rfl rfl (r := ((x.m : Int) + 17)) (w64 (by omega) (by omega))) ?_
    iterate 4 refine gx ?_
    exact TE.ret1 rfl rfl (fun w hs => ⟨ret_i (by rw [enc_size hv hm]; simp [h0] <;> omega), (hs.drop (by assumption))⟩)

set_option maxRecDepth 100000 in
set_option maxHeartbeats 2000000 in
theorem fsize_no (o n : Int) (H1 H2 : List Int) (hH1 : H1.length = 32) (hH2 : H2.length = 32) (A : Option Addr) (m c : Nat) (Cs : List CV) (hmc : m ≤ c) (hcm : c ≤ 9223372036854775807) (hN : NumsC Cs) (hL : (encD o n H1 H2 (Cs.map cmC)).length ≤ 100000) (w : World) (hC : SrcC w A m Cs) (hD : DatC w Cs) (hw : wrongI o n Cs ≠ 0) : Calls Try.prog 12 #[.agg ([Value.int .i64 o, Value.int .i64 n] ++ (H1.map (Value.int .u8) ++ (H2.map (Value.int .u8) ++ ([Value.slice A m c])))).toArray] w fun e w' => e = .returned (.int .i64 (sizeI o n H1 H2 Cs)) ∧ St w [] w' := by
  have hm7 : m ≤ 100000 := few_len hC.1 hL
  refine calls_from (args := [.agg ([Value.int .i64 o, Value.int .i64 n] ++ (H1.map (Value.int .u8) ++ (H2.map (Value.int .u8) ++ ([Value.slice A m c])))).toArray]) Try.func12 rfl Try.ntmps12 (by simp) ?_
  refine TC.pr [0] ?_
  iterate 2 refine gx ?_
  refine TL.box (Wants.none rfl) rfl rfl rfl (cs := [Value.int .i64 o, Value.int .i64 n] ++ (H1.map (Value.int .u8) ++ (H2.map (Value.int .u8) ++ ([Value.slice A m c])))) (by simp [Value.cells]) (tot := 67) (by simp [hH1, hH2]) (fun g1 hg1 => ?_)
  iterate 7 refine gx ?_
  refine TL.call0 (Wants.none rfl) rfl enters18 rfl rfl (v := .int .i64 (wrongI o n Cs)) (fun w hs => check7_c o n H1 H2 hH1 hH2 A m c Cs (by omega) (by omega) (by omega) hN w (hC.at_ hs (fun b hb => (ne_cons (by show g1 ≠ b; omega) ne_nil)))) ?_
  refine TL.gets (Wants.none rfl) rfl (Gets.isTrue (Gets.neq rfl rfl rfl) hw) ?_
  iterate 2 refine gx ?_
  refine TC.yes rfl ?_
  iterate 7 refine gx ?_
  exact TE.ret1 rfl rfl (fun w hs => ⟨ret_i ((sizeI_0 hw).symm), (hs.drop (by assumption))⟩)

set_option maxRecDepth 100000 in
set_option maxHeartbeats 2000000 in
theorem fsize_yes (o n : Int) (H1 H2 : List Int) (hH1 : H1.length = 32) (hH2 : H2.length = 32) (A : Option Addr) (m c : Nat) (Cs : List CV) (hmc : m ≤ c) (hcm : c ≤ 9223372036854775807) (hN : NumsC Cs) (hL : (encD o n H1 H2 (Cs.map cmC)).length ≤ 100000) (w : World) (hC : SrcC w A m Cs) (hD : DatC w Cs) (hw : wrongI o n Cs = 0) : Calls Try.prog 12 #[.agg ([Value.int .i64 o, Value.int .i64 n] ++ (H1.map (Value.int .u8) ++ (H2.map (Value.int .u8) ++ ([Value.slice A m c])))).toArray] w fun e w' => e = .returned (.int .i64 (sizeI o n H1 H2 Cs)) ∧ St w [] w' := by
  have hm7 : m ≤ 100000 := few_len hC.1 hL
  have hok := wrongI_ok hw
  refine calls_from (args := [.agg ([Value.int .i64 o, Value.int .i64 n] ++ (H1.map (Value.int .u8) ++ (H2.map (Value.int .u8) ++ ([Value.slice A m c])))).toArray]) Try.func12 rfl Try.ntmps12 (by simp) ?_
  refine TC.pr [0] ?_
  iterate 2 refine gx ?_
  refine TL.box (Wants.none rfl) rfl rfl rfl (cs := [Value.int .i64 o, Value.int .i64 n] ++ (H1.map (Value.int .u8) ++ (H2.map (Value.int .u8) ++ ([Value.slice A m c])))) (by simp [Value.cells]) (tot := 67) (by simp [hH1, hH2]) (fun g1 hg1 => ?_)
  iterate 7 refine gx ?_
  refine TL.call0 (Wants.none rfl) rfl enters18 rfl rfl (v := .int .i64 (wrongI o n Cs)) (fun w hs => check7_c o n H1 H2 hH1 hH2 A m c Cs (by omega) (by omega) (by omega) hN w (hC.at_ hs (fun b hb => (ne_cons (by show g1 ≠ b; omega) ne_nil)))) ?_
  refine TL.gets (Wants.none rfl) rfl (Gets.isFalse (Gets.neq rfl rfl rfl) (fun h => h hw)) ?_
  iterate 2 refine gx ?_
  refine TC.no rfl ?_
  iterate 16 refine gx ?_
  refine TC.pr [2, 3, 10, 11, 12] ?_
  refine gx ?_
  refine TC.loop (ι := Nat) (fun i => [(3, .int .i64 (((encCs ((Cs.take (i)).map cmC)).length : Int) + 89)), (10, .slice A m c), (11, .int .i64 (m : Int)), (12, .int .i64 (i : Int))]) (fun i => [⟨g1, 25, [Value.int .i64 o, Value.int .i64 n] ++ (H1.map (Value.int .u8) ++ (H2.map (Value.int .u8) ++ ([Value.slice A m c]))), 67⟩]) (fun i => m - i) (fun i => i ≤ m) 0 (Nat.zero_le _) (Sub.int (i := 3) rfl (by show (89 : Int) = 89 + ((0 : Nat) : Int); omega) (Sub.slice (i := 10) rfl rfl (by first | omega | (dsimp only; omega) | rfl) (by first | omega | (dsimp only; omega) | rfl) (Sub.int (i := 11) rfl (by first | omega | rfl) (Sub.int (i := 12) rfl (by first | omega | rfl) (Sub.nil))))) (fun w h => h) (fun i hC0 => ?_)
  iterate 6 refine gx ?_
  refine TC.split rfl (fun hq1 => ?_) (fun hq1 => ?_)
  · obtain ⟨b, off, hAe, hb, hrw⟩ := hC.some_ (i := i) (by omega)
    subst hAe
    obtain ⟨x, hx⟩ := hC.get (i := i) (by omega)
    have hnx := hN i x hx
    unfold NumC at hnx
    have hlbx := lenV_bd (k := x.k) (l := x.l) (m := x.m) (by omega) (by omega)
    have hvx := hok.2.2 i x hx
    have hdx := hD i x hx
    have hlx : (encCs ((Cs.take i).map cmC)).length + (encC (cmC x)).length ≤ 100000 := by have h := hL; rw [← encD_is (o := o) (n := n) (H1 := H1) (H2 := H2) hC.1, List.length_append] at h; have h2 := encCs_take_le (Cs := Cs) (i := i + 1); rw [enc_take hx, List.length_append] at h2; omega
    have hmx := encC_room hvx hdx.1.1
    have hdl := hdx.1.1
    iterate 6 refine gx ?_
    refine TL.gets (Wants.none rfl) rfl (Gets.idxSlice rfl Try.underlying23 size47 rfl rfl (i := i) (by omega) (by omega) (off' := (off + 5 * i)) (by omega)) ?_
    refine TL.gets (Wants.none rfl) rfl (Gets.loadN rfl agg47 size47 rfl rfl (Row.old (fun jj u h => hrw i x hx jj u h) hb (ne_cons (by show g1 ≠ b; omega) ne_nil))) ?_
    refine TL.al (fun g2 hg2 => ?_)
    iterate 6 refine gx ?_
    refine TL.call0 (Wants.none rfl) rfl enters24 rfl rfl (v := .int .i64 ((encC (cmC x)).length : Int)) (fun w hs => csize_c x hvx hdx.1.1 (by omega) w) ?_
    refine TL.gets (Wants.none rfl) rfl (Gets.add rfl rfl rfl (r := (((encCs ((Cs.take (i)).map cmC)).length : Int) + ((encC (cmC x)).length : Int) + 89)) (w64 (by omega) (by omega))) ?_
    iterate 4 refine gx ?_
    refine TC.pr [3, 10, 11, 12] ?_
    refine gx ?_
    refine TL.gets (Wants.none rfl) rfl (Gets.add rfl rfl rfl (r := ((i : Int) + 1)) (w64 (by omega) (by omega))) ?_
    iterate 2 refine gx ?_
    exact TE.back (i + 1) (by omega) (by omega) (Sub.int (i := 3) rfl (by rw [enc_take hx, List.length_append]; omega) (Sub.slice (i := 10) rfl (by first | rfl | (congr 2; omega)) (by first | omega | (dsimp only; omega) | rfl) (by first | omega | (dsimp only; omega) | rfl) (Sub.int (i := 11) rfl (by first | omega | rfl) (Sub.int (i := 12) rfl (by first | omega | rfl) (Sub.nil))))) (fun w h => (h.drop (by assumption)))
  · obtain rfl : m = i := by omega
    have htk : Cs.take m = Cs := List.take_of_length_le (by have := hC.1; omega)
    iterate 12 refine gx ?_
    exact TE.ret1 rfl rfl (fun w hs => ⟨ret_i (by rw [sizeI_len hw, ← encD_is (o := o) (n := n) (H1 := H1) (H2 := H2) hC.1, htk, List.length_append]; simp [be8_len, be4_len, hH1, hH2, magicB]; omega), (hs.drop (by assumption))⟩)

theorem fsize_c (o n : Int) (H1 H2 : List Int) (hH1 : H1.length = 32) (hH2 : H2.length = 32) (A : Option Addr) (m c : Nat) (Cs : List CV) (hmc : m ≤ c) (hcm : c ≤ 9223372036854775807) (hN : NumsC Cs) (hL : (encD o n H1 H2 (Cs.map cmC)).length ≤ 100000) (w : World) (hC : SrcC w A m Cs) (hD : DatC w Cs) : Calls Try.prog 12 #[.agg ([Value.int .i64 o, Value.int .i64 n] ++ (H1.map (Value.int .u8) ++ (H2.map (Value.int .u8) ++ ([Value.slice A m c])))).toArray] w fun e w' => e = .returned (.int .i64 (sizeI o n H1 H2 Cs)) ∧ St w [] w' := by
  by_cases hw : wrongI o n Cs = 0
  · exact fsize_yes o n H1 H2 hH1 hH2 A m c Cs hmc hcm hN hL w hC hD hw
  · exact fsize_no o n H1 H2 hH1 hH2 A m c Cs hmc hcm hN hL w hC hD hw
end Go.Proofs.Ytclmgfcdnokaiaa
/-
  Maps with few keys, of the call's own: made, filled, looked up; and calls of method values.
-/
namespace Go.Proofs.Ytclmgfcdnokaiaa
set_option linter.unusedVariables false
set_option linter.unusedSimpArgs false
set_option linter.unusedVariables false
open Go Go.RowKit
section
variable {P : Program} {ops : Array Oper} {Q : Exit → Act → World → Prop} {n : Sz} {w0 : World} {L L' : List (Nat × Value)} {H : List Ent}
variable {o : Oper} {rest : List Oper} {v u : Value} {x y z : Operand} {t e k : TypeId} {kq : IntKind}
theorem St.putObj {w : World} {b : Nat} {ob : Obj} (h : St w0 H w) (hb : w0.heap.size ≤ b) (hne : ∀ e ∈ H, e.g ≠ b) : St w0 H { w with heap := w.heap.setIfInBounds b ob } := by
  have hsame : ∀ c, c ≠ b → ({ w with heap := w.heap.setIfInBounds b ob } : World).heap[c]? = w.heap[c]? := by
    intro c hc
    simp only [Array.getElem?_setIfInBounds]
    rw [if_neg (fun h => hc h.symm)]
  refine ⟨h.os, h.tape, h.output, by simpa using h.size, fun d hd => (h.has d hd).of_block (hsame _ (hne d hd)), fun c hc hcn => ?_, h.apart⟩
  exact (hsame c (by omega)).trans (h.old c hc hcn)
theorem TL.makeMap (hg : Wants n ops L o) (hi : inside n o.dst = true) (ho : o.op = .makeMap t none)
    (hr : ∀ w1 b, w0.heap.size ≤ b → b < w1.heap.size → (∀ e ∈ H, e.g ≠ b) → St w0 H w1 → w1.heap[b]? = some (.map #[] 0) → TL P ops Q n w1 rest (put L o.dst (.map (some b))) H) : TL P ops Q n w0 (o :: rest) L H :=
  fun a w hf hs => wpL_wants hg.nd (hg a hf) fun K hK => by
    have hrun : (execOp a.eval o).run P w = .ok (.value (.map (some w.heap.size))) (w.alloc (.map #[] 0)) := by
      simp only [execOp, ho]
      refine run_value ?_
      simp [Instr.makeMap, newObj, Sem.run_bind, Sem.run]
    have hold : ∀ b, b < w.heap.size → (w.alloc (.map #[] 0)).heap[b]? = w.heap[b]? := fun b hb => Below.heap_alloc w _ b hb
    have hst : St w0 H (w.alloc (.map #[] 0)) := ⟨hs.os, hs.tape, hs.output, by simp; have := hs.size; omega, fun d hd => (hs.has d hd).of_block (hold _ (hs.has d hd).lt),
      fun b hb hne => (hold b (Nat.lt_of_lt_of_le hb hs.size)).trans (hs.old b hb hne), hs.apart⟩
    unfold Oper.wp; rw [hrun]
    exact hK _ _ (hr _ w.heap.size hs.size (by simp) (fun e he => by have := (hs.has e he).lt; omega) hst (heap_alloc_new w _) _ _ (hf.put o.dst _ hi) hst.self)
theorem TL.insertM {w1 : World} {H0 : List Ent} {b c : Nat} {es : Array MapEntry} {q : Int} (hw : St w0 H0 w1) (hgs : H.map Ent.g = H0.map Ent.g) (hb : w0.heap.size ≤ b) (hne : ∀ e ∈ H, e.g ≠ b) (hM : w1.heap[b]? = some (.map es c))
    (hg : Wants n ops L o) (hd : o.dst = none) (ho : o.op = .insert t x y z) (h1 : P.underlying t = some (.map k e)) (hk : P.underlying k = some (.int kq))
    (hx : ev L x = some (.map (some b))) (hy : ev L y = some (.int kq q)) (hz : ev L z = some v) (hfind : Instr.findNow (.int kq) (.int kq q) es.toList 0 = some none)
    (hr : ∀ w2, St w0 H w2 → b < w2.heap.size → w2.heap[b]? = some (.map (es.push ⟨.int kq q, v, c⟩) (c + 1)) → TL P ops Q n w2 rest L H) : TL P ops Q n w1 (o :: rest) L H :=
  fun a w hf hs => wpL_wants hg.nd (hg a hf) fun K hK => by
    have hb1 : b < w1.heap.size := (Array.getElem?_eq_some_iff.1 hM).1
    have hbm : w.heap[b]? = some (.map es c) := (hs.old b hb1 hne).trans hM
    have hrun : (execOp a.eval o).run P w = .ok .skip { w with heap := w.heap.setIfInBounds b (.map (es.push ⟨.int kq q, v, c⟩) (c + 1)) } := by
      simp only [execOp, ho, hf.eval hx, hf.eval hy, hf.eval hz]
      refine run_unit ?_
      simp [Instr.mapUpdate, Sem.run_bind, run_under h1, MapKept.run_getObj_map hbm, MapKept.run_checkKey hk (k := .int kq q) (by simp [MapKept.IsKey]), MapKept.run_findKey hk hfind, MapKept.run_setObj_map _ hbm]
    have h0 : St w0 H w := by
      have a1 : St w0 (H0 ++ []) w1 := by rw [List.append_nil]; exact hw
      have a2 : St w1 (H ++ []) w := by rw [List.append_nil]; exact hs
      have := St.turns a1 a2 hgs (by intro e he; cases he)
      simpa using this
    have hst := h0.putObj (ob := .map (es.push ⟨.int kq q, v, c⟩) (c + 1)) hb hne
    have hlt : b < w.heap.size := Nat.lt_of_lt_of_le hb1 hs.size
    unfold Oper.wp; rw [hrun]
    refine hK _ _ ?_
    rw [hd]
    exact hr _ hst (by simpa using hlt) (by simp [hlt]) _ _ hf hst.self
theorem run_lookupM {w : World} {b c : Nat} {es : Array MapEntry} {q : Int} {ck : Bool} {r : Option (Nat × Value)} {zv : Value} (hM : w.heap[b]? = some (.map es c)) (h1 : P.underlying t = some (.map k e)) (hk : P.underlying k = some (.int kq)) (hzv : (P.info? e).bind (·.zero) = some zv)
    (hfind : Instr.findNow (.int kq) (.int kq q) es.toList 0 = some r) : (Instr.lookup t (.map (some b)) (.int kq q) ck).run P w = .ok (let v := match r with | some (_, u) => u | none => zv; if ck then .tuple #[v, .bool r.isSome] else v) w := by
  cases r with
  | none => simp [Instr.lookup, Sem.run_bind, run_under h1, MapKept.run_getObj_map hM, MapKept.run_checkKey hk (k := .int kq q) (by simp [MapKept.IsKey]), MapKept.run_findKey hk hfind, run_zero hzv]
  | some p => obtain ⟨i, u⟩ := p; simp [Instr.lookup, Sem.run_bind, run_under h1, MapKept.run_getObj_map hM, MapKept.run_checkKey hk (k := .int kq q) (by simp [MapKept.IsKey]), MapKept.run_findKey hk hfind]
theorem Gets.lookYes {b c i : Nat} {es : Array MapEntry} {q : Int} {zv : Value} (hM : w0.heap[b]? = some (.map es c)) (hne : ∀ e ∈ H, e.g ≠ b) (ho : o.op = .lookup t x y true) (h1 : P.underlying t = some (.map k e)) (hk : P.underlying k = some (.int kq)) (hzv : (P.info? e).bind (·.zero) = some zv)
    (hx : ev L x = some (.map (some b))) (hy : ev L y = some (.int kq q)) (hfind : Instr.findNow (.int kq) (.int kq q) es.toList 0 = some (some (i, v))) : Gets P n w0 o L H (.tuple #[v, .bool true]) := fun a w hf hs => by
  have hbm : w.heap[b]? = some (.map es c) := (hs.old b (Array.getElem?_eq_some_iff.1 hM).1 hne).trans hM
  simp only [execOp, ho, hf.eval hx, hf.eval hy]
  refine run_value ?_
  rw [run_lookupM hbm h1 hk hzv hfind]; rfl
theorem Gets.lookNo {b c : Nat} {es : Array MapEntry} {q : Int} {zv : Value} (hM : w0.heap[b]? = some (.map es c)) (hne : ∀ e ∈ H, e.g ≠ b) (ho : o.op = .lookup t x y true) (h1 : P.underlying t = some (.map k e)) (hk : P.underlying k = some (.int kq)) (hzv : (P.info? e).bind (·.zero) = some zv)
    (hx : ev L x = some (.map (some b))) (hy : ev L y = some (.int kq q)) (hfind : Instr.findNow (.int kq) (.int kq q) es.toList 0 = some none) : Gets P n w0 o L H (.tuple #[zv, .bool false]) := fun a w hf hs => by
  have hbm : w.heap[b]? = some (.map es c) := (hs.old b (Array.getElem?_eq_some_iff.1 hM).1 hne).trans hM
  simp only [execOp, ho, hf.eval hx, hf.eval hy]
  refine run_value ?_
  rw [run_lookupM hbm h1 hk hzv hfind]; rfl
/-! ### Finding a key -/
theorem find_nil {q : Int} {j : Nat} : Instr.findNow (.int kq) (.int kq q) [] j = some none := rfl
theorem find_yes {q : Int} {j c : Nat} {u : Value} {es : List MapEntry} : Instr.findNow (.int kq) (.int kq q) (⟨.int kq q, u, c⟩ :: es) j = some (some (j, u)) := by
  simp [Instr.findNow, Instr.sameNow]
theorem find_no {q q' : Int} {j c : Nat} {u : Value} {es : List MapEntry} {r : Option (Nat × Value)} (h : q ≠ q') (hr : Instr.findNow (.int kq) (.int kq q) es (j + 1) = some r) : Instr.findNow (.int kq) (.int kq q) (⟨.int kq q', u, c⟩ :: es) j = some r := by
  have hq : (q == q') = false := by simpa using h
  simp [Instr.findNow, Instr.sameNow, hq, hr]
theorem find_is {q q' : Int} {j c : Nat} {u : Value} {es : List MapEntry} (h : q = q') : Instr.findNow (.int kq) (.int kq q) (⟨.int kq q', u, c⟩ :: es) j = some (some (j, u)) := by subst h; exact find_yes
/-! ### Calls of method values -/
theorem run_enterG {f : FuncId} {tt : Nat} {la lb : List Value} {xs : List Operand} {ts : Array TypeId} {vs : List Value} {a : Act} {w : World} (h : Enters P f) (ho : o.op = .call { callee := .value (.tmp tt), args := xs.toArray, argTypes := ts }) (hf : Fr n L a)
    (ht : look L tt = some (.func (.func f) la.toArray lb.toArray)) (hx : evs L xs = some vs) : (execOp a.eval o).run P w = .ok (.enter f (la ++ vs ++ lb).toArray) w := by
  have hm := hf.evals hx
  have hev : a.eval (.tmp tt) = .func (.func f) la.toArray lb.toArray := hf.eval (x := .tmp tt) ht
  simp only [execOp, ho, resolve, hev, Deferred.ofValue, Sem.run_bind, Sem.run_pure, Result.andThen_ok, List.map_toArray, hm, invoke]
  simp [run_call h]
theorem TL.callG {ι : Type} {f : FuncId} {tt : Nat} {la lb : List Value} {xs : List Operand} {ts : Array TypeId} {vs : List Value} {V : ι → Value} {R : ι → Prop} {H' : ι → List Ent} (hg : Wants n ops L o) (hi : inside n o.dst = true) (h : Enters P f)
    (ho : o.op = .call { callee := .value (.tmp tt), args := xs.toArray, argTypes := ts }) (ht : look L tt = some (.func (.func f) la.toArray lb.toArray)) (hx : evs L xs = some vs)
    (hc : ∀ w, St w0 H w → Calls P f (la ++ vs ++ lb).toArray w fun e w' => ∃ i, e = .returned (V i) ∧ R i ∧ St w0 (H' i) w')
    (hr : ∀ i, R i → TL P ops Q n w0 rest (put L o.dst (V i)) (H' i)) : TL P ops Q n w0 (o :: rest) L H :=
  fun a w hf hs => wpL_wants hg.nd (hg a hf) fun K hK => by
    unfold Oper.wp; rw [run_enterG h ho hf ht hx]
    refine (hc w hs).mono ?_
    rintro e w' ⟨i, rfl, hR, hs'⟩
    exact hK _ _ (hr i hR _ _ (hf.put o.dst _ hi) hs')
/-! ### Two structs of two numbers, unequal -/
theorem Gets.pairNe {kd : IntKind} {t' : TypeId} {f0 f1 : Field} {a b c d : Int} {k0 k1 : IntKind} (ho : o.op = .binOp .neq t x y t') (h1 : P.underlying t = some (.struct #[f0, f1])) (hn0 : f0.name ≠ "_") (hn1 : f1.name ≠ "_") (ho0 : f0.offset = 0) (ho1 : f1.offset = 1)
    (ht0 : P.underlying f0.type = some (.int k0)) (ht1 : P.underlying f1.type = some (.int k1)) (hsi : P.stoodInHeld t = false) (hgt : P.eqGuardType P.depth t = false)
    (hx : ev L x = some (.agg [Value.int kd a, Value.int kd b].toArray)) (hy : ev L y = some (.agg [Value.int kd c, Value.int kd d].toArray)) : Gets P n w0 o L H (.bool (decide (¬ (a = c ∧ b = d)))) := fun ac w hf hs => by
  simp only [execOp, ho, hf.eval hx, hf.eval hy]
  refine run_value ?_
  have hg := run_eqGuard_agg (P := P) w .neq t x y [Value.int kd a, Value.int kd b].toArray [Value.int kd c, Value.int kd d].toArray hgt
  have hp := fun (ty : TypeId) (kk : IntKind) (l : List Value) (i : Nat) (v : Value) (ht : P.underlying ty = some (.int kk)) (hv : l[i]? = some v) (w : World) => run_part1 (P := P) (cs := l.toArray) (isAgg_no ht rfl) (by simpa using hv) w
  simp only [Sem.run_bind, hg, Result.andThen_ok]
  rw [run_neq_struct, run_equalIn_struct w 9999 t _ _ (by rw [fieldsOf_is h1]; exact h1) hsi, fieldsOf_is h1]
  simp only [Op.eqFields, Sem.run_bind, ne_eq, hn0, hn1, not_false_eq_true, if_true, ho0, ho1,
    hp f0.type k0 [Value.int kd a, Value.int kd b] 0 _ ht0 rfl, hp f0.type k0 [Value.int kd c, Value.int kd d] 0 _ ht0 rfl, hp f1.type k1 [Value.int kd a, Value.int kd b] 1 _ ht1 rfl, hp f1.type k1 [Value.int kd c, Value.int kd d] 1 _ ht1 rfl, Result.andThen_ok]
  have e0 := run_equalIn_int (P := P) w 9998 f0.type kd k0 a c ht0
  have e1 := run_equalIn_int (P := P) w 9998 f1.type kd k1 b d ht1
  rw [show (9998 + 1) = 9999 from rfl] at e0 e1
  have q1 := hp f1.type k1 [Value.int kd a, Value.int kd b] 1 _ ht1 rfl
  have q2 := hp f1.type k1 [Value.int kd c, Value.int kd d] 1 _ ht1 rfl
  rw [e0]
  by_cases hac : a = c
  · subst hac
    simp only [beq_self_eq_true, Result.andThen_ok, Bool.not_true, Bool.false_eq_true, if_false, Sem.run_bind, q1, q2]
    rw [e1]
    by_cases hbd : b = d
    · subst hbd
      simp only [beq_self_eq_true, Result.andThen_ok, Bool.not_true, Bool.false_eq_true, if_false, Sem.run_pure]
      simp
    · have : (b == d) = false := by simpa using hbd
      simp [this, hbd]
  · have : (a == c) = false := by simpa using hac
    simp [this, hac]
end
end Go.Proofs.Ytclmgfcdnokaiaa
/-
  Insertion: where a command is put into a sorted list of commands.
-/
namespace Go.Proofs.Ytclmgfcdnokaiaa
set_option linter.unusedVariables false
set_option linter.unusedSimpArgs false
set_option linter.unusedVariables false
open Go Go.RowKit
structure WS where
  i : Nat
  v : Value
  Es : List CV
  He : List Ent
theorem ValidC.perm {o n : Int} {Cs Es : List CV} (h : ValidC o n Cs) (hp : Es.Perm Cs) : tidyT 0 n (Es.map tg) ∧ coverT 0 n (Es.map tg) ∧ sumT (Es.map tg) = n := ⟨h.tidy.perm (hp.symm.map tg), h.cover.perm (hp.symm.map tg), by rw [sumT_perm (hp.map tg)]; exact h.sum⟩
end Go.Proofs.Ytclmgfcdnokaiaa
/-
  Commands that a callee has made; what the check of a delta depends on; a delta without a command, and with one twice; the chapter's example.
-/
namespace Go.Proofs.Ytclmgfcdnokaiaa
set_option linter.unusedVariables false
set_option linter.unusedSimpArgs false
set_option linter.unusedVariables false
open Go Go.RowKit
/-- Commands in memory of the callee's own. -/
def OwnD (N : Nat) (A : Option Addr) (m : Nat) (Es : List CV) (He : List Ent) : Prop := (∀ e ∈ He, N ≤ e.g) ∧ NumsC Es ∧ (m = 0 ∨ ∃ b off, A = some ⟨b, off, none⟩) ∧ ∀ w : World, (∀ e ∈ He, e.lies w) → SrcC w A m Es ∧ DatC w Es
theorem OwnD.mono {N N' m : Nat} {A : Option Addr} {Es : List CV} {He : List Ent} (h : OwnD N' A m Es He) (hN : N ≤ N') : OwnD N A m Es He := ⟨fun e he => Nat.le_trans hN (h.1 e he), h.2⟩
theorem OwnD.num {N m : Nat} {A : Option Addr} {Es : List CV} {He : List Ent} (h : OwnD N A m Es He) : NumsC Es := h.2.1
theorem OwnD.src {N m : Nat} {A : Option Addr} {Es : List CV} {He : List Ent} (h : OwnD N A m Es He) {w : World} (hs : ∀ e ∈ He, e.lies w) : SrcC w A m Es := (h.2.2.2 w hs).1
theorem OwnD.dat {N m : Nat} {A : Option Addr} {Es : List CV} {He : List Ent} (h : OwnD N A m Es He) {w : World} (hs : ∀ e ∈ He, e.lies w) : DatC w Es := (h.2.2.2 w hs).2
/-- The same commands, wherever their data lie. -/
def keyE (x : CV) : (Int × Int × Int × Int × List Int) × Nat := (valC x, x.m)
def sameE (Fs Gs : List CV) : Prop := Fs.map keyE = Gs.map keyE
theorem sameE.c {Fs Gs : List CV} (h : sameE Fs Gs) : sameC Fs Gs := by
  have := congrArg (List.map Prod.fst) h
  rw [List.map_map, List.map_map] at this; exact this
theorem sameE.len {Fs Gs : List CV} (h : sameE Fs Gs) : Fs.length = Gs.length := sameC_len h.c
/-- Few commands with few bytes, one more than the laws ask for. -/
def fewQ (Cs : List CV) : Prop := (∀ (i : Nat) (x : CV), Cs[i]? = some x → x.m ≤ 300) ∧ Cs.length ≤ 50
theorem fewP.q {Cs : List CV} (h : fewP Cs) : fewQ Cs := ⟨h.1, by have := h.2; omega⟩
theorem fewQ.sub {Cs Es : List CV} (h : fewP Cs) (hs : ∀ x ∈ Es, x ∈ Cs) (hl : Es.length ≤ 50) : fewQ Es := ⟨fun i x hx => by
  obtain ⟨j, hj⟩ := List.mem_iff_getElem?.1 (hs x (List.mem_of_getElem? hx))
  exact h.1 j x hj, hl⟩
theorem NumsC.sub {Cs Es : List CV} (h : NumsC Cs) (hs : ∀ x ∈ Es, x ∈ Cs) : NumsC Es := fun i x hx => by
  obtain ⟨j, hj⟩ := List.mem_iff_getElem?.1 (hs x (List.mem_of_getElem? hx))
  exact h j x hj
theorem DatC.sub {w : World} {Cs Es : List CV} (h : DatC w Cs) (hs : ∀ x ∈ Es, x ∈ Cs) : DatC w Es := fun i x hx => by
  obtain ⟨j, hj⟩ := List.mem_iff_getElem?.1 (hs x (List.mem_of_getElem? hx))
  exact h j x hj
theorem sameE.m {Fs Gs : List CV} (h : sameE Fs Gs) {i : Nat} {x y : CV} (hx : Fs[i]? = some x) (hy : Gs[i]? = some y) : x.m = y.m := by
  have h1 := congrArg (·[i]?) h
  simp only [List.getElem?_map, hx, hy, Option.map_some, Option.some.injEq] at h1
  exact congrArg Prod.snd h1
theorem fewQ.same {Cs Es : List CV} (h : fewQ Cs) (hs : sameE Es Cs) : fewQ Es := by
  have hl := hs.len
  refine ⟨fun i x hx => ?_, by rw [hl]; exact h.2⟩
  have hi := (List.getElem?_eq_some_iff.1 hx).1
  have hy : Cs[i]? = some Cs[i] := List.getElem?_eq_getElem (by omega)
  have h5 := h.1 i _ hy
  have := hs.m hx hy
  omega
/-! ### What the check depends on -/
def normC (x : CV) : CV := { x with A := none, c := 0, B := [] }
theorem sameE.n {Cs Es : List CV} (h : sameE Es Cs) : Es.map normC = Cs.map normC := by
  have := congrArg (List.map fun (q : (Int × Int × Int × Int × List Int) × Nat) => (⟨q.1.1, q.1.2.1, q.1.2.2.1, q.1.2.2.2.1, none, q.2, 0, []⟩ : CV)) h
  rw [List.map_map, List.map_map] at this; exact this
theorem sameE.tg {Cs Es : List CV} (h : sameE Es Cs) : Es.map tg = Cs.map tg := by
  have := congrArg (List.map Proofs.Ytclmgfcdnokaiaa.tg) h.n
  rw [List.map_map, List.map_map] at this; exact this
/-! ### A delta without one command, and with one twice -/
/-! ### The sorted delta -/
/-! ### The chapter's example -/
end Go.Proofs.Ytclmgfcdnokaiaa
namespace Go.Proofs.Ytclmgfcdnokaiaa
set_option linter.unusedVariables false
set_option linter.unusedSimpArgs false
set_option linter.unusedVariables false
open Go Go.RowKit
section
variable {P : Program} {ops : Array Oper} {Q : Exit → Act → World → Prop} {n : Sz} {w0 : World} {L L' : List (Nat × Value)} {HB H : List Ent}
variable {o : Oper} {rest : List Oper} {v u : Value} {x y z : Operand} {k m j : Nat} {t t' e : TypeId} {ks : List Nat} {kd : IntKind}
theorem TP.copy {i g off dl dc sl sc : Nat} {ent : Ent} {A : Option Addr} {B : List Int} (hg : Wants n ops L o) (hi' : inside n o.dst = true) (ho : o.op = .call { callee := .builtin .copy, args := #[x, y], argTypes := #[t, t'] })
    (h1 : P.underlying t = some (.slice e)) (hsz : (P.info? e).map (·.size) = some 1)
    (hx : ev L x = some (.slice (some ⟨g, off, none⟩) dl dc)) (hy : ev L y = some (.slice A sl sc)) (hi : (HB ++ H)[i]? = some ent) (he : ent.g = g) (hoff : off + dl ≤ ent.cs.length)
    (hsrc : ∀ w, St w0 (HB ++ H) w → Src w A sl kd B) {c : Nat} (hc : min sl dl = c)
    {cs' : List Value} (hcs : ent.cs.take off ++ (B.take c).map (Value.int kd) ++ ent.cs.drop (off + c) = cs') {H' : List Ent} (hH : (HB ++ H).set i ⟨ent.g, ent.t, cs', ent.tot⟩ = HB ++ H')
    (hr : TP P ops Q n w0 HB ks rest (put L o.dst (.int .i64 c)) H') : TP P ops Q n w0 HB (3 :: ks) (o :: rest) L H := by
  refine TP.value (ι := Unit) (V := fun _ => .int .i64 c) (R := fun _ => True) (H' := fun _ => H') hg hi' (fun a w hf hs => ?_) fun _ _ => hr
  subst hc; subst hcs
  have hB := hsrc w hs
  have hlen : ((B.take (min sl dl)).map (Value.int kd)).length = min sl dl := by simp; have := hB.1; omega
  obtain ⟨w', hrun, hs'⟩ := run_storeCells (P := P) (i := i) (g := g) (ent := ent) (off := off) ((B.take (min sl dl)).map (Value.int kd)) 0 (HB ++ H) ent w he hs hi ints_one (by rw [hlen]; omega)
  have hrun' : (execOp a.eval o).run P w = .ok (.value (.int .i64 (min sl dl : Nat))) w' := by
    simp only [execOp, ho, resolve, invoke, builtin, Sem.run_bind, Sem.run_pure, Result.andThen_ok, List.map_toArray, List.map_cons, List.map_nil, hf.eval hx, hf.eval hy]
    have h5 : (Builtin.copy_ #[t, t'] o.type #[.slice (some ⟨g, off, none⟩) dl dc, .slice A sl sc]).run P w = .ok (.int .i64 (min sl dl : Nat)) w' := by
      unfold Builtin.copy_
      simp only [List.getElem?_toArray, List.getElem?_cons_zero, List.getElem?_cons_succ, Sem.run_bind, run_under h1, Result.andThen_ok, Builtin.lenOf, Sem.run_pure, run_size hsz]
      have h6 := run_cells (P := P) (c := sc) hB (i := Nat.min sl dl) (Nat.min_le_left _ _)
      rw [h6]
      simp only [Result.andThen_ok]
      have h7 : (storeCells ⟨g, off, none⟩ ((B.take (Nat.min sl dl)).map (Value.int kd)) 0).run P w = .ok () w' := hrun
      rw [h7]
      rfl
    rw [h5]; rfl
  rw [hlen] at hs'
  refine ⟨(), w', hrun', trivial, ?_⟩
  rw [← hH]; simpa using hs'
/-- Back to the world from before. -/
theorem TE.rebase {w1 : World} {ex : Exit} {H0 H1 E : List Ent} (hw : St w0 H0 w1) (hg : H1.map Ent.g = H0.map Ent.g) (hE : Fresh w1 E) (h : TE Q ex n w0 L (H1 ++ E)) : TE Q ex n w1 L (H1 ++ E) := fun a w' hf hs => h a w' hf (by
  have h1 : St w0 (H0 ++ []) w1 := by rw [List.append_nil]; exact hw
  have := St.turns h1 hs hg hE
  rwa [List.append_nil] at this)
theorem TE.ret2CC {fn : Func} {R : Ending → World → Prop} {i j g off s g2 off2 s2 : Nat} {vs us : List Value} (hres : fn.results = #[.cell i t, .cell j t']) (hag : (isAgg t).run P = fun w => .ok true w) (hsz : (P.info? t).map (·.size) = some s)
    (hag2 : (isAgg t').run P = fun w => .ok true w) (hsz2 : (P.info? t').map (·.size) = some s2)
    (hx : look L i = some (.pointer (some ⟨g, off, none⟩))) (hl : vs.length = s) (hc : Row w0 H g off vs) (hy : look L j = some (.pointer (some ⟨g2, off2, none⟩))) (hl2 : us.length = s2) (hc2 : Row w0 H g2 off2 us)
    (h : ∀ w, St w0 H w → R (.returned (.tuple #[.agg vs.toArray, .agg us.toArray])) w) (hds : n.ds = [] := by rfl) : TE (bodyPost P fn R) .ret n w0 L H := fun a w hf hs => by
  refine ⟨hf.1.trans hds, .tuple #[.agg vs.toArray, .agg us.toArray], ?_, h w hs⟩
  have h1 : (a.tmps.getD i undef) = .pointer (some ⟨g, off, none⟩) := by simp [Array.getD_eq_getD_getElem?, hf.2.2 i _ hx]
  have h3 : (a.tmps.getD j undef) = .pointer (some ⟨g2, off2, none⟩) := by simp [Array.getD_eq_getD_getElem?, hf.2.2 j _ hy]
  have h2 := run_loadCells (P := P) (w := w) (b := g) (off := off) s 0 #[] vs hl (fun j u hu => by rw [Nat.zero_add]; exact hc w hs j u hu)
  have h4 := run_loadCells (P := P) (w := w) (b := g2) (off := off2) s2 0 #[] us hl2 (fun j u hu => by rw [Nat.zero_add]; exact hc2 w hs j u hu)
  simp only [results, hres]
  simp [Sem.run_bind, loadVar, hag, hag2, run_size hsz, run_size hsz2, loadCells]
  simp only [Array.getD_eq_getD_getElem?] at h1 h3
  simp [h1, h3, asAddr, h2, h4]
end
/-! ### Commands whose bytes lie in blocks of the call's own -/
def OwnL (N : Nat) (Es : List CV) (HD : List Ent) : Prop := (∀ e ∈ HD, N ≤ e.g) ∧ NumsC Es ∧ ∀ w : World, (∀ e ∈ HD, e.lies w) → DatC w Es
theorem OwnL.nil (N : Nat) : OwnL N [] [] := ⟨(fun e he => by cases he), (fun i x hx => by simp at hx), (fun w _ i x hx => by simp at hx)⟩
theorem OwnL.snoc {N t : Nat} {Es : List CV} {HD He : List Ent} {y : CV} (h : OwnL N Es HD) (hy : Own N t .u8 (.slice y.A y.m y.c) y.B He) (hn : NumC y) (hb : Bytes y.B) : OwnL N (Es ++ [y]) (HD ++ He) := by
  refine ⟨fun e he => (List.mem_append.1 he).elim (h.1 e) (hy.new e), fun i x hx => ?_, fun w hw i x hx => ?_⟩
  · rcases List.mem_append.1 (List.mem_of_getElem? hx) with hm | hm
    · obtain ⟨q, hq⟩ := List.mem_iff_getElem?.1 hm
      exact h.2.1 q x hq
    · rw [List.mem_singleton.1 hm]; exact hn
  · rcases List.mem_append.1 (List.mem_of_getElem? hx) with hm | hm
    · obtain ⟨q, hq⟩ := List.mem_iff_getElem?.1 hm
      exact h.2.2 w (fun e he => hw e (List.mem_append.2 (.inl he))) q x hq
    · rw [List.mem_singleton.1 hm]
      exact ⟨hy.srcOf fun e he => hw e (List.mem_append.2 (.inr he)), hb⟩
theorem ownD_of {N t m c : Nat} {A : Option Addr} {Es : List CV} {HD HS : List Ent} (h1 : OwnS N t 5 (.slice A m c) m (flatC Es) HS) (h2 : OwnL N Es HD) : OwnD N A m Es (HD ++ HS) := by
  refine ⟨fun e he => (List.mem_append.1 he).elim (h2.1 e) (h1.new e), h2.2.1, ?_, fun w hw => ⟨h1.srcC fun e he => hw e (List.mem_append.2 (.inr he)), h2.2.2 w fun e he => hw e (List.mem_append.2 (.inl he))⟩⟩
  rcases h1.2 with ⟨_, h3, _⟩ | ⟨g, cap, h3, _⟩
  · exact .inl h3
  · cases h3; exact .inr ⟨g, 0, rfl⟩
theorem OwnL.mono {N N' : Nat} {Es : List CV} {HD : List Ent} (h : OwnL N' Es HD) (hN : N ≤ N') : OwnL N Es HD := ⟨fun e he => Nat.le_trans hN (h.1 e he), h.2⟩
/-! ### A command of an unknown kind -/
theorem rCmd_bad {B : List Int} {s : RS} {x : Int × RS} (hx : rUint B s 1 = x) (h1 : ¬ x.1 = 1) (h2 : ¬ x.1 = 2) : (rCmd B s).2 = rFail x.2 11 (s.k : Int) ∧ (rFail x.2 11 (s.k : Int)).co ≠ 0 := by
  have hz : kindF x.2 x.1 s.k = rFail x.2 11 (s.k : Int) ∧ (rFail x.2 11 (s.k : Int)).co ≠ 0 := by
    by_cases h : x.2.co = 0
    · refine ⟨by unfold kindF; rw [if_pos ⟨h, h1, h2⟩], ?_⟩
      unfold rFail; rw [if_pos ⟨h, by decide⟩]; show (11 : Int) ≠ 0; decide
    · rw [kindF_dead h, rFail_dead h]; exact ⟨rfl, h⟩
  refine ⟨?_, hz.2⟩
  unfold rCmd
  dsimp only
  rw [hx, hz.1, if_neg h1]
  simp only [rLen_dead hz.2, rBytes_dead hz.2]
theorem RI.po0 {B : List Int} {s : RS} (h : RI B s) : (s.co = 0 ∧ s.po = 0) ↔ s.co = 0 := ⟨fun h => h.1, fun h0 => ⟨h0, (h.2.resolve_right fun h2 => h2.1 h0).2⟩⟩
theorem rBytes_bytes {B : List Int} (hB : Bytes B) (s : RS) (n : Nat) : Bytes (rBytes B s n).1 := by
  unfold rBytes
  split
  · split
    · intro x hx; cases hx
    · exact (hB.drop _).take _
  · intro x hx; cases hx
theorem rBytes_len {B : List Int} (s : RS) (n : Nat) : (rBytes B s n).1.length ≤ B.length := by
  unfold rBytes
  split
  · split
    · exact Nat.zero_le _
    · show ((B.drop s.k).take n).length ≤ _; rw [List.length_take, List.length_drop]; omega
  · exact Nat.zero_le _
theorem St.trans7 {w0 w1 w : World} {H0 H1 : List Ent} (h1 : St w0 H0 w1) (h2 : St w1 H1 w) (hg : H1.map Ent.g = H0.map Ent.g) : St w0 H1 w := by
  have a1 : St w0 (H0 ++ []) w1 := by rw [List.append_nil]; exact h1
  have a2 : St w1 (H1 ++ []) w := by rw [List.append_nil]; exact h2
  have := St.turns a1 a2 hg (by intro e he; cases he)
  simpa using this
theorem Src.frz {w0 w1 w : World} {H0 H1 : List Ent} {b m : Nat} {kd : IntKind} {B : List Int} (h : Src w1 (some ⟨b, 0, none⟩) m kd B) (h1 : St w0 H0 w1) (h2 : St w1 H1 w) (hg : H1.map Ent.g = H0.map Ent.g) (hb : b < w1.heap.size) (hne : ∀ e ∈ H1, e.g ≠ b) : Src w (some ⟨b, 0, none⟩) m kd B := by
  refine ⟨h.1, h.2.imp id ?_⟩
  rintro ⟨b', off, h3, h4, h5⟩
  cases h3
  refine ⟨b, 0, rfl, Nat.lt_of_lt_of_le hb h2.size, fun j hj => ?_⟩
  rw [h2.old_cell (ad := ⟨b, _, none⟩) hb hne]
  exact h5 j hj
end Go.Proofs.Ytclmgfcdnokaiaa
