/-
  The reader of layer 6: Uint, Length.
-/
import Derived.Test.YtdllgfkcakhoeaaWcD
import Derived.Test.YtdllgfkcakhoeaaAuto
namespace Go.Proofs.Ytdllgfkcakhoeaa
set_option linter.unusedVariables false
set_option linter.unusedSimpArgs false
open Go Go.RowKit
theorem enters12 : Enters Try.prog 12 := ⟨_, Try.func12, by kernel_rfl, by kernel_rfl⟩
theorem enters14 : Enters Try.prog 14 := ⟨_, Try.func14, by kernel_rfl, by kernel_rfl⟩
theorem enters17 : Enters Try.prog 17 := ⟨_, Try.func17, by kernel_rfl, by kernel_rfl⟩
theorem enters26 : Enters Try.prog 26 := ⟨_, Try.func26, by kernel_rfl, by kernel_rfl⟩
theorem enters27 : Enters Try.prog 27 := ⟨_, Try.func27, by kernel_rfl, by kernel_rfl⟩
theorem enters30 : Enters Try.prog 30 := ⟨_, Try.func30, by kernel_rfl, by kernel_rfl⟩
theorem enters32 : Enters Try.prog 32 := ⟨_, Try.func32, by kernel_rfl, by kernel_rfl⟩
theorem enters33 : Enters Try.prog 33 := ⟨_, Try.func33, by kernel_rfl, by kernel_rfl⟩
theorem zero34 : (Try.prog.info? 34).bind (·.zero) = some (.int .u64 0) := by kernel_rfl
instance : Zer Try.prog 34 [Value.int .u64 0] := ⟨⟨_, zero34, rfl⟩⟩
set_option maxRecDepth 100000 in
set_option maxHeartbeats 400000 in
theorem read_dead (g : Nat) (A : Option Addr) (m c k : Nat) (co po n : Int) (u : Value) (hco : co ≠ 0) (w : World) (hl : Ent.lies ⟨g, 63, rdC A m c k co po, rdN⟩ w)  : Calls Try.prog 26 #[.pointer (some ⟨g, 0, none⟩), .int .i64 n, u] w fun e w' => e = .returned (.tuple #[]) ∧ St w [] w' := by
  refine calls_from (args := [.pointer (some ⟨g, 0, none⟩), .int .i64 n, u]) Try.func26 rfl Try.ntmps26 (by simp) ?_
  refine TC.pr [0, 1, 2] ?_
  refine TC.heap (H' := [⟨g, 63, [Value.slice A m c, Value.int .i64 (k : Int), Value.int .i64 co, Value.int .i64 po], 4⟩]) (fun w hs => hs.take hl ne_nil) ?_
  iterate 4 refine gx ?_
  refine TL.call0 (Wants.none rfl) rfl enters29 rfl rfl (v := .bool false) (fun w hs => calls_no hco (ready_c g A m c k co po w (hs.has (⟨g, 63, [Value.slice A m c, Value.int .i64 (k : Int), Value.int .i64 co, Value.int .i64 po], 4⟩) (by simp)))) ?_
  iterate 3 refine gx ?_
  refine TC.yes rfl ?_
  iterate 2 refine gx ?_
  exact TE.ret0 rfl (fun w hs => ⟨rfl, (hs.same hl rfl)⟩)

set_option maxRecDepth 100000 in
set_option maxHeartbeats 400000 in
theorem read_nil (n : Int) (u : Value) (w : World) : Calls Try.prog 26 #[.pointer none, .int .i64 n, u] w fun e w' => e = .returned (.tuple #[]) ∧ St w [] w' := by
  refine calls_from (args := [.pointer none, .int .i64 n, u]) Try.func26 rfl Try.ntmps26 (by simp) ?_
  refine TC.pr [0, 1, 2] ?_
  iterate 4 refine gx ?_
  refine TL.call0 (Wants.none rfl) rfl enters29 rfl rfl (v := .bool false) (fun w hs => ready_nil w) ?_
  iterate 3 refine gx ?_
  refine TC.yes rfl ?_
  iterate 2 refine gx ?_
  exact TE.ret0 rfl (fun w hs => ⟨rfl, hs⟩)

set_option maxRecDepth 100000 in
set_option maxHeartbeats 400000 in
theorem read_short (g : Nat) (A : Option Addr) (m c k : Nat) (po n : Int) (u : Value) (hn : (m : Int) - (k : Int) < n) (w : World) (hl : Ent.lies ⟨g, 63, rdC A m c k 0 po, rdN⟩ w) (hk : k ≤ m) (hmc : m ≤ c) (hcm : c ≤ 9223372036854775807)  : Calls Try.prog 26 #[.pointer (some ⟨g, 0, none⟩), .int .i64 n, u] w fun e w' => e = .returned (.tuple #[]) ∧ St w [⟨g, 63, rdC A m c k 8 (m : Int), rdN⟩] w' := by
  refine calls_from (args := [.pointer (some ⟨g, 0, none⟩), .int .i64 n, u]) Try.func26 rfl Try.ntmps26 (by simp) ?_
  refine TC.pr [0, 1, 2] ?_
  refine TC.heap (H' := [⟨g, 63, [Value.slice A m c, Value.int .i64 (k : Int), Value.int .i64 0, Value.int .i64 po], 4⟩]) (fun w hs => hs.take hl ne_nil) ?_
  iterate 4 refine gx ?_
  refine TL.call0 (Wants.none rfl) rfl enters29 rfl rfl (v := .bool true) (fun w hs => calls_yes rfl (ready_c g A m c k 0 po w (hs.has (⟨g, 63, [Value.slice A m c, Value.int .i64 (k : Int), Value.int .i64 0, Value.int .i64 po], 4⟩) (by simp)))) ?_
  iterate 3 refine gx ?_
  refine TC.no rfl ?_
  iterate 7 refine gx ?_
  refine TL.gets (Wants.none rfl) rfl (Gets.nilCheck rfl rfl) ?_
  refine gx ?_
  refine TL.call0 (Wants.none rfl) rfl enters28 rfl rfl (v := .slice (cutA A c k 1) (m - k) (c - k)) (fun w hs => left_c g A m c k 0 po w (hs.has (⟨g, 63, [Value.slice A m c, Value.int .i64 (k : Int), Value.int .i64 0, Value.int .i64 po], 4⟩) (by simp)) (by omega) (by omega) (by omega)) ?_
  refine gx ?_
  refine TL.gets (Wants.none rfl) rfl (Gets.isTrue (Gets.gtr rfl rfl rfl) (by omega)) ?_
  iterate 2 refine gx ?_
  refine TC.pr [0, 1, 2, 15] ?_
  refine TC.yes rfl ?_
  iterate 4 refine gx ?_
  refine TL.gets (Wants.none rfl) rfl (Gets.nilCheck rfl rfl) ?_
  refine gx ?_
  refine TL.call0 (Wants.none rfl) rfl enters33 rfl rfl (v := .int .i64 (m : Int)) (fun w hs => end_c g A m c k 0 po w (hs.has (⟨g, 63, [Value.slice A m c, Value.int .i64 (k : Int), Value.int .i64 0, Value.int .i64 po], 4⟩) (by simp)) (by omega) (by omega) (by omega)) ?_
  refine TL.call (ι := Unit) (V := fun _ => .tuple #[]) (R := fun _ => True) (H' := fun _ => [⟨g, 63, [Value.slice A m c, Value.int .i64 (k : Int), Value.int .i64 8, Value.int .i64 (m : Int)], 4⟩]) (Wants.none rfl) rfl enters17 rfl rfl (fun w hs => (fail_set g A m c k po 8 (m : Int) (by decide) w (hs.has (⟨g, 63, [Value.slice A m c, Value.int .i64 (k : Int), Value.int .i64 0, Value.int .i64 po], 4⟩) (by simp))).mono fun e w' ⟨he, hw⟩ => ⟨(), he, trivial, St.turn (i := 0) (e := ⟨g, 63, [Value.slice A m c, Value.int .i64 (k : Int), Value.int .i64 8, Value.int .i64 (m : Int)], 4⟩) hs rfl rfl hw⟩) (fun _ _ => ?_)
  iterate 4 refine gx ?_
  exact TE.ret0 rfl (fun w hs => ⟨rfl, hs⟩)

set_option maxRecDepth 100000 in
set_option maxHeartbeats 400000 in
theorem read_u (gv : Nat) (g : Nat) (A : Option Addr) (m c k : Nat) (n : Nat) (po : Int) (B : List Int) (hkn : k + n ≤ m) (hn : n ≤ 8) (w : World) (hl : Ent.lies ⟨g, 63, rdC A m c k 0 po, rdN⟩ w) (hv : Ent.lies ⟨gv, 34, [Value.int .u64 0], 1⟩ w) (hk : k ≤ m) (hmc : m ≤ c) (hcm : c ≤ 9223372036854775807) (hgg : g ≠ gv) (hX : SrcX w [gv, g] A m .u8 B) (hBB : Bytes B)  : Calls Try.prog 26 #[.pointer (some ⟨g, 0, none⟩), .int .i64 (n : Int), .func (.func 27) #[] #[.pointer (some ⟨gv, 0, none⟩)]] w fun e w' => e = .returned (.tuple #[]) ∧ St w [⟨gv, 34, [Value.int .u64 (valB ((B.drop k).take n))], 1⟩, ⟨g, 63, rdC A m c (k + n) 0 po, rdN⟩] w' := by
  refine calls_from (args := [.pointer (some ⟨g, 0, none⟩), .int .i64 (n : Int), .func (.func 27) #[] #[.pointer (some ⟨gv, 0, none⟩)]]) Try.func26 rfl Try.ntmps26 (by simp) ?_
  refine TC.pr [0, 1, 2] ?_
  refine TC.heap (H' := [⟨gv, 34, [Value.int .u64 0], 1⟩, ⟨g, 63, [Value.slice A m c, Value.int .i64 (k : Int), Value.int .i64 0, Value.int .i64 po], 4⟩]) (fun w hs => (hs.take hl ne_nil).take hv (ne_cons (by show g ≠ gv; exact hgg) ne_nil)) ?_
  iterate 4 refine gx ?_
  refine TL.call0 (Wants.none rfl) rfl enters29 rfl rfl (v := .bool true) (fun w hs => calls_yes rfl (ready_c g A m c k 0 po w (hs.has (⟨g, 63, [Value.slice A m c, Value.int .i64 (k : Int), Value.int .i64 0, Value.int .i64 po], 4⟩) (by simp)))) ?_
  iterate 3 refine gx ?_
  refine TC.no rfl ?_
  iterate 7 refine gx ?_
  refine TL.gets (Wants.none rfl) rfl (Gets.nilCheck rfl rfl) ?_
  refine gx ?_
  refine TL.call0 (Wants.none rfl) rfl enters28 rfl rfl (v := .slice (cutA A c k 1) (m - k) (c - k)) (fun w hs => left_c g A m c k 0 po w (hs.has (⟨g, 63, [Value.slice A m c, Value.int .i64 (k : Int), Value.int .i64 0, Value.int .i64 po], 4⟩) (by simp)) (by omega) (by omega) (by omega)) ?_
  refine gx ?_
  refine TL.gets (Wants.none rfl) rfl (Gets.isFalse (Gets.gtr rfl rfl rfl) (by omega)) ?_
  iterate 2 refine gx ?_
  refine TC.pr [0, 1, 2, 15] ?_
  refine TC.no rfl ?_
  iterate 5 refine gx ?_
  refine TL.gets (Wants.none rfl) rfl (Gets.nilCheck rfl rfl) ?_
  iterate 2 refine gx ?_
  refine TL.call (ι := Unit) (V := fun _ => .slice (cutA A c k 1) n (c - k)) (R := fun _ => True) (H' := fun _ => [⟨gv, 34, [Value.int .u64 0], 1⟩, ⟨g, 63, [Value.slice A m c, Value.int .i64 (((k + n) : Nat) : Int), Value.int .i64 0, Value.int .i64 po], 4⟩]) (Wants.none rfl) rfl enters32 rfl rfl (fun w hs => (pass_c g A m c k n (by omega) 0 po w (hs.has (⟨g, 63, [Value.slice A m c, Value.int .i64 (k : Int), Value.int .i64 0, Value.int .i64 po], 4⟩) (by simp)) (by omega) (by omega) (by omega)).mono fun e w' ⟨he, hw⟩ => ⟨(), he, trivial, St.turn (i := 1) (e := ⟨g, 63, [Value.slice A m c, Value.int .i64 (((k + n) : Nat) : Int), Value.int .i64 0, Value.int .i64 po], 4⟩) hs rfl rfl hw⟩) (fun _ _ => ?_)
  refine TL.callF (ι := Unit) (V := fun _ => .tuple #[]) (R := fun _ => True) (H' := fun _ => [⟨gv, 34, [Value.int .u64 (valB ((B.drop k).take n))], 1⟩, ⟨g, 63, [Value.slice A m c, Value.int .i64 (((k + n) : Nat) : Int), Value.int .i64 0, Value.int .i64 po], 4⟩]) (Wants.none rfl) rfl enters27 rfl rfl rfl (fun w hs => (u1_c gv (cutA A c k 1) n (c - k) ((B.drop k).take n) ((hBB.drop k).take n) w ((((hX.at_ hs (fun b hb hbX => (ne_cons (fun h => hbX gv (by simp) h.symm) (ne_cons (fun h => hbX g (by simp) h.symm) ne_nil)))).drop (by omega) (by omega)).head (by omega)).sub (Y := [gv]) (fun y hy => by rw [List.mem_singleton.1 hy]; simp)) (hs.has (⟨gv, 34, [Value.int .u64 0], 1⟩) (by simp)) (by omega) (by omega) (by omega)).mono fun e w' ⟨he, hw⟩ => ⟨(), he, trivial, St.turn (i := 0) (e := ⟨gv, 34, [Value.int .u64 (valB ((B.drop k).take n))], 1⟩) hs rfl rfl hw⟩) (fun _ _ => ?_)
  refine gx ?_
  exact TE.end0 rfl (fun w hs => ⟨rfl, hs⟩)

theorem st_swap (a b : Ent) (He : List Ent) : ([a] ++ (He ++ [b])).Perm ([a, b] ++ He) := by
  show (a :: (He ++ [b])).Perm (a :: b :: He)
  exact List.Perm.cons _ (List.perm_append_comm (l₁ := He) (l₂ := [b]))

set_option maxRecDepth 100000 in
set_option maxHeartbeats 400000 in
theorem read_b (gv : Nat) (g : Nat) (A : Option Addr) (m c k : Nat) (n : Nat) (po : Int) (B : List Int) (hkn : k + n ≤ m) (hm : m ≤ 1000000) (w : World) (hl : Ent.lies ⟨g, 63, rdC A m c k 0 po, rdN⟩ w) (hv : Ent.lies ⟨gv, 22, [Value.slice none 0 0], 1⟩ w) (hk : k ≤ m) (hmc : m ≤ c) (hcm : c ≤ 9223372036854775807) (hgg : g ≠ gv) (hX : SrcX w [gv, g] A m .u8 B) (hBB : Bytes B)  : Calls Try.prog 26 #[.pointer (some ⟨g, 0, none⟩), .int .i64 (n : Int), .func (.func 30) #[] #[.pointer (some ⟨gv, 0, none⟩)]] w fun e w' => ∃ v He, e = .returned (.tuple #[]) ∧ Own w.heap.size 5 .u8 v ((B.drop k).take n) He ∧ St w ((⟨gv, 22, [v], 1⟩ : Ent) :: (⟨g, 63, rdC A m c (k + n) 0 po, rdN⟩ : Ent) :: He) w' := by
  refine calls_from (args := [.pointer (some ⟨g, 0, none⟩), .int .i64 (n : Int), .func (.func 30) #[] #[.pointer (some ⟨gv, 0, none⟩)]]) Try.func26 rfl Try.ntmps26 (by simp) ?_
  refine TC.pr [0, 1, 2] ?_
  refine TC.heap (H' := [⟨gv, 22, [Value.slice none 0 0], 1⟩, ⟨g, 63, [Value.slice A m c, Value.int .i64 (k : Int), Value.int .i64 0, Value.int .i64 po], 4⟩]) (fun w hs => (hs.take hl ne_nil).take hv (ne_cons (by show g ≠ gv; exact hgg) ne_nil)) ?_
  iterate 4 refine gx ?_
  refine TL.call0 (Wants.none rfl) rfl enters29 rfl rfl (v := .bool true) (fun w hs => calls_yes rfl (ready_c g A m c k 0 po w (hs.has (⟨g, 63, [Value.slice A m c, Value.int .i64 (k : Int), Value.int .i64 0, Value.int .i64 po], 4⟩) (by simp)))) ?_
  iterate 3 refine gx ?_
  refine TC.no rfl ?_
  iterate 7 refine gx ?_
  refine TL.gets (Wants.none rfl) rfl (Gets.nilCheck rfl rfl) ?_
  refine gx ?_
  refine TL.call0 (Wants.none rfl) rfl enters28 rfl rfl (v := .slice (cutA A c k 1) (m - k) (c - k)) (fun w hs => left_c g A m c k 0 po w (hs.has (⟨g, 63, [Value.slice A m c, Value.int .i64 (k : Int), Value.int .i64 0, Value.int .i64 po], 4⟩) (by simp)) (by omega) (by omega) (by omega)) ?_
  refine gx ?_
  refine TL.gets (Wants.none rfl) rfl (Gets.isFalse (Gets.gtr rfl rfl rfl) (by omega)) ?_
  iterate 2 refine gx ?_
  refine TC.pr [0, 1, 2, 15] ?_
  refine TC.no rfl ?_
  iterate 5 refine gx ?_
  refine TL.gets (Wants.none rfl) rfl (Gets.nilCheck rfl rfl) ?_
  iterate 2 refine gx ?_
  refine TL.call (ι := Unit) (V := fun _ => .slice (cutA A c k 1) n (c - k)) (R := fun _ => True) (H' := fun _ => [⟨gv, 22, [Value.slice none 0 0], 1⟩, ⟨g, 63, [Value.slice A m c, Value.int .i64 (((k + n) : Nat) : Int), Value.int .i64 0, Value.int .i64 po], 4⟩]) (Wants.none rfl) rfl enters32 rfl rfl (fun w hs => (pass_c g A m c k n (by omega) 0 po w (hs.has (⟨g, 63, [Value.slice A m c, Value.int .i64 (k : Int), Value.int .i64 0, Value.int .i64 po], 4⟩) (by simp)) (by omega) (by omega) (by omega)).mono fun e w' ⟨he, hw⟩ => ⟨(), he, trivial, St.turn (i := 1) (e := ⟨g, 63, [Value.slice A m c, Value.int .i64 (((k + n) : Nat) : Int), Value.int .i64 0, Value.int .i64 po], 4⟩) hs rfl rfl hw⟩) (fun _ _ => ?_)
  refine TL.callF (ι := Value × List Ent) (V := fun _ => .tuple #[]) (R := fun y => Own w.heap.size 5 .u8 y.1 ((B.drop k).take n) y.2) (H' := fun y => [⟨gv, 22, [y.1], 1⟩, ⟨g, 63, [Value.slice A m c, Value.int .i64 (((k + n) : Nat) : Int), Value.int .i64 0, Value.int .i64 po], 4⟩] ++ y.2) (Wants.none rfl) rfl enters30 rfl rfl rfl (fun w hs => (b1_c gv (cutA A c k 1) n (c - k) ((B.drop k).take n) _ w ((((hX.at_ hs (fun b hb hbX => (ne_cons (fun h => hbX gv (by simp) h.symm) (ne_cons (fun h => hbX g (by simp) h.symm) ne_nil)))).drop (by omega) (by omega)).head (by omega)).sub (Y := [gv]) (fun y hy => by rw [List.mem_singleton.1 hy]; simp)) (hs.has (⟨gv, 22, [Value.slice none 0 0], 1⟩) (by simp)) (by omega) (by omega)).mono fun e w' ⟨v, He, he, ho, hw⟩ => ⟨(v, He), he, own_mono ho hs.size, (St.turns (H := [⟨gv, 22, [Value.slice none 0 0], 1⟩]) (F := [⟨g, 63, [Value.slice A m c, Value.int .i64 (((k + n) : Nat) : Int), Value.int .i64 0, Value.int .i64 po], 4⟩]) (H' := [⟨gv, 22, [v], 1⟩]) (E := He) hs hw rfl ho.new).perm (st_swap _ _ _)⟩) (fun y hR => ?_)
  obtain ⟨v, He⟩ := y
  dsimp only at hR ⊢
  refine gx ?_
  exact TE.end0 rfl (fun w hs => ⟨v, He, rfl, hR, hs⟩)

set_option maxRecDepth 100000 in
set_option maxHeartbeats 400000 in
theorem uint_ok (g : Nat) (A : Option Addr) (m c k : Nat) (n : Nat) (po : Int) (hn : 1 ≤ n ∧ n ≤ 8) (hkn : k + n ≤ m) (w : World) (hl : Ent.lies ⟨g, 63, rdC A m c k 0 po, rdN⟩ w) (hk : k ≤ m) (hmc : m ≤ c) (hcm : c ≤ 9223372036854775807) (B : List Int) (hX : SrcX w [g] A m .u8 B) (hBB : Bytes B)  : Calls Try.prog 12 #[.pointer (some ⟨g, 0, none⟩), .int .i64 (n : Int)] w fun e w' => e = .returned (.int .u64 (valB ((B.drop k).take n))) ∧ St w [⟨g, 63, rdC A m c (k + n) 0 po, rdN⟩] w' := by
  have hg : g < w.heap.size := hl.lt
  refine calls_from (args := [.pointer (some ⟨g, 0, none⟩), .int .i64 (n : Int)]) Try.func12 rfl Try.ntmps12 (by simp) ?_
  refine TC.pr [0, 1] ?_
  refine TC.heap (H' := [⟨g, 63, [Value.slice A m c, Value.int .i64 (k : Int), Value.int .i64 0, Value.int .i64 po], 4⟩]) (fun w hs => hs.take hl ne_nil) ?_
  iterate 9 refine gx ?_
  refine TL.call0 (Wants.none rfl) rfl enters23 rfl rfl (v := .bool true) (fun w hs => (vsize_c (n : Int) w).mono fun e w' h => by rw [decide_eq_true (p := 1 ≤ (n : Int) ∧ (n : Int) ≤ 8) (by omega)] at h; exact h) ?_
  iterate 3 refine gx ?_
  refine TC.no rfl ?_
  iterate 4 refine gx ?_
  refine TL.al (fun g1 hg1 => ?_)
  refine TL.store1 (Wants.none rfl) rfl rfl size34 rfl rfl rfl (i := 0) rfl rfl (by simp [] <;> omega) (cs' := [Value.int .u64 0]) (rfl) (H' := [⟨g1, 34, [Value.int .u64 0], 1⟩, ⟨g, 63, [Value.slice A m c, Value.int .i64 (k : Int), Value.int .i64 0, Value.int .i64 po], 4⟩]) rfl ?_
  iterate 6 refine gx ?_
  refine TL.gets (Wants.none rfl) rfl (Gets.makeFunc rfl rfl rfl) ?_
  refine TL.call (ι := Unit) (V := fun _ => .tuple #[]) (R := fun _ => True) (H' := fun _ => [⟨g1, 34, [Value.int .u64 (valB ((B.drop k).take n))], 1⟩, ⟨g, 63, [Value.slice A m c, Value.int .i64 (((k + n) : Nat) : Int), Value.int .i64 0, Value.int .i64 po], 4⟩]) (Wants.none rfl) rfl enters26 rfl rfl (fun w hs => (read_u g1 g A m c k n po B (by omega) (by omega) w (hs.has (⟨g, 63, [Value.slice A m c, Value.int .i64 (k : Int), Value.int .i64 0, Value.int .i64 po], 4⟩) (by simp)) (hs.has (⟨g1, 34, [Value.int .u64 0], 1⟩) (by simp)) (by omega) (by omega) (by omega) (by omega) ((hX.more hg1).at_ hs (fun b hb hbX => (ne_cons (fun h => hbX g1 (by simp) h.symm) (ne_cons (fun h => hbX g (by simp) h.symm) ne_nil)))) hBB).mono fun e w' ⟨he, hw⟩ => ⟨(), he, trivial, St.turns (H := [⟨g1, 34, [Value.int .u64 0], 1⟩, ⟨g, 63, [Value.slice A m c, Value.int .i64 (k : Int), Value.int .i64 0, Value.int .i64 po], 4⟩]) (F := []) (H' := [⟨g1, 34, [Value.int .u64 (valB ((B.drop k).take n))], 1⟩, ⟨g, 63, [Value.slice A m c, Value.int .i64 (((k + n) : Nat) : Int), Value.int .i64 0, Value.int .i64 po], 4⟩]) (E := []) hs hw rfl (by simp)⟩) (fun _ _ => ?_)
  iterate 2 refine gx ?_
  refine TC.pr [4, 5] ?_
  iterate 7 refine gx ?_
  exact TE.ret1 rfl rfl (fun w hs => ⟨rfl, hs.drop (by assumption)⟩)

set_option maxRecDepth 100000 in
set_option maxHeartbeats 400000 in
theorem uint_short (g : Nat) (A : Option Addr) (m c k : Nat) (n po : Int) (hn : 1 ≤ n ∧ n ≤ 8) (hkn : (m : Int) - (k : Int) < n) (w : World) (hl : Ent.lies ⟨g, 63, rdC A m c k 0 po, rdN⟩ w) (hk : k ≤ m) (hmc : m ≤ c) (hcm : c ≤ 9223372036854775807)  : Calls Try.prog 12 #[.pointer (some ⟨g, 0, none⟩), .int .i64 n] w fun e w' => e = .returned (.int .u64 0) ∧ St w [⟨g, 63, rdC A m c k 8 (m : Int), rdN⟩] w' := by
  have hg : g < w.heap.size := hl.lt
  refine calls_from (args := [.pointer (some ⟨g, 0, none⟩), .int .i64 n]) Try.func12 rfl Try.ntmps12 (by simp) ?_
  refine TC.pr [0, 1] ?_
  refine TC.heap (H' := [⟨g, 63, [Value.slice A m c, Value.int .i64 (k : Int), Value.int .i64 0, Value.int .i64 po], 4⟩]) (fun w hs => hs.take hl ne_nil) ?_
  iterate 9 refine gx ?_
  refine TL.call0 (Wants.none rfl) rfl enters23 rfl rfl (v := .bool true) (fun w hs => (vsize_c n w).mono fun e w' h => by rw [decide_eq_true (p := 1 ≤ n ∧ n ≤ 8) hn] at h; exact h) ?_
  iterate 3 refine gx ?_
  refine TC.no rfl ?_
  iterate 4 refine gx ?_
  refine TL.al (fun g1 hg1 => ?_)
  refine TL.store1 (Wants.none rfl) rfl rfl size34 rfl rfl rfl (i := 0) rfl rfl (by simp [] <;> omega) (cs' := [Value.int .u64 0]) (rfl) (H' := [⟨g1, 34, [Value.int .u64 0], 1⟩, ⟨g, 63, [Value.slice A m c, Value.int .i64 (k : Int), Value.int .i64 0, Value.int .i64 po], 4⟩]) rfl ?_
  iterate 6 refine gx ?_
  refine TL.gets (Wants.none rfl) rfl (Gets.makeFunc rfl rfl rfl) ?_
  refine TL.call (ι := Unit) (V := fun _ => .tuple #[]) (R := fun _ => True) (H' := fun _ => [⟨g1, 34, [Value.int .u64 0], 1⟩, ⟨g, 63, [Value.slice A m c, Value.int .i64 (k : Int), Value.int .i64 8, Value.int .i64 (m : Int)], 4⟩]) (Wants.none rfl) rfl enters26 rfl rfl (fun w hs => (read_short g A m c k po n (.func (.func 27) #[] #[.pointer (some ⟨g1, 0, none⟩)]) (by omega) w (hs.has (⟨g, 63, [Value.slice A m c, Value.int .i64 (k : Int), Value.int .i64 0, Value.int .i64 po], 4⟩) (by simp)) (by omega) (by omega) (by omega)).mono fun e w' ⟨he, hw⟩ => ⟨(), he, trivial, St.turn (i := 1) (e := ⟨g, 63, [Value.slice A m c, Value.int .i64 (k : Int), Value.int .i64 8, Value.int .i64 (m : Int)], 4⟩) hs rfl rfl hw⟩) (fun _ _ => ?_)
  iterate 2 refine gx ?_
  refine TC.pr [4, 5] ?_
  iterate 7 refine gx ?_
  exact TE.ret1 rfl rfl (fun w hs => ⟨rfl, hs.drop (by assumption)⟩)

set_option maxRecDepth 100000 in
set_option maxHeartbeats 400000 in
theorem uint_bad (g : Nat) (A : Option Addr) (m c k : Nat) (n po : Int) (hn : ¬ (1 ≤ n ∧ n ≤ 8)) (w : World) (hl : Ent.lies ⟨g, 63, rdC A m c k 0 po, rdN⟩ w)  : Calls Try.prog 12 #[.pointer (some ⟨g, 0, none⟩), .int .i64 n] w fun e w' => e = .returned (.int .u64 0) ∧ St w [⟨g, 63, rdC A m c k 2 (k : Int), rdN⟩] w' := by
  refine calls_from (args := [.pointer (some ⟨g, 0, none⟩), .int .i64 n]) Try.func12 rfl Try.ntmps12 (by simp) ?_
  refine TC.pr [0, 1] ?_
  refine TC.heap (H' := [⟨g, 63, [Value.slice A m c, Value.int .i64 (k : Int), Value.int .i64 0, Value.int .i64 po], 4⟩]) (fun w hs => hs.take hl ne_nil) ?_
  iterate 9 refine gx ?_
  refine TL.call0 (Wants.none rfl) rfl enters23 rfl rfl (v := .bool false) (fun w hs => (vsize_c n w).mono fun e w' h => by rw [decide_eq_false (p := 1 ≤ n ∧ n ≤ 8) hn] at h; exact h) ?_
  iterate 3 refine gx ?_
  refine TC.yes rfl ?_
  iterate 4 refine gx ?_
  refine TL.call0 (Wants.none rfl) rfl enters14 rfl rfl (v := .int .i64 (k : Int)) (fun w hs => at_c g A m c k 0 po w (hs.has (⟨g, 63, [Value.slice A m c, Value.int .i64 (k : Int), Value.int .i64 0, Value.int .i64 po], 4⟩) (by simp))) ?_
  refine TL.call (ι := Unit) (V := fun _ => .tuple #[]) (R := fun _ => True) (H' := fun _ => [⟨g, 63, [Value.slice A m c, Value.int .i64 (k : Int), Value.int .i64 2, Value.int .i64 (k : Int)], 4⟩]) (Wants.none rfl) rfl enters17 rfl rfl (fun w hs => (fail_set g A m c k po 2 (k : Int) (by decide) w (hs.has (⟨g, 63, [Value.slice A m c, Value.int .i64 (k : Int), Value.int .i64 0, Value.int .i64 po], 4⟩) (by simp))).mono fun e w' ⟨he, hw⟩ => ⟨(), he, trivial, St.turn (i := 0) (e := ⟨g, 63, [Value.slice A m c, Value.int .i64 (k : Int), Value.int .i64 2, Value.int .i64 (k : Int)], 4⟩) hs rfl rfl hw⟩) (fun _ _ => ?_)
  iterate 2 refine gx ?_
  refine TC.pr [0, 1, 4] ?_
  iterate 7 refine gx ?_
  exact TE.ret1 rfl rfl (fun w hs => ⟨rfl, hs⟩)

set_option maxRecDepth 100000 in
set_option maxHeartbeats 400000 in
theorem uint_f (g : Nat) (A : Option Addr) (m c k : Nat) (co po n : Int) (hco : co ≠ 0) (w : World) (hl : Ent.lies ⟨g, 63, rdC A m c k co po, rdN⟩ w)  : Calls Try.prog 12 #[.pointer (some ⟨g, 0, none⟩), .int .i64 n] w fun e w' => e = .returned (.int .u64 0) ∧ St w [] w' := by
  have hg : g < w.heap.size := hl.lt
  refine calls_from (args := [.pointer (some ⟨g, 0, none⟩), .int .i64 n]) Try.func12 rfl Try.ntmps12 (by simp) ?_
  refine TC.pr [0, 1] ?_
  refine TC.heap (H' := [⟨g, 63, [Value.slice A m c, Value.int .i64 (k : Int), Value.int .i64 co, Value.int .i64 po], 4⟩]) (fun w hs => hs.take hl ne_nil) ?_
  iterate 9 refine gx ?_
  by_cases c1 : 1 ≤ n ∧ n ≤ 8
  · refine TL.call0 (Wants.none rfl) rfl enters23 rfl rfl (v := .bool true) (fun w hs => (vsize_c n w).mono fun e w' h => by rw [decide_eq_true (p := 1 ≤ n ∧ n ≤ 8) c1] at h; exact h) ?_
    iterate 3 refine gx ?_
    refine TC.no rfl ?_
    iterate 4 refine gx ?_
    refine TL.al (fun g1 hg1 => ?_)
    refine TL.store1 (Wants.none rfl) rfl rfl size34 rfl rfl rfl (i := 0) rfl rfl (by simp [] <;> omega) (cs' := [Value.int .u64 0]) (rfl) (H' := [⟨g1, 34, [Value.int .u64 0], 1⟩, ⟨g, 63, [Value.slice A m c, Value.int .i64 (k : Int), Value.int .i64 co, Value.int .i64 po], 4⟩]) rfl ?_
    iterate 6 refine gx ?_
    refine TL.gets (Wants.none rfl) rfl (Gets.makeFunc rfl rfl rfl) ?_
    refine TL.call0 (Wants.none rfl) rfl enters26 rfl rfl (v := .tuple #[]) (fun w hs => read_dead g A m c k co po n (.func (.func 27) #[] #[.pointer (some ⟨g1, 0, none⟩)]) hco w (hs.has (⟨g, 63, [Value.slice A m c, Value.int .i64 (k : Int), Value.int .i64 co, Value.int .i64 po], 4⟩) (by simp))) ?_
    iterate 2 refine gx ?_
    refine TC.pr [4, 5] ?_
    iterate 7 refine gx ?_
    exact TE.ret1 rfl rfl (fun w hs => ⟨rfl, ((hs.drop (by assumption)).same hl rfl)⟩)
  · refine TL.call0 (Wants.none rfl) rfl enters23 rfl rfl (v := .bool false) (fun w hs => (vsize_c n w).mono fun e w' h => by rw [decide_eq_false (p := 1 ≤ n ∧ n ≤ 8) c1] at h; exact h) ?_
    iterate 3 refine gx ?_
    refine TC.yes rfl ?_
    iterate 4 refine gx ?_
    refine TL.call0 (Wants.none rfl) rfl enters14 rfl rfl (v := .int .i64 (k : Int)) (fun w hs => at_c g A m c k co po w (hs.has (⟨g, 63, [Value.slice A m c, Value.int .i64 (k : Int), Value.int .i64 co, Value.int .i64 po], 4⟩) (by simp))) ?_
    refine TL.call0 (Wants.none rfl) rfl enters17 rfl rfl (v := .tuple #[]) (fun w hs => fail_dead g A m c k co po 2 (k : Int) hco w (hs.has (⟨g, 63, [Value.slice A m c, Value.int .i64 (k : Int), Value.int .i64 co, Value.int .i64 po], 4⟩) (by simp))) ?_
    iterate 2 refine gx ?_
    refine TC.pr [0, 1, 4] ?_
    iterate 7 refine gx ?_
    exact TE.ret1 rfl rfl (fun w hs => ⟨rfl, (hs.same hl rfl)⟩)

set_option maxRecDepth 100000 in
set_option maxHeartbeats 400000 in
theorem uint_nil (n : Int) (w : World) : Calls Try.prog 12 #[.pointer none, .int .i64 n] w fun e w' => e = .returned (.int .u64 0) ∧ St w [] w' := by
  refine calls_from (args := [.pointer none, .int .i64 n]) Try.func12 rfl Try.ntmps12 (by simp) ?_
  refine TC.pr [0, 1] ?_
  iterate 9 refine gx ?_
  by_cases c1 : 1 ≤ n ∧ n ≤ 8
  · refine TL.call0 (Wants.none rfl) rfl enters23 rfl rfl (v := .bool true) (fun w hs => (vsize_c n w).mono fun e w' h => by rw [decide_eq_true (p := 1 ≤ n ∧ n ≤ 8) c1] at h; exact h) ?_
    iterate 3 refine gx ?_
    refine TC.no rfl ?_
    iterate 4 refine gx ?_
    refine TL.al (fun g1 hg1 => ?_)
    refine TL.store1 (Wants.none rfl) rfl rfl size34 rfl rfl rfl (i := 0) rfl rfl (by simp [] <;> omega) (cs' := [Value.int .u64 0]) (rfl) (H' := [⟨g1, 34, [Value.int .u64 0], 1⟩]) rfl ?_
    iterate 6 refine gx ?_
    refine TL.gets (Wants.none rfl) rfl (Gets.makeFunc rfl rfl rfl) ?_
    refine TL.call0 (Wants.none rfl) rfl enters26 rfl rfl (v := .tuple #[]) (fun w hs => read_nil n (.func (.func 27) #[] #[.pointer (some ⟨g1, 0, none⟩)]) w) ?_
    iterate 2 refine gx ?_
    refine TC.pr [4, 5] ?_
    iterate 7 refine gx ?_
    exact TE.ret1 rfl rfl (fun w hs => ⟨rfl, (hs.drop (by assumption))⟩)
  · refine TL.call0 (Wants.none rfl) rfl enters23 rfl rfl (v := .bool false) (fun w hs => (vsize_c n w).mono fun e w' h => by rw [decide_eq_false (p := 1 ≤ n ∧ n ≤ 8) c1] at h; exact h) ?_
    iterate 3 refine gx ?_
    refine TC.yes rfl ?_
    iterate 4 refine gx ?_
    refine TL.call0 (Wants.none rfl) rfl enters14 rfl rfl (v := .int .i64 0) (fun w hs => at_nil w) ?_
    refine TL.call0 (Wants.none rfl) rfl enters17 rfl rfl (v := .tuple #[]) (fun w hs => fail_nil 2 0 w) ?_
    iterate 2 refine gx ?_
    refine TC.pr [0, 1, 4] ?_
    iterate 7 refine gx ?_
    exact TE.ret1 rfl rfl (fun w hs => ⟨rfl, hs⟩)

set_option maxRecDepth 100000 in
set_option maxHeartbeats 400000 in
theorem length_ok (g : Nat) (A : Option Addr) (m c k : Nat) (po : Int) (hkn : k + 8 ≤ m) (w : World) (hl : Ent.lies ⟨g, 63, rdC A m c k 0 po, rdN⟩ w) (hk : k ≤ m) (hmc : m ≤ c) (hcm : c ≤ 9223372036854775807) (B : List Int) (hX : SrcX w [g] A m .u8 B) (hBB : Bytes B) (hv : (valB ((B.drop k).take 8)) ≤ 4611686018427387903) : Calls Try.prog 18 #[.pointer (some ⟨g, 0, none⟩)] w fun e w' => e = .returned (.int .i64 (valB ((B.drop k).take 8))) ∧ St w [⟨g, 63, rdC A m c (k + 8) 0 po, rdN⟩] w' := by
  have hv0 := valB_bd ((hBB.drop k).take 8) (by rw [List.length_take]; omega)
  refine calls_from (args := [.pointer (some ⟨g, 0, none⟩)]) Try.func18 rfl Try.ntmps18 (by simp) ?_
  refine TC.pr [0] ?_
  refine TC.heap (H' := [⟨g, 63, [Value.slice A m c, Value.int .i64 (k : Int), Value.int .i64 0, Value.int .i64 po], 4⟩]) (fun w hs => hs.take hl ne_nil) ?_
  iterate 8 refine gx ?_
  refine TL.call0 (Wants.none rfl) rfl enters14 rfl rfl (v := .int .i64 (k : Int)) (fun w hs => at_c g A m c k 0 po w (hs.has (⟨g, 63, [Value.slice A m c, Value.int .i64 (k : Int), Value.int .i64 0, Value.int .i64 po], 4⟩) (by simp))) ?_
  iterate 6 refine gx ?_
  refine TL.call (ι := Unit) (V := fun _ => .int .u64 (valB ((B.drop k).take 8))) (R := fun _ => True) (H' := fun _ => [⟨g, 63, [Value.slice A m c, Value.int .i64 (((k + 8) : Nat) : Int), Value.int .i64 0, Value.int .i64 po], 4⟩]) (Wants.none rfl) rfl enters12 rfl rfl (fun w hs => (uint_ok g A m c k 8 po (by omega) (by omega) w (hs.has (⟨g, 63, [Value.slice A m c, Value.int .i64 (k : Int), Value.int .i64 0, Value.int .i64 po], 4⟩) (by simp)) (by omega) (by omega) (by omega) B (hX.at_ hs (fun b hb hbX => (ne_cons (fun h => hbX g (by simp) h.symm) ne_nil))) hBB).mono fun e w' ⟨he, hw⟩ => ⟨(), he, trivial, St.turn (i := 0) (e := ⟨g, 63, [Value.slice A m c, Value.int .i64 (((k + 8) : Nat) : Int), Value.int .i64 0, Value.int .i64 po], 4⟩) hs rfl rfl hw⟩) (fun _ _ => ?_)
  iterate 7 refine gx ?_
  refine TL.gets (Wants.none rfl) rfl (Gets.isFalse (Gets.gtr rfl rfl rfl) (by omega)) ?_
  iterate 2 refine gx ?_
  refine TC.pr [0, 2, 3, 4, 10] ?_
  refine TC.no rfl ?_
  iterate 5 refine gx ?_
  refine TL.gets (Wants.none rfl) rfl (Gets.conv rfl Try.underlying34 Try.underlying3 rfl (r := (valB ((B.drop k).take 8))) (w64 rfl (by omega))) ?_
  iterate 4 refine gx ?_
  exact TE.ret1 rfl rfl (fun w hs => ⟨rfl, hs⟩)

set_option maxRecDepth 100000 in
set_option maxHeartbeats 400000 in
theorem length_big (g : Nat) (A : Option Addr) (m c k : Nat) (po : Int) (hkn : k + 8 ≤ m) (w : World) (hl : Ent.lies ⟨g, 63, rdC A m c k 0 po, rdN⟩ w) (hk : k ≤ m) (hmc : m ≤ c) (hcm : c ≤ 9223372036854775807) (B : List Int) (hX : SrcX w [g] A m .u8 B) (hBB : Bytes B) (hv : 4611686018427387903 < (valB ((B.drop k).take 8))) : Calls Try.prog 18 #[.pointer (some ⟨g, 0, none⟩)] w fun e w' => e = .returned (.int .i64 0) ∧ St w [⟨g, 63, rdC A m c (k + 8) 2 (k : Int), rdN⟩] w' := by
  have hv0 := valB_bd ((hBB.drop k).take 8) (by rw [List.length_take]; omega)
  refine calls_from (args := [.pointer (some ⟨g, 0, none⟩)]) Try.func18 rfl Try.ntmps18 (by simp) ?_
  refine TC.pr [0] ?_
  refine TC.heap (H' := [⟨g, 63, [Value.slice A m c, Value.int .i64 (k : Int), Value.int .i64 0, Value.int .i64 po], 4⟩]) (fun w hs => hs.take hl ne_nil) ?_
  iterate 8 refine gx ?_
  refine TL.call0 (Wants.none rfl) rfl enters14 rfl rfl (v := .int .i64 (k : Int)) (fun w hs => at_c g A m c k 0 po w (hs.has (⟨g, 63, [Value.slice A m c, Value.int .i64 (k : Int), Value.int .i64 0, Value.int .i64 po], 4⟩) (by simp))) ?_
  iterate 6 refine gx ?_
  refine TL.call (ι := Unit) (V := fun _ => .int .u64 (valB ((B.drop k).take 8))) (R := fun _ => True) (H' := fun _ => [⟨g, 63, [Value.slice A m c, Value.int .i64 (((k + 8) : Nat) : Int), Value.int .i64 0, Value.int .i64 po], 4⟩]) (Wants.none rfl) rfl enters12 rfl rfl (fun w hs => (uint_ok g A m c k 8 po (by omega) (by omega) w (hs.has (⟨g, 63, [Value.slice A m c, Value.int .i64 (k : Int), Value.int .i64 0, Value.int .i64 po], 4⟩) (by simp)) (by omega) (by omega) (by omega) B (hX.at_ hs (fun b hb hbX => (ne_cons (fun h => hbX g (by simp) h.symm) ne_nil))) hBB).mono fun e w' ⟨he, hw⟩ => ⟨(), he, trivial, St.turn (i := 0) (e := ⟨g, 63, [Value.slice A m c, Value.int .i64 (((k + 8) : Nat) : Int), Value.int .i64 0, Value.int .i64 po], 4⟩) hs rfl rfl hw⟩) (fun _ _ => ?_)
  iterate 7 refine gx ?_
  refine TL.gets (Wants.none rfl) rfl (Gets.isTrue (Gets.gtr rfl rfl rfl) (by omega)) ?_
  iterate 2 refine gx ?_
  refine TC.pr [0, 2, 3, 4, 10] ?_
  refine TC.yes rfl ?_
  iterate 4 refine gx ?_
  refine TL.call (ι := Unit) (V := fun _ => .tuple #[]) (R := fun _ => True) (H' := fun _ => [⟨g, 63, [Value.slice A m c, Value.int .i64 (((k + 8) : Nat) : Int), Value.int .i64 2, Value.int .i64 (k : Int)], 4⟩]) (Wants.none rfl) rfl enters17 rfl rfl (fun w hs => (fail_set g A m c (k + 8) po 2 (k : Int) (by decide) w (hs.has (⟨g, 63, [Value.slice A m c, Value.int .i64 (((k + 8) : Nat) : Int), Value.int .i64 0, Value.int .i64 po], 4⟩) (by simp))).mono fun e w' ⟨he, hw⟩ => ⟨(), he, trivial, St.turn (i := 0) (e := ⟨g, 63, [Value.slice A m c, Value.int .i64 (((k + 8) : Nat) : Int), Value.int .i64 2, Value.int .i64 (k : Int)], 4⟩) hs rfl rfl hw⟩) (fun _ _ => ?_)
  iterate 9 refine gx ?_
  exact TE.ret1 rfl rfl (fun w hs => ⟨rfl, hs⟩)

set_option maxRecDepth 100000 in
set_option maxHeartbeats 400000 in
theorem length_short (g : Nat) (A : Option Addr) (m c k : Nat) (po : Int) (hkn : m < k + 8) (w : World) (hl : Ent.lies ⟨g, 63, rdC A m c k 0 po, rdN⟩ w) (hk : k ≤ m) (hmc : m ≤ c) (hcm : c ≤ 9223372036854775807)  : Calls Try.prog 18 #[.pointer (some ⟨g, 0, none⟩)] w fun e w' => e = .returned (.int .i64 0) ∧ St w [⟨g, 63, rdC A m c k 8 (m : Int), rdN⟩] w' := by
  refine calls_from (args := [.pointer (some ⟨g, 0, none⟩)]) Try.func18 rfl Try.ntmps18 (by simp) ?_
  refine TC.pr [0] ?_
  refine TC.heap (H' := [⟨g, 63, [Value.slice A m c, Value.int .i64 (k : Int), Value.int .i64 0, Value.int .i64 po], 4⟩]) (fun w hs => hs.take hl ne_nil) ?_
  iterate 8 refine gx ?_
  refine TL.call0 (Wants.none rfl) rfl enters14 rfl rfl (v := .int .i64 (k : Int)) (fun w hs => at_c g A m c k 0 po w (hs.has (⟨g, 63, [Value.slice A m c, Value.int .i64 (k : Int), Value.int .i64 0, Value.int .i64 po], 4⟩) (by simp))) ?_
  iterate 6 refine gx ?_
  refine TL.call (ι := Unit) (V := fun _ => .int .u64 0) (R := fun _ => True) (H' := fun _ => [⟨g, 63, [Value.slice A m c, Value.int .i64 (k : Int), Value.int .i64 8, Value.int .i64 (m : Int)], 4⟩]) (Wants.none rfl) rfl enters12 rfl rfl (fun w hs => (uint_short g A m c k 8 po (by omega) (by omega) w (hs.has (⟨g, 63, [Value.slice A m c, Value.int .i64 (k : Int), Value.int .i64 0, Value.int .i64 po], 4⟩) (by simp)) (by omega) (by omega) (by omega)).mono fun e w' ⟨he, hw⟩ => ⟨(), he, trivial, St.turn (i := 0) (e := ⟨g, 63, [Value.slice A m c, Value.int .i64 (k : Int), Value.int .i64 8, Value.int .i64 (m : Int)], 4⟩) hs rfl rfl hw⟩) (fun _ _ => ?_)
  iterate 7 refine gx ?_
  refine TL.gets (Wants.none rfl) rfl (Gets.isFalse (Gets.gtr rfl rfl rfl) (by omega)) ?_
  iterate 2 refine gx ?_
  refine TC.pr [0, 2, 3, 4, 10] ?_
  refine TC.no rfl ?_
  iterate 5 refine gx ?_
  refine TL.gets (Wants.none rfl) rfl (Gets.conv rfl Try.underlying34 Try.underlying3 rfl (r := 0) (w64 rfl (by omega))) ?_
  iterate 4 refine gx ?_
  exact TE.ret1 rfl rfl (fun w hs => ⟨rfl, hs⟩)

set_option maxRecDepth 100000 in
set_option maxHeartbeats 400000 in
theorem length_f (g : Nat) (A : Option Addr) (m c k : Nat) (co po : Int) (hco : co ≠ 0) (w : World) (hl : Ent.lies ⟨g, 63, rdC A m c k co po, rdN⟩ w)  : Calls Try.prog 18 #[.pointer (some ⟨g, 0, none⟩)] w fun e w' => e = .returned (.int .i64 0) ∧ St w [] w' := by
  refine calls_from (args := [.pointer (some ⟨g, 0, none⟩)]) Try.func18 rfl Try.ntmps18 (by simp) ?_
  refine TC.pr [0] ?_
  refine TC.heap (H' := [⟨g, 63, [Value.slice A m c, Value.int .i64 (k : Int), Value.int .i64 co, Value.int .i64 po], 4⟩]) (fun w hs => hs.take hl ne_nil) ?_
  iterate 8 refine gx ?_
  refine TL.call0 (Wants.none rfl) rfl enters14 rfl rfl (v := .int .i64 (k : Int)) (fun w hs => at_c g A m c k co po w (hs.has (⟨g, 63, [Value.slice A m c, Value.int .i64 (k : Int), Value.int .i64 co, Value.int .i64 po], 4⟩) (by simp))) ?_
  iterate 6 refine gx ?_
  refine TL.call0 (Wants.none rfl) rfl enters12 rfl rfl (v := .int .u64 0) (fun w hs => uint_f g A m c k co po 8 hco w (hs.has (⟨g, 63, [Value.slice A m c, Value.int .i64 (k : Int), Value.int .i64 co, Value.int .i64 po], 4⟩) (by simp))) ?_
  iterate 7 refine gx ?_
  refine TL.gets (Wants.none rfl) rfl (Gets.isFalse (Gets.gtr rfl rfl rfl) (by omega)) ?_
  iterate 2 refine gx ?_
  refine TC.pr [0, 2, 3, 4, 10] ?_
  refine TC.no rfl ?_
  iterate 5 refine gx ?_
  refine TL.gets (Wants.none rfl) rfl (Gets.conv rfl Try.underlying34 Try.underlying3 rfl (r := 0) (w64 rfl (by omega))) ?_
  iterate 4 refine gx ?_
  exact TE.ret1 rfl rfl (fun w hs => ⟨rfl, (hs.same hl rfl)⟩)

set_option maxRecDepth 100000 in
set_option maxHeartbeats 400000 in
theorem length_nil (w : World) : Calls Try.prog 18 #[.pointer none] w fun e w' => e = .returned (.int .i64 0) ∧ St w [] w' := by
  refine calls_from (args := [.pointer none]) Try.func18 rfl Try.ntmps18 (by simp) ?_
  refine TC.pr [0] ?_
  iterate 8 refine gx ?_
  refine TL.call0 (Wants.none rfl) rfl enters14 rfl rfl (v := .int .i64 0) (fun w hs => at_nil w) ?_
  iterate 6 refine gx ?_
  refine TL.call0 (Wants.none rfl) rfl enters12 rfl rfl (v := .int .u64 0) (fun w hs => uint_nil 8 w) ?_
  iterate 7 refine gx ?_
  refine TL.gets (Wants.none rfl) rfl (Gets.isFalse (Gets.gtr rfl rfl rfl) (by omega)) ?_
  iterate 2 refine gx ?_
  refine TC.pr [0, 2, 3, 4, 10] ?_
  refine TC.no rfl ?_
  iterate 5 refine gx ?_
  refine TL.gets (Wants.none rfl) rfl (Gets.conv rfl Try.underlying34 Try.underlying3 rfl (r := 0) (w64 rfl (by omega))) ?_
  iterate 4 refine gx ?_
  exact TE.ret1 rfl rfl (fun w hs => ⟨rfl, hs⟩)
end Go.Proofs.Ytdllgfkcakhoeaa
