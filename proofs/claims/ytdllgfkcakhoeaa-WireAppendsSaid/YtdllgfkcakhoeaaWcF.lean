/-
  The reader of layer 6: Bytes, Expect, New.
-/
import Derived.Test.YtdllgfkcakhoeaaWcE
import Derived.Test.YtdllgfkcakhoeaaAuto
namespace Go.Proofs.Ytdllgfkcakhoeaa
set_option linter.unusedVariables false
set_option linter.unusedSimpArgs false
open Go Go.RowKit
theorem enters31 : Enters Try.prog 31 := ⟨_, Try.func31, by kernel_rfl, by kernel_rfl⟩
theorem enters34 : Enters Try.prog 34 := ⟨_, Try.func34, by kernel_rfl, by kernel_rfl⟩
theorem zero22 : (Try.prog.info? 22).bind (·.zero) = some (.slice none 0 0) := by kernel_rfl
instance : Zer Try.prog 22 [Value.slice none 0 0] := ⟨⟨_, zero22, rfl⟩⟩
set_option maxRecDepth 100000 in
set_option maxHeartbeats 400000 in
theorem bytes_ok (g : Nat) (A : Option Addr) (m c k : Nat) (n : Nat) (po : Int) (hkn : k + n ≤ m) (w : World) (hl : Ent.lies ⟨g, 63, rdC A m c k 0 po, rdN⟩ w) (hk : k ≤ m) (hmc : m ≤ c) (hcm : c ≤ 9223372036854775807) (B : List Int) (hX : SrcX w [g] A m .u8 B) (hBB : Bytes B) (hm : m ≤ 1000000) : Calls Try.prog 19 #[.pointer (some ⟨g, 0, none⟩), .int .i64 (n : Int)] w fun e w' => ∃ v He, e = .returned v ∧ Own w.heap.size 5 .u8 v ((B.drop k).take n) He ∧ St w ((⟨g, 63, rdC A m c (k + n) 0 po, rdN⟩ : Ent) :: He) w' := by
  have hg : g < w.heap.size := hl.lt
  refine calls_from (args := [.pointer (some ⟨g, 0, none⟩), .int .i64 (n : Int)]) Try.func19 rfl Try.ntmps19 (by simp) ?_
  refine TC.pr [0, 1] ?_
  refine TC.heap (H' := [⟨g, 63, [Value.slice A m c, Value.int .i64 (k : Int), Value.int .i64 0, Value.int .i64 po], 4⟩]) (fun w hs => hs.take hl ne_nil) ?_
  iterate 9 refine gx ?_
  refine TL.gets (Wants.none rfl) rfl (Gets.isFalse (Gets.lss rfl rfl rfl) (by omega)) ?_
  iterate 2 refine gx ?_
  refine TC.no rfl ?_
  iterate 4 refine gx ?_
  refine TL.al (fun g1 hg1 => ?_)
  iterate 6 refine gx ?_
  refine TL.gets (Wants.none rfl) rfl (Gets.makeFunc rfl rfl rfl) ?_
  refine TL.call (ι := Value × List Ent) (V := fun _ => .tuple #[]) (R := fun y => Own w.heap.size 5 .u8 y.1 ((B.drop k).take n) y.2) (H' := fun y => [⟨g1, 22, [y.1], 1⟩, ⟨g, 63, [Value.slice A m c, Value.int .i64 (((k + n) : Nat) : Int), Value.int .i64 0, Value.int .i64 po], 4⟩] ++ y.2) (Wants.none rfl) rfl enters26 rfl rfl (fun w hs => (read_b g1 g A m c k n po B (by omega) (by omega) w (hs.has (⟨g, 63, [Value.slice A m c, Value.int .i64 (k : Int), Value.int .i64 0, Value.int .i64 po], 4⟩) (by simp)) (hs.has (⟨g1, 22, [Value.slice none 0 0], 1⟩) (by simp)) (by omega) (by omega) (by omega) (by omega) ((hX.more hg1).at_ hs (fun b hb hbX => (ne_cons (fun h => hbX g1 (by simp) h.symm) (ne_cons (fun h => hbX g (by simp) h.symm) ne_nil)))) hBB).mono fun e w' ⟨v, He, he, ho, hw⟩ => ⟨(v, He), he, own_mono ho hs.size, (St.turns (H := [⟨g1, 22, [Value.slice none 0 0], 1⟩, ⟨g, 63, [Value.slice A m c, Value.int .i64 (k : Int), Value.int .i64 0, Value.int .i64 po], 4⟩]) (F := []) (H' := [⟨g1, 22, [v], 1⟩, ⟨g, 63, [Value.slice A m c, Value.int .i64 (((k + n) : Nat) : Int), Value.int .i64 0, Value.int .i64 po], 4⟩]) (E := He) hs hw rfl ho.new).perm (List.Perm.of_eq (by rw [List.append_nil]))⟩) (fun y hR => ?_)
  obtain ⟨v, He⟩ := y
  dsimp only at hR ⊢
  iterate 2 refine gx ?_
  refine TC.pr [4, 5] ?_
  iterate 7 refine gx ?_
  exact TE.ret1 rfl rfl (fun w hs => ⟨v, He, rfl, hR, hs.drop (by assumption)⟩)

set_option maxRecDepth 100000 in
set_option maxHeartbeats 400000 in
theorem bytes_short (g : Nat) (A : Option Addr) (m c k : Nat) (n po : Int) (hkn : (m : Int) - (k : Int) < n) (w : World) (hl : Ent.lies ⟨g, 63, rdC A m c k 0 po, rdN⟩ w) (hk : k ≤ m) (hmc : m ≤ c) (hcm : c ≤ 9223372036854775807)  : Calls Try.prog 19 #[.pointer (some ⟨g, 0, none⟩), .int .i64 n] w fun e w' => e = .returned (.slice none 0 0) ∧ St w [⟨g, 63, rdC A m c k 8 (m : Int), rdN⟩] w' := by
  have hg : g < w.heap.size := hl.lt
  refine calls_from (args := [.pointer (some ⟨g, 0, none⟩), .int .i64 n]) Try.func19 rfl Try.ntmps19 (by simp) ?_
  refine TC.pr [0, 1] ?_
  refine TC.heap (H' := [⟨g, 63, [Value.slice A m c, Value.int .i64 (k : Int), Value.int .i64 0, Value.int .i64 po], 4⟩]) (fun w hs => hs.take hl ne_nil) ?_
  iterate 9 refine gx ?_
  refine TL.gets (Wants.none rfl) rfl (Gets.isFalse (Gets.lss rfl rfl rfl) (by omega)) ?_
  iterate 2 refine gx ?_
  refine TC.no rfl ?_
  iterate 4 refine gx ?_
  refine TL.al (fun g1 hg1 => ?_)
  iterate 6 refine gx ?_
  refine TL.gets (Wants.none rfl) rfl (Gets.makeFunc rfl rfl rfl) ?_
  refine TL.call (ι := Unit) (V := fun _ => .tuple #[]) (R := fun _ => True) (H' := fun _ => [⟨g1, 22, [Value.slice none 0 0], 1⟩, ⟨g, 63, [Value.slice A m c, Value.int .i64 (k : Int), Value.int .i64 8, Value.int .i64 (m : Int)], 4⟩]) (Wants.none rfl) rfl enters26 rfl rfl (fun w hs => (read_short g A m c k po n (.func (.func 30) #[] #[.pointer (some ⟨g1, 0, none⟩)]) (by omega) w (hs.has (⟨g, 63, [Value.slice A m c, Value.int .i64 (k : Int), Value.int .i64 0, Value.int .i64 po], 4⟩) (by simp)) (by omega) (by omega) (by omega)).mono fun e w' ⟨he, hw⟩ => ⟨(), he, trivial, St.turn (i := 1) (e := ⟨g, 63, [Value.slice A m c, Value.int .i64 (k : Int), Value.int .i64 8, Value.int .i64 (m : Int)], 4⟩) hs rfl rfl hw⟩) (fun _ _ => ?_)
  iterate 2 refine gx ?_
  refine TC.pr [4, 5] ?_
  iterate 7 refine gx ?_
  exact TE.ret1 rfl rfl (fun w hs => ⟨rfl, hs.drop (by assumption)⟩)

set_option maxRecDepth 100000 in
set_option maxHeartbeats 400000 in
theorem bytes_neg (g : Nat) (A : Option Addr) (m c k : Nat) (n po : Int) (hn : n < 0) (w : World) (hl : Ent.lies ⟨g, 63, rdC A m c k 0 po, rdN⟩ w)  : Calls Try.prog 19 #[.pointer (some ⟨g, 0, none⟩), .int .i64 n] w fun e w' => e = .returned (.slice none 0 0) ∧ St w [⟨g, 63, rdC A m c k 2 (k : Int), rdN⟩] w' := by
  refine calls_from (args := [.pointer (some ⟨g, 0, none⟩), .int .i64 n]) Try.func19 rfl Try.ntmps19 (by simp) ?_
  refine TC.pr [0, 1] ?_
  refine TC.heap (H' := [⟨g, 63, [Value.slice A m c, Value.int .i64 (k : Int), Value.int .i64 0, Value.int .i64 po], 4⟩]) (fun w hs => hs.take hl ne_nil) ?_
  iterate 9 refine gx ?_
  refine TL.gets (Wants.none rfl) rfl (Gets.isTrue (Gets.lss rfl rfl rfl) hn) ?_
  iterate 2 refine gx ?_
  refine TC.yes rfl ?_
  iterate 4 refine gx ?_
  refine TL.call0 (Wants.none rfl) rfl enters14 rfl rfl (v := .int .i64 (k : Int)) (fun w hs => at_c g A m c k 0 po w (hs.has (⟨g, 63, [Value.slice A m c, Value.int .i64 (k : Int), Value.int .i64 0, Value.int .i64 po], 4⟩) (by simp))) ?_
  refine TL.call (ι := Unit) (V := fun _ => .tuple #[]) (R := fun _ => True) (H' := fun _ => [⟨g, 63, [Value.slice A m c, Value.int .i64 (k : Int), Value.int .i64 2, Value.int .i64 (k : Int)], 4⟩]) (Wants.none rfl) rfl enters17 rfl rfl (fun w hs => (fail_set g A m c k po 2 (k : Int) (by decide) w (hs.has (⟨g, 63, [Value.slice A m c, Value.int .i64 (k : Int), Value.int .i64 0, Value.int .i64 po], 4⟩) (by simp))).mono fun e w' ⟨he, hw⟩ => ⟨(), he, trivial, St.turn (i := 0) (e := ⟨g, 63, [Value.slice A m c, Value.int .i64 (k : Int), Value.int .i64 2, Value.int .i64 (k : Int)], 4⟩) hs rfl rfl hw⟩) (fun _ _ => ?_)
  iterate 2 refine gx ?_
  refine TC.pr [0, 1, 4] ?_
  iterate 7 refine gx ?_
  exact TE.ret1 rfl rfl (fun w hs => ⟨rfl, hs⟩)

set_option maxRecDepth 100000 in
set_option maxHeartbeats 400000 in
theorem bytes_f (g : Nat) (A : Option Addr) (m c k : Nat) (co po n : Int) (hco : co ≠ 0) (w : World) (hl : Ent.lies ⟨g, 63, rdC A m c k co po, rdN⟩ w)  : Calls Try.prog 19 #[.pointer (some ⟨g, 0, none⟩), .int .i64 n] w fun e w' => e = .returned (.slice none 0 0) ∧ St w [] w' := by
  have hg : g < w.heap.size := hl.lt
  refine calls_from (args := [.pointer (some ⟨g, 0, none⟩), .int .i64 n]) Try.func19 rfl Try.ntmps19 (by simp) ?_
  refine TC.pr [0, 1] ?_
  refine TC.heap (H' := [⟨g, 63, [Value.slice A m c, Value.int .i64 (k : Int), Value.int .i64 co, Value.int .i64 po], 4⟩]) (fun w hs => hs.take hl ne_nil) ?_
  iterate 9 refine gx ?_
  by_cases c1 : n < 0
  · refine TL.gets (Wants.none rfl) rfl (Gets.isTrue (Gets.lss rfl rfl rfl) c1) ?_
    iterate 2 refine gx ?_
    refine TC.yes rfl ?_
    iterate 4 refine gx ?_
    refine TL.call0 (Wants.none rfl) rfl enters14 rfl rfl (v := .int .i64 (k : Int)) (fun w hs => at_c g A m c k co po w (hs.has (⟨g, 63, [Value.slice A m c, Value.int .i64 (k : Int), Value.int .i64 co, Value.int .i64 po], 4⟩) (by simp))) ?_
    refine TL.call0 (Wants.none rfl) rfl enters17 rfl rfl (v := .tuple #[]) (fun w hs => fail_dead g A m c k co po 2 (k : Int) hco w (hs.has (⟨g, 63, [Value.slice A m c, Value.int .i64 (k : Int), Value.int .i64 co, Value.int .i64 po], 4⟩) (by simp))) ?_
    iterate 2 refine gx ?_
    refine TC.pr [0, 1, 4] ?_
    iterate 7 refine gx ?_
    exact TE.ret1 rfl rfl (fun w hs => ⟨rfl, (hs.same hl rfl)⟩)
  · refine TL.gets (Wants.none rfl) rfl (Gets.isFalse (Gets.lss rfl rfl rfl) c1) ?_
    iterate 2 refine gx ?_
    refine TC.no rfl ?_
    iterate 4 refine gx ?_
    refine TL.al (fun g1 hg1 => ?_)
    iterate 6 refine gx ?_
    refine TL.gets (Wants.none rfl) rfl (Gets.makeFunc rfl rfl rfl) ?_
    refine TL.call0 (Wants.none rfl) rfl enters26 rfl rfl (v := .tuple #[]) (fun w hs => read_dead g A m c k co po n (.func (.func 30) #[] #[.pointer (some ⟨g1, 0, none⟩)]) hco w (hs.has (⟨g, 63, [Value.slice A m c, Value.int .i64 (k : Int), Value.int .i64 co, Value.int .i64 po], 4⟩) (by simp))) ?_
    iterate 2 refine gx ?_
    refine TC.pr [4, 5] ?_
    iterate 7 refine gx ?_
    exact TE.ret1 rfl rfl (fun w hs => ⟨rfl, ((hs.drop (by assumption)).same hl rfl)⟩)

set_option maxRecDepth 100000 in
set_option maxHeartbeats 400000 in
theorem bytes_nil (n : Int) (w : World) : Calls Try.prog 19 #[.pointer none, .int .i64 n] w fun e w' => e = .returned (.slice none 0 0) ∧ St w [] w' := by
  refine calls_from (args := [.pointer none, .int .i64 n]) Try.func19 rfl Try.ntmps19 (by simp) ?_
  refine TC.pr [0, 1] ?_
  iterate 9 refine gx ?_
  by_cases c1 : n < 0
  · refine TL.gets (Wants.none rfl) rfl (Gets.isTrue (Gets.lss rfl rfl rfl) c1) ?_
    iterate 2 refine gx ?_
    refine TC.yes rfl ?_
    iterate 4 refine gx ?_
    refine TL.call0 (Wants.none rfl) rfl enters14 rfl rfl (v := .int .i64 0) (fun w hs => at_nil w) ?_
    refine TL.call0 (Wants.none rfl) rfl enters17 rfl rfl (v := .tuple #[]) (fun w hs => fail_nil 2 0 w) ?_
    iterate 2 refine gx ?_
    refine TC.pr [0, 1, 4] ?_
    iterate 7 refine gx ?_
    exact TE.ret1 rfl rfl (fun w hs => ⟨rfl, hs⟩)
  · refine TL.gets (Wants.none rfl) rfl (Gets.isFalse (Gets.lss rfl rfl rfl) c1) ?_
    iterate 2 refine gx ?_
    refine TC.no rfl ?_
    iterate 4 refine gx ?_
    refine TL.al (fun g1 hg1 => ?_)
    iterate 6 refine gx ?_
    refine TL.gets (Wants.none rfl) rfl (Gets.makeFunc rfl rfl rfl) ?_
    refine TL.call0 (Wants.none rfl) rfl enters26 rfl rfl (v := .tuple #[]) (fun w hs => read_nil n (.func (.func 30) #[] #[.pointer (some ⟨g1, 0, none⟩)]) w) ?_
    iterate 2 refine gx ?_
    refine TC.pr [4, 5] ?_
    iterate 7 refine gx ?_
    exact TE.ret1 rfl rfl (fun w hs => ⟨rfl, (hs.drop (by assumption))⟩)

set_option maxRecDepth 100000 in
set_option maxHeartbeats 400000 in
theorem bequal_c (PA PB : List Int) (hBA : Bytes PA) (hBB : Bytes PB) (A A2 : Option Addr) (m c m2 c2 : Nat) (w : World) (hsA : Src w A m .u8 PA) (hsB : Src w A2 m2 .u8 PB) : Calls Try.prog 34 #[.slice A m c, .slice A2 m2 c2] w fun e w' => e = .returned (.bool (decide (PA = PB))) ∧ St w [] w' := by
  refine calls_from (args := [.slice A m c, .slice A2 m2 c2]) Try.func34 rfl Try.ntmps34 (by simp) ?_
  refine TC.pr [0, 1] ?_
  iterate 8 refine gx ?_
  refine TL.gets (Wants.none rfl) rfl (Gets.b2s rfl Try.underlying22 Try.underlying9 Try.underlying5 rfl (fun w hs => (hsA.at_ hs (fun b hb => ne_nil)))) ?_
  refine gx ?_
  refine TL.gets (Wants.none rfl) rfl (Gets.b2s rfl Try.underlying22 Try.underlying9 Try.underlying5 rfl (fun w hs => (hsB.at_ hs (fun b hb => ne_nil)))) ?_
  refine TL.gets (Wants.none rfl) rfl (Gets.bytesEq rfl rfl rfl hBA hBB) ?_
  iterate 4 refine gx ?_
  exact TE.ret1 rfl rfl (fun w hs => ⟨rfl, hs⟩)

set_option maxRecDepth 100000 in
set_option maxHeartbeats 400000 in
theorem hpre_c (P D : List Int) (hBP : Bytes P) (hBD : Bytes D) (A A2 : Option Addr) (m c m2 c2 : Nat) (w : World) (hsP : Src w A m .u8 P) (hsD : Src w A2 m2 .u8 D) (hmc : m ≤ c) (hcm : c ≤ 9223372036854775807) (hcm2 : m2 ≤ 9223372036854775807) : Calls Try.prog 31 #[.slice A m c, .slice A2 m2 c2] w fun e w' => e = .returned (.bool (decide (P.take m2 = D))) ∧ St w [] w' := by
  refine calls_from (args := [.slice A m c, .slice A2 m2 c2]) Try.func31 rfl Try.ntmps31 (by simp) ?_
  refine TC.pr [0, 1] ?_
  iterate 11 refine gx ?_
  by_cases c1 : (m2 : Int) ≤ (m : Int)
  · refine TL.gets (Wants.none rfl) rfl (Gets.isTrue (Gets.geq rfl rfl rfl) c1) ?_
    iterate 4 refine gx ?_
    refine TL.gets (Wants.yes rfl rfl rfl) rfl (Gets.sliceS rfl Try.underlying22 size5 rfl bnd.dflt (bnd.at_ (l := m2) rfl (by omega)) (by omega) (by omega) (cutA_zero _ _ _) (ln := m2) (cp := c) (by omega) (by omega)) ?_
    refine gx ?_
    refine TL.call0 (Wants.yes rfl rfl rfl) rfl enters34 rfl rfl (v := .bool (decide (P.take m2 = D))) (fun w hs => bequal_c (P.take m2) D (hBP.take m2) hBD A A2 m2 c m2 c2 w ((hsP.at_ hs (fun b hb => ne_nil)).head (by omega)) (hsD.at_ hs (fun b hb => ne_nil))) ?_
    iterate 5 refine gx ?_
    exact TE.ret1 rfl rfl (fun w hs => ⟨rfl, hs⟩)
  · refine TL.gets (Wants.none rfl) rfl (Gets.isFalse (Gets.geq rfl rfl rfl) c1) ?_
    iterate 12 refine gx ?_
    exact TE.ret1 rfl rfl (fun w hs => ⟨by rw [decide_eq_false (fun h => by have h2 := congrArg List.length h; rw [List.length_take, hsP.1, hsD.1] at h2; omega)], hs⟩)

set_option maxRecDepth 100000 in
set_option maxHeartbeats 400000 in
theorem expect_ok (g : Nat) (A : Option Addr) (m c k : Nat) (po d : Int) (w : World) (hl : Ent.lies ⟨g, 63, rdC A m c k 0 po, rdN⟩ w) (hk : k ≤ m) (hmc : m ≤ c) (hcm : c ≤ 9223372036854775807) (B : List Int) (hX : SrcX w [g] A m .u8 B) (hBB : Bytes B) (D : List Int) (Ad : Option Addr) (md cd : Nat) (hXD : SrcX w [g] Ad md .u8 D) (hBD : Bytes D) (hmd : md ≤ cd) (hcd : cd ≤ 9223372036854775807) (h1 : (B.drop k).take md = D) : Calls Try.prog 20 #[.pointer (some ⟨g, 0, none⟩), .slice Ad md cd, .int .i64 d] w fun e w' => e = .returned (.bool true) ∧ St w [⟨g, 63, rdC A m c (k + md) 0 po, rdN⟩] w' := by
  have hl1 : md ≤ m - k := by have h2 := congrArg List.length h1; rw [List.length_take, List.length_drop, hXD.1, hX.1] at h2; omega
  refine calls_from (args := [.pointer (some ⟨g, 0, none⟩), .slice Ad md cd, .int .i64 d]) Try.func20 rfl Try.ntmps20 (by simp) ?_
  refine TC.pr [0, 1, 2] ?_
  refine TC.heap (H' := [⟨g, 63, [Value.slice A m c, Value.int .i64 (k : Int), Value.int .i64 0, Value.int .i64 po], 4⟩]) (fun w hs => hs.take hl ne_nil) ?_
  iterate 9 refine gx ?_
  refine TL.call0 (Wants.none rfl) rfl enters29 rfl rfl (v := .bool true) (fun w hs => calls_yes rfl (ready_c g A m c k 0 po w (hs.has (⟨g, 63, [Value.slice A m c, Value.int .i64 (k : Int), Value.int .i64 0, Value.int .i64 po], 4⟩) (by simp)))) ?_
  iterate 3 refine gx ?_
  refine TC.no rfl ?_
  iterate 5 refine gx ?_
  refine TL.gets (Wants.none rfl) rfl (Gets.nilCheck rfl rfl) ?_
  refine gx ?_
  refine TL.call0 (Wants.none rfl) rfl enters28 rfl rfl (v := .slice (cutA A c k 1) (m - k) (c - k)) (fun w hs => left_c g A m c k 0 po w (hs.has (⟨g, 63, [Value.slice A m c, Value.int .i64 (k : Int), Value.int .i64 0, Value.int .i64 po], 4⟩) (by simp)) (by omega) (by omega) (by omega)) ?_
  iterate 3 refine gx ?_
  refine TC.pr [0, 1, 2, 6, 7] ?_
  iterate 6 refine gx ?_
  refine TL.call0 (Wants.none rfl) rfl enters31 rfl rfl (v := .bool true) (fun w hs => (hpre_c (B.drop k) D (hBB.drop k) hBD (cutA A c k 1) Ad (m - k) (c - k) md cd w (((hX.at_ hs (fun b hb hbX => (ne_cons (fun h => hbX g (by simp) h.symm) ne_nil))).drop (by omega) (by omega)).src) ((hXD.at_ hs (fun b hb hbX => (ne_cons (fun h => hbX g (by simp) h.symm) ne_nil))).src) (by omega) (by omega) (by omega)).mono fun e w' h => by rw [decide_eq_true (p := (B.drop k).take md = D) h1] at h; exact h) ?_
  iterate 3 refine gx ?_
  refine TC.pr [0, 1, 2, 6, 7, 23] ?_
  refine TC.yes rfl ?_
  iterate 3 refine gx ?_
  refine TL.gets (Wants.none rfl) rfl (Gets.nilCheck rfl rfl) ?_
  iterate 3 refine gx ?_
  refine TL.call (ι := Unit) (V := fun _ => .slice (cutA A c k 1) md (c - k)) (R := fun _ => True) (H' := fun _ => [⟨g, 63, [Value.slice A m c, Value.int .i64 (((k + md) : Nat) : Int), Value.int .i64 0, Value.int .i64 po], 4⟩]) (Wants.none rfl) rfl enters32 rfl rfl (fun w hs => (pass_c g A m c k md (by omega) 0 po w (hs.has (⟨g, 63, [Value.slice A m c, Value.int .i64 (k : Int), Value.int .i64 0, Value.int .i64 po], 4⟩) (by simp)) (by omega) (by omega) (by omega)).mono fun e w' ⟨he, hw⟩ => ⟨(), he, trivial, St.turn (i := 0) (e := ⟨g, 63, [Value.slice A m c, Value.int .i64 (((k + md) : Nat) : Int), Value.int .i64 0, Value.int .i64 po], 4⟩) hs rfl rfl hw⟩) (fun _ _ => ?_)
  iterate 2 refine gx ?_
  refine TC.pr [6] ?_
  iterate 8 refine gx ?_
  exact TE.ret1 rfl rfl (fun w hs => ⟨rfl, hs⟩)

set_option maxRecDepth 100000 in
set_option maxHeartbeats 400000 in
theorem expect_short (g : Nat) (A : Option Addr) (m c k : Nat) (po d : Int) (w : World) (hl : Ent.lies ⟨g, 63, rdC A m c k 0 po, rdN⟩ w) (hk : k ≤ m) (hmc : m ≤ c) (hcm : c ≤ 9223372036854775807) (B : List Int) (hX : SrcX w [g] A m .u8 B) (hBB : Bytes B) (D : List Int) (Ad : Option Addr) (md cd : Nat) (hXD : SrcX w [g] Ad md .u8 D) (hBD : Bytes D) (hmd : md ≤ cd) (hcd : cd ≤ 9223372036854775807) (h1 : ¬ ((B.drop k).take md = D)) (h2 : D.take (m - k) = B.drop k) : Calls Try.prog 20 #[.pointer (some ⟨g, 0, none⟩), .slice Ad md cd, .int .i64 d] w fun e w' => e = .returned (.bool false) ∧ St w [⟨g, 63, rdC A m c k 8 (m : Int), rdN⟩] w' := by
  refine calls_from (args := [.pointer (some ⟨g, 0, none⟩), .slice Ad md cd, .int .i64 d]) Try.func20 rfl Try.ntmps20 (by simp) ?_
  refine TC.pr [0, 1, 2] ?_
  refine TC.heap (H' := [⟨g, 63, [Value.slice A m c, Value.int .i64 (k : Int), Value.int .i64 0, Value.int .i64 po], 4⟩]) (fun w hs => hs.take hl ne_nil) ?_
  iterate 9 refine gx ?_
  refine TL.call0 (Wants.none rfl) rfl enters29 rfl rfl (v := .bool true) (fun w hs => calls_yes rfl (ready_c g A m c k 0 po w (hs.has (⟨g, 63, [Value.slice A m c, Value.int .i64 (k : Int), Value.int .i64 0, Value.int .i64 po], 4⟩) (by simp)))) ?_
  iterate 3 refine gx ?_
  refine TC.no rfl ?_
  iterate 5 refine gx ?_
  refine TL.gets (Wants.none rfl) rfl (Gets.nilCheck rfl rfl) ?_
  refine gx ?_
  refine TL.call0 (Wants.none rfl) rfl enters28 rfl rfl (v := .slice (cutA A c k 1) (m - k) (c - k)) (fun w hs => left_c g A m c k 0 po w (hs.has (⟨g, 63, [Value.slice A m c, Value.int .i64 (k : Int), Value.int .i64 0, Value.int .i64 po], 4⟩) (by simp)) (by omega) (by omega) (by omega)) ?_
  iterate 3 refine gx ?_
  refine TC.pr [0, 1, 2, 6, 7] ?_
  iterate 6 refine gx ?_
  refine TL.call0 (Wants.none rfl) rfl enters31 rfl rfl (v := .bool false) (fun w hs => (hpre_c (B.drop k) D (hBB.drop k) hBD (cutA A c k 1) Ad (m - k) (c - k) md cd w (((hX.at_ hs (fun b hb hbX => (ne_cons (fun h => hbX g (by simp) h.symm) ne_nil))).drop (by omega) (by omega)).src) ((hXD.at_ hs (fun b hb hbX => (ne_cons (fun h => hbX g (by simp) h.symm) ne_nil))).src) (by omega) (by omega) (by omega)).mono fun e w' h => by rw [decide_eq_false (p := (B.drop k).take md = D) h1] at h; exact h) ?_
  iterate 3 refine gx ?_
  refine TC.pr [0, 1, 2, 6, 7, 23] ?_
  refine TC.no rfl ?_
  iterate 4 refine gx ?_
  refine TL.call0 (Wants.none rfl) rfl enters31 rfl rfl (v := .bool true) (fun w hs => (hpre_c D (B.drop k) hBD (hBB.drop k) Ad (cutA A c k 1) md cd (m - k) (c - k) w ((hXD.at_ hs (fun b hb hbX => (ne_cons (fun h => hbX g (by simp) h.symm) ne_nil))).src) (((hX.at_ hs (fun b hb hbX => (ne_cons (fun h => hbX g (by simp) h.symm) ne_nil))).drop (by omega) (by omega)).src) (by omega) (by omega) (by omega)).mono fun e w' h => by rw [decide_eq_true (p := D.take (m - k) = B.drop k) h2] at h; exact h) ?_
  iterate 3 refine gx ?_
  refine TC.pr [0, 2, 6, 33] ?_
  refine TC.yes rfl ?_
  iterate 3 refine gx ?_
  refine TL.gets (Wants.none rfl) rfl (Gets.nilCheck rfl rfl) ?_
  refine gx ?_
  refine TL.call0 (Wants.none rfl) rfl enters33 rfl rfl (v := .int .i64 (m : Int)) (fun w hs => end_c g A m c k 0 po w (hs.has (⟨g, 63, [Value.slice A m c, Value.int .i64 (k : Int), Value.int .i64 0, Value.int .i64 po], 4⟩) (by simp)) (by omega) (by omega) (by omega)) ?_
  refine TL.call (ι := Unit) (V := fun _ => .tuple #[]) (R := fun _ => True) (H' := fun _ => [⟨g, 63, [Value.slice A m c, Value.int .i64 (k : Int), Value.int .i64 8, Value.int .i64 (m : Int)], 4⟩]) (Wants.none rfl) rfl enters17 rfl rfl (fun w hs => (fail_set g A m c k po 8 (m : Int) (by decide) w (hs.has (⟨g, 63, [Value.slice A m c, Value.int .i64 (k : Int), Value.int .i64 0, Value.int .i64 po], 4⟩) (by simp))).mono fun e w' ⟨he, hw⟩ => ⟨(), he, trivial, St.turn (i := 0) (e := ⟨g, 63, [Value.slice A m c, Value.int .i64 (k : Int), Value.int .i64 8, Value.int .i64 (m : Int)], 4⟩) hs rfl rfl hw⟩) (fun _ _ => ?_)
  iterate 3 refine gx ?_
  refine TC.pr [6] ?_
  iterate 6 refine gx ?_
  exact TE.ret1 rfl rfl (fun w hs => ⟨rfl, hs⟩)

set_option maxRecDepth 100000 in
set_option maxHeartbeats 400000 in
theorem expect_bad (g : Nat) (A : Option Addr) (m c k : Nat) (po d : Int) (hd : d ≠ 0) (w : World) (hl : Ent.lies ⟨g, 63, rdC A m c k 0 po, rdN⟩ w) (hk : k ≤ m) (hmc : m ≤ c) (hcm : c ≤ 9223372036854775807) (B : List Int) (hX : SrcX w [g] A m .u8 B) (hBB : Bytes B) (D : List Int) (Ad : Option Addr) (md cd : Nat) (hXD : SrcX w [g] Ad md .u8 D) (hBD : Bytes D) (hmd : md ≤ cd) (hcd : cd ≤ 9223372036854775807) (h1 : ¬ ((B.drop k).take md = D)) (h2 : ¬ (D.take (m - k) = B.drop k)) : Calls Try.prog 20 #[.pointer (some ⟨g, 0, none⟩), .slice Ad md cd, .int .i64 d] w fun e w' => e = .returned (.bool false) ∧ St w [⟨g, 63, rdC A m c k d (k : Int), rdN⟩] w' := by
  refine calls_from (args := [.pointer (some ⟨g, 0, none⟩), .slice Ad md cd, .int .i64 d]) Try.func20 rfl Try.ntmps20 (by simp) ?_
  refine TC.pr [0, 1, 2] ?_
  refine TC.heap (H' := [⟨g, 63, [Value.slice A m c, Value.int .i64 (k : Int), Value.int .i64 0, Value.int .i64 po], 4⟩]) (fun w hs => hs.take hl ne_nil) ?_
  iterate 9 refine gx ?_
  refine TL.call0 (Wants.none rfl) rfl enters29 rfl rfl (v := .bool true) (fun w hs => calls_yes rfl (ready_c g A m c k 0 po w (hs.has (⟨g, 63, [Value.slice A m c, Value.int .i64 (k : Int), Value.int .i64 0, Value.int .i64 po], 4⟩) (by simp)))) ?_
  iterate 3 refine gx ?_
  refine TC.no rfl ?_
  iterate 5 refine gx ?_
  refine TL.gets (Wants.none rfl) rfl (Gets.nilCheck rfl rfl) ?_
  refine gx ?_
  refine TL.call0 (Wants.none rfl) rfl enters28 rfl rfl (v := .slice (cutA A c k 1) (m - k) (c - k)) (fun w hs => left_c g A m c k 0 po w (hs.has (⟨g, 63, [Value.slice A m c, Value.int .i64 (k : Int), Value.int .i64 0, Value.int .i64 po], 4⟩) (by simp)) (by omega) (by omega) (by omega)) ?_
  iterate 3 refine gx ?_
  refine TC.pr [0, 1, 2, 6, 7] ?_
  iterate 6 refine gx ?_
  refine TL.call0 (Wants.none rfl) rfl enters31 rfl rfl (v := .bool false) (fun w hs => (hpre_c (B.drop k) D (hBB.drop k) hBD (cutA A c k 1) Ad (m - k) (c - k) md cd w (((hX.at_ hs (fun b hb hbX => (ne_cons (fun h => hbX g (by simp) h.symm) ne_nil))).drop (by omega) (by omega)).src) ((hXD.at_ hs (fun b hb hbX => (ne_cons (fun h => hbX g (by simp) h.symm) ne_nil))).src) (by omega) (by omega) (by omega)).mono fun e w' h => by rw [decide_eq_false (p := (B.drop k).take md = D) h1] at h; exact h) ?_
  iterate 3 refine gx ?_
  refine TC.pr [0, 1, 2, 6, 7, 23] ?_
  refine TC.no rfl ?_
  iterate 4 refine gx ?_
  refine TL.call0 (Wants.none rfl) rfl enters31 rfl rfl (v := .bool false) (fun w hs => (hpre_c D (B.drop k) hBD (hBB.drop k) Ad (cutA A c k 1) md cd (m - k) (c - k) w ((hXD.at_ hs (fun b hb hbX => (ne_cons (fun h => hbX g (by simp) h.symm) ne_nil))).src) (((hX.at_ hs (fun b hb hbX => (ne_cons (fun h => hbX g (by simp) h.symm) ne_nil))).drop (by omega) (by omega)).src) (by omega) (by omega) (by omega)).mono fun e w' h => by rw [decide_eq_false (p := D.take (m - k) = B.drop k) h2] at h; exact h) ?_
  iterate 3 refine gx ?_
  refine TC.pr [0, 2, 6, 33] ?_
  refine TC.no rfl ?_
  iterate 4 refine gx ?_
  refine TL.gets (Wants.none rfl) rfl (Gets.nilCheck rfl rfl) ?_
  iterate 3 refine gx ?_
  refine TL.call (ι := Unit) (V := fun _ => .tuple #[]) (R := fun _ => True) (H' := fun _ => [⟨g, 63, [Value.slice A m c, Value.int .i64 (k : Int), Value.int .i64 d, Value.int .i64 (k : Int)], 4⟩]) (Wants.none rfl) rfl enters17 rfl rfl (fun w hs => (fail_set g A m c k po d (k : Int) hd w (hs.has (⟨g, 63, [Value.slice A m c, Value.int .i64 (k : Int), Value.int .i64 0, Value.int .i64 po], 4⟩) (by simp))).mono fun e w' ⟨he, hw⟩ => ⟨(), he, trivial, St.turn (i := 0) (e := ⟨g, 63, [Value.slice A m c, Value.int .i64 (k : Int), Value.int .i64 d, Value.int .i64 (k : Int)], 4⟩) hs rfl rfl hw⟩) (fun _ _ => ?_)
  iterate 3 refine gx ?_
  refine TC.pr [6] ?_
  iterate 6 refine gx ?_
  exact TE.ret1 rfl rfl (fun w hs => ⟨rfl, hs⟩)

set_option maxRecDepth 100000 in
set_option maxHeartbeats 400000 in
theorem expect_f (g : Nat) (A : Option Addr) (m c k : Nat) (co po d : Int) (Ad : Option Addr) (md cd : Nat) (hco : co ≠ 0) (w : World) (hl : Ent.lies ⟨g, 63, rdC A m c k co po, rdN⟩ w)  : Calls Try.prog 20 #[.pointer (some ⟨g, 0, none⟩), .slice Ad md cd, .int .i64 d] w fun e w' => e = .returned (.bool false) ∧ St w [] w' := by
  refine calls_from (args := [.pointer (some ⟨g, 0, none⟩), .slice Ad md cd, .int .i64 d]) Try.func20 rfl Try.ntmps20 (by simp) ?_
  refine TC.pr [0, 1, 2] ?_
  refine TC.heap (H' := [⟨g, 63, [Value.slice A m c, Value.int .i64 (k : Int), Value.int .i64 co, Value.int .i64 po], 4⟩]) (fun w hs => hs.take hl ne_nil) ?_
  iterate 9 refine gx ?_
  refine TL.call0 (Wants.none rfl) rfl enters29 rfl rfl (v := .bool false) (fun w hs => calls_no hco (ready_c g A m c k co po w (hs.has (⟨g, 63, [Value.slice A m c, Value.int .i64 (k : Int), Value.int .i64 co, Value.int .i64 po], 4⟩) (by simp)))) ?_
  iterate 3 refine gx ?_
  refine TC.yes rfl ?_
  iterate 7 refine gx ?_
  exact TE.ret1 rfl rfl (fun w hs => ⟨rfl, (hs.same hl rfl)⟩)

set_option maxRecDepth 100000 in
set_option maxHeartbeats 400000 in
theorem expect_nil (d : Int) (Ad : Option Addr) (md cd : Nat) (w : World) : Calls Try.prog 20 #[.pointer none, .slice Ad md cd, .int .i64 d] w fun e w' => e = .returned (.bool false) ∧ St w [] w' := by
  refine calls_from (args := [.pointer none, .slice Ad md cd, .int .i64 d]) Try.func20 rfl Try.ntmps20 (by simp) ?_
  refine TC.pr [0, 1, 2] ?_
  iterate 9 refine gx ?_
  refine TL.call0 (Wants.none rfl) rfl enters29 rfl rfl (v := .bool false) (fun w hs => ready_nil w) ?_
  iterate 3 refine gx ?_
  refine TC.yes rfl ?_
  iterate 7 refine gx ?_
  exact TE.ret1 rfl rfl (fun w hs => ⟨rfl, hs⟩)

set_option maxRecDepth 100000 in
set_option maxHeartbeats 400000 in
theorem new_raw (B : List Int) (A : Option Addr) (c : Nat) (w : World) (hsB : Src w A B.length .u8 B) (hmc : B.length ≤ c) (hm : B.length ≤ 1000000) : Calls Try.prog 11 #[.slice A B.length c] w fun e w' => ∃ (g : Nat) (A' : Option Addr) (c' : Nat) (He : List Ent), e = .returned (.pointer (some ⟨g, 0, none⟩)) ∧ Own w.heap.size 5 .u8 (.slice A' B.length c') B He ∧ w.heap.size ≤ g ∧ St w ((⟨g, 63, rdC A' B.length c' 0 0 0, rdN⟩ : Ent) :: He) w' := by
  refine calls_from (args := [.slice A B.length c]) Try.func11 rfl Try.ntmps11 (by simp) ?_
  refine TC.pr [0] ?_
  iterate 8 refine gx ?_
  refine TL.call (ι := Value × List Ent) (V := fun yl => yl.1) (R := fun yl => Own w.heap.size 5 .u8 yl.1 B yl.2) (H' := fun yl => [] ++ yl.2) (Wants.none rfl) rfl enters25 rfl rfl (fun w hs => (bclone_c B A B.length c w (hsB.at_ hs (fun b hb => ne_nil)) (by omega) (by omega)).mono fun e w' ⟨v, He, he, ho, hw⟩ => ⟨(v, He), he, own_mono ho hs.size, st_call hs hw ho.new⟩) (fun yl hOl => ?_)
  obtain ⟨vl, Hl⟩ := yl
  dsimp only at hOl ⊢
  obtain ⟨Al, cl, hvl, hcl, hdl⟩ := hOl.form
  subst hvl
  refine TL.gets (Wants.none rfl) rfl (Gets.build rfl (vs := [(0, Value.slice Al B.length cl)]) rfl (fun w => by first | rfl | kernel_rfl) (v := .agg ([Value.slice Al B.length cl, Value.int .i64 0]).toArray)) ?_
  refine TL.gets (Wants.none rfl) rfl (Gets.build rfl (vs := [(0, Value.agg ([Value.slice Al B.length cl, Value.int .i64 0]).toArray)]) rfl (fun w => by first | rfl | kernel_rfl) (v := .agg ([Value.slice Al B.length cl, Value.int .i64 0, Value.int .i64 0, Value.int .i64 0]).toArray)) ?_
  refine TL.bxA (fun g1 hg1 => ?_)
  iterate 4 refine gx ?_
  exact TE.ret1 rfl rfl (fun w hs => ⟨g1, Al, cl, Hl, rfl, hOl, by assumption, hs⟩)

theorem new_c (B : List Int) (A : Option Addr) (m c : Nat) (w : World) (hsB : Src w A m .u8 B) (hmc : m ≤ c) (hm : m ≤ 1000000) : Calls Try.prog 11 #[.slice A m c] w fun e w' => ∃ (g : Nat) (A' : Option Addr) (c' : Nat) (He : List Ent), e = .returned (.pointer (some ⟨g, 0, none⟩)) ∧ Own w.heap.size 5 .u8 (.slice A' m c') B He ∧ w.heap.size ≤ g ∧ St w ((⟨g, 63, rdC A' m c' 0 0 0, rdN⟩ : Ent) :: He) w' := by
  have h := hsB.1
  subst h
  exact new_raw B A c w hsB hmc hm
end Go.Proofs.Ytdllgfkcakhoeaa
