/-
  The reader of layer 6: its position, its fault.
-/
import Derived.Test.YtclmgfcdnokaiaaFormatDecodes7Pb
/-
  The reference of layer 6: Expect.
-/
namespace Go.Proofs.Ytclmgfcdnokaiaa
set_option linter.unusedVariables false
set_option linter.unusedSimpArgs false
open Go Go.RowKit

set_option maxRecDepth 100000 in
set_option maxHeartbeats 400000 in
theorem rexp_ok (g : Nat) (A : Option Addr) (m c k : Nat) (po d : Int) (hd : d ≠ 0) (w : World) (hl : Ent.lies ⟨g, 67, rdC A m c k 0 po, rdN⟩ w) (hk : k ≤ m) (hmc : m ≤ c) (hcm : c ≤ 9223372036854775807) (B : List Int) (hX : SrcX w [g] A m .u8 B) (hBB : Bytes B) (D : List Int) (Ad : Option Addr) (md cd : Nat) (hXD : SrcX w [g] Ad md .u8 D) (hBD : Bytes D) (hmd : md ≤ cd) (hcd : cd ≤ 9223372036854775807) (hml : md ≤ m - k) (h1 : (B.drop k).take md = D)  : Calls Try.prog 29 #[.pointer (some ⟨g, 0, none⟩), .slice Ad md cd, .int .i64 d] w fun e w' => e = .returned (.bool true) ∧ St w [⟨g, 67, rdC A m c (k + md) 0 po, rdN⟩] w' := by
  have hBm := hX.1
  have hDm := hXD.1
  refine calls_from (args := [.pointer (some ⟨g, 0, none⟩), .slice Ad md cd, .int .i64 d]) Try.func29 rfl Try.ntmps29 (by simp) ?_
  refine TC.pr [0, 1, 2] ?_
  refine TC.heap (H' := [⟨g, 67, [Value.slice A m c, Value.int .i64 (k : Int), Value.int .i64 0, Value.int .i64 po], 4⟩]) (fun w hs => hs.take hl ne_nil) ?_
  iterate 9 refine gx ?_
  refine TL.gets (Wants.none rfl) rfl (Gets.nilCheck rfl rfl) ?_
  iterate 2 refine gx ?_
  refine TL.gets (Wants.none rfl) rfl (Gets.isFalse (Gets.neq rfl rfl rfl) (fun h => h rfl)) ?_
  iterate 2 refine gx ?_
  refine TC.pr [0, 1, 2, 6, 12] ?_
  refine TC.no rfl ?_
  iterate 3 refine gx ?_
  refine TC.mix (by kernel_rfl) [0, 0, 0, 0, 0, 1, 0, 0, 0, 0, 1, 0, 0, 0] rfl (by kernel_rfl) ?_
  iterate 3 refine gx ?_
  refine TM.free (Wants.none rfl) rfl (fun _ => Gets.nilCheck rfl rfl) ?_
  iterate 4 refine gx ?_
  refine TM.free (Wants.none rfl) rfl (fun _ => Gets.nilCheck rfl rfl) ?_
  iterate 2 refine gx ?_
  refine TM.free (Wants.none rfl) rfl (fun _ => Gets.sub rfl rfl rfl (r := ((m : Int) - (k : Int))) (w64 (by omega) (by omega))) ?_
  refine TM.free (Wants.none rfl) rfl (fun _ => Gets.congr (Gets.min2 rfl rfl rfl) (by rw [show (if ((m : Int) - (k : Int)) < (md : Int) then ((m : Int) - (k : Int)) else (md : Int)) = (md : Int) from if_neg (by omega)])) ?_
  iterate 3 refine gx ?_
  refine TC.pr [0, 1, 2, 6, 7] ?_
  iterate 2 refine gx ?_
  refine TC.mix (by kernel_rfl) [0, 0, 0, 1, 0, 0, 0, 1, 0, 0, 0, 1, 0, 0, 0, 1, 0, 0, 0, 1, 0] rfl (by kernel_rfl) ?_
  refine gx ?_
  refine TM.free (Wants.none rfl) rfl (fun _ => Gets.nilCheck rfl rfl) ?_
  iterate 3 refine gx ?_
  refine TM.free (Wants.none rfl) rfl (fun _ => Gets.nilCheck rfl rfl) ?_
  iterate 3 refine gx ?_
  refine TM.free (Wants.none rfl) rfl (fun _ => Gets.nilCheck rfl rfl) ?_
  iterate 3 refine gx ?_
  refine TM.free (Wants.none rfl) rfl (fun _ => Gets.add rfl rfl rfl (r := ((k : Int) + (md : Int))) (w64 (by omega) (by omega))) ?_
  refine TM.free (Wants.none rfl) rfl (fun _ => Gets.sliceS rfl Try.underlying28 size5 rfl (bnd.at_ (l := k) rfl (by omega)) (bnd.at_ (l := (k + md)) rfl (by omega)) (by omega) (by omega) rfl (ln := md) (cp := (c - k)) (by omega) (by omega)) ?_
  refine TM.gets (Wants.none rfl) rfl (Gets.b2s rfl Try.underlying28 Try.underlying9 Try.underlying5 rfl (fun w hs => ((((hX.at_ hs (fun b hb hbX => (ne_cons (fun h => hbX g (by simp) h.symm) ne_nil))).drop (l := k) (by omega) (by omega)).head (n := md) (by omega)).src))) ?_
  iterate 2 refine gx ?_
  refine TM.free (Wants.none rfl) rfl (fun _ => Gets.sliceS rfl Try.underlying28 size5 rfl bnd.dflt (bnd.at_ (l := md) rfl (by omega)) (by omega) (by omega) (cutA_zero _ _ _) (ln := md) (cp := cd) (by omega) (by omega)) ?_
  refine TM.gets (Wants.none rfl) rfl (Gets.b2s rfl Try.underlying28 Try.underlying9 Try.underlying5 rfl (fun w hs => (((hXD.at_ hs (fun b hb hbX => (ne_cons (fun h => hbX g (by simp) h.symm) ne_nil))).head (n := md) (by omega)).src))) ?_
  refine TM.free (Wants.none rfl) rfl (fun _ => Gets.isFalse (Gets.bytesNe rfl rfl rfl Try.underlying9 ((hBB.drop k).take md) (hBD.take md)) (fun h => h (by rw [h1, List.take_of_length_le (by omega)]))) ?_
  iterate 2 refine gx ?_
  refine TC.pr [0, 1, 2, 6, 7, 46] ?_
  refine TC.no rfl ?_
  iterate 8 refine gx ?_
  refine TL.gets (Wants.none rfl) rfl (Gets.isFalse (Gets.lss rfl rfl rfl) (by omega)) ?_
  iterate 2 refine gx ?_
  refine TC.pr [0, 6, 7, 57] ?_
  refine TC.no rfl ?_
  iterate 6 refine gx ?_
  refine TL.gets (Wants.none rfl) rfl (Gets.nilCheck rfl rfl) ?_
  iterate 3 refine gx ?_
  refine TL.gets (Wants.none rfl) rfl (Gets.add rfl rfl rfl (r := ((k : Int) + (md : Int))) (w64 (by omega) (by omega))) ?_
  refine TL.gets (Wants.none rfl) rfl (Gets.nilCheck rfl rfl) ?_
  refine gx ?_
  refine TL.store1 (Wants.none rfl) rfl rfl size3 rfl rfl rfl (i := 0) rfl rfl (by simp [] <;> omega) (cs' := [Value.slice A m c, Value.int .i64 ((k : Int) + (md : Int)), Value.int .i64 0, Value.int .i64 po]) (rfl) (H' := [⟨g, 67, [Value.slice A m c, Value.int .i64 ((k : Int) + (md : Int)), Value.int .i64 0, Value.int .i64 po], 4⟩]) rfl ?_
  iterate 2 refine gx ?_
  refine TC.pr [6] ?_
  iterate 6 refine gx ?_
  exact TE.ret1 rfl rfl (fun w hs => ⟨rfl, hs⟩)

set_option maxRecDepth 100000 in
set_option maxHeartbeats 400000 in
theorem rexp_short (g : Nat) (A : Option Addr) (m c k : Nat) (po d : Int) (hd : d ≠ 0) (w : World) (hl : Ent.lies ⟨g, 67, rdC A m c k 0 po, rdN⟩ w) (hk : k ≤ m) (hmc : m ≤ c) (hcm : c ≤ 9223372036854775807) (B : List Int) (hX : SrcX w [g] A m .u8 B) (hBB : Bytes B) (D : List Int) (Ad : Option Addr) (md cd : Nat) (hXD : SrcX w [g] Ad md .u8 D) (hBD : Bytes D) (hmd : md ≤ cd) (hcd : cd ≤ 9223372036854775807) (hml : m - k < md) (h1 : D.take (m - k) = B.drop k)  : Calls Try.prog 29 #[.pointer (some ⟨g, 0, none⟩), .slice Ad md cd, .int .i64 d] w fun e w' => e = .returned (.bool false) ∧ St w [⟨g, 67, rdC A m c k 8 (m : Int), rdN⟩] w' := by
  have hBm := hX.1
  have hDm := hXD.1
  refine calls_from (args := [.pointer (some ⟨g, 0, none⟩), .slice Ad md cd, .int .i64 d]) Try.func29 rfl Try.ntmps29 (by simp) ?_
  refine TC.pr [0, 1, 2] ?_
  refine TC.heap (H' := [⟨g, 67, [Value.slice A m c, Value.int .i64 (k : Int), Value.int .i64 0, Value.int .i64 po], 4⟩]) (fun w hs => hs.take hl ne_nil) ?_
  iterate 9 refine gx ?_
  refine TL.gets (Wants.none rfl) rfl (Gets.nilCheck rfl rfl) ?_
  iterate 2 refine gx ?_
  refine TL.gets (Wants.none rfl) rfl (Gets.isFalse (Gets.neq rfl rfl rfl) (fun h => h rfl)) ?_
  iterate 2 refine gx ?_
  refine TC.pr [0, 1, 2, 6, 12] ?_
  refine TC.no rfl ?_
  iterate 3 refine gx ?_
  refine TC.mix (by kernel_rfl) [0, 0, 0, 0, 0, 1, 0, 0, 0, 0, 1, 0, 0, 0] rfl (by kernel_rfl) ?_
  iterate 3 refine gx ?_
  refine TM.free (Wants.none rfl) rfl (fun _ => Gets.nilCheck rfl rfl) ?_
  iterate 4 refine gx ?_
  refine TM.free (Wants.none rfl) rfl (fun _ => Gets.nilCheck rfl rfl) ?_
  iterate 2 refine gx ?_
  refine TM.free (Wants.none rfl) rfl (fun _ => Gets.sub rfl rfl rfl (r := ((m : Int) - (k : Int))) (w64 (by omega) (by omega))) ?_
  refine TM.free (Wants.none rfl) rfl (fun _ => Gets.congr (Gets.min2 rfl rfl rfl) (by rw [show (if ((m : Int) - (k : Int)) < (md : Int) then ((m : Int) - (k : Int)) else (md : Int)) = ((m - k : Nat) : Int) from by rw [if_pos (by omega)]; omega])) ?_
  iterate 3 refine gx ?_
  refine TC.pr [0, 1, 2, 6, 7] ?_
  iterate 2 refine gx ?_
  refine TC.mix (by kernel_rfl) [0, 0, 0, 1, 0, 0, 0, 1, 0, 0, 0, 1, 0, 0, 0, 1, 0, 0, 0, 1, 0] rfl (by kernel_rfl) ?_
  refine gx ?_
  refine TM.free (Wants.none rfl) rfl (fun _ => Gets.nilCheck rfl rfl) ?_
  iterate 3 refine gx ?_
  refine TM.free (Wants.none rfl) rfl (fun _ => Gets.nilCheck rfl rfl) ?_
  iterate 3 refine gx ?_
  refine TM.free (Wants.none rfl) rfl (fun _ => Gets.nilCheck rfl rfl) ?_
  iterate 3 refine gx ?_
  refine TM.free (Wants.none rfl) rfl (fun _ => Gets.add rfl rfl rfl (r := (m : Int)) (w64 (by omega) (by omega))) ?_
  refine TM.free (Wants.none rfl) rfl (fun _ => Gets.sliceS rfl Try.underlying28 size5 rfl (bnd.at_ (l := k) rfl (by omega)) (bnd.at_ (l := m) rfl (by omega)) (by omega) (by omega) rfl (ln := (m - k)) (cp := (c - k)) (by omega) (by omega)) ?_
  refine TM.gets (Wants.none rfl) rfl (Gets.b2s rfl Try.underlying28 Try.underlying9 Try.underlying5 rfl (fun w hs => ((((hX.at_ hs (fun b hb hbX => (ne_cons (fun h => hbX g (by simp) h.symm) ne_nil))).drop (l := k) (by omega) (by omega)).head (n := (m - k)) (by omega)).src))) ?_
  iterate 2 refine gx ?_
  refine TM.free (Wants.none rfl) rfl (fun _ => Gets.sliceS rfl Try.underlying28 size5 rfl bnd.dflt (bnd.at_ (l := (m - k)) rfl (by omega)) (by omega) (by omega) (cutA_zero _ _ _) (ln := (m - k)) (cp := cd) (by omega) (by omega)) ?_
  refine TM.gets (Wants.none rfl) rfl (Gets.b2s rfl Try.underlying28 Try.underlying9 Try.underlying5 rfl (fun w hs => (((hXD.at_ hs (fun b hb hbX => (ne_cons (fun h => hbX g (by simp) h.symm) ne_nil))).head (n := (m - k)) (by omega)).src))) ?_
  refine TM.free (Wants.none rfl) rfl (fun _ => Gets.isFalse (Gets.bytesNe rfl rfl rfl Try.underlying9 ((hBB.drop k).take (m - k)) (hBD.take (m - k))) (fun h => h (by rw [h1, List.take_of_length_le (by rw [List.length_drop]; omega)]))) ?_
  iterate 2 refine gx ?_
  refine TC.pr [0, 1, 2, 6, 7, 46] ?_
  refine TC.no rfl ?_
  iterate 8 refine gx ?_
  refine TL.gets (Wants.none rfl) rfl (Gets.isTrue (Gets.lss rfl rfl rfl) (by omega)) ?_
  iterate 2 refine gx ?_
  refine TC.pr [0, 6, 7, 57] ?_
  refine TC.yes rfl ?_
  iterate 4 refine gx ?_
  refine TL.gets (Wants.none rfl) rfl (Gets.nilCheck rfl rfl) ?_
  iterate 3 refine gx ?_
  refine TL.call (ι := Unit) (V := fun _ => .tuple #[]) (R := fun _ => True) (H' := fun _ => [⟨g, 67, [Value.slice A m c, Value.int .i64 (k : Int), Value.int .i64 8, Value.int .i64 (m : Int)], 4⟩]) (Wants.none rfl) rfl enters31 rfl rfl (fun w hs => (rfail_set g A m c k po 8 (m : Int) (by first | exact hd | decide) w (hs.has (⟨g, 67, [Value.slice A m c, Value.int .i64 (k : Int), Value.int .i64 0, Value.int .i64 po], 4⟩) (by simp))).mono fun e w' ⟨he, hw⟩ => ⟨(), he, trivial, St.turn (i := 0) (e := ⟨g, 67, [Value.slice A m c, Value.int .i64 (k : Int), Value.int .i64 8, Value.int .i64 (m : Int)], 4⟩) hs rfl rfl hw⟩) (fun _ _ => ?_)
  iterate 2 refine gx ?_
  refine TC.pr [0, 6, 7] ?_
  iterate 7 refine gx ?_
  exact TE.ret1 rfl rfl (fun w hs => ⟨rfl, hs⟩)

set_option maxRecDepth 100000 in
set_option maxHeartbeats 400000 in
theorem rexp_bad1 (g : Nat) (A : Option Addr) (m c k : Nat) (po d : Int) (hd : d ≠ 0) (w : World) (hl : Ent.lies ⟨g, 67, rdC A m c k 0 po, rdN⟩ w) (hk : k ≤ m) (hmc : m ≤ c) (hcm : c ≤ 9223372036854775807) (B : List Int) (hX : SrcX w [g] A m .u8 B) (hBB : Bytes B) (D : List Int) (Ad : Option Addr) (md cd : Nat) (hXD : SrcX w [g] Ad md .u8 D) (hBD : Bytes D) (hmd : md ≤ cd) (hcd : cd ≤ 9223372036854775807) (hml : md ≤ m - k) (h1 : ¬ (B.drop k).take md = D)  : Calls Try.prog 29 #[.pointer (some ⟨g, 0, none⟩), .slice Ad md cd, .int .i64 d] w fun e w' => e = .returned (.bool false) ∧ St w [⟨g, 67, rdC A m c k d (k : Int), rdN⟩] w' := by
  have hBm := hX.1
  have hDm := hXD.1
  refine calls_from (args := [.pointer (some ⟨g, 0, none⟩), .slice Ad md cd, .int .i64 d]) Try.func29 rfl Try.ntmps29 (by simp) ?_
  refine TC.pr [0, 1, 2] ?_
  refine TC.heap (H' := [⟨g, 67, [Value.slice A m c, Value.int .i64 (k : Int), Value.int .i64 0, Value.int .i64 po], 4⟩]) (fun w hs => hs.take hl ne_nil) ?_
  iterate 9 refine gx ?_
  refine TL.gets (Wants.none rfl) rfl (Gets.nilCheck rfl rfl) ?_
  iterate 2 refine gx ?_
  refine TL.gets (Wants.none rfl) rfl (Gets.isFalse (Gets.neq rfl rfl rfl) (fun h => h rfl)) ?_
  iterate 2 refine gx ?_
  refine TC.pr [0, 1, 2, 6, 12] ?_
  refine TC.no rfl ?_
  iterate 3 refine gx ?_
  refine TC.mix (by kernel_rfl) [0, 0, 0, 0, 0, 1, 0, 0, 0, 0, 1, 0, 0, 0] rfl (by kernel_rfl) ?_
  iterate 3 refine gx ?_
  refine TM.free (Wants.none rfl) rfl (fun _ => Gets.nilCheck rfl rfl) ?_
  iterate 4 refine gx ?_
  refine TM.free (Wants.none rfl) rfl (fun _ => Gets.nilCheck rfl rfl) ?_
  iterate 2 refine gx ?_
  refine TM.free (Wants.none rfl) rfl (fun _ => Gets.sub rfl rfl rfl (r := ((m : Int) - (k : Int))) (w64 (by omega) (by omega))) ?_
  refine TM.free (Wants.none rfl) rfl (fun _ => Gets.congr (Gets.min2 rfl rfl rfl) (by rw [show (if ((m : Int) - (k : Int)) < (md : Int) then ((m : Int) - (k : Int)) else (md : Int)) = (md : Int) from if_neg (by omega)])) ?_
  iterate 3 refine gx ?_
  refine TC.pr [0, 1, 2, 6, 7] ?_
  iterate 2 refine gx ?_
  refine TC.mix (by kernel_rfl) [0, 0, 0, 1, 0, 0, 0, 1, 0, 0, 0, 1, 0, 0, 0, 1, 0, 0, 0, 1, 0] rfl (by kernel_rfl) ?_
  refine gx ?_
  refine TM.free (Wants.none rfl) rfl (fun _ => Gets.nilCheck rfl rfl) ?_
  iterate 3 refine gx ?_
  refine TM.free (Wants.none rfl) rfl (fun _ => Gets.nilCheck rfl rfl) ?_
  iterate 3 refine gx ?_
  refine TM.free (Wants.none rfl) rfl (fun _ => Gets.nilCheck rfl rfl) ?_
  iterate 3 refine gx ?_
  refine TM.free (Wants.none rfl) rfl (fun _ => Gets.add rfl rfl rfl (r := ((k : Int) + (md : Int))) (w64 (by omega) (by omega))) ?_
  refine TM.free (Wants.none rfl) rfl (fun _ => Gets.sliceS rfl Try.underlying28 size5 rfl (bnd.at_ (l := k) rfl (by omega)) (bnd.at_ (l := (k + md)) rfl (by omega)) (by omega) (by omega) rfl (ln := md) (cp := (c - k)) (by omega) (by omega)) ?_
  refine TM.gets (Wants.none rfl) rfl (Gets.b2s rfl Try.underlying28 Try.underlying9 Try.underlying5 rfl (fun w hs => ((((hX.at_ hs (fun b hb hbX => (ne_cons (fun h => hbX g (by simp) h.symm) ne_nil))).drop (l := k) (by omega) (by omega)).head (n := md) (by omega)).src))) ?_
  iterate 2 refine gx ?_
  refine TM.free (Wants.none rfl) rfl (fun _ => Gets.sliceS rfl Try.underlying28 size5 rfl bnd.dflt (bnd.at_ (l := md) rfl (by omega)) (by omega) (by omega) (cutA_zero _ _ _) (ln := md) (cp := cd) (by omega) (by omega)) ?_
  refine TM.gets (Wants.none rfl) rfl (Gets.b2s rfl Try.underlying28 Try.underlying9 Try.underlying5 rfl (fun w hs => (((hXD.at_ hs (fun b hb hbX => (ne_cons (fun h => hbX g (by simp) h.symm) ne_nil))).head (n := md) (by omega)).src))) ?_
  refine TM.free (Wants.none rfl) rfl (fun _ => Gets.isTrue (Gets.bytesNe rfl rfl rfl Try.underlying9 ((hBB.drop k).take md) (hBD.take md)) (fun h => h1 (by rw [h, List.take_of_length_le (by omega)]))) ?_
  iterate 2 refine gx ?_
  refine TC.pr [0, 1, 2, 6, 7, 46] ?_
  refine TC.yes rfl ?_
  iterate 5 refine gx ?_
  refine TL.gets (Wants.none rfl) rfl (Gets.nilCheck rfl rfl) ?_
  iterate 2 refine gx ?_
  refine TL.call (ι := Unit) (V := fun _ => .tuple #[]) (R := fun _ => True) (H' := fun _ => [⟨g, 67, [Value.slice A m c, Value.int .i64 (k : Int), Value.int .i64 d, Value.int .i64 (k : Int)], 4⟩]) (Wants.none rfl) rfl enters31 rfl rfl (fun w hs => (rfail_set g A m c k po d (k : Int) (by first | exact hd | decide) w (hs.has (⟨g, 67, [Value.slice A m c, Value.int .i64 (k : Int), Value.int .i64 0, Value.int .i64 po], 4⟩) (by simp))).mono fun e w' ⟨he, hw⟩ => ⟨(), he, trivial, St.turn (i := 0) (e := ⟨g, 67, [Value.slice A m c, Value.int .i64 (k : Int), Value.int .i64 d, Value.int .i64 (k : Int)], 4⟩) hs rfl rfl hw⟩) (fun _ _ => ?_)
  iterate 2 refine gx ?_
  refine TC.pr [0, 1, 6, 7] ?_
  iterate 7 refine gx ?_
  exact TE.ret1 rfl rfl (fun w hs => ⟨rfl, hs⟩)

set_option maxRecDepth 100000 in
set_option maxHeartbeats 400000 in
theorem rexp_bad2 (g : Nat) (A : Option Addr) (m c k : Nat) (po d : Int) (hd : d ≠ 0) (w : World) (hl : Ent.lies ⟨g, 67, rdC A m c k 0 po, rdN⟩ w) (hk : k ≤ m) (hmc : m ≤ c) (hcm : c ≤ 9223372036854775807) (B : List Int) (hX : SrcX w [g] A m .u8 B) (hBB : Bytes B) (D : List Int) (Ad : Option Addr) (md cd : Nat) (hXD : SrcX w [g] Ad md .u8 D) (hBD : Bytes D) (hmd : md ≤ cd) (hcd : cd ≤ 9223372036854775807) (hml : m - k < md) (h1 : ¬ D.take (m - k) = B.drop k)  : Calls Try.prog 29 #[.pointer (some ⟨g, 0, none⟩), .slice Ad md cd, .int .i64 d] w fun e w' => e = .returned (.bool false) ∧ St w [⟨g, 67, rdC A m c k d (k : Int), rdN⟩] w' := by
  have hBm := hX.1
  have hDm := hXD.1
  refine calls_from (args := [.pointer (some ⟨g, 0, none⟩), .slice Ad md cd, .int .i64 d]) Try.func29 rfl Try.ntmps29 (by simp) ?_
  refine TC.pr [0, 1, 2] ?_
  refine TC.heap (H' := [⟨g, 67, [Value.slice A m c, Value.int .i64 (k : Int), Value.int .i64 0, Value.int .i64 po], 4⟩]) (fun w hs => hs.take hl ne_nil) ?_
  iterate 9 refine gx ?_
  refine TL.gets (Wants.none rfl) rfl (Gets.nilCheck rfl rfl) ?_
  iterate 2 refine gx ?_
  refine TL.gets (Wants.none rfl) rfl (Gets.isFalse (Gets.neq rfl rfl rfl) (fun h => h rfl)) ?_
  iterate 2 refine gx ?_
  refine TC.pr [0, 1, 2, 6, 12] ?_
  refine TC.no rfl ?_
  iterate 3 refine gx ?_
  refine TC.mix (by kernel_rfl) [0, 0, 0, 0, 0, 1, 0, 0, 0, 0, 1, 0, 0, 0] rfl (by kernel_rfl) ?_
  iterate 3 refine gx ?_
  refine TM.free (Wants.none rfl) rfl (fun _ => Gets.nilCheck rfl rfl) ?_
  iterate 4 refine gx ?_
  refine TM.free (Wants.none rfl) rfl (fun _ => Gets.nilCheck rfl rfl) ?_
  iterate 2 refine gx ?_
  refine TM.free (Wants.none rfl) rfl (fun _ => Gets.sub rfl rfl rfl (r := ((m : Int) - (k : Int))) (w64 (by omega) (by omega))) ?_
  refine TM.free (Wants.none rfl) rfl (fun _ => Gets.congr (Gets.min2 rfl rfl rfl) (by rw [show (if ((m : Int) - (k : Int)) < (md : Int) then ((m : Int) - (k : Int)) else (md : Int)) = ((m - k : Nat) : Int) from by rw [if_pos (by omega)]; omega])) ?_
  iterate 3 refine gx ?_
  refine TC.pr [0, 1, 2, 6, 7] ?_
  iterate 2 refine gx ?_
  refine TC.mix (by kernel_rfl) [0, 0, 0, 1, 0, 0, 0, 1, 0, 0, 0, 1, 0, 0, 0, 1, 0, 0, 0, 1, 0] rfl (by kernel_rfl) ?_
  refine gx ?_
  refine TM.free (Wants.none rfl) rfl (fun _ => Gets.nilCheck rfl rfl) ?_
  iterate 3 refine gx ?_
  refine TM.free (Wants.none rfl) rfl (fun _ => Gets.nilCheck rfl rfl) ?_
  iterate 3 refine gx ?_
  refine TM.free (Wants.none rfl) rfl (fun _ => Gets.nilCheck rfl rfl) ?_
  iterate 3 refine gx ?_
  refine TM.free (Wants.none rfl) rfl (fun _ => Gets.add rfl rfl rfl (r := (m : Int)) (w64 (by omega) (by omega))) ?_
  refine TM.free (Wants.none rfl) rfl (fun _ => Gets.sliceS rfl Try.underlying28 size5 rfl (bnd.at_ (l := k) rfl (by omega)) (bnd.at_ (l := m) rfl (by omega)) (by omega) (by omega) rfl (ln := (m - k)) (cp := (c - k)) (by omega) (by omega)) ?_
  refine TM.gets (Wants.none rfl) rfl (Gets.b2s rfl Try.underlying28 Try.underlying9 Try.underlying5 rfl (fun w hs => ((((hX.at_ hs (fun b hb hbX => (ne_cons (fun h => hbX g (by simp) h.symm) ne_nil))).drop (l := k) (by omega) (by omega)).head (n := (m - k)) (by omega)).src))) ?_
  iterate 2 refine gx ?_
  refine TM.free (Wants.none rfl) rfl (fun _ => Gets.sliceS rfl Try.underlying28 size5 rfl bnd.dflt (bnd.at_ (l := (m - k)) rfl (by omega)) (by omega) (by omega) (cutA_zero _ _ _) (ln := (m - k)) (cp := cd) (by omega) (by omega)) ?_
  refine TM.gets (Wants.none rfl) rfl (Gets.b2s rfl Try.underlying28 Try.underlying9 Try.underlying5 rfl (fun w hs => (((hXD.at_ hs (fun b hb hbX => (ne_cons (fun h => hbX g (by simp) h.symm) ne_nil))).head (n := (m - k)) (by omega)).src))) ?_
  refine TM.free (Wants.none rfl) rfl (fun _ => Gets.isTrue (Gets.bytesNe rfl rfl rfl Try.underlying9 ((hBB.drop k).take (m - k)) (hBD.take (m - k))) (fun h => h1 (by rw [← h, List.take_of_length_le (by rw [List.length_drop]; omega)]))) ?_
  iterate 2 refine gx ?_
  refine TC.pr [0, 1, 2, 6, 7, 46] ?_
  refine TC.yes rfl ?_
  iterate 5 refine gx ?_
  refine TL.gets (Wants.none rfl) rfl (Gets.nilCheck rfl rfl) ?_
  iterate 2 refine gx ?_
  refine TL.call (ι := Unit) (V := fun _ => .tuple #[]) (R := fun _ => True) (H' := fun _ => [⟨g, 67, [Value.slice A m c, Value.int .i64 (k : Int), Value.int .i64 d, Value.int .i64 (k : Int)], 4⟩]) (Wants.none rfl) rfl enters31 rfl rfl (fun w hs => (rfail_set g A m c k po d (k : Int) (by first | exact hd | decide) w (hs.has (⟨g, 67, [Value.slice A m c, Value.int .i64 (k : Int), Value.int .i64 0, Value.int .i64 po], 4⟩) (by simp))).mono fun e w' ⟨he, hw⟩ => ⟨(), he, trivial, St.turn (i := 0) (e := ⟨g, 67, [Value.slice A m c, Value.int .i64 (k : Int), Value.int .i64 d, Value.int .i64 (k : Int)], 4⟩) hs rfl rfl hw⟩) (fun _ _ => ?_)
  iterate 2 refine gx ?_
  refine TC.pr [0, 1, 6, 7] ?_
  iterate 7 refine gx ?_
  exact TE.ret1 rfl rfl (fun w hs => ⟨rfl, hs⟩)

set_option maxRecDepth 100000 in
set_option maxHeartbeats 400000 in
theorem rexp_dead (g : Nat) (A : Option Addr) (m c k : Nat) (co po d : Int) (Ad : Option Addr) (md cd : Nat) (hco : co ≠ 0) (w : World) (hl : Ent.lies ⟨g, 67, rdC A m c k co po, rdN⟩ w)  : Calls Try.prog 29 #[.pointer (some ⟨g, 0, none⟩), .slice Ad md cd, .int .i64 d] w fun e w' => e = .returned (.bool false) ∧ St w [] w' := by
  refine calls_from (args := [.pointer (some ⟨g, 0, none⟩), .slice Ad md cd, .int .i64 d]) Try.func29 rfl Try.ntmps29 (by simp) ?_
  refine TC.pr [0, 1, 2] ?_
  refine TC.heap (H' := [⟨g, 67, [Value.slice A m c, Value.int .i64 (k : Int), Value.int .i64 co, Value.int .i64 po], 4⟩]) (fun w hs => hs.take hl ne_nil) ?_
  iterate 9 refine gx ?_
  refine TL.gets (Wants.none rfl) rfl (Gets.nilCheck rfl rfl) ?_
  iterate 2 refine gx ?_
  refine TL.gets (Wants.none rfl) rfl (Gets.isTrue (Gets.neq rfl rfl rfl) hco) ?_
  iterate 2 refine gx ?_
  refine TC.pr [0, 1, 2, 6, 12] ?_
  refine TC.yes rfl ?_
  iterate 7 refine gx ?_
  exact TE.ret1 rfl rfl (fun w hs => ⟨rfl, (hs.same hl rfl)⟩)

theorem rexp_s (g : Nat) (A : Option Addr) (m c : Nat) (s : RS) (d : Int) (hd : d ≠ 0) (w : World) (hl : Ent.lies ⟨g, 67, rdC A m c s.k s.co s.po, rdN⟩ w) (hk : s.k ≤ m) (hmc : m ≤ c) (hcm : c ≤ 9223372036854775807) (B : List Int) (hX : SrcX w [g] A m .u8 B) (hBB : Bytes B) (D : List Int) (Ad : Option Addr) (md cd : Nat) (hXD : SrcX w [g] Ad md .u8 D) (hBD : Bytes D) (hmd : md ≤ cd) (hcd : cd ≤ 9223372036854775807) : Calls Try.prog 29 #[.pointer (some ⟨g, 0, none⟩), .slice Ad md cd, .int .i64 d] w fun e w' => e = .returned (.bool (rExp B s D d).1) ∧ St w [⟨g, 67, rdC A m c (rExp B s D d).2.k (rExp B s D d).2.co (rExp B s D d).2.po, rdN⟩] w' := by
  have hBm := hX.1
  have hDm := hXD.1
  obtain ⟨k, co, po⟩ := s
  dsimp only at hk hl
  unfold rExp
  by_cases h : co = 0
  · subst h
    rw [if_pos rfl]
    dsimp only
    rw [hBm, hDm]
    by_cases h1 : (B.drop k).take md = D
    · rw [if_pos h1]
      have h2 := congrArg List.length h1
      rw [List.length_take, List.length_drop] at h2
      exact rexp_ok g A m c k po d hd w hl hk hmc hcm B hX hBB D Ad md cd hXD hBD hmd hcd (by omega) h1
    · rw [if_neg h1]
      by_cases h2 : D.take (m - k) = B.drop k
      · rw [if_pos h2]
        have h3 : m - k < md := by
          apply Nat.lt_of_not_le
          intro h4
          apply h1
          rw [← h2, List.take_take, Nat.min_eq_left h4, List.take_of_length_le (by omega)]
        exact rexp_short g A m c k po d hd w hl hk hmc hcm B hX hBB D Ad md cd hXD hBD hmd hcd h3 h2
      · rw [if_neg h2]
        have e : rFail ⟨k, 0, po⟩ d (k : Int) = ⟨k, d, k⟩ := by unfold rFail; rw [if_pos ⟨rfl, hd⟩]
        dsimp only
        rw [e]
        by_cases h4 : md ≤ m - k
        · exact rexp_bad1 g A m c k po d hd w hl hk hmc hcm B hX hBB D Ad md cd hXD hBD hmd hcd h4 h1
        · exact rexp_bad2 g A m c k po d hd w hl hk hmc hcm B hX hBB D Ad md cd hXD hBD hmd hcd (by omega) h2
  · rw [if_neg h]
    exact (rexp_dead g A m c k co po d Ad md cd h w hl).mono fun e w' ⟨he, hw⟩ => ⟨he, hw.take hl ne_nil⟩
end Go.Proofs.Ytclmgfcdnokaiaa
/-
  The reference of layer 7: command.
-/
namespace Go.Proofs.Ytclmgfcdnokaiaa
set_option linter.unusedVariables false
set_option linter.unusedSimpArgs false
open Go Go.RowKit
theorem enters32 : Enters Try.prog 32 := ⟨_, Try.func32, by kernel_rfl, by kernel_rfl⟩
theorem enters33 : Enters Try.prog 33 := ⟨_, Try.func33, by kernel_rfl, by kernel_rfl⟩
theorem zero47 : (Try.prog.info? 47).bind (·.zero) = some (.agg #[.int .i64 0, .int .i64 0, .int .i64 0, .int .i64 0, .slice none 0 0]) := by kernel_rfl
instance : AgY Try.prog 47 := ⟨agg47⟩
instance : Siz Try.prog 47 5 := ⟨size47⟩
instance : Zer Try.prog 47 [Value.int .i64 0, Value.int .i64 0, Value.int .i64 0, Value.int .i64 0, Value.slice none 0 0] := ⟨⟨_, zero47, rfl⟩⟩
theorem kindF_T {s : RS} {kk : Int} {a : Nat} (h1 : s.co = 0) (h2 : kk ≠ 1) (h3 : kk ≠ 2) : kindF s kk a = rFail s 11 a := by unfold kindF; rw [if_pos ⟨h1, h2, h3⟩]
theorem kindF_F {s : RS} {kk : Int} {a : Nat} (h : ¬ (s.co = 0 ∧ kk ≠ 1 ∧ kk ≠ 2)) : kindF s kk a = s := by unfold kindF; rw [if_neg h]
theorem rCmd_copy {B : List Int} {s z : RS} {x t f l : Int × RS} (hx : rUint B s 1 = x) (hz : kindF x.2 x.1 s.k = z) (ht : rLen B z = t) (h1 : x.1 = 1) (hf : rLen B t.2 = f) (hl : rLen B f.2 = l) : rCmd B s = (⟨x.1, t.1, f.1, l.1, []⟩, l.2) := by
  unfold rCmd; dsimp only; rw [hx, hz, ht, hf, hl, if_pos h1]
theorem rCmd_lit {B : List Int} {s z : RS} {x t m : Int × RS} {D : List Int × RS} (hx : rUint B s 1 = x) (hz : kindF x.2 x.1 s.k = z) (ht : rLen B z = t) (h1 : ¬ x.1 = 1) (hm : rLen B t.2 = m) (hD : rBytes B m.2 m.1.toNat = D) : rCmd B s = (⟨x.1, t.1, 0, 0, D.1⟩, D.2) := by
  unfold rCmd; dsimp only; rw [hx, hz, ht, hm, hD, if_neg h1]

set_option maxRecDepth 100000 in
set_option maxHeartbeats 1000000 in
theorem rcommand_s (g : Nat) (A : Option Addr) (m c : Nat) (s : RS) (w : World) (hl : Ent.lies ⟨g, 67, rdC A m c s.k s.co s.po, rdN⟩ w) (hk : s.k ≤ m) (hmc : m ≤ c) (hcm : c ≤ 9223372036854775807) (B : List Int) (hX : SrcX w [g] A m .u8 B) (hBB : Bytes B) (hri : RI B s)  : Calls Try.prog 34 #[.pointer (some ⟨g, 0, none⟩)] w fun e w' => ∃ (A' : Option Addr) (c' : Nat), e = .returned (.agg ([Value.int .i64 (rCmd B s).1.k, Value.int .i64 (rCmd B s).1.t, Value.int .i64 (rCmd B s).1.f, Value.int .i64 (rCmd B s).1.l, Value.slice A' (rCmd B s).1.B.length c']).toArray) ∧ Seg A m c B A' c' (rCmd B s).1.B ∧ St w [⟨g, 67, rdC A m c (rCmd B s).2.k (rCmd B s).2.co (rCmd B s).2.po, rdN⟩] w' := by
  have hBm := hX.1
  have hg : g < w.heap.size := hl.lt
  refine calls_from (args := [.pointer (some ⟨g, 0, none⟩)]) Try.func34 rfl Try.ntmps34 (by simp) ?_
  refine TC.pr [0] ?_
  refine TC.heap (H' := [⟨g, 67, [Value.slice A m c, Value.int .i64 (s.k : Int), Value.int .i64 s.co, Value.int .i64 s.po], 4⟩]) (fun w hs => hs.take hl ne_nil) ?_
  iterate 2 refine gx ?_
  refine TL.al (fun g1 hg1 => ?_)
  iterate 5 refine gx ?_
  refine TL.gets (Wants.none rfl) rfl (Gets.nilCheck rfl rfl) ?_
  iterate 8 refine gx ?_
  refine TL.call (ι := Unit) (V := fun _ => .int .u64 ((rUint B s 1).1)) (R := fun _ => True) (H' := fun _ => [⟨g1, 47, [Value.int .i64 0, Value.int .i64 0, Value.int .i64 0, Value.int .i64 0, Value.slice none 0 0], 5⟩, ⟨g, 67, [Value.slice A m c, Value.int .i64 ((rUint B s 1).2.k : Int), Value.int .i64 ((rUint B s 1).2.co), Value.int .i64 ((rUint B s 1).2.po)], 4⟩]) (Wants.none rfl) rfl enters30 rfl rfl (fun w hs => (ruint_s g A m c s 1 (by omega) w (hs.has (⟨g, 67, [Value.slice A m c, Value.int .i64 (s.k : Int), Value.int .i64 s.co, Value.int .i64 s.po], 4⟩) (by simp)) (by omega) (by omega) (by omega) B (hX.at_ hs (fun b hb hbX => (ne_cons (by show g1 ≠ b; omega) (ne_cons (fun h => hbX g (by simp) h.symm) ne_nil)))) hBB).mono fun e w' ⟨he, hw⟩ => ⟨(), he, trivial, St.turn (i := 1) (e := ⟨g, 67, [Value.slice A m c, Value.int .i64 ((rUint B s 1).2.k : Int), Value.int .i64 ((rUint B s 1).2.co), Value.int .i64 ((rUint B s 1).2.po)], 4⟩) hs rfl rfl hw⟩) (fun _ _ => ?_)
  have hwx := rUint_val1 hBB s
  have hvx := rUint_val hBB s (n := 1) (by omega)
  have hrix := rUint_ri (n := 1) hri
  generalize hx : rUint B s 1 = x at hvx hrix hwx ⊢
  have hkx : x.2.k ≤ m := by have := hrix.1; omega
  skip
  refine TL.gets (Wants.none rfl) rfl (Gets.conv rfl Try.underlying51 Try.underlying3 rfl (r := x.1) (w64 rfl (by omega))) ?_
  refine TL.gets (Wants.none rfl) rfl (Gets.build rfl (vs := [(0, Value.int .i64 x.1)]) rfl (fun w => by first | rfl | kernel_rfl) (v := .agg ([Value.int .i64 x.1, Value.int .i64 0, Value.int .i64 0, Value.int .i64 0, Value.slice none 0 0]).toArray)) ?_
  refine TL.al (fun g2 hg2 => ?_)
  iterate 3 refine gx ?_
  refine TC.pr [0, 2, 3, 4] ?_
  iterate 4 refine gx ?_
  refine TL.gets (Wants.none rfl) rfl (Gets.nilCheck rfl rfl) ?_
  iterate 2 refine gx ?_
  by_cases c1 : x.2.co = 0
  · refine TL.gets (Wants.none rfl) rfl (Gets.isTrue (Gets.eql rfl rfl rfl) c1) ?_
    iterate 3 refine gx ?_
    by_cases c2 : x.1 ≠ 1
    · refine TL.gets (Wants.yes rfl rfl rfl) rfl (Gets.isTrue (Gets.neq rfl rfl rfl) c2) ?_
      iterate 4 refine gx ?_
      by_cases c3 : x.1 ≠ 2
      · refine TL.gets (Wants.yes rfl rfl rfl) rfl (Gets.isTrue (Gets.neq rfl rfl rfl) c3) ?_
        iterate 3 refine gx ?_
        refine TC.pr [0, 2, 3, 4, 28] ?_
        refine TC.yes rfl ?_
        iterate 3 refine gx ?_
        refine TL.call (ι := Unit) (V := fun _ => .tuple #[]) (R := fun _ => True) (H' := fun _ => [⟨g2, 47, [Value.int .i64 x.1, Value.int .i64 0, Value.int .i64 0, Value.int .i64 0, Value.slice none 0 0], 5⟩, ⟨g1, 47, [Value.int .i64 0, Value.int .i64 0, Value.int .i64 0, Value.int .i64 0, Value.slice none 0 0], 5⟩, ⟨g, 67, [Value.slice A m c, Value.int .i64 ((rFail x.2 11 (s.k : Int)).k : Int), Value.int .i64 ((rFail x.2 11 (s.k : Int)).co), Value.int .i64 ((rFail x.2 11 (s.k : Int)).po)], 4⟩]) (Wants.none rfl) rfl enters31 rfl rfl (fun w hs => (rfail_s g A m c x.2 11 (s.k : Int) (by decide) w (hs.has (⟨g, 67, [Value.slice A m c, Value.int .i64 (x.2.k : Int), Value.int .i64 x.2.co, Value.int .i64 x.2.po], 4⟩) (by simp))).mono fun e w' ⟨he, hw⟩ => ⟨(), he, trivial, St.turn (i := 2) (e := ⟨g, 67, [Value.slice A m c, Value.int .i64 ((rFail x.2 11 (s.k : Int)).k : Int), Value.int .i64 ((rFail x.2 11 (s.k : Int)).co), Value.int .i64 ((rFail x.2 11 (s.k : Int)).po)], 4⟩) hs rfl rfl hw⟩) (fun _ _ => ?_)
        have hkf : kindF x.2 x.1 s.k = rFail x.2 11 (s.k : Int) := kindF_T c1 c2 c3
        have hriz := kindF_ri (kk := x.1) (a := s.k) hri.1 hrix
        rw [hkf] at hriz
        generalize hz : rFail x.2 11 (s.k : Int) = z at hkf hriz ⊢
        have hkz : z.k ≤ m := by have := hriz.1; omega
        skip
        iterate 5 refine gx ?_
        refine TL.call (ι := Unit) (V := fun _ => .int .i64 ((rLen B z).1)) (R := fun _ => True) (H' := fun _ => [⟨g2, 47, [Value.int .i64 x.1, Value.int .i64 0, Value.int .i64 0, Value.int .i64 0, Value.slice none 0 0], 5⟩, ⟨g1, 47, [Value.int .i64 0, Value.int .i64 0, Value.int .i64 0, Value.int .i64 0, Value.slice none 0 0], 5⟩, ⟨g, 67, [Value.slice A m c, Value.int .i64 ((rLen B z).2.k : Int), Value.int .i64 ((rLen B z).2.co), Value.int .i64 ((rLen B z).2.po)], 4⟩]) (Wants.none rfl) rfl enters32 rfl rfl (fun w hs => (rlen_s g A m c z w (hs.has (⟨g, 67, [Value.slice A m c, Value.int .i64 (z.k : Int), Value.int .i64 z.co, Value.int .i64 z.po], 4⟩) (by simp)) (by omega) (by omega) (by omega) B (hX.at_ hs (fun b hb hbX => (ne_cons (by show g2 ≠ b; omega) (ne_cons (by show g1 ≠ b; omega) (ne_cons (fun h => hbX g (by simp) h.symm) ne_nil))))) hBB hriz).mono fun e w' ⟨he, hw⟩ => ⟨(), he, trivial, St.turn (i := 2) (e := ⟨g, 67, [Value.slice A m c, Value.int .i64 ((rLen B z).2.k : Int), Value.int .i64 ((rLen B z).2.co), Value.int .i64 ((rLen B z).2.po)], 4⟩) hs rfl rfl hw⟩) (fun _ _ => ?_)
        have hvt_ := rLen_val hBB z
        have hrit_ := rLen_ri hriz
        generalize ht_ : rLen B z = t_ at hvt_ hrit_ ⊢
        have hkt_ : t_.2.k ≤ m := by have := hrit_.1; omega
        skip
        refine gx ?_
        refine TL.store1 (Wants.none rfl) rfl rfl size3 rfl rfl rfl (i := 0) rfl rfl (by simp [] <;> omega) (cs' := [Value.int .i64 x.1, Value.int .i64 t_.1, Value.int .i64 0, Value.int .i64 0, Value.slice none 0 0]) (rfl) (H' := [⟨g2, 47, [Value.int .i64 x.1, Value.int .i64 t_.1, Value.int .i64 0, Value.int .i64 0, Value.slice none 0 0], 5⟩, ⟨g1, 47, [Value.int .i64 0, Value.int .i64 0, Value.int .i64 0, Value.int .i64 0, Value.slice none 0 0], 5⟩, ⟨g, 67, [Value.slice A m c, Value.int .i64 (t_.2.k : Int), Value.int .i64 t_.2.co, Value.int .i64 t_.2.po], 4⟩]) rfl ?_
        iterate 2 refine gx ?_
        refine TC.pr [0, 2, 4] ?_
        iterate 8 refine gx ?_
        refine TC.split rfl (fun hk1 => ?_) (fun hk1 => ?_)
        · iterate 3 refine gx ?_
          refine TL.call (ι := Unit) (V := fun _ => .int .i64 ((rLen B t_.2).1)) (R := fun _ => True) (H' := fun _ => [⟨g2, 47, [Value.int .i64 x.1, Value.int .i64 t_.1, Value.int .i64 0, Value.int .i64 0, Value.slice none 0 0], 5⟩, ⟨g1, 47, [Value.int .i64 0, Value.int .i64 0, Value.int .i64 0, Value.int .i64 0, Value.slice none 0 0], 5⟩, ⟨g, 67, [Value.slice A m c, Value.int .i64 ((rLen B t_.2).2.k : Int), Value.int .i64 ((rLen B t_.2).2.co), Value.int .i64 ((rLen B t_.2).2.po)], 4⟩]) (Wants.none rfl) rfl enters32 rfl rfl (fun w hs => (rlen_s g A m c t_.2 w (hs.has (⟨g, 67, [Value.slice A m c, Value.int .i64 (t_.2.k : Int), Value.int .i64 t_.2.co, Value.int .i64 t_.2.po], 4⟩) (by simp)) (by omega) (by omega) (by omega) B (hX.at_ hs (fun b hb hbX => (ne_cons (by show g2 ≠ b; omega) (ne_cons (by show g1 ≠ b; omega) (ne_cons (fun h => hbX g (by simp) h.symm) ne_nil))))) hBB hrit_).mono fun e w' ⟨he, hw⟩ => ⟨(), he, trivial, St.turn (i := 2) (e := ⟨g, 67, [Value.slice A m c, Value.int .i64 ((rLen B t_.2).2.k : Int), Value.int .i64 ((rLen B t_.2).2.co), Value.int .i64 ((rLen B t_.2).2.po)], 4⟩) hs rfl rfl hw⟩) (fun _ _ => ?_)
          have hvf_ := rLen_val hBB t_.2
          have hrif_ := rLen_ri hrit_
          generalize hf_ : rLen B t_.2 = f_ at hvf_ hrif_ ⊢
          have hkf_ : f_.2.k ≤ m := by have := hrif_.1; omega
          skip
          refine gx ?_
          refine TL.store1 (Wants.none rfl) rfl rfl size3 rfl rfl rfl (i := 0) rfl rfl (by simp [] <;> omega) (cs' := [Value.int .i64 x.1, Value.int .i64 t_.1, Value.int .i64 f_.1, Value.int .i64 0, Value.slice none 0 0]) (rfl) (H' := [⟨g2, 47, [Value.int .i64 x.1, Value.int .i64 t_.1, Value.int .i64 f_.1, Value.int .i64 0, Value.slice none 0 0], 5⟩, ⟨g1, 47, [Value.int .i64 0, Value.int .i64 0, Value.int .i64 0, Value.int .i64 0, Value.slice none 0 0], 5⟩, ⟨g, 67, [Value.slice A m c, Value.int .i64 (f_.2.k : Int), Value.int .i64 f_.2.co, Value.int .i64 f_.2.po], 4⟩]) rfl ?_
          iterate 2 refine gx ?_
          refine TC.pr [0, 2, 4] ?_
          iterate 2 refine gx ?_
          refine TL.call (ι := Unit) (V := fun _ => .int .i64 ((rLen B f_.2).1)) (R := fun _ => True) (H' := fun _ => [⟨g2, 47, [Value.int .i64 x.1, Value.int .i64 t_.1, Value.int .i64 f_.1, Value.int .i64 0, Value.slice none 0 0], 5⟩, ⟨g1, 47, [Value.int .i64 0, Value.int .i64 0, Value.int .i64 0, Value.int .i64 0, Value.slice none 0 0], 5⟩, ⟨g, 67, [Value.slice A m c, Value.int .i64 ((rLen B f_.2).2.k : Int), Value.int .i64 ((rLen B f_.2).2.co), Value.int .i64 ((rLen B f_.2).2.po)], 4⟩]) (Wants.none rfl) rfl enters32 rfl rfl (fun w hs => (rlen_s g A m c f_.2 w (hs.has (⟨g, 67, [Value.slice A m c, Value.int .i64 (f_.2.k : Int), Value.int .i64 f_.2.co, Value.int .i64 f_.2.po], 4⟩) (by simp)) (by omega) (by omega) (by omega) B (hX.at_ hs (fun b hb hbX => (ne_cons (by show g2 ≠ b; omega) (ne_cons (by show g1 ≠ b; omega) (ne_cons (fun h => hbX g (by simp) h.symm) ne_nil))))) hBB hrif_).mono fun e w' ⟨he, hw⟩ => ⟨(), he, trivial, St.turn (i := 2) (e := ⟨g, 67, [Value.slice A m c, Value.int .i64 ((rLen B f_.2).2.k : Int), Value.int .i64 ((rLen B f_.2).2.co), Value.int .i64 ((rLen B f_.2).2.po)], 4⟩) hs rfl rfl hw⟩) (fun _ _ => ?_)
          have hvl_ := rLen_val hBB f_.2
          have hril_ := rLen_ri hrif_
          generalize hl_ : rLen B f_.2 = l_ at hvl_ hril_ ⊢
          have hkl_ : l_.2.k ≤ m := by have := hril_.1; omega
          skip
          refine gx ?_
          refine TL.store1 (Wants.none rfl) rfl rfl size3 rfl rfl rfl (i := 0) rfl rfl (by simp [] <;> omega) (cs' := [Value.int .i64 x.1, Value.int .i64 t_.1, Value.int .i64 f_.1, Value.int .i64 l_.1, Value.slice none 0 0]) (rfl) (H' := [⟨g2, 47, [Value.int .i64 x.1, Value.int .i64 t_.1, Value.int .i64 f_.1, Value.int .i64 l_.1, Value.slice none 0 0], 5⟩, ⟨g1, 47, [Value.int .i64 0, Value.int .i64 0, Value.int .i64 0, Value.int .i64 0, Value.slice none 0 0], 5⟩, ⟨g, 67, [Value.slice A m c, Value.int .i64 (l_.2.k : Int), Value.int .i64 l_.2.co, Value.int .i64 l_.2.po], 4⟩]) rfl ?_
          iterate 9 refine gx ?_
          have e0 := rCmd_copy hx hkf ht_ hk1 hf_ hl_
          rw [e0]
          exact TE.retC rfl agg47 size47 rfl (vs := [Value.int .i64 x.1, Value.int .i64 t_.1, Value.int .i64 f_.1, Value.int .i64 l_.1, Value.slice none 0 0]) rfl (Row.all (i := 1) (ent := ⟨g1, 47, [Value.int .i64 x.1, Value.int .i64 t_.1, Value.int .i64 f_.1, Value.int .i64 l_.1, Value.slice none 0 0], 5⟩) rfl rfl rfl) (fun w hs => ⟨none, 0, rfl, .inl ⟨rfl, rfl, rfl⟩, ((hs.erase (i := 1) rfl (by assumption)).erase (i := 0) rfl (by assumption))⟩)
        · iterate 3 refine gx ?_
          refine TL.call (ι := Unit) (V := fun _ => .int .i64 ((rLen B t_.2).1)) (R := fun _ => True) (H' := fun _ => [⟨g2, 47, [Value.int .i64 x.1, Value.int .i64 t_.1, Value.int .i64 0, Value.int .i64 0, Value.slice none 0 0], 5⟩, ⟨g1, 47, [Value.int .i64 0, Value.int .i64 0, Value.int .i64 0, Value.int .i64 0, Value.slice none 0 0], 5⟩, ⟨g, 67, [Value.slice A m c, Value.int .i64 ((rLen B t_.2).2.k : Int), Value.int .i64 ((rLen B t_.2).2.co), Value.int .i64 ((rLen B t_.2).2.po)], 4⟩]) (Wants.none rfl) rfl enters32 rfl rfl (fun w hs => (rlen_s g A m c t_.2 w (hs.has (⟨g, 67, [Value.slice A m c, Value.int .i64 (t_.2.k : Int), Value.int .i64 t_.2.co, Value.int .i64 t_.2.po], 4⟩) (by simp)) (by omega) (by omega) (by omega) B (hX.at_ hs (fun b hb hbX => (ne_cons (by show g2 ≠ b; omega) (ne_cons (by show g1 ≠ b; omega) (ne_cons (fun h => hbX g (by simp) h.symm) ne_nil))))) hBB hrit_).mono fun e w' ⟨he, hw⟩ => ⟨(), he, trivial, St.turn (i := 2) (e := ⟨g, 67, [Value.slice A m c, Value.int .i64 ((rLen B t_.2).2.k : Int), Value.int .i64 ((rLen B t_.2).2.co), Value.int .i64 ((rLen B t_.2).2.po)], 4⟩) hs rfl rfl hw⟩) (fun _ _ => ?_)
          have hvm_ := rLen_val hBB t_.2
          have hrim_ := rLen_ri hrit_
          generalize hm_ : rLen B t_.2 = m_ at hvm_ hrim_ ⊢
          have hkm_ : m_.2.k ≤ m := by have := hrim_.1; omega
          skip
          iterate 3 refine gx ?_
          refine TC.pr [0, 2, 4, 5] ?_
          iterate 3 refine gx ?_
          refine TL.call (ι := Option Addr × Nat) (V := fun y => .slice y.1 (((rBytes B m_.2 m_.1.toNat).1.length)) y.2) (R := fun y => Seg A m c B y.1 y.2 (rBytes B m_.2 m_.1.toNat).1) (H' := fun y => [⟨g2, 47, [Value.int .i64 x.1, Value.int .i64 t_.1, Value.int .i64 0, Value.int .i64 0, Value.slice none 0 0], 5⟩, ⟨g1, 47, [Value.int .i64 0, Value.int .i64 0, Value.int .i64 0, Value.int .i64 0, Value.slice none 0 0], 5⟩, ⟨g, 67, [Value.slice A m c, Value.int .i64 ((rBytes B m_.2 m_.1.toNat).2.k : Int), Value.int .i64 ((rBytes B m_.2 m_.1.toNat).2.co), Value.int .i64 ((rBytes B m_.2 m_.1.toNat).2.po)], 4⟩]) (Wants.none rfl) rfl enters33 rfl rfl (fun w hs => (rbytes_s g A m c m_.2 m_.1 (by omega) w (hs.has (⟨g, 67, [Value.slice A m c, Value.int .i64 (m_.2.k : Int), Value.int .i64 m_.2.co, Value.int .i64 m_.2.po], 4⟩) (by simp)) (by omega) (by omega) (by omega) B hBm).mono fun e w' ⟨A', c', he, hg, hw⟩ => ⟨(A', c'), he, hg, St.turn (i := 2) (e := ⟨g, 67, [Value.slice A m c, Value.int .i64 ((rBytes B m_.2 m_.1.toNat).2.k : Int), Value.int .i64 ((rBytes B m_.2 m_.1.toNat).2.co), Value.int .i64 ((rBytes B m_.2 m_.1.toNat).2.po)], 4⟩) hs rfl rfl hw⟩) (fun y hgD_ => ?_)
          obtain ⟨AD_, cD_⟩ := y
          dsimp only at hgD_ ⊢
          have hriD_ := rBytes_ri (n := m_.1.toNat) hrim_
          generalize hD_ : rBytes B m_.2 m_.1.toNat = D_ at hgD_ hriD_ ⊢
          have hkD_ : D_.2.k ≤ m := by have := hriD_.1; omega
          have hscD_ := hgD_.cap hmc
          skip
          refine gx ?_
          refine TL.store1 (Wants.none rfl) rfl rfl size28 rfl rfl rfl (i := 0) rfl rfl (by simp [] <;> omega) (cs' := [Value.int .i64 x.1, Value.int .i64 t_.1, Value.int .i64 0, Value.int .i64 0, Value.slice AD_ D_.1.length cD_]) (rfl) (H' := [⟨g2, 47, [Value.int .i64 x.1, Value.int .i64 t_.1, Value.int .i64 0, Value.int .i64 0, Value.slice AD_ D_.1.length cD_], 5⟩, ⟨g1, 47, [Value.int .i64 0, Value.int .i64 0, Value.int .i64 0, Value.int .i64 0, Value.slice none 0 0], 5⟩, ⟨g, 67, [Value.slice A m c, Value.int .i64 (D_.2.k : Int), Value.int .i64 D_.2.co, Value.int .i64 D_.2.po], 4⟩]) rfl ?_
          iterate 9 refine gx ?_
          have e0 := rCmd_lit hx hkf ht_ hk1 hm_ hD_
          rw [e0]
          exact TE.retC rfl agg47 size47 rfl (vs := [Value.int .i64 x.1, Value.int .i64 t_.1, Value.int .i64 0, Value.int .i64 0, Value.slice AD_ D_.1.length cD_]) rfl (Row.all (i := 1) (ent := ⟨g1, 47, [Value.int .i64 x.1, Value.int .i64 t_.1, Value.int .i64 0, Value.int .i64 0, Value.slice AD_ D_.1.length cD_], 5⟩) rfl rfl rfl) (fun w hs => ⟨AD_, cD_, rfl, hgD_, ((hs.erase (i := 1) rfl (by assumption)).erase (i := 0) rfl (by assumption))⟩)
      · have hkf : kindF x.2 x.1 s.k = x.2 := kindF_F (fun h => c3 h.2.2)
        refine TL.gets (Wants.yes rfl rfl rfl) rfl (Gets.isFalse (Gets.neq rfl rfl rfl) c3) ?_
        iterate 3 refine gx ?_
        refine TC.pr [0, 2, 3, 4, 28] ?_
        refine TC.no rfl ?_
        iterate 5 refine gx ?_
        refine TL.call (ι := Unit) (V := fun _ => .int .i64 ((rLen B x.2).1)) (R := fun _ => True) (H' := fun _ => [⟨g2, 47, [Value.int .i64 x.1, Value.int .i64 0, Value.int .i64 0, Value.int .i64 0, Value.slice none 0 0], 5⟩, ⟨g1, 47, [Value.int .i64 0, Value.int .i64 0, Value.int .i64 0, Value.int .i64 0, Value.slice none 0 0], 5⟩, ⟨g, 67, [Value.slice A m c, Value.int .i64 ((rLen B x.2).2.k : Int), Value.int .i64 ((rLen B x.2).2.co), Value.int .i64 ((rLen B x.2).2.po)], 4⟩]) (Wants.none rfl) rfl enters32 rfl rfl (fun w hs => (rlen_s g A m c x.2 w (hs.has (⟨g, 67, [Value.slice A m c, Value.int .i64 (x.2.k : Int), Value.int .i64 x.2.co, Value.int .i64 x.2.po], 4⟩) (by simp)) (by omega) (by omega) (by omega) B (hX.at_ hs (fun b hb hbX => (ne_cons (by show g2 ≠ b; omega) (ne_cons (by show g1 ≠ b; omega) (ne_cons (fun h => hbX g (by simp) h.symm) ne_nil))))) hBB hrix).mono fun e w' ⟨he, hw⟩ => ⟨(), he, trivial, St.turn (i := 2) (e := ⟨g, 67, [Value.slice A m c, Value.int .i64 ((rLen B x.2).2.k : Int), Value.int .i64 ((rLen B x.2).2.co), Value.int .i64 ((rLen B x.2).2.po)], 4⟩) hs rfl rfl hw⟩) (fun _ _ => ?_)
        have hvt_ := rLen_val hBB x.2
        have hrit_ := rLen_ri hrix
        generalize ht_ : rLen B x.2 = t_ at hvt_ hrit_ ⊢
        have hkt_ : t_.2.k ≤ m := by have := hrit_.1; omega
        skip
        refine gx ?_
        refine TL.store1 (Wants.none rfl) rfl rfl size3 rfl rfl rfl (i := 0) rfl rfl (by simp [] <;> omega) (cs' := [Value.int .i64 x.1, Value.int .i64 t_.1, Value.int .i64 0, Value.int .i64 0, Value.slice none 0 0]) (rfl) (H' := [⟨g2, 47, [Value.int .i64 x.1, Value.int .i64 t_.1, Value.int .i64 0, Value.int .i64 0, Value.slice none 0 0], 5⟩, ⟨g1, 47, [Value.int .i64 0, Value.int .i64 0, Value.int .i64 0, Value.int .i64 0, Value.slice none 0 0], 5⟩, ⟨g, 67, [Value.slice A m c, Value.int .i64 (t_.2.k : Int), Value.int .i64 t_.2.co, Value.int .i64 t_.2.po], 4⟩]) rfl ?_
        iterate 10 refine gx ?_
        refine TC.pr [0, 2, 4, 37] ?_
        refine TC.split rfl (fun hk1 => ?_) (fun hk1 => ?_)
        · iterate 3 refine gx ?_
          refine TL.call (ι := Unit) (V := fun _ => .int .i64 ((rLen B t_.2).1)) (R := fun _ => True) (H' := fun _ => [⟨g2, 47, [Value.int .i64 x.1, Value.int .i64 t_.1, Value.int .i64 0, Value.int .i64 0, Value.slice none 0 0], 5⟩, ⟨g1, 47, [Value.int .i64 0, Value.int .i64 0, Value.int .i64 0, Value.int .i64 0, Value.slice none 0 0], 5⟩, ⟨g, 67, [Value.slice A m c, Value.int .i64 ((rLen B t_.2).2.k : Int), Value.int .i64 ((rLen B t_.2).2.co), Value.int .i64 ((rLen B t_.2).2.po)], 4⟩]) (Wants.none rfl) rfl enters32 rfl rfl (fun w hs => (rlen_s g A m c t_.2 w (hs.has (⟨g, 67, [Value.slice A m c, Value.int .i64 (t_.2.k : Int), Value.int .i64 t_.2.co, Value.int .i64 t_.2.po], 4⟩) (by simp)) (by omega) (by omega) (by omega) B (hX.at_ hs (fun b hb hbX => (ne_cons (by show g2 ≠ b; omega) (ne_cons (by show g1 ≠ b; omega) (ne_cons (fun h => hbX g (by simp) h.symm) ne_nil))))) hBB hrit_).mono fun e w' ⟨he, hw⟩ => ⟨(), he, trivial, St.turn (i := 2) (e := ⟨g, 67, [Value.slice A m c, Value.int .i64 ((rLen B t_.2).2.k : Int), Value.int .i64 ((rLen B t_.2).2.co), Value.int .i64 ((rLen B t_.2).2.po)], 4⟩) hs rfl rfl hw⟩) (fun _ _ => ?_)
          have hvf_ := rLen_val hBB t_.2
          have hrif_ := rLen_ri hrit_
          generalize hf_ : rLen B t_.2 = f_ at hvf_ hrif_ ⊢
          have hkf_ : f_.2.k ≤ m := by have := hrif_.1; omega
          skip
          refine gx ?_
          refine TL.store1 (Wants.none rfl) rfl rfl size3 rfl rfl rfl (i := 0) rfl rfl (by simp [] <;> omega) (cs' := [Value.int .i64 x.1, Value.int .i64 t_.1, Value.int .i64 f_.1, Value.int .i64 0, Value.slice none 0 0]) (rfl) (H' := [⟨g2, 47, [Value.int .i64 x.1, Value.int .i64 t_.1, Value.int .i64 f_.1, Value.int .i64 0, Value.slice none 0 0], 5⟩, ⟨g1, 47, [Value.int .i64 0, Value.int .i64 0, Value.int .i64 0, Value.int .i64 0, Value.slice none 0 0], 5⟩, ⟨g, 67, [Value.slice A m c, Value.int .i64 (f_.2.k : Int), Value.int .i64 f_.2.co, Value.int .i64 f_.2.po], 4⟩]) rfl ?_
          iterate 4 refine gx ?_
          refine TL.call (ι := Unit) (V := fun _ => .int .i64 ((rLen B f_.2).1)) (R := fun _ => True) (H' := fun _ => [⟨g2, 47, [Value.int .i64 x.1, Value.int .i64 t_.1, Value.int .i64 f_.1, Value.int .i64 0, Value.slice none 0 0], 5⟩, ⟨g1, 47, [Value.int .i64 0, Value.int .i64 0, Value.int .i64 0, Value.int .i64 0, Value.slice none 0 0], 5⟩, ⟨g, 67, [Value.slice A m c, Value.int .i64 ((rLen B f_.2).2.k : Int), Value.int .i64 ((rLen B f_.2).2.co), Value.int .i64 ((rLen B f_.2).2.po)], 4⟩]) (Wants.none rfl) rfl enters32 rfl rfl (fun w hs => (rlen_s g A m c f_.2 w (hs.has (⟨g, 67, [Value.slice A m c, Value.int .i64 (f_.2.k : Int), Value.int .i64 f_.2.co, Value.int .i64 f_.2.po], 4⟩) (by simp)) (by omega) (by omega) (by omega) B (hX.at_ hs (fun b hb hbX => (ne_cons (by show g2 ≠ b; omega) (ne_cons (by show g1 ≠ b; omega) (ne_cons (fun h => hbX g (by simp) h.symm) ne_nil))))) hBB hrif_).mono fun e w' ⟨he, hw⟩ => ⟨(), he, trivial, St.turn (i := 2) (e := ⟨g, 67, [Value.slice A m c, Value.int .i64 ((rLen B f_.2).2.k : Int), Value.int .i64 ((rLen B f_.2).2.co), Value.int .i64 ((rLen B f_.2).2.po)], 4⟩) hs rfl rfl hw⟩) (fun _ _ => ?_)
          have hvl_ := rLen_val hBB f_.2
          have hril_ := rLen_ri hrif_
          generalize hl_ : rLen B f_.2 = l_ at hvl_ hril_ ⊢
          have hkl_ : l_.2.k ≤ m := by have := hril_.1; omega
          skip
          refine gx ?_
          refine TL.store1 (Wants.none rfl) rfl rfl size3 rfl rfl rfl (i := 0) rfl rfl (by simp [] <;> omega) (cs' := [Value.int .i64 x.1, Value.int .i64 t_.1, Value.int .i64 f_.1, Value.int .i64 l_.1, Value.slice none 0 0]) (rfl) (H' := [⟨g2, 47, [Value.int .i64 x.1, Value.int .i64 t_.1, Value.int .i64 f_.1, Value.int .i64 l_.1, Value.slice none 0 0], 5⟩, ⟨g1, 47, [Value.int .i64 0, Value.int .i64 0, Value.int .i64 0, Value.int .i64 0, Value.slice none 0 0], 5⟩, ⟨g, 67, [Value.slice A m c, Value.int .i64 (l_.2.k : Int), Value.int .i64 l_.2.co, Value.int .i64 l_.2.po], 4⟩]) rfl ?_
          iterate 2 refine gx ?_
          refine TC.pr [2, 4] ?_
          iterate 7 refine gx ?_
          have e0 := rCmd_copy hx hkf ht_ hk1 hf_ hl_
          rw [e0]
          exact TE.retC rfl agg47 size47 rfl (vs := [Value.int .i64 x.1, Value.int .i64 t_.1, Value.int .i64 f_.1, Value.int .i64 l_.1, Value.slice none 0 0]) rfl (Row.all (i := 1) (ent := ⟨g1, 47, [Value.int .i64 x.1, Value.int .i64 t_.1, Value.int .i64 f_.1, Value.int .i64 l_.1, Value.slice none 0 0], 5⟩) rfl rfl rfl) (fun w hs => ⟨none, 0, rfl, .inl ⟨rfl, rfl, rfl⟩, ((hs.erase (i := 1) rfl (by assumption)).erase (i := 0) rfl (by assumption))⟩)
        · iterate 3 refine gx ?_
          refine TL.call (ι := Unit) (V := fun _ => .int .i64 ((rLen B t_.2).1)) (R := fun _ => True) (H' := fun _ => [⟨g2, 47, [Value.int .i64 x.1, Value.int .i64 t_.1, Value.int .i64 0, Value.int .i64 0, Value.slice none 0 0], 5⟩, ⟨g1, 47, [Value.int .i64 0, Value.int .i64 0, Value.int .i64 0, Value.int .i64 0, Value.slice none 0 0], 5⟩, ⟨g, 67, [Value.slice A m c, Value.int .i64 ((rLen B t_.2).2.k : Int), Value.int .i64 ((rLen B t_.2).2.co), Value.int .i64 ((rLen B t_.2).2.po)], 4⟩]) (Wants.none rfl) rfl enters32 rfl rfl (fun w hs => (rlen_s g A m c t_.2 w (hs.has (⟨g, 67, [Value.slice A m c, Value.int .i64 (t_.2.k : Int), Value.int .i64 t_.2.co, Value.int .i64 t_.2.po], 4⟩) (by simp)) (by omega) (by omega) (by omega) B (hX.at_ hs (fun b hb hbX => (ne_cons (by show g2 ≠ b; omega) (ne_cons (by show g1 ≠ b; omega) (ne_cons (fun h => hbX g (by simp) h.symm) ne_nil))))) hBB hrit_).mono fun e w' ⟨he, hw⟩ => ⟨(), he, trivial, St.turn (i := 2) (e := ⟨g, 67, [Value.slice A m c, Value.int .i64 ((rLen B t_.2).2.k : Int), Value.int .i64 ((rLen B t_.2).2.co), Value.int .i64 ((rLen B t_.2).2.po)], 4⟩) hs rfl rfl hw⟩) (fun _ _ => ?_)
          have hvm_ := rLen_val hBB t_.2
          have hrim_ := rLen_ri hrit_
          generalize hm_ : rLen B t_.2 = m_ at hvm_ hrim_ ⊢
          have hkm_ : m_.2.k ≤ m := by have := hrim_.1; omega
          skip
          iterate 6 refine gx ?_
          refine TL.call (ι := Option Addr × Nat) (V := fun y => .slice y.1 (((rBytes B m_.2 m_.1.toNat).1.length)) y.2) (R := fun y => Seg A m c B y.1 y.2 (rBytes B m_.2 m_.1.toNat).1) (H' := fun y => [⟨g2, 47, [Value.int .i64 x.1, Value.int .i64 t_.1, Value.int .i64 0, Value.int .i64 0, Value.slice none 0 0], 5⟩, ⟨g1, 47, [Value.int .i64 0, Value.int .i64 0, Value.int .i64 0, Value.int .i64 0, Value.slice none 0 0], 5⟩, ⟨g, 67, [Value.slice A m c, Value.int .i64 ((rBytes B m_.2 m_.1.toNat).2.k : Int), Value.int .i64 ((rBytes B m_.2 m_.1.toNat).2.co), Value.int .i64 ((rBytes B m_.2 m_.1.toNat).2.po)], 4⟩]) (Wants.none rfl) rfl enters33 rfl rfl (fun w hs => (rbytes_s g A m c m_.2 m_.1 (by omega) w (hs.has (⟨g, 67, [Value.slice A m c, Value.int .i64 (m_.2.k : Int), Value.int .i64 m_.2.co, Value.int .i64 m_.2.po], 4⟩) (by simp)) (by omega) (by omega) (by omega) B hBm).mono fun e w' ⟨A', c', he, hg, hw⟩ => ⟨(A', c'), he, hg, St.turn (i := 2) (e := ⟨g, 67, [Value.slice A m c, Value.int .i64 ((rBytes B m_.2 m_.1.toNat).2.k : Int), Value.int .i64 ((rBytes B m_.2 m_.1.toNat).2.co), Value.int .i64 ((rBytes B m_.2 m_.1.toNat).2.po)], 4⟩) hs rfl rfl hw⟩) (fun y hgD_ => ?_)
          obtain ⟨AD_, cD_⟩ := y
          dsimp only at hgD_ ⊢
          have hriD_ := rBytes_ri (n := m_.1.toNat) hrim_
          generalize hD_ : rBytes B m_.2 m_.1.toNat = D_ at hgD_ hriD_ ⊢
          have hkD_ : D_.2.k ≤ m := by have := hriD_.1; omega
          have hscD_ := hgD_.cap hmc
          skip
          refine gx ?_
          refine TL.store1 (Wants.none rfl) rfl rfl size28 rfl rfl rfl (i := 0) rfl rfl (by simp [] <;> omega) (cs' := [Value.int .i64 x.1, Value.int .i64 t_.1, Value.int .i64 0, Value.int .i64 0, Value.slice AD_ D_.1.length cD_]) (rfl) (H' := [⟨g2, 47, [Value.int .i64 x.1, Value.int .i64 t_.1, Value.int .i64 0, Value.int .i64 0, Value.slice AD_ D_.1.length cD_], 5⟩, ⟨g1, 47, [Value.int .i64 0, Value.int .i64 0, Value.int .i64 0, Value.int .i64 0, Value.slice none 0 0], 5⟩, ⟨g, 67, [Value.slice A m c, Value.int .i64 (D_.2.k : Int), Value.int .i64 D_.2.co, Value.int .i64 D_.2.po], 4⟩]) rfl ?_
          iterate 2 refine gx ?_
          refine TC.pr [2, 4] ?_
          iterate 7 refine gx ?_
          have e0 := rCmd_lit hx hkf ht_ hk1 hm_ hD_
          rw [e0]
          exact TE.retC rfl agg47 size47 rfl (vs := [Value.int .i64 x.1, Value.int .i64 t_.1, Value.int .i64 0, Value.int .i64 0, Value.slice AD_ D_.1.length cD_]) rfl (Row.all (i := 1) (ent := ⟨g1, 47, [Value.int .i64 x.1, Value.int .i64 t_.1, Value.int .i64 0, Value.int .i64 0, Value.slice AD_ D_.1.length cD_], 5⟩) rfl rfl rfl) (fun w hs => ⟨AD_, cD_, rfl, hgD_, ((hs.erase (i := 1) rfl (by assumption)).erase (i := 0) rfl (by assumption))⟩)
    · have hkf : kindF x.2 x.1 s.k = x.2 := kindF_F (fun h => c2 h.2.1)
      refine TL.gets (Wants.yes rfl rfl rfl) rfl (Gets.isFalse (Gets.neq rfl rfl rfl) c2) ?_
      iterate 8 refine gx ?_
      refine TC.pr [0, 2, 3, 4, 28] ?_
      refine TC.no rfl ?_
      iterate 5 refine gx ?_
      refine TL.call (ι := Unit) (V := fun _ => .int .i64 ((rLen B x.2).1)) (R := fun _ => True) (H' := fun _ => [⟨g2, 47, [Value.int .i64 x.1, Value.int .i64 0, Value.int .i64 0, Value.int .i64 0, Value.slice none 0 0], 5⟩, ⟨g1, 47, [Value.int .i64 0, Value.int .i64 0, Value.int .i64 0, Value.int .i64 0, Value.slice none 0 0], 5⟩, ⟨g, 67, [Value.slice A m c, Value.int .i64 ((rLen B x.2).2.k : Int), Value.int .i64 ((rLen B x.2).2.co), Value.int .i64 ((rLen B x.2).2.po)], 4⟩]) (Wants.none rfl) rfl enters32 rfl rfl (fun w hs => (rlen_s g A m c x.2 w (hs.has (⟨g, 67, [Value.slice A m c, Value.int .i64 (x.2.k : Int), Value.int .i64 x.2.co, Value.int .i64 x.2.po], 4⟩) (by simp)) (by omega) (by omega) (by omega) B (hX.at_ hs (fun b hb hbX => (ne_cons (by show g2 ≠ b; omega) (ne_cons (by show g1 ≠ b; omega) (ne_cons (fun h => hbX g (by simp) h.symm) ne_nil))))) hBB hrix).mono fun e w' ⟨he, hw⟩ => ⟨(), he, trivial, St.turn (i := 2) (e := ⟨g, 67, [Value.slice A m c, Value.int .i64 ((rLen B x.2).2.k : Int), Value.int .i64 ((rLen B x.2).2.co), Value.int .i64 ((rLen B x.2).2.po)], 4⟩) hs rfl rfl hw⟩) (fun _ _ => ?_)
      have hvt_ := rLen_val hBB x.2
      have hrit_ := rLen_ri hrix
      generalize ht_ : rLen B x.2 = t_ at hvt_ hrit_ ⊢
      have hkt_ : t_.2.k ≤ m := by have := hrit_.1; omega
      skip
      refine gx ?_
      refine TL.store1 (Wants.none rfl) rfl rfl size3 rfl rfl rfl (i := 0) rfl rfl (by simp [] <;> omega) (cs' := [Value.int .i64 x.1, Value.int .i64 t_.1, Value.int .i64 0, Value.int .i64 0, Value.slice none 0 0]) (rfl) (H' := [⟨g2, 47, [Value.int .i64 x.1, Value.int .i64 t_.1, Value.int .i64 0, Value.int .i64 0, Value.slice none 0 0], 5⟩, ⟨g1, 47, [Value.int .i64 0, Value.int .i64 0, Value.int .i64 0, Value.int .i64 0, Value.slice none 0 0], 5⟩, ⟨g, 67, [Value.slice A m c, Value.int .i64 (t_.2.k : Int), Value.int .i64 t_.2.co, Value.int .i64 t_.2.po], 4⟩]) rfl ?_
      iterate 10 refine gx ?_
      refine TC.pr [0, 2, 4, 37] ?_
      refine TC.split rfl (fun hk1 => ?_) (fun hk1 => ?_)
      · iterate 3 refine gx ?_
        refine TL.call (ι := Unit) (V := fun _ => .int .i64 ((rLen B t_.2).1)) (R := fun _ => True) (H' := fun _ => [⟨g2, 47, [Value.int .i64 x.1, Value.int .i64 t_.1, Value.int .i64 0, Value.int .i64 0, Value.slice none 0 0], 5⟩, ⟨g1, 47, [Value.int .i64 0, Value.int .i64 0, Value.int .i64 0, Value.int .i64 0, Value.slice none 0 0], 5⟩, ⟨g, 67, [Value.slice A m c, Value.int .i64 ((rLen B t_.2).2.k : Int), Value.int .i64 ((rLen B t_.2).2.co), Value.int .i64 ((rLen B t_.2).2.po)], 4⟩]) (Wants.none rfl) rfl enters32 rfl rfl (fun w hs => (rlen_s g A m c t_.2 w (hs.has (⟨g, 67, [Value.slice A m c, Value.int .i64 (t_.2.k : Int), Value.int .i64 t_.2.co, Value.int .i64 t_.2.po], 4⟩) (by simp)) (by omega) (by omega) (by omega) B (hX.at_ hs (fun b hb hbX => (ne_cons (by show g2 ≠ b; omega) (ne_cons (by show g1 ≠ b; omega) (ne_cons (fun h => hbX g (by simp) h.symm) ne_nil))))) hBB hrit_).mono fun e w' ⟨he, hw⟩ => ⟨(), he, trivial, St.turn (i := 2) (e := ⟨g, 67, [Value.slice A m c, Value.int .i64 ((rLen B t_.2).2.k : Int), Value.int .i64 ((rLen B t_.2).2.co), Value.int .i64 ((rLen B t_.2).2.po)], 4⟩) hs rfl rfl hw⟩) (fun _ _ => ?_)
        have hvf_ := rLen_val hBB t_.2
        have hrif_ := rLen_ri hrit_
        generalize hf_ : rLen B t_.2 = f_ at hvf_ hrif_ ⊢
        have hkf_ : f_.2.k ≤ m := by have := hrif_.1; omega
        skip
        refine gx ?_
        refine TL.store1 (Wants.none rfl) rfl rfl size3 rfl rfl rfl (i := 0) rfl rfl (by simp [] <;> omega) (cs' := [Value.int .i64 x.1, Value.int .i64 t_.1, Value.int .i64 f_.1, Value.int .i64 0, Value.slice none 0 0]) (rfl) (H' := [⟨g2, 47, [Value.int .i64 x.1, Value.int .i64 t_.1, Value.int .i64 f_.1, Value.int .i64 0, Value.slice none 0 0], 5⟩, ⟨g1, 47, [Value.int .i64 0, Value.int .i64 0, Value.int .i64 0, Value.int .i64 0, Value.slice none 0 0], 5⟩, ⟨g, 67, [Value.slice A m c, Value.int .i64 (f_.2.k : Int), Value.int .i64 f_.2.co, Value.int .i64 f_.2.po], 4⟩]) rfl ?_
        iterate 4 refine gx ?_
        refine TL.call (ι := Unit) (V := fun _ => .int .i64 ((rLen B f_.2).1)) (R := fun _ => True) (H' := fun _ => [⟨g2, 47, [Value.int .i64 x.1, Value.int .i64 t_.1, Value.int .i64 f_.1, Value.int .i64 0, Value.slice none 0 0], 5⟩, ⟨g1, 47, [Value.int .i64 0, Value.int .i64 0, Value.int .i64 0, Value.int .i64 0, Value.slice none 0 0], 5⟩, ⟨g, 67, [Value.slice A m c, Value.int .i64 ((rLen B f_.2).2.k : Int), Value.int .i64 ((rLen B f_.2).2.co), Value.int .i64 ((rLen B f_.2).2.po)], 4⟩]) (Wants.none rfl) rfl enters32 rfl rfl (fun w hs => (rlen_s g A m c f_.2 w (hs.has (⟨g, 67, [Value.slice A m c, Value.int .i64 (f_.2.k : Int), Value.int .i64 f_.2.co, Value.int .i64 f_.2.po], 4⟩) (by simp)) (by omega) (by omega) (by omega) B (hX.at_ hs (fun b hb hbX => (ne_cons (by show g2 ≠ b; omega) (ne_cons (by show g1 ≠ b; omega) (ne_cons (fun h => hbX g (by simp) h.symm) ne_nil))))) hBB hrif_).mono fun e w' ⟨he, hw⟩ => ⟨(), he, trivial, St.turn (i := 2) (e := ⟨g, 67, [Value.slice A m c, Value.int .i64 ((rLen B f_.2).2.k : Int), Value.int .i64 ((rLen B f_.2).2.co), Value.int .i64 ((rLen B f_.2).2.po)], 4⟩) hs rfl rfl hw⟩) (fun _ _ => ?_)
        have hvl_ := rLen_val hBB f_.2
        have hril_ := rLen_ri hrif_
        generalize hl_ : rLen B f_.2 = l_ at hvl_ hril_ ⊢
        have hkl_ : l_.2.k ≤ m := by have := hril_.1; omega
        skip
        refine gx ?_
        refine TL.store1 (Wants.none rfl) rfl rfl size3 rfl rfl rfl (i := 0) rfl rfl (by simp [] <;> omega) (cs' := [Value.int .i64 x.1, Value.int .i64 t_.1, Value.int .i64 f_.1, Value.int .i64 l_.1, Value.slice none 0 0]) (rfl) (H' := [⟨g2, 47, [Value.int .i64 x.1, Value.int .i64 t_.1, Value.int .i64 f_.1, Value.int .i64 l_.1, Value.slice none 0 0], 5⟩, ⟨g1, 47, [Value.int .i64 0, Value.int .i64 0, Value.int .i64 0, Value.int .i64 0, Value.slice none 0 0], 5⟩, ⟨g, 67, [Value.slice A m c, Value.int .i64 (l_.2.k : Int), Value.int .i64 l_.2.co, Value.int .i64 l_.2.po], 4⟩]) rfl ?_
        iterate 2 refine gx ?_
        refine TC.pr [2, 4] ?_
        iterate 7 refine gx ?_
        have e0 := rCmd_copy hx hkf ht_ hk1 hf_ hl_
        rw [e0]
        exact TE.retC rfl agg47 size47 rfl (vs := [Value.int .i64 x.1, Value.int .i64 t_.1, Value.int .i64 f_.1, Value.int .i64 l_.1, Value.slice none 0 0]) rfl (Row.all (i := 1) (ent := ⟨g1, 47, [Value.int .i64 x.1, Value.int .i64 t_.1, Value.int .i64 f_.1, Value.int .i64 l_.1, Value.slice none 0 0], 5⟩) rfl rfl rfl) (fun w hs => ⟨none, 0, rfl, .inl ⟨rfl, rfl, rfl⟩, ((hs.erase (i := 1) rfl (by assumption)).erase (i := 0) rfl (by assumption))⟩)
      · iterate 3 refine gx ?_
        refine TL.call (ι := Unit) (V := fun _ => .int .i64 ((rLen B t_.2).1)) (R := fun _ => True) (H' := fun _ => [⟨g2, 47, [Value.int .i64 x.1, Value.int .i64 t_.1, Value.int .i64 0, Value.int .i64 0, Value.slice none 0 0], 5⟩, ⟨g1, 47, [Value.int .i64 0, Value.int .i64 0, Value.int .i64 0, Value.int .i64 0, Value.slice none 0 0], 5⟩, ⟨g, 67, [Value.slice A m c, Value.int .i64 ((rLen B t_.2).2.k : Int), Value.int .i64 ((rLen B t_.2).2.co), Value.int .i64 ((rLen B t_.2).2.po)], 4⟩]) (Wants.none rfl) rfl enters32 rfl rfl (fun w hs => (rlen_s g A m c t_.2 w (hs.has (⟨g, 67, [Value.slice A m c, Value.int .i64 (t_.2.k : Int), Value.int .i64 t_.2.co, Value.int .i64 t_.2.po], 4⟩) (by simp)) (by omega) (by omega) (by omega) B (hX.at_ hs (fun b hb hbX => (ne_cons (by show g2 ≠ b; omega) (ne_cons (by show g1 ≠ b; omega) (ne_cons (fun h => hbX g (by simp) h.symm) ne_nil))))) hBB hrit_).mono fun e w' ⟨he, hw⟩ => ⟨(), he, trivial, St.turn (i := 2) (e := ⟨g, 67, [Value.slice A m c, Value.int .i64 ((rLen B t_.2).2.k : Int), Value.int .i64 ((rLen B t_.2).2.co), Value.int .i64 ((rLen B t_.2).2.po)], 4⟩) hs rfl rfl hw⟩) (fun _ _ => ?_)
        have hvm_ := rLen_val hBB t_.2
        have hrim_ := rLen_ri hrit_
        generalize hm_ : rLen B t_.2 = m_ at hvm_ hrim_ ⊢
        have hkm_ : m_.2.k ≤ m := by have := hrim_.1; omega
        skip
        iterate 6 refine gx ?_
        refine TL.call (ι := Option Addr × Nat) (V := fun y => .slice y.1 (((rBytes B m_.2 m_.1.toNat).1.length)) y.2) (R := fun y => Seg A m c B y.1 y.2 (rBytes B m_.2 m_.1.toNat).1) (H' := fun y => [⟨g2, 47, [Value.int .i64 x.1, Value.int .i64 t_.1, Value.int .i64 0, Value.int .i64 0, Value.slice none 0 0], 5⟩, ⟨g1, 47, [Value.int .i64 0, Value.int .i64 0, Value.int .i64 0, Value.int .i64 0, Value.slice none 0 0], 5⟩, ⟨g, 67, [Value.slice A m c, Value.int .i64 ((rBytes B m_.2 m_.1.toNat).2.k : Int), Value.int .i64 ((rBytes B m_.2 m_.1.toNat).2.co), Value.int .i64 ((rBytes B m_.2 m_.1.toNat).2.po)], 4⟩]) (Wants.none rfl) rfl enters33 rfl rfl (fun w hs => (rbytes_s g A m c m_.2 m_.1 (by omega) w (hs.has (⟨g, 67, [Value.slice A m c, Value.int .i64 (m_.2.k : Int), Value.int .i64 m_.2.co, Value.int .i64 m_.2.po], 4⟩) (by simp)) (by omega) (by omega) (by omega) B hBm).mono fun e w' ⟨A', c', he, hg, hw⟩ => ⟨(A', c'), he, hg, St.turn (i := 2) (e := ⟨g, 67, [Value.slice A m c, Value.int .i64 ((rBytes B m_.2 m_.1.toNat).2.k : Int), Value.int .i64 ((rBytes B m_.2 m_.1.toNat).2.co), Value.int .i64 ((rBytes B m_.2 m_.1.toNat).2.po)], 4⟩) hs rfl rfl hw⟩) (fun y hgD_ => ?_)
        obtain ⟨AD_, cD_⟩ := y
        dsimp only at hgD_ ⊢
        have hriD_ := rBytes_ri (n := m_.1.toNat) hrim_
        generalize hD_ : rBytes B m_.2 m_.1.toNat = D_ at hgD_ hriD_ ⊢
        have hkD_ : D_.2.k ≤ m := by have := hriD_.1; omega
        have hscD_ := hgD_.cap hmc
        skip
        refine gx ?_
        refine TL.store1 (Wants.none rfl) rfl rfl size28 rfl rfl rfl (i := 0) rfl rfl (by simp [] <;> omega) (cs' := [Value.int .i64 x.1, Value.int .i64 t_.1, Value.int .i64 0, Value.int .i64 0, Value.slice AD_ D_.1.length cD_]) (rfl) (H' := [⟨g2, 47, [Value.int .i64 x.1, Value.int .i64 t_.1, Value.int .i64 0, Value.int .i64 0, Value.slice AD_ D_.1.length cD_], 5⟩, ⟨g1, 47, [Value.int .i64 0, Value.int .i64 0, Value.int .i64 0, Value.int .i64 0, Value.slice none 0 0], 5⟩, ⟨g, 67, [Value.slice A m c, Value.int .i64 (D_.2.k : Int), Value.int .i64 D_.2.co, Value.int .i64 D_.2.po], 4⟩]) rfl ?_
        iterate 2 refine gx ?_
        refine TC.pr [2, 4] ?_
        iterate 7 refine gx ?_
        have e0 := rCmd_lit hx hkf ht_ hk1 hm_ hD_
        rw [e0]
        exact TE.retC rfl agg47 size47 rfl (vs := [Value.int .i64 x.1, Value.int .i64 t_.1, Value.int .i64 0, Value.int .i64 0, Value.slice AD_ D_.1.length cD_]) rfl (Row.all (i := 1) (ent := ⟨g1, 47, [Value.int .i64 x.1, Value.int .i64 t_.1, Value.int .i64 0, Value.int .i64 0, Value.slice AD_ D_.1.length cD_], 5⟩) rfl rfl rfl) (fun w hs => ⟨AD_, cD_, rfl, hgD_, ((hs.erase (i := 1) rfl (by assumption)).erase (i := 0) rfl (by assumption))⟩)
  · have hkf : kindF x.2 x.1 s.k = x.2 := kindF_F (fun h => c1 h.1)
    refine TL.gets (Wants.none rfl) rfl (Gets.isFalse (Gets.eql rfl rfl rfl) c1) ?_
    iterate 12 refine gx ?_
    refine TC.pr [0, 2, 3, 4, 28] ?_
    refine TC.no rfl ?_
    iterate 5 refine gx ?_
    refine TL.call (ι := Unit) (V := fun _ => .int .i64 ((rLen B x.2).1)) (R := fun _ => True) (H' := fun _ => [⟨g2, 47, [Value.int .i64 x.1, Value.int .i64 0, Value.int .i64 0, Value.int .i64 0, Value.slice none 0 0], 5⟩, ⟨g1, 47, [Value.int .i64 0, Value.int .i64 0, Value.int .i64 0, Value.int .i64 0, Value.slice none 0 0], 5⟩, ⟨g, 67, [Value.slice A m c, Value.int .i64 ((rLen B x.2).2.k : Int), Value.int .i64 ((rLen B x.2).2.co), Value.int .i64 ((rLen B x.2).2.po)], 4⟩]) (Wants.none rfl) rfl enters32 rfl rfl (fun w hs => (rlen_s g A m c x.2 w (hs.has (⟨g, 67, [Value.slice A m c, Value.int .i64 (x.2.k : Int), Value.int .i64 x.2.co, Value.int .i64 x.2.po], 4⟩) (by simp)) (by omega) (by omega) (by omega) B (hX.at_ hs (fun b hb hbX => (ne_cons (by show g2 ≠ b; omega) (ne_cons (by show g1 ≠ b; omega) (ne_cons (fun h => hbX g (by simp) h.symm) ne_nil))))) hBB hrix).mono fun e w' ⟨he, hw⟩ => ⟨(), he, trivial, St.turn (i := 2) (e := ⟨g, 67, [Value.slice A m c, Value.int .i64 ((rLen B x.2).2.k : Int), Value.int .i64 ((rLen B x.2).2.co), Value.int .i64 ((rLen B x.2).2.po)], 4⟩) hs rfl rfl hw⟩) (fun _ _ => ?_)
    have hvt_ := rLen_val hBB x.2
    have hrit_ := rLen_ri hrix
    generalize ht_ : rLen B x.2 = t_ at hvt_ hrit_ ⊢
    have hkt_ : t_.2.k ≤ m := by have := hrit_.1; omega
    skip
    refine gx ?_
    refine TL.store1 (Wants.none rfl) rfl rfl size3 rfl rfl rfl (i := 0) rfl rfl (by simp [] <;> omega) (cs' := [Value.int .i64 x.1, Value.int .i64 t_.1, Value.int .i64 0, Value.int .i64 0, Value.slice none 0 0]) (rfl) (H' := [⟨g2, 47, [Value.int .i64 x.1, Value.int .i64 t_.1, Value.int .i64 0, Value.int .i64 0, Value.slice none 0 0], 5⟩, ⟨g1, 47, [Value.int .i64 0, Value.int .i64 0, Value.int .i64 0, Value.int .i64 0, Value.slice none 0 0], 5⟩, ⟨g, 67, [Value.slice A m c, Value.int .i64 (t_.2.k : Int), Value.int .i64 t_.2.co, Value.int .i64 t_.2.po], 4⟩]) rfl ?_
    iterate 10 refine gx ?_
    refine TC.pr [0, 2, 4, 37] ?_
    refine TC.split rfl (fun hk1 => ?_) (fun hk1 => ?_)
    · iterate 3 refine gx ?_
      refine TL.call (ι := Unit) (V := fun _ => .int .i64 ((rLen B t_.2).1)) (R := fun _ => True) (H' := fun _ => [⟨g2, 47, [Value.int .i64 x.1, Value.int .i64 t_.1, Value.int .i64 0, Value.int .i64 0, Value.slice none 0 0], 5⟩, ⟨g1, 47, [Value.int .i64 0, Value.int .i64 0, Value.int .i64 0, Value.int .i64 0, Value.slice none 0 0], 5⟩, ⟨g, 67, [Value.slice A m c, Value.int .i64 ((rLen B t_.2).2.k : Int), Value.int .i64 ((rLen B t_.2).2.co), Value.int .i64 ((rLen B t_.2).2.po)], 4⟩]) (Wants.none rfl) rfl enters32 rfl rfl (fun w hs => (rlen_s g A m c t_.2 w (hs.has (⟨g, 67, [Value.slice A m c, Value.int .i64 (t_.2.k : Int), Value.int .i64 t_.2.co, Value.int .i64 t_.2.po], 4⟩) (by simp)) (by omega) (by omega) (by omega) B (hX.at_ hs (fun b hb hbX => (ne_cons (by show g2 ≠ b; omega) (ne_cons (by show g1 ≠ b; omega) (ne_cons (fun h => hbX g (by simp) h.symm) ne_nil))))) hBB hrit_).mono fun e w' ⟨he, hw⟩ => ⟨(), he, trivial, St.turn (i := 2) (e := ⟨g, 67, [Value.slice A m c, Value.int .i64 ((rLen B t_.2).2.k : Int), Value.int .i64 ((rLen B t_.2).2.co), Value.int .i64 ((rLen B t_.2).2.po)], 4⟩) hs rfl rfl hw⟩) (fun _ _ => ?_)
      have hvf_ := rLen_val hBB t_.2
      have hrif_ := rLen_ri hrit_
      generalize hf_ : rLen B t_.2 = f_ at hvf_ hrif_ ⊢
      have hkf_ : f_.2.k ≤ m := by have := hrif_.1; omega
      skip
      refine gx ?_
      refine TL.store1 (Wants.none rfl) rfl rfl size3 rfl rfl rfl (i := 0) rfl rfl (by simp [] <;> omega) (cs' := [Value.int .i64 x.1, Value.int .i64 t_.1, Value.int .i64 f_.1, Value.int .i64 0, Value.slice none 0 0]) (rfl) (H' := [⟨g2, 47, [Value.int .i64 x.1, Value.int .i64 t_.1, Value.int .i64 f_.1, Value.int .i64 0, Value.slice none 0 0], 5⟩, ⟨g1, 47, [Value.int .i64 0, Value.int .i64 0, Value.int .i64 0, Value.int .i64 0, Value.slice none 0 0], 5⟩, ⟨g, 67, [Value.slice A m c, Value.int .i64 (f_.2.k : Int), Value.int .i64 f_.2.co, Value.int .i64 f_.2.po], 4⟩]) rfl ?_
      iterate 4 refine gx ?_
      refine TL.call (ι := Unit) (V := fun _ => .int .i64 ((rLen B f_.2).1)) (R := fun _ => True) (H' := fun _ => [⟨g2, 47, [Value.int .i64 x.1, Value.int .i64 t_.1, Value.int .i64 f_.1, Value.int .i64 0, Value.slice none 0 0], 5⟩, ⟨g1, 47, [Value.int .i64 0, Value.int .i64 0, Value.int .i64 0, Value.int .i64 0, Value.slice none 0 0], 5⟩, ⟨g, 67, [Value.slice A m c, Value.int .i64 ((rLen B f_.2).2.k : Int), Value.int .i64 ((rLen B f_.2).2.co), Value.int .i64 ((rLen B f_.2).2.po)], 4⟩]) (Wants.none rfl) rfl enters32 rfl rfl (fun w hs => (rlen_s g A m c f_.2 w (hs.has (⟨g, 67, [Value.slice A m c, Value.int .i64 (f_.2.k : Int), Value.int .i64 f_.2.co, Value.int .i64 f_.2.po], 4⟩) (by simp)) (by omega) (by omega) (by omega) B (hX.at_ hs (fun b hb hbX => (ne_cons (by show g2 ≠ b; omega) (ne_cons (by show g1 ≠ b; omega) (ne_cons (fun h => hbX g (by simp) h.symm) ne_nil))))) hBB hrif_).mono fun e w' ⟨he, hw⟩ => ⟨(), he, trivial, St.turn (i := 2) (e := ⟨g, 67, [Value.slice A m c, Value.int .i64 ((rLen B f_.2).2.k : Int), Value.int .i64 ((rLen B f_.2).2.co), Value.int .i64 ((rLen B f_.2).2.po)], 4⟩) hs rfl rfl hw⟩) (fun _ _ => ?_)
      have hvl_ := rLen_val hBB f_.2
      have hril_ := rLen_ri hrif_
      generalize hl_ : rLen B f_.2 = l_ at hvl_ hril_ ⊢
      have hkl_ : l_.2.k ≤ m := by have := hril_.1; omega
      skip
      refine gx ?_
      refine TL.store1 (Wants.none rfl) rfl rfl size3 rfl rfl rfl (i := 0) rfl rfl (by simp [] <;> omega) (cs' := [Value.int .i64 x.1, Value.int .i64 t_.1, Value.int .i64 f_.1, Value.int .i64 l_.1, Value.slice none 0 0]) (rfl) (H' := [⟨g2, 47, [Value.int .i64 x.1, Value.int .i64 t_.1, Value.int .i64 f_.1, Value.int .i64 l_.1, Value.slice none 0 0], 5⟩, ⟨g1, 47, [Value.int .i64 0, Value.int .i64 0, Value.int .i64 0, Value.int .i64 0, Value.slice none 0 0], 5⟩, ⟨g, 67, [Value.slice A m c, Value.int .i64 (l_.2.k : Int), Value.int .i64 l_.2.co, Value.int .i64 l_.2.po], 4⟩]) rfl ?_
      iterate 2 refine gx ?_
      refine TC.pr [2, 4] ?_
      iterate 7 refine gx ?_
      have e0 := rCmd_copy hx hkf ht_ hk1 hf_ hl_
      rw [e0]
      exact TE.retC rfl agg47 size47 rfl (vs := [Value.int .i64 x.1, Value.int .i64 t_.1, Value.int .i64 f_.1, Value.int .i64 l_.1, Value.slice none 0 0]) rfl (Row.all (i := 1) (ent := ⟨g1, 47, [Value.int .i64 x.1, Value.int .i64 t_.1, Value.int .i64 f_.1, Value.int .i64 l_.1, Value.slice none 0 0], 5⟩) rfl rfl rfl) (fun w hs => ⟨none, 0, rfl, .inl ⟨rfl, rfl, rfl⟩, ((hs.erase (i := 1) rfl (by assumption)).erase (i := 0) rfl (by assumption))⟩)
    · iterate 3 refine gx ?_
      refine TL.call (ι := Unit) (V := fun _ => .int .i64 ((rLen B t_.2).1)) (R := fun _ => True) (H' := fun _ => [⟨g2, 47, [Value.int .i64 x.1, Value.int .i64 t_.1, Value.int .i64 0, Value.int .i64 0, Value.slice none 0 0], 5⟩, ⟨g1, 47, [Value.int .i64 0, Value.int .i64 0, Value.int .i64 0, Value.int .i64 0, Value.slice none 0 0], 5⟩, ⟨g, 67, [Value.slice A m c, Value.int .i64 ((rLen B t_.2).2.k : Int), Value.int .i64 ((rLen B t_.2).2.co), Value.int .i64 ((rLen B t_.2).2.po)], 4⟩]) (Wants.none rfl) rfl enters32 rfl rfl (fun w hs => (rlen_s g A m c t_.2 w (hs.has (⟨g, 67, [Value.slice A m c, Value.int .i64 (t_.2.k : Int), Value.int .i64 t_.2.co, Value.int .i64 t_.2.po], 4⟩) (by simp)) (by omega) (by omega) (by omega) B (hX.at_ hs (fun b hb hbX => (ne_cons (by show g2 ≠ b; omega) (ne_cons (by show g1 ≠ b; omega) (ne_cons (fun h => hbX g (by simp) h.symm) ne_nil))))) hBB hrit_).mono fun e w' ⟨he, hw⟩ => ⟨(), he, trivial, St.turn (i := 2) (e := ⟨g, 67, [Value.slice A m c, Value.int .i64 ((rLen B t_.2).2.k : Int), Value.int .i64 ((rLen B t_.2).2.co), Value.int .i64 ((rLen B t_.2).2.po)], 4⟩) hs rfl rfl hw⟩) (fun _ _ => ?_)
      have hvm_ := rLen_val hBB t_.2
      have hrim_ := rLen_ri hrit_
      generalize hm_ : rLen B t_.2 = m_ at hvm_ hrim_ ⊢
      have hkm_ : m_.2.k ≤ m := by have := hrim_.1; omega
      skip
      iterate 6 refine gx ?_
      refine TL.call (ι := Option Addr × Nat) (V := fun y => .slice y.1 (((rBytes B m_.2 m_.1.toNat).1.length)) y.2) (R := fun y => Seg A m c B y.1 y.2 (rBytes B m_.2 m_.1.toNat).1) (H' := fun y => [⟨g2, 47, [Value.int .i64 x.1, Value.int .i64 t_.1, Value.int .i64 0, Value.int .i64 0, Value.slice none 0 0], 5⟩, ⟨g1, 47, [Value.int .i64 0, Value.int .i64 0, Value.int .i64 0, Value.int .i64 0, Value.slice none 0 0], 5⟩, ⟨g, 67, [Value.slice A m c, Value.int .i64 ((rBytes B m_.2 m_.1.toNat).2.k : Int), Value.int .i64 ((rBytes B m_.2 m_.1.toNat).2.co), Value.int .i64 ((rBytes B m_.2 m_.1.toNat).2.po)], 4⟩]) (Wants.none rfl) rfl enters33 rfl rfl (fun w hs => (rbytes_s g A m c m_.2 m_.1 (by omega) w (hs.has (⟨g, 67, [Value.slice A m c, Value.int .i64 (m_.2.k : Int), Value.int .i64 m_.2.co, Value.int .i64 m_.2.po], 4⟩) (by simp)) (by omega) (by omega) (by omega) B hBm).mono fun e w' ⟨A', c', he, hg, hw⟩ => ⟨(A', c'), he, hg, St.turn (i := 2) (e := ⟨g, 67, [Value.slice A m c, Value.int .i64 ((rBytes B m_.2 m_.1.toNat).2.k : Int), Value.int .i64 ((rBytes B m_.2 m_.1.toNat).2.co), Value.int .i64 ((rBytes B m_.2 m_.1.toNat).2.po)], 4⟩) hs rfl rfl hw⟩) (fun y hgD_ => ?_)
      obtain ⟨AD_, cD_⟩ := y
      dsimp only at hgD_ ⊢
      have hriD_ := rBytes_ri (n := m_.1.toNat) hrim_
      generalize hD_ : rBytes B m_.2 m_.1.toNat = D_ at hgD_ hriD_ ⊢
      have hkD_ : D_.2.k ≤ m := by have := hriD_.1; omega
      have hscD_ := hgD_.cap hmc
      skip
      refine gx ?_
      refine TL.store1 (Wants.none rfl) rfl rfl size28 rfl rfl rfl (i := 0) rfl rfl (by simp [] <;> omega) (cs' := [Value.int .i64 x.1, Value.int .i64 t_.1, Value.int .i64 0, Value.int .i64 0, Value.slice AD_ D_.1.length cD_]) (rfl) (H' := [⟨g2, 47, [Value.int .i64 x.1, Value.int .i64 t_.1, Value.int .i64 0, Value.int .i64 0, Value.slice AD_ D_.1.length cD_], 5⟩, ⟨g1, 47, [Value.int .i64 0, Value.int .i64 0, Value.int .i64 0, Value.int .i64 0, Value.slice none 0 0], 5⟩, ⟨g, 67, [Value.slice A m c, Value.int .i64 (D_.2.k : Int), Value.int .i64 D_.2.co, Value.int .i64 D_.2.po], 4⟩]) rfl ?_
      iterate 2 refine gx ?_
      refine TC.pr [2, 4] ?_
      iterate 7 refine gx ?_
      have e0 := rCmd_lit hx hkf ht_ hk1 hm_ hD_
      rw [e0]
      exact TE.retC rfl agg47 size47 rfl (vs := [Value.int .i64 x.1, Value.int .i64 t_.1, Value.int .i64 0, Value.int .i64 0, Value.slice AD_ D_.1.length cD_]) rfl (Row.all (i := 1) (ent := ⟨g1, 47, [Value.int .i64 x.1, Value.int .i64 t_.1, Value.int .i64 0, Value.int .i64 0, Value.slice AD_ D_.1.length cD_], 5⟩) rfl rfl rfl) (fun w hs => ⟨AD_, cD_, rfl, hgD_, ((hs.erase (i := 1) rfl (by assumption)).erase (i := 0) rfl (by assumption))⟩)
end Go.Proofs.Ytclmgfcdnokaiaa
/-
  The reference of layer 7: in, Wrong.
-/
namespace Go.Proofs.Ytclmgfcdnokaiaa
set_option linter.unusedVariables false
set_option linter.unusedSimpArgs false
open Go Go.RowKit
def okK (x : CV) : Prop := x.k = 1 ∨ x.k = 2
def okV (x : CV) : Prop := inR x.t ∧ inR x.f ∧ inR x.l ∧ ¬ (x.k = 1 ∧ 0 < x.m) ∧ ¬ (x.k = 2 ∧ (x.f ≠ 0 ∨ x.l ≠ 0))
open Classical in
noncomputable def wrongI (o n : Int) (Cs : List CV) : Int :=
  if ∀ (i : Nat) (x : CV), Cs[i]? = some x → okK x then (if inR o ∧ inR n then (if ∀ (i : Nat) (x : CV), Cs[i]? = some x → okV x then 0 else 2) else 2) else 11
theorem wrongI_len {o n : Int} {Cs : List CV} (hk : ∀ (i : Nat) (x : CV), Cs[i]? = some x → okK x) (h : ¬ (inR o ∧ inR n)) : wrongI o n Cs = 2 := by
  unfold wrongI; rw [if_pos hk, if_neg h]
theorem wrongI_0 {o n : Int} {Cs : List CV} (hk : ∀ (i : Nat) (x : CV), Cs[i]? = some x → okK x) (hl : inR o ∧ inR n) (h : ∀ (i : Nat) (x : CV), Cs[i]? = some x → okV x) : wrongI o n Cs = 0 := by
  unfold wrongI; rw [if_pos hk, if_pos hl, if_pos h]
theorem wrongI_ok {o n : Int} {Cs : List CV} (h : wrongI o n Cs = 0) : (∀ (i : Nat) (x : CV), Cs[i]? = some x → okK x) ∧ (inR o ∧ inR n) ∧ ∀ (i : Nat) (x : CV), Cs[i]? = some x → okV x := by
  unfold wrongI at h
  by_cases h1 : ∀ (i : Nat) (x : CV), Cs[i]? = some x → okK x
  · rw [if_pos h1] at h
    by_cases h2 : inR o ∧ inR n
    · rw [if_pos h2] at h
      by_cases h3 : ∀ (i : Nat) (x : CV), Cs[i]? = some x → okV x
      · exact ⟨h1, h2, h3⟩
      · rw [if_neg h3] at h; cases h
    · rw [if_neg h2] at h; cases h
  · rw [if_neg h1] at h; cases h

end Go.Proofs.Ytclmgfcdnokaiaa
/-
  A region that draws its order, of which the last operation is a store: makings, appending, the store.
-/
namespace Go.Proofs.Ytclmgfcdnokaiaa
set_option linter.unusedVariables false
set_option linter.unusedSimpArgs false
set_option linter.unusedVariables false
open Go Go.RowKit
section
variable {P : Program} {ops : Array Oper} {Q : Exit → Act → World → Prop} {n : Sz} {w0 : World} {L L' : List (Nat × Value)} {HB H : List Ent}
variable {o : Oper} {rest : List Oper} {v u : Value} {x y z : Operand} {k m j : Nat} {t t' e : TypeId} {ks : List Nat} {kd : IntKind}
theorem TP.perm {H' : List Ent} (h : H.Perm H') (hr : TP P ops Q n w0 HB ks rest L H') : TP P ops Q n w0 HB ks rest L H := fun a hf => by
  have e : St w0 (HB ++ H) = St w0 (HB ++ H') := funext fun w => propext ⟨fun hs => hs.perm (List.Perm.append_left HB h), fun hs => hs.perm (List.Perm.append_left HB h.symm)⟩
  rw [e]; exact hr a hf
/-- An operation that ends with one of many values. -/
theorem TP.value {ι : Type} {V : ι → Value} {R : ι → Prop} {H' : ι → List Ent} (hg : Wants n ops L o) (hi : inside n o.dst = true)
    (h : ∀ a w, Fr n L a → St w0 (HB ++ H) w → ∃ i w', (execOp a.eval o).run P w = .ok (.value (V i)) w' ∧ R i ∧ St w0 (HB ++ H' i) w')
    (hr : ∀ i, R i → TP P ops Q n w0 HB ks rest (put L o.dst (V i)) (H' i)) : TP P ops Q n w0 HB (3 :: ks) (o :: rest) L H :=
  fun a hf => .inr <| .inl ⟨rfl, fun v S' => ∃ i, R i ∧ v = V i ∧ S' = St w0 (HB ++ H' i), fun w hs => by
    obtain ⟨i, w', h1, h2, h3⟩ := h a w hf hs
    exact ⟨.inl ⟨V i, w', _, h1, ⟨i, h2, rfl, rfl⟩, h3⟩, hg a hf⟩,
    fun v S' ⟨i, hR, h1, h2⟩ => by subst h1; subst h2; exact ⟨fun w hw => ⟨H' i, hw⟩, hr i hR _ (hf.put o.dst _ hi)⟩⟩
theorem TP.buildSlice {len s : Nat} {ps : List (Nat × Operand)} {vs : List (Nat × Value)} {cells : Array Value} {cs : List Value} {zv : Value} (hg : Wants n ops L o) (hi : inside n o.dst = true) (ho : o.op = .buildSlice t len ps.toArray)
    (h1 : P.underlying t = some (.slice e)) (hsz : (P.info? e).map (·.size) = some s) (hz : (P.info? e).bind (·.zero) = some zv) (hv : operVals L ps = some vs) (hlen : len * s ≤ 2 ^ 24) (hpos : (len * s = 0) = False)
    {tot : Nat} (hfill : Instr.fill (fun i => some (i * s, s)) ((Array.range (len * s)).map (zv.cells[· % zv.cells.size]!)) vs = some cells) (hcs : cells.toList = cs) (htot : cs.length = tot)
    (hr : ∀ g, w0.heap.size ≤ g → TP P ops Q n w0 HB ks rest (put L o.dst (.slice (some ⟨g, 0, none⟩) len len)) (⟨g, e, cs, tot⟩ :: H)) : TP P ops Q n w0 HB (3 :: ks) (o :: rest) L H := by
  refine TP.value (ι := Nat) (V := fun g => .slice (some ⟨g, 0, none⟩) len len) (R := fun g => w0.heap.size ≤ g) (H' := fun g => ⟨g, e, cs, tot⟩ :: H) hg hi (fun a w hf hs => ?_) hr
  have hrun : (execOp a.eval o).run P w = .ok (.value (.slice (some ⟨w.heap.size, 0, none⟩) len len)) (w.alloc (.cells cells e)) := by
    have hm := operVals_eval hf hv
    have hm2 : (ps.map fun (x : Nat × Operand) => match x with | (i, x) => (i, a.eval x)) = vs := hm
    simp only [execOp, ho]
    refine run_value ?_
    simp only [Instr.buildSlice, Sem.run_bind, run_under h1, Result.andThen_ok, run_size hsz, List.map_toArray, hm2]
    rw [if_neg (by omega), if_neg (by simp [hpos])]
    simp only [Sem.run_bind, run_zero hz, Result.andThen_ok, Sem.run_pure, hfill]
    simp [newRow, newObj, Sem.run_bind, Sem.run]
  subst htot
  exact ⟨w.heap.size, _, hrun, hs.size, (hs.alloc e cs cells hcs).perm List.perm_middle.symm⟩
theorem TP.appendS {As : Option Addr} {s nn sc bytes : Nat} {cs news : List Value} {H0 He : List Ent} {zv : Value} (hg : Wants n ops L o) (hi' : inside n o.dst = true) (ho : o.op = .call { callee := .builtin .append, args := #[x, y], argTypes := #[t, t] })
    (h1 : P.underlying t = some (.slice e)) (hz : (P.info? e).map (fun i => (i.zero, i.size, i.bytes)) = some (some zv, s, bytes)) (hzc : zv.cells.size = s) (hs0 : 0 < s)
    (hx : ev L x = some v) (hy : ev L y = some (.slice As m sc)) (hown : OwnS w0.heap.size e s v nn cs He) (hl : news.length = m * s) (hsrc : ∀ w, St w0 (HB ++ (H0 ++ He)) w → SrcV w As m news) (h1c : ∀ u ∈ news, u.oneCell' = true)
    (h63 : nn + m ≤ maxLen) (hbytes : (nn + m) * bytes ≤ 140737488355328)
    (hr : ∀ v' He', OwnS w0.heap.size e s v' (nn + m) (cs ++ news) He' → TP P ops Q n w0 HB ks rest (put L o.dst v') (H0 ++ He')) : TP P ops Q n w0 HB (3 :: ks) (o :: rest) L (H0 ++ He) := by
  refine TP.value (ι := Value × List Ent) (V := fun y => y.1) (R := fun y => OwnS w0.heap.size e s y.1 (nn + m) (cs ++ news) y.2) (H' := fun y => H0 ++ y.2) hg hi' (fun a w hf hs => ?_) (fun y hR => hr y.1 y.2 hR)
  have hs2 : St w0 ((HB ++ H0) ++ He) w := by rw [List.append_assoc]; exact hs
  obtain ⟨v', w', He', hrun, hown', hst⟩ := run_appendS (P := P) (t := t) (ty := o.type) (sc := sc) h1 hz hzc hs0 hown hs2 (Nat.le_refl _) (Nat.le_refl _) hl (hsrc w hs) h1c h63 hbytes (fun _ => rfl)
  have hrun' : (execOp a.eval o).run P w = .ok (.value v') w' := by
    simp only [execOp, ho, resolve, invoke, builtin, Sem.run_bind, Sem.run_pure, Result.andThen_ok, List.map_toArray, List.map_cons, List.map_nil, hf.eval hx, hf.eval hy, hrun]
  exact ⟨(v', He'), w', hrun', hown', by rw [List.append_assoc] at hst; exact hst⟩
/-- One cell is written. -/
theorem TP.store1 {i g off : Nat} {ent : Ent} (hg : Wants n ops L o) (hd : o.dst = none) (ho : o.op = .store t x y) (hsz : (P.info? t).map (·.size) = some 1)
    (hx : ev L x = some (.pointer (some ⟨g, off, none⟩))) (hy : ev L y = some v) (hv : v.oneCell' = true) (hi : (HB ++ H)[i]? = some ent) (he : ent.g = g) (hoff : off < ent.cs.length)
    {cs' : List Value} (hcs : ent.cs.set off v = cs') {H' : List Ent} (hH : (HB ++ H).set i ⟨ent.g, ent.t, cs', ent.tot⟩ = HB ++ H') (hr : TP P ops Q n w0 HB ks rest L H') : TP P ops Q n w0 HB (8 :: ks) (o :: rest) L H :=
  fun a hf => .inr (.inr (.inr ⟨rfl, St w0 (HB ++ H'), ⟨hd, fun w hs => ⟨by
    subst he
    subst hcs
    rw [← hH]
    refine ⟨w.setCell ⟨ent.g, off, none⟩ v, ?_, hs.set hi off v⟩
    simp only [execOp, ho, hf.eval hx, hf.eval hy]
    refine run_unit ?_
    have hl := hs.has ent (List.mem_of_getElem? hi)
    have hc := hl.cell (o := off) (List.getElem?_eq_getElem hoff)
    have hfz := hl.free off
    simp only [Instr.storeAt, Instr.sureAddr, storeVar, Sem.run_bind, Sem.run_pure, Result.andThen_ok, run_size hsz, oneCell_cells hv]
    simp only [List.size_toArray, List.length_cons, List.length_nil, Nat.zero_add, ne_eq, not_true_eq_false, if_false, storeCells, Sem.run_bind, Addr.add, if_true, store]
    cases v <;> first | (simp [Value.oneCell'] at hv; done) | simp [Sem.run, hc, hfz], hg a hf⟩⟩, fun w hs => ⟨H', hs⟩, hr a hf⟩))
/-- One cell is written, last of all, it may be of what has stayed. -/
theorem TP.last1 {i g off : Nat} {ent : Ent} (hg : Wants n ops L o) (hd : o.dst = none) (ho : o.op = .store t x y) (hsz : (P.info? t).map (·.size) = some 1)
    (hx : ev L x = some (.pointer (some ⟨g, off, none⟩))) (hy : ev L y = some v) (hv : v.oneCell' = true) (hi : (HB ++ H)[i]? = some ent) (he : ent.g = g) (hoff : off < ent.cs.length)
    {cs' : List Value} (hcs : ent.cs.set off v = cs') {H' : List Ent} (hH : (HB ++ H).set i ⟨ent.g, ent.t, cs', ent.tot⟩ = H') (hr : TE Q .normal n w0 L H') : TP P ops Q n w0 HB [7] [o] L H :=
  fun a hf => .inr (.inr (.inl ⟨rfl, St w0 H', ⟨hd, fun w hs => ⟨by
    subst he
    subst hcs
    subst hH
    refine ⟨w.setCell ⟨ent.g, off, none⟩ v, ?_, hs.set hi off v⟩
    simp only [execOp, ho, hf.eval hx, hf.eval hy]
    refine run_unit ?_
    have hl := hs.has ent (List.mem_of_getElem? hi)
    have hc := hl.cell (o := off) (List.getElem?_eq_getElem hoff)
    have hfz := hl.free off
    simp only [Instr.storeAt, Instr.sureAddr, storeVar, Sem.run_bind, Sem.run_pure, Result.andThen_ok, run_size hsz, oneCell_cells hv]
    simp only [List.size_toArray, List.length_cons, List.length_nil, Nat.zero_add, ne_eq, not_true_eq_false, if_false, storeCells, Sem.run_bind, Addr.add, if_true, store]
    cases v <;> first | (simp [Value.oneCell'] at hv; done) | simp [Sem.run, hc, hfz], hg a hf⟩⟩, fun hne => absurd rfl hne, fun w hs => hr a w hf hs⟩))
/-- Several cells are written. -/
theorem TP.storeN {i g off s : Nat} {ent : Ent} {vs : List Value} (hg : Wants n ops L o) (hd : o.dst = none) (ho : o.op = .store t x y) (hsz : (P.info? t).map (·.size) = some s)
    (hx : ev L x = some (.pointer (some ⟨g, off, none⟩))) (hy : ev L y = some (.agg vs.toArray)) (hl : vs.length = s) (h1 : ∀ u ∈ vs, u.oneCell' = true) (hi : (HB ++ H)[i]? = some ent) (he : ent.g = g) (hoff : off + vs.length ≤ ent.cs.length)
    {cs' : List Value} (hcs : ent.cs.take off ++ vs ++ ent.cs.drop (off + vs.length) = cs') {H' : List Ent} (hH : (HB ++ H).set i ⟨ent.g, ent.t, cs', ent.tot⟩ = HB ++ H') (hr : TP P ops Q n w0 HB ks rest L H') : TP P ops Q n w0 HB (8 :: ks) (o :: rest) L H :=
  fun a hf => .inr (.inr (.inr ⟨rfl, St w0 (HB ++ H'), ⟨hd, fun w hs => ⟨by
    subst hcs
    rw [← hH]
    obtain ⟨w', hrun, hs'⟩ := run_storeCells (P := P) (i := i) (g := g) (ent := ent) (off := off) vs 0 (HB ++ H) ent w he hs hi h1 (by simpa using hoff)
    refine ⟨w', ?_, by simpa using hs'⟩
    simp only [execOp, ho, hf.eval hx, hf.eval hy]
    refine run_unit ?_
    simp only [Instr.storeAt, Instr.sureAddr, storeVar, Sem.run_bind, Sem.run_pure, Result.andThen_ok, run_size hsz]
    rw [if_neg (fun h => h (by simpa [Value.cells] using hl))]
    simpa [Value.cells] using hrun, hg a hf⟩⟩, fun w hs => ⟨H', hs⟩, hr a hf⟩))
theorem TP.storeW {i g s : Nat} {ent : Ent} {vs : List Value} (hg : Wants n ops L o) (hd : o.dst = none) (ho : o.op = .store t x y) (hsz : (P.info? t).map (·.size) = some s)
    (hx : ev L x = some (.pointer (some ⟨g, 0, none⟩))) (hy : ev L y = some (.agg vs.toArray)) (hl : vs.length = s) (h1 : ∀ u ∈ vs, u.oneCell' = true) (hi : (HB ++ H)[i]? = some ent) (he : ent.g = g) (hoff : ent.cs.length = s)
    {H' : List Ent} (hH : (HB ++ H).set i ⟨ent.g, ent.t, vs, ent.tot⟩ = HB ++ H') (hr : TP P ops Q n w0 HB ks rest L H') : TP P ops Q n w0 HB (8 :: ks) (o :: rest) L H :=
  TP.storeN hg hd ho hsz hx hy hl h1 hi he (by omega) (cs' := vs) (by
    have h2 : ent.cs.drop (0 + vs.length) = [] := List.drop_of_length_le (by omega)
    rw [h2]; simp) hH hr
/-- Where ways meet again. -/
theorem TC.seqJ {ι : Type} (Li : ι → List (Nat × Value)) (Hi : ι → List Ent) (C : ι → Prop) {x y : Code} (h1 : TC P (Exit.then (fun a w => ∃ i, C i ∧ Fr n (Li i) a ∧ St w0 (Hi i) w) Q) n w0 x L H) (h2 : ∀ i, C i → TC P Q n w0 y (Li i) (Hi i)) : TC P Q n w0 (.seq x y) L H := fun a w hf hs =>
  wpn_seq (wpn_mono (h1 a w hf hs) fun e a' w' hq => by
    cases e with
    | normal => obtain ⟨i, hC, hf', hs'⟩ := hq; exact h2 i hC a' w' hf' hs'
    | _ => exact hq)
theorem TE.join {ι : Type} {Li : ι → List (Nat × Value)} {Hi : ι → List Ent} {C : ι → Prop} (i : ι) (hC : C i) (hs : Sub (Li i) L) (hH : ∀ w, St w0 H w → St w0 (Hi i) w) : TE (Exit.then (fun a w => ∃ i, C i ∧ Fr n (Li i) a ∧ St w0 (Hi i) w) Q) .normal n w0 L H := fun a w hf hst => ⟨i, hC, hf.sub hs, hH w hst⟩
theorem TE.ret3C {fn : Func} {R : Ending → World → Prop} {i j q g off s : Nat} {u z : Value} {vs : List Value} (hres : fn.results = #[.cell i t, .tmp j, .tmp q]) (hag : (isAgg t).run P = fun w => .ok true w) (hsz : (P.info? t).map (·.size) = some s)
    (hx : look L i = some (.pointer (some ⟨g, off, none⟩))) (hy : look L j = some u) (hz : look L q = some z) (hl : vs.length = s) (hc : Row w0 H g off vs) (h : ∀ w, St w0 H w → R (.returned (.tuple #[.agg vs.toArray, u, z])) w) (hds : n.ds = [] := by rfl) : TE (bodyPost P fn R) .ret n w0 L H := fun a w hf hs => by
  refine ⟨hf.1.trans hds, .tuple #[.agg vs.toArray, u, z], ?_, h w hs⟩
  have h1 : (a.tmps.getD i undef) = .pointer (some ⟨g, off, none⟩) := by simp [Array.getD_eq_getD_getElem?, hf.2.2 i _ hx]
  have h3 : (a.tmps.getD j undef) = u := by simp [Array.getD_eq_getD_getElem?, hf.2.2 j _ hy]
  have h4 : (a.tmps.getD q undef) = z := by simp [Array.getD_eq_getD_getElem?, hf.2.2 q _ hz]
  have h2 := run_loadCells (P := P) (w := w) (b := g) (off := off) s 0 #[] vs hl (fun j u hu => by rw [Nat.zero_add]; exact hc w hs j u hu)
  simp only [results, hres]
  simp [Sem.run_bind, loadVar, hag, run_size hsz, loadCells]
  simp only [Array.getD_eq_getD_getElem?] at h1 h3 h4
  simp [h1, h3, h4, asAddr, h2]
/-- Back to the world from before. -/
theorem TL.rebase2 {w1 : World} {H0 H1 : List Ent} (hw : St w0 H0 w1) (hg : H1.map Ent.g = H0.map Ent.g) (h : TL P ops Q n w0 rest L H1) : TL P ops Q n w1 rest L H1 := fun a w' hf hs => h a w' hf (by
  have h1 : St w0 (H0 ++ []) w1 := by rw [List.append_nil]; exact hw
  have h2 : St w1 (H1 ++ []) w' := by rw [List.append_nil]; exact hs
  have := St.turns h1 h2 hg (by intro e he; cases he)
  simpa using this)
theorem st_dm {w : World} {A B C : List Ent} (h : St w0 (A ++ (B ++ C)) w) (hB : Fresh w0 B) : St w0 (A ++ C) w := by
  have hp : (A ++ (B ++ C)).Perm ((A ++ C) ++ B) := by
    rw [List.append_assoc]; exact List.Perm.append_left A List.perm_append_comm
  exact St.left (h.perm hp) hB
/-- A part of a block, numbers of one kind. -/
theorem src_seg {w : World} {g t tot a m : Nat} {X R : List Value} {W : List Int} {kd : IntKind} (h : Ent.lies ⟨g, t, X ++ (W.map (Value.int kd) ++ R), tot⟩ w) (ha : X.length = a) (hm : W.length = m) : Src w (some ⟨g, a, none⟩) m kd W := by
  subst ha
  refine ⟨hm, .inr ⟨g, X.length, rfl, h.lt, fun j hj => h.cell ?_⟩⟩
  rw [List.getElem?_append_right (by omega), Nat.add_sub_cancel_left, List.getElem?_append_left (by rw [List.length_map]; omega)]
  exact ints_get (by omega)
/-- As mark, and the other blocks are others. -/
theorem TL.mark2 {i g ln cp : Nat} {ent : Ent} {W : List Int} (hg : Wants n ops L o) (hi' : inside n o.dst = true) (ho : o.op = .convert t t x) (h1 : P.underlying t = some (.slice e)) (h2 : P.underlying e = some (.int .u8))
    (hx : ev L x = some (.slice (some ⟨g, 0, none⟩) ln cp)) (hi : H[i]? = some ent) (he : ent.g = g) (hcs : ent.cs = W.map (Value.int .u8)) (hN : w0.heap.size ≤ g)
    (hr : ∀ w1, (∀ d ∈ H.eraseIdx i, d.g ≠ g) → St w0 (H.eraseIdx i) w1 → RowI w1 g 0 W.length .u8 W → g < w1.heap.size → TL P ops Q n w1 rest (put L o.dst (.slice (some ⟨g, 0, none⟩) ln cp)) []) : TL P ops Q n w0 (o :: rest) L H :=
  fun a w hf hs => wpL_wants hg.nd (hg a hf) fun K hK => by
    subst he
    obtain ⟨cur, hc1, hc2, hc3⟩ := hs.has ent (List.mem_of_getElem? hi)
    have hsh : w.shape? ent.g = some (ent.t, cur.size) := by simp [World.shape?, hc1]
    have hrun : (execOp a.eval o).run P w = .ok (.value (.slice (some ⟨ent.g, 0, none⟩) ln cp)) (w.freeze ⟨ent.g, cur.size, none⟩ 1) := by
      simp only [execOp, ho, hf.eval hx]
      refine run_value ?_
      simp [convert, Sem.run_bind, run_under h1, run_under h2, markStringish, shape, Sem.run, hsh, freeze]
    unfold Oper.wp; rw [hrun]
    have hother : ∀ b, b ≠ ent.g → (w.freeze ⟨ent.g, cur.size, none⟩ 1).heap[b]? = w.heap[b]? := by
      intro b hb
      unfold World.freeze
      rw [if_neg (by omega)]
      simp [Array.getElem?_modify, hb.symm]
    have hsize : (w.freeze ⟨ent.g, cur.size, none⟩ 1).heap.size = w.heap.size := by
      unfold World.freeze
      rw [if_neg (by omega)]
      simp
    have hmem : ∀ e ∈ H.eraseIdx i, e ∈ H ∧ e.g ≠ ent.g := by
      intro c hc
      rw [List.mem_eraseIdx_iff_getElem?] at hc
      obtain ⟨q, hq, hcq⟩ := hc
      exact ⟨List.mem_of_getElem? hcq, pairwise_ne hs.apart hcq hi hq⟩
    have hst := hs.erase hi hN
    have hst1 : St w0 (H.eraseIdx i) (w.freeze ⟨ent.g, cur.size, none⟩ 1) :=
      ⟨by unfold World.freeze; rw [if_neg (by omega)]; exact hst.os, by unfold World.freeze; rw [if_neg (by omega)]; exact hst.tape, by unfold World.freeze; rw [if_neg (by omega)]; exact hst.output, by rw [hsize]; exact hst.size,
        fun c hc => (hst.has c hc).of_block (hother _ (hmem c hc).2), fun b hb hne => (hother b (by omega)).trans (hst.old b hb hne), hst.apart⟩
    refine hK _ _ (hr _ (fun d hd => (hmem d hd).2) hst1 ?_ (by rw [hsize]; exact (hs.has ent (List.mem_of_getElem? hi)).lt) _ _ (hf.put o.dst _ hi') (St.refl _))
    intro j hj
    have h4 := hc3 j (.int .u8 (W.getD j 0)) (by rw [hcs]; exact ints_get hj)
    simp [World.cell?, frozen_mark hc1, h4]
end
end Go.Proofs.Ytclmgfcdnokaiaa
/-
  Commands in a slice of the call's own.
-/
namespace Go.Proofs.Ytclmgfcdnokaiaa
set_option linter.unusedVariables false
set_option linter.unusedSimpArgs false
set_option linter.unusedVariables false
open Go Go.RowKit
/-! ### Commands in a slice of the call's own -/
def flatC (Cs : List CV) : List Value := Cs.flatMap cellsC
theorem cellsC_len (x : CV) : (cellsC x).length = 5 := rfl
theorem flatC_len (Cs : List CV) : (flatC Cs).length = Cs.length * 5 := by
  induction Cs with
  | nil => rfl
  | cons x l ih => unfold flatC at *; rw [List.flatMap_cons, List.length_append, ih, cellsC_len, List.length_cons]; omega
theorem flatC_app (Cs Es : List CV) : flatC (Cs ++ Es) = flatC Cs ++ flatC Es := by unfold flatC; rw [List.flatMap_append]
theorem flatC_one (x : CV) : flatC [x] = cellsC x := by unfold flatC; simp
theorem flatC_get : ∀ {Cs : List CV} {i : Nat} {x : CV} {j : Nat} {u : Value}, Cs[i]? = some x → (cellsC x)[j]? = some u → (flatC Cs)[5 * i + j]? = some u
  | [], i, x, j, u, h, _ => by simp at h
  | y :: l, 0, x, j, u, h, hu => by
    simp at h; subst h
    have hj : j < 5 := by have := (List.getElem?_eq_some_iff.1 hu).1; rw [cellsC_len] at this; exact this
    show (flatC ([y] ++ l))[5 * 0 + j]? = some u
    rw [flatC_app, flatC_one, List.getElem?_append_left (by rw [cellsC_len]; omega), Nat.mul_zero, Nat.zero_add]; exact hu
  | y :: l, i + 1, x, j, u, h, hu => by
    simp at h
    show (flatC ([y] ++ l))[5 * (i + 1) + j]? = some u
    rw [flatC_app, flatC_one, List.getElem?_append_right (by rw [cellsC_len]; omega), cellsC_len]
    have := flatC_get (Cs := l) h hu
    rw [← this]; congr 1; omega
theorem OwnS.srcC {N m c : Nat} {A : Option Addr} {t : TypeId} {Cs : List CV} {He : List Ent} {w : World} (h : OwnS N t 5 (.slice A m c) m (flatC Cs) He) (hs : ∀ e ∈ He, e.lies w) : SrcC w A m Cs := by
  have hl : Cs.length = m := by have := h.1; rw [flatC_len] at this; omega
  refine ⟨hl, ?_⟩
  rcases h.2 with ⟨h1, h2, rfl⟩ | ⟨g, cap, h1, rfl, hN, hc, hm⟩
  · exact .inl h2
  · cases h1
    have hlie := hs _ (List.mem_singleton.2 rfl)
    refine .inr ⟨g, 0, rfl, hlie.lt, fun i x hx j u hu => ?_⟩
    rw [show 0 + 5 * i + j = 5 * i + j by omega]
    exact hlie.cell (flatC_get hx hu)
end Go.Proofs.Ytclmgfcdnokaiaa
/-
  The reference of layer 7: Decode.
-/
namespace Go.Proofs.Ytclmgfcdnokaiaa
set_option linter.unusedVariables false
set_option linter.unusedSimpArgs false
open Go Go.RowKit
theorem agg25 : (isAgg 25).run Try.prog = fun w => .ok true w := isAgg_yes Try.underlying25 rfl
theorem enters29 : Enters Try.prog 29 := ⟨_, Try.func29, by kernel_rfl, by kernel_rfl⟩
theorem enters34 : Enters Try.prog 34 := ⟨_, Try.func34, by kernel_rfl, by kernel_rfl⟩
theorem mk47 : (Try.prog.info? 47).map (fun i => (i.zero, i.size, i.bytes)) = some (some (.agg #[.int .i64 0, .int .i64 0, .int .i64 0, .int .i64 0, .slice none 0 0]), 5, 56) := by kernel_rfl
theorem size25 : (Try.prog.info? 25).map (·.size) = some 67 := by kernel_rfl
theorem zero25 : (Try.prog.info? 25).bind (·.zero) = some (.agg #[.int .i64 0, .int .i64 0, .int .u8 0, .int .u8 0, .int .u8 0, .int .u8 0, .int .u8 0, .int .u8 0, .int .u8 0, .int .u8 0, .int .u8 0, .int .u8 0, .int .u8 0, .int .u8 0, .int .u8 0, .int .u8 0, .int .u8 0, .int .u8 0, .int .u8 0, .int .u8 0, .int .u8 0, .int .u8 0, .int .u8 0, .int .u8 0, .int .u8 0, .int .u8 0, .int .u8 0, .int .u8 0, .int .u8 0, .int .u8 0, .int .u8 0, .int .u8 0, .int .u8 0, .int .u8 0, .int .u8 0, .int .u8 0, .int .u8 0, .int .u8 0, .int .u8 0, .int .u8 0, .int .u8 0, .int .u8 0, .int .u8 0, .int .u8 0, .int .u8 0, .int .u8 0, .int .u8 0, .int .u8 0, .int .u8 0, .int .u8 0, .int .u8 0, .int .u8 0, .int .u8 0, .int .u8 0, .int .u8 0, .int .u8 0, .int .u8 0, .int .u8 0, .int .u8 0, .int .u8 0, .int .u8 0, .int .u8 0, .int .u8 0, .int .u8 0, .int .u8 0, .int .u8 0, .slice none 0 0]) := by kernel_rfl
theorem zero5 : (Try.prog.info? 5).bind (·.zero) = some (.int .u8 0) := by kernel_rfl
theorem magic_bytes : Bytes magicB := by intro x hx; unfold magicB at hx; simp only [List.mem_cons, List.not_mem_nil, or_false] at hx; omega
theorem OwnS.fr {w0 : World} {e : TypeId} {s nn : Nat} {v : Value} {cs : List Value} {He : List Ent} (h : OwnS w0.heap.size e s v nn cs He) : Fresh w0 He := h.new
def cmC (x : CV) : CM := ⟨x.k, x.t, x.f, x.l, x.B⟩
theorem versF_T {s : RS} {v : Int} (h1 : s.co = 0) (h2 : v ≠ 1) : versF s v = rFail s 10 4 := by unfold versF; rw [if_pos ⟨h1, h2⟩]
theorem versF_F {s : RS} {v : Int} (h : ¬ (s.co = 0 ∧ v ≠ 1)) : versF s v = s := by unfold versF; rw [if_neg h]
theorem extraF_T {B : List Int} {s : RS} (h1 : s.co = 0) (h2 : s.k < B.length) : extraF B s = rFail s 12 s.k := by unfold extraF; rw [if_pos ⟨h1, h2⟩]
theorem extraF_F {B : List Int} {s : RS} (h : ¬ (s.co = 0 ∧ s.k < B.length)) : extraF B s = s := by unfold extraF; rw [if_neg h]
theorem rIter_count {B : List Int} (hB : Bytes B) {s : RS} {i : Nat} (h : (rIter B s i).2.co = 0) (hk : s.k ≤ B.length) : i ≤ B.length := by
  obtain ⟨_, _, a3, _, _, a6⟩ := rIter_back hB i h hk
  have h1 := encCs_le (rIter B s i).1
  have h2 := congrArg List.length a6
  rw [List.length_append, List.length_take, List.length_take] at h2
  omega
structure WD where
  i : Nat
  v : Value
  He : List Ent
  Es : List CV

structure WE where
  i : Nat
  W : List Int
  V : List Int
theorem set_copy {W X : List Int} {i : Nat} (h : ∀ j, j < i → W.getD j 0 = X.getD j 0) (hl : i < W.length) : ∀ j, j < i + 1 → (W.set i (X.getD i 0)).getD j 0 = X.getD j 0 := fun j hj => by
  rw [getD_set hl]
  by_cases e : i = j
  · subst e; rw [if_pos rfl]
  · rw [if_neg e]; exact h j (by omega)

set_option maxRecDepth 100000 in
set_option maxHeartbeats 1000000 in
theorem rdecode_c (B : List Int) (A : Option Addr) (m c : Nat) (w : World) (hsB : Src w A m .u8 B) (hBB : Bytes B) (hmc : m ≤ c) (hcm : c ≤ 9223372036854775807) (hm : m ≤ 100000) : Calls Try.prog 16 #[.slice A m c] w fun e w' => ((rDec B).s.co ≠ 0 ∧ e = .returned (.tuple #[.agg ([Value.int .i64 0, Value.int .i64 0, Value.int .u8 0, Value.int .u8 0, Value.int .u8 0, Value.int .u8 0, Value.int .u8 0, Value.int .u8 0, Value.int .u8 0, Value.int .u8 0, Value.int .u8 0, Value.int .u8 0, Value.int .u8 0, Value.int .u8 0, Value.int .u8 0, Value.int .u8 0, Value.int .u8 0, Value.int .u8 0, Value.int .u8 0, Value.int .u8 0, Value.int .u8 0, Value.int .u8 0, Value.int .u8 0, Value.int .u8 0, Value.int .u8 0, Value.int .u8 0, Value.int .u8 0, Value.int .u8 0, Value.int .u8 0, Value.int .u8 0, Value.int .u8 0, Value.int .u8 0, Value.int .u8 0, Value.int .u8 0, Value.int .u8 0, Value.int .u8 0, Value.int .u8 0, Value.int .u8 0, Value.int .u8 0, Value.int .u8 0, Value.int .u8 0, Value.int .u8 0, Value.int .u8 0, Value.int .u8 0, Value.int .u8 0, Value.int .u8 0, Value.int .u8 0, Value.int .u8 0, Value.int .u8 0, Value.int .u8 0, Value.int .u8 0, Value.int .u8 0, Value.int .u8 0, Value.int .u8 0, Value.int .u8 0, Value.int .u8 0, Value.int .u8 0, Value.int .u8 0, Value.int .u8 0, Value.int .u8 0, Value.int .u8 0, Value.int .u8 0, Value.int .u8 0, Value.int .u8 0, Value.int .u8 0, Value.int .u8 0, Value.slice none 0 0]).toArray, .int .i64 (rDec B).s.co, .int .i64 (rDec B).s.po]) ∧ St w [] w') ∨ ((rDec B).s.co = 0 ∧ ∃ v He Es, e = .returned (.tuple #[.agg ([Value.int .i64 (rDec B).o, Value.int .i64 (rDec B).n] ++ ((rDec B).h1.map (Value.int .u8) ++ ((rDec B).h2.map (Value.int .u8) ++ ([v])))).toArray, .int .i64 0, .int .i64 0]) ∧ OwnS w.heap.size 47 5 v Es.length (flatC Es) He ∧ Es.map cmC = (rDec B).Cs ∧ (∀ q ∈ Es, Seg A m c B q.A q.c q.B ∧ q.m = q.B.length) ∧ St w He w') := by
  refine calls_from (args := [.slice A m c]) Try.func16 rfl Try.ntmps16 (by simp) ?_
  refine TC.pr [0] ?_
  iterate 2 refine gx ?_
  refine TL.alloc (Wants.none rfl) rfl rfl zero25 (cs := [Value.int .i64 0, Value.int .i64 0, Value.int .u8 0, Value.int .u8 0, Value.int .u8 0, Value.int .u8 0, Value.int .u8 0, Value.int .u8 0, Value.int .u8 0, Value.int .u8 0, Value.int .u8 0, Value.int .u8 0, Value.int .u8 0, Value.int .u8 0, Value.int .u8 0, Value.int .u8 0, Value.int .u8 0, Value.int .u8 0, Value.int .u8 0, Value.int .u8 0, Value.int .u8 0, Value.int .u8 0, Value.int .u8 0, Value.int .u8 0, Value.int .u8 0, Value.int .u8 0, Value.int .u8 0, Value.int .u8 0, Value.int .u8 0, Value.int .u8 0, Value.int .u8 0, Value.int .u8 0, Value.int .u8 0, Value.int .u8 0, Value.int .u8 0, Value.int .u8 0, Value.int .u8 0, Value.int .u8 0, Value.int .u8 0, Value.int .u8 0, Value.int .u8 0, Value.int .u8 0, Value.int .u8 0, Value.int .u8 0, Value.int .u8 0, Value.int .u8 0, Value.int .u8 0, Value.int .u8 0, Value.int .u8 0, Value.int .u8 0, Value.int .u8 0, Value.int .u8 0, Value.int .u8 0, Value.int .u8 0, Value.int .u8 0, Value.int .u8 0, Value.int .u8 0, Value.int .u8 0, Value.int .u8 0, Value.int .u8 0, Value.int .u8 0, Value.int .u8 0, Value.int .u8 0, Value.int .u8 0, Value.int .u8 0, Value.int .u8 0, Value.slice none 0 0]) rfl (tot := 67) (by simp) (fun g1 hg1 => ?_)
  iterate 7 refine gx ?_
  refine TL.gets (Wants.none rfl) rfl (Gets.build rfl (vs := [(0, Value.slice A m c)]) rfl (fun w => by first | rfl | kernel_rfl) (v := .agg ([Value.slice A m c, Value.int .i64 0, Value.int .i64 0, Value.int .i64 0]).toArray)) ?_
  refine TL.bxA (fun g2 hg2 => ?_)
  iterate 5 refine gx ?_
  refine TL.gets (Wants.none rfl) rfl (Gets.build rfl (vs := []) rfl (fun w => by first | rfl | kernel_rfl) (v := .agg ([Value.int .i64 0, Value.int .i64 0] ++ ((List.replicate 32 (0 : Int)).map (Value.int .u8) ++ ((List.replicate 32 (0 : Int)).map (Value.int .u8) ++ ([Value.slice none 0 0])))).toArray)) ?_
  refine TL.alloc (Wants.none rfl) rfl rfl zero25 (cs := [Value.int .i64 0, Value.int .i64 0, Value.int .u8 0, Value.int .u8 0, Value.int .u8 0, Value.int .u8 0, Value.int .u8 0, Value.int .u8 0, Value.int .u8 0, Value.int .u8 0, Value.int .u8 0, Value.int .u8 0, Value.int .u8 0, Value.int .u8 0, Value.int .u8 0, Value.int .u8 0, Value.int .u8 0, Value.int .u8 0, Value.int .u8 0, Value.int .u8 0, Value.int .u8 0, Value.int .u8 0, Value.int .u8 0, Value.int .u8 0, Value.int .u8 0, Value.int .u8 0, Value.int .u8 0, Value.int .u8 0, Value.int .u8 0, Value.int .u8 0, Value.int .u8 0, Value.int .u8 0, Value.int .u8 0, Value.int .u8 0, Value.int .u8 0, Value.int .u8 0, Value.int .u8 0, Value.int .u8 0, Value.int .u8 0, Value.int .u8 0, Value.int .u8 0, Value.int .u8 0, Value.int .u8 0, Value.int .u8 0, Value.int .u8 0, Value.int .u8 0, Value.int .u8 0, Value.int .u8 0, Value.int .u8 0, Value.int .u8 0, Value.int .u8 0, Value.int .u8 0, Value.int .u8 0, Value.int .u8 0, Value.int .u8 0, Value.int .u8 0, Value.int .u8 0, Value.int .u8 0, Value.int .u8 0, Value.int .u8 0, Value.int .u8 0, Value.int .u8 0, Value.int .u8 0, Value.int .u8 0, Value.int .u8 0, Value.int .u8 0, Value.slice none 0 0]) rfl (tot := 67) (by simp) (fun g3 hg3 => ?_)
  refine TL.storeW (Wants.none rfl) rfl rfl size25 rfl (vs := [Value.int .i64 0, Value.int .i64 0] ++ ((List.replicate 32 (0 : Int)).map (Value.int .u8) ++ ((List.replicate 32 (0 : Int)).map (Value.int .u8) ++ ([Value.slice none 0 0])))) rfl (by simp []) (ones_app (by simp [Value.oneCell']) (ones_app ints_one (ones_app ints_one (by simp [Value.oneCell'])))) (i := 0) (ent := ⟨g3, 25, [Value.int .i64 0, Value.int .i64 0, Value.int .u8 0, Value.int .u8 0, Value.int .u8 0, Value.int .u8 0, Value.int .u8 0, Value.int .u8 0, Value.int .u8 0, Value.int .u8 0, Value.int .u8 0, Value.int .u8 0, Value.int .u8 0, Value.int .u8 0, Value.int .u8 0, Value.int .u8 0, Value.int .u8 0, Value.int .u8 0, Value.int .u8 0, Value.int .u8 0, Value.int .u8 0, Value.int .u8 0, Value.int .u8 0, Value.int .u8 0, Value.int .u8 0, Value.int .u8 0, Value.int .u8 0, Value.int .u8 0, Value.int .u8 0, Value.int .u8 0, Value.int .u8 0, Value.int .u8 0, Value.int .u8 0, Value.int .u8 0, Value.int .u8 0, Value.int .u8 0, Value.int .u8 0, Value.int .u8 0, Value.int .u8 0, Value.int .u8 0, Value.int .u8 0, Value.int .u8 0, Value.int .u8 0, Value.int .u8 0, Value.int .u8 0, Value.int .u8 0, Value.int .u8 0, Value.int .u8 0, Value.int .u8 0, Value.int .u8 0, Value.int .u8 0, Value.int .u8 0, Value.int .u8 0, Value.int .u8 0, Value.int .u8 0, Value.int .u8 0, Value.int .u8 0, Value.int .u8 0, Value.int .u8 0, Value.int .u8 0, Value.int .u8 0, Value.int .u8 0, Value.int .u8 0, Value.int .u8 0, Value.int .u8 0, Value.int .u8 0, Value.slice none 0 0], 67⟩) rfl rfl (by simp []) (H' := [⟨g3, 25, [Value.int .i64 0, Value.int .i64 0] ++ ((List.replicate 32 (0 : Int)).map (Value.int .u8) ++ ((List.replicate 32 (0 : Int)).map (Value.int .u8) ++ ([Value.slice none 0 0]))), 67⟩, ⟨g2, 67, [Value.slice A m c, Value.int .i64 0, Value.int .i64 0, Value.int .i64 0], 4⟩, ⟨g1, 25, [Value.int .i64 0, Value.int .i64 0, Value.int .u8 0, Value.int .u8 0, Value.int .u8 0, Value.int .u8 0, Value.int .u8 0, Value.int .u8 0, Value.int .u8 0, Value.int .u8 0, Value.int .u8 0, Value.int .u8 0, Value.int .u8 0, Value.int .u8 0, Value.int .u8 0, Value.int .u8 0, Value.int .u8 0, Value.int .u8 0, Value.int .u8 0, Value.int .u8 0, Value.int .u8 0, Value.int .u8 0, Value.int .u8 0, Value.int .u8 0, Value.int .u8 0, Value.int .u8 0, Value.int .u8 0, Value.int .u8 0, Value.int .u8 0, Value.int .u8 0, Value.int .u8 0, Value.int .u8 0, Value.int .u8 0, Value.int .u8 0, Value.int .u8 0, Value.int .u8 0, Value.int .u8 0, Value.int .u8 0, Value.int .u8 0, Value.int .u8 0, Value.int .u8 0, Value.int .u8 0, Value.int .u8 0, Value.int .u8 0, Value.int .u8 0, Value.int .u8 0, Value.int .u8 0, Value.int .u8 0, Value.int .u8 0, Value.int .u8 0, Value.int .u8 0, Value.int .u8 0, Value.int .u8 0, Value.int .u8 0, Value.int .u8 0, Value.int .u8 0, Value.int .u8 0, Value.int .u8 0, Value.int .u8 0, Value.int .u8 0, Value.int .u8 0, Value.int .u8 0, Value.int .u8 0, Value.int .u8 0, Value.int .u8 0, Value.int .u8 0, Value.slice none 0 0], 67⟩]) rfl ?_
  iterate 2 refine gx ?_
  refine TC.pr [0, 2, 3, 4, 5, 6] ?_
  iterate 3 refine gx ?_
  refine TL.buildSlice (Wants.none rfl) rfl rfl Try.underlying28 size5 zero5 rfl (by decide) (by decide) (cells := #[.int .u8 71, .int .u8 82, .int .u8 70, .int .u8 84]) (tot := 4) (by kernel_rfl) (cs := [.int .u8 71, .int .u8 82, .int .u8 70, .int .u8 84]) rfl rfl (fun g4 hg4 => ?_)
  refine TL.mark2 (Wants.none rfl) rfl rfl Try.underlying28 Try.underlying5 rfl (i := 0) (ent := ⟨g4, 5, [Value.int .u8 71, Value.int .u8 82, Value.int .u8 70, Value.int .u8 84], 4⟩) rfl rfl (W := magicB) rfl (by omega) (fun w1 hap hw1 hrw hgw => ?_)
  have hw1' : St w [⟨g3, 25, [Value.int .i64 0, Value.int .i64 0] ++ ((List.replicate 32 (0 : Int)).map (Value.int .u8) ++ ((List.replicate 32 (0 : Int)).map (Value.int .u8) ++ ([Value.slice none 0 0]))), 67⟩, ⟨g2, 67, [Value.slice A m c, Value.int .i64 0, Value.int .i64 0, Value.int .i64 0], 4⟩, ⟨g1, 25, [Value.int .i64 0, Value.int .i64 0, Value.int .u8 0, Value.int .u8 0, Value.int .u8 0, Value.int .u8 0, Value.int .u8 0, Value.int .u8 0, Value.int .u8 0, Value.int .u8 0, Value.int .u8 0, Value.int .u8 0, Value.int .u8 0, Value.int .u8 0, Value.int .u8 0, Value.int .u8 0, Value.int .u8 0, Value.int .u8 0, Value.int .u8 0, Value.int .u8 0, Value.int .u8 0, Value.int .u8 0, Value.int .u8 0, Value.int .u8 0, Value.int .u8 0, Value.int .u8 0, Value.int .u8 0, Value.int .u8 0, Value.int .u8 0, Value.int .u8 0, Value.int .u8 0, Value.int .u8 0, Value.int .u8 0, Value.int .u8 0, Value.int .u8 0, Value.int .u8 0, Value.int .u8 0, Value.int .u8 0, Value.int .u8 0, Value.int .u8 0, Value.int .u8 0, Value.int .u8 0, Value.int .u8 0, Value.int .u8 0, Value.int .u8 0, Value.int .u8 0, Value.int .u8 0, Value.int .u8 0, Value.int .u8 0, Value.int .u8 0, Value.int .u8 0, Value.int .u8 0, Value.int .u8 0, Value.int .u8 0, Value.int .u8 0, Value.int .u8 0, Value.int .u8 0, Value.int .u8 0, Value.int .u8 0, Value.int .u8 0, Value.int .u8 0, Value.int .u8 0, Value.int .u8 0, Value.int .u8 0, Value.int .u8 0, Value.int .u8 0, Value.slice none 0 0], 67⟩] w1 := hw1
  have hn43 : g4 ≠ g3 := fun h => hap (⟨g3, 25, [Value.int .i64 0, Value.int .i64 0] ++ ((List.replicate 32 (0 : Int)).map (Value.int .u8) ++ ((List.replicate 32 (0 : Int)).map (Value.int .u8) ++ ([Value.slice none 0 0]))), 67⟩) (by simp) h.symm
  have hn42 : g4 ≠ g2 := fun h => hap (⟨g2, 67, [Value.slice A m c, Value.int .i64 0, Value.int .i64 0, Value.int .i64 0], 4⟩) (by simp) h.symm
  have hn41 : g4 ≠ g1 := fun h => hap (⟨g1, 25, [Value.int .i64 0, Value.int .i64 0, Value.int .u8 0, Value.int .u8 0, Value.int .u8 0, Value.int .u8 0, Value.int .u8 0, Value.int .u8 0, Value.int .u8 0, Value.int .u8 0, Value.int .u8 0, Value.int .u8 0, Value.int .u8 0, Value.int .u8 0, Value.int .u8 0, Value.int .u8 0, Value.int .u8 0, Value.int .u8 0, Value.int .u8 0, Value.int .u8 0, Value.int .u8 0, Value.int .u8 0, Value.int .u8 0, Value.int .u8 0, Value.int .u8 0, Value.int .u8 0, Value.int .u8 0, Value.int .u8 0, Value.int .u8 0, Value.int .u8 0, Value.int .u8 0, Value.int .u8 0, Value.int .u8 0, Value.int .u8 0, Value.int .u8 0, Value.int .u8 0, Value.int .u8 0, Value.int .u8 0, Value.int .u8 0, Value.int .u8 0, Value.int .u8 0, Value.int .u8 0, Value.int .u8 0, Value.int .u8 0, Value.int .u8 0, Value.int .u8 0, Value.int .u8 0, Value.int .u8 0, Value.int .u8 0, Value.int .u8 0, Value.int .u8 0, Value.int .u8 0, Value.int .u8 0, Value.int .u8 0, Value.int .u8 0, Value.int .u8 0, Value.int .u8 0, Value.int .u8 0, Value.int .u8 0, Value.int .u8 0, Value.int .u8 0, Value.int .u8 0, Value.int .u8 0, Value.int .u8 0, Value.int .u8 0, Value.int .u8 0, Value.slice none 0 0], 67⟩) (by simp) h.symm
  have hM : SrcX w1 [g3, g2, g1] (some ⟨g4, 0, none⟩) 4 .u8 magicB := ⟨rfl, .inr ⟨g4, 0, rfl, hgw, (fun z hz => by simp only [List.mem_cons, List.not_mem_nil, or_false] at hz; rcases hz with rfl | rfl | rfl <;> assumption), hrw⟩⟩
  have hn32 : g3 ≠ g2 := pairwise_ne hw1'.apart (i := 0) (j := 1) rfl rfl (by decide)
  have hn31 : g3 ≠ g1 := pairwise_ne hw1'.apart (i := 0) (j := 2) rfl rfl (by decide)
  have hn21 : g2 ≠ g1 := pairwise_ne hw1'.apart (i := 1) (j := 2) rfl rfl (by decide)
  have l3 := hw1'.has (⟨g3, 25, [Value.int .i64 0, Value.int .i64 0] ++ ((List.replicate 32 (0 : Int)).map (Value.int .u8) ++ ((List.replicate 32 (0 : Int)).map (Value.int .u8) ++ ([Value.slice none 0 0]))), 67⟩) (by simp)
  have l2 := hw1'.has (⟨g2, 67, [Value.slice A m c, Value.int .i64 0, Value.int .i64 0, Value.int .i64 0], 4⟩) (by simp)
  have l1 := hw1'.has (⟨g1, 25, [Value.int .i64 0, Value.int .i64 0, Value.int .u8 0, Value.int .u8 0, Value.int .u8 0, Value.int .u8 0, Value.int .u8 0, Value.int .u8 0, Value.int .u8 0, Value.int .u8 0, Value.int .u8 0, Value.int .u8 0, Value.int .u8 0, Value.int .u8 0, Value.int .u8 0, Value.int .u8 0, Value.int .u8 0, Value.int .u8 0, Value.int .u8 0, Value.int .u8 0, Value.int .u8 0, Value.int .u8 0, Value.int .u8 0, Value.int .u8 0, Value.int .u8 0, Value.int .u8 0, Value.int .u8 0, Value.int .u8 0, Value.int .u8 0, Value.int .u8 0, Value.int .u8 0, Value.int .u8 0, Value.int .u8 0, Value.int .u8 0, Value.int .u8 0, Value.int .u8 0, Value.int .u8 0, Value.int .u8 0, Value.int .u8 0, Value.int .u8 0, Value.int .u8 0, Value.int .u8 0, Value.int .u8 0, Value.int .u8 0, Value.int .u8 0, Value.int .u8 0, Value.int .u8 0, Value.int .u8 0, Value.int .u8 0, Value.int .u8 0, Value.int .u8 0, Value.int .u8 0, Value.int .u8 0, Value.int .u8 0, Value.int .u8 0, Value.int .u8 0, Value.int .u8 0, Value.int .u8 0, Value.int .u8 0, Value.int .u8 0, Value.int .u8 0, Value.int .u8 0, Value.int .u8 0, Value.int .u8 0, Value.int .u8 0, Value.int .u8 0, Value.slice none 0 0], 67⟩) (by simp)
  have hX := (((hsB.toX0.more hg1).more hg2).more hg3).at_ hw1' (fun b hb hbX => ne_cons (fun h => hbX g3 (by simp) h.symm) (ne_cons (fun h => hbX g2 (by simp) h.symm) (ne_cons (fun h => hbX g1 (by simp) h.symm) ne_nil)))
  have hBm := hsB.1
  have hri : RI B ⟨0, 0, 0⟩ := ⟨Nat.zero_le _, .inl ⟨rfl, rfl⟩⟩
  refine TL.heap (H' := [⟨g3, 25, [Value.int .i64 0, Value.int .i64 0] ++ ((List.replicate 32 (0 : Int)).map (Value.int .u8) ++ ((List.replicate 32 (0 : Int)).map (Value.int .u8) ++ ([Value.slice none 0 0]))), 67⟩, ⟨g2, 67, [Value.slice A m c, Value.int .i64 0, Value.int .i64 0, Value.int .i64 0], 4⟩, ⟨g1, 25, [Value.int .i64 0, Value.int .i64 0, Value.int .u8 0, Value.int .u8 0, Value.int .u8 0, Value.int .u8 0, Value.int .u8 0, Value.int .u8 0, Value.int .u8 0, Value.int .u8 0, Value.int .u8 0, Value.int .u8 0, Value.int .u8 0, Value.int .u8 0, Value.int .u8 0, Value.int .u8 0, Value.int .u8 0, Value.int .u8 0, Value.int .u8 0, Value.int .u8 0, Value.int .u8 0, Value.int .u8 0, Value.int .u8 0, Value.int .u8 0, Value.int .u8 0, Value.int .u8 0, Value.int .u8 0, Value.int .u8 0, Value.int .u8 0, Value.int .u8 0, Value.int .u8 0, Value.int .u8 0, Value.int .u8 0, Value.int .u8 0, Value.int .u8 0, Value.int .u8 0, Value.int .u8 0, Value.int .u8 0, Value.int .u8 0, Value.int .u8 0, Value.int .u8 0, Value.int .u8 0, Value.int .u8 0, Value.int .u8 0, Value.int .u8 0, Value.int .u8 0, Value.int .u8 0, Value.int .u8 0, Value.int .u8 0, Value.int .u8 0, Value.int .u8 0, Value.int .u8 0, Value.int .u8 0, Value.int .u8 0, Value.int .u8 0, Value.int .u8 0, Value.int .u8 0, Value.int .u8 0, Value.int .u8 0, Value.int .u8 0, Value.int .u8 0, Value.int .u8 0, Value.int .u8 0, Value.int .u8 0, Value.int .u8 0, Value.int .u8 0, Value.slice none 0 0], 67⟩]) (fun w h => ((h.take l1 ne_nil).take l2 (ne_cons (fun h => hn21 h.symm) ne_nil)).take l3 (ne_cons (fun h => hn32 h.symm) (ne_cons (fun h => hn31 h.symm) ne_nil))) ?_
  refine TL.call (ι := Unit) (V := fun _ => .bool (rExp B (⟨0, 0, 0⟩ : RS) magicB 9).1) (R := fun _ => True) (H' := fun _ => [⟨g3, 25, [Value.int .i64 0, Value.int .i64 0] ++ ((List.replicate 32 (0 : Int)).map (Value.int .u8) ++ ((List.replicate 32 (0 : Int)).map (Value.int .u8) ++ ([Value.slice none 0 0]))), 67⟩, ⟨g2, 67, [Value.slice A m c, Value.int .i64 ((rExp B (⟨0, 0, 0⟩ : RS) magicB 9).2.k : Int), Value.int .i64 ((rExp B (⟨0, 0, 0⟩ : RS) magicB 9).2.co), Value.int .i64 ((rExp B (⟨0, 0, 0⟩ : RS) magicB 9).2.po)], 4⟩, ⟨g1, 25, [Value.int .i64 0, Value.int .i64 0, Value.int .u8 0, Value.int .u8 0, Value.int .u8 0, Value.int .u8 0, Value.int .u8 0, Value.int .u8 0, Value.int .u8 0, Value.int .u8 0, Value.int .u8 0, Value.int .u8 0, Value.int .u8 0, Value.int .u8 0, Value.int .u8 0, Value.int .u8 0, Value.int .u8 0, Value.int .u8 0, Value.int .u8 0, Value.int .u8 0, Value.int .u8 0, Value.int .u8 0, Value.int .u8 0, Value.int .u8 0, Value.int .u8 0, Value.int .u8 0, Value.int .u8 0, Value.int .u8 0, Value.int .u8 0, Value.int .u8 0, Value.int .u8 0, Value.int .u8 0, Value.int .u8 0, Value.int .u8 0, Value.int .u8 0, Value.int .u8 0, Value.int .u8 0, Value.int .u8 0, Value.int .u8 0, Value.int .u8 0, Value.int .u8 0, Value.int .u8 0, Value.int .u8 0, Value.int .u8 0, Value.int .u8 0, Value.int .u8 0, Value.int .u8 0, Value.int .u8 0, Value.int .u8 0, Value.int .u8 0, Value.int .u8 0, Value.int .u8 0, Value.int .u8 0, Value.int .u8 0, Value.int .u8 0, Value.int .u8 0, Value.int .u8 0, Value.int .u8 0, Value.int .u8 0, Value.int .u8 0, Value.int .u8 0, Value.int .u8 0, Value.int .u8 0, Value.int .u8 0, Value.int .u8 0, Value.int .u8 0, Value.slice none 0 0], 67⟩]) (Wants.none rfl) rfl enters29 rfl rfl (fun w hs => (rexp_s g2 A m c (⟨0, 0, 0⟩ : RS) 9 (by decide) w (hs.has (⟨g2, 67, [Value.slice A m c, Value.int .i64 0, Value.int .i64 0, Value.int .i64 0], 4⟩) (by simp)) (Nat.zero_le _) (by omega) (by omega) B ((hX.at_ hs (fun b hb hbX => (ne_cons (fun h => hbX g3 (by simp) h.symm) (ne_cons (fun h => hbX g2 (by simp) h.symm) (ne_cons (fun h => hbX g1 (by simp) h.symm) ne_nil))))).sub (Y := [g2]) (fun y hy => by rw [List.mem_singleton.1 hy]; simp)) hBB magicB (some ⟨g4, 0, none⟩) 4 4 ((hM.at_ hs (fun b hb hbX => (ne_cons (fun h => hbX g3 (by simp) h.symm) (ne_cons (fun h => hbX g2 (by simp) h.symm) (ne_cons (fun h => hbX g1 (by simp) h.symm) ne_nil))))).sub (Y := [g2]) (fun y hy => by rw [List.mem_singleton.1 hy]; simp)) magic_bytes (Nat.le_refl _) (by omega)).mono fun e w' ⟨he, hw⟩ => ⟨(), he, trivial, St.turn (i := 1) (e := ⟨g2, 67, [Value.slice A m c, Value.int .i64 ((rExp B (⟨0, 0, 0⟩ : RS) magicB 9).2.k : Int), Value.int .i64 ((rExp B (⟨0, 0, 0⟩ : RS) magicB 9).2.co), Value.int .i64 ((rExp B (⟨0, 0, 0⟩ : RS) magicB 9).2.po)], 4⟩) hs rfl rfl hw⟩) (fun _ _ => ?_)
  have hrie := rExp_ri (D := magicB) (code := 9) (by decide) hri
  generalize hE : rExp B ⟨0, 0, 0⟩ magicB 9 = e1 at hrie ⊢
  refine TL.rebase2 hw1' rfl ?_
  have hXw := hsB.toX0.more hg2
  skip
  have hke : e1.2.k ≤ m := by have := hrie.1; omega
  skip
  iterate 2 refine gx ?_
  refine TC.pr [0, 2, 3, 4, 5, 6] ?_
  iterate 3 refine gx ?_
  refine TL.call (ι := Unit) (V := fun _ => .int .u64 ((rUint B e1.2 1).1)) (R := fun _ => True) (H' := fun _ => [⟨g3, 25, [Value.int .i64 0, Value.int .i64 0] ++ ((List.replicate 32 (0 : Int)).map (Value.int .u8) ++ ((List.replicate 32 (0 : Int)).map (Value.int .u8) ++ ([Value.slice none 0 0]))), 67⟩, ⟨g2, 67, [Value.slice A m c, Value.int .i64 ((rUint B e1.2 1).2.k : Int), Value.int .i64 ((rUint B e1.2 1).2.co), Value.int .i64 ((rUint B e1.2 1).2.po)], 4⟩, ⟨g1, 25, [Value.int .i64 0, Value.int .i64 0, Value.int .u8 0, Value.int .u8 0, Value.int .u8 0, Value.int .u8 0, Value.int .u8 0, Value.int .u8 0, Value.int .u8 0, Value.int .u8 0, Value.int .u8 0, Value.int .u8 0, Value.int .u8 0, Value.int .u8 0, Value.int .u8 0, Value.int .u8 0, Value.int .u8 0, Value.int .u8 0, Value.int .u8 0, Value.int .u8 0, Value.int .u8 0, Value.int .u8 0, Value.int .u8 0, Value.int .u8 0, Value.int .u8 0, Value.int .u8 0, Value.int .u8 0, Value.int .u8 0, Value.int .u8 0, Value.int .u8 0, Value.int .u8 0, Value.int .u8 0, Value.int .u8 0, Value.int .u8 0, Value.int .u8 0, Value.int .u8 0, Value.int .u8 0, Value.int .u8 0, Value.int .u8 0, Value.int .u8 0, Value.int .u8 0, Value.int .u8 0, Value.int .u8 0, Value.int .u8 0, Value.int .u8 0, Value.int .u8 0, Value.int .u8 0, Value.int .u8 0, Value.int .u8 0, Value.int .u8 0, Value.int .u8 0, Value.int .u8 0, Value.int .u8 0, Value.int .u8 0, Value.int .u8 0, Value.int .u8 0, Value.int .u8 0, Value.int .u8 0, Value.int .u8 0, Value.int .u8 0, Value.int .u8 0, Value.int .u8 0, Value.int .u8 0, Value.int .u8 0, Value.int .u8 0, Value.int .u8 0, Value.slice none 0 0], 67⟩]) (Wants.none rfl) rfl enters30 rfl rfl (fun w hs => (ruint_s g2 A m c e1.2 1 (by omega) w (hs.has (⟨g2, 67, [Value.slice A m c, Value.int .i64 (e1.2.k : Int), Value.int .i64 e1.2.co, Value.int .i64 e1.2.po], 4⟩) (by simp)) (by omega) (by omega) (by omega) B (hXw.at_ hs (fun b hb hbX => (ne_cons (by show g3 ≠ b; omega) (ne_cons (fun h => hbX g2 (by simp) h.symm) (ne_cons (by show g1 ≠ b; omega) ne_nil))))) hBB).mono fun e w' ⟨he, hw⟩ => ⟨(), he, trivial, St.turn (i := 1) (e := ⟨g2, 67, [Value.slice A m c, Value.int .i64 ((rUint B e1.2 1).2.k : Int), Value.int .i64 ((rUint B e1.2 1).2.co), Value.int .i64 ((rUint B e1.2 1).2.po)], 4⟩) hs rfl rfl hw⟩) (fun _ _ => ?_)
  have hwv_ := rUint_val1 hBB e1.2
  have hvv_ := rUint_val hBB e1.2 (n := 1) (by omega)
  have hriv_ := rUint_ri (n := 1) hrie
  generalize hv_ : rUint B e1.2 1 = v_ at hvv_ hriv_ hwv_ ⊢
  have hkv_ : v_.2.k ≤ m := by have := hriv_.1; omega
  skip
  iterate 3 refine gx ?_
  refine TC.pr [0, 2, 3, 4, 5, 6, 7] ?_
  refine TC.seqJ (ι := RS) (fun z => [(2, .pointer (some ⟨g1, 0, none⟩)), (5, .pointer (some ⟨g2, 0, none⟩)), (6, .pointer (some ⟨g3, 0, none⟩)), (0, .slice A m c)]) (fun z => [⟨g3, 25, [Value.int .i64 0, Value.int .i64 0] ++ ((List.replicate 32 (0 : Int)).map (Value.int .u8) ++ ((List.replicate 32 (0 : Int)).map (Value.int .u8) ++ ([Value.slice none 0 0]))), 67⟩, ⟨g2, 67, [Value.slice A m c, Value.int .i64 (z.k : Int), Value.int .i64 z.co, Value.int .i64 z.po], 4⟩, ⟨g1, 25, [Value.int .i64 0, Value.int .i64 0, Value.int .u8 0, Value.int .u8 0, Value.int .u8 0, Value.int .u8 0, Value.int .u8 0, Value.int .u8 0, Value.int .u8 0, Value.int .u8 0, Value.int .u8 0, Value.int .u8 0, Value.int .u8 0, Value.int .u8 0, Value.int .u8 0, Value.int .u8 0, Value.int .u8 0, Value.int .u8 0, Value.int .u8 0, Value.int .u8 0, Value.int .u8 0, Value.int .u8 0, Value.int .u8 0, Value.int .u8 0, Value.int .u8 0, Value.int .u8 0, Value.int .u8 0, Value.int .u8 0, Value.int .u8 0, Value.int .u8 0, Value.int .u8 0, Value.int .u8 0, Value.int .u8 0, Value.int .u8 0, Value.int .u8 0, Value.int .u8 0, Value.int .u8 0, Value.int .u8 0, Value.int .u8 0, Value.int .u8 0, Value.int .u8 0, Value.int .u8 0, Value.int .u8 0, Value.int .u8 0, Value.int .u8 0, Value.int .u8 0, Value.int .u8 0, Value.int .u8 0, Value.int .u8 0, Value.int .u8 0, Value.int .u8 0, Value.int .u8 0, Value.int .u8 0, Value.int .u8 0, Value.int .u8 0, Value.int .u8 0, Value.int .u8 0, Value.int .u8 0, Value.int .u8 0, Value.int .u8 0, Value.int .u8 0, Value.int .u8 0, Value.int .u8 0, Value.int .u8 0, Value.int .u8 0, Value.int .u8 0, Value.slice none 0 0], 67⟩]) (fun z => versF v_.2 v_.1 = z) ?_ (fun z hz => ?_)
  · iterate 3 refine gx ?_
    refine TL.gets (Wants.none rfl) rfl (Gets.nilCheck rfl rfl) ?_
    iterate 2 refine gx ?_
    by_cases c1 : v_.2.co = 0
    · refine TL.gets (Wants.none rfl) rfl (Gets.isTrue (Gets.eql rfl rfl rfl) c1) ?_
      iterate 2 refine gx ?_
      by_cases c2 : v_.1 ≠ 1
      · refine TL.gets (Wants.yes rfl rfl rfl) rfl (Gets.isTrue (Gets.neq rfl rfl rfl) c2) ?_
        iterate 3 refine gx ?_
        refine TC.pr [0, 2, 3, 4, 5, 6, 31] ?_
        refine TC.yes rfl ?_
        iterate 2 refine gx ?_
        refine TL.call (ι := Unit) (V := fun _ => .tuple #[]) (R := fun _ => True) (H' := fun _ => [⟨g3, 25, [Value.int .i64 0, Value.int .i64 0] ++ ((List.replicate 32 (0 : Int)).map (Value.int .u8) ++ ((List.replicate 32 (0 : Int)).map (Value.int .u8) ++ ([Value.slice none 0 0]))), 67⟩, ⟨g2, 67, [Value.slice A m c, Value.int .i64 ((rFail v_.2 10 4).k : Int), Value.int .i64 ((rFail v_.2 10 4).co), Value.int .i64 ((rFail v_.2 10 4).po)], 4⟩, ⟨g1, 25, [Value.int .i64 0, Value.int .i64 0, Value.int .u8 0, Value.int .u8 0, Value.int .u8 0, Value.int .u8 0, Value.int .u8 0, Value.int .u8 0, Value.int .u8 0, Value.int .u8 0, Value.int .u8 0, Value.int .u8 0, Value.int .u8 0, Value.int .u8 0, Value.int .u8 0, Value.int .u8 0, Value.int .u8 0, Value.int .u8 0, Value.int .u8 0, Value.int .u8 0, Value.int .u8 0, Value.int .u8 0, Value.int .u8 0, Value.int .u8 0, Value.int .u8 0, Value.int .u8 0, Value.int .u8 0, Value.int .u8 0, Value.int .u8 0, Value.int .u8 0, Value.int .u8 0, Value.int .u8 0, Value.int .u8 0, Value.int .u8 0, Value.int .u8 0, Value.int .u8 0, Value.int .u8 0, Value.int .u8 0, Value.int .u8 0, Value.int .u8 0, Value.int .u8 0, Value.int .u8 0, Value.int .u8 0, Value.int .u8 0, Value.int .u8 0, Value.int .u8 0, Value.int .u8 0, Value.int .u8 0, Value.int .u8 0, Value.int .u8 0, Value.int .u8 0, Value.int .u8 0, Value.int .u8 0, Value.int .u8 0, Value.int .u8 0, Value.int .u8 0, Value.int .u8 0, Value.int .u8 0, Value.int .u8 0, Value.int .u8 0, Value.int .u8 0, Value.int .u8 0, Value.int .u8 0, Value.int .u8 0, Value.int .u8 0, Value.int .u8 0, Value.slice none 0 0], 67⟩]) (Wants.none rfl) rfl enters31 rfl rfl (fun w hs => (rfail_s g2 A m c v_.2 10 4 (by decide) w (hs.has (⟨g2, 67, [Value.slice A m c, Value.int .i64 (v_.2.k : Int), Value.int .i64 v_.2.co, Value.int .i64 v_.2.po], 4⟩) (by simp))).mono fun e w' ⟨he, hw⟩ => ⟨(), he, trivial, St.turn (i := 1) (e := ⟨g2, 67, [Value.slice A m c, Value.int .i64 ((rFail v_.2 10 4).k : Int), Value.int .i64 ((rFail v_.2 10 4).co), Value.int .i64 ((rFail v_.2 10 4).po)], 4⟩) hs rfl rfl hw⟩) (fun _ _ => ?_)
        have hz1 : versF v_.2 v_.1 = rFail v_.2 10 4 := versF_T c1 c2
        generalize hgz1 : rFail v_.2 10 4 = z1 at hz1 ⊢
        refine gx ?_
        exact TE.join z1 hz1 (Sub.cons (i := 2) rfl (Sub.cons (i := 5) rfl (Sub.cons (i := 6) rfl (Sub.slice (i := 0) rfl rfl (by first | omega | (dsimp only; omega) | rfl) (by first | omega | (dsimp only; omega) | rfl) (Sub.nil))))) (fun w h => h)
      · have hz1 : versF v_.2 v_.1 = v_.2 := versF_F (fun h => c2 h.2)
        refine TL.gets (Wants.yes rfl rfl rfl) rfl (Gets.isFalse (Gets.neq rfl rfl rfl) c2) ?_
        iterate 3 refine gx ?_
        refine TC.pr [0, 2, 3, 4, 5, 6, 31] ?_
        refine TC.no rfl ?_
        refine gx ?_
        exact TE.join v_.2 hz1 (Sub.cons (i := 2) rfl (Sub.cons (i := 5) rfl (Sub.cons (i := 6) rfl (Sub.slice (i := 0) rfl rfl (by first | omega | (dsimp only; omega) | rfl) (by first | omega | (dsimp only; omega) | rfl) (Sub.nil))))) (fun w h => h)
    · have hz1 : versF v_.2 v_.1 = v_.2 := versF_F (fun h => c1 h.1)
      refine TL.gets (Wants.none rfl) rfl (Gets.isFalse (Gets.eql rfl rfl rfl) c1) ?_
      iterate 6 refine gx ?_
      refine TC.pr [0, 2, 3, 4, 5, 6, 31] ?_
      refine TC.no rfl ?_
      refine gx ?_
      exact TE.join v_.2 hz1 (Sub.cons (i := 2) rfl (Sub.cons (i := 5) rfl (Sub.cons (i := 6) rfl (Sub.slice (i := 0) rfl rfl (by first | omega | (dsimp only; omega) | rfl) (by first | omega | (dsimp only; omega) | rfl) (Sub.nil))))) (fun w h => h)
  · have hriz := rVers_ri B v_.1
    rw [hE, hv_, hz] at hriz
    have hkz : z.k ≤ m := by have := hriz.1; omega
    iterate 3 refine gx ?_
    refine TL.call (ι := Unit) (V := fun _ => .int .i64 ((rLen B z).1)) (R := fun _ => True) (H' := fun _ => [⟨g3, 25, [Value.int .i64 0, Value.int .i64 0] ++ ((List.replicate 32 (0 : Int)).map (Value.int .u8) ++ ((List.replicate 32 (0 : Int)).map (Value.int .u8) ++ ([Value.slice none 0 0]))), 67⟩, ⟨g2, 67, [Value.slice A m c, Value.int .i64 ((rLen B z).2.k : Int), Value.int .i64 ((rLen B z).2.co), Value.int .i64 ((rLen B z).2.po)], 4⟩, ⟨g1, 25, [Value.int .i64 0, Value.int .i64 0, Value.int .u8 0, Value.int .u8 0, Value.int .u8 0, Value.int .u8 0, Value.int .u8 0, Value.int .u8 0, Value.int .u8 0, Value.int .u8 0, Value.int .u8 0, Value.int .u8 0, Value.int .u8 0, Value.int .u8 0, Value.int .u8 0, Value.int .u8 0, Value.int .u8 0, Value.int .u8 0, Value.int .u8 0, Value.int .u8 0, Value.int .u8 0, Value.int .u8 0, Value.int .u8 0, Value.int .u8 0, Value.int .u8 0, Value.int .u8 0, Value.int .u8 0, Value.int .u8 0, Value.int .u8 0, Value.int .u8 0, Value.int .u8 0, Value.int .u8 0, Value.int .u8 0, Value.int .u8 0, Value.int .u8 0, Value.int .u8 0, Value.int .u8 0, Value.int .u8 0, Value.int .u8 0, Value.int .u8 0, Value.int .u8 0, Value.int .u8 0, Value.int .u8 0, Value.int .u8 0, Value.int .u8 0, Value.int .u8 0, Value.int .u8 0, Value.int .u8 0, Value.int .u8 0, Value.int .u8 0, Value.int .u8 0, Value.int .u8 0, Value.int .u8 0, Value.int .u8 0, Value.int .u8 0, Value.int .u8 0, Value.int .u8 0, Value.int .u8 0, Value.int .u8 0, Value.int .u8 0, Value.int .u8 0, Value.int .u8 0, Value.int .u8 0, Value.int .u8 0, Value.int .u8 0, Value.int .u8 0, Value.slice none 0 0], 67⟩]) (Wants.none rfl) rfl enters32 rfl rfl (fun w hs => (rlen_s g2 A m c z w (hs.has (⟨g2, 67, [Value.slice A m c, Value.int .i64 (z.k : Int), Value.int .i64 z.co, Value.int .i64 z.po], 4⟩) (by simp)) (by omega) (by omega) (by omega) B (hXw.at_ hs (fun b hb hbX => (ne_cons (by show g3 ≠ b; omega) (ne_cons (fun h => hbX g2 (by simp) h.symm) (ne_cons (by show g1 ≠ b; omega) ne_nil))))) hBB hriz).mono fun e w' ⟨he, hw⟩ => ⟨(), he, trivial, St.turn (i := 1) (e := ⟨g2, 67, [Value.slice A m c, Value.int .i64 ((rLen B z).2.k : Int), Value.int .i64 ((rLen B z).2.co), Value.int .i64 ((rLen B z).2.po)], 4⟩) hs rfl rfl hw⟩) (fun _ _ => ?_)
    have hvo_ := rLen_val hBB z
    have hrio_ := rLen_ri hriz
    generalize ho_ : rLen B z = o_ at hvo_ hrio_ ⊢
    have hko_ : o_.2.k ≤ m := by have := hrio_.1; omega
    skip
    refine gx ?_
    refine TL.store1 (Wants.none rfl) rfl rfl size3 rfl rfl rfl (i := 0) rfl rfl (by simp [] <;> omega) (cs' := [Value.int .i64 o_.1, Value.int .i64 0] ++ ((List.replicate 32 (0 : Int)).map (Value.int .u8) ++ ((List.replicate 32 (0 : Int)).map (Value.int .u8) ++ ([Value.slice none 0 0])))) (set_left (by simp []) (rfl)) (H' := [⟨g3, 25, [Value.int .i64 o_.1, Value.int .i64 0] ++ ((List.replicate 32 (0 : Int)).map (Value.int .u8) ++ ((List.replicate 32 (0 : Int)).map (Value.int .u8) ++ ([Value.slice none 0 0]))), 67⟩, ⟨g2, 67, [Value.slice A m c, Value.int .i64 (o_.2.k : Int), Value.int .i64 o_.2.co, Value.int .i64 o_.2.po], 4⟩, ⟨g1, 25, [Value.int .i64 0, Value.int .i64 0, Value.int .u8 0, Value.int .u8 0, Value.int .u8 0, Value.int .u8 0, Value.int .u8 0, Value.int .u8 0, Value.int .u8 0, Value.int .u8 0, Value.int .u8 0, Value.int .u8 0, Value.int .u8 0, Value.int .u8 0, Value.int .u8 0, Value.int .u8 0, Value.int .u8 0, Value.int .u8 0, Value.int .u8 0, Value.int .u8 0, Value.int .u8 0, Value.int .u8 0, Value.int .u8 0, Value.int .u8 0, Value.int .u8 0, Value.int .u8 0, Value.int .u8 0, Value.int .u8 0, Value.int .u8 0, Value.int .u8 0, Value.int .u8 0, Value.int .u8 0, Value.int .u8 0, Value.int .u8 0, Value.int .u8 0, Value.int .u8 0, Value.int .u8 0, Value.int .u8 0, Value.int .u8 0, Value.int .u8 0, Value.int .u8 0, Value.int .u8 0, Value.int .u8 0, Value.int .u8 0, Value.int .u8 0, Value.int .u8 0, Value.int .u8 0, Value.int .u8 0, Value.int .u8 0, Value.int .u8 0, Value.int .u8 0, Value.int .u8 0, Value.int .u8 0, Value.int .u8 0, Value.int .u8 0, Value.int .u8 0, Value.int .u8 0, Value.int .u8 0, Value.int .u8 0, Value.int .u8 0, Value.int .u8 0, Value.int .u8 0, Value.int .u8 0, Value.int .u8 0, Value.int .u8 0, Value.int .u8 0, Value.slice none 0 0], 67⟩]) rfl ?_
    iterate 5 refine gx ?_
    refine TL.call (ι := Unit) (V := fun _ => .int .i64 ((rLen B o_.2).1)) (R := fun _ => True) (H' := fun _ => [⟨g3, 25, [Value.int .i64 o_.1, Value.int .i64 0] ++ ((List.replicate 32 (0 : Int)).map (Value.int .u8) ++ ((List.replicate 32 (0 : Int)).map (Value.int .u8) ++ ([Value.slice none 0 0]))), 67⟩, ⟨g2, 67, [Value.slice A m c, Value.int .i64 ((rLen B o_.2).2.k : Int), Value.int .i64 ((rLen B o_.2).2.co), Value.int .i64 ((rLen B o_.2).2.po)], 4⟩, ⟨g1, 25, [Value.int .i64 0, Value.int .i64 0, Value.int .u8 0, Value.int .u8 0, Value.int .u8 0, Value.int .u8 0, Value.int .u8 0, Value.int .u8 0, Value.int .u8 0, Value.int .u8 0, Value.int .u8 0, Value.int .u8 0, Value.int .u8 0, Value.int .u8 0, Value.int .u8 0, Value.int .u8 0, Value.int .u8 0, Value.int .u8 0, Value.int .u8 0, Value.int .u8 0, Value.int .u8 0, Value.int .u8 0, Value.int .u8 0, Value.int .u8 0, Value.int .u8 0, Value.int .u8 0, Value.int .u8 0, Value.int .u8 0, Value.int .u8 0, Value.int .u8 0, Value.int .u8 0, Value.int .u8 0, Value.int .u8 0, Value.int .u8 0, Value.int .u8 0, Value.int .u8 0, Value.int .u8 0, Value.int .u8 0, Value.int .u8 0, Value.int .u8 0, Value.int .u8 0, Value.int .u8 0, Value.int .u8 0, Value.int .u8 0, Value.int .u8 0, Value.int .u8 0, Value.int .u8 0, Value.int .u8 0, Value.int .u8 0, Value.int .u8 0, Value.int .u8 0, Value.int .u8 0, Value.int .u8 0, Value.int .u8 0, Value.int .u8 0, Value.int .u8 0, Value.int .u8 0, Value.int .u8 0, Value.int .u8 0, Value.int .u8 0, Value.int .u8 0, Value.int .u8 0, Value.int .u8 0, Value.int .u8 0, Value.int .u8 0, Value.int .u8 0, Value.slice none 0 0], 67⟩]) (Wants.none rfl) rfl enters32 rfl rfl (fun w hs => (rlen_s g2 A m c o_.2 w (hs.has (⟨g2, 67, [Value.slice A m c, Value.int .i64 (o_.2.k : Int), Value.int .i64 o_.2.co, Value.int .i64 o_.2.po], 4⟩) (by simp)) (by omega) (by omega) (by omega) B (hXw.at_ hs (fun b hb hbX => (ne_cons (by show g3 ≠ b; omega) (ne_cons (fun h => hbX g2 (by simp) h.symm) (ne_cons (by show g1 ≠ b; omega) ne_nil))))) hBB hrio_).mono fun e w' ⟨he, hw⟩ => ⟨(), he, trivial, St.turn (i := 1) (e := ⟨g2, 67, [Value.slice A m c, Value.int .i64 ((rLen B o_.2).2.k : Int), Value.int .i64 ((rLen B o_.2).2.co), Value.int .i64 ((rLen B o_.2).2.po)], 4⟩) hs rfl rfl hw⟩) (fun _ _ => ?_)
    have hvn_ := rLen_val hBB o_.2
    have hrin_ := rLen_ri hrio_
    generalize hn_ : rLen B o_.2 = n_ at hvn_ hrin_ ⊢
    have hkn_ : n_.2.k ≤ m := by have := hrin_.1; omega
    skip
    refine gx ?_
    refine TL.store1 (Wants.none rfl) rfl rfl size3 rfl rfl rfl (i := 0) rfl rfl (by simp [] <;> omega) (cs' := [Value.int .i64 o_.1, Value.int .i64 n_.1] ++ ((List.replicate 32 (0 : Int)).map (Value.int .u8) ++ ((List.replicate 32 (0 : Int)).map (Value.int .u8) ++ ([Value.slice none 0 0])))) (set_left (by simp []) (rfl)) (H' := [⟨g3, 25, [Value.int .i64 o_.1, Value.int .i64 n_.1] ++ ((List.replicate 32 (0 : Int)).map (Value.int .u8) ++ ((List.replicate 32 (0 : Int)).map (Value.int .u8) ++ ([Value.slice none 0 0]))), 67⟩, ⟨g2, 67, [Value.slice A m c, Value.int .i64 (n_.2.k : Int), Value.int .i64 n_.2.co, Value.int .i64 n_.2.po], 4⟩, ⟨g1, 25, [Value.int .i64 0, Value.int .i64 0, Value.int .u8 0, Value.int .u8 0, Value.int .u8 0, Value.int .u8 0, Value.int .u8 0, Value.int .u8 0, Value.int .u8 0, Value.int .u8 0, Value.int .u8 0, Value.int .u8 0, Value.int .u8 0, Value.int .u8 0, Value.int .u8 0, Value.int .u8 0, Value.int .u8 0, Value.int .u8 0, Value.int .u8 0, Value.int .u8 0, Value.int .u8 0, Value.int .u8 0, Value.int .u8 0, Value.int .u8 0, Value.int .u8 0, Value.int .u8 0, Value.int .u8 0, Value.int .u8 0, Value.int .u8 0, Value.int .u8 0, Value.int .u8 0, Value.int .u8 0, Value.int .u8 0, Value.int .u8 0, Value.int .u8 0, Value.int .u8 0, Value.int .u8 0, Value.int .u8 0, Value.int .u8 0, Value.int .u8 0, Value.int .u8 0, Value.int .u8 0, Value.int .u8 0, Value.int .u8 0, Value.int .u8 0, Value.int .u8 0, Value.int .u8 0, Value.int .u8 0, Value.int .u8 0, Value.int .u8 0, Value.int .u8 0, Value.int .u8 0, Value.int .u8 0, Value.int .u8 0, Value.int .u8 0, Value.int .u8 0, Value.int .u8 0, Value.int .u8 0, Value.int .u8 0, Value.int .u8 0, Value.int .u8 0, Value.int .u8 0, Value.int .u8 0, Value.int .u8 0, Value.int .u8 0, Value.int .u8 0, Value.slice none 0 0], 67⟩]) rfl ?_
    iterate 2 refine gx ?_
    refine TC.pr [0, 2, 5, 6] ?_
    iterate 3 refine gx ?_
    refine TL.call (ι := Option Addr × Nat) (V := fun y => .slice y.1 (((rBytes B n_.2 32).1.length)) y.2) (R := fun y => Seg A m c B y.1 y.2 (rBytes B n_.2 32).1) (H' := fun y => [⟨g3, 25, [Value.int .i64 o_.1, Value.int .i64 n_.1] ++ ((List.replicate 32 (0 : Int)).map (Value.int .u8) ++ ((List.replicate 32 (0 : Int)).map (Value.int .u8) ++ ([Value.slice none 0 0]))), 67⟩, ⟨g2, 67, [Value.slice A m c, Value.int .i64 ((rBytes B n_.2 32).2.k : Int), Value.int .i64 ((rBytes B n_.2 32).2.co), Value.int .i64 ((rBytes B n_.2 32).2.po)], 4⟩, ⟨g1, 25, [Value.int .i64 0, Value.int .i64 0, Value.int .u8 0, Value.int .u8 0, Value.int .u8 0, Value.int .u8 0, Value.int .u8 0, Value.int .u8 0, Value.int .u8 0, Value.int .u8 0, Value.int .u8 0, Value.int .u8 0, Value.int .u8 0, Value.int .u8 0, Value.int .u8 0, Value.int .u8 0, Value.int .u8 0, Value.int .u8 0, Value.int .u8 0, Value.int .u8 0, Value.int .u8 0, Value.int .u8 0, Value.int .u8 0, Value.int .u8 0, Value.int .u8 0, Value.int .u8 0, Value.int .u8 0, Value.int .u8 0, Value.int .u8 0, Value.int .u8 0, Value.int .u8 0, Value.int .u8 0, Value.int .u8 0, Value.int .u8 0, Value.int .u8 0, Value.int .u8 0, Value.int .u8 0, Value.int .u8 0, Value.int .u8 0, Value.int .u8 0, Value.int .u8 0, Value.int .u8 0, Value.int .u8 0, Value.int .u8 0, Value.int .u8 0, Value.int .u8 0, Value.int .u8 0, Value.int .u8 0, Value.int .u8 0, Value.int .u8 0, Value.int .u8 0, Value.int .u8 0, Value.int .u8 0, Value.int .u8 0, Value.int .u8 0, Value.int .u8 0, Value.int .u8 0, Value.int .u8 0, Value.int .u8 0, Value.int .u8 0, Value.int .u8 0, Value.int .u8 0, Value.int .u8 0, Value.int .u8 0, Value.int .u8 0, Value.int .u8 0, Value.slice none 0 0], 67⟩]) (Wants.none rfl) rfl enters33 rfl rfl (fun w hs => (rbytes_s g2 A m c n_.2 32 (by omega) w (hs.has (⟨g2, 67, [Value.slice A m c, Value.int .i64 (n_.2.k : Int), Value.int .i64 n_.2.co, Value.int .i64 n_.2.po], 4⟩) (by simp)) (by omega) (by omega) (by omega) B hBm).mono fun e w' ⟨A', c', he, hg, hw⟩ => ⟨(A', c'), he, hg, St.turn (i := 1) (e := ⟨g2, 67, [Value.slice A m c, Value.int .i64 ((rBytes B n_.2 32).2.k : Int), Value.int .i64 ((rBytes B n_.2 32).2.co), Value.int .i64 ((rBytes B n_.2 32).2.po)], 4⟩) hs rfl rfl hw⟩) (fun y hgx_ => ?_)
    obtain ⟨Ax_, cx_⟩ := y
    dsimp only at hgx_ ⊢
    have hrix_ := rBytes_ri (n := 32) hrin_
    generalize hx_ : rBytes B n_.2 32 = x_ at hgx_ hrix_ ⊢
    have hkx_ : x_.2.k ≤ m := by have := hrix_.1; omega
    have hscx_ := hgx_.cap hmc
    skip
    iterate 6 refine gx ?_
    refine TL.call (ι := Option Addr × Nat) (V := fun y => .slice y.1 (((rBytes B x_.2 32).1.length)) y.2) (R := fun y => Seg A m c B y.1 y.2 (rBytes B x_.2 32).1) (H' := fun y => [⟨g3, 25, [Value.int .i64 o_.1, Value.int .i64 n_.1] ++ ((List.replicate 32 (0 : Int)).map (Value.int .u8) ++ ((List.replicate 32 (0 : Int)).map (Value.int .u8) ++ ([Value.slice none 0 0]))), 67⟩, ⟨g2, 67, [Value.slice A m c, Value.int .i64 ((rBytes B x_.2 32).2.k : Int), Value.int .i64 ((rBytes B x_.2 32).2.co), Value.int .i64 ((rBytes B x_.2 32).2.po)], 4⟩, ⟨g1, 25, [Value.int .i64 0, Value.int .i64 0, Value.int .u8 0, Value.int .u8 0, Value.int .u8 0, Value.int .u8 0, Value.int .u8 0, Value.int .u8 0, Value.int .u8 0, Value.int .u8 0, Value.int .u8 0, Value.int .u8 0, Value.int .u8 0, Value.int .u8 0, Value.int .u8 0, Value.int .u8 0, Value.int .u8 0, Value.int .u8 0, Value.int .u8 0, Value.int .u8 0, Value.int .u8 0, Value.int .u8 0, Value.int .u8 0, Value.int .u8 0, Value.int .u8 0, Value.int .u8 0, Value.int .u8 0, Value.int .u8 0, Value.int .u8 0, Value.int .u8 0, Value.int .u8 0, Value.int .u8 0, Value.int .u8 0, Value.int .u8 0, Value.int .u8 0, Value.int .u8 0, Value.int .u8 0, Value.int .u8 0, Value.int .u8 0, Value.int .u8 0, Value.int .u8 0, Value.int .u8 0, Value.int .u8 0, Value.int .u8 0, Value.int .u8 0, Value.int .u8 0, Value.int .u8 0, Value.int .u8 0, Value.int .u8 0, Value.int .u8 0, Value.int .u8 0, Value.int .u8 0, Value.int .u8 0, Value.int .u8 0, Value.int .u8 0, Value.int .u8 0, Value.int .u8 0, Value.int .u8 0, Value.int .u8 0, Value.int .u8 0, Value.int .u8 0, Value.int .u8 0, Value.int .u8 0, Value.int .u8 0, Value.int .u8 0, Value.int .u8 0, Value.slice none 0 0], 67⟩]) (Wants.none rfl) rfl enters33 rfl rfl (fun w hs => (rbytes_s g2 A m c x_.2 32 (by omega) w (hs.has (⟨g2, 67, [Value.slice A m c, Value.int .i64 (x_.2.k : Int), Value.int .i64 x_.2.co, Value.int .i64 x_.2.po], 4⟩) (by simp)) (by omega) (by omega) (by omega) B hBm).mono fun e w' ⟨A', c', he, hg, hw⟩ => ⟨(A', c'), he, hg, St.turn (i := 1) (e := ⟨g2, 67, [Value.slice A m c, Value.int .i64 ((rBytes B x_.2 32).2.k : Int), Value.int .i64 ((rBytes B x_.2 32).2.co), Value.int .i64 ((rBytes B x_.2 32).2.po)], 4⟩) hs rfl rfl hw⟩) (fun y hgy_ => ?_)
    obtain ⟨Ay_, cy_⟩ := y
    dsimp only at hgy_ ⊢
    have hriy_ := rBytes_ri (n := 32) hrix_
    generalize hy_ : rBytes B x_.2 32 = y_ at hgy_ hriy_ ⊢
    have hky_ : y_.2.k ≤ m := by have := hriy_.1; omega
    have hscy_ := hgy_.cap hmc
    skip
    iterate 3 refine gx ?_
    refine TC.pr [0, 2, 5, 6, 8, 9] ?_
    iterate 3 refine gx ?_
    refine TL.call (ι := Unit) (V := fun _ => .int .u64 ((rUint B y_.2 4).1)) (R := fun _ => True) (H' := fun _ => [⟨g3, 25, [Value.int .i64 o_.1, Value.int .i64 n_.1] ++ ((List.replicate 32 (0 : Int)).map (Value.int .u8) ++ ((List.replicate 32 (0 : Int)).map (Value.int .u8) ++ ([Value.slice none 0 0]))), 67⟩, ⟨g2, 67, [Value.slice A m c, Value.int .i64 ((rUint B y_.2 4).2.k : Int), Value.int .i64 ((rUint B y_.2 4).2.co), Value.int .i64 ((rUint B y_.2 4).2.po)], 4⟩, ⟨g1, 25, [Value.int .i64 0, Value.int .i64 0, Value.int .u8 0, Value.int .u8 0, Value.int .u8 0, Value.int .u8 0, Value.int .u8 0, Value.int .u8 0, Value.int .u8 0, Value.int .u8 0, Value.int .u8 0, Value.int .u8 0, Value.int .u8 0, Value.int .u8 0, Value.int .u8 0, Value.int .u8 0, Value.int .u8 0, Value.int .u8 0, Value.int .u8 0, Value.int .u8 0, Value.int .u8 0, Value.int .u8 0, Value.int .u8 0, Value.int .u8 0, Value.int .u8 0, Value.int .u8 0, Value.int .u8 0, Value.int .u8 0, Value.int .u8 0, Value.int .u8 0, Value.int .u8 0, Value.int .u8 0, Value.int .u8 0, Value.int .u8 0, Value.int .u8 0, Value.int .u8 0, Value.int .u8 0, Value.int .u8 0, Value.int .u8 0, Value.int .u8 0, Value.int .u8 0, Value.int .u8 0, Value.int .u8 0, Value.int .u8 0, Value.int .u8 0, Value.int .u8 0, Value.int .u8 0, Value.int .u8 0, Value.int .u8 0, Value.int .u8 0, Value.int .u8 0, Value.int .u8 0, Value.int .u8 0, Value.int .u8 0, Value.int .u8 0, Value.int .u8 0, Value.int .u8 0, Value.int .u8 0, Value.int .u8 0, Value.int .u8 0, Value.int .u8 0, Value.int .u8 0, Value.int .u8 0, Value.int .u8 0, Value.int .u8 0, Value.int .u8 0, Value.slice none 0 0], 67⟩]) (Wants.none rfl) rfl enters30 rfl rfl (fun w hs => (ruint_s g2 A m c y_.2 4 (by omega) w (hs.has (⟨g2, 67, [Value.slice A m c, Value.int .i64 (y_.2.k : Int), Value.int .i64 y_.2.co, Value.int .i64 y_.2.po], 4⟩) (by simp)) (by omega) (by omega) (by omega) B (hXw.at_ hs (fun b hb hbX => (ne_cons (by show g3 ≠ b; omega) (ne_cons (fun h => hbX g2 (by simp) h.symm) (ne_cons (by show g1 ≠ b; omega) ne_nil))))) hBB).mono fun e w' ⟨he, hw⟩ => ⟨(), he, trivial, St.turn (i := 1) (e := ⟨g2, 67, [Value.slice A m c, Value.int .i64 ((rUint B y_.2 4).2.k : Int), Value.int .i64 ((rUint B y_.2 4).2.co), Value.int .i64 ((rUint B y_.2 4).2.po)], 4⟩) hs rfl rfl hw⟩) (fun _ _ => ?_)
    have hwc_ := rUint_val4 hBB y_.2
    have hvc_ := rUint_val hBB y_.2 (n := 4) (by omega)
    have hric_ := rUint_ri (n := 4) hriy_
    generalize hc_ : rUint B y_.2 4 = c_ at hvc_ hric_ hwc_ ⊢
    have hkc_ : c_.2.k ≤ m := by have := hric_.1; omega
    skip
    obtain ⟨l_, hl_⟩ : ∃ l, rIter B c_.2 c_.1.toNat = l := ⟨_, rfl⟩
    refine TL.gets (Wants.none rfl) rfl (Gets.conv rfl Try.underlying51 Try.underlying3 rfl (r := c_.1) (w64 rfl (by omega))) ?_
    iterate 3 refine gx ?_
    refine TC.pr [0, 2, 5, 6, 8, 9, 10] ?_
    refine TC.seqJ (ι := WD) (fun z => [(2, .pointer (some ⟨g1, 0, none⟩)), (5, .pointer (some ⟨g2, 0, none⟩)), (6, .pointer (some ⟨g3, 0, none⟩)), (0, .slice A m c), (8, .slice Ax_ x_.1.length cx_), (9, .slice Ay_ y_.1.length cy_)]) (fun z => [⟨g3, 25, [Value.int .i64 o_.1, Value.int .i64 n_.1] ++ ((List.replicate 32 (0 : Int)).map (Value.int .u8) ++ ((List.replicate 32 (0 : Int)).map (Value.int .u8) ++ ([z.v]))), 67⟩, ⟨g2, 67, [Value.slice A m c, Value.int .i64 (l_.2.k : Int), Value.int .i64 l_.2.co, Value.int .i64 l_.2.po], 4⟩, ⟨g1, 25, [Value.int .i64 0, Value.int .i64 0, Value.int .u8 0, Value.int .u8 0, Value.int .u8 0, Value.int .u8 0, Value.int .u8 0, Value.int .u8 0, Value.int .u8 0, Value.int .u8 0, Value.int .u8 0, Value.int .u8 0, Value.int .u8 0, Value.int .u8 0, Value.int .u8 0, Value.int .u8 0, Value.int .u8 0, Value.int .u8 0, Value.int .u8 0, Value.int .u8 0, Value.int .u8 0, Value.int .u8 0, Value.int .u8 0, Value.int .u8 0, Value.int .u8 0, Value.int .u8 0, Value.int .u8 0, Value.int .u8 0, Value.int .u8 0, Value.int .u8 0, Value.int .u8 0, Value.int .u8 0, Value.int .u8 0, Value.int .u8 0, Value.int .u8 0, Value.int .u8 0, Value.int .u8 0, Value.int .u8 0, Value.int .u8 0, Value.int .u8 0, Value.int .u8 0, Value.int .u8 0, Value.int .u8 0, Value.int .u8 0, Value.int .u8 0, Value.int .u8 0, Value.int .u8 0, Value.int .u8 0, Value.int .u8 0, Value.int .u8 0, Value.int .u8 0, Value.int .u8 0, Value.int .u8 0, Value.int .u8 0, Value.int .u8 0, Value.int .u8 0, Value.int .u8 0, Value.int .u8 0, Value.int .u8 0, Value.int .u8 0, Value.int .u8 0, Value.int .u8 0, Value.int .u8 0, Value.int .u8 0, Value.int .u8 0, Value.int .u8 0, Value.slice none 0 0], 67⟩] ++ z.He) (fun z => OwnS w.heap.size 47 5 z.v z.i (flatC z.Es) z.He ∧ z.Es.map cmC = l_.1 ∧ (∀ q ∈ z.Es, Seg A m c B q.A q.c q.B ∧ q.m = q.B.length)) ?_ (fun z hz_ => ?_)
    · iterate 6 refine gx ?_
      refine TC.loop (ι := WD) (fun x0 => [(2, .pointer (some ⟨g1, 0, none⟩)), (5, .pointer (some ⟨g2, 0, none⟩)), (6, .pointer (some ⟨g3, 0, none⟩)), (0, .slice A m c), (8, .slice Ax_ x_.1.length cx_), (9, .slice Ay_ y_.1.length cy_), (10, .int .i64 c_.1), (11, .int .i64 (x0.i : Int))]) (fun x0 => [⟨g3, 25, [Value.int .i64 o_.1, Value.int .i64 n_.1] ++ ((List.replicate 32 (0 : Int)).map (Value.int .u8) ++ ((List.replicate 32 (0 : Int)).map (Value.int .u8) ++ ([x0.v]))), 67⟩, ⟨g2, 67, [Value.slice A m c, Value.int .i64 ((rIter B c_.2 x0.i).2.k : Int), Value.int .i64 ((rIter B c_.2 x0.i).2.co), Value.int .i64 ((rIter B c_.2 x0.i).2.po)], 4⟩, ⟨g1, 25, [Value.int .i64 0, Value.int .i64 0, Value.int .u8 0, Value.int .u8 0, Value.int .u8 0, Value.int .u8 0, Value.int .u8 0, Value.int .u8 0, Value.int .u8 0, Value.int .u8 0, Value.int .u8 0, Value.int .u8 0, Value.int .u8 0, Value.int .u8 0, Value.int .u8 0, Value.int .u8 0, Value.int .u8 0, Value.int .u8 0, Value.int .u8 0, Value.int .u8 0, Value.int .u8 0, Value.int .u8 0, Value.int .u8 0, Value.int .u8 0, Value.int .u8 0, Value.int .u8 0, Value.int .u8 0, Value.int .u8 0, Value.int .u8 0, Value.int .u8 0, Value.int .u8 0, Value.int .u8 0, Value.int .u8 0, Value.int .u8 0, Value.int .u8 0, Value.int .u8 0, Value.int .u8 0, Value.int .u8 0, Value.int .u8 0, Value.int .u8 0, Value.int .u8 0, Value.int .u8 0, Value.int .u8 0, Value.int .u8 0, Value.int .u8 0, Value.int .u8 0, Value.int .u8 0, Value.int .u8 0, Value.int .u8 0, Value.int .u8 0, Value.int .u8 0, Value.int .u8 0, Value.int .u8 0, Value.int .u8 0, Value.int .u8 0, Value.int .u8 0, Value.int .u8 0, Value.int .u8 0, Value.int .u8 0, Value.int .u8 0, Value.int .u8 0, Value.int .u8 0, Value.int .u8 0, Value.int .u8 0, Value.int .u8 0, Value.int .u8 0, Value.slice none 0 0], 67⟩] ++ x0.He) (fun x0 => c_.1.toNat - x0.i) (fun x0 => OwnS w.heap.size 47 5 x0.v x0.i (flatC x0.Es) x0.He ∧ x0.Es.map cmC = (rIter B c_.2 x0.i).1 ∧ (∀ q ∈ x0.Es, Seg A m c B q.A q.c q.B ∧ q.m = q.B.length) ∧ (x0.i : Int) ≤ c_.1) (⟨0, .slice none 0 0, [], []⟩ : WD) ⟨OwnS.nil _ _ _, rfl, (fun q hq => by cases hq), (by show ((0 : Nat) : Int) ≤ c_.1; omega)⟩ (Sub.cons (i := 2) rfl (Sub.cons (i := 5) rfl (Sub.cons (i := 6) rfl (Sub.slice (i := 0) rfl rfl (by first | omega | (dsimp only; omega) | rfl) (by first | omega | (dsimp only; omega) | rfl) (Sub.slice (i := 8) rfl rfl (by first | omega | (dsimp only; omega) | rfl) (by first | omega | (dsimp only; omega) | rfl) (Sub.slice (i := 9) rfl rfl (by first | omega | (dsimp only; omega) | rfl) (by first | omega | (dsimp only; omega) | rfl) (Sub.int (i := 10) rfl (by first | rfl | omega) (Sub.int (i := 11) rfl rfl (Sub.nil))))))))) (fun w h => h) (fun x0 hC0 => ?_)
      obtain ⟨i, v, He, Es⟩ := x0
      obtain ⟨hov, hEs, hsg, hic⟩ := hC0
      dsimp only at hov hEs hsg hic ⊢
      have hrii := rIter_ri hric_ i
      have hki : (rIter B c_.2 i).2.k ≤ m := by have := hrii.1; omega
      iterate 5 refine gx ?_
      by_cases d1 : (i : Int) < c_.1
      · refine TL.gets (Wants.none rfl) rfl (Gets.isTrue (Gets.lss rfl rfl rfl) d1) ?_
        iterate 2 refine gx ?_
        refine TL.gets (Wants.yes rfl rfl rfl) rfl (Gets.nilCheck rfl rfl) ?_
        iterate 2 refine gx ?_
        by_cases d2 : ((rIter B c_.2 i).2.co) = 0
        · refine TL.gets (Wants.yes rfl rfl rfl) rfl (Gets.isTrue (Gets.eql rfl rfl rfl) d2) ?_
          iterate 3 refine gx ?_
          refine TC.pr [0, 2, 5, 6, 8, 9, 10, 11, 56] ?_
          refine TC.yes rfl ?_
          iterate 2 refine gx ?_
          refine TC.pr [0, 2, 5, 6, 8, 9, 10, 11] ?_
          iterate 2 refine gx ?_
          have hcnt := rIter_count hBB d2 hric_.1
          refine TC.heap (H' := [⟨g3, 25, [Value.int .i64 o_.1, Value.int .i64 n_.1] ++ ((List.replicate 32 (0 : Int)).map (Value.int .u8) ++ ((List.replicate 32 (0 : Int)).map (Value.int .u8) ++ ([v]))), 67⟩] ++ ([⟨g2, 67, [Value.slice A m c, Value.int .i64 ((rIter B c_.2 i).2.k : Int), Value.int .i64 ((rIter B c_.2 i).2.co), Value.int .i64 ((rIter B c_.2 i).2.po)], 4⟩, ⟨g1, 25, [Value.int .i64 0, Value.int .i64 0, Value.int .u8 0, Value.int .u8 0, Value.int .u8 0, Value.int .u8 0, Value.int .u8 0, Value.int .u8 0, Value.int .u8 0, Value.int .u8 0, Value.int .u8 0, Value.int .u8 0, Value.int .u8 0, Value.int .u8 0, Value.int .u8 0, Value.int .u8 0, Value.int .u8 0, Value.int .u8 0, Value.int .u8 0, Value.int .u8 0, Value.int .u8 0, Value.int .u8 0, Value.int .u8 0, Value.int .u8 0, Value.int .u8 0, Value.int .u8 0, Value.int .u8 0, Value.int .u8 0, Value.int .u8 0, Value.int .u8 0, Value.int .u8 0, Value.int .u8 0, Value.int .u8 0, Value.int .u8 0, Value.int .u8 0, Value.int .u8 0, Value.int .u8 0, Value.int .u8 0, Value.int .u8 0, Value.int .u8 0, Value.int .u8 0, Value.int .u8 0, Value.int .u8 0, Value.int .u8 0, Value.int .u8 0, Value.int .u8 0, Value.int .u8 0, Value.int .u8 0, Value.int .u8 0, Value.int .u8 0, Value.int .u8 0, Value.int .u8 0, Value.int .u8 0, Value.int .u8 0, Value.int .u8 0, Value.int .u8 0, Value.int .u8 0, Value.int .u8 0, Value.int .u8 0, Value.int .u8 0, Value.int .u8 0, Value.int .u8 0, Value.int .u8 0, Value.int .u8 0, Value.int .u8 0, Value.int .u8 0, Value.slice none 0 0], 67⟩] ++ He)) (fun w h => h) ?_
          refine TC.mixB (HB := [Ent.mk g3 25 ([Value.int .i64 o_.1, Value.int .i64 n_.1] ++ ((List.replicate 32 (0 : Int)).map (Value.int .u8) ++ ((List.replicate 32 (0 : Int)).map (Value.int .u8) ++ ([v])))) 67]) (H := [Ent.mk g2 67 ([Value.slice A m c, Value.int .i64 ((rIter B c_.2 i).2.k : Int), Value.int .i64 ((rIter B c_.2 i).2.co), Value.int .i64 ((rIter B c_.2 i).2.po)]) 4, Ent.mk g1 25 ([Value.int .i64 0, Value.int .i64 0, Value.int .u8 0, Value.int .u8 0, Value.int .u8 0, Value.int .u8 0, Value.int .u8 0, Value.int .u8 0, Value.int .u8 0, Value.int .u8 0, Value.int .u8 0, Value.int .u8 0, Value.int .u8 0, Value.int .u8 0, Value.int .u8 0, Value.int .u8 0, Value.int .u8 0, Value.int .u8 0, Value.int .u8 0, Value.int .u8 0, Value.int .u8 0, Value.int .u8 0, Value.int .u8 0, Value.int .u8 0, Value.int .u8 0, Value.int .u8 0, Value.int .u8 0, Value.int .u8 0, Value.int .u8 0, Value.int .u8 0, Value.int .u8 0, Value.int .u8 0, Value.int .u8 0, Value.int .u8 0, Value.int .u8 0, Value.int .u8 0, Value.int .u8 0, Value.int .u8 0, Value.int .u8 0, Value.int .u8 0, Value.int .u8 0, Value.int .u8 0, Value.int .u8 0, Value.int .u8 0, Value.int .u8 0, Value.int .u8 0, Value.int .u8 0, Value.int .u8 0, Value.int .u8 0, Value.int .u8 0, Value.int .u8 0, Value.int .u8 0, Value.int .u8 0, Value.int .u8 0, Value.int .u8 0, Value.int .u8 0, Value.int .u8 0, Value.int .u8 0, Value.int .u8 0, Value.int .u8 0, Value.int .u8 0, Value.int .u8 0, Value.int .u8 0, Value.int .u8 0, Value.int .u8 0, Value.int .u8 0, Value.slice none 0 0]) 67] ++ He) (by kernel_rfl) [0, 0, 0, 3, 3, 3, 0, 7] [0, 1, 2, 3, 4, 5, 6, 7] (by kernel_rfl) ?_
          refine TP.free (Wants.none rfl) rfl (fun _ => Gets.fieldAddr rfl Try.underlying25 rfl size23 rfl (off' := 66) (by first | rfl | omega)) ?_
          refine TP.stay (Wants.none rfl) rfl (fun H' => Gets.load1 rfl agg23 rfl (At.ent (i := 0) (ent := ⟨g3, 25, [Value.int .i64 o_.1, Value.int .i64 n_.1] ++ ((List.replicate 32 (0 : Int)).map (Value.int .u8) ++ ((List.replicate 32 (0 : Int)).map (Value.int .u8) ++ ([v]))), 67⟩) (off := 66) rfl rfl (by exact app_right (a := 2) (i := 64) (rfl) (app_right (a := 32) (i := 32) (ints_len (by simp)) (app_right (a := 32) (i := 0) (ints_len (by simp)) (rfl)))))) ?_
          refine TP.free (Wants.none rfl) rfl (fun _ => Gets.move rfl rfl) ?_
          refine TP.call (ι := Option Addr × Nat) (V := fun y => .agg ([Value.int .i64 ((rCmd B (⟨(((rIter B c_.2 i).2.k)), ((rIter B c_.2 i).2.co), ((rIter B c_.2 i).2.po)⟩ : RS)).1.k), Value.int .i64 ((rCmd B (⟨(((rIter B c_.2 i).2.k)), ((rIter B c_.2 i).2.co), ((rIter B c_.2 i).2.po)⟩ : RS)).1.t), Value.int .i64 ((rCmd B (⟨(((rIter B c_.2 i).2.k)), ((rIter B c_.2 i).2.co), ((rIter B c_.2 i).2.po)⟩ : RS)).1.f), Value.int .i64 ((rCmd B (⟨(((rIter B c_.2 i).2.k)), ((rIter B c_.2 i).2.co), ((rIter B c_.2 i).2.po)⟩ : RS)).1.l), Value.slice y.1 (((rCmd B (⟨(((rIter B c_.2 i).2.k)), ((rIter B c_.2 i).2.co), ((rIter B c_.2 i).2.po)⟩ : RS)).1.B.length)) y.2]).toArray) (R := fun y => Seg A m c B y.1 y.2 (rCmd B (⟨(((rIter B c_.2 i).2.k)), ((rIter B c_.2 i).2.co), ((rIter B c_.2 i).2.po)⟩ : RS)).1.B) (H' := fun y => [⟨g2, 67, [Value.slice A m c, Value.int .i64 ((rCmd B (⟨(((rIter B c_.2 i).2.k)), ((rIter B c_.2 i).2.co), ((rIter B c_.2 i).2.po)⟩ : RS)).2.k : Int), Value.int .i64 ((rCmd B (⟨(((rIter B c_.2 i).2.k)), ((rIter B c_.2 i).2.co), ((rIter B c_.2 i).2.po)⟩ : RS)).2.co), Value.int .i64 ((rCmd B (⟨(((rIter B c_.2 i).2.k)), ((rIter B c_.2 i).2.co), ((rIter B c_.2 i).2.po)⟩ : RS)).2.po)], 4⟩, ⟨g1, 25, [Value.int .i64 0, Value.int .i64 0, Value.int .u8 0, Value.int .u8 0, Value.int .u8 0, Value.int .u8 0, Value.int .u8 0, Value.int .u8 0, Value.int .u8 0, Value.int .u8 0, Value.int .u8 0, Value.int .u8 0, Value.int .u8 0, Value.int .u8 0, Value.int .u8 0, Value.int .u8 0, Value.int .u8 0, Value.int .u8 0, Value.int .u8 0, Value.int .u8 0, Value.int .u8 0, Value.int .u8 0, Value.int .u8 0, Value.int .u8 0, Value.int .u8 0, Value.int .u8 0, Value.int .u8 0, Value.int .u8 0, Value.int .u8 0, Value.int .u8 0, Value.int .u8 0, Value.int .u8 0, Value.int .u8 0, Value.int .u8 0, Value.int .u8 0, Value.int .u8 0, Value.int .u8 0, Value.int .u8 0, Value.int .u8 0, Value.int .u8 0, Value.int .u8 0, Value.int .u8 0, Value.int .u8 0, Value.int .u8 0, Value.int .u8 0, Value.int .u8 0, Value.int .u8 0, Value.int .u8 0, Value.int .u8 0, Value.int .u8 0, Value.int .u8 0, Value.int .u8 0, Value.int .u8 0, Value.int .u8 0, Value.int .u8 0, Value.int .u8 0, Value.int .u8 0, Value.int .u8 0, Value.int .u8 0, Value.int .u8 0, Value.int .u8 0, Value.int .u8 0, Value.int .u8 0, Value.int .u8 0, Value.int .u8 0, Value.int .u8 0, Value.slice none 0 0], 67⟩] ++ He) (Wants.none rfl) rfl enters34 rfl rfl (fun w hs => (rcommand_s g2 A m c (⟨(((rIter B c_.2 i).2.k)), ((rIter B c_.2 i).2.co), ((rIter B c_.2 i).2.po)⟩ : RS) w (hs.has (⟨g2, 67, [Value.slice A m c, Value.int .i64 ((rIter B c_.2 i).2.k : Int), Value.int .i64 ((rIter B c_.2 i).2.co), Value.int .i64 ((rIter B c_.2 i).2.po)], 4⟩) (by simp)) (by omega) (by omega) (by omega) B (hXw.at_ hs (fun b hb hbX => (ne_app (ne_cons (by show g3 ≠ b; omega) ne_nil) (ne_app (ne_cons (fun h => hbX g2 (by simp) h.symm) (ne_cons (by show g1 ≠ b; omega) ne_nil)) (hov.fr.ne hb))))) hBB hrii).mono fun e w' ⟨A', c', he, hg, hw⟩ => ⟨(A', c'), he, hg, St.turn (i := 1) (e := ⟨g2, 67, [Value.slice A m c, Value.int .i64 ((rCmd B (⟨(((rIter B c_.2 i).2.k)), ((rIter B c_.2 i).2.co), ((rIter B c_.2 i).2.po)⟩ : RS)).2.k : Int), Value.int .i64 ((rCmd B (⟨(((rIter B c_.2 i).2.k)), ((rIter B c_.2 i).2.co), ((rIter B c_.2 i).2.po)⟩ : RS)).2.co), Value.int .i64 ((rCmd B (⟨(((rIter B c_.2 i).2.k)), ((rIter B c_.2 i).2.co), ((rIter B c_.2 i).2.po)⟩ : RS)).2.po)], 4⟩) hs rfl rfl hw⟩) (fun y hgq => ?_)
          obtain ⟨Aq, cq⟩ := y
          dsimp only at hgq ⊢
          generalize hcm : rCmd B (⟨(((rIter B c_.2 i).2.k)), ((rIter B c_.2 i).2.co), ((rIter B c_.2 i).2.po)⟩ : RS) = cm at hgq ⊢
          refine TP.buildSlice (Wants.none rfl) rfl rfl Try.underlying23 size47 zero47 rfl (by decide) (by decide) (cells := #[.int .i64 cm.1.k, .int .i64 cm.1.t, .int .i64 cm.1.f, .int .i64 cm.1.l, .slice Aq cm.1.B.length cq]) (tot := 5) (by kernel_rfl) (cs := [.int .i64 cm.1.k, .int .i64 cm.1.t, .int .i64 cm.1.f, .int .i64 cm.1.l, .slice Aq cm.1.B.length cq]) rfl rfl (fun g5 hg5 => ?_)
          refine TP.appendS (H0 := [Ent.mk g5 47 ([Value.int .i64 cm.1.k, Value.int .i64 cm.1.t, Value.int .i64 cm.1.f, Value.int .i64 cm.1.l, Value.slice Aq cm.1.B.length cq]) 5, Ent.mk g2 67 ([Value.slice A m c, Value.int .i64 (cm.2.k : Int), Value.int .i64 cm.2.co, Value.int .i64 cm.2.po]) 4, Ent.mk g1 25 ([Value.int .i64 0, Value.int .i64 0, Value.int .u8 0, Value.int .u8 0, Value.int .u8 0, Value.int .u8 0, Value.int .u8 0, Value.int .u8 0, Value.int .u8 0, Value.int .u8 0, Value.int .u8 0, Value.int .u8 0, Value.int .u8 0, Value.int .u8 0, Value.int .u8 0, Value.int .u8 0, Value.int .u8 0, Value.int .u8 0, Value.int .u8 0, Value.int .u8 0, Value.int .u8 0, Value.int .u8 0, Value.int .u8 0, Value.int .u8 0, Value.int .u8 0, Value.int .u8 0, Value.int .u8 0, Value.int .u8 0, Value.int .u8 0, Value.int .u8 0, Value.int .u8 0, Value.int .u8 0, Value.int .u8 0, Value.int .u8 0, Value.int .u8 0, Value.int .u8 0, Value.int .u8 0, Value.int .u8 0, Value.int .u8 0, Value.int .u8 0, Value.int .u8 0, Value.int .u8 0, Value.int .u8 0, Value.int .u8 0, Value.int .u8 0, Value.int .u8 0, Value.int .u8 0, Value.int .u8 0, Value.int .u8 0, Value.int .u8 0, Value.int .u8 0, Value.int .u8 0, Value.int .u8 0, Value.int .u8 0, Value.int .u8 0, Value.int .u8 0, Value.int .u8 0, Value.int .u8 0, Value.int .u8 0, Value.int .u8 0, Value.int .u8 0, Value.int .u8 0, Value.int .u8 0, Value.int .u8 0, Value.int .u8 0, Value.int .u8 0, Value.slice none 0 0]) 67]) (He := He) (Wants.none rfl) rfl rfl Try.underlying23 mk47 rfl (by decide) rfl rfl (s := 5) (nn := i) (m := 1) (cs := flatC Es) (news := cellsC (⟨cm.1.k, cm.1.t, cm.1.f, cm.1.l, Aq, cm.1.B.length, cq, cm.1.B⟩ : CV)) hov rfl (fun w hs => lies_srcV (hs.has (⟨g5, 47, [Value.int .i64 cm.1.k, Value.int .i64 cm.1.t, Value.int .i64 cm.1.f, Value.int .i64 cm.1.l, Value.slice Aq cm.1.B.length cq], 5⟩) (by simp))) (by intro u hu; simp only [cellsC, List.mem_cons, List.not_mem_nil, or_false] at hu; rcases hu with rfl | rfl | rfl | rfl | rfl <;> rfl) (by unfold maxLen; omega) (by omega) (fun v1 H1 hv1 => ?_)
          have hv1f := hv1.fr
          obtain ⟨A9, c9, rfl, hc9, hd9⟩ := hv1.form
          refine TP.free (Wants.none rfl) rfl (fun _ => Gets.fieldAddr rfl Try.underlying25 rfl size23 rfl (off' := 66) (by first | rfl | omega)) ?_
          refine TP.last1 (Wants.none rfl) rfl rfl size23 rfl rfl rfl (i := 0) rfl rfl (by simp [] <;> omega) (cs' := [Value.int .i64 o_.1, Value.int .i64 n_.1] ++ ((List.replicate 32 (0 : Int)).map (Value.int .u8) ++ ((List.replicate 32 (0 : Int)).map (Value.int .u8) ++ ([Value.slice A9 (i + 1) c9])))) (set_right (a := 2) (i := 64) (rfl) (set_right (a := 32) (i := 32) (ints_len (by simp)) (set_right (a := 32) (i := 0) (ints_len (by simp)) (rfl)))) (H' := [⟨g3, 25, [Value.int .i64 o_.1, Value.int .i64 n_.1] ++ ((List.replicate 32 (0 : Int)).map (Value.int .u8) ++ ((List.replicate 32 (0 : Int)).map (Value.int .u8) ++ ([Value.slice A9 (i + 1) c9]))), 67⟩, ⟨g5, 47, [Value.int .i64 cm.1.k, Value.int .i64 cm.1.t, Value.int .i64 cm.1.f, Value.int .i64 cm.1.l, Value.slice Aq cm.1.B.length cq], 5⟩, ⟨g2, 67, [Value.slice A m c, Value.int .i64 (cm.2.k : Int), Value.int .i64 cm.2.co, Value.int .i64 cm.2.po], 4⟩, ⟨g1, 25, [Value.int .i64 0, Value.int .i64 0, Value.int .u8 0, Value.int .u8 0, Value.int .u8 0, Value.int .u8 0, Value.int .u8 0, Value.int .u8 0, Value.int .u8 0, Value.int .u8 0, Value.int .u8 0, Value.int .u8 0, Value.int .u8 0, Value.int .u8 0, Value.int .u8 0, Value.int .u8 0, Value.int .u8 0, Value.int .u8 0, Value.int .u8 0, Value.int .u8 0, Value.int .u8 0, Value.int .u8 0, Value.int .u8 0, Value.int .u8 0, Value.int .u8 0, Value.int .u8 0, Value.int .u8 0, Value.int .u8 0, Value.int .u8 0, Value.int .u8 0, Value.int .u8 0, Value.int .u8 0, Value.int .u8 0, Value.int .u8 0, Value.int .u8 0, Value.int .u8 0, Value.int .u8 0, Value.int .u8 0, Value.int .u8 0, Value.int .u8 0, Value.int .u8 0, Value.int .u8 0, Value.int .u8 0, Value.int .u8 0, Value.int .u8 0, Value.int .u8 0, Value.int .u8 0, Value.int .u8 0, Value.int .u8 0, Value.int .u8 0, Value.int .u8 0, Value.int .u8 0, Value.int .u8 0, Value.int .u8 0, Value.int .u8 0, Value.int .u8 0, Value.int .u8 0, Value.int .u8 0, Value.int .u8 0, Value.int .u8 0, Value.int .u8 0, Value.int .u8 0, Value.int .u8 0, Value.int .u8 0, Value.int .u8 0, Value.int .u8 0, Value.slice none 0 0], 67⟩] ++ H1) rfl ?_
          iterate 2 refine gx ?_
          refine TC.pr [0, 2, 5, 6, 8, 9, 10, 11] ?_
          iterate 2 refine gx ?_
          refine TL.gets (Wants.none rfl) rfl (Gets.add rfl rfl rfl (r := ((i : Int) + 1)) (w64 (by omega) (by omega))) ?_
          iterate 2 refine gx ?_
          have hst2 : (rIter B c_.2 (i + 1)).2 = cm.2 := by rw [rIter_succ_ok d2, hcm]
          exact TE.back (⟨i + 1, .slice A9 (i + 1) c9, H1, Es ++ [(⟨cm.1.k, cm.1.t, cm.1.f, cm.1.l, Aq, cm.1.B.length, cq, cm.1.B⟩ : CV)]⟩ : WD) (by show c_.1.toNat - (i + 1) < c_.1.toNat - i; omega) ⟨by show OwnS _ _ 5 (.slice A9 (i + 1) c9) (i + 1) (flatC (Es ++ [(⟨cm.1.k, cm.1.t, cm.1.f, cm.1.l, Aq, cm.1.B.length, cq, cm.1.B⟩ : CV)])) H1; rw [flatC_app, flatC_one]; exact hv1, by show (Es ++ [(⟨cm.1.k, cm.1.t, cm.1.f, cm.1.l, Aq, cm.1.B.length, cq, cm.1.B⟩ : CV)]).map cmC = (rIter B c_.2 (i + 1)).1; rw [rIter_succ_ok d2, List.map_append, hEs, hcm]; rfl, (fun q hq => by rcases List.mem_append.1 hq with hq | hq; exact hsg q hq; rw [List.mem_singleton.1 hq]; exact ⟨hgq, rfl⟩), by show ((i + 1 : Nat) : Int) ≤ c_.1; omega⟩ (Sub.cons (i := 2) rfl (Sub.cons (i := 5) rfl (Sub.cons (i := 6) rfl (Sub.slice (i := 0) rfl rfl (by first | omega | (dsimp only; omega) | rfl) (by first | omega | (dsimp only; omega) | rfl) (Sub.slice (i := 8) rfl rfl (by first | omega | (dsimp only; omega) | rfl) (by first | omega | (dsimp only; omega) | rfl) (Sub.slice (i := 9) rfl rfl (by first | omega | (dsimp only; omega) | rfl) (by first | omega | (dsimp only; omega) | rfl) (Sub.int (i := 10) rfl (by first | rfl | omega) (Sub.int (i := 11) rfl (by show (i : Int) + 1 = ((i + 1 : Nat) : Int); omega) (Sub.nil))))))))) (fun wz h => by show St _ ([⟨g3, 25, [Value.int .i64 o_.1, Value.int .i64 n_.1] ++ ((List.replicate 32 (0 : Int)).map (Value.int .u8) ++ ((List.replicate 32 (0 : Int)).map (Value.int .u8) ++ ([Value.slice A9 (i + 1) c9]))), 67⟩, ⟨g2, 67, [Value.slice A m c, Value.int .i64 ((rIter B c_.2 (i + 1)).2.k : Int), Value.int .i64 ((rIter B c_.2 (i + 1)).2.co), Value.int .i64 ((rIter B c_.2 (i + 1)).2.po)], 4⟩, ⟨g1, 25, [Value.int .i64 0, Value.int .i64 0, Value.int .u8 0, Value.int .u8 0, Value.int .u8 0, Value.int .u8 0, Value.int .u8 0, Value.int .u8 0, Value.int .u8 0, Value.int .u8 0, Value.int .u8 0, Value.int .u8 0, Value.int .u8 0, Value.int .u8 0, Value.int .u8 0, Value.int .u8 0, Value.int .u8 0, Value.int .u8 0, Value.int .u8 0, Value.int .u8 0, Value.int .u8 0, Value.int .u8 0, Value.int .u8 0, Value.int .u8 0, Value.int .u8 0, Value.int .u8 0, Value.int .u8 0, Value.int .u8 0, Value.int .u8 0, Value.int .u8 0, Value.int .u8 0, Value.int .u8 0, Value.int .u8 0, Value.int .u8 0, Value.int .u8 0, Value.int .u8 0, Value.int .u8 0, Value.int .u8 0, Value.int .u8 0, Value.int .u8 0, Value.int .u8 0, Value.int .u8 0, Value.int .u8 0, Value.int .u8 0, Value.int .u8 0, Value.int .u8 0, Value.int .u8 0, Value.int .u8 0, Value.int .u8 0, Value.int .u8 0, Value.int .u8 0, Value.int .u8 0, Value.int .u8 0, Value.int .u8 0, Value.int .u8 0, Value.int .u8 0, Value.int .u8 0, Value.int .u8 0, Value.int .u8 0, Value.int .u8 0, Value.int .u8 0, Value.int .u8 0, Value.int .u8 0, Value.int .u8 0, Value.int .u8 0, Value.int .u8 0, Value.slice none 0 0], 67⟩] ++ H1) wz; rw [hst2]; exact h.erase (i := 1) rfl hg5)
        · refine TL.gets (Wants.yes rfl rfl rfl) rfl (Gets.isFalse (Gets.eql rfl rfl rfl) d2) ?_
          iterate 3 refine gx ?_
          refine TC.pr [0, 2, 5, 6, 8, 9, 10, 11, 56] ?_
          refine TC.no rfl ?_
          iterate 4 refine gx ?_
          have hli : rIter B c_.2 i = l_ := by rw [← hl_, show c_.1.toNat = i + (c_.1.toNat - i) by omega]; exact (rIter_stop d2 _).symm
          exact TE.join (⟨i, v, He, Es⟩ : WD) ⟨hov, by rw [← hli]; exact hEs, hsg⟩ (Sub.cons (i := 2) rfl (Sub.cons (i := 5) rfl (Sub.cons (i := 6) rfl (Sub.slice (i := 0) rfl rfl (by first | omega | (dsimp only; omega) | rfl) (by first | omega | (dsimp only; omega) | rfl) (Sub.slice (i := 8) rfl rfl (by first | omega | (dsimp only; omega) | rfl) (by first | omega | (dsimp only; omega) | rfl) (Sub.slice (i := 9) rfl rfl (by first | omega | (dsimp only; omega) | rfl) (by first | omega | (dsimp only; omega) | rfl) (Sub.nil))))))) (fun w h => by rw [← hli]; exact h)
      · refine TL.gets (Wants.none rfl) rfl (Gets.isFalse (Gets.lss rfl rfl rfl) d1) ?_
        iterate 9 refine gx ?_
        refine TC.pr [0, 2, 5, 6, 8, 9, 10, 11, 56] ?_
        refine TC.no rfl ?_
        iterate 4 refine gx ?_
        have hli : rIter B c_.2 i = l_ := by rw [← hl_, show c_.1.toNat = i by omega]
        exact TE.join (⟨i, v, He, Es⟩ : WD) ⟨hov, by rw [← hli]; exact hEs, hsg⟩ (Sub.cons (i := 2) rfl (Sub.cons (i := 5) rfl (Sub.cons (i := 6) rfl (Sub.slice (i := 0) rfl rfl (by first | omega | (dsimp only; omega) | rfl) (by first | omega | (dsimp only; omega) | rfl) (Sub.slice (i := 8) rfl rfl (by first | omega | (dsimp only; omega) | rfl) (by first | omega | (dsimp only; omega) | rfl) (Sub.slice (i := 9) rfl rfl (by first | omega | (dsimp only; omega) | rfl) (by first | omega | (dsimp only; omega) | rfl) (Sub.nil))))))) (fun w h => by rw [← hli]; exact h)
    · obtain ⟨i, v, He, Es⟩ := z
      obtain ⟨hov, hEs, hsg⟩ := hz_
      dsimp only at hov hEs hsg ⊢
      have hril := rIter_ri hric_ c_.1.toNat
      rw [hl_] at hril
      have hkl : l_.2.k ≤ m := by have := hril.1; omega
      refine TC.seqJ (ι := RS) (fun q => [(2, .pointer (some ⟨g1, 0, none⟩)), (5, .pointer (some ⟨g2, 0, none⟩)), (6, .pointer (some ⟨g3, 0, none⟩)), (8, .slice Ax_ x_.1.length cx_), (9, .slice Ay_ y_.1.length cy_)]) (fun q => [⟨g3, 25, [Value.int .i64 o_.1, Value.int .i64 n_.1] ++ ((List.replicate 32 (0 : Int)).map (Value.int .u8) ++ ((List.replicate 32 (0 : Int)).map (Value.int .u8) ++ ([v]))), 67⟩, ⟨g2, 67, [Value.slice A m c, Value.int .i64 (q.k : Int), Value.int .i64 q.co, Value.int .i64 q.po], 4⟩, ⟨g1, 25, [Value.int .i64 0, Value.int .i64 0, Value.int .u8 0, Value.int .u8 0, Value.int .u8 0, Value.int .u8 0, Value.int .u8 0, Value.int .u8 0, Value.int .u8 0, Value.int .u8 0, Value.int .u8 0, Value.int .u8 0, Value.int .u8 0, Value.int .u8 0, Value.int .u8 0, Value.int .u8 0, Value.int .u8 0, Value.int .u8 0, Value.int .u8 0, Value.int .u8 0, Value.int .u8 0, Value.int .u8 0, Value.int .u8 0, Value.int .u8 0, Value.int .u8 0, Value.int .u8 0, Value.int .u8 0, Value.int .u8 0, Value.int .u8 0, Value.int .u8 0, Value.int .u8 0, Value.int .u8 0, Value.int .u8 0, Value.int .u8 0, Value.int .u8 0, Value.int .u8 0, Value.int .u8 0, Value.int .u8 0, Value.int .u8 0, Value.int .u8 0, Value.int .u8 0, Value.int .u8 0, Value.int .u8 0, Value.int .u8 0, Value.int .u8 0, Value.int .u8 0, Value.int .u8 0, Value.int .u8 0, Value.int .u8 0, Value.int .u8 0, Value.int .u8 0, Value.int .u8 0, Value.int .u8 0, Value.int .u8 0, Value.int .u8 0, Value.int .u8 0, Value.int .u8 0, Value.int .u8 0, Value.int .u8 0, Value.int .u8 0, Value.int .u8 0, Value.int .u8 0, Value.int .u8 0, Value.int .u8 0, Value.int .u8 0, Value.int .u8 0, Value.slice none 0 0], 67⟩] ++ He) (fun q => extraF B l_.2 = q) ?_ (fun q hq => ?_)
      · iterate 3 refine gx ?_
        refine TL.gets (Wants.none rfl) rfl (Gets.nilCheck rfl rfl) ?_
        iterate 2 refine gx ?_
        by_cases e1 : l_.2.co = 0
        · refine TL.gets (Wants.none rfl) rfl (Gets.isTrue (Gets.eql rfl rfl rfl) e1) ?_
          iterate 2 refine gx ?_
          refine TL.gets (Wants.yes rfl rfl rfl) rfl (Gets.nilCheck rfl rfl) ?_
          iterate 4 refine gx ?_
          by_cases e2 : (l_.2.k : Int) < (m : Int)
          · refine TL.gets (Wants.yes rfl rfl rfl) rfl (Gets.isTrue (Gets.lss rfl rfl rfl) e2) ?_
            iterate 3 refine gx ?_
            refine TC.pr [2, 5, 6, 8, 9, 79] ?_
            refine TC.yes rfl ?_
            iterate 3 refine gx ?_
            refine TL.gets (Wants.none rfl) rfl (Gets.nilCheck rfl rfl) ?_
            iterate 2 refine gx ?_
            refine TL.call (ι := Unit) (V := fun _ => .tuple #[]) (R := fun _ => True) (H' := fun _ => [⟨g3, 25, [Value.int .i64 o_.1, Value.int .i64 n_.1] ++ ((List.replicate 32 (0 : Int)).map (Value.int .u8) ++ ((List.replicate 32 (0 : Int)).map (Value.int .u8) ++ ([v]))), 67⟩, ⟨g2, 67, [Value.slice A m c, Value.int .i64 ((rFail l_.2 12 (l_.2.k : Int)).k : Int), Value.int .i64 ((rFail l_.2 12 (l_.2.k : Int)).co), Value.int .i64 ((rFail l_.2 12 (l_.2.k : Int)).po)], 4⟩, ⟨g1, 25, [Value.int .i64 0, Value.int .i64 0, Value.int .u8 0, Value.int .u8 0, Value.int .u8 0, Value.int .u8 0, Value.int .u8 0, Value.int .u8 0, Value.int .u8 0, Value.int .u8 0, Value.int .u8 0, Value.int .u8 0, Value.int .u8 0, Value.int .u8 0, Value.int .u8 0, Value.int .u8 0, Value.int .u8 0, Value.int .u8 0, Value.int .u8 0, Value.int .u8 0, Value.int .u8 0, Value.int .u8 0, Value.int .u8 0, Value.int .u8 0, Value.int .u8 0, Value.int .u8 0, Value.int .u8 0, Value.int .u8 0, Value.int .u8 0, Value.int .u8 0, Value.int .u8 0, Value.int .u8 0, Value.int .u8 0, Value.int .u8 0, Value.int .u8 0, Value.int .u8 0, Value.int .u8 0, Value.int .u8 0, Value.int .u8 0, Value.int .u8 0, Value.int .u8 0, Value.int .u8 0, Value.int .u8 0, Value.int .u8 0, Value.int .u8 0, Value.int .u8 0, Value.int .u8 0, Value.int .u8 0, Value.int .u8 0, Value.int .u8 0, Value.int .u8 0, Value.int .u8 0, Value.int .u8 0, Value.int .u8 0, Value.int .u8 0, Value.int .u8 0, Value.int .u8 0, Value.int .u8 0, Value.int .u8 0, Value.int .u8 0, Value.int .u8 0, Value.int .u8 0, Value.int .u8 0, Value.int .u8 0, Value.int .u8 0, Value.int .u8 0, Value.slice none 0 0], 67⟩] ++ He) (Wants.none rfl) rfl enters31 rfl rfl (fun w hs => (rfail_s g2 A m c l_.2 12 (l_.2.k : Int) (by decide) w (hs.has (⟨g2, 67, [Value.slice A m c, Value.int .i64 (l_.2.k : Int), Value.int .i64 l_.2.co, Value.int .i64 l_.2.po], 4⟩) (by simp))).mono fun e w' ⟨he, hw⟩ => ⟨(), he, trivial, St.turn (i := 1) (e := ⟨g2, 67, [Value.slice A m c, Value.int .i64 ((rFail l_.2 12 (l_.2.k : Int)).k : Int), Value.int .i64 ((rFail l_.2 12 (l_.2.k : Int)).co), Value.int .i64 ((rFail l_.2 12 (l_.2.k : Int)).po)], 4⟩) hs rfl rfl hw⟩) (fun _ _ => ?_)
            have hz2 : extraF B l_.2 = rFail l_.2 12 (l_.2.k : Int) := extraF_T e1 (by omega)
            generalize hgz2 : rFail l_.2 12 (l_.2.k : Int) = z2 at hz2 ⊢
            refine gx ?_
            exact TE.join z2 hz2 (Sub.cons (i := 2) rfl (Sub.cons (i := 5) rfl (Sub.cons (i := 6) rfl (Sub.slice (i := 8) rfl rfl (by first | omega | (dsimp only; omega) | rfl) (by first | omega | (dsimp only; omega) | rfl) (Sub.slice (i := 9) rfl rfl (by first | omega | (dsimp only; omega) | rfl) (by first | omega | (dsimp only; omega) | rfl) (Sub.nil)))))) (fun w h => h)
          · have hz2 : extraF B l_.2 = l_.2 := extraF_F (fun h => e2 (by have := h.2; omega))
            refine TL.gets (Wants.yes rfl rfl rfl) rfl (Gets.isFalse (Gets.lss rfl rfl rfl) e2) ?_
            iterate 3 refine gx ?_
            refine TC.pr [2, 5, 6, 8, 9, 79] ?_
            refine TC.no rfl ?_
            refine gx ?_
            exact TE.join l_.2 hz2 (Sub.cons (i := 2) rfl (Sub.cons (i := 5) rfl (Sub.cons (i := 6) rfl (Sub.slice (i := 8) rfl rfl (by first | omega | (dsimp only; omega) | rfl) (by first | omega | (dsimp only; omega) | rfl) (Sub.slice (i := 9) rfl rfl (by first | omega | (dsimp only; omega) | rfl) (by first | omega | (dsimp only; omega) | rfl) (Sub.nil)))))) (fun w h => h)
        · have hz2 : extraF B l_.2 = l_.2 := extraF_F (fun h => e1 h.1)
          refine TL.gets (Wants.none rfl) rfl (Gets.isFalse (Gets.eql rfl rfl rfl) e1) ?_
          iterate 11 refine gx ?_
          refine TC.pr [2, 5, 6, 8, 9, 79] ?_
          refine TC.no rfl ?_
          refine gx ?_
          exact TE.join l_.2 hz2 (Sub.cons (i := 2) rfl (Sub.cons (i := 5) rfl (Sub.cons (i := 6) rfl (Sub.slice (i := 8) rfl rfl (by first | omega | (dsimp only; omega) | rfl) (by first | omega | (dsimp only; omega) | rfl) (Sub.slice (i := 9) rfl rfl (by first | omega | (dsimp only; omega) | rfl) (by first | omega | (dsimp only; omega) | rfl) (Sub.nil)))))) (fun w h => h)
      · have hdec : rDec B = ⟨o_.1, n_.1, x_.1, y_.1, l_.1, q⟩ := by unfold rDec; dsimp only; rw [hE, hv_, hz, ho_, hn_, hx_, hy_, hc_, hl_, hq]
        iterate 4 refine gx ?_
        refine TL.gets (Wants.none rfl) rfl (Gets.nilCheck rfl rfl) ?_
        iterate 2 refine gx ?_
        by_cases f1 : q.co ≠ 0
        · refine TL.gets (Wants.none rfl) rfl (Gets.isTrue (Gets.neq rfl rfl rfl) f1) ?_
          iterate 2 refine gx ?_
          refine TC.pr [2, 5, 6, 8, 9, 90] ?_
          refine TC.yes rfl ?_
          refine gx ?_
          refine TC.heap (H' := [Ent.mk g3 25 ([Value.int .i64 o_.1, Value.int .i64 n_.1] ++ ((List.replicate 32 (0 : Int)).map (Value.int .u8) ++ ((List.replicate 32 (0 : Int)).map (Value.int .u8) ++ ([v])))) 67, Ent.mk g2 67 ([Value.slice A m c, Value.int .i64 (q.k : Int), Value.int .i64 q.co, Value.int .i64 q.po]) 4, Ent.mk g1 25 ([Value.int .i64 0, Value.int .i64 0, Value.int .u8 0, Value.int .u8 0, Value.int .u8 0, Value.int .u8 0, Value.int .u8 0, Value.int .u8 0, Value.int .u8 0, Value.int .u8 0, Value.int .u8 0, Value.int .u8 0, Value.int .u8 0, Value.int .u8 0, Value.int .u8 0, Value.int .u8 0, Value.int .u8 0, Value.int .u8 0, Value.int .u8 0, Value.int .u8 0, Value.int .u8 0, Value.int .u8 0, Value.int .u8 0, Value.int .u8 0, Value.int .u8 0, Value.int .u8 0, Value.int .u8 0, Value.int .u8 0, Value.int .u8 0, Value.int .u8 0, Value.int .u8 0, Value.int .u8 0, Value.int .u8 0, Value.int .u8 0, Value.int .u8 0, Value.int .u8 0, Value.int .u8 0, Value.int .u8 0, Value.int .u8 0, Value.int .u8 0, Value.int .u8 0, Value.int .u8 0, Value.int .u8 0, Value.int .u8 0, Value.int .u8 0, Value.int .u8 0, Value.int .u8 0, Value.int .u8 0, Value.int .u8 0, Value.int .u8 0, Value.int .u8 0, Value.int .u8 0, Value.int .u8 0, Value.int .u8 0, Value.int .u8 0, Value.int .u8 0, Value.int .u8 0, Value.int .u8 0, Value.int .u8 0, Value.int .u8 0, Value.int .u8 0, Value.int .u8 0, Value.int .u8 0, Value.int .u8 0, Value.int .u8 0, Value.int .u8 0, Value.slice none 0 0]) 67]) (fun w h => St.left h hov.new) ?_
          refine TC.mixS [⟨g3, 25, [Value.int .i64 o_.1, Value.int .i64 n_.1] ++ ((List.replicate 32 (0 : Int)).map (Value.int .u8) ++ ((List.replicate 32 (0 : Int)).map (Value.int .u8) ++ ([v]))), 67⟩, ⟨g2, 67, [Value.slice A m c, Value.int .i64 (q.k : Int), Value.int .i64 q.co, Value.int .i64 q.po], 4⟩] [⟨g1, 25, [Value.int .i64 0, Value.int .i64 0, Value.int .u8 0, Value.int .u8 0, Value.int .u8 0, Value.int .u8 0, Value.int .u8 0, Value.int .u8 0, Value.int .u8 0, Value.int .u8 0, Value.int .u8 0, Value.int .u8 0, Value.int .u8 0, Value.int .u8 0, Value.int .u8 0, Value.int .u8 0, Value.int .u8 0, Value.int .u8 0, Value.int .u8 0, Value.int .u8 0, Value.int .u8 0, Value.int .u8 0, Value.int .u8 0, Value.int .u8 0, Value.int .u8 0, Value.int .u8 0, Value.int .u8 0, Value.int .u8 0, Value.int .u8 0, Value.int .u8 0, Value.int .u8 0, Value.int .u8 0, Value.int .u8 0, Value.int .u8 0, Value.int .u8 0, Value.int .u8 0, Value.int .u8 0, Value.int .u8 0, Value.int .u8 0, Value.int .u8 0, Value.int .u8 0, Value.int .u8 0, Value.int .u8 0, Value.int .u8 0, Value.int .u8 0, Value.int .u8 0, Value.int .u8 0, Value.int .u8 0, Value.int .u8 0, Value.int .u8 0, Value.int .u8 0, Value.int .u8 0, Value.int .u8 0, Value.int .u8 0, Value.int .u8 0, Value.int .u8 0, Value.int .u8 0, Value.int .u8 0, Value.int .u8 0, Value.int .u8 0, Value.int .u8 0, Value.int .u8 0, Value.int .u8 0, Value.int .u8 0, Value.int .u8 0, Value.int .u8 0, Value.slice none 0 0], 67⟩] (by kernel_rfl) [0, 0, 0, 0, 1, 0, 0, 0, 1, 4, 0, 0] [0, 1, 2, 3, 4, 5, 6, 7, 8, 9, 10, 11] [fun _ _ => True, fun _ _ => True, fun _ _ => True, fun _ _ => True, fun _ _ => True, fun _ _ => True, fun _ _ => True, fun _ _ => True, fun _ _ => True, fun _ _ => True, fun _ _ => True, fun _ _ => True] (by kernel_rfl) (by kernel_rfl) (perm_pick (p := [0, 1, 2]) (by kernel_rfl) rfl) (Fresh.cons (by assumption) Fresh.nil) ?_
          refine TR.free (Wants.none rfl) rfl (fun _ => Gets.build rfl (vs := []) rfl (fun w => by first | rfl | kernel_rfl) (v := .agg ([Value.int .i64 0, Value.int .i64 0, Value.int .u8 0, Value.int .u8 0, Value.int .u8 0, Value.int .u8 0, Value.int .u8 0, Value.int .u8 0, Value.int .u8 0, Value.int .u8 0, Value.int .u8 0, Value.int .u8 0, Value.int .u8 0, Value.int .u8 0, Value.int .u8 0, Value.int .u8 0, Value.int .u8 0, Value.int .u8 0, Value.int .u8 0, Value.int .u8 0, Value.int .u8 0, Value.int .u8 0, Value.int .u8 0, Value.int .u8 0, Value.int .u8 0, Value.int .u8 0, Value.int .u8 0, Value.int .u8 0, Value.int .u8 0, Value.int .u8 0, Value.int .u8 0, Value.int .u8 0, Value.int .u8 0, Value.int .u8 0, Value.int .u8 0, Value.int .u8 0, Value.int .u8 0, Value.int .u8 0, Value.int .u8 0, Value.int .u8 0, Value.int .u8 0, Value.int .u8 0, Value.int .u8 0, Value.int .u8 0, Value.int .u8 0, Value.int .u8 0, Value.int .u8 0, Value.int .u8 0, Value.int .u8 0, Value.int .u8 0, Value.int .u8 0, Value.int .u8 0, Value.int .u8 0, Value.int .u8 0, Value.int .u8 0, Value.int .u8 0, Value.int .u8 0, Value.int .u8 0, Value.int .u8 0, Value.int .u8 0, Value.int .u8 0, Value.int .u8 0, Value.int .u8 0, Value.int .u8 0, Value.int .u8 0, Value.int .u8 0, Value.slice none 0 0]).toArray)) ?_
          refine gx ?_
          refine TR.free (Wants.none rfl) rfl (fun _ => Gets.nilCheck rfl rfl) ?_
          iterate 3 refine gx ?_
          refine TR.free (Wants.none rfl) rfl (fun _ => Gets.nilCheck rfl rfl) ?_
          iterate 2 refine gx ?_
          refine TR.storeW (Wants.none rfl) rfl rfl size25 rfl (vs := [Value.int .i64 0, Value.int .i64 0, Value.int .u8 0, Value.int .u8 0, Value.int .u8 0, Value.int .u8 0, Value.int .u8 0, Value.int .u8 0, Value.int .u8 0, Value.int .u8 0, Value.int .u8 0, Value.int .u8 0, Value.int .u8 0, Value.int .u8 0, Value.int .u8 0, Value.int .u8 0, Value.int .u8 0, Value.int .u8 0, Value.int .u8 0, Value.int .u8 0, Value.int .u8 0, Value.int .u8 0, Value.int .u8 0, Value.int .u8 0, Value.int .u8 0, Value.int .u8 0, Value.int .u8 0, Value.int .u8 0, Value.int .u8 0, Value.int .u8 0, Value.int .u8 0, Value.int .u8 0, Value.int .u8 0, Value.int .u8 0, Value.int .u8 0, Value.int .u8 0, Value.int .u8 0, Value.int .u8 0, Value.int .u8 0, Value.int .u8 0, Value.int .u8 0, Value.int .u8 0, Value.int .u8 0, Value.int .u8 0, Value.int .u8 0, Value.int .u8 0, Value.int .u8 0, Value.int .u8 0, Value.int .u8 0, Value.int .u8 0, Value.int .u8 0, Value.int .u8 0, Value.int .u8 0, Value.int .u8 0, Value.int .u8 0, Value.int .u8 0, Value.int .u8 0, Value.int .u8 0, Value.int .u8 0, Value.int .u8 0, Value.int .u8 0, Value.int .u8 0, Value.int .u8 0, Value.int .u8 0, Value.int .u8 0, Value.int .u8 0, Value.slice none 0 0]) rfl rfl (by simp [Value.oneCell']) (i := 0) (ent := ⟨g1, 25, [Value.int .i64 0, Value.int .i64 0, Value.int .u8 0, Value.int .u8 0, Value.int .u8 0, Value.int .u8 0, Value.int .u8 0, Value.int .u8 0, Value.int .u8 0, Value.int .u8 0, Value.int .u8 0, Value.int .u8 0, Value.int .u8 0, Value.int .u8 0, Value.int .u8 0, Value.int .u8 0, Value.int .u8 0, Value.int .u8 0, Value.int .u8 0, Value.int .u8 0, Value.int .u8 0, Value.int .u8 0, Value.int .u8 0, Value.int .u8 0, Value.int .u8 0, Value.int .u8 0, Value.int .u8 0, Value.int .u8 0, Value.int .u8 0, Value.int .u8 0, Value.int .u8 0, Value.int .u8 0, Value.int .u8 0, Value.int .u8 0, Value.int .u8 0, Value.int .u8 0, Value.int .u8 0, Value.int .u8 0, Value.int .u8 0, Value.int .u8 0, Value.int .u8 0, Value.int .u8 0, Value.int .u8 0, Value.int .u8 0, Value.int .u8 0, Value.int .u8 0, Value.int .u8 0, Value.int .u8 0, Value.int .u8 0, Value.int .u8 0, Value.int .u8 0, Value.int .u8 0, Value.int .u8 0, Value.int .u8 0, Value.int .u8 0, Value.int .u8 0, Value.int .u8 0, Value.int .u8 0, Value.int .u8 0, Value.int .u8 0, Value.int .u8 0, Value.int .u8 0, Value.int .u8 0, Value.int .u8 0, Value.int .u8 0, Value.int .u8 0, Value.slice none 0 0], 67⟩) rfl rfl rfl (D' := [⟨g1, 25, [Value.int .i64 0, Value.int .i64 0, Value.int .u8 0, Value.int .u8 0, Value.int .u8 0, Value.int .u8 0, Value.int .u8 0, Value.int .u8 0, Value.int .u8 0, Value.int .u8 0, Value.int .u8 0, Value.int .u8 0, Value.int .u8 0, Value.int .u8 0, Value.int .u8 0, Value.int .u8 0, Value.int .u8 0, Value.int .u8 0, Value.int .u8 0, Value.int .u8 0, Value.int .u8 0, Value.int .u8 0, Value.int .u8 0, Value.int .u8 0, Value.int .u8 0, Value.int .u8 0, Value.int .u8 0, Value.int .u8 0, Value.int .u8 0, Value.int .u8 0, Value.int .u8 0, Value.int .u8 0, Value.int .u8 0, Value.int .u8 0, Value.int .u8 0, Value.int .u8 0, Value.int .u8 0, Value.int .u8 0, Value.int .u8 0, Value.int .u8 0, Value.int .u8 0, Value.int .u8 0, Value.int .u8 0, Value.int .u8 0, Value.int .u8 0, Value.int .u8 0, Value.int .u8 0, Value.int .u8 0, Value.int .u8 0, Value.int .u8 0, Value.int .u8 0, Value.int .u8 0, Value.int .u8 0, Value.int .u8 0, Value.int .u8 0, Value.int .u8 0, Value.int .u8 0, Value.int .u8 0, Value.int .u8 0, Value.int .u8 0, Value.int .u8 0, Value.int .u8 0, Value.int .u8 0, Value.int .u8 0, Value.int .u8 0, Value.int .u8 0, Value.slice none 0 0], 67⟩]) rfl (Fresh.cons (by assumption) Fresh.nil) ?_
          iterate 6 refine gx ?_
          exact TE.ret3C rfl agg25 size25 rfl rfl rfl (vs := [Value.int .i64 0, Value.int .i64 0, Value.int .u8 0, Value.int .u8 0, Value.int .u8 0, Value.int .u8 0, Value.int .u8 0, Value.int .u8 0, Value.int .u8 0, Value.int .u8 0, Value.int .u8 0, Value.int .u8 0, Value.int .u8 0, Value.int .u8 0, Value.int .u8 0, Value.int .u8 0, Value.int .u8 0, Value.int .u8 0, Value.int .u8 0, Value.int .u8 0, Value.int .u8 0, Value.int .u8 0, Value.int .u8 0, Value.int .u8 0, Value.int .u8 0, Value.int .u8 0, Value.int .u8 0, Value.int .u8 0, Value.int .u8 0, Value.int .u8 0, Value.int .u8 0, Value.int .u8 0, Value.int .u8 0, Value.int .u8 0, Value.int .u8 0, Value.int .u8 0, Value.int .u8 0, Value.int .u8 0, Value.int .u8 0, Value.int .u8 0, Value.int .u8 0, Value.int .u8 0, Value.int .u8 0, Value.int .u8 0, Value.int .u8 0, Value.int .u8 0, Value.int .u8 0, Value.int .u8 0, Value.int .u8 0, Value.int .u8 0, Value.int .u8 0, Value.int .u8 0, Value.int .u8 0, Value.int .u8 0, Value.int .u8 0, Value.int .u8 0, Value.int .u8 0, Value.int .u8 0, Value.int .u8 0, Value.int .u8 0, Value.int .u8 0, Value.int .u8 0, Value.int .u8 0, Value.int .u8 0, Value.int .u8 0, Value.int .u8 0, Value.slice none 0 0]) (by simp []) (Row.all (i := 2) (ent := ⟨g1, 25, [Value.int .i64 0, Value.int .i64 0, Value.int .u8 0, Value.int .u8 0, Value.int .u8 0, Value.int .u8 0, Value.int .u8 0, Value.int .u8 0, Value.int .u8 0, Value.int .u8 0, Value.int .u8 0, Value.int .u8 0, Value.int .u8 0, Value.int .u8 0, Value.int .u8 0, Value.int .u8 0, Value.int .u8 0, Value.int .u8 0, Value.int .u8 0, Value.int .u8 0, Value.int .u8 0, Value.int .u8 0, Value.int .u8 0, Value.int .u8 0, Value.int .u8 0, Value.int .u8 0, Value.int .u8 0, Value.int .u8 0, Value.int .u8 0, Value.int .u8 0, Value.int .u8 0, Value.int .u8 0, Value.int .u8 0, Value.int .u8 0, Value.int .u8 0, Value.int .u8 0, Value.int .u8 0, Value.int .u8 0, Value.int .u8 0, Value.int .u8 0, Value.int .u8 0, Value.int .u8 0, Value.int .u8 0, Value.int .u8 0, Value.int .u8 0, Value.int .u8 0, Value.int .u8 0, Value.int .u8 0, Value.int .u8 0, Value.int .u8 0, Value.int .u8 0, Value.int .u8 0, Value.int .u8 0, Value.int .u8 0, Value.int .u8 0, Value.int .u8 0, Value.int .u8 0, Value.int .u8 0, Value.int .u8 0, Value.int .u8 0, Value.int .u8 0, Value.int .u8 0, Value.int .u8 0, Value.int .u8 0, Value.int .u8 0, Value.int .u8 0, Value.slice none 0 0], 67⟩) rfl rfl rfl) (fun w hs => .inl ⟨by rw [hdec]; exact f1, by rw [hdec], (((hs.drop (by assumption)).drop (by assumption)).drop (by assumption))⟩)
        · have hq0 : q.co = 0 := Decidable.not_not.1 f1
          have hbk := rDec_back hBB (by rw [hdec]; exact hq0)
          rw [hdec] at hbk
          have hx32 : x_.1.length = 32 := hbk.2.2.1
          have hy32 : y_.1.length = 32 := hbk.2.2.2.1
          refine TL.gets (Wants.none rfl) rfl (Gets.isFalse (Gets.neq rfl rfl rfl) f1) ?_
          iterate 2 refine gx ?_
          refine TC.pr [2, 5, 6, 8, 9, 90] ?_
          refine TC.no rfl ?_
          iterate 9 refine gx ?_
          refine TC.loop (ι := WE) (fun x1 => [(2, .pointer (some ⟨g1, 0, none⟩)), (6, .pointer (some ⟨g3, 0, none⟩)), (8, .slice Ax_ x_.1.length cx_), (9, .slice Ay_ y_.1.length cy_), (12, .int .i64 (x1.i : Int))]) (fun x1 => [⟨g3, 25, [Value.int .i64 o_.1, Value.int .i64 n_.1] ++ (x1.W.map (Value.int .u8) ++ (x1.V.map (Value.int .u8) ++ ([v]))), 67⟩, ⟨g2, 67, [Value.slice A m c, Value.int .i64 (q.k : Int), Value.int .i64 q.co, Value.int .i64 q.po], 4⟩, ⟨g1, 25, [Value.int .i64 0, Value.int .i64 0, Value.int .u8 0, Value.int .u8 0, Value.int .u8 0, Value.int .u8 0, Value.int .u8 0, Value.int .u8 0, Value.int .u8 0, Value.int .u8 0, Value.int .u8 0, Value.int .u8 0, Value.int .u8 0, Value.int .u8 0, Value.int .u8 0, Value.int .u8 0, Value.int .u8 0, Value.int .u8 0, Value.int .u8 0, Value.int .u8 0, Value.int .u8 0, Value.int .u8 0, Value.int .u8 0, Value.int .u8 0, Value.int .u8 0, Value.int .u8 0, Value.int .u8 0, Value.int .u8 0, Value.int .u8 0, Value.int .u8 0, Value.int .u8 0, Value.int .u8 0, Value.int .u8 0, Value.int .u8 0, Value.int .u8 0, Value.int .u8 0, Value.int .u8 0, Value.int .u8 0, Value.int .u8 0, Value.int .u8 0, Value.int .u8 0, Value.int .u8 0, Value.int .u8 0, Value.int .u8 0, Value.int .u8 0, Value.int .u8 0, Value.int .u8 0, Value.int .u8 0, Value.int .u8 0, Value.int .u8 0, Value.int .u8 0, Value.int .u8 0, Value.int .u8 0, Value.int .u8 0, Value.int .u8 0, Value.int .u8 0, Value.int .u8 0, Value.int .u8 0, Value.int .u8 0, Value.int .u8 0, Value.int .u8 0, Value.int .u8 0, Value.int .u8 0, Value.int .u8 0, Value.int .u8 0, Value.int .u8 0, Value.slice none 0 0], 67⟩] ++ He) (fun x1 => 32 - x1.i) (fun x1 => x1.i ≤ 32 ∧ x1.W.length = 32 ∧ x1.V.length = 32 ∧ (∀ j, j < x1.i → x1.W.getD j 0 = x_.1.getD j 0) ∧ (∀ j, j < x1.i → x1.V.getD j 0 = y_.1.getD j 0)) (⟨0, (List.replicate 32 (0 : Int)), (List.replicate 32 (0 : Int))⟩ : WE) ⟨Nat.zero_le _, by simp, by simp, fun j hj => absurd hj (Nat.not_lt_zero j), fun j hj => absurd hj (Nat.not_lt_zero j)⟩ (Sub.cons (i := 2) rfl (Sub.cons (i := 6) rfl (Sub.slice (i := 8) rfl rfl (by first | omega | (dsimp only; omega) | rfl) (by first | omega | (dsimp only; omega) | rfl) (Sub.slice (i := 9) rfl rfl (by first | omega | (dsimp only; omega) | rfl) (by first | omega | (dsimp only; omega) | rfl) (Sub.int (i := 12) rfl rfl (Sub.nil)))))) (fun w h => h) (fun x1 hC1 => ?_)
          obtain ⟨i2, W, V⟩ := x1
          obtain ⟨hi2, hW, hV, hWx, hVy⟩ := hC1
          dsimp only at hi2 hW hV hWx hVy ⊢
          iterate 7 refine gx ?_
          refine TC.split rfl (fun hq4 => ?_) (fun hq4 => ?_)
          · obtain ⟨bx, ox, hAx, hbx, hbXx, hrx⟩ := (hgx_.src hXw hmc).2.resolve_left (by omega)
            subst hAx
            obtain ⟨by_, oy, hAy, hby, hbXy, hry⟩ := (hgy_.src hXw hmc).2.resolve_left (by omega)
            subst hAy
            iterate 9 refine gx ?_
            refine TL.gets (Wants.none rfl) rfl (Gets.idxSlice rfl Try.underlying28 size5 rfl rfl (i := i2) (by omega) (by omega) (off' := (ox + i2)) (by omega)) ?_
            refine TL.gets (Wants.none rfl) rfl (Gets.load1 rfl agg5 rfl (At.rowI hrx (i := i2) (by omega) (by omega) hbx (ne_app (ne_cons (by show g3 ≠ bx; omega) (ne_cons (by show g2 ≠ bx; omega) (ne_cons (by show g1 ≠ bx; omega) ne_nil))) (hov.fr.ne hbx)))) ?_
            refine gx ?_
            refine TL.gets (Wants.none rfl) rfl (Gets.idxArray rfl Try.underlying22 size5 rfl rfl (i := i2) (by omega) (by omega) (off' := (i2 + 2)) (by omega)) ?_
            refine TL.store1 (Wants.none rfl) rfl rfl size5 rfl rfl rfl (i := 0) rfl rfl (by simp [hW, hV] <;> omega) (cs' := [Value.int .i64 o_.1, Value.int .i64 n_.1] ++ ((W.set i2 (x_.1.getD i2 0)).map (Value.int .u8) ++ (V.map (Value.int .u8) ++ ([v])))) (by rw [show (i2 + 2) = (2 + i2) from by omega]; exact set_right (a := 2) (i := i2) (rfl) (set_left (A := W.map (Value.int .u8)) (by simp [hW]; omega) (ints_set))) (H' := [⟨g3, 25, [Value.int .i64 o_.1, Value.int .i64 n_.1] ++ ((W.set i2 (x_.1.getD i2 0)).map (Value.int .u8) ++ (V.map (Value.int .u8) ++ ([v]))), 67⟩, ⟨g2, 67, [Value.slice A m c, Value.int .i64 (q.k : Int), Value.int .i64 q.co, Value.int .i64 q.po], 4⟩, ⟨g1, 25, [Value.int .i64 0, Value.int .i64 0, Value.int .u8 0, Value.int .u8 0, Value.int .u8 0, Value.int .u8 0, Value.int .u8 0, Value.int .u8 0, Value.int .u8 0, Value.int .u8 0, Value.int .u8 0, Value.int .u8 0, Value.int .u8 0, Value.int .u8 0, Value.int .u8 0, Value.int .u8 0, Value.int .u8 0, Value.int .u8 0, Value.int .u8 0, Value.int .u8 0, Value.int .u8 0, Value.int .u8 0, Value.int .u8 0, Value.int .u8 0, Value.int .u8 0, Value.int .u8 0, Value.int .u8 0, Value.int .u8 0, Value.int .u8 0, Value.int .u8 0, Value.int .u8 0, Value.int .u8 0, Value.int .u8 0, Value.int .u8 0, Value.int .u8 0, Value.int .u8 0, Value.int .u8 0, Value.int .u8 0, Value.int .u8 0, Value.int .u8 0, Value.int .u8 0, Value.int .u8 0, Value.int .u8 0, Value.int .u8 0, Value.int .u8 0, Value.int .u8 0, Value.int .u8 0, Value.int .u8 0, Value.int .u8 0, Value.int .u8 0, Value.int .u8 0, Value.int .u8 0, Value.int .u8 0, Value.int .u8 0, Value.int .u8 0, Value.int .u8 0, Value.int .u8 0, Value.int .u8 0, Value.int .u8 0, Value.int .u8 0, Value.int .u8 0, Value.int .u8 0, Value.int .u8 0, Value.int .u8 0, Value.int .u8 0, Value.int .u8 0, Value.slice none 0 0], 67⟩] ++ He) rfl ?_
            iterate 2 refine gx ?_
            refine TC.pr [2, 6, 8, 9, 12] ?_
            iterate 4 refine gx ?_
            refine TL.gets (Wants.none rfl) rfl (Gets.idxSlice rfl Try.underlying28 size5 rfl rfl (i := i2) (by omega) (by omega) (off' := (oy + i2)) (by omega)) ?_
            refine TL.gets (Wants.none rfl) rfl (Gets.load1 rfl agg5 rfl (At.rowI hry (i := i2) (by omega) (by omega) hby (ne_app (ne_cons (by show g3 ≠ by_; omega) (ne_cons (by show g2 ≠ by_; omega) (ne_cons (by show g1 ≠ by_; omega) ne_nil))) (hov.fr.ne hby)))) ?_
            refine gx ?_
            refine TL.gets (Wants.none rfl) rfl (Gets.idxArray rfl Try.underlying22 size5 rfl rfl (i := i2) (by omega) (by omega) (off' := (i2 + 34)) (by omega)) ?_
            refine TL.store1 (Wants.none rfl) rfl rfl size5 rfl rfl rfl (i := 0) rfl rfl (by simp [hW, hV] <;> omega) (cs' := [Value.int .i64 o_.1, Value.int .i64 n_.1] ++ ((W.set i2 (x_.1.getD i2 0)).map (Value.int .u8) ++ ((V.set i2 (y_.1.getD i2 0)).map (Value.int .u8) ++ ([v])))) (by rw [show (i2 + 34) = (2 + (32 + i2)) from by omega]; exact set_right (a := 2) (i := (32 + i2)) (rfl) (set_right (a := 32) (i := i2) (ints_len ((List.length_set ..).trans hW)) (set_left (A := V.map (Value.int .u8)) (by simp [hV]; omega) (ints_set)))) (H' := [⟨g3, 25, [Value.int .i64 o_.1, Value.int .i64 n_.1] ++ ((W.set i2 (x_.1.getD i2 0)).map (Value.int .u8) ++ ((V.set i2 (y_.1.getD i2 0)).map (Value.int .u8) ++ ([v]))), 67⟩, ⟨g2, 67, [Value.slice A m c, Value.int .i64 (q.k : Int), Value.int .i64 q.co, Value.int .i64 q.po], 4⟩, ⟨g1, 25, [Value.int .i64 0, Value.int .i64 0, Value.int .u8 0, Value.int .u8 0, Value.int .u8 0, Value.int .u8 0, Value.int .u8 0, Value.int .u8 0, Value.int .u8 0, Value.int .u8 0, Value.int .u8 0, Value.int .u8 0, Value.int .u8 0, Value.int .u8 0, Value.int .u8 0, Value.int .u8 0, Value.int .u8 0, Value.int .u8 0, Value.int .u8 0, Value.int .u8 0, Value.int .u8 0, Value.int .u8 0, Value.int .u8 0, Value.int .u8 0, Value.int .u8 0, Value.int .u8 0, Value.int .u8 0, Value.int .u8 0, Value.int .u8 0, Value.int .u8 0, Value.int .u8 0, Value.int .u8 0, Value.int .u8 0, Value.int .u8 0, Value.int .u8 0, Value.int .u8 0, Value.int .u8 0, Value.int .u8 0, Value.int .u8 0, Value.int .u8 0, Value.int .u8 0, Value.int .u8 0, Value.int .u8 0, Value.int .u8 0, Value.int .u8 0, Value.int .u8 0, Value.int .u8 0, Value.int .u8 0, Value.int .u8 0, Value.int .u8 0, Value.int .u8 0, Value.int .u8 0, Value.int .u8 0, Value.int .u8 0, Value.int .u8 0, Value.int .u8 0, Value.int .u8 0, Value.int .u8 0, Value.int .u8 0, Value.int .u8 0, Value.int .u8 0, Value.int .u8 0, Value.int .u8 0, Value.int .u8 0, Value.int .u8 0, Value.int .u8 0, Value.slice none 0 0], 67⟩] ++ He) rfl ?_
            iterate 3 refine gx ?_
            refine TC.pr [2, 6, 8, 9, 12] ?_
            iterate 2 refine gx ?_
            refine TL.gets (Wants.none rfl) rfl (Gets.add rfl rfl rfl (r := ((i2 : Int) + 1)) (w64 (by omega) (by omega))) ?_
            iterate 2 refine gx ?_
            exact TE.back (⟨i2 + 1, (W.set i2 (x_.1.getD i2 0)), (V.set i2 (y_.1.getD i2 0))⟩ : WE) (by show 32 - (i2 + 1) < 32 - i2; omega) ⟨by show i2 + 1 ≤ 32; omega, (List.length_set ..).trans hW, (List.length_set ..).trans hV, set_copy hWx (by omega), set_copy hVy (by omega)⟩ (Sub.cons (i := 2) rfl (Sub.cons (i := 6) rfl (Sub.slice (i := 8) rfl (by first | rfl | (congr 2; omega)) (by first | omega | (dsimp only; omega) | rfl) (by first | omega | (dsimp only; omega) | rfl) (Sub.slice (i := 9) rfl (by first | rfl | (congr 2; omega)) (by first | omega | (dsimp only; omega) | rfl) (by first | omega | (dsimp only; omega) | rfl) (Sub.int (i := 12) rfl (by show (i2 : Int) + 1 = ((i2 + 1 : Nat) : Int); omega) (Sub.nil)))))) (fun w h => h)
          · obtain rfl : 32 = i2 := by omega
            have ew : W = x_.1 := list_of_getD (by omega) (fun j hj => hWx j (by omega))
            have ev : V = y_.1 := list_of_getD (by omega) (fun j hj => hVy j (by omega))
            subst ew
            subst ev
            obtain ⟨A8, c8, rfl, hc8, hd8⟩ := hov.form
            have hov' : OwnS w.heap.size 47 5 (.slice A8 i c8) Es.length (flatC Es) He := by have e := hov.1; rw [flatC_len] at e; rw [show Es.length = i by omega]; exact hov
            iterate 7 refine gx ?_
            refine TL.gets (Wants.none rfl) rfl (Gets.loadN rfl agg25 size25 rfl (vs := [Value.int .i64 o_.1, Value.int .i64 n_.1] ++ (x_.1.map (Value.int .u8) ++ (y_.1.map (Value.int .u8) ++ ([Value.slice A8 i c8])))) (by simp [hW, hV]) (Row.all (i := 0) (ent := ⟨g3, 25, [Value.int .i64 o_.1, Value.int .i64 n_.1] ++ (x_.1.map (Value.int .u8) ++ (y_.1.map (Value.int .u8) ++ ([Value.slice A8 i c8]))), 67⟩) rfl rfl rfl)) ?_
            refine TL.storeW (Wants.none rfl) rfl rfl size25 rfl (vs := [Value.int .i64 o_.1, Value.int .i64 n_.1] ++ (x_.1.map (Value.int .u8) ++ (y_.1.map (Value.int .u8) ++ ([Value.slice A8 i c8])))) rfl (by simp [hW, hV]) (ones_app (by simp [Value.oneCell']) (ones_app ints_one (ones_app ints_one (by simp [Value.oneCell'])))) (i := 2) (ent := ⟨g1, 25, [Value.int .i64 0, Value.int .i64 0, Value.int .u8 0, Value.int .u8 0, Value.int .u8 0, Value.int .u8 0, Value.int .u8 0, Value.int .u8 0, Value.int .u8 0, Value.int .u8 0, Value.int .u8 0, Value.int .u8 0, Value.int .u8 0, Value.int .u8 0, Value.int .u8 0, Value.int .u8 0, Value.int .u8 0, Value.int .u8 0, Value.int .u8 0, Value.int .u8 0, Value.int .u8 0, Value.int .u8 0, Value.int .u8 0, Value.int .u8 0, Value.int .u8 0, Value.int .u8 0, Value.int .u8 0, Value.int .u8 0, Value.int .u8 0, Value.int .u8 0, Value.int .u8 0, Value.int .u8 0, Value.int .u8 0, Value.int .u8 0, Value.int .u8 0, Value.int .u8 0, Value.int .u8 0, Value.int .u8 0, Value.int .u8 0, Value.int .u8 0, Value.int .u8 0, Value.int .u8 0, Value.int .u8 0, Value.int .u8 0, Value.int .u8 0, Value.int .u8 0, Value.int .u8 0, Value.int .u8 0, Value.int .u8 0, Value.int .u8 0, Value.int .u8 0, Value.int .u8 0, Value.int .u8 0, Value.int .u8 0, Value.int .u8 0, Value.int .u8 0, Value.int .u8 0, Value.int .u8 0, Value.int .u8 0, Value.int .u8 0, Value.int .u8 0, Value.int .u8 0, Value.int .u8 0, Value.int .u8 0, Value.int .u8 0, Value.int .u8 0, Value.slice none 0 0], 67⟩) rfl rfl (by simp []) (H' := [⟨g3, 25, [Value.int .i64 o_.1, Value.int .i64 n_.1] ++ (x_.1.map (Value.int .u8) ++ (y_.1.map (Value.int .u8) ++ ([Value.slice A8 i c8]))), 67⟩, ⟨g2, 67, [Value.slice A m c, Value.int .i64 (q.k : Int), Value.int .i64 q.co, Value.int .i64 q.po], 4⟩, ⟨g1, 25, [Value.int .i64 o_.1, Value.int .i64 n_.1] ++ (x_.1.map (Value.int .u8) ++ (y_.1.map (Value.int .u8) ++ ([Value.slice A8 i c8]))), 67⟩] ++ He) rfl ?_
            iterate 5 refine gx ?_
            exact TE.ret3C rfl agg25 size25 rfl rfl rfl (vs := [Value.int .i64 o_.1, Value.int .i64 n_.1] ++ (x_.1.map (Value.int .u8) ++ (y_.1.map (Value.int .u8) ++ ([Value.slice A8 i c8])))) (by simp [hW, hV]) (Row.all (i := 2) (ent := ⟨g1, 25, [Value.int .i64 o_.1, Value.int .i64 n_.1] ++ (x_.1.map (Value.int .u8) ++ (y_.1.map (Value.int .u8) ++ ([Value.slice A8 i c8]))), 67⟩) rfl rfl rfl) (fun w hs => .inr ⟨by rw [hdec]; exact hq0, _, He, Es, by rw [hdec], hov', by rw [hdec]; exact hEs, hsg, (((hs.drop (by assumption)).drop (by assumption)).drop (by assumption))⟩)
end Go.Proofs.Ytclmgfcdnokaiaa
/-
  The reference of layers 6 and 7: Append, Encode.
-/
namespace Go.Proofs.Ytclmgfcdnokaiaa
set_option linter.unusedVariables false
set_option linter.unusedSimpArgs false
open Go Go.RowKit
theorem be1k {k : Int} (h : k = 1 ∨ k = 2) : beV k 1 = [k] := by rcases h with rfl | rfl <;> decide +kernel
theorem enc_take {Cs : List CV} {i : Nat} {x : CV} (h : Cs[i]? = some x) : encCs ((Cs.take (i + 1)).map cmC) = encCs ((Cs.take i).map cmC) ++ encC (cmC x) := by
  rw [take_one h, List.map_append, encCs_app]
  show encCs ((Cs.take i).map cmC) ++ (encC (cmC x) ++ []) = _
  rw [List.append_nil]
theorem encD_is {o n : Int} {H1 H2 : List Int} {Cs : List CV} {m : Nat} (h : Cs.length = m) : magicB ++ [1] ++ beV o 8 ++ beV n 8 ++ H1 ++ H2 ++ beV (m : Int) 4 ++ encCs (Cs.map cmC) = encD o n H1 H2 (Cs.map cmC) := by
  unfold encD
  rw [List.length_map, h, show beV 1 1 = [1] from be1k (.inl rfl)]
  simp only [List.append_assoc]
theorem Own.fr7 {w0 : World} {e : TypeId} {kd : IntKind} {v : Value} {W : List Int} {He : List Ent} (h : Own w0.heap.size e kd v W He) : Fresh w0 He := h.new
structure WG where
  i : Nat
  v : Value
  W : List Int
  He : List Ent

end Go.Proofs.Ytclmgfcdnokaiaa
/-
  The code of layer 6: validSize, bits.Len64.
-/
namespace Go.Proofs.Ytclmgfcdnokaiaa
set_option linter.unusedVariables false
set_option linter.unusedSimpArgs false
open Go Go.RowKit

set_option maxRecDepth 100000 in
set_option maxHeartbeats 400000 in
theorem vsize_c (n : Int) (w : World) : Calls Try.prog 55 #[.int .i64 n] w fun e w' => e = .returned (.bool (decide (1 ≤ n ∧ n ≤ 8))) ∧ St w [] w' := by
  refine calls_from (args := [.int .i64 n]) Try.func55 rfl Try.ntmps55 (by simp) ?_
  refine TC.pr [0] ?_
  iterate 8 refine gx ?_
  by_cases c1 : 1 ≤ n
  · refine TL.gets (Wants.none rfl) rfl (Gets.isTrue (Gets.geq rfl rfl rfl) c1) ?_
    iterate 2 refine gx ?_
    by_cases c2 : n ≤ 8
    · refine TL.gets (Wants.yes rfl rfl rfl) rfl (Gets.isTrue (Gets.leq rfl rfl rfl) c2) ?_
      iterate 5 refine gx ?_
      exact TE.ret1 rfl rfl (fun w hs => ⟨dec_t (by omega), hs⟩)
    · refine TL.gets (Wants.yes rfl rfl rfl) rfl (Gets.isFalse (Gets.leq rfl rfl rfl) c2) ?_
      iterate 5 refine gx ?_
      exact TE.ret1 rfl rfl (fun w hs => ⟨dec_f (by omega), hs⟩)
  · refine TL.gets (Wants.none rfl) rfl (Gets.isFalse (Gets.geq rfl rfl rfl) c1) ?_
    iterate 8 refine gx ?_
    exact TE.ret1 rfl rfl (fun w hs => ⟨dec_f (by omega), hs⟩)


theorem ba_get (b : ByteArray) {y : Nat} (h : y < b.size) : b[y]'h = b.data.getD y 0 := by
  show b.data[y]'h = _
  rw [Array.getD_eq_getD_getElem?, Array.getElem?_eq_getElem (show y < b.data.size from h)]; rfl
def lenTab : ByteArray := ⟨List.toArray (List.append (List.append [0, 1, 2, 2, 3, 3, 3, 3, 4, 4, 4, 4, 4, 4, 4, 4, 5, 5, 5, 5, 5, 5, 5, 5, 5, 5, 5, 5, 5, 5, 5, 5, 6, 6, 6, 6, 6, 6, 6, 6, 6, 6, 6, 6, 6, 6, 6, 6, 6, 6, 6, 6, 6, 6, 6, 6, 6, 6, 6, 6, 6, 6, 6, 6] [7, 7, 7, 7, 7, 7, 7, 7, 7, 7, 7, 7, 7, 7, 7, 7, 7, 7, 7, 7, 7, 7, 7, 7, 7, 7, 7, 7, 7, 7, 7, 7, 7, 7, 7, 7, 7, 7, 7, 7, 7, 7, 7, 7, 7, 7, 7, 7, 7, 7, 7, 7, 7, 7, 7, 7, 7, 7, 7, 7, 7, 7, 7, 7]) (List.append [8, 8, 8, 8, 8, 8, 8, 8, 8, 8, 8, 8, 8, 8, 8, 8, 8, 8, 8, 8, 8, 8, 8, 8, 8, 8, 8, 8, 8, 8, 8, 8, 8, 8, 8, 8, 8, 8, 8, 8, 8, 8, 8, 8, 8, 8, 8, 8, 8, 8, 8, 8, 8, 8, 8, 8, 8, 8, 8, 8, 8, 8, 8, 8] [8, 8, 8, 8, 8, 8, 8, 8, 8, 8, 8, 8, 8, 8, 8, 8, 8, 8, 8, 8, 8, 8, 8, 8, 8, 8, 8, 8, 8, 8, 8, 8, 8, 8, 8, 8, 8, 8, 8, 8, 8, 8, 8, 8, 8, 8, 8, 8, 8, 8, 8, 8, 8, 8, 8, 8, 8, 8, 8, 8, 8, 8, 8, 8]))⟩
theorem lenTab_size : lenTab.size = 256 := by decide +kernel
theorem lenTab_all : ∀ y : Fin 256, (lenTab.data.getD y.1 0).toNat = lenB y.1 := by decide +kernel
theorem lenTab_at {y : Nat} (h : y < lenTab.size) : ((lenTab[y]'h).toNat : Int) = (lenB y : Int) := by
  have h2 : y < 256 := by rw [lenTab_size] at h; exact h
  have h3 := lenTab_all ⟨y, h2⟩
  rw [ba_get lenTab h, h3]

set_option maxRecDepth 100000 in
set_option maxHeartbeats 400000 in
theorem len64_c (x : Nat) (hx : x < 18446744073709551616) (w : World) : Calls Try.prog 56 #[.int .u64 (x : Int)] w fun e w' => e = .returned (.int .i64 (lenB x : Int)) ∧ St w [] w' := by
  refine calls_from (args := [.int .u64 (x : Int)]) Try.func56 rfl Try.ntmps56 (by simp) ?_
  refine TC.pr [0] ?_
  iterate 12 refine gx ?_
  refine TC.split rfl (fun h0 => ?_) (fun h0 => ?_)
  · iterate 3 refine gx ?_
    obtain ⟨y6, hy6⟩ : ∃ y6 : Nat, y6 = x / 4294967296 := ⟨_, rfl⟩
    have ly6 : lenB x = lenB y6 + 32 := lenB_shr (s := 32) (by omega) hy6
    refine TL.gets (Wants.none rfl) rfl (Gets.shr rfl rfl rfl (by omega) (r := (y6 : Int)) (by rw [hy6]; exact shr_nat (q := 32) (by omega))) ?_
    iterate 14 refine gx ?_
    refine TC.split rfl (fun h1 => ?_) (fun h1 => ?_)
    · iterate 3 refine gx ?_
      obtain ⟨y10, hy10⟩ : ∃ y10 : Nat, y10 = y6 / 65536 := ⟨_, rfl⟩
      have ly10 : lenB y6 = lenB y10 + 16 := lenB_shr (s := 16) (by omega) hy10
      refine TL.gets (Wants.none rfl) rfl (Gets.shr rfl rfl rfl (by omega) (r := (y10 : Int)) (by rw [hy10]; exact shr_nat (q := 16) (by omega))) ?_
      iterate 3 refine gx ?_
      refine TC.pr [0, 2] ?_
      iterate 2 refine gx ?_
      refine TL.gets (Wants.none rfl) rfl (Gets.add rfl rfl rfl (r := 48) (w64 (by omega) (by omega))) ?_
      iterate 10 refine gx ?_
      refine TC.split rfl (fun h2 => ?_) (fun h2 => ?_)
      · iterate 3 refine gx ?_
        obtain ⟨y16, hy16⟩ : ∃ y16 : Nat, y16 = y10 / 256 := ⟨_, rfl⟩
        have ly16 : lenB y10 = lenB y16 + 8 := lenB_shr (s := 8) (by omega) hy16
        refine TL.gets (Wants.none rfl) rfl (Gets.shr rfl rfl rfl (by omega) (r := (y16 : Int)) (by rw [hy16]; exact shr_nat (q := 8) (by omega))) ?_
        iterate 5 refine gx ?_
        refine TL.gets (Wants.none rfl) rfl (Gets.add rfl rfl rfl (r := 56) (w64 (by omega) (by omega))) ?_
        iterate 3 refine gx ?_
        refine TC.pr [0, 2] ?_
        iterate 4 refine gx ?_
        refine TL.gets (Wants.none rfl) rfl (Gets.conv rfl Try.underlying51 Try.underlying5 rfl (r := (y16 : Int)) (wu8 rfl (by omega))) ?_
        have hlb : lenB y16 ≤ 8 := (lenB_le (q := 8)).2 (by omega)
        refine TL.gets (Wants.none rfl) rfl (Gets.congr (Gets.indexStr (str := lenTab) rfl Try.underlying9 rfl rfl (i := y16) rfl (by rw [lenTab_size]; omega)) (by rw [lenTab_at])) ?_
        refine TL.gets (Wants.none rfl) rfl (Gets.conv rfl Try.underlying5 Try.underlying3 rfl (r := ((lenB y16) : Int)) (w64 rfl (by omega))) ?_
        refine TL.gets (Wants.none rfl) rfl (Gets.add rfl rfl rfl (r := (((lenB y16) : Int) + 56)) (w64 (by omega) (by omega))) ?_
        iterate 4 refine gx ?_
        exact TE.ret1 rfl rfl (fun w hs => ⟨ret_i (by omega), hs⟩)
      · iterate 6 refine gx ?_
        refine TL.gets (Wants.none rfl) rfl (Gets.conv rfl Try.underlying51 Try.underlying5 rfl (r := (y10 : Int)) (wu8 rfl (by omega))) ?_
        have hlb : lenB y10 ≤ 8 := (lenB_le (q := 8)).2 (by omega)
        refine TL.gets (Wants.none rfl) rfl (Gets.congr (Gets.indexStr (str := lenTab) rfl Try.underlying9 rfl rfl (i := y10) rfl (by rw [lenTab_size]; omega)) (by rw [lenTab_at])) ?_
        refine TL.gets (Wants.none rfl) rfl (Gets.conv rfl Try.underlying5 Try.underlying3 rfl (r := ((lenB y10) : Int)) (w64 rfl (by omega))) ?_
        refine TL.gets (Wants.none rfl) rfl (Gets.add rfl rfl rfl (r := (((lenB y10) : Int) + 48)) (w64 (by omega) (by omega))) ?_
        iterate 4 refine gx ?_
        exact TE.ret1 rfl rfl (fun w hs => ⟨ret_i (by omega), hs⟩)
    · iterate 9 refine gx ?_
      refine TC.pr [0, 2, 14] ?_
      refine TC.split rfl (fun h2 => ?_) (fun h2 => ?_)
      · iterate 3 refine gx ?_
        obtain ⟨y16, hy16⟩ : ∃ y16 : Nat, y16 = y6 / 256 := ⟨_, rfl⟩
        have ly16 : lenB y6 = lenB y16 + 8 := lenB_shr (s := 8) (by omega) hy16
        refine TL.gets (Wants.none rfl) rfl (Gets.shr rfl rfl rfl (by omega) (r := (y16 : Int)) (by rw [hy16]; exact shr_nat (q := 8) (by omega))) ?_
        iterate 5 refine gx ?_
        refine TL.gets (Wants.none rfl) rfl (Gets.add rfl rfl rfl (r := 40) (w64 (by omega) (by omega))) ?_
        iterate 7 refine gx ?_
        refine TL.gets (Wants.none rfl) rfl (Gets.conv rfl Try.underlying51 Try.underlying5 rfl (r := (y16 : Int)) (wu8 rfl (by omega))) ?_
        have hlb : lenB y16 ≤ 8 := (lenB_le (q := 8)).2 (by omega)
        refine TL.gets (Wants.none rfl) rfl (Gets.congr (Gets.indexStr (str := lenTab) rfl Try.underlying9 rfl rfl (i := y16) rfl (by rw [lenTab_size]; omega)) (by rw [lenTab_at])) ?_
        refine TL.gets (Wants.none rfl) rfl (Gets.conv rfl Try.underlying5 Try.underlying3 rfl (r := ((lenB y16) : Int)) (w64 rfl (by omega))) ?_
        refine TL.gets (Wants.none rfl) rfl (Gets.add rfl rfl rfl (r := (((lenB y16) : Int) + 40)) (w64 (by omega) (by omega))) ?_
        iterate 4 refine gx ?_
        exact TE.ret1 rfl rfl (fun w hs => ⟨ret_i (by omega), hs⟩)
      · iterate 6 refine gx ?_
        refine TL.gets (Wants.none rfl) rfl (Gets.conv rfl Try.underlying51 Try.underlying5 rfl (r := (y6 : Int)) (wu8 rfl (by omega))) ?_
        have hlb : lenB y6 ≤ 8 := (lenB_le (q := 8)).2 (by omega)
        refine TL.gets (Wants.none rfl) rfl (Gets.congr (Gets.indexStr (str := lenTab) rfl Try.underlying9 rfl rfl (i := y6) rfl (by rw [lenTab_size]; omega)) (by rw [lenTab_at])) ?_
        refine TL.gets (Wants.none rfl) rfl (Gets.conv rfl Try.underlying5 Try.underlying3 rfl (r := ((lenB y6) : Int)) (w64 rfl (by omega))) ?_
        refine TL.gets (Wants.none rfl) rfl (Gets.add rfl rfl rfl (r := (((lenB y6) : Int) + 32)) (w64 (by omega) (by omega))) ?_
        iterate 4 refine gx ?_
        exact TE.ret1 rfl rfl (fun w hs => ⟨ret_i (by omega), hs⟩)
  · iterate 9 refine gx ?_
    refine TC.split rfl (fun h1 => ?_) (fun h1 => ?_)
    · iterate 3 refine gx ?_
      obtain ⟨y10, hy10⟩ : ∃ y10 : Nat, y10 = x / 65536 := ⟨_, rfl⟩
      have ly10 : lenB x = lenB y10 + 16 := lenB_shr (s := 16) (by omega) hy10
      refine TL.gets (Wants.none rfl) rfl (Gets.shr rfl rfl rfl (by omega) (r := (y10 : Int)) (by rw [hy10]; exact shr_nat (q := 16) (by omega))) ?_
      iterate 5 refine gx ?_
      refine TL.gets (Wants.none rfl) rfl (Gets.add rfl rfl rfl (r := 16) (w64 (by omega) (by omega))) ?_
      iterate 3 refine gx ?_
      refine TC.pr [0, 2] ?_
      iterate 7 refine gx ?_
      refine TC.split rfl (fun h2 => ?_) (fun h2 => ?_)
      · iterate 3 refine gx ?_
        obtain ⟨y16, hy16⟩ : ∃ y16 : Nat, y16 = y10 / 256 := ⟨_, rfl⟩
        have ly16 : lenB y10 = lenB y16 + 8 := lenB_shr (s := 8) (by omega) hy16
        refine TL.gets (Wants.none rfl) rfl (Gets.shr rfl rfl rfl (by omega) (r := (y16 : Int)) (by rw [hy16]; exact shr_nat (q := 8) (by omega))) ?_
        iterate 5 refine gx ?_
        refine TL.gets (Wants.none rfl) rfl (Gets.add rfl rfl rfl (r := 24) (w64 (by omega) (by omega))) ?_
        iterate 7 refine gx ?_
        refine TL.gets (Wants.none rfl) rfl (Gets.conv rfl Try.underlying51 Try.underlying5 rfl (r := (y16 : Int)) (wu8 rfl (by omega))) ?_
        have hlb : lenB y16 ≤ 8 := (lenB_le (q := 8)).2 (by omega)
        refine TL.gets (Wants.none rfl) rfl (Gets.congr (Gets.indexStr (str := lenTab) rfl Try.underlying9 rfl rfl (i := y16) rfl (by rw [lenTab_size]; omega)) (by rw [lenTab_at])) ?_
        refine TL.gets (Wants.none rfl) rfl (Gets.conv rfl Try.underlying5 Try.underlying3 rfl (r := ((lenB y16) : Int)) (w64 rfl (by omega))) ?_
        refine TL.gets (Wants.none rfl) rfl (Gets.add rfl rfl rfl (r := (((lenB y16) : Int) + 24)) (w64 (by omega) (by omega))) ?_
        iterate 4 refine gx ?_
        exact TE.ret1 rfl rfl (fun w hs => ⟨ret_i (by omega), hs⟩)
      · iterate 6 refine gx ?_
        refine TL.gets (Wants.none rfl) rfl (Gets.conv rfl Try.underlying51 Try.underlying5 rfl (r := (y10 : Int)) (wu8 rfl (by omega))) ?_
        have hlb : lenB y10 ≤ 8 := (lenB_le (q := 8)).2 (by omega)
        refine TL.gets (Wants.none rfl) rfl (Gets.congr (Gets.indexStr (str := lenTab) rfl Try.underlying9 rfl rfl (i := y10) rfl (by rw [lenTab_size]; omega)) (by rw [lenTab_at])) ?_
        refine TL.gets (Wants.none rfl) rfl (Gets.conv rfl Try.underlying5 Try.underlying3 rfl (r := ((lenB y10) : Int)) (w64 rfl (by omega))) ?_
        refine TL.gets (Wants.none rfl) rfl (Gets.add rfl rfl rfl (r := (((lenB y10) : Int) + 16)) (w64 (by omega) (by omega))) ?_
        iterate 4 refine gx ?_
        exact TE.ret1 rfl rfl (fun w hs => ⟨ret_i (by omega), hs⟩)
    · iterate 9 refine gx ?_
      refine TC.split rfl (fun h2 => ?_) (fun h2 => ?_)
      · iterate 3 refine gx ?_
        obtain ⟨y16, hy16⟩ : ∃ y16 : Nat, y16 = x / 256 := ⟨_, rfl⟩
        have ly16 : lenB x = lenB y16 + 8 := lenB_shr (s := 8) (by omega) hy16
        refine TL.gets (Wants.none rfl) rfl (Gets.shr rfl rfl rfl (by omega) (r := (y16 : Int)) (by rw [hy16]; exact shr_nat (q := 8) (by omega))) ?_
        iterate 3 refine gx ?_
        refine TC.pr [0, 2] ?_
        iterate 2 refine gx ?_
        refine TL.gets (Wants.none rfl) rfl (Gets.add rfl rfl rfl (r := 8) (w64 (by omega) (by omega))) ?_
        iterate 7 refine gx ?_
        refine TL.gets (Wants.none rfl) rfl (Gets.conv rfl Try.underlying51 Try.underlying5 rfl (r := (y16 : Int)) (wu8 rfl (by omega))) ?_
        have hlb : lenB y16 ≤ 8 := (lenB_le (q := 8)).2 (by omega)
        refine TL.gets (Wants.none rfl) rfl (Gets.congr (Gets.indexStr (str := lenTab) rfl Try.underlying9 rfl rfl (i := y16) rfl (by rw [lenTab_size]; omega)) (by rw [lenTab_at])) ?_
        refine TL.gets (Wants.none rfl) rfl (Gets.conv rfl Try.underlying5 Try.underlying3 rfl (r := ((lenB y16) : Int)) (w64 rfl (by omega))) ?_
        refine TL.gets (Wants.none rfl) rfl (Gets.add rfl rfl rfl (r := (((lenB y16) : Int) + 8)) (w64 (by omega) (by omega))) ?_
        iterate 4 refine gx ?_
        exact TE.ret1 rfl rfl (fun w hs => ⟨ret_i (by omega), hs⟩)
      · iterate 6 refine gx ?_
        refine TL.gets (Wants.none rfl) rfl (Gets.conv rfl Try.underlying51 Try.underlying5 rfl (r := (x : Int)) (wu8 rfl (by omega))) ?_
        have hlb : lenB x ≤ 8 := (lenB_le (q := 8)).2 (by omega)
        refine TL.gets (Wants.none rfl) rfl (Gets.congr (Gets.indexStr (str := lenTab) rfl Try.underlying9 rfl rfl (i := x) rfl (by rw [lenTab_size]; omega)) (by rw [lenTab_at])) ?_
        refine TL.gets (Wants.none rfl) rfl (Gets.conv rfl Try.underlying5 Try.underlying3 rfl (r := ((lenB x) : Int)) (w64 rfl (by omega))) ?_
        refine TL.gets (Wants.none rfl) rfl (Gets.add rfl rfl rfl (r := ((lenB x) : Int)) (w64 (by omega) (by omega))) ?_
        iterate 4 refine gx ?_
        exact TE.ret1 rfl rfl (fun w hs => ⟨ret_i (by omega), hs⟩)


theorem len64_i (x : Int) (hx : 0 ≤ x ∧ x ≤ 18446744073709551615) (w : World) : Calls Try.prog 56 #[.int .u64 x] w fun e w' => e = .returned (.int .i64 (lenI x)) ∧ St w [] w' := by
  obtain ⟨y, rfl⟩ := Int.eq_ofNat_of_zero_le hx.1
  have := len64_c y (by omega) w
  unfold lenI; rw [Int.toNat_natCast]; exact this
end Go.Proofs.Ytclmgfcdnokaiaa
/-
  The code of layer 6: Append.
-/
namespace Go.Proofs.Ytclmgfcdnokaiaa
set_option linter.unusedVariables false
set_option linter.unusedSimpArgs false
open Go Go.RowKit
theorem agg51 : (isAgg 51).run Try.prog = fun w => .ok false w := isAgg_no Try.underlying51 rfl
theorem agg53 : (isAgg 53).run Try.prog = fun w => .ok true w := isAgg_yes Try.underlying53 rfl
theorem enters55 : Enters Try.prog 55 := ⟨_, Try.func55, by kernel_rfl, by kernel_rfl⟩
theorem enters56 : Enters Try.prog 56 := ⟨_, Try.func56, by kernel_rfl, by kernel_rfl⟩
theorem size51 : (Try.prog.info? 51).map (·.size) = some 1 := by kernel_rfl
theorem size53 : (Try.prog.info? 53).map (·.size) = some 2 := by kernel_rfl
theorem zero53 : (Try.prog.info? 53).bind (·.zero) = some (.agg #[.int .u64 0, .int .i64 0]) := by kernel_rfl
instance : AgN Try.prog 51 := ⟨agg51⟩
instance : Fld Try.prog 53 0 0 := ⟨⟨_, _, _, Try.underlying53, rfl, size51, rfl⟩⟩
instance : Fld Try.prog 53 1 1 := ⟨⟨_, _, _, Try.underlying53, rfl, size3, rfl⟩⟩
instance : Siz Try.prog 53 2 := ⟨size53⟩
instance : Sli Try.prog 79 53 := ⟨Try.underlying79⟩
instance : Zer Try.prog 53 [Value.int .u64 0, Value.int .i64 0] := ⟨⟨_, zero53, rfl⟩⟩
set_option maxRecDepth 100000 in
set_option maxHeartbeats 1000000 in
theorem wapp_yes (B : List Int) (Fs : List FV) (A A2 : Option Addr) (m c m2 c2 : Nat) (w : World) (hsB : Src w A m .u8 B) (hsF : SrcF w A2 m2 Fs) (hN : NumsF Fs) (hmc : m ≤ c) (hcm : c ≤ 9223372036854775807) (hmc2 : m2 ≤ c2) (hcm2 : c2 ≤ 9223372036854775807) (hm : m ≤ 1000000) (hm2 : m2 ≤ 100000) (hf : fitAll Fs) : Calls Try.prog 40 #[.slice A m c, .slice A2 m2 c2] w fun e w' => ∃ v He, e = .returned (.tuple #[v, .bool true]) ∧ Own w.heap.size 5 .u8 v (B ++ encF Fs) He ∧ St w He w' := by
  refine calls_from (args := [.slice A m c, .slice A2 m2 c2]) Try.func40 rfl Try.ntmps40 (by simp) ?_
  refine TC.pr [0, 1] ?_
  iterate 21 refine gx ?_
  refine TC.pr [0, 1, 4, 5, 6, 15, 16, 17] ?_
  refine gx ?_
  refine TC.loop (ι := Nat) (fun i => [(0, .slice A m c), (1, .slice A2 m2 c2), (15, .slice A2 m2 c2), (16, .int .i64 (m2 : Int)), (17, .int .i64 (i : Int)), (6, .int .i64 ((m : Int) + ((encF (Fs.take (i))).length : Int)))]) (fun i => []) (fun i => m2 - i) (fun i => i ≤ m2 ∧ fitAll (Fs.take (i))) 0 ⟨Nat.zero_le _, by rw [List.take_zero]; exact fitAll_nil⟩ (Sub.slice (i := 0) rfl rfl (by first | omega | (dsimp only; omega) | rfl) (by first | omega | (dsimp only; omega) | rfl) (Sub.slice (i := 1) rfl rfl (by first | omega | (dsimp only; omega) | rfl) (by first | omega | (dsimp only; omega) | rfl) (Sub.slice (i := 15) rfl rfl (by first | omega | (dsimp only; omega) | rfl) (by first | omega | (dsimp only; omega) | rfl) (Sub.int (i := 16) rfl (by first | omega | rfl) (Sub.int (i := 17) rfl (by first | omega | rfl) (Sub.int (i := 6) rfl (by rw [List.take_zero]; show (m : Int) = (m : Int) + (([] : List Int).length : Int); simp) (Sub.nil))))))) (fun w h => h) (fun i hC0 => ?_)
  obtain ⟨hi, hfi⟩ := hC0
  have hEl := encF_le hfi
  have hTl : (Fs.take i).length ≤ i := by rw [List.length_take]; omega
  iterate 6 refine gx ?_
  refine TC.split rfl (fun hq0 => ?_) (fun hq0 => ?_)
  · obtain ⟨b, off, hAe, hb, hrw⟩ := hsF.some_ (i := i) (by omega)
    subst hAe
    obtain ⟨x, hx⟩ := hsF.get (i := i) (by omega)
    have hnx := hN i x hx
    unfold NumF at hnx
    have hfx := hf x (List.mem_of_getElem? hx)
    have c1 : 1 ≤ x.n ∧ x.n ≤ 8 := by unfold fitV at hfx; exact ⟨hfx.1, hfx.2.1⟩
    iterate 6 refine gx ?_
    refine TL.gets (Wants.none rfl) rfl (Gets.idxSlice rfl Try.underlying79 size53 rfl rfl (i := i) (by omega) (by omega) (off' := (off + 2 * i)) (by omega)) ?_
    refine TL.gets (Wants.none rfl) rfl (Gets.loadN rfl agg53 size53 rfl rfl (Row.old (fun jj u h => hrw i x hx jj u h) hb ne_nil)) ?_
    refine TL.al (fun g1 hg1 => ?_)
    iterate 3 refine gx ?_
    refine TC.pr [0, 1, 6, 8, 15, 16, 17] ?_
    iterate 2 refine gx ?_
    refine TC.mix (by kernel_rfl) [0, 1, 1, 0, 0, 0, 1, 1, 0, 1, 0, 0, 0] rfl (by kernel_rfl) ?_
    iterate 2 refine gx ?_
    refine TM.call0 (Wants.none rfl) rfl enters55 rfl rfl (v := .bool true) (fun w hs => (vsize_c x.n w).mono fun e w' h => by rw [decide_eq_true (p := 1 ≤ x.n ∧ x.n ≤ 8) c1] at h; exact h) ?_
    iterate 4 refine gx ?_
    refine TM.call0 (Wants.yes rfl rfl rfl) rfl enters56 rfl rfl (v := .int .i64 (lenI x.x)) (fun w hs => len64_i x.x ⟨by omega, by omega⟩ w) ?_
    iterate 2 refine gx ?_
    refine TM.free (Wants.yes rfl rfl rfl) rfl (fun _ => Gets.mul rfl rfl rfl (r := (8 * x.n)) (w64 (by omega) (by omega))) ?_
    iterate 4 refine gx ?_
    refine TC.pr [0, 1, 6, 8, 15, 16, 17, 33] ?_
    refine TC.split rfl (fun h5 => ?_) (fun h5 => ?_)
    · exact absurd hfx ((len_fit hnx.1 c1).1 h5)
    · iterate 6 refine gx ?_
      refine TL.gets (Wants.none rfl) rfl (Gets.add rfl rfl rfl (r := ((m : Int) + ((encF (Fs.take (i))).length : Int) + x.n)) (w64 (by omega) (by omega))) ?_
      iterate 4 refine gx ?_
      refine TC.pr [0, 1, 6, 15, 16, 17] ?_
      refine gx ?_
      refine TL.gets (Wants.none rfl) rfl (Gets.add rfl rfl rfl (r := ((i : Int) + 1)) (w64 (by omega) (by omega))) ?_
      iterate 2 refine gx ?_
      have hE : ((encF (Fs.take (i + 1))).length : Int) = ((encF (Fs.take i)).length : Int) + x.n := by rw [encF_take hx, List.length_append, beV_len]; omega
      exact TE.back (i + 1) (by omega) ⟨by omega, (fitAll_take hx).2 ⟨hfi, hfx⟩⟩ (Sub.slice (i := 0) rfl rfl (by first | omega | (dsimp only; omega) | rfl) (by first | omega | (dsimp only; omega) | rfl) (Sub.slice (i := 1) rfl (by first | rfl | (congr 2; omega)) (by first | omega | (dsimp only; omega) | rfl) (by first | omega | (dsimp only; omega) | rfl) (Sub.slice (i := 15) rfl (by first | rfl | (congr 2; omega)) (by first | omega | (dsimp only; omega) | rfl) (by first | omega | (dsimp only; omega) | rfl) (Sub.int (i := 16) rfl (by first | omega | rfl) (Sub.int (i := 17) rfl (by first | omega | rfl) (Sub.int (i := 6) rfl (by rw [hE]; omega) (Sub.nil))))))) (fun w h => h.drop (by assumption))
  · obtain rfl : m2 = i := by omega
    have htk : Fs.take m2 = Fs := List.take_of_length_le (by have := hsF.1; omega)
    rw [htk] at hfi hEl hTl ⊢
    iterate 8 refine gx ?_
    refine TL.makeSlice1 (Wants.none rfl) rfl rfl Try.underlying28 mk5 rfl rfl rfl (ln := 0) (cp := (m + ((encF Fs).length))) rfl (by omega) (by omega) (by omega) (by omega) (fun g2 hg2 => ?_)
    rw [show List.replicate (m + ((encF Fs).length)) (.int .u8 0) = (List.replicate (m + ((encF Fs).length)) 0).map (Value.int .u8) from (List.map_replicate ..).symm]
    refine gx ?_
    refine TL.heap (H' := [] ++ [⟨g2, 5, ([] : List Int).map (Value.int .u8), (m + ((encF Fs).length))⟩]) (fun w h => St.blank h) ?_
    refine TL.appendOwn (H := []) (He := [⟨g2, 5, ([] : List Int).map (Value.int .u8), (m + ((encF Fs).length))⟩]) (Wants.none rfl) rfl rfl Try.underlying28 mk5 rfl rfl rfl (W := []) (B := B) (.inr ⟨g2, (m + ((encF Fs).length)), rfl, rfl, hg2, Nat.zero_le _, by unfold maxLen; omega⟩) (fun w hs => hsB.at_ hs (fun b hb => ne_app ne_nil (ne_cons (by show g2 ≠ b; omega) ne_nil))) (by simp only [List.length_nil]; omega) (by simp only [List.length_nil]; omega) (fun vo Ho ho hne => ?_)
    rw [List.nil_append] at ho
    iterate 3 refine gx ?_
    refine TC.pr [1, 9] ?_
    iterate 9 refine gx ?_
    refine TC.loop (ι := WN) (fun x0 => [(1, .slice A2 m2 c2), (43, .slice A2 m2 c2), (44, .int .i64 (m2 : Int)), (45, .int .i64 (x0.k : Int)), (9, x0.v)]) (fun x0 => [] ++ x0.He) (fun x0 => m2 - x0.k) (fun x0 => Own w.heap.size 5 .u8 x0.v (B ++ encF (Fs.take x0.k)) x0.He ∧ x0.k ≤ m2) (⟨0, vo, Ho⟩ : WN) ⟨by show Own _ _ _ vo (B ++ encF (Fs.take 0)) Ho; rw [List.take_zero]; show Own _ _ _ vo (B ++ []) Ho; rw [List.append_nil]; exact ho, Nat.zero_le _⟩ (Sub.slice (i := 1) rfl rfl (by first | omega | (dsimp only; omega) | rfl) (by first | omega | (dsimp only; omega) | rfl) (Sub.slice (i := 43) rfl rfl (by first | omega | (dsimp only; omega) | rfl) (by first | omega | (dsimp only; omega) | rfl) (Sub.int (i := 44) rfl (by first | omega | rfl) (Sub.int (i := 45) rfl (by first | omega | rfl) (Sub.cons (i := 9) rfl (Sub.nil)))))) (fun w h => h) (fun x0 hC1 => ?_)
    obtain ⟨i, v, He⟩ := x0
    obtain ⟨hown0, hi2⟩ := hC1
    dsimp only at hown0 hi2 ⊢
    have hown := hown0
    have hEi : (encF (Fs.take i)).length ≤ 8 * m2 := by have h1 := encF_le (Fs := Fs.take i) (fun f h => hf f (List.mem_of_mem_take h)); rw [List.length_take] at h1; omega
    iterate 6 refine gx ?_
    refine TC.split rfl (fun hq2 => ?_) (fun hq2 => ?_)
    · obtain ⟨b, off, hAe, hb, hrw⟩ := hsF.some_ (i := i) (by omega)
      subst hAe
      obtain ⟨x, hx⟩ := hsF.get (i := i) (by omega)
      have hnx := hN i x hx
      unfold NumF at hnx
      have hfx := hf x (List.mem_of_getElem? hx)
      have c1 : 1 ≤ x.n ∧ x.n ≤ 8 := by unfold fitV at hfx; exact ⟨hfx.1, hfx.2.1⟩
      iterate 6 refine gx ?_
      refine TL.gets (Wants.none rfl) rfl (Gets.idxSlice rfl Try.underlying79 size53 rfl rfl (i := i) (by omega) (by omega) (off' := (off + 2 * i)) (by omega)) ?_
      refine TL.gets (Wants.none rfl) rfl (Gets.loadN rfl agg53 size53 rfl rfl (Row.old (fun jj u h => hrw i x hx jj u h) hb (ne_app ne_nil (hown.ne hb)))) ?_
      refine TL.al (fun g3 hg3 => ?_)
      refine TL.storeW (Wants.none rfl) rfl rfl size53 rfl (vs := [Value.int .u64 x.x, Value.int .i64 x.n]) rfl (by simp []) (by simp [Value.oneCell']) (i := 0) (ent := ⟨g3, 53, [Value.int .u64 0, Value.int .i64 0], 2⟩) rfl rfl (by simp []) (H' := [⟨g3, 53, [Value.int .u64 x.x, Value.int .i64 x.n], 2⟩] ++ He) rfl ?_
      iterate 2 refine gx ?_
      refine TC.pr [1, 9, 11, 43, 44, 45] ?_
      iterate 4 refine gx ?_
      refine TL.gets (Wants.none rfl) rfl (Gets.sub rfl rfl rfl (r := (x.n - 1)) (w64 (by omega) (by omega))) ?_
      refine TL.gets (Wants.none rfl) rfl (Gets.mul rfl rfl rfl (r := (8 * x.n - 8)) (w64 (by omega) (by omega))) ?_
      iterate 3 refine gx ?_
      refine TC.pr [1, 9, 11, 12, 43, 44, 45] ?_
      refine gx ?_
      refine TC.loop (ι := WN) (fun x1 => [(1, .slice (some ⟨b, off, none⟩) m2 c2), (43, .slice (some ⟨b, off, none⟩) m2 c2), (44, .int .i64 (m2 : Int)), (45, .int .i64 (i : Int)), (11, .pointer (some ⟨g3, 0, none⟩)), (9, x1.v), (12, .int .i64 (8 * x.n - 8 * (x1.k : Int) - 8))]) (fun x1 => [⟨g3, 53, [Value.int .u64 x.x, Value.int .i64 x.n], 2⟩] ++ x1.He) (fun x1 => x.n.toNat - x1.k) (fun x1 => Own w.heap.size 5 .u8 x1.v (B ++ encF (Fs.take i) ++ beP x.x x.n x1.k) x1.He ∧ x1.k ≤ x.n.toNat) (⟨0, v, He⟩ : WN) ⟨by show Own _ _ _ v (B ++ encF (Fs.take i) ++ beP x.x x.n 0) He; rw [beP_zero, List.append_nil]; exact hown0, by show 0 ≤ x.n.toNat; omega⟩ (Sub.slice (i := 1) rfl rfl (by first | omega | (dsimp only; omega) | rfl) (by first | omega | (dsimp only; omega) | rfl) (Sub.slice (i := 43) rfl rfl (by first | omega | (dsimp only; omega) | rfl) (by first | omega | (dsimp only; omega) | rfl) (Sub.int (i := 44) rfl (by first | omega | rfl) (Sub.int (i := 45) rfl (by first | omega | rfl) (Sub.cons (i := 11) rfl (Sub.cons (i := 9) rfl (Sub.int (i := 12) rfl (by show 8 * x.n - 8 = 8 * x.n - 8 * ((0 : Nat) : Int) - 8; omega) (Sub.nil)))))))) (fun w h => h) (fun x1 hC2 => ?_)
      obtain ⟨k, v1, H1⟩ := x1
      obtain ⟨hown, hk⟩ := hC2
      dsimp only at hown hk ⊢
      iterate 7 refine gx ?_
      refine TC.pr [1, 9, 11, 12, 43, 44, 45, 54] ?_
      refine TC.split rfl (fun hq3 => ?_) (fun hq3 => ?_)
      · iterate 9 refine gx ?_
        refine TL.gets (Wants.none rfl) rfl (Gets.shr rfl rfl rfl (by omega) (r := (shrI .u64 x.x (8 * x.n - 8 * (k : Int) - 8))) rfl) ?_
        refine TL.gets (Wants.none rfl) rfl (Gets.conv rfl Try.underlying51 Try.underlying5 rfl (r := (IntKind.u8.wrap (shrI .u64 x.x (8 * x.n - 8 * (k : Int) - 8)))) rfl) ?_
        refine TL.buildSlice (Wants.none rfl) rfl rfl Try.underlying28 size5 zero5 rfl (by decide) (by decide) (cells := #[.int .u8 (IntKind.u8.wrap (shrI .u64 x.x (8 * x.n - 8 * (k : Int) - 8)))]) (tot := 1) (by kernel_rfl) (cs := [.int .u8 (IntKind.u8.wrap (shrI .u64 x.x (8 * x.n - 8 * (k : Int) - 8)))]) rfl rfl (fun g4 hg4 => ?_)
        refine TL.appendOwn (H := [⟨g4, 5, [Value.int .u8 (IntKind.u8.wrap (shrI .u64 x.x (8 * x.n - 8 * (k : Int) - 8)))], 1⟩, ⟨g3, 53, [Value.int .u64 x.x, Value.int .i64 x.n], 2⟩]) (sl := 1) (t := 28) (e := 5) (kd := .u8) (Wants.none rfl) rfl rfl Try.underlying28 mk5 rfl rfl rfl (W := B ++ encF (Fs.take i) ++ beP x.x x.n k) (B := [(IntKind.u8.wrap (shrI .u64 x.x (8 * x.n - 8 * (k : Int) - 8)))]) hown (fun w hs => src_ent (W := [(IntKind.u8.wrap (shrI .u64 x.x (8 * x.n - 8 * (k : Int) - 8)))]) (hs.has ⟨g4, 5, [Value.int .u8 (IntKind.u8.wrap (shrI .u64 x.x (8 * x.n - 8 * (k : Int) - 8)))], 1⟩ (by simp)) rfl) (by have := beP_len x.x x.n k; have hap : (B ++ encF (Fs.take i) ++ beP x.x x.n k).length = B.length + (encF (Fs.take i)).length + (beP x.x x.n k).length := (by rw [List.length_append, List.length_append]); have hBl := hsB.1; omega) (by have := beP_len x.x x.n k; have hap : (B ++ encF (Fs.take i) ++ beP x.x x.n k).length = B.length + (encF (Fs.take i)).length + (beP x.x x.n k).length := (by rw [List.length_append, List.length_append]); have hBl := hsB.1; omega) (fun vo Ho ho hne => ?_)
        iterate 4 refine gx ?_
        refine TC.pr [1, 9, 11, 12, 43, 44, 45] ?_
        iterate 2 refine gx ?_
        refine TL.gets (Wants.none rfl) rfl (Gets.sub rfl rfl rfl (r := (8 * x.n - 8 * (k : Int) - 16)) (w64 (by omega) (by omega))) ?_
        iterate 2 refine gx ?_
        exact TE.back (⟨k + 1, vo, Ho⟩ : WN) (by show x.n.toNat - (k + 1) < x.n.toNat - k; omega) ⟨by show Own _ _ _ vo (B ++ encF (Fs.take i) ++ beP x.x x.n (k + 1)) Ho; rw [beP_succ, ← List.append_assoc]; exact ho, by show k + 1 ≤ x.n.toNat; omega⟩ (Sub.slice (i := 1) rfl rfl (by first | omega | (dsimp only; omega) | rfl) (by first | omega | (dsimp only; omega) | rfl) (Sub.slice (i := 43) rfl rfl (by first | omega | (dsimp only; omega) | rfl) (by first | omega | (dsimp only; omega) | rfl) (Sub.int (i := 44) rfl (by first | omega | rfl) (Sub.int (i := 45) rfl (by first | omega | rfl) (Sub.cons (i := 11) rfl (Sub.cons (i := 9) rfl (Sub.int (i := 12) rfl (by show 8 * x.n - 8 * (k : Int) - 16 = 8 * x.n - 8 * ((k + 1 : Nat) : Int) - 8; omega) (Sub.nil)))))))) (fun w h => h.drop (by assumption))
      · have hkn : k = x.n.toNat := by omega
        iterate 7 refine gx ?_
        refine TL.gets (Wants.none rfl) rfl (Gets.add rfl rfl rfl (r := ((i : Int) + 1)) (w64 (by omega) (by omega))) ?_
        iterate 2 refine gx ?_
        exact TE.back (⟨i + 1, v1, H1⟩ : WN) (by show m2 - (i + 1) < m2 - i; omega) ⟨by show Own _ _ _ v1 (B ++ encF (Fs.take (i + 1))) H1; rw [encF_take hx, ← List.append_assoc, show beV x.x x.n = beP x.x x.n x.n.toNat from rfl, ← hkn]; exact hown, by show i + 1 ≤ m2; omega⟩ (Sub.slice (i := 1) rfl (by first | rfl | (congr 2; omega)) (by first | omega | (dsimp only; omega) | rfl) (by first | omega | (dsimp only; omega) | rfl) (Sub.slice (i := 43) rfl (by first | rfl | (congr 2; omega)) (by first | omega | (dsimp only; omega) | rfl) (by first | omega | (dsimp only; omega) | rfl) (Sub.int (i := 44) rfl (by first | omega | rfl) (Sub.int (i := 45) rfl (by first | omega | rfl) (Sub.cons (i := 9) rfl (Sub.nil)))))) (fun w h => h.drop (by assumption))
    · obtain rfl : m2 = i := by omega
      have htk : Fs.take m2 = Fs := List.take_of_length_le (by have := hsF.1; omega)
      rw [htk] at hown
      iterate 13 refine gx ?_
      exact TE.ret2 rfl rfl rfl (fun w hs => ⟨v, He, rfl, hown, hs⟩)
end Go.Proofs.Ytclmgfcdnokaiaa
namespace Go.Proofs.Ytclmgfcdnokaiaa
set_option linter.unusedVariables false
set_option linter.unusedSimpArgs false
open Go Go.RowKit
theorem agg29 : (isAgg 29).run Try.prog = fun w => .ok false w := isAgg_no Try.underlying29 rfl
theorem agg36 : (isAgg 36).run Try.prog = fun w => .ok true w := isAgg_yes Try.underlying36 rfl
theorem enters28 : Enters Try.prog 28 := ⟨_, Try.func28, by kernel_rfl, by kernel_rfl⟩
theorem enters57 : Enters Try.prog 57 := ⟨_, Try.func57, by kernel_rfl, by kernel_rfl⟩
theorem enters58 : Enters Try.prog 58 := ⟨_, Try.func58, by kernel_rfl, by kernel_rfl⟩
theorem size36 : (Try.prog.info? 36).map (·.size) = some 2 := by kernel_rfl
theorem size85 : (Try.prog.info? 85).map (·.size) = some 2 := by kernel_rfl
theorem zero36 : (Try.prog.info? 36).bind (·.zero) = some (.agg #[.int .i64 0, .int .i64 0]) := by kernel_rfl
instance : Fld Try.prog 85 0 0 := ⟨⟨_, _, _, Try.underlying85, rfl, size28, rfl⟩⟩
instance : Fld Try.prog 85 1 1 := ⟨⟨_, _, _, Try.underlying85, rfl, size3, rfl⟩⟩
instance : Fld Try.prog 87 0 0 := ⟨⟨_, _, _, Try.underlying87, rfl, size85, rfl⟩⟩
instance : Fld Try.prog 87 1 2 := ⟨⟨_, _, _, Try.underlying87, rfl, size36, rfl⟩⟩
instance : Siz Try.prog 36 2 := ⟨size36⟩
instance : Zer Try.prog 36 [Value.int .i64 0, Value.int .i64 0] := ⟨⟨_, zero36, rfl⟩⟩
set_option maxRecDepth 100000 in
set_option maxHeartbeats 400000 in
theorem left_c (g : Nat) (A : Option Addr) (m c k : Nat) (co po : Int) (w : World) (hl : Ent.lies ⟨g, 87, rdC A m c k co po, rdN⟩ w) (hk : k ≤ m) (hmc : m ≤ c) (hcm : c ≤ 9223372036854775807)  : Calls Try.prog 58 #[.pointer (some ⟨g, 0, none⟩)] w fun e w' => e = .returned (.slice (cutA A c k 1) (m - k) (c - k)) ∧ St w [] w' := by
  refine calls_from (args := [.pointer (some ⟨g, 0, none⟩)]) Try.func58 rfl Try.ntmps58 (by simp) ?_
  refine TC.pr [0] ?_
  refine TC.heap (H' := [⟨g, 87, [Value.slice A m c, Value.int .i64 (k : Int), Value.int .i64 co, Value.int .i64 po], 4⟩]) (fun w hs => hs.take hl ne_nil) ?_
  iterate 6 refine gx ?_
  refine TC.mix (by kernel_rfl) [0, 0, 0, 1, 0, 0, 0, 1, 0, 0] rfl (by kernel_rfl) ?_
  refine gx ?_
  refine TM.free (Wants.none rfl) rfl (fun _ => Gets.nilCheck rfl rfl) ?_
  iterate 3 refine gx ?_
  refine TM.free (Wants.none rfl) rfl (fun _ => Gets.nilCheck rfl rfl) ?_
  iterate 2 refine gx ?_
  refine TM.free (Wants.none rfl) rfl (fun _ => Gets.sliceS rfl Try.underlying28 size5 rfl (bnd.at_ (l := k) rfl (by omega)) bnd.dflt (by omega) (by omega) rfl (ln := (m - k)) (cp := (c - k)) (by omega) (by omega)) ?_
  iterate 4 refine gx ?_
  exact TE.ret1 rfl rfl (fun w hs => ⟨rfl, (hs.same hl rfl)⟩)

set_option maxRecDepth 100000 in
set_option maxHeartbeats 400000 in
theorem end_c (g : Nat) (A : Option Addr) (m c k : Nat) (co po : Int) (w : World) (hl : Ent.lies ⟨g, 87, rdC A m c k co po, rdN⟩ w) (hk : k ≤ m) (hmc : m ≤ c) (hcm : c ≤ 9223372036854775807)  : Calls Try.prog 61 #[.pointer (some ⟨g, 0, none⟩)] w fun e w' => e = .returned (.int .i64 (m : Int)) ∧ St w [] w' := by
  refine calls_from (args := [.pointer (some ⟨g, 0, none⟩)]) Try.func61 rfl Try.ntmps61 (by simp) ?_
  refine TC.pr [0] ?_
  refine TC.heap (H' := [⟨g, 87, [Value.slice A m c, Value.int .i64 (k : Int), Value.int .i64 co, Value.int .i64 po], 4⟩]) (fun w hs => hs.take hl ne_nil) ?_
  iterate 8 refine gx ?_
  refine TL.gets (Wants.none rfl) rfl (Gets.nilCheck rfl rfl) ?_
  iterate 7 refine gx ?_
  exact TE.ret1 rfl rfl (fun w hs => ⟨rfl, (hs.same hl rfl)⟩)

set_option maxRecDepth 100000 in
set_option maxHeartbeats 400000 in
theorem pass_c (g : Nat) (A : Option Addr) (m c k : Nat) (n : Nat) (hn : k + n ≤ m) (co po : Int) (w : World) (hl : Ent.lies ⟨g, 87, rdC A m c k co po, rdN⟩ w) (hk : k ≤ m) (hmc : m ≤ c) (hcm : c ≤ 9223372036854775807)  : Calls Try.prog 60 #[.pointer (some ⟨g, 0, none⟩), .int .i64 (n : Int)] w fun e w' => e = .returned (.slice (cutA A c k 1) n (c - k)) ∧ St w [⟨g, 87, rdC A m c (k + n) co po, rdN⟩] w' := by
  refine calls_from (args := [.pointer (some ⟨g, 0, none⟩), .int .i64 (n : Int)]) Try.func60 rfl Try.ntmps60 (by simp) ?_
  refine TC.pr [0, 1] ?_
  refine TC.heap (H' := [⟨g, 87, [Value.slice A m c, Value.int .i64 (k : Int), Value.int .i64 co, Value.int .i64 po], 4⟩]) (fun w hs => hs.take hl ne_nil) ?_
  iterate 8 refine gx ?_
  refine TL.call0 (Wants.none rfl) rfl enters58 rfl rfl (v := .slice (cutA A c k 1) (m - k) (c - k)) (fun w hs => left_c g A m c k co po w (hs.has (⟨g, 87, [Value.slice A m c, Value.int .i64 (k : Int), Value.int .i64 co, Value.int .i64 po], 4⟩) (by simp)) (by omega) (by omega) (by omega)) ?_
  refine gx ?_
  refine TL.gets (Wants.none rfl) rfl (Gets.sliceS rfl Try.underlying28 size5 rfl bnd.dflt (bnd.at_ (l := n) rfl (by omega)) (by omega) (by omega) (cutA_zero _ _ _) (ln := n) (cp := (c - k)) (by omega) (by omega)) ?_
  iterate 6 refine gx ?_
  refine TL.gets (Wants.none rfl) rfl (Gets.nilCheck rfl rfl) ?_
  iterate 3 refine gx ?_
  refine TL.gets (Wants.none rfl) rfl (Gets.add rfl rfl rfl (r := ((k : Int) + (n : Int))) (w64 (by omega) (by omega))) ?_
  refine TL.gets (Wants.none rfl) rfl (Gets.nilCheck rfl rfl) ?_
  refine gx ?_
  refine TL.store1 (Wants.none rfl) rfl rfl size3 rfl rfl rfl (i := 0) rfl rfl (by simp [] <;> omega) (cs' := [Value.slice A m c, Value.int .i64 ((k : Int) + (n : Int)), Value.int .i64 co, Value.int .i64 po]) (rfl) (H' := [⟨g, 87, [Value.slice A m c, Value.int .i64 ((k : Int) + (n : Int)), Value.int .i64 co, Value.int .i64 po], 4⟩]) rfl ?_
  iterate 2 refine gx ?_
  refine TC.pr [4, 5] ?_
  iterate 7 refine gx ?_
  exact TE.ret1 rfl rfl (fun w hs => ⟨rfl, hs⟩)

set_option maxRecDepth 100000 in
set_option maxHeartbeats 400000 in
theorem fault_c (g : Nat) (A : Option Addr) (m c k : Nat) (co po : Int) (w : World) (hl : Ent.lies ⟨g, 87, rdC A m c k co po, rdN⟩ w)  : Calls Try.prog 28 #[.pointer (some ⟨g, 0, none⟩)] w fun e w' => e = .returned (.agg ([Value.int .i64 co, Value.int .i64 po]).toArray) ∧ St w [] w' := by
  refine calls_from (args := [.pointer (some ⟨g, 0, none⟩)]) Try.func28 rfl Try.ntmps28 (by simp) ?_
  refine TC.pr [0] ?_
  refine TC.heap (H' := [⟨g, 87, [Value.slice A m c, Value.int .i64 (k : Int), Value.int .i64 co, Value.int .i64 po], 4⟩]) (fun w hs => hs.take hl ne_nil) ?_
  iterate 2 refine gx ?_
  refine TL.al (fun g1 hg1 => ?_)
  iterate 6 refine gx ?_
  refine TL.gets (Wants.none rfl) rfl (Gets.ptrNil rfl Try.underlying59 rfl rfl) ?_
  iterate 2 refine gx ?_
  refine TC.no rfl ?_
  iterate 5 refine gx ?_
  refine TL.gets (Wants.none rfl) rfl (Gets.nilCheck rfl rfl) ?_
  refine gx ?_
  refine TL.gets (Wants.none rfl) rfl (Gets.loadN rfl agg36 size36 rfl (vs := [Value.int .i64 co, Value.int .i64 po]) rfl (Row.part (i := 1) (ent := ⟨g, 87, [Value.slice A m c, Value.int .i64 (k : Int), Value.int .i64 co, Value.int .i64 po], 4⟩) rfl rfl rfl)) ?_
  iterate 4 refine gx ?_
  exact TE.retC rfl agg36 size36 rfl (vs := [Value.int .i64 co, Value.int .i64 po]) rfl (Row.all (i := 0) (ent := ⟨g1, 36, [Value.int .i64 co, Value.int .i64 po], 2⟩) rfl rfl rfl) (fun w hs => ⟨rfl, ((hs.drop (by assumption)).same hl rfl)⟩)

set_option maxRecDepth 100000 in
set_option maxHeartbeats 400000 in
theorem fault_nil (w : World) : Calls Try.prog 28 #[.pointer none] w fun e w' => e = .returned (.agg ([Value.int .i64 1, Value.int .i64 0]).toArray) ∧ St w [] w' := by
  refine calls_from (args := [.pointer none]) Try.func28 rfl Try.ntmps28 (by simp) ?_
  refine TC.pr [0] ?_
  iterate 2 refine gx ?_
  refine TL.al (fun g1 hg1 => ?_)
  iterate 6 refine gx ?_
  refine TL.gets (Wants.none rfl) rfl (Gets.nilNil rfl Try.underlying59 rfl rfl) ?_
  iterate 2 refine gx ?_
  refine TC.yes rfl ?_
  iterate 2 refine gx ?_
  refine TL.gets (Wants.none rfl) rfl (Gets.build rfl (vs := [(0, Value.int .i64 1)]) rfl (fun w => by first | rfl | kernel_rfl) (v := .agg ([Value.int .i64 1, Value.int .i64 0]).toArray)) ?_
  iterate 5 refine gx ?_
  exact TE.retC rfl agg36 size36 rfl (vs := [Value.int .i64 1, Value.int .i64 0]) rfl (Row.all (i := 0) (ent := ⟨g1, 36, [Value.int .i64 1, Value.int .i64 0], 2⟩) rfl rfl rfl) (fun w hs => ⟨rfl, (hs.drop (by assumption))⟩)

set_option maxRecDepth 100000 in
set_option maxHeartbeats 400000 in
theorem ready_c (g : Nat) (A : Option Addr) (m c k : Nat) (co po : Int) (w : World) (hl : Ent.lies ⟨g, 87, rdC A m c k co po, rdN⟩ w)  : Calls Try.prog 57 #[.pointer (some ⟨g, 0, none⟩)] w fun e w' => e = .returned (.bool (decide (co = 0))) ∧ St w [] w' := by
  refine calls_from (args := [.pointer (some ⟨g, 0, none⟩)]) Try.func57 rfl Try.ntmps57 (by simp) ?_
  refine TC.pr [0] ?_
  refine TC.heap (H' := [⟨g, 87, [Value.slice A m c, Value.int .i64 (k : Int), Value.int .i64 co, Value.int .i64 po], 4⟩]) (fun w hs => hs.take hl ne_nil) ?_
  iterate 8 refine gx ?_
  refine TL.call0 (Wants.none rfl) rfl enters28 rfl rfl (v := .agg ([Value.int .i64 co, Value.int .i64 po]).toArray) (fun w hs => fault_c g A m c k co po w (hs.has (⟨g, 87, [Value.slice A m c, Value.int .i64 (k : Int), Value.int .i64 co, Value.int .i64 po], 4⟩) (by simp))) ?_
  refine TL.gets (Wants.none rfl) rfl (Gets.field1 rfl Try.underlying36 rfl rfl agg29 rfl) ?_
  iterate 5 refine gx ?_
  exact TE.ret1 rfl rfl (fun w hs => ⟨rfl, (hs.same hl rfl)⟩)

set_option maxRecDepth 100000 in
set_option maxHeartbeats 400000 in
theorem ready_nil (w : World) : Calls Try.prog 57 #[.pointer none] w fun e w' => e = .returned (.bool false) ∧ St w [] w' := by
  refine calls_from (args := [.pointer none]) Try.func57 rfl Try.ntmps57 (by simp) ?_
  refine TC.pr [0] ?_
  iterate 8 refine gx ?_
  refine TL.call0 (Wants.none rfl) rfl enters28 rfl rfl (v := .agg ([Value.int .i64 1, Value.int .i64 0]).toArray) (fun w hs => fault_nil w) ?_
  refine TL.gets (Wants.none rfl) rfl (Gets.field1 rfl Try.underlying36 rfl rfl agg29 rfl) ?_
  refine TL.gets (Wants.none rfl) rfl (Gets.isFalse (Gets.eql rfl rfl rfl) (by decide)) ?_
  iterate 4 refine gx ?_
  exact TE.ret1 rfl rfl (fun w hs => ⟨rfl, hs⟩)

set_option maxRecDepth 100000 in
set_option maxHeartbeats 400000 in
theorem at_c (g : Nat) (A : Option Addr) (m c k : Nat) (co po : Int) (w : World) (hl : Ent.lies ⟨g, 87, rdC A m c k co po, rdN⟩ w)  : Calls Try.prog 50 #[.pointer (some ⟨g, 0, none⟩)] w fun e w' => e = .returned (.int .i64 (k : Int)) ∧ St w [] w' := by
  refine calls_from (args := [.pointer (some ⟨g, 0, none⟩)]) Try.func50 rfl Try.ntmps50 (by simp) ?_
  refine TC.pr [0] ?_
  refine TC.heap (H' := [⟨g, 87, [Value.slice A m c, Value.int .i64 (k : Int), Value.int .i64 co, Value.int .i64 po], 4⟩]) (fun w hs => hs.take hl ne_nil) ?_
  iterate 9 refine gx ?_
  refine TL.gets (Wants.none rfl) rfl (Gets.ptrNil rfl Try.underlying59 rfl rfl) ?_
  iterate 2 refine gx ?_
  refine TC.no rfl ?_
  iterate 5 refine gx ?_
  refine TL.gets (Wants.none rfl) rfl (Gets.nilCheck rfl rfl) ?_
  iterate 7 refine gx ?_
  exact TE.ret1 rfl rfl (fun w hs => ⟨rfl, (hs.same hl rfl)⟩)

set_option maxRecDepth 100000 in
set_option maxHeartbeats 400000 in
theorem at_nil (w : World) : Calls Try.prog 50 #[.pointer none] w fun e w' => e = .returned (.int .i64 0) ∧ St w [] w' := by
  refine calls_from (args := [.pointer none]) Try.func50 rfl Try.ntmps50 (by simp) ?_
  refine TC.pr [0] ?_
  iterate 9 refine gx ?_
  refine TL.gets (Wants.none rfl) rfl (Gets.nilNil rfl Try.underlying59 rfl rfl) ?_
  iterate 2 refine gx ?_
  refine TC.yes rfl ?_
  iterate 7 refine gx ?_
  exact TE.ret1 rfl rfl (fun w hs => ⟨rfl, hs⟩)

set_option maxRecDepth 100000 in
set_option maxHeartbeats 400000 in
theorem rest_c (g : Nat) (A : Option Addr) (m c k : Nat) (co po : Int) (w : World) (hl : Ent.lies ⟨g, 87, rdC A m c k co po, rdN⟩ w) (hk : k ≤ m) (hmc : m ≤ c) (hcm : c ≤ 9223372036854775807)  : Calls Try.prog 48 #[.pointer (some ⟨g, 0, none⟩)] w fun e w' => e = .returned (.int .i64 ((m : Int) - (k : Int))) ∧ St w [] w' := by
  refine calls_from (args := [.pointer (some ⟨g, 0, none⟩)]) Try.func48 rfl Try.ntmps48 (by simp) ?_
  refine TC.pr [0] ?_
  refine TC.heap (H' := [⟨g, 87, [Value.slice A m c, Value.int .i64 (k : Int), Value.int .i64 co, Value.int .i64 po], 4⟩]) (fun w hs => hs.take hl ne_nil) ?_
  iterate 9 refine gx ?_
  refine TL.gets (Wants.none rfl) rfl (Gets.ptrNil rfl Try.underlying59 rfl rfl) ?_
  iterate 2 refine gx ?_
  refine TC.no rfl ?_
  iterate 5 refine gx ?_
  refine TL.gets (Wants.none rfl) rfl (Gets.nilCheck rfl rfl) ?_
  refine gx ?_
  refine TL.call0 (Wants.none rfl) rfl enters58 rfl rfl (v := .slice (cutA A c k 1) (m - k) (c - k)) (fun w hs => left_c g A m c k co po w (hs.has (⟨g, 87, [Value.slice A m c, Value.int .i64 (k : Int), Value.int .i64 co, Value.int .i64 po], 4⟩) (by simp)) (by omega) (by omega) (by omega)) ?_
  iterate 5 refine gx ?_
  exact TE.ret1 rfl rfl (fun w hs => ⟨ret_i (by omega), (hs.same hl rfl)⟩)

set_option maxRecDepth 100000 in
set_option maxHeartbeats 400000 in
theorem fail_set (g : Nat) (A : Option Addr) (m c k : Nat) (po d n : Int) (hd : d ≠ 0) (w : World) (hl : Ent.lies ⟨g, 87, rdC A m c k 0 po, rdN⟩ w)  : Calls Try.prog 49 #[.pointer (some ⟨g, 0, none⟩), .int .i64 d, .int .i64 n] w fun e w' => e = .returned (.tuple #[]) ∧ St w [⟨g, 87, rdC A m c k d n, rdN⟩] w' := by
  refine calls_from (args := [.pointer (some ⟨g, 0, none⟩), .int .i64 d, .int .i64 n]) Try.func49 rfl Try.ntmps49 (by simp) ?_
  refine TC.pr [0, 1, 2] ?_
  refine TC.heap (H' := [⟨g, 87, [Value.slice A m c, Value.int .i64 (k : Int), Value.int .i64 0, Value.int .i64 po], 4⟩]) (fun w hs => hs.take hl ne_nil) ?_
  iterate 3 refine gx ?_
  refine TL.call0 (Wants.none rfl) rfl enters57 rfl rfl (v := .bool true) (fun w hs => calls_yes rfl (ready_c g A m c k 0 po w (hs.has (⟨g, 87, [Value.slice A m c, Value.int .i64 (k : Int), Value.int .i64 0, Value.int .i64 po], 4⟩) (by simp)))) ?_
  iterate 2 refine gx ?_
  refine TL.gets (Wants.yes rfl rfl rfl) rfl (Gets.isTrue (Gets.neq rfl rfl rfl) hd) ?_
  iterate 3 refine gx ?_
  refine TC.pr [0, 1, 2, 11] ?_
  refine TC.yes rfl ?_
  iterate 4 refine gx ?_
  refine TL.gets (Wants.none rfl) rfl (Gets.build rfl (vs := [(0, Value.int .i64 d), (1, Value.int .i64 n)]) rfl (fun w => by first | rfl | kernel_rfl) (v := .agg ([Value.int .i64 d, Value.int .i64 n]).toArray)) ?_
  refine TL.gets (Wants.none rfl) rfl (Gets.nilCheck rfl rfl) ?_
  refine gx ?_
  refine TL.storeN (Wants.none rfl) rfl rfl size36 rfl (vs := [Value.int .i64 d, Value.int .i64 n]) rfl rfl (by simp [Value.oneCell']) (i := 0) (ent := ⟨g, 87, [Value.slice A m c, Value.int .i64 (k : Int), Value.int .i64 0, Value.int .i64 po], 4⟩) rfl rfl (by simp) (cs' := [Value.slice A m c, Value.int .i64 (k : Int), Value.int .i64 d, Value.int .i64 n]) rfl (H' := [⟨g, 87, [Value.slice A m c, Value.int .i64 (k : Int), Value.int .i64 d, Value.int .i64 n], 4⟩]) rfl ?_
  refine gx ?_
  exact TE.end0 rfl (fun w hs => ⟨rfl, hs⟩)

set_option maxRecDepth 100000 in
set_option maxHeartbeats 400000 in
theorem fail_dead (g : Nat) (A : Option Addr) (m c k : Nat) (co po d n : Int) (hco : co ≠ 0) (w : World) (hl : Ent.lies ⟨g, 87, rdC A m c k co po, rdN⟩ w)  : Calls Try.prog 49 #[.pointer (some ⟨g, 0, none⟩), .int .i64 d, .int .i64 n] w fun e w' => e = .returned (.tuple #[]) ∧ St w [] w' := by
  refine calls_from (args := [.pointer (some ⟨g, 0, none⟩), .int .i64 d, .int .i64 n]) Try.func49 rfl Try.ntmps49 (by simp) ?_
  refine TC.pr [0, 1, 2] ?_
  refine TC.heap (H' := [⟨g, 87, [Value.slice A m c, Value.int .i64 (k : Int), Value.int .i64 co, Value.int .i64 po], 4⟩]) (fun w hs => hs.take hl ne_nil) ?_
  iterate 3 refine gx ?_
  refine TL.call0 (Wants.none rfl) rfl enters57 rfl rfl (v := .bool false) (fun w hs => calls_no hco (ready_c g A m c k co po w (hs.has (⟨g, 87, [Value.slice A m c, Value.int .i64 (k : Int), Value.int .i64 co, Value.int .i64 po], 4⟩) (by simp)))) ?_
  iterate 6 refine gx ?_
  refine TC.pr [0, 1, 2, 11] ?_
  refine TC.no rfl ?_
  refine gx ?_
  exact TE.end0 rfl (fun w hs => ⟨rfl, (hs.same hl rfl)⟩)

set_option maxRecDepth 100000 in
set_option maxHeartbeats 400000 in
theorem fail_nil (d n : Int) (w : World) : Calls Try.prog 49 #[.pointer none, .int .i64 d, .int .i64 n] w fun e w' => e = .returned (.tuple #[]) ∧ St w [] w' := by
  refine calls_from (args := [.pointer none, .int .i64 d, .int .i64 n]) Try.func49 rfl Try.ntmps49 (by simp) ?_
  refine TC.pr [0, 1, 2] ?_
  iterate 3 refine gx ?_
  refine TL.call0 (Wants.none rfl) rfl enters57 rfl rfl (v := .bool false) (fun w hs => ready_nil w) ?_
  iterate 6 refine gx ?_
  refine TC.pr [0, 1, 2, 11] ?_
  refine TC.no rfl ?_
  refine gx ?_
  exact TE.end0 rfl (fun w hs => ⟨rfl, hs⟩)
end Go.Proofs.Ytclmgfcdnokaiaa
