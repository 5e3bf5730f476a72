/-
  The reference's Extend, Of and Seal; the program's Seal.
-/
import Derived.Test.YtilmoheipkncfaaDoorChkA
namespace Go.Proofs.YtilmoheipkncfaaDoor
set_option linter.unusedVariables false
set_option linter.unusedSimpArgs false
open Go Go.RowKit
theorem enters10 : Enters Tryd.prog 10 := ⟨_, Tryd.func10, by kernel_rfl, by kernel_rfl⟩
theorem enters11 : Enters Tryd.prog 11 := ⟨_, Tryd.func11, by kernel_rfl, by kernel_rfl⟩
theorem enters20 : Enters Tryd.prog 20 := ⟨_, Tryd.func20, by kernel_rfl, by kernel_rfl⟩
theorem enters22 : Enters Tryd.prog 22 := ⟨_, Tryd.func22, by kernel_rfl, by kernel_rfl⟩
theorem mk5 : (Tryd.prog.info? 5).map (fun i => (i.zero, i.size, i.bytes)) = some (some (.int .u8 0), 1, 1) := by kernel_rfl
theorem zero5 : (Tryd.prog.info? 5).bind (·.zero) = some (.int .u8 0) := by kernel_rfl
theorem zero24 : (Tryd.prog.info? 24).bind (·.zero) = some (.slice none 0 0) := by kernel_rfl
set_option maxRecDepth 100000 in
set_option maxHeartbeats 400000 in
theorem rextend_c (s : BitVec 32) (M : List Int) (hM : Bytes M) (A : Option Addr) (m c : Nat) (w : World) (hsM : Src w A m .u8 M) (hmc : m ≤ c) (hcm : c ≤ 9223372036854775807) : Calls Tryd.prog 20 #[.int .u32 (vI s), .slice A m c] w fun e w' => e = .returned (.int .u32 (vI (crcV s M))) ∧ St w [] w' := by
  refine calls_from (args := [.int .u32 (vI s), .slice A m c]) Tryd.func20 rfl Tryd.ntmps20 (by simp) ?_
  refine TC.sub (Sub.cons (i := 0) rfl (Sub.cons (i := 1) rfl (Sub.nil))) ?_
  refine TC.seq ?_
  refine TC.regionL ?_
  refine TL.gets (Wants.none rfl) rfl (Gets.assign rfl rfl) ?_
  refine TL.nil ?_
  refine TE.then ?_
  refine TC.seq ?_
  refine TC.regionL ?_
  refine TL.gets (Wants.none rfl) rfl (Gets.move rfl rfl) ?_
  refine TL.gets (Wants.none rfl) rfl (Gets.congr (Gets.cplU rfl rfl) (by rw [cpl_v])) ?_
  refine TL.gets (Wants.none rfl) rfl (Gets.assign rfl rfl) ?_
  refine TL.nil ?_
  refine TE.then ?_
  refine TC.seq ?_
  refine TC.seq ?_
  refine TC.regionL ?_
  refine TL.gets (Wants.none rfl) rfl (Gets.assign rfl rfl) ?_
  refine TL.nil ?_
  refine TE.then ?_
  refine TC.block ?_
  refine TC.loop (ι := Nat) (fun i => [(1, .slice A m c), (5, .int .u32 (vI (regV (~~~ s) (M.take i)))), (6, .int .i64 (i : Int))]) (fun i => []) (fun i => m - i) (fun i => i ≤ m) 0 (Nat.zero_le _) (Sub.slice (i := 1) rfl rfl (by first | omega | (dsimp only; omega) | rfl) (by first | omega | (dsimp only; omega) | rfl) (Sub.int (i := 5) rfl (by rw [List.take_zero, regV_nil]) (Sub.int (i := 6) rfl (by first | omega | rfl) (Sub.nil)))) (fun w h => h) (fun i hC0 => ?_)
  refine TC.seq ?_
  refine TC.seq ?_
  refine TC.regionL ?_
  refine TL.gets (Wants.none rfl) rfl (Gets.move rfl rfl) ?_
  refine TL.gets (Wants.none rfl) rfl (Gets.move rfl rfl) ?_
  refine TL.gets (Wants.none rfl) rfl (Gets.lenSlice rfl Tryd.underlying24 rfl) ?_
  refine TL.gets (Wants.none rfl) rfl (Gets.lss rfl rfl rfl) ?_
  refine TL.nil ?_
  refine TE.then ?_
  refine TC.split rfl (fun hq0 => ?_) (fun hq0 => ?_)
  · obtain ⟨b, off, hA, hb, hr⟩ := hsM.2.resolve_left (by omega)
    subst hA
    have hMi := hM.get i
    refine TC.skip ?_
    refine TE.then ?_
    refine TC.seq ?_
    refine TC.block ?_
    refine TC.seq ?_
    refine TC.regionL ?_
    refine TL.gets (Wants.none rfl) rfl (Gets.move rfl rfl) ?_
    refine TL.gets (Wants.none rfl) rfl (Gets.move rfl rfl) ?_
    refine TL.gets (Wants.none rfl) rfl (Gets.move rfl rfl) ?_
    refine TL.gets (Wants.none rfl) rfl (Gets.idxSlice rfl Tryd.underlying24 size5 rfl rfl (i := i) (by omega) (by omega) (off' := (off + i)) (by omega)) ?_
    refine TL.gets (Wants.none rfl) rfl (Gets.load1 rfl agg5 rfl (At.rowI hr (i := i) (by omega) (by omega) hb ne_nil)) ?_
    refine TL.gets (Wants.none rfl) rfl (Gets.conv rfl Tryd.underlying5 Tryd.underlying25 rfl (r := (M.getD i 0)) (wu32 rfl (by omega))) ?_
    refine TL.gets (Wants.none rfl) rfl (Gets.congr (Gets.xor rfl rfl rfl rfl) (by rw [xor_byte _ (hM.get i)])) ?_
    refine TL.gets (Wants.none rfl) rfl (Gets.assign rfl rfl) ?_
    refine TL.nil ?_
    refine TE.then ?_
    refine TC.sub (Sub.cons (i := 1) rfl (Sub.cons (i := 5) rfl (Sub.cons (i := 6) rfl (Sub.nil)))) ?_
    refine TC.seq ?_
    refine TC.regionL ?_
    refine TL.gets (Wants.none rfl) rfl (Gets.assign rfl rfl) ?_
    refine TL.nil ?_
    refine TE.then ?_
    refine TC.block ?_
    refine TC.loop (ι := Nat) (fun k => [(1, .slice (some ⟨b, off, none⟩) m c), (5, .int .u32 (vI (shV ((regV (~~~ s) (M.take i)) ^^^ byteV (M.getD i 0)) k))), (6, .int .i64 (i : Int)), (7, .int .i64 (k : Int))]) (fun k => []) (fun k => 8 - k) (fun k => k ≤ 8) 0 (Nat.zero_le _) (Sub.slice (i := 1) rfl rfl (by first | omega | (dsimp only; omega) | rfl) (by first | omega | (dsimp only; omega) | rfl) (Sub.int (i := 5) rfl (by rw [shV_none]) (Sub.int (i := 6) rfl (by first | omega | rfl) (Sub.int (i := 7) rfl (by first | omega | rfl) (Sub.nil))))) (fun w h => h) (fun k hC1 => ?_)
    refine TC.seq ?_
    refine TC.seq ?_
    refine TC.regionL ?_
    refine TL.gets (Wants.none rfl) rfl (Gets.move rfl rfl) ?_
    refine TL.gets (Wants.none rfl) rfl (Gets.lss rfl rfl rfl) ?_
    refine TL.nil ?_
    refine TE.then ?_
    refine TC.split rfl (fun hq1 => ?_) (fun hq1 => ?_)
    · refine TC.skip ?_
      refine TE.then ?_
      refine TC.seq ?_
      refine TC.block ?_
      refine TC.seq ?_
      refine TC.regionL ?_
      refine TL.gets (Wants.none rfl) rfl (Gets.move rfl rfl) ?_
      refine TL.gets (Wants.none rfl) rfl (Gets.and rfl rfl rfl (r := (andI .u32 (vI (shV ((regV (~~~ s) (M.take i)) ^^^ byteV (M.getD i 0)) k)) 1)) rfl) ?_
      refine TL.gets (Wants.none rfl) rfl (Gets.assign rfl rfl) ?_
      refine TL.nil ?_
      refine TE.then ?_
      refine TC.sub (Sub.cons (i := 1) rfl (Sub.cons (i := 5) rfl (Sub.cons (i := 6) rfl (Sub.cons (i := 7) rfl (Sub.cons (i := 8) rfl (Sub.nil)))))) ?_
      refine TC.seq ?_
      refine TC.regionL ?_
      refine TL.gets (Wants.none rfl) rfl (Gets.move rfl rfl) ?_
      refine TL.gets (Wants.none rfl) rfl (Gets.shr rfl rfl rfl (by omega) (r := (shrI .u32 (vI (shV ((regV (~~~ s) (M.take i)) ^^^ byteV (M.getD i 0)) k)) 1)) rfl) ?_
      refine TL.gets (Wants.none rfl) rfl (Gets.assign rfl rfl) ?_
      refine TL.nil ?_
      refine TE.then ?_
      refine TC.seq ?_
      refine TC.regionL ?_
      refine TL.gets (Wants.none rfl) rfl (Gets.move rfl rfl) ?_
      refine TL.gets (Wants.none rfl) rfl (Gets.eql rfl rfl rfl) ?_
      refine TL.nil ?_
      refine TE.then ?_
      refine TC.sub (Sub.cons (i := 1) rfl (Sub.cons (i := 5) rfl (Sub.cons (i := 6) rfl (Sub.cons (i := 7) rfl (Sub.cons (i := 33) rfl (Sub.nil)))))) ?_
      refine TC.split rfl (fun hq2 => ?_) (fun hq2 => ?_)
      · refine TC.regionL ?_
        refine TL.gets (Wants.none rfl) rfl (Gets.move rfl rfl) ?_
        refine TL.gets (Wants.none rfl) rfl (Gets.congr (Gets.xor rfl rfl rfl rfl) (by rw [step_yes hq2])) ?_
        refine TL.gets (Wants.none rfl) rfl (Gets.assign rfl rfl) ?_
        refine TL.nil ?_
        refine TE.blockN ?_
        refine TE.then ?_
        refine TC.regionL ?_
        refine TL.gets (Wants.none rfl) rfl (Gets.move rfl rfl) ?_
        refine TL.gets (Wants.none rfl) rfl (Gets.add rfl rfl rfl (r := ((k : Int) + 1)) (w64 (by omega) (by omega))) ?_
        refine TL.gets (Wants.none rfl) rfl (Gets.assign rfl rfl) ?_
        refine TL.nil ?_
        exact TE.back (k + 1) (by omega) (by omega) (Sub.slice (i := 1) rfl rfl (by first | omega | (dsimp only; omega) | rfl) (by first | omega | (dsimp only; omega) | rfl) (Sub.int (i := 5) rfl (by first | rw [step_no hq2, shV_succ] | rw [shV_succ]) (Sub.int (i := 6) rfl (by first | omega | rfl) (Sub.int (i := 7) rfl (by first | omega | rfl) (Sub.nil))))) (fun w h => h)
      · refine TC.skip ?_
        refine TE.blockN ?_
        refine TE.then ?_
        refine TC.regionL ?_
        refine TL.gets (Wants.none rfl) rfl (Gets.move rfl rfl) ?_
        refine TL.gets (Wants.none rfl) rfl (Gets.add rfl rfl rfl (r := ((k : Int) + 1)) (w64 (by omega) (by omega))) ?_
        refine TL.gets (Wants.none rfl) rfl (Gets.assign rfl rfl) ?_
        refine TL.nil ?_
        exact TE.back (k + 1) (by omega) (by omega) (Sub.slice (i := 1) rfl rfl (by first | omega | (dsimp only; omega) | rfl) (by first | omega | (dsimp only; omega) | rfl) (Sub.int (i := 5) rfl (by first | rw [step_no hq2, shV_succ] | rw [shV_succ]) (Sub.int (i := 6) rfl (by first | omega | rfl) (Sub.int (i := 7) rfl (by first | omega | rfl) (Sub.nil))))) (fun w h => h)
    · obtain rfl : k = 8 := by omega
      refine TC.exit ?_
      refine TE.thenX ?_
      refine TE.thenX ?_
      refine TE.blockX ?_
      refine TE.blockN ?_
      refine TE.then ?_
      refine TC.regionL ?_
      refine TL.gets (Wants.none rfl) rfl (Gets.move rfl rfl) ?_
      refine TL.gets (Wants.none rfl) rfl (Gets.add rfl rfl rfl (r := ((i : Int) + 1)) (w64 (by omega) (by omega))) ?_
      refine TL.gets (Wants.none rfl) rfl (Gets.assign rfl rfl) ?_
      refine TL.nil ?_
      exact TE.back (i + 1) (by omega) (by omega) (Sub.slice (i := 1) rfl (by first | rfl | (congr 2; omega)) (by first | omega | (dsimp only; omega) | rfl) (by first | omega | (dsimp only; omega) | rfl) (Sub.int (i := 5) rfl (by have hl1 := hsM.1; rw [take_snoc (by omega), regV_snoc, nextV_is]) (Sub.int (i := 6) rfl (by first | omega | rfl) (Sub.nil)))) (fun w h => h)
  · have hall : M.take i = M := List.take_of_length_le (by have := hsM.1; omega)
    refine TC.exit ?_
    refine TE.thenX ?_
    refine TE.thenX ?_
    refine TE.blockX ?_
    refine TE.then ?_
    refine TC.seq ?_
    refine TC.regionL ?_
    refine TL.gets (Wants.none rfl) rfl (Gets.move rfl rfl) ?_
    refine TL.gets (Wants.none rfl) rfl (Gets.congr (Gets.cplU rfl rfl) (by rw [cpl_v, hall, crc_reg])) ?_
    refine TL.gets (Wants.none rfl) rfl (Gets.assign rfl rfl) ?_
    refine TL.nil ?_
    refine TE.then ?_
    refine TC.ret ?_
    exact TE.ret1 rfl rfl (fun w hs => ⟨rfl, hs⟩)


theorem rextend0_c (M : List Int) (hM : Bytes M) (A : Option Addr) (m c : Nat) (w : World) (hsM : Src w A m .u8 M) (hmc : m ≤ c) (hcm : c ≤ 9223372036854775807) : Calls Tryd.prog 20 #[.int .u32 0, .slice A m c] w fun e w' => e = .returned (.int .u32 (vI (crcV 0#32 M))) ∧ St w [] w' := by
  have h := rextend_c 0#32 M hM A m c w hsM hmc hcm
  rw [vI_zero] at h
  exact h

set_option maxRecDepth 100000 in
set_option maxHeartbeats 400000 in
theorem rof_c (M : List Int) (hM : Bytes M) (A : Option Addr) (m c : Nat) (w : World) (hsM : Src w A m .u8 M) (hmc : m ≤ c) (hcm : c ≤ 9223372036854775807) : Calls Tryd.prog 11 #[.slice A m c] w fun e w' => e = .returned (.int .u32 (vI (crcV 0#32 M))) ∧ St w [] w' := by
  refine calls_from (args := [.slice A m c]) Tryd.func11 rfl Tryd.ntmps11 (by simp) ?_
  refine TC.sub (Sub.cons (i := 0) rfl (Sub.nil)) ?_
  refine TC.seq ?_
  refine TC.regionL ?_
  refine TL.gets (Wants.none rfl) rfl (Gets.assign rfl rfl) ?_
  refine TL.nil ?_
  refine TE.then ?_
  refine TC.seq ?_
  refine TC.regionL ?_
  refine TL.gets (Wants.none rfl) rfl (Gets.move rfl rfl) ?_
  refine TL.call0 (Wants.none rfl) rfl enters20 rfl rfl (v := .int .u32 (vI (crcV 0#32 M))) (fun w hs => rextend0_c M hM A m c w (hsM.at_ hs (fun b hb => ne_nil)) hmc hcm) ?_
  refine TL.gets (Wants.none rfl) rfl (Gets.assign rfl rfl) ?_
  refine TL.nil ?_
  refine TE.then ?_
  refine TC.ret ?_
  exact TE.ret1 rfl rfl (fun w hs => ⟨rfl, hs⟩)


theorem of1_c (M : List Int) (A : Option Addr) (m c gp t tot : Nat) (w : World) (hl : Ent.lies ⟨gp, t, [Value.slice A m c], tot⟩ w) (hsM : Src w A m .u8 M) (hmc : m ≤ c) (hm : m ≤ 4611686018427387000) (h1 : 1 < w.heap.size) (hLO : RowI w 0 0 16 .u32 LOWT) (hHI : RowI w 1 0 16 .u32 HIGHT) : Calls Tryd.prog 10 #[.slice (some ⟨gp, 0, none⟩) 1 1] w fun e w' => e = .returned (.int .u32 (vI (crcV 0#32 M))) ∧ St w [] w' := by
  have hb : ∀ i, i < 1 → ([M].getD i []).length ≤ 4611686018427387000 := fun i hi => by
    obtain rfl : i = 0 := by omega
    show M.length ≤ _
    rw [hsM.1]; exact hm
  have h := of_c [M] (some ⟨gp, 0, none⟩) 1 1 w (parts_one hl hsM hmc) (Nat.le_refl _) (by omega) hb h1 hLO hHI
  rw [show [M].flatten = M by simp] at h
  exact h


theorem src_none {w : World} {A : Option Addr} {m : Nat} {kd : IntKind} {B : List Int} (h : Src w A m kd B) (hA : A = none) : m = 0 := by
  rcases h.2 with h | ⟨b, off, h, _⟩
  · exact h
  · rw [hA] at h; cases h
theorem Src.tail {w : World} {b off m l n : Nat} {kd : IntKind} {B : List Int} (h : Src w (some ⟨b, off, none⟩) m kd B) (hl : l + n = m) : Src w (some ⟨b, off + l, none⟩) n kd (B.drop l) := by
  have h2 := h.cut (l := l) (n := n) (by omega)
  have h3 : (B.drop l).take n = B.drop l := List.take_of_length_le (by rw [List.length_drop, h.1]; omega)
  rwa [h3] at h2

set_option maxRecDepth 100000 in
set_option maxHeartbeats 400000 in
theorem seal_c (M : List Int) (A : Option Addr) (m c : Nat) (w : World) (hsM : Src w A m .u8 M) (hmc : m ≤ c) (hm : m ≤ 1000000) (h1 : 1 < w.heap.size) (hLO : RowI w 0 0 16 .u32 LOWT) (hHI : RowI w 1 0 16 .u32 HIGHT) : Calls Tryd.prog 13 #[.slice A m c] w fun e w' => ∃ g c', e = .returned (.slice (some ⟨g, 0, none⟩) (m + 4) c') ∧ w.heap.size ≤ g ∧ m + 4 ≤ c' ∧ c' ≤ maxLen ∧ St w [⟨g, 5, (sealB M).map (Value.int .u8), c'⟩] w' := by
  refine calls_from (args := [.slice A m c]) Tryd.func13 rfl Tryd.ntmps13 (by simp) ?_
  refine TC.sub (Sub.cons (i := 0) rfl (Sub.nil)) ?_
  refine TC.seq ?_
  refine TC.regionL ?_
  refine TL.gets (Wants.none rfl) rfl (Gets.assign rfl rfl) ?_
  refine TL.nil ?_
  refine TE.then ?_
  refine TC.seq ?_
  refine TC.regionL ?_
  refine TL.gets (Wants.none rfl) rfl (Gets.move rfl rfl) ?_
  refine TL.buildSlice (Wants.none rfl) rfl rfl Tryd.underlying22 size24 zero24 rfl (by decide) (by decide) (cells := #[.slice A m c]) (tot := 1) (by kernel_rfl) (cs := [.slice A m c]) rfl rfl (fun g1 hg1 => ?_)
  refine TL.call0 (Wants.none rfl) rfl enters10 rfl rfl (v := .int .u32 (vI (crcV 0#32 M))) (fun w hs => of1_c M A m c g1 24 1 w (hs.has (⟨g1, 24, [Value.slice A m c], 1⟩) (by simp)) (hsM.at_ hs (fun b hb => (ne_cons (by show g1 ≠ b; omega) ne_nil))) (by omega) (by omega) (Nat.lt_of_lt_of_le h1 hs.size) (hLO.keepH hs (by omega) (ne_cons (by show g1 ≠ 0; omega) ne_nil)) (hHI.keepH hs h1 (ne_cons (by show g1 ≠ 1; omega) ne_nil))) ?_
  refine TL.call0 (Wants.none rfl) rfl enters22 rfl rfl (v := .agg ((encB (crcV 0#32 M)).map (Value.int .u8)).toArray) (fun w hs => encode_c (crcV 0#32 M) w) ?_
  refine TL.alloc (Wants.none rfl) rfl rfl zero44 (cs := [Value.int .u8 0, Value.int .u8 0, Value.int .u8 0, Value.int .u8 0]) rfl (tot := 4) (by simp) (fun g2 hg2 => ?_)
  refine TL.storeW (Wants.none rfl) rfl rfl size44 rfl (vs := (encB (crcV 0#32 M)).map (Value.int .u8)) rfl (by simp [(encB_len (crcV 0#32 M))]) ints_one (i := 0) (ent := ⟨g2, 44, [Value.int .u8 0, Value.int .u8 0, Value.int .u8 0, Value.int .u8 0], 4⟩) rfl rfl (by simp []) (H' := [⟨g2, 44, (encB (crcV 0#32 M)).map (Value.int .u8), 4⟩, ⟨g1, 24, [Value.slice A m c], 1⟩]) rfl ?_
  refine TL.nil ?_
  refine TE.then ?_
  refine TC.seq ?_
  refine TC.mix3 (by kernel_rfl) [0, 0, 0, 0, 0, 0, 0, 3, 0] rfl (by kernel_rfl) ?_
  refine TN.free (Wants.none rfl) rfl (fun _ => Gets.move rfl rfl) ?_
  refine TN.free (Wants.none rfl) rfl (fun _ => Gets.move rfl rfl) ?_
  refine TN.free (Wants.none rfl) rfl (fun _ => Gets.lenSlice rfl Tryd.underlying24 rfl) ?_
  refine TN.free (Wants.none rfl) rfl (fun _ => Gets.move rfl rfl) ?_
  refine TN.free (Wants.none rfl) rfl (fun _ => Gets.lenSlice rfl Tryd.underlying24 rfl) ?_
  refine TN.free (Wants.none rfl) rfl (fun _ => Gets.sliceS3 rfl Tryd.underlying24 size5 rfl (l := 0) (h := m) (c := m) bnd.dflt (bnd.at_ (l := m) rfl (by omega)) (bnd.at_ (l := m) rfl (by omega)) (by omega) (by omega) (by omega) (cutA_zero _ _ _) (ln := m) (cp := m) (by omega) (by omega)) ?_
  refine TN.free (Wants.none rfl) rfl (fun _ => Gets.sliceA rfl Tryd.underlying44 size5 rfl bnd.dflt bnd.dflt (by omega) (by omega) (cutA_zero _ _ _) (ln := 4) (cp := 4) (by omega) (by omega)) ?_
  refine TN.appendFull (H := [⟨g2, 44, (encB (crcV 0#32 M)).map (Value.int .u8), 4⟩, ⟨g1, 24, [Value.slice A m c], 1⟩]) (sl := 4) (t := 24) (e := 5) (kd := .u8) (Wants.none rfl) rfl rfl Tryd.underlying24 mk5 rfl rfl rfl (W := M) (B := encB (crcV 0#32 M)) (fun w hs => hsM.at_ hs (fun b hb => (ne_cons (by show g2 ≠ b; omega) (ne_cons (by show g1 ≠ b; omega) ne_nil)))) (fun w hs => src_ent (W := encB (crcV 0#32 M)) (hs.has (⟨g2, 44, (encB (crcV 0#32 M)).map (Value.int .u8), 4⟩) (by simp)) (encB_len _)) (by omega) (fun h => src_none hsM h) (by unfold maxLen; omega) (by omega) (fun vo Ho ho hne => ?_)
  rw [show M ++ encB (crcV 0#32 M) = sealB M from rfl] at ho
  obtain ⟨gs, cs, rfl, rfl, hgs, hcs, hms⟩ := own_some ho hne
  have hls : (sealB M).length = (m + 4) := sealB_len hsM.1
  rw [hls] at hcs ⊢
  refine TN.free (Wants.none rfl) rfl (fun _ => Gets.assign rfl rfl) ?_
  refine TN.nil ?_
  refine TE.then ?_
  refine TC.ret ?_
  exact TE.ret1 rfl rfl (fun w hs => ⟨gs, cs, rfl, hgs, hcs, hms, (hs.drop (by assumption)).drop (by assumption)⟩)

set_option maxRecDepth 100000 in
set_option maxHeartbeats 400000 in
theorem rseal_c (M : List Int) (hM : Bytes M) (A : Option Addr) (m c : Nat) (w : World) (hsM : Src w A m .u8 M) (hmc : m ≤ c) (hcm : c ≤ 9223372036854775807) (hm : m ≤ 1000000) : Calls Tryd.prog 14 #[.slice A m c] w fun e w' => ∃ g c', e = .returned (.slice (some ⟨g, 0, none⟩) (m + 4) c') ∧ w.heap.size ≤ g ∧ m + 4 ≤ c' ∧ c' ≤ maxLen ∧ St w [⟨g, 5, (sealB M).map (Value.int .u8), c'⟩] w' := by
  refine calls_from (args := [.slice A m c]) Tryd.func14 rfl Tryd.ntmps14 (by simp) ?_
  refine TC.sub (Sub.cons (i := 0) rfl (Sub.nil)) ?_
  refine TC.seq ?_
  refine TC.regionL ?_
  refine TL.gets (Wants.none rfl) rfl (Gets.assign rfl rfl) ?_
  refine TL.nil ?_
  refine TE.then ?_
  refine TC.seq ?_
  refine TC.regionL ?_
  refine TL.gets (Wants.none rfl) rfl (Gets.move rfl rfl) ?_
  refine TL.call0 (Wants.none rfl) rfl enters11 rfl rfl (v := .int .u32 (vI (crcV 0#32 M))) (fun w hs => rof_c M hM A m c w (hsM.at_ hs (fun b hb => ne_nil)) (by omega) (by omega)) ?_
  refine TL.gets (Wants.none rfl) rfl (Gets.assign rfl rfl) ?_
  refine TL.nil ?_
  refine TE.then ?_
  refine TC.seq ?_
  refine TC.regionL ?_
  refine TL.emptySlice (Wants.none rfl) rfl rfl Tryd.underlying24 size5 (fun g1 hg1 => ?_)
  refine TL.gets (Wants.none rfl) rfl (Gets.move rfl rfl) ?_
  refine TL.appendOwn (H := []) (He := [⟨g1, 5, ([] : List Int).map (Value.int .u8), 0⟩]) (Wants.none rfl) rfl rfl Tryd.underlying24 mk5 rfl rfl rfl (W := []) (B := M) (.inr ⟨g1, 0, rfl, rfl, hg1, Nat.le_refl _, by unfold maxLen; omega⟩) (fun w hs => hsM.at_ hs (fun b hb => ne_app ne_nil (ne_cons (by show g1 ≠ b; omega) ne_nil))) (by simp only [List.length_nil]; omega) (by simp only [List.length_nil]; omega) (fun vo Ho ho hne => ?_)
  rw [List.nil_append] at ho
  refine TL.gets (Wants.none rfl) rfl (Gets.move rfl rfl) ?_
  refine TL.gets (Wants.none rfl) rfl (Gets.conv rfl Tryd.underlying25 Tryd.underlying5 rfl (r := (IntKind.u8.wrap (vI (crcV 0#32 M)))) rfl) ?_
  refine TL.gets (Wants.none rfl) rfl (Gets.move rfl rfl) ?_
  refine TL.gets (Wants.none rfl) rfl (Gets.shr rfl rfl rfl (by omega) (r := (shrI .u32 (vI (crcV 0#32 M)) 8)) rfl) ?_
  refine TL.gets (Wants.none rfl) rfl (Gets.conv rfl Tryd.underlying25 Tryd.underlying5 rfl (r := (IntKind.u8.wrap (shrI .u32 (vI (crcV 0#32 M)) 8))) rfl) ?_
  refine TL.gets (Wants.none rfl) rfl (Gets.move rfl rfl) ?_
  refine TL.gets (Wants.none rfl) rfl (Gets.shr rfl rfl rfl (by omega) (r := (shrI .u32 (vI (crcV 0#32 M)) 16)) rfl) ?_
  refine TL.gets (Wants.none rfl) rfl (Gets.conv rfl Tryd.underlying25 Tryd.underlying5 rfl (r := (IntKind.u8.wrap (shrI .u32 (vI (crcV 0#32 M)) 16))) rfl) ?_
  refine TL.gets (Wants.none rfl) rfl (Gets.move rfl rfl) ?_
  refine TL.gets (Wants.none rfl) rfl (Gets.shr rfl rfl rfl (by omega) (r := (shrI .u32 (vI (crcV 0#32 M)) 24)) rfl) ?_
  refine TL.gets (Wants.none rfl) rfl (Gets.conv rfl Tryd.underlying25 Tryd.underlying5 rfl (r := (IntKind.u8.wrap (shrI .u32 (vI (crcV 0#32 M)) 24))) rfl) ?_
  refine TL.buildSlice (Wants.none rfl) rfl rfl Tryd.underlying24 size5 zero5 rfl (by decide) (by decide) (cells := #[.int .u8 (IntKind.u8.wrap (vI (crcV 0#32 M))), .int .u8 (IntKind.u8.wrap (shrI .u32 (vI (crcV 0#32 M)) 8)), .int .u8 (IntKind.u8.wrap (shrI .u32 (vI (crcV 0#32 M)) 16)), .int .u8 (IntKind.u8.wrap (shrI .u32 (vI (crcV 0#32 M)) 24))]) (tot := 4) (by kernel_rfl) (cs := [.int .u8 (IntKind.u8.wrap (vI (crcV 0#32 M))), .int .u8 (IntKind.u8.wrap (shrI .u32 (vI (crcV 0#32 M)) 8)), .int .u8 (IntKind.u8.wrap (shrI .u32 (vI (crcV 0#32 M)) 16)), .int .u8 (IntKind.u8.wrap (shrI .u32 (vI (crcV 0#32 M)) 24))]) rfl rfl (fun g2 hg2 => ?_)
  refine TL.appendOwn (H := [⟨g2, 5, [Value.int .u8 (IntKind.u8.wrap (vI (crcV 0#32 M))), Value.int .u8 (IntKind.u8.wrap (shrI .u32 (vI (crcV 0#32 M)) 8)), Value.int .u8 (IntKind.u8.wrap (shrI .u32 (vI (crcV 0#32 M)) 16)), Value.int .u8 (IntKind.u8.wrap (shrI .u32 (vI (crcV 0#32 M)) 24))], 4⟩]) (He := Ho) (sl := 4) (t := 24) (e := 5) (kd := .u8) (Wants.none rfl) rfl rfl Tryd.underlying24 mk5 rfl rfl rfl (W := M) (B := encB (crcV 0#32 M)) ho (fun w hs => src_ent (W := encB (crcV 0#32 M)) (hs.has ⟨g2, 5, [Value.int .u8 (IntKind.u8.wrap (vI (crcV 0#32 M))), Value.int .u8 (IntKind.u8.wrap (shrI .u32 (vI (crcV 0#32 M)) 8)), Value.int .u8 (IntKind.u8.wrap (shrI .u32 (vI (crcV 0#32 M)) 16)), Value.int .u8 (IntKind.u8.wrap (shrI .u32 (vI (crcV 0#32 M)) 24))], 4⟩ (by simp)) rfl) (by have := hsM.1; omega) (by have := hsM.1; omega) (fun vp Hp hp hnp => ?_)
  rw [show M ++ encB (crcV 0#32 M) = sealB M from rfl] at hp
  obtain ⟨gs, cs, rfl, rfl, hgs, hcs, hms⟩ := own_some hp (hnp (hne (by intro h; cases h)))
  have hls : (sealB M).length = (m + 4) := sealB_len hsM.1
  rw [hls] at hcs ⊢
  refine TL.gets (Wants.none rfl) rfl (Gets.assign rfl rfl) ?_
  refine TL.nil ?_
  refine TE.then ?_
  refine TC.ret ?_
  exact TE.ret1 rfl rfl (fun w hs => ⟨gs, cs, rfl, hgs, hcs, hms, hs.drop (by assumption)⟩)
end Go.Proofs.YtilmoheipkncfaaDoor
