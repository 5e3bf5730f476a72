/-
  Contracts of package sha: Sum, Of.
-/
import Derived.Test.YtdcphpmkhekghaaDoorShaE
namespace Go.Proofs.YtdcphpmkhekghaaDoor
set_option linter.unusedVariables false
set_option linter.unusedSimpArgs false
open Go Go.RowKit
theorem enters12 : Enters Tryd.prog 12 := ⟨_, Tryd.func12, by kernel_rfl, by kernel_rfl⟩
theorem enters13 : Enters Tryd.prog 13 := ⟨_, Tryd.func13, by kernel_rfl, by kernel_rfl⟩
theorem enters14 : Enters Tryd.prog 14 := ⟨_, Tryd.func14, by kernel_rfl, by kernel_rfl⟩
theorem enters25 : Enters Tryd.prog 25 := ⟨_, Tryd.func25, by kernel_rfl, by kernel_rfl⟩
theorem enters26 : Enters Tryd.prog 26 := ⟨_, Tryd.func26, by kernel_rfl, by kernel_rfl⟩

/-- The digest of a message. -/
def shaM (M : List Int) : List Int := digB (cmp (M ++ endB M.length 8) ((M ++ endB M.length 8).length / 64)) 8
attribute [irreducible] shaM
theorem sha_of {M st rs : List Int} (h : HashOK (M ++ endB M.length 8) st rs) : digB st 8 = shaM M := by
  unfold shaM
  unfold HashOK at h
  rw [← h.1]
theorem shaM_len (M : List Int) : (shaM M).length = 32 := by unfold shaM; exact digB_len _ _

theorem srcN_ent {w : World} {g ge t tot m : Nat} {W : List Int} {kd : IntKind} (hl : Ent.lies ⟨ge, t, W.map (Value.int kd), tot⟩ w) (hW : W.length = m) (hne : ge ≠ g) : SrcN w g (some ⟨ge, 0, none⟩) m kd W :=
  ⟨hW, .inr ⟨ge, 0, rfl, hl.lt, hne, fun j hj => by rw [Nat.zero_add]; exact hl.cell (ints_get (by omega))⟩⟩

set_option maxRecDepth 100000 in
set_option maxHeartbeats 400000 in
theorem sum_c (M st rs : List Int) (g : Nat) (w : World) (hk : HashOK M st rs) (hst : st.length = 8) (hrs : rs.length = 64) (hl : Ent.lies ⟨g, 53, st.map (Value.int .u32) ++ (rs.map (Value.int .u8) ++ ([Value.int .i64 (M.length : Int)])), 73⟩ w) (hn : M.length ≤ 4611686018427387000) (hb1 : 1 < w.heap.size) (hK : RowI w 1 0 64 .u32 KT) : Calls Tryd.prog 14 #[.pointer (some ⟨g, 0, none⟩)] w fun e w' => e = .returned (.agg ((shaM M).map (Value.int .u8)).toArray) ∧ St w [] w' := by
  have hg : g < w.heap.size := hl.lt
  have hz := zerosN_lt M.length
  refine calls_from (args := [.pointer (some ⟨g, 0, none⟩)]) Tryd.func14 rfl Tryd.ntmps14 (by simp) ?_
  refine TC.sub (Sub.cons (i := 0) rfl (Sub.nil)) ?_
  refine TC.seq ?_
  refine TC.regionL ?_
  refine TL.alloc (Wants.none rfl) rfl rfl zero24 (cs := (List.replicate 32 0).map (Value.int .u8)) rfl (tot := 32) (by simp) (fun g1 hg1 => ?_)
  refine TL.nil ?_
  refine TE.then ?_
  refine TC.seq ?_
  refine TC.seq ?_
  refine TC.regionL ?_
  refine TL.gets (Wants.none rfl) rfl (Gets.move rfl rfl) ?_
  refine TL.gets (Wants.none rfl) rfl (Gets.ptrNil rfl Tryd.underlying28 rfl rfl) ?_
  refine TL.nil ?_
  refine TE.then ?_
  refine TC.no rfl ?_
  refine TC.skip ?_
  refine TE.then ?_
  refine TC.seq ?_
  refine TC.regionL ?_
  refine TL.gets (Wants.none rfl) rfl (Gets.move rfl rfl) ?_
  refine TL.gets (Wants.none rfl) rfl (Gets.nilCheck rfl rfl) ?_
  refine TL.gets (Wants.none rfl) rfl (Gets.loadN rfl agg53 size53 rfl (vs := st.map (Value.int .u32) ++ (rs.map (Value.int .u8) ++ ([Value.int .i64 (M.length : Int)]))) (by simp [hst, hrs]) (Row.old (fun j u hu => by rw [Nat.zero_add]; exact hl.cell hu) hg (ne_cons (by show g1 ≠ g; omega) ne_nil))) ?_
  refine TL.alloc (Wants.none rfl) rfl rfl zero53 (cs := (List.replicate 8 0).map (Value.int .u32) ++ ((List.replicate 64 0).map (Value.int .u8) ++ ([Value.int .i64 0]))) rfl (tot := 73) (by simp) (fun g2 hg2 => ?_)
  refine TL.storeW (Wants.none rfl) rfl rfl size53 rfl (vs := st.map (Value.int .u32) ++ (rs.map (Value.int .u8) ++ ([Value.int .i64 (M.length : Int)]))) rfl (by simp [hst, hrs]) (ones_app ints_one (ones_app ints_one (by simp [Value.oneCell']))) (i := 0) (ent := ⟨g2, 53, (List.replicate 8 0).map (Value.int .u32) ++ ((List.replicate 64 0).map (Value.int .u8) ++ ([Value.int .i64 0])), 73⟩) rfl rfl (by simp []) (H' := [⟨g2, 53, st.map (Value.int .u32) ++ (rs.map (Value.int .u8) ++ ([Value.int .i64 (M.length : Int)])), 73⟩, ⟨g1, 24, (List.replicate 32 0).map (Value.int .u8), 32⟩]) rfl ?_
  refine TL.nil ?_
  refine TE.then ?_
  refine TC.seq ?_
  refine TC.regionL ?_
  refine TL.gets (Wants.none rfl) rfl (Gets.move rfl rfl) ?_
  refine TL.gets (Wants.none rfl) rfl (Gets.nilCheck rfl rfl) ?_
  refine TL.gets (Wants.none rfl) rfl (Gets.fieldAddr rfl Tryd.underlying53 rfl size3 rfl (off' := 72) (by first | rfl | omega)) ?_
  refine TL.gets (Wants.none rfl) rfl (Gets.load1 rfl agg3 rfl (At.old (hl.cell (app_right (a := 8) (i := 64) (ints_len hst) (app_right (a := 64) (i := 0) (ints_len hrs) rfl))) hg (ne_cons (by show g2 ≠ g; omega) (ne_cons (by show g1 ≠ g; omega) ne_nil)))) ?_
  refine TL.call (ι := Nat) (V := fun ge => .slice (some ⟨ge, 0, none⟩) ((zerosN M.length) + 9) ((zerosN M.length) + 9)) (R := fun ge => w.heap.size ≤ ge ∧ ge ≠ g2) (H' := fun ge => [⟨ge, 5, (endB M.length 8).map (Value.int .u8), (zerosN M.length + 9)⟩, ⟨g2, 53, st.map (Value.int .u32) ++ (rs.map (Value.int .u8) ++ ([Value.int .i64 (M.length : Int)])), 73⟩, ⟨g1, 24, (List.replicate 32 0).map (Value.int .u8), 32⟩]) (Wants.none rfl) rfl enters25 rfl rfl (fun w hs => (ending_c M.length w (by omega)).mono fun e w' ⟨g, he, hge, hw⟩ => ⟨g, he, ⟨Nat.le_trans hs.size hge, fun h => by have := (hs.has _ (List.mem_cons_self)).lt; have h2 : g2 < w.heap.size := this; omega⟩, hs.made hw hge⟩) (fun ge hge => ?_)
  refine TL.call (ι := List Int × List Int) (V := fun s => .tuple #[]) (R := fun s => HashOK (M ++ endB M.length 8) s.1 s.2) (H' := fun s => [⟨ge, 5, (endB M.length 8).map (Value.int .u8), (zerosN M.length + 9)⟩, ⟨g2, 53, s.1.map (Value.int .u32) ++ (s.2.map (Value.int .u8) ++ ([Value.int .i64 ((M ++ endB M.length 8).length : Int)])), 73⟩, ⟨g1, 24, (List.replicate 32 0).map (Value.int .u8), 32⟩]) (Wants.none rfl) rfl enters24 rfl rfl (fun w hs => (take_m M (endB M.length 8) st rs g2 (some ⟨ge, 0, none⟩) (zerosN M.length + 9) (zerosN M.length + 9) w hk (hs.has (⟨g2, 53, st.map (Value.int .u32) ++ (rs.map (Value.int .u8) ++ ([Value.int .i64 (M.length : Int)])), 73⟩) (by simp)) (srcN_ent (hs.has (⟨ge, 5, (endB M.length 8).map (Value.int .u8), (zerosN M.length + 9)⟩) (by simp)) (endB_len M.length 8) hge.2) (Nat.le_refl _) (by omega) (Nat.lt_of_lt_of_le hb1 hs.size) (by omega) (hK.keepH hs hb1 (ne_cons (by show ge ≠ 1; omega) (ne_cons (by show g2 ≠ 1; omega) (ne_cons (by show g1 ≠ 1; omega) ne_nil))))).mono fun e w' ⟨he, st', rs', h1, h2⟩ => ⟨(st', rs'), he, h1, hs.turn (i := 1) rfl rfl h2⟩) (fun s hs2 => ?_)
  have hx1 := hs2.len
  have hx2 := hs2.rlen
  refine TL.nil ?_
  refine TE.then ?_
  refine TC.sub (Sub.cons (i := 2) rfl (Sub.cons (i := 3) rfl (Sub.nil))) ?_
  refine TC.seq ?_
  refine TC.regionL ?_
  refine TL.gets (Wants.none rfl) rfl (Gets.fieldAddr rfl Tryd.underlying53 rfl size50 rfl (off' := 0) (by first | rfl | omega)) ?_
  refine TL.call0 (Wants.none rfl) rfl enters26 rfl rfl (v := .agg ((shaM M).map (Value.int .u8)).toArray) (fun w hs => (digest_c s.1 (s.2.map (Value.int .u8) ++ [Value.int .i64 ((M ++ endB M.length 8).length : Int)]) g2 53 73 w hx1 (hs.has (⟨g2, 53, s.1.map (Value.int .u32) ++ (s.2.map (Value.int .u8) ++ ([Value.int .i64 ((M ++ endB M.length 8).length : Int)])), 73⟩) (by simp))).mono fun e w' ⟨he, hw⟩ => ⟨by rw [sha_of hs2] at he; exact he, hw⟩) ?_
  refine TL.storeW (Wants.none rfl) rfl rfl size24 rfl (vs := (shaM M).map (Value.int .u8)) rfl (by simp [(shaM_len M)]) ints_one (i := 2) (ent := ⟨g1, 24, (List.replicate 32 0).map (Value.int .u8), 32⟩) rfl rfl (by simp []) (H' := [⟨ge, 5, (endB M.length 8).map (Value.int .u8), (zerosN M.length + 9)⟩, ⟨g2, 53, s.1.map (Value.int .u32) ++ (s.2.map (Value.int .u8) ++ ([Value.int .i64 ((M ++ endB M.length 8).length : Int)])), 73⟩, ⟨g1, 24, (shaM M).map (Value.int .u8), 32⟩]) rfl ?_
  refine TL.nil ?_
  refine TE.then ?_
  refine TC.ret ?_
  exact TE.retC rfl agg24 size24 rfl (vs := (shaM M).map (Value.int .u8)) (by simp [(shaM_len M)]) (Row.all (i := 2) (ent := ⟨g1, 24, (shaM M).map (Value.int .u8), 32⟩) rfl rfl rfl) (fun w hs => ⟨rfl, (((hs.drop (by first | assumption | exact hge.1)).drop (by first | assumption | exact hge.1)).drop (by first | assumption | exact hge.1))⟩)

set_option maxRecDepth 100000 in
set_option maxHeartbeats 400000 in
theorem sumNil_c (w : World) : Calls Tryd.prog 14 #[.pointer none] w fun e w' => e = .returned (.agg ((List.replicate 32 (0 : Int)).map (Value.int .u8)).toArray) ∧ St w [] w' := by
  refine calls_from (args := [.pointer none]) Tryd.func14 rfl Tryd.ntmps14 (by simp) ?_
  refine TC.sub (Sub.cons (i := 0) rfl (Sub.nil)) ?_
  refine TC.seq ?_
  refine TC.regionL ?_
  refine TL.alloc (Wants.none rfl) rfl rfl zero24 (cs := (List.replicate 32 0).map (Value.int .u8)) rfl (tot := 32) (by simp) (fun g1 hg1 => ?_)
  refine TL.nil ?_
  refine TE.then ?_
  refine TC.seq ?_
  refine TC.seq ?_
  refine TC.regionL ?_
  refine TL.gets (Wants.none rfl) rfl (Gets.move rfl rfl) ?_
  refine TL.gets (Wants.none rfl) rfl (Gets.nilNil rfl Tryd.underlying28 rfl rfl) ?_
  refine TL.nil ?_
  refine TE.then ?_
  refine TC.yes rfl ?_
  refine TC.seq ?_
  refine TC.regionL ?_
  refine TL.gets (Wants.none rfl) rfl (Gets.build rfl (vs := []) rfl (fun w => by kernel_rfl) (v := .agg ((List.replicate 32 0).map (Value.int .u8)).toArray)) ?_
  refine TL.storeW (Wants.none rfl) rfl rfl size24 rfl (vs := (List.replicate 32 0).map (Value.int .u8)) rfl (by simp []) ints_one (i := 0) (ent := ⟨g1, 24, (List.replicate 32 0).map (Value.int .u8), 32⟩) rfl rfl (by simp []) (H' := [⟨g1, 24, (List.replicate 32 0).map (Value.int .u8), 32⟩]) rfl ?_
  refine TL.nil ?_
  refine TE.then ?_
  refine TC.ret ?_
  refine TE.thenR ?_
  exact TE.retC rfl agg24 size24 rfl (vs := (List.replicate 32 0).map (Value.int .u8)) (by simp []) (Row.all (i := 0) (ent := ⟨g1, 24, (List.replicate 32 0).map (Value.int .u8), 32⟩) rfl rfl rfl) (fun w hs => ⟨rfl, (hs.drop (by assumption))⟩)

/-- The same, of whatever other block is to be written. -/
def PartsO (w : World) (A : Option Addr) (m : Nat) (Ps : List (List Int)) : Prop :=
  Ps.length = m ∧ (m = 0 ∨ ∃ b off, A = some ⟨b, off, none⟩ ∧ b < w.heap.size ∧ ∀ i, i < m → ∃ Ai mi ci, w.cell? ⟨b, off + i, none⟩ = some (.slice Ai mi ci) ∧ Src w Ai mi .u8 (Ps.getD i []) ∧ mi ≤ ci)
theorem PartsO.keep' {w w' : World} {H : List Ent} {A : Option Addr} {m g : Nat} {Ps : List (List Int)} (h : PartsO w A m Ps) (hs : St w H w') (hg : ∀ b, b < w.heap.size → b ≠ g ∧ ∀ e ∈ H, e.g ≠ b) : PartsN w' g A m Ps := by
  obtain ⟨h1, h2⟩ := h
  refine ⟨h1, ?_⟩
  rcases h2 with h2 | ⟨b, off, hA, hb, hc⟩
  · exact .inl h2
  · refine .inr ⟨b, off, hA, Nat.lt_of_lt_of_le hb hs.size, (hg b hb).1, fun i hi => ?_⟩
    obtain ⟨Ai, mi, ci, k1, k2, k3⟩ := hc i hi
    refine ⟨Ai, mi, ci, (hs.old_cell (ad := ⟨b, off + i, none⟩) hb (hg b hb).2).trans k1, ?_, k3⟩
    obtain ⟨l1, l2⟩ := k2
    refine ⟨l1, ?_⟩
    rcases l2 with l2 | ⟨b', off', hA', hb', hr'⟩
    · exact .inl l2
    · exact .inr ⟨b', off', hA', Nat.lt_of_lt_of_le hb' hs.size, (hg b' hb').1, fun j hj => (hs.old_cell (ad := ⟨b', off' + j, none⟩) hb' (hg b' hb').2).trans (hr' j hj)⟩

set_option maxRecDepth 100000 in
set_option maxHeartbeats 400000 in
theorem of_c (Ps : List (List Int)) (A : Option Addr) (m c : Nat) (w : World) (hP : PartsO w A m Ps) (hmc : m ≤ c) (hcm : c ≤ 9223372036854775807) (hn : Ps.flatten.length ≤ 4611686018427387000) (hb1 : 1 < w.heap.size) (hIV : RowI w 0 0 8 .u32 IV) (hK : RowI w 1 0 64 .u32 KT) : Calls Tryd.prog 10 #[.slice A m c] w fun e w' => e = .returned (.agg ((shaM Ps.flatten).map (Value.int .u8)).toArray) ∧ St w [] w' := by
  refine calls_from (args := [.slice A m c]) Tryd.func10 rfl Tryd.ntmps10 (by simp) ?_
  refine TC.sub (Sub.cons (i := 0) rfl (Sub.nil)) ?_
  refine TC.seq ?_
  refine TC.regionL ?_
  refine TL.alloc (Wants.none rfl) rfl rfl zero24 (cs := (List.replicate 32 0).map (Value.int .u8)) rfl (tot := 32) (by simp) (fun g1 hg1 => ?_)
  refine TL.nil ?_
  refine TE.then ?_
  refine TC.seq ?_
  refine TC.regionL ?_
  refine TL.call (ι := Nat) (V := fun gn => .pointer (some ⟨gn, 0, none⟩)) (R := fun gn => w.heap.size ≤ gn) (H' := fun gn => [⟨gn, 53, IV.map (Value.int .u32) ++ ((List.replicate 64 0).map (Value.int .u8) ++ ([Value.int .i64 0])), 73⟩, ⟨g1, 24, (List.replicate 32 0).map (Value.int .u8), 32⟩]) (Wants.none rfl) rfl enters12 rfl rfl (fun w hs => (new_c w (by have := hs.size; omega) (hIV.keepH hs (by omega) (ne_cons (by show g1 ≠ 0; omega) ne_nil))).mono fun e w' ⟨g, he, hge, hw⟩ => ⟨g, he, Nat.le_trans hs.size hge, hs.made hw hge⟩) (fun gn hgn => ?_)
  refine TL.gets (Wants.none rfl) rfl (Gets.assign rfl rfl) ?_
  refine TL.nil ?_
  refine TE.then ?_
  refine TC.seq ?_
  refine TC.regionL ?_
  refine TL.gets (Wants.none rfl) rfl (Gets.move rfl rfl) ?_
  refine TL.gets (Wants.none rfl) rfl (Gets.move rfl rfl) ?_
  refine TL.call (ι := List Int × List Int) (V := fun s => .int .i64 (Ps.flatten.length : Int)) (R := fun s => HashOK Ps.flatten s.1 s.2) (H' := fun s => [⟨gn, 53, s.1.map (Value.int .u32) ++ (s.2.map (Value.int .u8) ++ ([Value.int .i64 (Ps.flatten.length : Int)])), 73⟩, ⟨g1, 24, (List.replicate 32 0).map (Value.int .u8), 32⟩]) (Wants.none rfl) rfl enters13 rfl rfl (fun w hs => (write_c [] IV (List.replicate 64 0) Ps gn A m c w hash_nil rfl (by simp) (hs.has (⟨gn, 53, IV.map (Value.int .u32) ++ ((List.replicate 64 0).map (Value.int .u8) ++ ([Value.int .i64 0])), 73⟩) (by simp)) (hP.keep' hs (fun b hb => ⟨by omega, ne_cons (by show gn ≠ b; omega) (ne_cons (by show g1 ≠ b; omega) ne_nil)⟩)) hmc hcm (by simp only [List.length_nil]; omega) (Nat.lt_of_lt_of_le hb1 hs.size) (by omega) (hK.keepH hs hb1 (ne_cons (by show gn ≠ 1; omega) (ne_cons (by show g1 ≠ 1; omega) ne_nil)))).mono fun e w' ⟨he, st', rs', h1, h2⟩ => ⟨(st', rs'), he, by simpa using h1, by have h3 := hs.turn0 h2 rfl; simp only [List.nil_append] at h3; exact h3⟩) (fun s hs2 => ?_)
  have hx1 := hs2.len
  have hx2 := hs2.rlen
  refine TL.nil ?_
  refine TE.then ?_
  refine TC.seq ?_
  refine TC.regionL ?_
  refine TL.gets (Wants.none rfl) rfl (Gets.move rfl rfl) ?_
  refine TL.call0 (Wants.none rfl) rfl enters14 rfl rfl (v := .agg ((shaM Ps.flatten).map (Value.int .u8)).toArray) (fun w hs => (sum_c Ps.flatten s.1 s.2 gn w hs2 hx1 hx2 (hs.has (⟨gn, 53, s.1.map (Value.int .u32) ++ (s.2.map (Value.int .u8) ++ ([Value.int .i64 (Ps.flatten.length : Int)])), 73⟩) (by simp)) (by omega) (Nat.lt_of_lt_of_le hb1 hs.size) (hK.keepH hs hb1 (ne_cons (by show gn ≠ 1; omega) (ne_cons (by show g1 ≠ 1; omega) ne_nil))))) ?_
  refine TL.storeW (Wants.none rfl) rfl rfl size24 rfl (vs := (shaM Ps.flatten).map (Value.int .u8)) rfl (by simp [(shaM_len Ps.flatten)]) ints_one (i := 1) (ent := ⟨g1, 24, (List.replicate 32 0).map (Value.int .u8), 32⟩) rfl rfl (by simp []) (H' := [⟨gn, 53, s.1.map (Value.int .u32) ++ (s.2.map (Value.int .u8) ++ ([Value.int .i64 (Ps.flatten.length : Int)])), 73⟩, ⟨g1, 24, (shaM Ps.flatten).map (Value.int .u8), 32⟩]) rfl ?_
  refine TL.nil ?_
  refine TE.then ?_
  refine TC.ret ?_
  exact TE.retC rfl agg24 size24 rfl (vs := (shaM Ps.flatten).map (Value.int .u8)) (by simp [(shaM_len Ps.flatten)]) (Row.all (i := 1) (ent := ⟨g1, 24, (shaM Ps.flatten).map (Value.int .u8), 32⟩) rfl rfl rfl) (fun w hs => ⟨rfl, ((hs.drop (by assumption)).drop (by assumption))⟩)
end Go.Proofs.YtdcphpmkhekghaaDoor
