/-
 Contracts of package command: Target, Source, Overlaps, contains.
-/
import Derived.Test.YtclmgfcdnokaiaaGreatDoorFormatLoads7Pb
import Derived.Test.YtclmgfcdnokaiaaGreatDoorFormatLoads7Pa
import Derived.Test.YtclmgfcdnokaiaaGreatDoorRows
/-
 Contracts of package sha: Sum, Of.
-/
namespace Go.Proofs.YtclmgfcdnokaiaaGreatDoor
set_option maxRecDepth 100000
set_option maxHeartbeats 2000000
open Go.Value (int slice)
set_option linter.unusedVariables false
set_option linter.unusedSimpArgs false
open Go Go.RowKit
theorem agg132 : (isAgg 132).run Tryz.prog = fun w => .ok true w := isAgg_yes Tryz.underlying132 rfl
theorem enters46 : Enters Tryz.prog 46 := ⟨_, Tryz.func46, by kernel_rfl, by kernel_rfl⟩
theorem enters47 : Enters Tryz.prog 47 := ⟨_, Tryz.func47, by kernel_rfl, by kernel_rfl⟩
theorem enters48 : Enters Tryz.prog 48 := ⟨_, Tryz.func48, by kernel_rfl, by kernel_rfl⟩
theorem enters81 : Enters Tryz.prog 81 := ⟨_, Tryz.func81, by kernel_rfl, by kernel_rfl⟩
theorem enters82 : Enters Tryz.prog 82 := ⟨_, Tryz.func82, by kernel_rfl, by kernel_rfl⟩
theorem size132 : (Tryz.prog.info? 132).map (·.size) = some 73 := by kernel_rfl
theorem zero132 : (Tryz.prog.info? 132).bind (·.zero) = some (.agg #[.int .u32 0, .int .u32 0, .int .u32 0, .int .u32 0, .int .u32 0, .int .u32 0, .int .u32 0, .int .u32 0, .int .u8 0, .int .u8 0, .int .u8 0, .int .u8 0, .int .u8 0, .int .u8 0, .int .u8 0, .int .u8 0, .int .u8 0, .int .u8 0, .int .u8 0, .int .u8 0, .int .u8 0, .int .u8 0, .int .u8 0, .int .u8 0, .int .u8 0, .int .u8 0, .int .u8 0, .int .u8 0, .int .u8 0, .int .u8 0, .int .u8 0, .int .u8 0, .int .u8 0, .int .u8 0, .int .u8 0, .int .u8 0, .int .u8 0, .int .u8 0, .int .u8 0, .int .u8 0, .int .u8 0, .int .u8 0, .int .u8 0, .int .u8 0, .int .u8 0, .int .u8 0, .int .u8 0, .int .u8 0, .int .u8 0, .int .u8 0, .int .u8 0, .int .u8 0, .int .u8 0, .int .u8 0, .int .u8 0, .int .u8 0, .int .u8 0, .int .u8 0, .int .u8 0, .int .u8 0, .int .u8 0, .int .u8 0, .int .u8 0, .int .u8 0, .int .u8 0, .int .u8 0, .int .u8 0, .int .u8 0, .int .u8 0, .int .u8 0, .int .u8 0, .int .u8 0, .int .i64 0]) := by kernel_rfl
instance : Fld Tryz.prog 132 0 0 := ⟨⟨_, _, _, Tryz.underlying132, rfl, size129, rfl⟩⟩
def shaM (M : List Int) : List Int := digB (cmp (M ++ endB M.length 8) ((M ++ endB M.length 8).length / 64)) 8
attribute [irreducible] shaM
theorem sha_of {M st rs : List Int} (h : HashOK (M ++ endB M.length 8) st rs) : digB st 8 = shaM M := by
 unfold shaM
 unfold HashOK at h
 rw [← h.1]
theorem shaM_len (M : List Int) : (shaM M).length = 32 := by unfold shaM; exact digB_len _ _
theorem srcN_ent {w : World} {g ge t tot m : Nat} {W : List Int} {kd : IntKind} (hl : Ent.lies ⟨ge, t, W.map (int kd), tot⟩ w) (hW : W.length = m) (hne : ge ≠ g) : SrcN w g (some ⟨ge, 0, none⟩) m kd W :=
 ⟨hW, .inr ⟨ge, 0, rfl, hl.lt, hne, fun j hj => by rw [Nat.zero_add]; exact hl.cell (qf (by omega))⟩⟩
theorem sum_c (M st rs : List Int) (g : Nat) (w : World) (hk : HashOK M st rs) (hst : st.length = 8) (hrs : rs.length = 64) (hl : Ent.lies ⟨g, 132, st.map (int .u32) ++ (rs.map (int .u8) ++ ([int .i64 (M.length : Int)])), 73⟩ w) (hn : M.length ≤ 4611686018427387000) (hb1 : 1 < w.heap.size) (hK : RowI w 1 0 64 .u32 KT) : Calls Tryz.prog 48 #[.pointer (some ⟨g, 0, none⟩)] w fun e w' => e = .returned (.agg ((shaM M).map (int .u8)).toArray) ∧ St w [] w' := by
 have hg : g < w.heap.size := hl.lt
 have hz := zerosN_lt M.length
 refine qL (args := [.pointer (some ⟨g, 0, none⟩)]) Tryz.func48 rfl Tryz.ntmps48 (by simp) ?_
 refine qC [0] ?_
 iterate 2 refine gx ?_
 refine zB (qA rfl) rfl rfl zero24 (cs := (List.replicate 32 0).map (int .u8)) rfl (tot := 32) (by simp) (fun g1 hg1 => ?_)
 iterate 6 refine gx ?_
 refine qB (qA rfl) rfl (Gets.ptrNil rfl Tryz.underlying87 rfl rfl) ?_
 iterate 2 refine gx ?_
 refine qW rfl ?_
 iterate 5 refine gx ?_
 refine qB (qA rfl) rfl (qO rfl rfl) ?_
 refine qB (qA rfl) rfl (qg rfl agg132 size132 rfl (vs := st.map (int .u32) ++ (rs.map (int .u8) ++ ([int .i64 (M.length : Int)]))) (by simp [hst, hrs]) (zS (fun j u hu => by rw [Nat.zero_add]; exact hl.cell hu) hg (qE (by show g1 ≠ g; omega) qF))) ?_
 refine zB (qA rfl) rfl rfl zero132 (cs := (List.replicate 8 0).map (int .u32) ++ ((List.replicate 64 0).map (int .u8) ++ ([int .i64 0]))) rfl (tot := 73) (by simp) (fun g2 hg2 => ?_)
 refine qn (qA rfl) rfl rfl size132 rfl (vs := st.map (int .u32) ++ (rs.map (int .u8) ++ ([int .i64 (M.length : Int)]))) rfl (by simp [hst, hrs]) (qa qb (qa qb (by simp [Value.oneCell']))) (i := 0) (ent := ⟨g2, 132, (List.replicate 8 0).map (int .u32) ++ ((List.replicate 64 0).map (int .u8) ++ ([int .i64 0])), 73⟩) rfl rfl (by simp []) (H' := [⟨g2, 132, st.map (int .u32) ++ (rs.map (int .u8) ++ ([int .i64 (M.length : Int)])), 73⟩, ⟨g1, 24, (List.replicate 32 0).map (int .u8), 32⟩]) rfl ?_
 iterate 5 refine gx ?_
 refine qB (qA rfl) rfl (qO rfl rfl) ?_
 refine gx ?_
 refine qB (qA rfl) rfl (qS rfl agg3 rfl (At.old (hl.cell (app_right (a := 8) (i := 64) (ints_len hst) (app_right (a := 64) (i := 0) (ints_len hrs) rfl))) hg (qE (by show g2 ≠ g; omega) (qE (by show g1 ≠ g; omega) qF)))) ?_
 refine qY (ι := Nat) (V := fun ge => .slice (some ⟨ge, 0, none⟩) ((zerosN M.length) + 9) ((zerosN M.length) + 9)) (R := fun ge => w.heap.size ≤ ge ∧ ge ≠ g2) (H' := fun ge => [⟨ge, 5, (endB M.length 8).map (int .u8), (zerosN M.length + 9)⟩, ⟨g2, 132, st.map (int .u32) ++ (rs.map (int .u8) ++ ([int .i64 (M.length : Int)])), 73⟩, ⟨g1, 24, (List.replicate 32 0).map (int .u8), 32⟩]) (qA rfl) rfl enters81 rfl rfl (fun w hs => (ending_c M.length w (by omega)).mono fun e w' ⟨g, he, hge, hw⟩ => ⟨g, he, ⟨Nat.le_trans hs.size hge, fun h => by have := (hs.has _ (List.mem_cons_self)).lt; have h2 : g2 < w.heap.size := this; omega⟩, hs.made hw hge⟩) (fun ge hge => ?_)
 refine qY (ι := List Int × List Int) (V := fun s => .tuple #[]) (R := fun s => HashOK (M ++ endB M.length 8) s.1 s.2) (H' := fun s => [⟨ge, 5, (endB M.length 8).map (int .u8), (zerosN M.length + 9)⟩, ⟨g2, 132, s.1.map (int .u32) ++ (s.2.map (int .u8) ++ ([int .i64 ((M ++ endB M.length 8).length : Int)])), 73⟩, ⟨g1, 24, (List.replicate 32 0).map (int .u8), 32⟩]) (qA rfl) rfl enters80 rfl rfl (fun w hs => (take_m M (endB M.length 8) st rs g2 (some ⟨ge, 0, none⟩) (zerosN M.length + 9) (zerosN M.length + 9) w hk (hs.has (⟨g2, 132, st.map (int .u32) ++ (rs.map (int .u8) ++ ([int .i64 (M.length : Int)])), 73⟩) (by simp)) (srcN_ent (hs.has (⟨ge, 5, (endB M.length 8).map (int .u8), (zerosN M.length + 9)⟩) (by simp)) (endB_len M.length 8) hge.2) (Nat.le_refl _) (by omega) (Nat.lt_of_lt_of_le hb1 hs.size) (by omega) (hK.keepH hs hb1 (qE (by show ge ≠ 1; omega) (qE (by show g2 ≠ 1; omega) (qE (by show g1 ≠ 1; omega) qF))))).mono fun e w' ⟨he, st', rs', h1, h2⟩ => ⟨(st', rs'), he, h1, hs.turn (i := 1) rfl rfl h2⟩) (fun s hs2 => ?_)
 have hx1 := hs2.len
 have hx2 := hs2.rlen
 iterate 2 refine gx ?_
 refine qC [2, 3] ?_
 iterate 3 refine gx ?_
 refine qM (qA rfl) rfl enters82 rfl rfl (v := .agg ((shaM M).map (int .u8)).toArray) (fun w hs => (digest_c s.1 (s.2.map (int .u8) ++ [int .i64 ((M ++ endB M.length 8).length : Int)]) g2 132 73 w hx1 (hs.has (⟨g2, 132, s.1.map (int .u32) ++ (s.2.map (int .u8) ++ ([int .i64 ((M ++ endB M.length 8).length : Int)])), 73⟩) (by simp))).mono fun e w' ⟨he, hw⟩ => ⟨by rw [sha_of hs2] at he; exact he, hw⟩) ?_
 refine qn (qA rfl) rfl rfl size24 rfl (vs := (shaM M).map (int .u8)) rfl (by simp [(shaM_len M)]) qb (i := 2) (ent := ⟨g1, 24, (List.replicate 32 0).map (int .u8), 32⟩) rfl rfl (by simp []) (H' := [⟨ge, 5, (endB M.length 8).map (int .u8), (zerosN M.length + 9)⟩, ⟨g2, 132, s.1.map (int .u32) ++ (s.2.map (int .u8) ++ ([int .i64 ((M ++ endB M.length 8).length : Int)])), 73⟩, ⟨g1, 24, (shaM M).map (int .u8), 32⟩]) rfl ?_
 iterate 3 refine gx ?_
 exact qu rfl agg24 size24 rfl (vs := (shaM M).map (int .u8)) (by simp [(shaM_len M)]) (qQ (i := 2) (ent := ⟨g1, 24, (shaM M).map (int .u8), 32⟩) rfl rfl rfl) (fun w hs => ⟨rfl, (((hs.drop (by first | assumption | exact hge.1)).drop (by first | assumption | exact hge.1)).drop (by first | assumption | exact hge.1))⟩)
theorem PartsO.keep' {w w' : World} {H : List Ent} {A : Option Addr} {m g : Nat} {Ps : List (List Int)} (h : PartsO w A m Ps) (hs : St w H w') (hg : ∀ b, b < w.heap.size → b ≠ g ∧ ∀ e ∈ H, e.g ≠ b) : PartsN w' g A m Ps := by
 obtain ⟨h1, h2⟩ := h
 refine ⟨h1, ?_⟩
 rcases h2 with h2 | ⟨b, off, hA, hb, hc⟩
 ·exact .inl h2
 ·refine .inr ⟨b, off, hA, Nat.lt_of_lt_of_le hb hs.size, (hg b hb).1, fun i hi => ?_⟩
  obtain ⟨Ai, mi, ci, k1, k2, k3⟩ := hc i hi
  refine ⟨Ai, mi, ci, (hs.old_cell (ad := ⟨b, off + i, none⟩) hb (hg b hb).2).trans k1, ?_, k3⟩
  obtain ⟨l1, l2⟩ := k2
  refine ⟨l1, ?_⟩
  rcases l2 with l2 | ⟨b', off', hA', hb', hr'⟩
  ·exact .inl l2
  ·exact .inr ⟨b', off', hA', Nat.lt_of_lt_of_le hb' hs.size, (hg b' hb').1, fun j hj => (hs.old_cell (ad := ⟨b', off' + j, none⟩) hb' (hg b' hb').2).trans (hr' j hj)⟩
theorem of_c (Ps : List (List Int)) (A : Option Addr) (m c : Nat) (w : World) (hP : PartsO w A m Ps) (hmc : m ≤ c) (hcm : c ≤ 9223372036854775807) (hn : Ps.flatten.length ≤ 4611686018427387000) (hb1 : 1 < w.heap.size) (hIV : RowI w 0 0 8 .u32 IV) (hK : RowI w 1 0 64 .u32 KT) : Calls Tryz.prog 18 #[.slice A m c] w fun e w' => e = .returned (.agg ((shaM Ps.flatten).map (int .u8)).toArray) ∧ St w [] w' := by
 refine qL (args := [.slice A m c]) Tryz.func18 rfl Tryz.ntmps18 (by simp) ?_
 refine qC [0] ?_
 iterate 2 refine gx ?_
 refine zB (qA rfl) rfl rfl zero24 (cs := (List.replicate 32 0).map (int .u8)) rfl (tot := 32) (by simp) (fun g1 hg1 => ?_)
 iterate 4 refine gx ?_
 refine qY (ι := Nat) (V := fun gn => .pointer (some ⟨gn, 0, none⟩)) (R := fun gn => w.heap.size ≤ gn) (H' := fun gn => [⟨gn, 132, IV.map (int .u32) ++ ((List.replicate 64 0).map (int .u8) ++ ([int .i64 0])), 73⟩, ⟨g1, 24, (List.replicate 32 0).map (int .u8), 32⟩]) (qA rfl) rfl enters46 rfl rfl (fun w hs => (new_c w (by have := hs.size; omega) (hIV.keepH hs (by omega) (qE (by show g1 ≠ 0; omega) qF))).mono fun e w' ⟨g, he, hge, hw⟩ => ⟨g, he, Nat.le_trans hs.size hge, hs.made hw hge⟩) (fun gn hgn => ?_)
 iterate 7 refine gx ?_
 refine qY (ι := List Int × List Int) (V := fun s => .int .i64 (Ps.flatten.length : Int)) (R := fun s => HashOK Ps.flatten s.1 s.2) (H' := fun s => [⟨gn, 132, s.1.map (int .u32) ++ (s.2.map (int .u8) ++ ([int .i64 (Ps.flatten.length : Int)])), 73⟩, ⟨g1, 24, (List.replicate 32 0).map (int .u8), 32⟩]) (qA rfl) rfl enters47 rfl rfl (fun w hs => (write_c [] IV (List.replicate 64 0) Ps gn A m c w hash_nil rfl (by simp) (hs.has (⟨gn, 132, IV.map (int .u32) ++ ((List.replicate 64 0).map (int .u8) ++ ([int .i64 0])), 73⟩) (by simp)) (hP.keep' hs (fun b hb => ⟨by omega, qE (by show gn ≠ b; omega) (qE (by show g1 ≠ b; omega) qF)⟩)) hmc hcm (by simp only [List.length_nil]; omega) (Nat.lt_of_lt_of_le hb1 hs.size) (by omega) (hK.keepH hs hb1 (qE (by show gn ≠ 1; omega) (qE (by show g1 ≠ 1; omega) qF)))).mono fun e w' ⟨he, st', rs', h1, h2⟩ => ⟨(st', rs'), he, by simpa using h1, by have h3 := hs.turn0 h2 rfl; simp only [List.nil_append] at h3; exact h3⟩) (fun s hs2 => ?_)
 have hx1 := hs2.len
 have hx2 := hs2.rlen
 iterate 5 refine gx ?_
 refine qM (qA rfl) rfl enters48 rfl rfl (v := .agg ((shaM Ps.flatten).map (int .u8)).toArray) (fun w hs => (sum_c Ps.flatten s.1 s.2 gn w hs2 hx1 hx2 (hs.has (⟨gn, 132, s.1.map (int .u32) ++ (s.2.map (int .u8) ++ ([int .i64 (Ps.flatten.length : Int)])), 73⟩) (by simp)) (by omega) (Nat.lt_of_lt_of_le hb1 hs.size) (hK.keepH hs hb1 (qE (by show gn ≠ 1; omega) (qE (by show g1 ≠ 1; omega) qF))))) ?_
 refine qn (qA rfl) rfl rfl size24 rfl (vs := (shaM Ps.flatten).map (int .u8)) rfl (by simp [(shaM_len Ps.flatten)]) qb (i := 1) (ent := ⟨g1, 24, (List.replicate 32 0).map (int .u8), 32⟩) rfl rfl (by simp []) (H' := [⟨gn, 132, s.1.map (int .u32) ++ (s.2.map (int .u8) ++ ([int .i64 (Ps.flatten.length : Int)])), 73⟩, ⟨g1, 24, (shaM Ps.flatten).map (int .u8), 32⟩]) rfl ?_
 iterate 3 refine gx ?_
 exact qu rfl agg24 size24 rfl (vs := (shaM Ps.flatten).map (int .u8)) (by simp [(shaM_len Ps.flatten)]) (qQ (i := 1) (ent := ⟨g1, 24, (shaM Ps.flatten).map (int .u8), 32⟩) rfl rfl rfl) (fun w hs => ⟨rfl, ((hs.drop (by assumption)).drop (by assumption))⟩)
/-
 Contracts of package sha: Format; of package strings: HasPrefix.
-/
def hexI (x : Int) : Int := ([48, 49, 50, 51, 52, 53, 54, 55, 56, 57, 97, 98, 99, 100, 101, 102] : List Int).getD x.toNat 0
def fmtF (D : List Int) : Nat → List Int
 | 0 => List.replicate 64 0
 | k + 1 => ((fmtF D k).set (2 * k) (hexI (D.getD k 0 / 16))).set (2 * k + 1) (hexI (D.getD k 0 % 16))
theorem fmtF_len (D : List Int) : ∀ k, (fmtF D k).length = 64
 | 0 => by simp [fmtF]
 | k + 1 => by simp [fmtF, fmtF_len D k]
theorem digB_bytes (st : List Int) : ∀ k, Bytes (digB st k)
 | 0 => fun x hx => by
  unfold digB at hx
  have := List.eq_of_mem_replicate hx
  omega
 | k + 1 => fun x hx => by
  unfold digB at hx
  have h := digB_bytes st k
  have hw : ∀ y : Int, 0 ≤ IntKind.u8.wrap y ∧ IntKind.u8.wrap y ≤ 255 := fun y => by rw [IntKind.wrap_u8]; omega
  rcases List.mem_or_eq_of_mem_set hx with hx | rfl
  ·rcases List.mem_or_eq_of_mem_set hx with hx | rfl
   ·rcases List.mem_or_eq_of_mem_set hx with hx | rfl
    ·rcases List.mem_or_eq_of_mem_set hx with hx | rfl
     ·exact h x hx
     ·exact hw _
    ·exact hw _
   ·exact hw _
  ·exact hw _
theorem shaM_bytes (M : List Int) : Bytes (shaM M) := by unfold shaM; exact digB_bytes _ _
/-
 The chapter's examples.
-/
theorem parts_two {w : World} {gp t tot m c m' c' : Nat} {A A' : Option Addr} {P P' : List Int} (hl : Ent.lies ⟨gp, t, [slice A m c, slice A' m' c'], tot⟩ w) (h : Src w A m .u8 P) (hmc : m ≤ c) (h' : Src w A' m' .u8 P') (hmc' : m' ≤ c') : PartsO w (some ⟨gp, 0, none⟩) 2 [P, P'] :=
 ⟨rfl, .inr ⟨gp, 0, rfl, hl.lt, fun i hi => by
  rcases (show i = 0 ∨ i = 1 by omega) with rfl | rfl
  ·exact ⟨A, m, c, hl.cell (o := 0) rfl, h, hmc⟩
  ·exact ⟨A', m', c', hl.cell (o := 1) rfl, h', hmc'⟩⟩⟩
/-
 ShaClones: the walk.
-/
/-
 ShaNil: the walk.
-/
/-
 ShaParts: the walk.
-/
structure WP where
 k : Nat
 v : Value
 He : List Ent
structure WQ where
 k : Nat
 st : List Int
 rs : List Int
/-
 Digits; strings.IndexByte.
-/
/-
 Parse.
-/
/-
 The reference's Format and Right.
-/
/-
 ShaDigits: the walk.
-/
/-
 The reference: numbers of four words.
-/
theorem agg185 : (isAgg 185).run Tryz.prog = fun w => .ok true w := isAgg_yes Tryz.underlying185 rfl
theorem agg37 : (isAgg 37).run Tryz.prog = fun w => .ok false w := isAgg_no Tryz.underlying37 rfl
theorem size185 : (Tryz.prog.info? 185).map (·.size) = some 4 := by kernel_rfl
theorem size37 : (Tryz.prog.info? 37).map (·.size) = some 1 := by kernel_rfl
theorem zero185 : (Tryz.prog.info? 185).bind (·.zero) = some (.agg #[.int .u64 0, .int .u64 0, .int .u64 0, .int .u64 0]) := by kernel_rfl
instance : Zer Tryz.prog 185 [int .u64 0, int .u64 0, int .u64 0, int .u64 0] := ⟨⟨_, zero185, rfl⟩⟩
theorem or_comm32 (a b : Int) : orI .u32 a b = orI .u32 b a := by
 unfold orI
 rw [BitVec.or_comm]
def wscale (V : List Int) (q : Int) : Nat → List Int × Int
 | 0 => (List.replicate 4 0, 0)
 | k + 1 => ((wscale V q k).1.set k (andI .u64 (addW .u64 (mulW .u64 (V.getD k 0) q) (wscale V q k).2) 4294967295), shrI .u64 (addW .u64 (mulW .u64 (V.getD k 0) q) (wscale V q k).2) 32)
def wshift (V : List Int) : Nat → List Int × Int
 | 0 => (List.replicate 4 0, 0)
 | k + 1 => ((wshift V k).1.set k (andI .u64 (addW .u64 (shlI .u64 (V.getD k 0) 16) (wshift V k).2) 4294967295), shrI .u64 (addW .u64 (shlI .u64 (V.getD k 0) 16) (wshift V k).2) 32)
def wplus (V U : List Int) : Nat → List Int × Int
 | 0 => (List.replicate 4 0, 0)
 | k + 1 => ((wplus V U k).1.set k (andI .u64 (addW .u64 (addW .u64 (V.getD k 0) (U.getD k 0)) (wplus V U k).2) 4294967295), shrI .u64 (addW .u64 (addW .u64 (V.getD k 0) (U.getD k 0)) (wplus V U k).2) 32)
theorem wscale_len (V : List Int) (q : Int) : ∀ k, (wscale V q k).1.length = 4
 | 0 => by simp [wscale]
 | k + 1 => by simp [wscale, wscale_len V q k]
theorem wshift_len (V : List Int) : ∀ k, (wshift V k).1.length = 4
 | 0 => by simp [wshift]
 | k + 1 => by simp [wshift, wshift_len V k]
theorem wplus_len (V U : List Int) : ∀ k, (wplus V U k).1.length = 4
 | 0 => by simp [wplus]
 | k + 1 => by simp [wplus, wplus_len V U k]
theorem rrotate_c (x : Int) (m : Nat) (w : World) (h1 : 1 ≤ m) (h2 : m ≤ 31) : Calls Tryz.prog 112 #[.int .u32 x, .int .i64 (m : Int)] w fun e w' => e = .returned (.int .u32 (rotr x m)) ∧ St w [] w' := by
 refine qL (args := [.int .u32 x, .int .i64 (m : Int)]) Tryz.func112 rfl Tryz.ntmps112 (by simp) ?_
 refine qC [0, 1] ?_
 iterate 6 refine gx ?_
 refine qy (by kernel_rfl) [0, 0, 0, 0, 0, 0, 0, 0, 0] rfl (by kernel_rfl) ?_
 iterate 2 refine gx ?_
 refine qG (qA rfl) rfl (fun _ => zN rfl rfl rfl (by omega) (r := (shrI .u32 x (m : Int))) rfl) ?_
 iterate 2 refine gx ?_
 refine qG (qA rfl) rfl (fun _ => zH rfl rfl rfl (r := (32 - (m : Int))) (w64 (by omega) (by omega))) ?_
 refine qG (qA rfl) rfl (fun _ => Gets.shl rfl rfl rfl (by omega) (r := (shlI .u32 x (32 - (m : Int)))) rfl) ?_
 refine qG (qA rfl) rfl (fun _ => Gets.or rfl rfl rfl (r := (orI .u32 (shrI .u32 x (m : Int)) (shlI .u32 x (32 - (m : Int))))) rfl) ?_
 iterate 4 refine gx ?_
 exact qK rfl rfl (fun w hs => ⟨by rw [or_comm32]; exact rotl_eq x m h1 h2, hs⟩)
theorem wscale_c (V : List Int) (q : Int) (w : World) (hV : V.length = 4) : Calls Tryz.prog 142 #[.agg (V.map (int .u64)).toArray, .int .u64 q] w fun e w' => e = .returned (.agg ((wscale V q 4).1.map (int .u64)).toArray) ∧ St w [] w' := by
 refine qL (args := [.agg (V.map (int .u64)).toArray, .int .u64 q]) Tryz.func142 rfl Tryz.ntmps142 (by simp) ?_
 refine qC [0, 1] ?_
 iterate 2 refine gx ?_
 refine zQ (qA rfl) rfl rfl rfl (cs := V.map (int .u64)) (by simp [Value.cells]) (tot := 4) (by simp [hV]) (fun g1 hg1 => ?_)
 refine qc (fun g2 hg2 => ?_)
 iterate 9 refine gx ?_
 refine qc (fun g3 hg3 => ?_)
 iterate 9 refine gx ?_
 refine qr (ι := Nat) (fun k => [(5, .int .u64 ((wscale V q k).2)), (6, .pointer (some ⟨g3, 0, none⟩)), (7, .int .i64 (k : Int)), (4, .pointer (some ⟨g2, 0, none⟩)), (2, .pointer (some ⟨g1, 0, none⟩)), (1, .int .u64 q)]) (fun k => [⟨g3, 185, ((wscale V q k).1).map (int .u64), 4⟩, ⟨g2, 185, [int .u64 0, int .u64 0, int .u64 0, int .u64 0], 4⟩, ⟨g1, 185, V.map (int .u64), 4⟩]) (fun k => 4 - k) (fun k => k ≤ 4) 0 (by omega) (qH (i := 5) rfl (by first | rfl | omega) (qI (i := 6) rfl (qH (i := 7) rfl (by first | omega | rfl) (qI (i := 4) rfl (qI (i := 2) rfl (qH (i := 1) rfl (by first | rfl | omega) (qN))))))) (fun w h => h) (fun k hC0 => ?_)
 iterate 7 refine gx ?_
 refine qX rfl (fun h0 => ?_) (fun h0 => ?_)
 ·iterate 7 refine gx ?_
  refine qB (qA rfl) rfl (qq rfl Tryz.underlying185 size37 rfl rfl (i := k) (by omega) (by omega) (off' := k) (by omega)) ?_
  refine qB (qA rfl) rfl (qS rfl agg37 rfl (qZ (i := 2) (ent := ⟨g1, 185, V.map (int .u64), 4⟩) (off := k) rfl rfl (by have := qf (kd := .u64) (W := V) (i := k) (by rw [hV]; omega); (first | exact this | (refine Eq.trans ?_ this; congr 1; omega))))) ?_
  refine gx ?_
  refine qB (qA rfl) rfl (Gets.mulU rfl rfl rfl) ?_
  refine gx ?_
  refine qB (qA rfl) rfl (zG rfl rfl rfl) ?_
  iterate 3 refine gx ?_
  refine qC [1, 2, 4, 5, 6, 7, 8] ?_
  iterate 4 refine gx ?_
  refine qB (qA rfl) rfl (za rfl rfl rfl (r := (andI .u64 (addW .u64 (mulW .u64 (V.getD k 0) q) ((wscale V q k).2)) 4294967295)) rfl) ?_
  refine qB (qA rfl) rfl (qq rfl Tryz.underlying185 size37 rfl rfl (i := k) (by omega) (by omega) (off' := k) (by omega)) ?_
  refine qw (qA rfl) rfl rfl size37 rfl rfl rfl (i := 0) rfl rfl (by simp [(wscale_len V q k)] <;> omega) (cs' := (((wscale V q k).1).set k (andI .u64 (addW .u64 (mulW .u64 (V.getD k 0) q) ((wscale V q k).2)) 4294967295)).map (int .u64)) (ints_set) (H' := [⟨g3, 185, (((wscale V q k).1).set k (andI .u64 (addW .u64 (mulW .u64 (V.getD k 0) q) ((wscale V q k).2)) 4294967295)).map (int .u64), 4⟩, ⟨g2, 185, [int .u64 0, int .u64 0, int .u64 0, int .u64 0], 4⟩, ⟨g1, 185, V.map (int .u64), 4⟩]) rfl ?_
  iterate 2 refine gx ?_
  refine qC [1, 2, 4, 5, 6, 7, 8] ?_
  iterate 2 refine gx ?_
  refine qB (qA rfl) rfl (zN rfl rfl rfl (by omega) (r := (shrI .u64 (addW .u64 (mulW .u64 (V.getD k 0) q) ((wscale V q k).2)) 32)) rfl) ?_
  iterate 4 refine gx ?_
  refine qC [1, 2, 4, 5, 6, 7] ?_
  iterate 2 refine gx ?_
  refine qB (qA rfl) rfl (qR rfl rfl rfl (r := ((k : Int) + 1)) (w64 (by omega) (by omega))) ?_
  iterate 2 refine gx ?_
  exact qj (k + 1) (by omega) (by omega) (qH (i := 5) rfl (by first | rfl | omega) (qI (i := 6) rfl (qH (i := 7) rfl (by first | omega | rfl) (qI (i := 4) rfl (qI (i := 2) rfl (qH (i := 1) rfl (by first | rfl | omega) (qN))))))) (fun w h => h)
 ·obtain rfl : k = 4 := by omega
  have Dl := wscale_len V q 4
  generalize hD : wscale V q 4 = D at Dl ⊢
  iterate 7 refine gx ?_
  refine qB (qA rfl) rfl (qg rfl agg185 size185 rfl (vs := D.1.map (int .u64)) (by simp [Dl]) (qQ (i := 0) (ent := ⟨g3, 185, D.1.map (int .u64), 4⟩) rfl rfl rfl)) ?_
  refine qn (qA rfl) rfl rfl size185 rfl (vs := D.1.map (int .u64)) rfl (by simp [Dl]) qb (i := 1) (ent := ⟨g2, 185, [int .u64 0, int .u64 0, int .u64 0, int .u64 0], 4⟩) rfl rfl (by simp []) (H' := [⟨g3, 185, D.1.map (int .u64), 4⟩, ⟨g2, 185, D.1.map (int .u64), 4⟩, ⟨g1, 185, V.map (int .u64), 4⟩]) rfl ?_
  iterate 3 refine gx ?_
  exact qu rfl agg185 size185 rfl (vs := D.1.map (int .u64)) (by simp [Dl]) (qQ (i := 1) (ent := ⟨g2, 185, D.1.map (int .u64), 4⟩) rfl rfl rfl) (fun w hs => ⟨rfl, hs.dp⟩)
theorem wshift_c (V : List Int) (w : World) (hV : V.length = 4) : Calls Tryz.prog 143 #[.agg (V.map (int .u64)).toArray] w fun e w' => e = .returned (.agg ((wshift V 4).1.map (int .u64)).toArray) ∧ St w [] w' := by
 refine qL (args := [.agg (V.map (int .u64)).toArray]) Tryz.func143 rfl Tryz.ntmps143 (by simp) ?_
 refine qC [0] ?_
 iterate 2 refine gx ?_
 refine zQ (qA rfl) rfl rfl rfl (cs := V.map (int .u64)) (by simp [Value.cells]) (tot := 4) (by simp [hV]) (fun g1 hg1 => ?_)
 refine qc (fun g2 hg2 => ?_)
 iterate 9 refine gx ?_
 refine qc (fun g3 hg3 => ?_)
 iterate 9 refine gx ?_
 refine qr (ι := Nat) (fun k => [(3, .int .u64 ((wshift V k).2)), (4, .pointer (some ⟨g3, 0, none⟩)), (5, .int .i64 (k : Int)), (2, .pointer (some ⟨g2, 0, none⟩)), (1, .pointer (some ⟨g1, 0, none⟩))]) (fun k => [⟨g3, 185, ((wshift V k).1).map (int .u64), 4⟩, ⟨g2, 185, [int .u64 0, int .u64 0, int .u64 0, int .u64 0], 4⟩, ⟨g1, 185, V.map (int .u64), 4⟩]) (fun k => 4 - k) (fun k => k ≤ 4) 0 (by omega) (qH (i := 3) rfl (by first | rfl | omega) (qI (i := 4) rfl (qH (i := 5) rfl (by first | omega | rfl) (qI (i := 2) rfl (qI (i := 1) rfl (qN)))))) (fun w h => h) (fun k hC0 => ?_)
 iterate 7 refine gx ?_
 refine qX rfl (fun h0 => ?_) (fun h0 => ?_)
 ·iterate 7 refine gx ?_
  refine qB (qA rfl) rfl (qq rfl Tryz.underlying185 size37 rfl rfl (i := k) (by omega) (by omega) (off' := k) (by omega)) ?_
  refine qB (qA rfl) rfl (qS rfl agg37 rfl (qZ (i := 2) (ent := ⟨g1, 185, V.map (int .u64), 4⟩) (off := k) rfl rfl (by have := qf (kd := .u64) (W := V) (i := k) (by rw [hV]; omega); (first | exact this | (refine Eq.trans ?_ this; congr 1; omega))))) ?_
  refine qB (qA rfl) rfl (Gets.shl rfl rfl rfl (by omega) (r := (shlI .u64 (V.getD k 0) 16)) rfl) ?_
  refine gx ?_
  refine qB (qA rfl) rfl (zG rfl rfl rfl) ?_
  iterate 3 refine gx ?_
  refine qC [1, 2, 3, 4, 5, 6] ?_
  iterate 4 refine gx ?_
  refine qB (qA rfl) rfl (za rfl rfl rfl (r := (andI .u64 (addW .u64 (shlI .u64 (V.getD k 0) 16) ((wshift V k).2)) 4294967295)) rfl) ?_
  refine qB (qA rfl) rfl (qq rfl Tryz.underlying185 size37 rfl rfl (i := k) (by omega) (by omega) (off' := k) (by omega)) ?_
  refine qw (qA rfl) rfl rfl size37 rfl rfl rfl (i := 0) rfl rfl (by simp [(wshift_len V k)] <;> omega) (cs' := (((wshift V k).1).set k (andI .u64 (addW .u64 (shlI .u64 (V.getD k 0) 16) ((wshift V k).2)) 4294967295)).map (int .u64)) (ints_set) (H' := [⟨g3, 185, (((wshift V k).1).set k (andI .u64 (addW .u64 (shlI .u64 (V.getD k 0) 16) ((wshift V k).2)) 4294967295)).map (int .u64), 4⟩, ⟨g2, 185, [int .u64 0, int .u64 0, int .u64 0, int .u64 0], 4⟩, ⟨g1, 185, V.map (int .u64), 4⟩]) rfl ?_
  iterate 2 refine gx ?_
  refine qC [1, 2, 3, 4, 5, 6] ?_
  iterate 2 refine gx ?_
  refine qB (qA rfl) rfl (zN rfl rfl rfl (by omega) (r := (shrI .u64 (addW .u64 (shlI .u64 (V.getD k 0) 16) ((wshift V k).2)) 32)) rfl) ?_
  iterate 6 refine gx ?_
  refine qB (qA rfl) rfl (qR rfl rfl rfl (r := ((k : Int) + 1)) (w64 (by omega) (by omega))) ?_
  iterate 2 refine gx ?_
  exact qj (k + 1) (by omega) (by omega) (qH (i := 3) rfl (by first | rfl | omega) (qI (i := 4) rfl (qH (i := 5) rfl (by first | omega | rfl) (qI (i := 2) rfl (qI (i := 1) rfl (qN)))))) (fun w h => h)
 ·obtain rfl : k = 4 := by omega
  have Dl := wshift_len V 4
  generalize hD : wshift V 4 = D at Dl ⊢
  iterate 7 refine gx ?_
  refine qB (qA rfl) rfl (qg rfl agg185 size185 rfl (vs := D.1.map (int .u64)) (by simp [Dl]) (qQ (i := 0) (ent := ⟨g3, 185, D.1.map (int .u64), 4⟩) rfl rfl rfl)) ?_
  refine qn (qA rfl) rfl rfl size185 rfl (vs := D.1.map (int .u64)) rfl (by simp [Dl]) qb (i := 1) (ent := ⟨g2, 185, [int .u64 0, int .u64 0, int .u64 0, int .u64 0], 4⟩) rfl rfl (by simp []) (H' := [⟨g3, 185, D.1.map (int .u64), 4⟩, ⟨g2, 185, D.1.map (int .u64), 4⟩, ⟨g1, 185, V.map (int .u64), 4⟩]) rfl ?_
  iterate 3 refine gx ?_
  exact qu rfl agg185 size185 rfl (vs := D.1.map (int .u64)) (by simp [Dl]) (qQ (i := 1) (ent := ⟨g2, 185, D.1.map (int .u64), 4⟩) rfl rfl rfl) (fun w hs => ⟨rfl, hs.dp⟩)
theorem wplus_c (V U : List Int) (w : World) (hV : V.length = 4) (hU : U.length = 4) : Calls Tryz.prog 141 #[.agg (V.map (int .u64)).toArray, .agg (U.map (int .u64)).toArray] w fun e w' => e = .returned (.agg ((wplus V U 4).1.map (int .u64)).toArray) ∧ St w [] w' := by
 refine qL (args := [.agg (V.map (int .u64)).toArray, .agg (U.map (int .u64)).toArray]) Tryz.func141 rfl Tryz.ntmps141 (by simp) ?_
 refine qC [0, 1] ?_
 iterate 2 refine gx ?_
 refine zQ (qA rfl) rfl rfl rfl (cs := V.map (int .u64)) (by simp [Value.cells]) (tot := 4) (by simp [hV]) (fun g1 hg1 => ?_)
 refine zQ (qA rfl) rfl rfl rfl (cs := U.map (int .u64)) (by simp [Value.cells]) (tot := 4) (by simp [hU]) (fun g2 hg2 => ?_)
 refine qc (fun g3 hg3 => ?_)
 iterate 9 refine gx ?_
 refine qc (fun g4 hg4 => ?_)
 iterate 9 refine gx ?_
 refine qr (ι := Nat) (fun k => [(5, .int .u64 ((wplus V U k).2)), (6, .pointer (some ⟨g4, 0, none⟩)), (7, .int .i64 (k : Int)), (4, .pointer (some ⟨g3, 0, none⟩)), (2, .pointer (some ⟨g1, 0, none⟩)), (3, .pointer (some ⟨g2, 0, none⟩))]) (fun k => [⟨g4, 185, ((wplus V U k).1).map (int .u64), 4⟩, ⟨g3, 185, [int .u64 0, int .u64 0, int .u64 0, int .u64 0], 4⟩, ⟨g2, 185, U.map (int .u64), 4⟩, ⟨g1, 185, V.map (int .u64), 4⟩]) (fun k => 4 - k) (fun k => k ≤ 4) 0 (by omega) (qH (i := 5) rfl (by first | rfl | omega) (qI (i := 6) rfl (qH (i := 7) rfl (by first | omega | rfl) (qI (i := 4) rfl (qI (i := 2) rfl (qI (i := 3) rfl (qN))))))) (fun w h => h) (fun k hC0 => ?_)
 iterate 7 refine gx ?_
 refine qX rfl (fun h0 => ?_) (fun h0 => ?_)
 ·iterate 5 refine gx ?_
  refine qy (by kernel_rfl) [0, 0, 1, 0, 0, 1, 0, 0, 0, 0] rfl (by kernel_rfl) ?_
  refine gx ?_
  refine qG (qA rfl) rfl (fun _ => qq rfl Tryz.underlying185 size37 rfl rfl (i := k) (by omega) (by omega) (off' := k) (by omega)) ?_
  refine qk (qA rfl) rfl (qS rfl agg37 rfl (qZ (i := 3) (ent := ⟨g1, 185, V.map (int .u64), 4⟩) (off := k) rfl rfl (by have := qf (kd := .u64) (W := V) (i := k) (by rw [hV]; omega); (first | exact this | (refine Eq.trans ?_ this; congr 1; omega))))) ?_
  refine gx ?_
  refine qG (qA rfl) rfl (fun _ => qq rfl Tryz.underlying185 size37 rfl rfl (i := k) (by omega) (by omega) (off' := k) (by omega)) ?_
  refine qk (qA rfl) rfl (qS rfl agg37 rfl (qZ (i := 2) (ent := ⟨g2, 185, U.map (int .u64), 4⟩) (off := k) rfl rfl (by have := qf (kd := .u64) (W := U) (i := k) (by rw [hU]; omega); (first | exact this | (refine Eq.trans ?_ this; congr 1; omega))))) ?_
  refine qG (qA rfl) rfl (fun _ => zG rfl rfl rfl) ?_
  refine gx ?_
  refine qG (qA rfl) rfl (fun _ => zG rfl rfl rfl) ?_
  iterate 3 refine gx ?_
  refine qC [2, 3, 4, 5, 6, 7, 8] ?_
  iterate 4 refine gx ?_
  refine qB (qA rfl) rfl (za rfl rfl rfl (r := (andI .u64 (addW .u64 (addW .u64 (V.getD k 0) (U.getD k 0)) ((wplus V U k).2)) 4294967295)) rfl) ?_
  refine qB (qA rfl) rfl (qq rfl Tryz.underlying185 size37 rfl rfl (i := k) (by omega) (by omega) (off' := k) (by omega)) ?_
  refine qw (qA rfl) rfl rfl size37 rfl rfl rfl (i := 0) rfl rfl (by simp [(wplus_len V U k)] <;> omega) (cs' := (((wplus V U k).1).set k (andI .u64 (addW .u64 (addW .u64 (V.getD k 0) (U.getD k 0)) ((wplus V U k).2)) 4294967295)).map (int .u64)) (ints_set) (H' := [⟨g4, 185, (((wplus V U k).1).set k (andI .u64 (addW .u64 (addW .u64 (V.getD k 0) (U.getD k 0)) ((wplus V U k).2)) 4294967295)).map (int .u64), 4⟩, ⟨g3, 185, [int .u64 0, int .u64 0, int .u64 0, int .u64 0], 4⟩, ⟨g2, 185, U.map (int .u64), 4⟩, ⟨g1, 185, V.map (int .u64), 4⟩]) rfl ?_
  iterate 2 refine gx ?_
  refine qC [2, 3, 4, 5, 6, 7, 8] ?_
  iterate 2 refine gx ?_
  refine qB (qA rfl) rfl (zN rfl rfl rfl (by omega) (r := (shrI .u64 (addW .u64 (addW .u64 (V.getD k 0) (U.getD k 0)) ((wplus V U k).2)) 32)) rfl) ?_
  iterate 4 refine gx ?_
  refine qC [2, 3, 4, 5, 6, 7] ?_
  iterate 2 refine gx ?_
  refine qB (qA rfl) rfl (qR rfl rfl rfl (r := ((k : Int) + 1)) (w64 (by omega) (by omega))) ?_
  iterate 2 refine gx ?_
  exact qj (k + 1) (by omega) (by omega) (qH (i := 5) rfl (by first | rfl | omega) (qI (i := 6) rfl (qH (i := 7) rfl (by first | omega | rfl) (qI (i := 4) rfl (qI (i := 2) rfl (qI (i := 3) rfl (qN))))))) (fun w h => h)
 ·obtain rfl : k = 4 := by omega
  have Dl := wplus_len V U 4
  generalize hD : wplus V U 4 = D at Dl ⊢
  iterate 7 refine gx ?_
  refine qB (qA rfl) rfl (qg rfl agg185 size185 rfl (vs := D.1.map (int .u64)) (by simp [Dl]) (qQ (i := 0) (ent := ⟨g4, 185, D.1.map (int .u64), 4⟩) rfl rfl rfl)) ?_
  refine qn (qA rfl) rfl rfl size185 rfl (vs := D.1.map (int .u64)) rfl (by simp [Dl]) qb (i := 1) (ent := ⟨g3, 185, [int .u64 0, int .u64 0, int .u64 0, int .u64 0], 4⟩) rfl rfl (by simp []) (H' := [⟨g4, 185, D.1.map (int .u64), 4⟩, ⟨g3, 185, D.1.map (int .u64), 4⟩, ⟨g2, 185, U.map (int .u64), 4⟩, ⟨g1, 185, V.map (int .u64), 4⟩]) rfl ?_
  iterate 3 refine gx ?_
  exact qu rfl agg185 size185 rfl (vs := D.1.map (int .u64)) (by simp [Dl]) (qQ (i := 1) (ent := ⟨g3, 185, D.1.map (int .u64), 4⟩) rfl rfl rfl) (fun w hs => ⟨rfl, hs.dp⟩)
attribute [irreducible] wscale wshift wplus
/-
 The reference: roots by bisection.
-/
theorem enters124 : Enters Tryz.prog 124 := ⟨_, Tryz.func124, by kernel_rfl, by kernel_rfl⟩
theorem enters135 : Enters Tryz.prog 135 := ⟨_, Tryz.func135, by kernel_rfl, by kernel_rfl⟩
theorem enters141 : Enters Tryz.prog 141 := ⟨_, Tryz.func141, by kernel_rfl, by kernel_rfl⟩
theorem enters142 : Enters Tryz.prog 142 := ⟨_, Tryz.func142, by kernel_rfl, by kernel_rfl⟩
theorem enters143 : Enters Tryz.prog 143 := ⟨_, Tryz.func143, by kernel_rfl, by kernel_rfl⟩
theorem four_len (a b c d : Int) : ([a, b, c, d] : List Int).length = 4 := rfl
def wtimes (V : List Int) (q : Int) : List Int := (wplus (wscale V (andI .u64 q 65535) 4).1 (wshift (wscale V (shrI .u64 q 16) 4).1 4).1 4).1
theorem wtimes_len (V : List Int) (q : Int) : (wtimes V q).length = 4 := wplus_len _ _ 4
def lessF (A B : List Int) : Nat → Bool
 | 0 => true
 | k + 1 => if A.getD k 0 ≠ B.getD k 0 then decide (A.getD k 0 < B.getD k 0) else lessF A B k
def sqA (m : Int) : List Int := wtimes [andI .u64 m 4294967295, shrI .u64 m 32, 0, 0] m
theorem sqA_len (m : Int) : (sqA m).length = 4 := wtimes_len _ _
theorem wtimes_c (V : List Int) (q : Int) (w : World) (hV : V.length = 4) : Calls Tryz.prog 135 #[.agg (V.map (int .u64)).toArray, .int .u64 q] w fun e w' => e = .returned (.agg ((wtimes V q).map (int .u64)).toArray) ∧ St w [] w' := by
 refine qL (args := [.agg (V.map (int .u64)).toArray, .int .u64 q]) Tryz.func135 rfl Tryz.ntmps135 (by simp) ?_
 refine qC [0, 1] ?_
 iterate 2 refine gx ?_
 refine zQ (qA rfl) rfl rfl rfl (cs := V.map (int .u64)) (by simp [Value.cells]) (tot := 4) (by simp [hV]) (fun g1 hg1 => ?_)
 refine qc (fun g2 hg2 => ?_)
 iterate 5 refine gx ?_
 refine qB (qA rfl) rfl (za rfl rfl rfl (r := (andI .u64 q 65535)) rfl) ?_
 iterate 6 refine gx ?_
 refine qB (qA rfl) rfl (zN rfl rfl rfl (by omega) (r := (shrI .u64 q 16)) rfl) ?_
 iterate 3 refine gx ?_
 refine qC [2, 4, 5, 6] ?_
 refine gx ?_
 refine TC.draw (by kernel_rfl) ?_
 refine TF.seqL 8 (by kernel_rfl) ?_
 refine TS.gets (qA rfl) rfl (qg rfl agg185 size185 rfl (vs := V.map (int .u64)) (by simp [hV]) (qQ (i := 1) (ent := ⟨g1, 185, V.map (int .u64), 4⟩) rfl rfl rfl)) ?_
 refine TS.gets (qA rfl) rfl (qp rfl rfl) ?_
 refine TS.call0 (qA rfl) rfl enters142 rfl rfl (v := .agg ((wscale V (andI .u64 q 65535) 4).1.map (int .u64)).toArray) (fun w hs => wscale_c V (andI .u64 q 65535) w hV) ?_
 refine TS.gets (qA rfl) rfl (qg rfl agg185 size185 rfl (vs := V.map (int .u64)) (by simp [hV]) (qQ (i := 1) (ent := ⟨g1, 185, V.map (int .u64), 4⟩) rfl rfl rfl)) ?_
 refine TS.gets (qA rfl) rfl (qp rfl rfl) ?_
 refine TS.call0 (qA rfl) rfl enters142 rfl rfl (v := .agg ((wscale V (shrI .u64 q 16) 4).1.map (int .u64)).toArray) (fun w hs => wscale_c V (shrI .u64 q 16) w hV) ?_
 refine TS.call0 (qA rfl) rfl enters143 rfl rfl (v := .agg ((wshift ((wscale V (shrI .u64 q 16) 4).1) 4).1.map (int .u64)).toArray) (fun w hs => wshift_c ((wscale V (shrI .u64 q 16) 4).1) w (wscale_len V (shrI .u64 q 16) 4)) ?_
 refine TS.call0 (qA rfl) rfl enters141 rfl rfl (v := .agg ((wplus ((wscale V (andI .u64 q 65535) 4).1) ((wshift ((wscale V (shrI .u64 q 16) 4).1) 4).1) 4).1.map (int .u64)).toArray) (fun w hs => wplus_c ((wscale V (andI .u64 q 65535) 4).1) ((wshift ((wscale V (shrI .u64 q 16) 4).1) 4).1) w (wscale_len V (andI .u64 q 65535) 4) (wshift_len ((wscale V (shrI .u64 q 16) 4).1) 4)) ?_
 refine TS.done ?_
 refine TF.tailL (by kernel_rfl) ?_
 refine qn (qA rfl) rfl rfl size185 rfl (vs := ((wplus ((wscale V (andI .u64 q 65535) 4).1) ((wshift ((wscale V (shrI .u64 q 16) 4).1) 4).1) 4).1).map (int .u64)) rfl (by simp [(wplus_len ((wscale V (andI .u64 q 65535) 4).1) ((wshift ((wscale V (shrI .u64 q 16) 4).1) 4).1) 4)]) qb (i := 0) (ent := ⟨g2, 185, [int .u64 0, int .u64 0, int .u64 0, int .u64 0], 4⟩) rfl rfl (by simp []) (H' := [⟨g2, 185, ((wplus ((wscale V (andI .u64 q 65535) 4).1) ((wshift ((wscale V (shrI .u64 q 16) 4).1) 4).1) 4).1).map (int .u64), 4⟩, ⟨g1, 185, V.map (int .u64), 4⟩]) rfl ?_
 iterate 3 refine gx ?_
 exact qu rfl agg185 size185 rfl (vs := ((wplus ((wscale V (andI .u64 q 65535) 4).1) ((wshift ((wscale V (shrI .u64 q 16) 4).1) 4).1) 4).1).map (int .u64)) (by simp [(wplus_len ((wscale V (andI .u64 q 65535) 4).1) ((wshift ((wscale V (shrI .u64 q 16) 4).1) 4).1) 4)]) (qQ (i := 0) (ent := ⟨g2, 185, ((wplus ((wscale V (andI .u64 q 65535) 4).1) ((wshift ((wscale V (shrI .u64 q 16) 4).1) 4).1) 4).1).map (int .u64), 4⟩) rfl rfl rfl) (fun w hs => ⟨rfl, hs.dp⟩)
attribute [irreducible] wtimes
theorem least2_c (m n : Int) (w : World) : Calls Tryz.prog 124 #[.int .u64 m, .int .u64 n, .bool false] w fun e w' => e = .returned (.bool (lessF (sqA m) ([0, 0, n, 0] : List Int) 4)) ∧ St w [] w' := by
 refine qL (args := [.int .u64 m, .int .u64 n, .bool false]) Tryz.func124 rfl Tryz.ntmps124 (by simp) ?_
 refine qC [0, 1, 2] ?_
 iterate 8 refine gx ?_
 refine qB (qA rfl) rfl (za rfl rfl rfl (r := (andI .u64 m 4294967295)) rfl) ?_
 refine gx ?_
 refine qB (qA rfl) rfl (zN rfl rfl rfl (by omega) (r := (shrI .u64 m 32)) rfl) ?_
 refine qB (qA rfl) rfl (qm rfl (vs := [(0, int .u64 (andI .u64 m 4294967295)), (1, int .u64 (shrI .u64 m 32)), (2, int .u64 0), (3, int .u64 0)]) rfl (fun w => by first | rfl | kernel_rfl) (v := .agg (([andI .u64 m 4294967295, shrI .u64 m 32, 0, 0] : List Int).map (int .u64)).toArray)) ?_
 refine gx ?_
 refine qM (qA rfl) rfl enters135 rfl rfl (v := .agg ((sqA m).map (int .u64)).toArray) (fun w hs => wtimes_c ([andI .u64 m 4294967295, shrI .u64 m 32, 0, 0] : List Int) m w (four_len _ _ _ _)) ?_
 refine qc (fun g1 hg1 => ?_)
 refine qn (qA rfl) rfl rfl size185 rfl (vs := (sqA m).map (int .u64)) rfl (by simp [(sqA_len m)]) qb (i := 0) (ent := ⟨g1, 185, [int .u64 0, int .u64 0, int .u64 0, int .u64 0], 4⟩) rfl rfl (by simp []) (H' := [⟨g1, 185, (sqA m).map (int .u64), 4⟩]) rfl ?_
 iterate 2 refine gx ?_
 refine qC [0, 1, 2, 6, 7] ?_
 iterate 3 refine gx ?_
 refine qB (qA rfl) rfl (qm rfl (vs := [(0, int .u64 0), (1, int .u64 0), (2, int .u64 n), (3, int .u64 0)]) rfl (fun w => by first | rfl | kernel_rfl) (v := .agg (([0, 0, n, 0] : List Int).map (int .u64)).toArray)) ?_
 refine qc (fun g2 hg2 => ?_)
 refine qn (qA rfl) rfl rfl size185 rfl (vs := ([0, 0, n, 0] : List Int).map (int .u64)) rfl (by simp [(four_len _ _ _ _)]) qb (i := 0) (ent := ⟨g2, 185, [int .u64 0, int .u64 0, int .u64 0, int .u64 0], 4⟩) rfl rfl (by simp []) (H' := [⟨g2, 185, ([0, 0, n, 0] : List Int).map (int .u64), 4⟩, ⟨g1, 185, (sqA m).map (int .u64), 4⟩]) rfl ?_
 iterate 8 refine gx ?_
 refine qC [0, 1, 6, 7, 8, 19] ?_
 refine qW rfl ?_
 iterate 9 refine gx ?_
 refine qr (ι := Nat) (fun k => [(7, .pointer (some ⟨g1, 0, none⟩)), (8, .pointer (some ⟨g2, 0, none⟩)), (9, .int .i64 ((k : Int) - 1))]) (fun k => [⟨g2, 185, ([0, 0, n, 0] : List Int).map (int .u64), 4⟩, ⟨g1, 185, (sqA m).map (int .u64), 4⟩]) (fun k => k) (fun k => k ≤ 4 ∧ lessF (sqA m) ([0, 0, n, 0] : List Int) 4 = lessF (sqA m) ([0, 0, n, 0] : List Int) k) 4 ⟨Nat.le_refl _, rfl⟩ (qI (i := 7) rfl (qI (i := 8) rfl (qH (i := 9) rfl (by first | omega | rfl) (qN)))) (fun w h => h) (fun k hC0 => ?_)
 iterate 7 refine gx ?_
 refine qX rfl (fun hq0 => ?_) (fun hq0 => ?_)
 ·obtain ⟨j, rfl⟩ : ∃ j, k = j + 1 := ⟨k - 1, by omega⟩
  iterate 5 refine gx ?_
  refine qy (by kernel_rfl) [0, 0, 1, 0, 0, 1, 0] rfl (by kernel_rfl) ?_
  refine gx ?_
  refine qG (qA rfl) rfl (fun _ => qq rfl Tryz.underlying185 size37 rfl rfl (i := j) (by omega) (by omega) (off' := j) (by omega)) ?_
  refine qk (qA rfl) rfl (qS rfl agg37 rfl (qZ (i := 1) (ent := ⟨g1, 185, (sqA m).map (int .u64), 4⟩) (off := j) rfl rfl (by have := qf (kd := .u64) (W := (sqA m)) (i := j) (by rw [(sqA_len m)]; omega); (first | exact this | (refine Eq.trans ?_ this; congr 1; omega))))) ?_
  refine gx ?_
  refine qG (qA rfl) rfl (fun _ => qq rfl Tryz.underlying185 size37 rfl rfl (i := j) (by omega) (by omega) (off' := j) (by omega)) ?_
  refine qk (qA rfl) rfl (qS rfl agg37 rfl (qZ (i := 0) (ent := ⟨g2, 185, ([0, 0, n, 0] : List Int).map (int .u64), 4⟩) (off := j) rfl rfl (by have := qf (kd := .u64) (W := ([0, 0, n, 0] : List Int)) (i := j) (by rw [(four_len _ _ _ _)]; omega); (first | exact this | (refine Eq.trans ?_ this; congr 1; omega))))) ?_
  iterate 3 refine gx ?_
  refine qC [7, 8, 9, 35] ?_
  refine qX rfl (fun hq1 => ?_) (fun hq1 => ?_)
  ·refine gx ?_
   refine qy (by kernel_rfl) [0, 0, 1, 0, 0, 1, 0, 0] rfl (by kernel_rfl) ?_
   refine gx ?_
   refine qG (qA rfl) rfl (fun _ => qq rfl Tryz.underlying185 size37 rfl rfl (i := j) (by omega) (by omega) (off' := j) (by omega)) ?_
   refine qk (qA rfl) rfl (qS rfl agg37 rfl (qZ (i := 1) (ent := ⟨g1, 185, (sqA m).map (int .u64), 4⟩) (off := j) rfl rfl (by have := qf (kd := .u64) (W := (sqA m)) (i := j) (by rw [(sqA_len m)]; omega); (first | exact this | (refine Eq.trans ?_ this; congr 1; omega))))) ?_
   refine gx ?_
   refine qG (qA rfl) rfl (fun _ => qq rfl Tryz.underlying185 size37 rfl rfl (i := j) (by omega) (by omega) (off' := j) (by omega)) ?_
   refine qk (qA rfl) rfl (qS rfl agg37 rfl (qZ (i := 0) (ent := ⟨g2, 185, ([0, 0, n, 0] : List Int).map (int .u64), 4⟩) (off := j) rfl rfl (by have := qf (kd := .u64) (W := ([0, 0, n, 0] : List Int)) (i := j) (by rw [(four_len _ _ _ _)]; omega); (first | exact this | (refine Eq.trans ?_ this; congr 1; omega))))) ?_
   iterate 10 refine gx ?_
   exact qK rfl rfl (fun w hs => ⟨by rw [hC0.2, lessF, if_pos hq1], hs.dp⟩)
  ·iterate 5 refine gx ?_
   refine qB (qA rfl) rfl (zH rfl rfl rfl (r := ((j : Int) - 1)) (w64 (by omega) (by omega))) ?_
   iterate 2 refine gx ?_
   exact qj j (by omega) ⟨by omega, by rw [hC0.2, lessF, if_neg hq1]⟩ (qI (i := 7) rfl (qI (i := 8) rfl (qH (i := 9) rfl (by first | omega | rfl) (qN)))) (fun w h => h)
 ·obtain rfl : k = 0 := by omega
  iterate 11 refine gx ?_
  exact qK rfl rfl (fun w hs => ⟨by rw [hC0.2]; rfl, hs.dp⟩)
theorem least3_c (m n : Int) (w : World) : Calls Tryz.prog 124 #[.int .u64 m, .int .u64 n, .bool true] w fun e w' => e = .returned (.bool (lessF (wtimes (sqA m) m) ([0, 0, 0, n] : List Int) 4)) ∧ St w [] w' := by
 refine qL (args := [.int .u64 m, .int .u64 n, .bool true]) Tryz.func124 rfl Tryz.ntmps124 (by simp) ?_
 refine qC [0, 1, 2] ?_
 iterate 8 refine gx ?_
 refine qB (qA rfl) rfl (za rfl rfl rfl (r := (andI .u64 m 4294967295)) rfl) ?_
 refine gx ?_
 refine qB (qA rfl) rfl (zN rfl rfl rfl (by omega) (r := (shrI .u64 m 32)) rfl) ?_
 refine qB (qA rfl) rfl (qm rfl (vs := [(0, int .u64 (andI .u64 m 4294967295)), (1, int .u64 (shrI .u64 m 32)), (2, int .u64 0), (3, int .u64 0)]) rfl (fun w => by first | rfl | kernel_rfl) (v := .agg (([andI .u64 m 4294967295, shrI .u64 m 32, 0, 0] : List Int).map (int .u64)).toArray)) ?_
 refine gx ?_
 refine qM (qA rfl) rfl enters135 rfl rfl (v := .agg ((sqA m).map (int .u64)).toArray) (fun w hs => wtimes_c ([andI .u64 m 4294967295, shrI .u64 m 32, 0, 0] : List Int) m w (four_len _ _ _ _)) ?_
 refine qc (fun g1 hg1 => ?_)
 refine qn (qA rfl) rfl rfl size185 rfl (vs := (sqA m).map (int .u64)) rfl (by simp [(sqA_len m)]) qb (i := 0) (ent := ⟨g1, 185, [int .u64 0, int .u64 0, int .u64 0, int .u64 0], 4⟩) rfl rfl (by simp []) (H' := [⟨g1, 185, (sqA m).map (int .u64), 4⟩]) rfl ?_
 iterate 2 refine gx ?_
 refine qC [0, 1, 2, 6, 7] ?_
 iterate 3 refine gx ?_
 refine qB (qA rfl) rfl (qm rfl (vs := [(0, int .u64 0), (1, int .u64 0), (2, int .u64 n), (3, int .u64 0)]) rfl (fun w => by first | rfl | kernel_rfl) (v := .agg (([0, 0, n, 0] : List Int).map (int .u64)).toArray)) ?_
 refine qc (fun g2 hg2 => ?_)
 refine qn (qA rfl) rfl rfl size185 rfl (vs := ([0, 0, n, 0] : List Int).map (int .u64)) rfl (by simp [(four_len _ _ _ _)]) qb (i := 0) (ent := ⟨g2, 185, [int .u64 0, int .u64 0, int .u64 0, int .u64 0], 4⟩) rfl rfl (by simp []) (H' := [⟨g2, 185, ([0, 0, n, 0] : List Int).map (int .u64), 4⟩, ⟨g1, 185, (sqA m).map (int .u64), 4⟩]) rfl ?_
 iterate 8 refine gx ?_
 refine qC [0, 1, 6, 7, 8, 19] ?_
 refine qd rfl ?_
 iterate 2 refine gx ?_
 refine qB (qA rfl) rfl (qg rfl agg185 size185 rfl (vs := (sqA m).map (int .u64)) (by simp [(sqA_len m)]) (qQ (i := 1) (ent := ⟨g1, 185, (sqA m).map (int .u64), 4⟩) rfl rfl rfl)) ?_
 refine gx ?_
 refine qM (qA rfl) rfl enters135 rfl rfl (v := .agg ((wtimes (sqA m) m).map (int .u64)).toArray) (fun w hs => wtimes_c (sqA m) m w (sqA_len m)) ?_
 refine qn (qA rfl) rfl rfl size185 rfl (vs := (wtimes (sqA m) m).map (int .u64)) rfl (by simp [(wtimes_len (sqA m) m)]) qb (i := 1) (ent := ⟨g1, 185, (sqA m).map (int .u64), 4⟩) rfl rfl (by simp [(sqA_len m)]) (H' := [⟨g2, 185, ([0, 0, n, 0] : List Int).map (int .u64), 4⟩, ⟨g1, 185, (wtimes (sqA m) m).map (int .u64), 4⟩]) rfl ?_
 iterate 2 refine gx ?_
 refine qC [1, 6, 7, 8] ?_
 iterate 2 refine gx ?_
 refine qB (qA rfl) rfl (qm rfl (vs := [(0, int .u64 0), (1, int .u64 0), (2, int .u64 0), (3, int .u64 n)]) rfl (fun w => by first | rfl | kernel_rfl) (v := .agg (([0, 0, 0, n] : List Int).map (int .u64)).toArray)) ?_
 refine qn (qA rfl) rfl rfl size185 rfl (vs := ([0, 0, 0, n] : List Int).map (int .u64)) rfl (by simp [(four_len _ _ _ _)]) qb (i := 0) (ent := ⟨g2, 185, ([0, 0, n, 0] : List Int).map (int .u64), 4⟩) rfl rfl (by simp [(four_len _ _ _ _)]) (H' := [⟨g2, 185, ([0, 0, 0, n] : List Int).map (int .u64), 4⟩, ⟨g1, 185, (wtimes (sqA m) m).map (int .u64), 4⟩]) rfl ?_
 iterate 9 refine gx ?_
 refine qr (ι := Nat) (fun k => [(7, .pointer (some ⟨g1, 0, none⟩)), (8, .pointer (some ⟨g2, 0, none⟩)), (9, .int .i64 ((k : Int) - 1))]) (fun k => [⟨g2, 185, ([0, 0, 0, n] : List Int).map (int .u64), 4⟩, ⟨g1, 185, (wtimes (sqA m) m).map (int .u64), 4⟩]) (fun k => k) (fun k => k ≤ 4 ∧ lessF (wtimes (sqA m) m) ([0, 0, 0, n] : List Int) 4 = lessF (wtimes (sqA m) m) ([0, 0, 0, n] : List Int) k) 4 ⟨Nat.le_refl _, rfl⟩ (qI (i := 7) rfl (qI (i := 8) rfl (qH (i := 9) rfl (by first | omega | rfl) (qN)))) (fun w h => h) (fun k hC0 => ?_)
 iterate 7 refine gx ?_
 refine qX rfl (fun hq0 => ?_) (fun hq0 => ?_)
 ·obtain ⟨j, rfl⟩ : ∃ j, k = j + 1 := ⟨k - 1, by omega⟩
  iterate 5 refine gx ?_
  refine qy (by kernel_rfl) [0, 0, 1, 0, 0, 1, 0] rfl (by kernel_rfl) ?_
  refine gx ?_
  refine qG (qA rfl) rfl (fun _ => qq rfl Tryz.underlying185 size37 rfl rfl (i := j) (by omega) (by omega) (off' := j) (by omega)) ?_
  refine qk (qA rfl) rfl (qS rfl agg37 rfl (qZ (i := 1) (ent := ⟨g1, 185, (wtimes (sqA m) m).map (int .u64), 4⟩) (off := j) rfl rfl (by have := qf (kd := .u64) (W := (wtimes (sqA m) m)) (i := j) (by rw [(wtimes_len (sqA m) m)]; omega); (first | exact this | (refine Eq.trans ?_ this; congr 1; omega))))) ?_
  refine gx ?_
  refine qG (qA rfl) rfl (fun _ => qq rfl Tryz.underlying185 size37 rfl rfl (i := j) (by omega) (by omega) (off' := j) (by omega)) ?_
  refine qk (qA rfl) rfl (qS rfl agg37 rfl (qZ (i := 0) (ent := ⟨g2, 185, ([0, 0, 0, n] : List Int).map (int .u64), 4⟩) (off := j) rfl rfl (by have := qf (kd := .u64) (W := ([0, 0, 0, n] : List Int)) (i := j) (by rw [(four_len _ _ _ _)]; omega); (first | exact this | (refine Eq.trans ?_ this; congr 1; omega))))) ?_
  iterate 3 refine gx ?_
  refine qC [7, 8, 9, 35] ?_
  refine qX rfl (fun hq1 => ?_) (fun hq1 => ?_)
  ·refine gx ?_
   refine qy (by kernel_rfl) [0, 0, 1, 0, 0, 1, 0, 0] rfl (by kernel_rfl) ?_
   refine gx ?_
   refine qG (qA rfl) rfl (fun _ => qq rfl Tryz.underlying185 size37 rfl rfl (i := j) (by omega) (by omega) (off' := j) (by omega)) ?_
   refine qk (qA rfl) rfl (qS rfl agg37 rfl (qZ (i := 1) (ent := ⟨g1, 185, (wtimes (sqA m) m).map (int .u64), 4⟩) (off := j) rfl rfl (by have := qf (kd := .u64) (W := (wtimes (sqA m) m)) (i := j) (by rw [(wtimes_len (sqA m) m)]; omega); (first | exact this | (refine Eq.trans ?_ this; congr 1; omega))))) ?_
   refine gx ?_
   refine qG (qA rfl) rfl (fun _ => qq rfl Tryz.underlying185 size37 rfl rfl (i := j) (by omega) (by omega) (off' := j) (by omega)) ?_
   refine qk (qA rfl) rfl (qS rfl agg37 rfl (qZ (i := 0) (ent := ⟨g2, 185, ([0, 0, 0, n] : List Int).map (int .u64), 4⟩) (off := j) rfl rfl (by have := qf (kd := .u64) (W := ([0, 0, 0, n] : List Int)) (i := j) (by rw [(four_len _ _ _ _)]; omega); (first | exact this | (refine Eq.trans ?_ this; congr 1; omega))))) ?_
   iterate 10 refine gx ?_
   exact qK rfl rfl (fun w hs => ⟨by rw [hC0.2, lessF, if_pos hq1], hs.dp⟩)
  ·iterate 5 refine gx ?_
   refine qB (qA rfl) rfl (zH rfl rfl rfl (r := ((j : Int) - 1)) (w64 (by omega) (by omega))) ?_
   iterate 2 refine gx ?_
   exact qj j (by omega) ⟨by omega, by rw [hC0.2, lessF, if_neg hq1]⟩ (qI (i := 7) rfl (qI (i := 8) rfl (qH (i := 9) rfl (by first | omega | rfl) (qN)))) (fun w h => h)
 ·obtain rfl : k = 0 := by omega
  iterate 11 refine gx ?_
  exact qK rfl rfl (fun w hs => ⟨by rw [hC0.2]; rfl, hs.dp⟩)
def lessM (m n : Int) : Bool → Bool
 | true => lessF (wtimes (sqA m) m) [0, 0, 0, n] 4
 | false => lessF (sqA m) [0, 0, n, 0] 4
def bis (n : Int) (c : Bool) : Nat → Int × Int
 | 0 => (0, if c then 34359738368 else 68719476736)
 | k + 1 => if 1 < (bis n c k).2 - (bis n c k).1 then (if lessM (((bis n c k).1 + (bis n c k).2) / 2) n c then (((bis n c k).1 + (bis n c k).2) / 2, (bis n c k).2) else ((bis n c k).1, ((bis n c k).1 + (bis n c k).2) / 2)) else bis n c k
theorem bis_stay {n : Int} {c : Bool} {k : Nat} (h : ¬ 1 < (bis n c k).2 - (bis n c k).1) : ∀ d, bis n c (k + d) = bis n c k
 | 0 => rfl
 | d + 1 => by
  have ih := bis_stay h d
  show (if 1 < (bis n c (k + d)).2 - (bis n c (k + d)).1 then _ else bis n c (k + d)) = _
  rw [ih, if_neg h]
theorem bis_end {n : Int} {c : Bool} {k : Nat} (h : ¬ 1 < (bis n c k).2 - (bis n c k).1) (h40 : ¬ 1 < (bis n c 40).2 - (bis n c 40).1) : bis n c k = bis n c 40 := by
 by_cases hk : k ≤ 40
 ·obtain ⟨d, hd⟩ := Nat.exists_eq_add_of_le hk
  rw [hd]; exact (bis_stay h d).symm
 ·obtain ⟨d, hd⟩ := Nat.exists_eq_add_of_le (show 40 ≤ k by omega)
  rw [hd]; exact bis_stay h40 d
attribute [irreducible] sqA lessF lessM
theorem leastM2_c (m n : Int) (w : World) : Calls Tryz.prog 124 #[.int .u64 m, .int .u64 n, .bool false] w fun e w' => e = .returned (.bool (lessM m n false)) ∧ St w [] w' := by
 have h := least2_c m n w
 rw [show lessM m n false = lessF (sqA m) [0, 0, n, 0] 4 by unfold lessM; rfl]
 exact h
theorem leastM3_c (m n : Int) (w : World) : Calls Tryz.prog 124 #[.int .u64 m, .int .u64 n, .bool true] w fun e w' => e = .returned (.bool (lessM m n true)) ∧ St w [] w' := by
 have h := least3_c m n w
 rw [show lessM m n true = lessF (wtimes (sqA m) m) [0, 0, 0, n] 4 by unfold lessM; rfl]
 exact h
theorem root2_c (n : Int) (w : World) (hfix : ¬ 1 < (bis n false 40).2 - (bis n false 40).1) : Calls Tryz.prog 114 #[.int .u64 n, .bool false] w fun e w' => e = .returned (.int .u32 (IntKind.u32.wrap (bis n false 40).1)) ∧ St w [] w' := by
 refine qL (args := [.int .u64 n, .bool false]) Tryz.func114 rfl Tryz.ntmps114 (by simp) ?_
 refine qC [0, 1] ?_
 iterate 21 refine gx ?_
 refine qW rfl ?_
 iterate 4 refine gx ?_
 refine qr (ι := Nat) (fun k => [(0, .int .u64 n), (1, .bool false), (5, .int .u64 ((bis n false k).1)), (6, .int .u64 ((bis n false k).2))]) (fun k => []) (fun k => ((bis n false k).2 - (bis n false k).1).toNat) (fun k => 0 ≤ (bis n false k).1 ∧ (bis n false k).1 < (bis n false k).2 ∧ (bis n false k).2 ≤ 68719476736) 0 ⟨by show (0 : Int) ≤ 0; omega, by show (0 : Int) < 68719476736; omega, by show (68719476736 : Int) ≤ 68719476736; omega⟩ (qH (i := 0) rfl (by first | rfl | omega) (qI (i := 1) rfl (qH (i := 5) rfl (by first | rfl | omega) (qH (i := 6) rfl (by first | rfl | omega) (qN))))) (fun w h => h) (fun k hC0 => ?_)
 iterate 5 refine gx ?_
 refine qB (qA rfl) rfl (zH rfl rfl rfl (r := (((bis n false k).2) - ((bis n false k).1))) (wu64 (by omega) (by omega))) ?_
 iterate 3 refine gx ?_
 refine qX rfl (fun hq0 => ?_) (fun hq0 => ?_)
 ·iterate 7 refine gx ?_
  refine qB (qA rfl) rfl (qR rfl rfl rfl (r := (((bis n false k).1) + ((bis n false k).2))) (wu64 (by omega) (by omega))) ?_
  refine qB (qA rfl) rfl (Gets.quo rfl rfl rfl (by omega) (r := ((((bis n false k).1) + ((bis n false k).2)) / 2)) (tdiv_pos (by omega) (wu64 (by omega) (by omega)))) ?_
  iterate 3 refine gx ?_
  refine qC [0, 1, 5, 6, 7] ?_
  iterate 5 refine gx ?_
  refine qM (qA rfl) rfl enters124 rfl rfl (v := .bool (lessM ((((bis n false k).1) + ((bis n false k).2)) / 2) n false)) (fun w hs => leastM2_c ((((bis n false k).1) + ((bis n false k).2)) / 2) n w) ?_
  iterate 2 refine gx ?_
  refine qC [0, 1, 5, 6, 7, 20] ?_
  refine TC.splitB rfl (fun hq1 => ?_) (fun hq1 => ?_)
  ·iterate 5 refine gx ?_
   have e1 : bis n false (k + 1) = (if 1 < (bis n false k).2 - (bis n false k).1 then (if lessM (((bis n false k).1 + (bis n false k).2) / 2) n false then ((((bis n false k).1 + (bis n false k).2) / 2), (bis n false k).2) else ((bis n false k).1, (((bis n false k).1 + (bis n false k).2) / 2))) else bis n false k) := rfl
   rw [if_pos hq0, hq1] at e1
   simp only [if_true, Bool.false_eq_true, if_false] at e1
   have e2 := congrArg Prod.fst e1
   have e3 := congrArg Prod.snd e1
   dsimp only at e2 e3
   exact qj (k + 1) (by omega) ⟨by omega, by omega, by omega⟩ (qH (i := 0) rfl (by first | rfl | omega) (qI (i := 1) rfl (qH (i := 5) rfl (by first | rfl | omega) (qH (i := 6) rfl (by first | rfl | omega) (qN))))) (fun w h => h)
  ·iterate 5 refine gx ?_
   have e1 : bis n false (k + 1) = (if 1 < (bis n false k).2 - (bis n false k).1 then (if lessM (((bis n false k).1 + (bis n false k).2) / 2) n false then ((((bis n false k).1 + (bis n false k).2) / 2), (bis n false k).2) else ((bis n false k).1, (((bis n false k).1 + (bis n false k).2) / 2))) else bis n false k) := rfl
   rw [if_pos hq0, hq1] at e1
   simp only [if_true, Bool.false_eq_true, if_false] at e1
   have e2 := congrArg Prod.fst e1
   have e3 := congrArg Prod.snd e1
   dsimp only at e2 e3
   exact qj (k + 1) (by omega) ⟨by omega, by omega, by omega⟩ (qH (i := 0) rfl (by first | rfl | omega) (qI (i := 1) rfl (qH (i := 5) rfl (by first | rfl | omega) (qH (i := 6) rfl (by first | rfl | omega) (qN))))) (fun w h => h)
 ·have hend := bis_end hq0 hfix
  iterate 8 refine gx ?_
  refine qB (qA rfl) rfl (qt rfl Tryz.underlying37 Tryz.underlying127 rfl (r := (IntKind.u32.wrap ((bis n false k).1))) rfl) ?_
  iterate 4 refine gx ?_
  exact qK rfl rfl (fun w hs => ⟨by rw [hend], hs⟩)
theorem root3_c (n : Int) (w : World) (hfix : ¬ 1 < (bis n true 40).2 - (bis n true 40).1) : Calls Tryz.prog 114 #[.int .u64 n, .bool true] w fun e w' => e = .returned (.int .u32 (IntKind.u32.wrap (bis n true 40).1)) ∧ St w [] w' := by
 refine qL (args := [.int .u64 n, .bool true]) Tryz.func114 rfl Tryz.ntmps114 (by simp) ?_
 refine qC [0, 1] ?_
 iterate 21 refine gx ?_
 refine qd rfl ?_
 iterate 6 refine gx ?_
 refine qr (ι := Nat) (fun k => [(0, .int .u64 n), (1, .bool true), (5, .int .u64 ((bis n true k).1)), (6, .int .u64 ((bis n true k).2))]) (fun k => []) (fun k => ((bis n true k).2 - (bis n true k).1).toNat) (fun k => 0 ≤ (bis n true k).1 ∧ (bis n true k).1 < (bis n true k).2 ∧ (bis n true k).2 ≤ 68719476736) 0 ⟨by show (0 : Int) ≤ 0; omega, by show (0 : Int) < 34359738368; omega, by show (34359738368 : Int) ≤ 68719476736; omega⟩ (qH (i := 0) rfl (by first | rfl | omega) (qI (i := 1) rfl (qH (i := 5) rfl (by first | rfl | omega) (qH (i := 6) rfl (by first | rfl | omega) (qN))))) (fun w h => h) (fun k hC0 => ?_)
 iterate 5 refine gx ?_
 refine qB (qA rfl) rfl (zH rfl rfl rfl (r := (((bis n true k).2) - ((bis n true k).1))) (wu64 (by omega) (by omega))) ?_
 iterate 3 refine gx ?_
 refine qX rfl (fun hq0 => ?_) (fun hq0 => ?_)
 ·iterate 7 refine gx ?_
  refine qB (qA rfl) rfl (qR rfl rfl rfl (r := (((bis n true k).1) + ((bis n true k).2))) (wu64 (by omega) (by omega))) ?_
  refine qB (qA rfl) rfl (Gets.quo rfl rfl rfl (by omega) (r := ((((bis n true k).1) + ((bis n true k).2)) / 2)) (tdiv_pos (by omega) (wu64 (by omega) (by omega)))) ?_
  iterate 3 refine gx ?_
  refine qC [0, 1, 5, 6, 7] ?_
  iterate 5 refine gx ?_
  refine qM (qA rfl) rfl enters124 rfl rfl (v := .bool (lessM ((((bis n true k).1) + ((bis n true k).2)) / 2) n true)) (fun w hs => leastM3_c ((((bis n true k).1) + ((bis n true k).2)) / 2) n w) ?_
  iterate 2 refine gx ?_
  refine qC [0, 1, 5, 6, 7, 20] ?_
  refine TC.splitB rfl (fun hq1 => ?_) (fun hq1 => ?_)
  ·iterate 5 refine gx ?_
   have e1 : bis n true (k + 1) = (if 1 < (bis n true k).2 - (bis n true k).1 then (if lessM (((bis n true k).1 + (bis n true k).2) / 2) n true then ((((bis n true k).1 + (bis n true k).2) / 2), (bis n true k).2) else ((bis n true k).1, (((bis n true k).1 + (bis n true k).2) / 2))) else bis n true k) := rfl
   rw [if_pos hq0, hq1] at e1
   simp only [if_true, Bool.false_eq_true, if_false] at e1
   have e2 := congrArg Prod.fst e1
   have e3 := congrArg Prod.snd e1
   dsimp only at e2 e3
   exact qj (k + 1) (by omega) ⟨by omega, by omega, by omega⟩ (qH (i := 0) rfl (by first | rfl | omega) (qI (i := 1) rfl (qH (i := 5) rfl (by first | rfl | omega) (qH (i := 6) rfl (by first | rfl | omega) (qN))))) (fun w h => h)
  ·iterate 5 refine gx ?_
   have e1 : bis n true (k + 1) = (if 1 < (bis n true k).2 - (bis n true k).1 then (if lessM (((bis n true k).1 + (bis n true k).2) / 2) n true then ((((bis n true k).1 + (bis n true k).2) / 2), (bis n true k).2) else ((bis n true k).1, (((bis n true k).1 + (bis n true k).2) / 2))) else bis n true k) := rfl
   rw [if_pos hq0, hq1] at e1
   simp only [if_true, Bool.false_eq_true, if_false] at e1
   have e2 := congrArg Prod.fst e1
   have e3 := congrArg Prod.snd e1
   dsimp only at e2 e3
   exact qj (k + 1) (by omega) ⟨by omega, by omega, by omega⟩ (qH (i := 0) rfl (by first | rfl | omega) (qI (i := 1) rfl (qH (i := 5) rfl (by first | rfl | omega) (qH (i := 6) rfl (by first | rfl | omega) (qN))))) (fun w h => h)
 ·have hend := bis_end hq0 hfix
  iterate 8 refine gx ?_
  refine qB (qA rfl) rfl (qt rfl Tryz.underlying37 Tryz.underlying127 rfl (r := (IntKind.u32.wrap ((bis n true k).1))) rfl) ?_
  iterate 4 refine gx ?_
  exact qK rfl rfl (fun w hs => ⟨by rw [hend], hs⟩)
/-
 The reference: schedule.
-/
theorem enters112 : Enters Tryz.prog 112 := ⟨_, Tryz.func112, by kernel_rfl, by kernel_rfl⟩
theorem mk127 : (Tryz.prog.info? 127).map (fun i => (i.zero, i.size, i.bytes)) = some (some (.int .u32 0), 1, 4) := by kernel_rfl
theorem zero127 : (Tryz.prog.info? 127).bind (·.zero) = some (.int .u32 0) := by kernel_rfl
def wordN (B L : List Int) (t : Nat) : Int := addW .u32 (addW .u32 (addW .u32 (sig1 (L.getD (t + 14) 0)) (L.getD (t + 9) 0)) (sig0 (L.getD (t + 1) 0))) (L.getD t 0)
def schA (B : List Int) : Nat → List Int
 | 0 => []
 | k + 1 => schA B k ++ [wordAt B k]
def schB (B : List Int) : Nat → List Int
 | 0 => schA B 16
 | t + 1 => schB B t ++ [wordN B (schB B t) t]
theorem schA_len (B : List Int) : ∀ k, (schA B k).length = k
 | 0 => rfl
 | k + 1 => by simp [schA, schA_len B k]
theorem schB_len (B : List Int) : ∀ k, (schB B k).length = 16 + k
 | 0 => schA_len B 16
 | k + 1 => by simp [schB, schB_len B k]; omega
theorem w16_schA (B : List Int) : ∀ k, k ≤ 16 → w16 B k = schA B k ++ List.replicate (64 - k) 0
 | 0, _ => by simp [w16, schA]
 | k + 1, h => by
  have ih := w16_schA B k (by omega)
  have hl := schA_len B k
  simp only [w16, schA, ih]
  rw [show 64 - k = (64 - (k + 1)) + 1 by omega, List.replicate_succ, List.set_append_right _ _ (by omega), hl, Nat.sub_self, List.set_cons_zero]
  simp
theorem getD_app {l r : List Int} {i : Nat} (h : i < l.length) : (l ++ r).getD i 0 = l.getD i 0 := by
 simp [List.getD_eq_getElem?_getD, List.getElem?_append, h]
theorem sch_schB (B : List Int) : ∀ k, k ≤ 48 → sch (w16 B 16) k = schB B k ++ List.replicate (48 - k) 0
 | 0, _ => by rw [show sch (w16 B 16) 0 = w16 B 16 from rfl, w16_schA B 16 (Nat.le_refl _)]; rfl
 | k + 1, h => by
  have ih := sch_schB B k (by omega)
  have hl := schB_len B k
  simp only [sch, schB, ih, wordN]
  rw [show 48 - k = (48 - (k + 1)) + 1 by omega, List.replicate_succ]
  rw [getD_app (by omega), getD_app (by omega), getD_app (by omega), getD_app (by omega)]
  rw [List.set_append_right _ _ (by omega), hl, show k + 16 - (16 + k) = 0 by omega, List.set_cons_zero]
  simp
attribute [local irreducible] wordN
structure WV where
 k : Nat
 v : Value
 He : List Ent
structure WG where
 k : Nat
 g : Nat
 c : Nat
theorem sched_schB (B : List Int) : sched B = schB B 48 := by
 have := sch_schB B 48 (Nat.le_refl _)
 simp only [Nat.sub_self, List.replicate_zero, List.append_nil] at this
 rw [← this]; unfold sched; rfl
theorem rschedule_c (B : List Int) (b off cap : Nat) (w : World) (hb : b < w.heap.size) (hB : RowI w b off 64 .u8 B) (hcap : 64 ≤ cap) : Calls Tryz.prog 89 #[.slice (some ⟨b, off, none⟩) 64 cap] w fun e w' => ∃ v He, e = .returned v ∧ Own w.heap.size 127 .u32 v (sched B) He ∧ St w He w' := by
 refine qL (args := [.slice (some ⟨b, off, none⟩) 64 cap]) Tryz.func89 rfl Tryz.ntmps89 (by simp) ?_
 refine qC [0] ?_
 iterate 17 refine gx ?_
 refine qr (ι := WV) (fun x => [(0, .slice (some ⟨b, off, none⟩) 64 cap), (3, x.v), (4, .int .i64 (x.k : Int))]) (fun x => [] ++ x.He) (fun x => 16 - x.k) (fun x => Own w.heap.size 127 .u32 x.v (schA B x.k) x.He ∧ x.k ≤ 16) (⟨0, .slice none 0 0, []⟩ : WV) ⟨Own.nil _ _ _, by show 0 ≤ 16; omega⟩ (qT (i := 0) rfl rfl (by first | omega | (dsimp only; omega) | rfl) (by first | omega | (dsimp only; omega) | rfl) (qI (i := 3) rfl (qH (i := 4) rfl (by first | omega | rfl) (qN)))) (fun w h => h) (fun x hC0 => ?_)
 obtain ⟨k, v, He⟩ := x
 obtain ⟨hown, hC2⟩ := hC0
 dsimp only at hown hC2 ⊢
 iterate 7 refine gx ?_
 refine qX rfl (fun hq0 => ?_) (fun hq0 => ?_)
 ·iterate 4 refine gx ?_
  refine TC.mix3 (by kernel_rfl) [0, 0, 0, 0, 0, 1, 1, 0, 0, 0, 0, 0, 0, 1, 1, 0, 0, 0, 0, 0, 0, 0, 1, 1, 0, 0, 0, 0, 0, 0, 0, 1, 1, 0, 3, 3, 0] rfl (by kernel_rfl) ?_
  refine qh (qA rfl) rfl (fun _ => qp rfl rfl) ?_
  refine qh (qA rfl) rfl (fun _ => qp rfl rfl) ?_
  refine qh (qA rfl) rfl (fun _ => qp rfl rfl) ?_
  refine qh (qA rfl) rfl (fun _ => zY rfl rfl rfl (r := (4 * (k : Int))) (w64 (by omega) (by omega))) ?_
  refine qh (qA rfl) rfl (fun _ => ql rfl Tryz.underlying22 size5 rfl rfl (i := (4 * k)) (by omega) (by omega) (off' := (off + 4 * k)) (by omega)) ?_
  refine TN.gets (qA rfl) rfl (qS rfl agg5 rfl (At.rowI hB (i := (4 * k)) (by omega) (by omega) hb (qV qF (hown.ne hb)))) ?_
  refine TN.gets (qA rfl) rfl (qt rfl Tryz.underlying5 Tryz.underlying127 rfl (r := (IntKind.u32.wrap (B.getD (4 * k) 0))) rfl) ?_
  refine qh (qA rfl) rfl (fun _ => Gets.shl rfl rfl rfl (by omega) (r := (shlI .u32 (IntKind.u32.wrap (B.getD (4 * k) 0)) 24)) rfl) ?_
  refine qh (qA rfl) rfl (fun _ => qp rfl rfl) ?_
  refine qh (qA rfl) rfl (fun _ => qp rfl rfl) ?_
  refine qh (qA rfl) rfl (fun _ => zY rfl rfl rfl (r := (4 * (k : Int))) (w64 (by omega) (by omega))) ?_
  refine qh (qA rfl) rfl (fun _ => qR rfl rfl rfl (r := (4 * (k : Int) + 1)) (w64 (by omega) (by omega))) ?_
  refine qh (qA rfl) rfl (fun _ => ql rfl Tryz.underlying22 size5 rfl rfl (i := (4 * k + 1)) (by omega) (by omega) (off' := (off + 4 * k + 1)) (by omega)) ?_
  refine TN.gets (qA rfl) rfl (qS rfl agg5 rfl (At.rowI hB (i := (4 * k + 1)) (by omega) (by omega) hb (qV qF (hown.ne hb)))) ?_
  refine TN.gets (qA rfl) rfl (qt rfl Tryz.underlying5 Tryz.underlying127 rfl (r := (IntKind.u32.wrap (B.getD (4 * k + 1) 0))) rfl) ?_
  refine qh (qA rfl) rfl (fun _ => Gets.shl rfl rfl rfl (by omega) (r := (shlI .u32 (IntKind.u32.wrap (B.getD (4 * k + 1) 0)) 16)) rfl) ?_
  refine qh (qA rfl) rfl (fun _ => Gets.or rfl rfl rfl (r := (orI .u32 (shlI .u32 (IntKind.u32.wrap (B.getD (4 * k) 0)) 24) (shlI .u32 (IntKind.u32.wrap (B.getD (4 * k + 1) 0)) 16))) rfl) ?_
  refine qh (qA rfl) rfl (fun _ => qp rfl rfl) ?_
  refine qh (qA rfl) rfl (fun _ => qp rfl rfl) ?_
  refine qh (qA rfl) rfl (fun _ => zY rfl rfl rfl (r := (4 * (k : Int))) (w64 (by omega) (by omega))) ?_
  refine qh (qA rfl) rfl (fun _ => qR rfl rfl rfl (r := (4 * (k : Int) + 2)) (w64 (by omega) (by omega))) ?_
  refine qh (qA rfl) rfl (fun _ => ql rfl Tryz.underlying22 size5 rfl rfl (i := (4 * k + 2)) (by omega) (by omega) (off' := (off + 4 * k + 2)) (by omega)) ?_
  refine TN.gets (qA rfl) rfl (qS rfl agg5 rfl (At.rowI hB (i := (4 * k + 2)) (by omega) (by omega) hb (qV qF (hown.ne hb)))) ?_
  refine TN.gets (qA rfl) rfl (qt rfl Tryz.underlying5 Tryz.underlying127 rfl (r := (IntKind.u32.wrap (B.getD (4 * k + 2) 0))) rfl) ?_
  refine qh (qA rfl) rfl (fun _ => Gets.shl rfl rfl rfl (by omega) (r := (shlI .u32 (IntKind.u32.wrap (B.getD (4 * k + 2) 0)) 8)) rfl) ?_
  refine qh (qA rfl) rfl (fun _ => Gets.or rfl rfl rfl (r := (orI .u32 (orI .u32 (shlI .u32 (IntKind.u32.wrap (B.getD (4 * k) 0)) 24) (shlI .u32 (IntKind.u32.wrap (B.getD (4 * k + 1) 0)) 16)) (shlI .u32 (IntKind.u32.wrap (B.getD (4 * k + 2) 0)) 8))) rfl) ?_
  refine qh (qA rfl) rfl (fun _ => qp rfl rfl) ?_
  refine qh (qA rfl) rfl (fun _ => qp rfl rfl) ?_
  refine qh (qA rfl) rfl (fun _ => zY rfl rfl rfl (r := (4 * (k : Int))) (w64 (by omega) (by omega))) ?_
  refine qh (qA rfl) rfl (fun _ => qR rfl rfl rfl (r := (4 * (k : Int) + 3)) (w64 (by omega) (by omega))) ?_
  refine qh (qA rfl) rfl (fun _ => ql rfl Tryz.underlying22 size5 rfl rfl (i := (4 * k + 3)) (by omega) (by omega) (off' := (off + 4 * k + 3)) (by omega)) ?_
  refine TN.gets (qA rfl) rfl (qS rfl agg5 rfl (At.rowI hB (i := (4 * k + 3)) (by omega) (by omega) hb (qV qF (hown.ne hb)))) ?_
  refine TN.gets (qA rfl) rfl (qt rfl Tryz.underlying5 Tryz.underlying127 rfl (r := (IntKind.u32.wrap (B.getD (4 * k + 3) 0))) rfl) ?_
  refine qh (qA rfl) rfl (fun _ => Gets.or rfl rfl rfl (r := (orI .u32 (orI .u32 (orI .u32 (shlI .u32 (IntKind.u32.wrap (B.getD (4 * k) 0)) 24) (shlI .u32 (IntKind.u32.wrap (B.getD (4 * k + 1) 0)) 16)) (shlI .u32 (IntKind.u32.wrap (B.getD (4 * k + 2) 0)) 8)) (IntKind.u32.wrap (B.getD (4 * k + 3) 0)))) rfl) ?_
  refine TN.buildSlice (qA rfl) rfl rfl Tryz.underlying102 size127 zero127 rfl (by decide) (by decide) (cells := #[.int .u32 (orI .u32 (orI .u32 (orI .u32 (shlI .u32 (IntKind.u32.wrap (B.getD (4 * k) 0)) 24) (shlI .u32 (IntKind.u32.wrap (B.getD (4 * k + 1) 0)) 16)) (shlI .u32 (IntKind.u32.wrap (B.getD (4 * k + 2) 0)) 8)) (IntKind.u32.wrap (B.getD (4 * k + 3) 0)))]) (tot := 1) (by kernel_rfl) (cs := [.int .u32 (orI .u32 (orI .u32 (orI .u32 (shlI .u32 (IntKind.u32.wrap (B.getD (4 * k) 0)) 24) (shlI .u32 (IntKind.u32.wrap (B.getD (4 * k + 1) 0)) 16)) (shlI .u32 (IntKind.u32.wrap (B.getD (4 * k + 2) 0)) 8)) (IntKind.u32.wrap (B.getD (4 * k + 3) 0)))]) rfl rfl (fun g1 hg1 => ?_)
  refine TN.appendOwn (H := [⟨g1, 127, [int .u32 (orI .u32 (orI .u32 (orI .u32 (shlI .u32 (IntKind.u32.wrap (B.getD (4 * k) 0)) 24) (shlI .u32 (IntKind.u32.wrap (B.getD (4 * k + 1) 0)) 16)) (shlI .u32 (IntKind.u32.wrap (B.getD (4 * k + 2) 0)) 8)) (IntKind.u32.wrap (B.getD (4 * k + 3) 0)))], 1⟩]) (sl := 1) (t := 102) (e := 127) (kd := .u32) (qA rfl) rfl rfl Tryz.underlying102 mk127 rfl rfl rfl (W := schA B k) (B := [(orI .u32 (orI .u32 (orI .u32 (shlI .u32 (IntKind.u32.wrap (B.getD (4 * k) 0)) 24) (shlI .u32 (IntKind.u32.wrap (B.getD (4 * k + 1) 0)) 16)) (shlI .u32 (IntKind.u32.wrap (B.getD (4 * k + 2) 0)) 8)) (IntKind.u32.wrap (B.getD (4 * k + 3) 0)))]) hown (fun w hs => zT (W := [(orI .u32 (orI .u32 (orI .u32 (shlI .u32 (IntKind.u32.wrap (B.getD (4 * k) 0)) 24) (shlI .u32 (IntKind.u32.wrap (B.getD (4 * k + 1) 0)) 16)) (shlI .u32 (IntKind.u32.wrap (B.getD (4 * k + 2) 0)) 8)) (IntKind.u32.wrap (B.getD (4 * k + 3) 0)))]) (hs.has ⟨g1, 127, [int .u32 (orI .u32 (orI .u32 (orI .u32 (shlI .u32 (IntKind.u32.wrap (B.getD (4 * k) 0)) 24) (shlI .u32 (IntKind.u32.wrap (B.getD (4 * k + 1) 0)) 16)) (shlI .u32 (IntKind.u32.wrap (B.getD (4 * k + 2) 0)) 8)) (IntKind.u32.wrap (B.getD (4 * k + 3) 0)))], 1⟩ (by simp)) rfl) (by have := schA_len B k; omega) (by have := schA_len B k; omega) (fun vo Ho ho hne => ?_)
  refine qh (qA rfl) rfl (fun _ => zf rfl rfl) ?_
  refine TN.nil ?_
  iterate 2 refine gx ?_
  refine qC [0, 3, 4] ?_
  iterate 2 refine gx ?_
  refine qB (qA rfl) rfl (qR rfl rfl rfl (r := ((k : Int) + 1)) (w64 (by omega) (by omega))) ?_
  iterate 2 refine gx ?_
  exact qj (⟨k + 1, vo, Ho⟩ : WV) (by show 16 - (k + 1) < 16 - k; omega) ⟨by show Own _ _ _ vo (schA B (k + 1)) Ho; unfold schA wordAt; exact ho, by show k + 1 ≤ 16; omega⟩ (qT (i := 0) rfl rfl (by first | omega | (dsimp only; omega) | rfl) (by first | omega | (dsimp only; omega) | rfl) (qI (i := 3) rfl (qH (i := 4) rfl (by first | omega | rfl) (qN)))) (fun w h => h.drop (by assumption))
 ·obtain rfl : k = 16 := by omega
  iterate 12 refine gx ?_
  refine qr (ι := WV) (fun x => [(3, x.v), (5, .int .i64 ((x.k : Int) + 16))]) (fun x => [] ++ x.He) (fun x => 48 - x.k) (fun x => Own w.heap.size 127 .u32 x.v (schB B x.k) x.He ∧ x.k ≤ 48) (⟨0, v, He⟩ : WV) ⟨hown, by show 0 ≤ 48; omega⟩ (qI (i := 3) rfl (qH (i := 5) rfl (by first | omega | rfl) (qN))) (fun w h => h) (fun x hC1 => ?_)
  obtain ⟨k, v, He⟩ := x
  obtain ⟨hown, hC2⟩ := hC1
  dsimp only at hown hC2 ⊢
  have hBl := schB_len B k
  iterate 7 refine gx ?_
  refine qX rfl (fun hq1 => ?_) (fun hq1 => ?_)
  ·obtain ⟨g, c, rfl, rfl, hN, hc, hm⟩ := hown.resolve_left (fun h => by have := congrArg List.length h.2.1; rw [hBl] at this; simp at this)
   rw [hBl]
   iterate 8 refine gx ?_
   refine qB (qA rfl) rfl (zH rfl rfl rfl (r := ((k : Int) + 1)) (w64 (by omega) (by omega))) ?_
   refine qB (qA rfl) rfl (ql rfl Tryz.underlying102 size127 rfl rfl (i := (k + 1)) (by omega) (by omega) (off' := (k + 1)) (by omega)) ?_
   refine qB (qA rfl) rfl (qS rfl agg127 rfl (qZ (i := 0) (ent := ⟨g, 127, (schB B k).map (int .u32), c⟩) (off := (k + 1)) rfl rfl (by have := qf (kd := .u32) (W := schB B k) (i := (k + 1)) (by rw [hBl]; omega); (first | exact this | (refine Eq.trans ?_ this; congr 1; omega))))) ?_
   iterate 3 refine gx ?_
   refine qC [3, 5, 6] ?_
   iterate 4 refine gx ?_
   refine qB (qA rfl) rfl (zH rfl rfl rfl (r := ((k : Int) + 14)) (w64 (by omega) (by omega))) ?_
   refine qB (qA rfl) rfl (ql rfl Tryz.underlying102 size127 rfl rfl (i := (k + 14)) (by omega) (by omega) (off' := (k + 14)) (by omega)) ?_
   refine qB (qA rfl) rfl (qS rfl agg127 rfl (qZ (i := 0) (ent := ⟨g, 127, (schB B k).map (int .u32), c⟩) (off := (k + 14)) rfl rfl (by have := qf (kd := .u32) (W := schB B k) (i := (k + 14)) (by rw [hBl]; omega); (first | exact this | (refine Eq.trans ?_ this; congr 1; omega))))) ?_
   iterate 3 refine gx ?_
   refine qC [3, 5, 6, 7] ?_
   iterate 3 refine gx ?_
   refine qM (qA rfl) rfl enters112 rfl rfl (v := .int .u32 (rotr ((schB B k).getD (k + 1) 0) 7)) (fun w hs => rrotate_c ((schB B k).getD (k + 1) 0) 7 w (by omega) (by omega)) ?_
   refine gx ?_
   refine qM (qA rfl) rfl enters112 rfl rfl (v := .int .u32 (rotr ((schB B k).getD (k + 1) 0) 18)) (fun w hs => rrotate_c ((schB B k).getD (k + 1) 0) 18 w (by omega) (by omega)) ?_
   refine qB (qA rfl) rfl (zR rfl rfl rfl (r := (xorI .u32 (rotr ((schB B k).getD (k + 1) 0) 7) (rotr ((schB B k).getD (k + 1) 0) 18))) rfl) ?_
   refine gx ?_
   refine qB (qA rfl) rfl (zN rfl rfl rfl (by omega) (r := (shrI .u32 ((schB B k).getD (k + 1) 0) 3)) rfl) ?_
   refine qB (qA rfl) rfl (zR rfl rfl rfl (r := (xorI .u32 (xorI .u32 (rotr ((schB B k).getD (k + 1) 0) 7) (rotr ((schB B k).getD (k + 1) 0) 18)) (shrI .u32 ((schB B k).getD (k + 1) 0) 3))) rfl) ?_
   iterate 3 refine gx ?_
   refine qC [3, 5, 7, 8] ?_
   iterate 3 refine gx ?_
   refine qM (qA rfl) rfl enters112 rfl rfl (v := .int .u32 (rotr ((schB B k).getD (k + 14) 0) 17)) (fun w hs => rrotate_c ((schB B k).getD (k + 14) 0) 17 w (by omega) (by omega)) ?_
   refine gx ?_
   refine qM (qA rfl) rfl enters112 rfl rfl (v := .int .u32 (rotr ((schB B k).getD (k + 14) 0) 19)) (fun w hs => rrotate_c ((schB B k).getD (k + 14) 0) 19 w (by omega) (by omega)) ?_
   refine qB (qA rfl) rfl (zR rfl rfl rfl (r := (xorI .u32 (rotr ((schB B k).getD (k + 14) 0) 17) (rotr ((schB B k).getD (k + 14) 0) 19))) rfl) ?_
   refine gx ?_
   refine qB (qA rfl) rfl (zN rfl rfl rfl (by omega) (r := (shrI .u32 ((schB B k).getD (k + 14) 0) 10)) rfl) ?_
   refine qB (qA rfl) rfl (zR rfl rfl rfl (r := (xorI .u32 (xorI .u32 (rotr ((schB B k).getD (k + 14) 0) 17) (rotr ((schB B k).getD (k + 14) 0) 19)) (shrI .u32 ((schB B k).getD (k + 14) 0) 10))) rfl) ?_
   iterate 3 refine gx ?_
   refine qC [3, 5, 8, 9] ?_
   refine TC.mix3 (by kernel_rfl) [0, 0, 0, 0, 0, 0, 1, 0, 0, 0, 0, 0, 0, 0, 1, 0, 3, 3, 0] rfl (by kernel_rfl) ?_
   refine qh (qA rfl) rfl (fun _ => qp rfl rfl) ?_
   refine qh (qA rfl) rfl (fun _ => qp rfl rfl) ?_
   refine qh (qA rfl) rfl (fun _ => qp rfl rfl) ?_
   refine qh (qA rfl) rfl (fun _ => qp rfl rfl) ?_
   refine qh (qA rfl) rfl (fun _ => zH rfl rfl rfl (r := ((k : Int) + 9)) (w64 (by omega) (by omega))) ?_
   refine qh (qA rfl) rfl (fun _ => ql rfl Tryz.underlying102 size127 rfl rfl (i := (k + 9)) (by omega) (by omega) (off' := (k + 9)) (by omega)) ?_
   refine TN.gets (qA rfl) rfl (qS rfl agg127 rfl (qZ (i := 0) (ent := ⟨g, 127, (schB B k).map (int .u32), c⟩) (off := (k + 9)) rfl rfl (by have := qf (kd := .u32) (W := schB B k) (i := (k + 9)) (by rw [hBl]; omega); (first | exact this | (refine Eq.trans ?_ this; congr 1; omega))))) ?_
   refine qh (qA rfl) rfl (fun _ => zG rfl rfl rfl) ?_
   refine qh (qA rfl) rfl (fun _ => qp rfl rfl) ?_
   refine qh (qA rfl) rfl (fun _ => zG rfl rfl rfl) ?_
   refine qh (qA rfl) rfl (fun _ => qp rfl rfl) ?_
   refine qh (qA rfl) rfl (fun _ => qp rfl rfl) ?_
   refine qh (qA rfl) rfl (fun _ => zH rfl rfl rfl (r := (k : Int)) (w64 (by omega) (by omega))) ?_
   refine qh (qA rfl) rfl (fun _ => ql rfl Tryz.underlying102 size127 rfl rfl (i := k) (by omega) (by omega) (off' := k) (by omega)) ?_
   refine TN.gets (qA rfl) rfl (qS rfl agg127 rfl (qZ (i := 0) (ent := ⟨g, 127, (schB B k).map (int .u32), c⟩) (off := k) rfl rfl (by have := qf (kd := .u32) (W := schB B k) (i := k) (by rw [hBl]; omega); (first | exact this | (refine Eq.trans ?_ this; congr 1; omega))))) ?_
   refine qh (qA rfl) rfl (fun _ => zG rfl rfl rfl) ?_
   refine TN.buildSlice (qA rfl) rfl rfl Tryz.underlying102 size127 zero127 rfl (by decide) (by decide) (cells := #[.int .u32 (addW .u32 (addW .u32 (addW .u32 (xorI .u32 (xorI .u32 (rotr ((schB B k).getD (k + 14) 0) 17) (rotr ((schB B k).getD (k + 14) 0) 19)) (shrI .u32 ((schB B k).getD (k + 14) 0) 10)) ((schB B k).getD (k + 9) 0)) (xorI .u32 (xorI .u32 (rotr ((schB B k).getD (k + 1) 0) 7) (rotr ((schB B k).getD (k + 1) 0) 18)) (shrI .u32 ((schB B k).getD (k + 1) 0) 3))) ((schB B k).getD k 0))]) (tot := 1) (by kernel_rfl) (cs := [.int .u32 (addW .u32 (addW .u32 (addW .u32 (xorI .u32 (xorI .u32 (rotr ((schB B k).getD (k + 14) 0) 17) (rotr ((schB B k).getD (k + 14) 0) 19)) (shrI .u32 ((schB B k).getD (k + 14) 0) 10)) ((schB B k).getD (k + 9) 0)) (xorI .u32 (xorI .u32 (rotr ((schB B k).getD (k + 1) 0) 7) (rotr ((schB B k).getD (k + 1) 0) 18)) (shrI .u32 ((schB B k).getD (k + 1) 0) 3))) ((schB B k).getD k 0))]) rfl rfl (fun g2 hg2 => ?_)
   refine TN.appendOwn (H := [⟨g2, 127, [int .u32 (addW .u32 (addW .u32 (addW .u32 (xorI .u32 (xorI .u32 (rotr ((schB B k).getD (k + 14) 0) 17) (rotr ((schB B k).getD (k + 14) 0) 19)) (shrI .u32 ((schB B k).getD (k + 14) 0) 10)) ((schB B k).getD (k + 9) 0)) (xorI .u32 (xorI .u32 (rotr ((schB B k).getD (k + 1) 0) 7) (rotr ((schB B k).getD (k + 1) 0) 18)) (shrI .u32 ((schB B k).getD (k + 1) 0) 3))) ((schB B k).getD k 0))], 1⟩]) (He := [⟨g, 127, (schB B k).map (int .u32), c⟩]) (sl := 1) (t := 102) (e := 127) (kd := .u32) (qA rfl) rfl rfl Tryz.underlying102 mk127 rfl rfl rfl (W := schB B k) (B := [(addW .u32 (addW .u32 (addW .u32 (xorI .u32 (xorI .u32 (rotr ((schB B k).getD (k + 14) 0) 17) (rotr ((schB B k).getD (k + 14) 0) 19)) (shrI .u32 ((schB B k).getD (k + 14) 0) 10)) ((schB B k).getD (k + 9) 0)) (xorI .u32 (xorI .u32 (rotr ((schB B k).getD (k + 1) 0) 7) (rotr ((schB B k).getD (k + 1) 0) 18)) (shrI .u32 ((schB B k).getD (k + 1) 0) 3))) ((schB B k).getD k 0))]) (.inr ⟨g, c, by rw [hBl], rfl, hN, hc, hm⟩) (fun w hs => zT (W := [(addW .u32 (addW .u32 (addW .u32 (xorI .u32 (xorI .u32 (rotr ((schB B k).getD (k + 14) 0) 17) (rotr ((schB B k).getD (k + 14) 0) 19)) (shrI .u32 ((schB B k).getD (k + 14) 0) 10)) ((schB B k).getD (k + 9) 0)) (xorI .u32 (xorI .u32 (rotr ((schB B k).getD (k + 1) 0) 7) (rotr ((schB B k).getD (k + 1) 0) 18)) (shrI .u32 ((schB B k).getD (k + 1) 0) 3))) ((schB B k).getD k 0))]) (hs.has ⟨g2, 127, [int .u32 (addW .u32 (addW .u32 (addW .u32 (xorI .u32 (xorI .u32 (rotr ((schB B k).getD (k + 14) 0) 17) (rotr ((schB B k).getD (k + 14) 0) 19)) (shrI .u32 ((schB B k).getD (k + 14) 0) 10)) ((schB B k).getD (k + 9) 0)) (xorI .u32 (xorI .u32 (rotr ((schB B k).getD (k + 1) 0) 7) (rotr ((schB B k).getD (k + 1) 0) 18)) (shrI .u32 ((schB B k).getD (k + 1) 0) 3))) ((schB B k).getD k 0))], 1⟩ (by simp)) rfl) (by  omega) (by  omega) (fun vo Ho ho hne => ?_)
   refine qh (qA rfl) rfl (fun _ => zf rfl rfl) ?_
   refine TN.nil ?_
   iterate 2 refine gx ?_
   refine qC [3, 5] ?_
   iterate 2 refine gx ?_
   refine qB (qA rfl) rfl (qR rfl rfl rfl (r := ((k : Int) + 17)) (w64 (by omega) (by omega))) ?_
   iterate 2 refine gx ?_
   exact qj (⟨k + 1, vo, Ho⟩ : WV) (by show 48 - (k + 1) < 48 - k; omega) ⟨by show Own _ _ _ vo (schB B (k + 1)) Ho; unfold schB wordN sig0 sig1; exact ho, by show k + 1 ≤ 48; omega⟩ (qI (i := 3) rfl (qH (i := 5) rfl (by first | omega | rfl) (qN))) (fun w h => h.drop (by assumption))
  ·obtain rfl : k = 48 := by omega
   iterate 12 refine gx ?_
   exact qK rfl rfl (fun w hs => ⟨v, He, rfl, by rw [sched_schB]; exact hown, hs⟩)
/-
 The reference: block.
-/
theorem rounds_len {st : List Int} (W : List Int) (h : st.length = 8) : ∀ k, (rounds st W k).length = 8
 | 0 => h
 | k + 1 => rfl
def outF (st V : List Int) : Nat → List Int
 | 0 => []
 | k + 1 => outF st V k ++ [addW .u32 (st.getD k 0) (V.getD k 0)]
theorem outF_len (st V : List Int) : ∀ k, (outF st V k).length = k
 | 0 => rfl
 | k + 1 => by simp [outF, outF_len st V k]
theorem addAll_out {st V : List Int} (h : st.length = 8) : ∀ k, k ≤ 8 → addAll st V k = outF st V k ++ st.drop k
 | 0, _ => by simp [addAll, outF]
 | k + 1, hk => by
  have ih := addAll_out (V := V) h k (by omega)
  have hl := outF_len st V k
  have hd : st.drop k = st.getD k 0 :: st.drop (k + 1) := by
   rw [List.drop_eq_getElem_cons (by omega)]
   simp [List.getD_eq_getElem?_getD, show k < st.length by omega]
  have hg : (outF st V k ++ st.drop k).getD k 0 = st.getD k 0 := by
   rw [List.getD_eq_getElem?_getD, List.getElem?_append_right (by omega), hl, Nat.sub_self, hd]; rfl
  simp only [addAll, outF, ih]
  rw [hg, List.set_append_right _ _ (by omega), hl, Nat.sub_self, hd, List.set_cons_zero]
  simp
theorem mix_out {st B : List Int} (h : st.length = 8) : outF st (rounds st (sched B) 64) 8 = mixS st B := by
 have := addAll_out (V := rounds st (sched B) 64) h 8 (Nat.le_refl _)
 rw [List.drop_eq_nil_of_le (by omega), List.append_nil] at this
 rw [← this]; unfold mixS; rfl
theorem rblock_c (st W : List Int) (bs os cs bw ow cw bk ok ck : Nat) (w : World) (hst : st.length = 8) (hbs : bs < w.heap.size) (hS : RowI w bs os 8 .u32 st) (hcs : 8 ≤ cs) (hbw : bw < w.heap.size) (hW : RowI w bw ow 64 .u32 W) (hcw : 64 ≤ cw) (hbk : bk < w.heap.size) (hK : RowI w bk ok 64 .u32 KT) (hck : 64 ≤ ck) : Calls Tryz.prog 88 #[.slice (some ⟨bs, os, none⟩) 8 cs, .slice (some ⟨bw, ow, none⟩) 64 cw, .slice (some ⟨bk, ok, none⟩) 64 ck] w fun e w' => ∃ v He, e = .returned v ∧ Own w.heap.size 127 .u32 v (outF st (rounds st W 64) 8) He ∧ St w He w' := by
 refine qL (args := [.slice (some ⟨bs, os, none⟩) 8 cs, .slice (some ⟨bw, ow, none⟩) 64 cw, .slice (some ⟨bk, ok, none⟩) 64 ck]) Tryz.func88 rfl Tryz.ntmps88 (by simp) ?_
 refine qC [0, 1, 2] ?_
 iterate 7 refine gx ?_
 refine TL.emptySlice (qA rfl) rfl rfl Tryz.underlying102 size127 (fun g1 hg1 => ?_)
 refine gx ?_
 refine zd (H := []) (He := [⟨g1, 127, ([] : List Int).map (int .u32), 0⟩]) (qA rfl) rfl rfl Tryz.underlying102 mk127 rfl rfl rfl (W := []) (B := st) (.inr ⟨g1, 0, rfl, rfl, hg1, Nat.le_refl _, by unfold maxLen; omega⟩) (fun w hs => ⟨hst, .inr ⟨bs, os, rfl, Nat.lt_of_lt_of_le hbs hs.size, hS.keepH hs hbs (qV qF (qE (by show g1 ≠ bs; omega) qF))⟩⟩) (by simp only [List.length_nil]; omega) (by simp only [List.length_nil]; omega) (fun vo He ho hne => ?_)
 obtain ⟨go, co, rfl, rfl, hgo, hco, hcm⟩ := ho.some (hne (by intro h; cases h))
 rw [List.nil_append] at hco
 have hnl : (([] : List Int) ++ st).length = 8 := hst
 refine TL.heap (H' := [⟨go, 127, st.map (int .u32), co⟩]) (fun w hs => hs) ?_
 iterate 9 refine gx ?_
 refine qC [0, 1, 2, 6, 7, 8] ?_
 refine gx ?_
 refine qr (ι := WG) (fun x => [(0, .slice (some ⟨bs, os, none⟩) 8 cs), (1, .slice (some ⟨bw, ow, none⟩) 64 cw), (2, .slice (some ⟨bk, ok, none⟩) 64 ck), (7, .slice (some ⟨x.g, 0, none⟩) 8 x.c), (8, .int .i64 (x.k : Int))]) (fun x => [⟨x.g, 127, (rounds st W x.k).map (int .u32), x.c⟩]) (fun x => 64 - x.k) (fun x => w.heap.size ≤ x.g ∧ 8 ≤ x.c ∧ x.k ≤ 64) (⟨0, go, co⟩ : WG) ⟨hgo, by show 8 ≤ co; omega, by show 0 ≤ 64; omega⟩ (qT (i := 0) rfl rfl (by first | omega | (dsimp only; omega) | rfl) (by first | omega | (dsimp only; omega) | rfl) (qT (i := 1) rfl rfl (by first | omega | (dsimp only; omega) | rfl) (by first | omega | (dsimp only; omega) | rfl) (qT (i := 2) rfl rfl (by first | omega | (dsimp only; omega) | rfl) (by first | omega | (dsimp only; omega) | rfl) (qT (i := 7) rfl (by first | rfl | (congr 2; omega)) (by first | omega | (dsimp only; omega) | rfl) (by first | omega | (dsimp only; omega) | rfl) (qH (i := 8) rfl (by first | omega | rfl) (qN)))))) (fun w h => h) (fun x hC0 => ?_)
 obtain ⟨k, g, c⟩ := x
 obtain ⟨hN, hc, hk⟩ := hC0
 dsimp only at hN hc hk ⊢
 iterate 7 refine gx ?_
 refine qX rfl (fun hq0 => ?_) (fun hq0 => ?_)
 ·iterate 7 refine gx ?_
  refine qB (qA rfl) rfl (ql rfl Tryz.underlying102 size127 rfl rfl (i := 4) (by rfl) (by omega) (off' := 4) (by omega)) ?_
  refine qB (qA rfl) rfl (qS rfl agg127 rfl (qZ (i := 0) (ent := ⟨g, 127, (rounds st W k).map (int .u32), c⟩) (off := 4) rfl rfl (by exact qf (kd := .u32) (W := rounds st W k) (i := 4) (by rw [(rounds_len W hst k)]; omega)))) ?_
  iterate 3 refine gx ?_
  refine qC [0, 1, 2, 7, 8, 9] ?_
  iterate 3 refine gx ?_
  refine qB (qA rfl) rfl (ql rfl Tryz.underlying102 size127 rfl rfl (i := 0) (by rfl) (by omega) (off' := 0) (by omega)) ?_
  refine qB (qA rfl) rfl (qS rfl agg127 rfl (qZ (i := 0) (ent := ⟨g, 127, (rounds st W k).map (int .u32), c⟩) (off := 0) rfl rfl (by exact qf (kd := .u32) (W := rounds st W k) (i := 0) (by rw [(rounds_len W hst k)]; omega)))) ?_
  iterate 3 refine gx ?_
  refine qC [0, 1, 2, 7, 8, 9, 10] ?_
  refine gx ?_
  refine qy (by kernel_rfl) [0, 0, 1, 0, 1, 0, 1, 0, 0, 1, 0, 0, 0, 0, 0, 1, 0, 0, 0, 0, 0, 1, 0, 0, 0, 0, 0, 0, 1, 0, 0, 0, 0, 1, 0, 0] rfl (by kernel_rfl) ?_
  refine gx ?_
  refine qG (qA rfl) rfl (fun _ => ql rfl Tryz.underlying102 size127 rfl rfl (i := 7) (by rfl) (by omega) (off' := 7) (by omega)) ?_
  refine qk (qA rfl) rfl (qS rfl agg127 rfl (qZ (i := 0) (ent := ⟨g, 127, (rounds st W k).map (int .u32), c⟩) (off := 7) rfl rfl (by exact qf (kd := .u32) (W := rounds st W k) (i := 7) (by rw [(rounds_len W hst k)]; omega)))) ?_
  refine gx ?_
  refine zM (qA rfl) rfl enters112 rfl rfl (v := .int .u32 (rotr ((rounds st W k).getD 4 0) 6)) (fun w hs => rrotate_c ((rounds st W k).getD 4 0) 6 w (by omega) (by omega)) ?_
  refine gx ?_
  refine zM (qA rfl) rfl enters112 rfl rfl (v := .int .u32 (rotr ((rounds st W k).getD 4 0) 11)) (fun w hs => rrotate_c ((rounds st W k).getD 4 0) 11 w (by omega) (by omega)) ?_
  refine qG (qA rfl) rfl (fun _ => zR rfl rfl rfl (r := (xorI .u32 (rotr ((rounds st W k).getD 4 0) 6) (rotr ((rounds st W k).getD 4 0) 11))) rfl) ?_
  refine gx ?_
  refine zM (qA rfl) rfl enters112 rfl rfl (v := .int .u32 (rotr ((rounds st W k).getD 4 0) 25)) (fun w hs => rrotate_c ((rounds st W k).getD 4 0) 25 w (by omega) (by omega)) ?_
  refine qG (qA rfl) rfl (fun _ => zR rfl rfl rfl (r := (xorI .u32 (xorI .u32 (rotr ((rounds st W k).getD 4 0) 6) (rotr ((rounds st W k).getD 4 0) 11)) (rotr ((rounds st W k).getD 4 0) 25))) rfl) ?_
  refine qG (qA rfl) rfl (fun _ => zG rfl rfl rfl) ?_
  iterate 2 refine gx ?_
  refine qG (qA rfl) rfl (fun _ => ql rfl Tryz.underlying102 size127 rfl rfl (i := 5) (by rfl) (by omega) (off' := 5) (by omega)) ?_
  refine qk (qA rfl) rfl (qS rfl agg127 rfl (qZ (i := 0) (ent := ⟨g, 127, (rounds st W k).map (int .u32), c⟩) (off := 5) rfl rfl (by exact qf (kd := .u32) (W := rounds st W k) (i := 5) (by rw [(rounds_len W hst k)]; omega)))) ?_
  refine qG (qA rfl) rfl (fun _ => za rfl rfl rfl (r := (andI .u32 ((rounds st W k).getD 4 0) ((rounds st W k).getD 5 0))) rfl) ?_
  refine gx ?_
  refine qG (qA rfl) rfl (fun _ => Gets.cplU rfl rfl) ?_
  refine gx ?_
  refine qG (qA rfl) rfl (fun _ => ql rfl Tryz.underlying102 size127 rfl rfl (i := 6) (by rfl) (by omega) (off' := 6) (by omega)) ?_
  refine qk (qA rfl) rfl (qS rfl agg127 rfl (qZ (i := 0) (ent := ⟨g, 127, (rounds st W k).map (int .u32), c⟩) (off := 6) rfl rfl (by exact qf (kd := .u32) (W := rounds st W k) (i := 6) (by rw [(rounds_len W hst k)]; omega)))) ?_
  refine qG (qA rfl) rfl (fun _ => za rfl rfl rfl (r := (andI .u32 (cplI .u32 ((rounds st W k).getD 4 0)) ((rounds st W k).getD 6 0))) rfl) ?_
  refine qG (qA rfl) rfl (fun _ => zR rfl rfl rfl (r := (xorI .u32 (andI .u32 ((rounds st W k).getD 4 0) ((rounds st W k).getD 5 0)) (andI .u32 (cplI .u32 ((rounds st W k).getD 4 0)) ((rounds st W k).getD 6 0)))) rfl) ?_
  refine qG (qA rfl) rfl (fun _ => zG rfl rfl rfl) ?_
  iterate 2 refine gx ?_
  refine qG (qA rfl) rfl (fun _ => ql rfl Tryz.underlying102 size127 rfl rfl (i := k) (by omega) (by omega) (off' := (ok + k)) (by omega)) ?_
  refine qk (qA rfl) rfl (qS rfl agg127 rfl (At.rowI hK (i := k) (by omega) (by omega) hbk (qE (by show g ≠ bk; omega) qF))) ?_
  refine qG (qA rfl) rfl (fun _ => zG rfl rfl rfl) ?_
  iterate 2 refine gx ?_
  refine qG (qA rfl) rfl (fun _ => ql rfl Tryz.underlying102 size127 rfl rfl (i := k) (by omega) (by omega) (off' := (ow + k)) (by omega)) ?_
  refine qk (qA rfl) rfl (qS rfl agg127 rfl (At.rowI hW (i := k) (by omega) (by omega) hbw (qE (by show g ≠ bw; omega) qF))) ?_
  refine qG (qA rfl) rfl (fun _ => zG rfl rfl rfl) ?_
  iterate 3 refine gx ?_
  refine qC [0, 1, 2, 7, 8, 10, 11] ?_
  refine gx ?_
  refine qy (by kernel_rfl) [0, 1, 0, 1, 0, 0, 1, 0, 0, 0, 0, 1, 0, 0, 0, 0, 1, 0, 0, 0, 0, 1, 0, 0, 1, 0, 0, 0, 0] rfl (by kernel_rfl) ?_
  refine gx ?_
  refine zM (qA rfl) rfl enters112 rfl rfl (v := .int .u32 (rotr ((rounds st W k).getD 0 0) 2)) (fun w hs => rrotate_c ((rounds st W k).getD 0 0) 2 w (by omega) (by omega)) ?_
  refine gx ?_
  refine zM (qA rfl) rfl enters112 rfl rfl (v := .int .u32 (rotr ((rounds st W k).getD 0 0) 13)) (fun w hs => rrotate_c ((rounds st W k).getD 0 0) 13 w (by omega) (by omega)) ?_
  refine qG (qA rfl) rfl (fun _ => zR rfl rfl rfl (r := (xorI .u32 (rotr ((rounds st W k).getD 0 0) 2) (rotr ((rounds st W k).getD 0 0) 13))) rfl) ?_
  refine gx ?_
  refine zM (qA rfl) rfl enters112 rfl rfl (v := .int .u32 (rotr ((rounds st W k).getD 0 0) 22)) (fun w hs => rrotate_c ((rounds st W k).getD 0 0) 22 w (by omega) (by omega)) ?_
  refine qG (qA rfl) rfl (fun _ => zR rfl rfl rfl (r := (xorI .u32 (xorI .u32 (rotr ((rounds st W k).getD 0 0) 2) (rotr ((rounds st W k).getD 0 0) 13)) (rotr ((rounds st W k).getD 0 0) 22))) rfl) ?_
  iterate 2 refine gx ?_
  refine qG (qA rfl) rfl (fun _ => ql rfl Tryz.underlying102 size127 rfl rfl (i := 1) (by rfl) (by omega) (off' := 1) (by omega)) ?_
  refine qk (qA rfl) rfl (qS rfl agg127 rfl (qZ (i := 0) (ent := ⟨g, 127, (rounds st W k).map (int .u32), c⟩) (off := 1) rfl rfl (by exact qf (kd := .u32) (W := rounds st W k) (i := 1) (by rw [(rounds_len W hst k)]; omega)))) ?_
  refine qG (qA rfl) rfl (fun _ => za rfl rfl rfl (r := (andI .u32 ((rounds st W k).getD 0 0) ((rounds st W k).getD 1 0))) rfl) ?_
  iterate 2 refine gx ?_
  refine qG (qA rfl) rfl (fun _ => ql rfl Tryz.underlying102 size127 rfl rfl (i := 2) (by rfl) (by omega) (off' := 2) (by omega)) ?_
  refine qk (qA rfl) rfl (qS rfl agg127 rfl (qZ (i := 0) (ent := ⟨g, 127, (rounds st W k).map (int .u32), c⟩) (off := 2) rfl rfl (by exact qf (kd := .u32) (W := rounds st W k) (i := 2) (by rw [(rounds_len W hst k)]; omega)))) ?_
  refine qG (qA rfl) rfl (fun _ => za rfl rfl rfl (r := (andI .u32 ((rounds st W k).getD 0 0) ((rounds st W k).getD 2 0))) rfl) ?_
  refine qG (qA rfl) rfl (fun _ => zR rfl rfl rfl (r := (xorI .u32 (andI .u32 ((rounds st W k).getD 0 0) ((rounds st W k).getD 1 0)) (andI .u32 ((rounds st W k).getD 0 0) ((rounds st W k).getD 2 0)))) rfl) ?_
  refine gx ?_
  refine qG (qA rfl) rfl (fun _ => ql rfl Tryz.underlying102 size127 rfl rfl (i := 1) (by rfl) (by omega) (off' := 1) (by omega)) ?_
  refine qk (qA rfl) rfl (qS rfl agg127 rfl (qZ (i := 0) (ent := ⟨g, 127, (rounds st W k).map (int .u32), c⟩) (off := 1) rfl rfl (by exact qf (kd := .u32) (W := rounds st W k) (i := 1) (by rw [(rounds_len W hst k)]; omega)))) ?_
  refine gx ?_
  refine qG (qA rfl) rfl (fun _ => ql rfl Tryz.underlying102 size127 rfl rfl (i := 2) (by rfl) (by omega) (off' := 2) (by omega)) ?_
  refine qk (qA rfl) rfl (qS rfl agg127 rfl (qZ (i := 0) (ent := ⟨g, 127, (rounds st W k).map (int .u32), c⟩) (off := 2) rfl rfl (by exact qf (kd := .u32) (W := rounds st W k) (i := 2) (by rw [(rounds_len W hst k)]; omega)))) ?_
  refine qG (qA rfl) rfl (fun _ => za rfl rfl rfl (r := (andI .u32 ((rounds st W k).getD 1 0) ((rounds st W k).getD 2 0))) rfl) ?_
  refine qG (qA rfl) rfl (fun _ => zR rfl rfl rfl (r := (xorI .u32 (xorI .u32 (andI .u32 ((rounds st W k).getD 0 0) ((rounds st W k).getD 1 0)) (andI .u32 ((rounds st W k).getD 0 0) ((rounds st W k).getD 2 0))) (andI .u32 ((rounds st W k).getD 1 0) ((rounds st W k).getD 2 0)))) rfl) ?_
  refine qG (qA rfl) rfl (fun _ => zG rfl rfl rfl) ?_
  iterate 3 refine gx ?_
  refine qC [0, 1, 2, 7, 8, 11, 12] ?_
  refine TC.mix3 (by kernel_rfl) [0, 0, 0, 0, 0, 1, 0, 0, 1, 0, 0, 1, 0, 0, 1, 0, 0, 0, 0, 1, 0, 0, 1, 0, 0, 1, 3, 0] rfl (by kernel_rfl) ?_
  refine qh (qA rfl) rfl (fun _ => qp rfl rfl) ?_
  refine qh (qA rfl) rfl (fun _ => qp rfl rfl) ?_
  refine qh (qA rfl) rfl (fun _ => zG rfl rfl rfl) ?_
  refine qh (qA rfl) rfl (fun _ => qp rfl rfl) ?_
  refine qh (qA rfl) rfl (fun _ => ql rfl Tryz.underlying102 size127 rfl rfl (i := 0) (by rfl) (by omega) (off' := 0) (by omega)) ?_
  refine TN.gets (qA rfl) rfl (qS rfl agg127 rfl (qZ (i := 0) (ent := ⟨g, 127, (rounds st W k).map (int .u32), c⟩) (off := 0) rfl rfl (by exact qf (kd := .u32) (W := rounds st W k) (i := 0) (by rw [(rounds_len W hst k)]; omega)))) ?_
  refine qh (qA rfl) rfl (fun _ => qp rfl rfl) ?_
  refine qh (qA rfl) rfl (fun _ => ql rfl Tryz.underlying102 size127 rfl rfl (i := 1) (by rfl) (by omega) (off' := 1) (by omega)) ?_
  refine TN.gets (qA rfl) rfl (qS rfl agg127 rfl (qZ (i := 0) (ent := ⟨g, 127, (rounds st W k).map (int .u32), c⟩) (off := 1) rfl rfl (by exact qf (kd := .u32) (W := rounds st W k) (i := 1) (by rw [(rounds_len W hst k)]; omega)))) ?_
  refine qh (qA rfl) rfl (fun _ => qp rfl rfl) ?_
  refine qh (qA rfl) rfl (fun _ => ql rfl Tryz.underlying102 size127 rfl rfl (i := 2) (by rfl) (by omega) (off' := 2) (by omega)) ?_
  refine TN.gets (qA rfl) rfl (qS rfl agg127 rfl (qZ (i := 0) (ent := ⟨g, 127, (rounds st W k).map (int .u32), c⟩) (off := 2) rfl rfl (by exact qf (kd := .u32) (W := rounds st W k) (i := 2) (by rw [(rounds_len W hst k)]; omega)))) ?_
  refine qh (qA rfl) rfl (fun _ => qp rfl rfl) ?_
  refine qh (qA rfl) rfl (fun _ => ql rfl Tryz.underlying102 size127 rfl rfl (i := 3) (by rfl) (by omega) (off' := 3) (by omega)) ?_
  refine TN.gets (qA rfl) rfl (qS rfl agg127 rfl (qZ (i := 0) (ent := ⟨g, 127, (rounds st W k).map (int .u32), c⟩) (off := 3) rfl rfl (by exact qf (kd := .u32) (W := rounds st W k) (i := 3) (by rw [(rounds_len W hst k)]; omega)))) ?_
  refine qh (qA rfl) rfl (fun _ => qp rfl rfl) ?_
  refine qh (qA rfl) rfl (fun _ => zG rfl rfl rfl) ?_
  refine qh (qA rfl) rfl (fun _ => qp rfl rfl) ?_
  refine qh (qA rfl) rfl (fun _ => ql rfl Tryz.underlying102 size127 rfl rfl (i := 4) (by rfl) (by omega) (off' := 4) (by omega)) ?_
  refine TN.gets (qA rfl) rfl (qS rfl agg127 rfl (qZ (i := 0) (ent := ⟨g, 127, (rounds st W k).map (int .u32), c⟩) (off := 4) rfl rfl (by exact qf (kd := .u32) (W := rounds st W k) (i := 4) (by rw [(rounds_len W hst k)]; omega)))) ?_
  refine qh (qA rfl) rfl (fun _ => qp rfl rfl) ?_
  refine qh (qA rfl) rfl (fun _ => ql rfl Tryz.underlying102 size127 rfl rfl (i := 5) (by rfl) (by omega) (off' := 5) (by omega)) ?_
  refine TN.gets (qA rfl) rfl (qS rfl agg127 rfl (qZ (i := 0) (ent := ⟨g, 127, (rounds st W k).map (int .u32), c⟩) (off := 5) rfl rfl (by exact qf (kd := .u32) (W := rounds st W k) (i := 5) (by rw [(rounds_len W hst k)]; omega)))) ?_
  refine qh (qA rfl) rfl (fun _ => qp rfl rfl) ?_
  refine qh (qA rfl) rfl (fun _ => ql rfl Tryz.underlying102 size127 rfl rfl (i := 6) (by rfl) (by omega) (off' := 6) (by omega)) ?_
  refine TN.gets (qA rfl) rfl (qS rfl agg127 rfl (qZ (i := 0) (ent := ⟨g, 127, (rounds st W k).map (int .u32), c⟩) (off := 6) rfl rfl (by exact qf (kd := .u32) (W := rounds st W k) (i := 6) (by rw [(rounds_len W hst k)]; omega)))) ?_
  refine TN.buildSlice (qA rfl) rfl rfl Tryz.underlying102 size127 zero127 rfl (by decide) (by decide) (cells := #[.int .u32 (addW .u32 (addW .u32 (addW .u32 (addW .u32 (addW .u32 ((rounds st W k).getD 7 0) (xorI .u32 (xorI .u32 (rotr ((rounds st W k).getD 4 0) 6) (rotr ((rounds st W k).getD 4 0) 11)) (rotr ((rounds st W k).getD 4 0) 25))) (xorI .u32 (andI .u32 ((rounds st W k).getD 4 0) ((rounds st W k).getD 5 0)) (andI .u32 (cplI .u32 ((rounds st W k).getD 4 0)) ((rounds st W k).getD 6 0)))) (KT.getD k 0)) (W.getD k 0)) (addW .u32 (xorI .u32 (xorI .u32 (rotr ((rounds st W k).getD 0 0) 2) (rotr ((rounds st W k).getD 0 0) 13)) (rotr ((rounds st W k).getD 0 0) 22)) (xorI .u32 (xorI .u32 (andI .u32 ((rounds st W k).getD 0 0) ((rounds st W k).getD 1 0)) (andI .u32 ((rounds st W k).getD 0 0) ((rounds st W k).getD 2 0))) (andI .u32 ((rounds st W k).getD 1 0) ((rounds st W k).getD 2 0))))), .int .u32 ((rounds st W k).getD 0 0), .int .u32 ((rounds st W k).getD 1 0), .int .u32 ((rounds st W k).getD 2 0), .int .u32 (addW .u32 ((rounds st W k).getD 3 0) (addW .u32 (addW .u32 (addW .u32 (addW .u32 ((rounds st W k).getD 7 0) (xorI .u32 (xorI .u32 (rotr ((rounds st W k).getD 4 0) 6) (rotr ((rounds st W k).getD 4 0) 11)) (rotr ((rounds st W k).getD 4 0) 25))) (xorI .u32 (andI .u32 ((rounds st W k).getD 4 0) ((rounds st W k).getD 5 0)) (andI .u32 (cplI .u32 ((rounds st W k).getD 4 0)) ((rounds st W k).getD 6 0)))) (KT.getD k 0)) (W.getD k 0))), .int .u32 ((rounds st W k).getD 4 0), .int .u32 ((rounds st W k).getD 5 0), .int .u32 ((rounds st W k).getD 6 0)]) (tot := 8) (by kernel_rfl) (cs := [.int .u32 (addW .u32 (addW .u32 (addW .u32 (addW .u32 (addW .u32 ((rounds st W k).getD 7 0) (xorI .u32 (xorI .u32 (rotr ((rounds st W k).getD 4 0) 6) (rotr ((rounds st W k).getD 4 0) 11)) (rotr ((rounds st W k).getD 4 0) 25))) (xorI .u32 (andI .u32 ((rounds st W k).getD 4 0) ((rounds st W k).getD 5 0)) (andI .u32 (cplI .u32 ((rounds st W k).getD 4 0)) ((rounds st W k).getD 6 0)))) (KT.getD k 0)) (W.getD k 0)) (addW .u32 (xorI .u32 (xorI .u32 (rotr ((rounds st W k).getD 0 0) 2) (rotr ((rounds st W k).getD 0 0) 13)) (rotr ((rounds st W k).getD 0 0) 22)) (xorI .u32 (xorI .u32 (andI .u32 ((rounds st W k).getD 0 0) ((rounds st W k).getD 1 0)) (andI .u32 ((rounds st W k).getD 0 0) ((rounds st W k).getD 2 0))) (andI .u32 ((rounds st W k).getD 1 0) ((rounds st W k).getD 2 0))))), .int .u32 ((rounds st W k).getD 0 0), .int .u32 ((rounds st W k).getD 1 0), .int .u32 ((rounds st W k).getD 2 0), .int .u32 (addW .u32 ((rounds st W k).getD 3 0) (addW .u32 (addW .u32 (addW .u32 (addW .u32 ((rounds st W k).getD 7 0) (xorI .u32 (xorI .u32 (rotr ((rounds st W k).getD 4 0) 6) (rotr ((rounds st W k).getD 4 0) 11)) (rotr ((rounds st W k).getD 4 0) 25))) (xorI .u32 (andI .u32 ((rounds st W k).getD 4 0) ((rounds st W k).getD 5 0)) (andI .u32 (cplI .u32 ((rounds st W k).getD 4 0)) ((rounds st W k).getD 6 0)))) (KT.getD k 0)) (W.getD k 0))), .int .u32 ((rounds st W k).getD 4 0), .int .u32 ((rounds st W k).getD 5 0), .int .u32 ((rounds st W k).getD 6 0)]) rfl rfl (fun g2 hg2 => ?_)
  refine qh (qA rfl) rfl (fun _ => zf rfl rfl) ?_
  refine TN.nil ?_
  iterate 2 refine gx ?_
  refine qC [0, 1, 2, 7, 8] ?_
  iterate 2 refine gx ?_
  refine qB (qA rfl) rfl (qR rfl rfl rfl (r := ((k : Int) + 1)) (w64 (by omega) (by omega))) ?_
  iterate 2 refine gx ?_
  exact qj (⟨k + 1, g2, 8⟩ : WG) (by show 64 - (k + 1) < 64 - k; omega) ⟨hg2, Nat.le_refl _, by show k + 1 ≤ 64; omega⟩ (qT (i := 0) rfl rfl (by first | omega | (dsimp only; omega) | rfl) (by first | omega | (dsimp only; omega) | rfl) (qT (i := 1) rfl rfl (by first | omega | (dsimp only; omega) | rfl) (by first | omega | (dsimp only; omega) | rfl) (qT (i := 2) rfl rfl (by first | omega | (dsimp only; omega) | rfl) (by first | omega | (dsimp only; omega) | rfl) (qT (i := 7) rfl (by first | rfl | (congr 2; omega)) (by first | omega | (dsimp only; omega) | rfl) (by first | omega | (dsimp only; omega) | rfl) (qH (i := 8) rfl (by first | omega | rfl) (qN)))))) (fun w h => h.erase (i := 1) rfl hN)
 ·obtain rfl : k = 64 := by omega
  have Vl := rounds_len W hst 64
  generalize hV : rounds st W 64 = V at Vl ⊢
  iterate 16 refine gx ?_
  refine qC [0, 7, 13, 14] ?_
  refine gx ?_
  refine qr (ι := WV) (fun x => [(0, .slice (some ⟨bs, os, none⟩) 8 cs), (7, .slice (some ⟨g, 0, none⟩) 8 c), (13, x.v), (14, .int .i64 (x.k : Int))]) (fun x => [⟨g, 127, V.map (int .u32), c⟩] ++ x.He) (fun x => 8 - x.k) (fun x => Own w.heap.size 127 .u32 x.v (outF st V x.k) x.He ∧ x.k ≤ 8) (⟨0, .slice none 0 0, []⟩ : WV) ⟨Own.nil _ _ _, by show 0 ≤ 8; omega⟩ (qT (i := 0) rfl rfl (by first | omega | (dsimp only; omega) | rfl) (by first | omega | (dsimp only; omega) | rfl) (qT (i := 7) rfl rfl (by first | omega | (dsimp only; omega) | rfl) (by first | omega | (dsimp only; omega) | rfl) (qI (i := 13) rfl (qH (i := 14) rfl (by first | omega | rfl) (qN))))) (fun w h => h) (fun x hC1 => ?_)
  obtain ⟨k, v, He⟩ := x
  obtain ⟨hown, hC2⟩ := hC1
  dsimp only at hown hC2 ⊢
  iterate 7 refine gx ?_
  refine qX rfl (fun hq1 => ?_) (fun hq1 => ?_)
  ·iterate 4 refine gx ?_
   refine TC.mix3 (by kernel_rfl) [0, 0, 0, 0, 1, 0, 0, 0, 1, 0, 3, 3, 0] rfl (by kernel_rfl) ?_
   refine qh (qA rfl) rfl (fun _ => qp rfl rfl) ?_
   refine qh (qA rfl) rfl (fun _ => qp rfl rfl) ?_
   refine qh (qA rfl) rfl (fun _ => qp rfl rfl) ?_
   refine qh (qA rfl) rfl (fun _ => ql rfl Tryz.underlying102 size127 rfl rfl (i := k) (by omega) (by omega) (off' := (os + k)) (by omega)) ?_
   refine TN.gets (qA rfl) rfl (qS rfl agg127 rfl (At.rowI hS (i := k) (by omega) (by omega) hbs (qV (qE (by show g ≠ bs; omega) qF) (hown.ne hbs)))) ?_
   refine qh (qA rfl) rfl (fun _ => qp rfl rfl) ?_
   refine qh (qA rfl) rfl (fun _ => qp rfl rfl) ?_
   refine qh (qA rfl) rfl (fun _ => ql rfl Tryz.underlying102 size127 rfl rfl (i := k) (by omega) (by omega) (off' := k) (by omega)) ?_
   refine TN.gets (qA rfl) rfl (qS rfl agg127 rfl (qZ (i := 0) (ent := ⟨g, 127, V.map (int .u32), c⟩) (off := k) rfl rfl (by have := qf (kd := .u32) (W := V) (i := k) (by rw [Vl]; omega); (first | exact this | (refine Eq.trans ?_ this; congr 1; omega))))) ?_
   refine qh (qA rfl) rfl (fun _ => zG rfl rfl rfl) ?_
   refine TN.buildSlice (qA rfl) rfl rfl Tryz.underlying102 size127 zero127 rfl (by decide) (by decide) (cells := #[.int .u32 (addW .u32 (st.getD k 0) (V.getD k 0))]) (tot := 1) (by kernel_rfl) (cs := [.int .u32 (addW .u32 (st.getD k 0) (V.getD k 0))]) rfl rfl (fun g3 hg3 => ?_)
   refine TN.appendOwn (H := [⟨g3, 127, [int .u32 (addW .u32 (st.getD k 0) (V.getD k 0))], 1⟩, ⟨g, 127, V.map (int .u32), c⟩]) (sl := 1) (t := 102) (e := 127) (kd := .u32) (qA rfl) rfl rfl Tryz.underlying102 mk127 rfl rfl rfl (W := outF st V k) (B := [(addW .u32 (st.getD k 0) (V.getD k 0))]) hown (fun w hs => zT (W := [(addW .u32 (st.getD k 0) (V.getD k 0))]) (hs.has ⟨g3, 127, [int .u32 (addW .u32 (st.getD k 0) (V.getD k 0))], 1⟩ (by simp)) rfl) (by have := outF_len st V k; omega) (by have := outF_len st V k; omega) (fun vo Ho ho hne => ?_)
   refine qh (qA rfl) rfl (fun _ => zf rfl rfl) ?_
   refine TN.nil ?_
   iterate 2 refine gx ?_
   refine qC [0, 7, 13, 14] ?_
   iterate 2 refine gx ?_
   refine qB (qA rfl) rfl (qR rfl rfl rfl (r := ((k : Int) + 1)) (w64 (by omega) (by omega))) ?_
   iterate 2 refine gx ?_
   exact qj (⟨k + 1, vo, Ho⟩ : WV) (by show 8 - (k + 1) < 8 - k; omega) ⟨ho, by show k + 1 ≤ 8; omega⟩ (qT (i := 0) rfl rfl (by first | omega | (dsimp only; omega) | rfl) (by first | omega | (dsimp only; omega) | rfl) (qT (i := 7) rfl rfl (by first | omega | (dsimp only; omega) | rfl) (by first | omega | (dsimp only; omega) | rfl) (qI (i := 13) rfl (qH (i := 14) rfl (by first | omega | rfl) (qN))))) (fun w h => h.drop (by assumption))
  ·obtain rfl : k = 8 := by omega
   iterate 12 refine gx ?_
   exact qK rfl rfl (fun w hs => ⟨v, He, rfl, hown, hs.drop hN⟩)
/-
 The reference: pad.
-/
def padE (n : Nat) : Nat → List Int
 | 0 => 128 :: List.replicate (zerosN n) 0
 | k + 1 => padE n k ++ [IntKind.u8.wrap (shrI .u64 (mulW .u64 n 8) (56 - 8 * k))]
theorem padE_len (n : Nat) : ∀ k, (padE n k).length = zerosN n + 1 + k
 | 0 => by simp [padE]
 | k + 1 => by simp [padE, padE_len n k]; omega
theorem end_pad (n : Nat) : ∀ k, k ≤ 8 → endB n k = padE n k ++ List.replicate (8 - k) 0
 | 0, _ => by
  simp only [endB, padE]
  rw [show zerosN n + 9 = (zerosN n + 8) + 1 by omega, List.replicate_succ, List.set_cons_zero, List.cons_append, List.replicate_append_replicate]
 | k + 1, h => by
  have ih := end_pad n k (by omega)
  have hl := padE_len n k
  simp only [endB, padE, ih]
  rw [show 8 - k = (8 - (k + 1)) + 1 by omega, List.replicate_succ, List.set_append_right _ _ (by omega), hl, show zerosN n + k + 1 - (zerosN n + 1 + k) = 0 by omega, List.set_cons_zero]
  simp
theorem end_pad8 (n : Nat) : padE n 8 = endB n 8 := by simpa using (end_pad n 8 (Nat.le_refl _)).symm
def padZ (M : List Int) (k : Nat) : List Int := M ++ 128 :: List.replicate k 0
theorem pad_more (M : List Int) (k : Nat) : padZ M (k + 1) = padZ M k ++ [0] := by
 unfold padZ
 rw [List.replicate_succ']; simp
theorem rpad_c (M : List Int) (A : Option Addr) (m c0 : Nat) (w : World) (hsM : Src w A m .u8 M) (hmc : m ≤ c0) (hm : m ≤ 1000) : Calls Tryz.prog 87 #[.slice A m c0] w fun e w' => ∃ v He, e = .returned v ∧ Own w.heap.size 5 .u8 v (M ++ endB m 8) He ∧ St w He w' := by
 refine qL (args := [.slice A m c0]) Tryz.func87 rfl Tryz.ntmps87 (by simp) ?_
 refine qC [0] ?_
 iterate 7 refine gx ?_
 refine TL.emptySlice (qA rfl) rfl rfl Tryz.underlying22 size5 (fun g1 hg1 => ?_)
 refine gx ?_
 refine zd (H := []) (He := [⟨g1, 5, ([] : List Int).map (int .u8), 0⟩]) (qA rfl) rfl rfl Tryz.underlying22 mk5 rfl rfl rfl (W := []) (B := M) (.inr ⟨g1, 0, rfl, rfl, hg1, Nat.le_refl _, by unfold maxLen; omega⟩) (fun w hs => hsM.at_ hs (fun b hb => qV qF (qE (by show g1 ≠ b; omega) qF))) (by simp only [List.length_nil]; omega) (by simp only [List.length_nil]; omega) (fun vo Ho ho hne => ?_)
 rw [List.nil_append] at ho
 iterate 6 refine gx ?_
 refine zc (qA rfl) rfl rfl Tryz.underlying22 size5 zero5 rfl (by decide) (by decide) (cells := #[.int .u8 128]) (tot := 1) (by kernel_rfl) (cs := [.int .u8 128]) rfl rfl (fun g2 hg2 => ?_)
 refine zd (H := [⟨g2, 5, [int .u8 128], 1⟩]) (sl := 1) (t := 22) (e := 5) (kd := .u8) (qA rfl) rfl rfl Tryz.underlying22 mk5 rfl rfl rfl (W := M) (B := [128]) ho (fun w hs => zT (W := [128]) (hs.has ⟨g2, 5, [int .u8 128], 1⟩ (by simp)) rfl) (by have hMl := hsM.1; omega) (by have hMl := hsM.1; omega) (fun vo Ho ho hne => ?_)
 iterate 3 refine gx ?_
 refine qC [0, 2, 3] ?_
 iterate 2 refine gx ?_
 refine qr (ι := WV) (fun x => [(0, .slice A m c0), (3, x.v)]) (fun x => [] ++ x.He) (fun x => zerosN m - x.k) (fun x => Own w.heap.size 5 .u8 x.v (padZ M x.k) x.He ∧ x.k ≤ zerosN m) (⟨0, vo, Ho⟩ : WV) ⟨by show Own _ _ _ vo (padZ M 0) Ho; exact ho, by show 0 ≤ zerosN m; omega⟩ (qT (i := 0) rfl rfl (by first | omega | (dsimp only; omega) | rfl) (by first | omega | (dsimp only; omega) | rfl) (qI (i := 3) rfl (qN))) (fun w h => h.drop (by assumption)) (fun x hC0 => ?_)
 obtain ⟨k, v, He⟩ := x
 obtain ⟨hown, hC2⟩ := hC0
 dsimp only at hown hC2 ⊢
 have hWl : (padZ M k).length = m + 1 + k := by unfold padZ; simp [hsM.1]; omega
 have hz : zerosN m = (119 - m % 64) % 64 := rfl
 have hown0 := hown
 obtain ⟨g, c, hv, hHe, hN, hc, hm2⟩ := hown.resolve_left (fun h => by have := congrArg List.length h.2.1; rw [hWl] at this; simp at this)
 rw [hWl] at hv hc
 subst hv; subst hHe
 iterate 5 refine gx ?_
 refine qB (qA rfl) rfl (Gets.rem rfl rfl rfl (by omega) (r := (((m : Int) + (k : Int) + 1) % 64)) (tmod_pos (by omega) (by first | rfl | omega))) ?_
 iterate 3 refine gx ?_
 refine qX rfl (fun hq0 => ?_) (fun hq0 => ?_)
 ·iterate 5 refine gx ?_
  refine zc (qA rfl) rfl rfl Tryz.underlying22 size5 zero5 rfl (by decide) (by decide) (cells := #[.int .u8 0]) (tot := 1) (by kernel_rfl) (cs := [.int .u8 0]) rfl rfl (fun g3 hg3 => ?_)
  refine zd (H := [⟨g3, 5, [int .u8 0], 1⟩]) (He := [⟨g, 5, (padZ M k).map (int .u8), c⟩]) (sl := 1) (t := 22) (e := 5) (kd := .u8) (qA rfl) rfl rfl Tryz.underlying22 mk5 rfl rfl rfl (W := padZ M k) (B := [0]) (.inr ⟨g, c, by rw [hWl], rfl, hN, by rw [hWl]; exact hc, hm2⟩) (fun w hs => zT (W := [0]) (hs.has ⟨g3, 5, [int .u8 0], 1⟩ (by simp)) rfl) (by have := zerosN_lt m; rw [hWl]; omega) (by have := zerosN_lt m; rw [hWl]; omega) (fun vo Ho ho hne => ?_)
  iterate 3 refine gx ?_
  exact qj (⟨k + 1, vo, Ho⟩ : WV) (by show zerosN m - (k + 1) < zerosN m - k; omega) ⟨by show Own _ _ _ vo (padZ M (k + 1)) Ho; rw [pad_more]; exact ho, by show k + 1 ≤ zerosN m; omega⟩ (qT (i := 0) rfl rfl (by first | omega | (dsimp only; omega) | rfl) (by first | omega | (dsimp only; omega) | rfl) (qI (i := 3) rfl (qN))) (fun w h => h.drop (by assumption))
 ·have hkz : zerosN m = k := by omega
  iterate 9 refine gx ?_
  refine qB (qA rfl) rfl (qt rfl Tryz.underlying3 Tryz.underlying37 rfl (r := (m : Int)) (wu64 rfl (by omega))) ?_
  refine qB (qA rfl) rfl (Gets.mulU rfl rfl rfl) ?_
  iterate 3 refine gx ?_
  refine qC [3, 4] ?_
  iterate 7 refine gx ?_
  refine qr (ι := WV) (fun x => [(3, x.v), (4, .int .u64 (mulW .u64 (m : Int) 8)), (5, .int .i64 (7 - (x.k : Int)))]) (fun x => [] ++ x.He) (fun x => 8 - x.k) (fun x => Own w.heap.size 5 .u8 x.v (M ++ padE m x.k) x.He ∧ x.k ≤ 8) (⟨0, .slice (some ⟨g, 0, none⟩) (m + 1 + k) c, [⟨g, 5, (padZ M k).map (int .u8), c⟩]⟩ : WV) ⟨by show Own _ _ _ _ (M ++ padE m 0) _; rw [show padE m 0 = 128 :: List.replicate (zerosN m) 0 from rfl, hkz]; exact hown0, by show 0 ≤ 8; omega⟩ (qI (i := 3) rfl (qH (i := 4) rfl (by first | rfl | omega) (qH (i := 5) rfl (by first | omega | rfl) (qN)))) (fun w h => h) (fun x hC1 => ?_)
  obtain ⟨k, v, He⟩ := x
  obtain ⟨hown, hC2⟩ := hC1
  dsimp only at hown hC2 ⊢
  iterate 7 refine gx ?_
  refine qX rfl (fun hq1 => ?_) (fun hq1 => ?_)
  ·iterate 8 refine gx ?_
   refine qB (qA rfl) rfl (zY rfl rfl rfl (r := (56 - 8 * (k : Int))) (w64 (by omega) (by omega))) ?_
   refine qB (qA rfl) rfl (zN rfl rfl rfl (by omega) (r := (shrI .u64 (mulW .u64 (m : Int) 8) (56 - 8 * (k : Int)))) rfl) ?_
   refine qB (qA rfl) rfl (qt rfl Tryz.underlying37 Tryz.underlying5 rfl (r := (IntKind.u8.wrap (shrI .u64 (mulW .u64 (m : Int) 8) (56 - 8 * (k : Int))))) rfl) ?_
   refine zc (qA rfl) rfl rfl Tryz.underlying22 size5 zero5 rfl (by decide) (by decide) (cells := #[.int .u8 (IntKind.u8.wrap (shrI .u64 (mulW .u64 (m : Int) 8) (56 - 8 * (k : Int))))]) (tot := 1) (by kernel_rfl) (cs := [.int .u8 (IntKind.u8.wrap (shrI .u64 (mulW .u64 (m : Int) 8) (56 - 8 * (k : Int))))]) rfl rfl (fun g4 hg4 => ?_)
   refine zd (H := [⟨g4, 5, [int .u8 (IntKind.u8.wrap (shrI .u64 (mulW .u64 (m : Int) 8) (56 - 8 * (k : Int))))], 1⟩]) (sl := 1) (t := 22) (e := 5) (kd := .u8) (qA rfl) rfl rfl Tryz.underlying22 mk5 rfl rfl rfl (W := M ++ padE m k) (B := [(IntKind.u8.wrap (shrI .u64 (mulW .u64 (m : Int) 8) (56 - 8 * (k : Int))))]) hown (fun w hs => zT (W := [(IntKind.u8.wrap (shrI .u64 (mulW .u64 (m : Int) 8) (56 - 8 * (k : Int))))]) (hs.has ⟨g4, 5, [int .u8 (IntKind.u8.wrap (shrI .u64 (mulW .u64 (m : Int) 8) (56 - 8 * (k : Int))))], 1⟩ (by simp)) rfl) (by have := padE_len m k; have := zerosN_lt m; have hap : (M ++ padE m k).length = M.length + (padE m k).length := List.length_append; have hMl := hsM.1; omega) (by have := padE_len m k; have := zerosN_lt m; have hap : (M ++ padE m k).length = M.length + (padE m k).length := List.length_append; have hMl := hsM.1; omega) (fun vo Ho ho hne => ?_)
   iterate 4 refine gx ?_
   refine qC [3, 4, 5] ?_
   iterate 2 refine gx ?_
   refine qB (qA rfl) rfl (zH rfl rfl rfl (r := (6 - (k : Int))) (w64 (by omega) (by omega))) ?_
   iterate 2 refine gx ?_
   exact qj (⟨k + 1, vo, Ho⟩ : WV) (by show 8 - (k + 1) < 8 - k; omega) ⟨by show Own _ _ _ vo (M ++ padE m (k + 1)) Ho; rw [padE, ← List.append_assoc]; exact ho, by show k + 1 ≤ 8; omega⟩ (qI (i := 3) rfl (qH (i := 4) rfl (by first | rfl | omega) (qH (i := 5) rfl (by show (6 - (k : Int)) = 7 - ((k + 1 : Nat) : Int); omega) (qN)))) (fun w h => h.drop (by assumption))
  ·obtain rfl : k = 8 := by omega
   iterate 12 refine gx ?_
   exact qK rfl rfl (fun w hs => ⟨v, He, rfl, by rw [← end_pad8]; exact hown, hs⟩)
/-
 The reference: primes.
-/
theorem mk37 : (Tryz.prog.info? 37).map (fun i => (i.zero, i.size, i.bytes)) = some (some (.int .u64 0), 1, 8) := by kernel_rfl
theorem zero37 : (Tryz.prog.info? 37).bind (·.zero) = some (.int .u64 0) := by kernel_rfl
instance : Sli Tryz.prog 163 37 := ⟨Tryz.underlying163⟩
def okF (L : List Int) (p : Int) : Nat → Bool
 | 0 => true
 | j + 1 => if p % L.getD j 0 = 0 then false else okF L p j
def prS : Nat → List Int
 | 0 => []
 | k + 1 => if okF (prS k) ((k : Int) + 2) (prS k).length then prS k ++ [(k : Int) + 2] else prS k
theorem prS_two : ∀ k, ∀ x ∈ prS k, 2 ≤ x
 | 0 => by simp [prS]
 | k + 1 => by
  intro x hx
  unfold prS at hx
  split at hx
  ·rcases List.mem_append.1 hx with hx | hx
   ·exact prS_two k x hx
   ·have := List.mem_singleton.1 hx; omega
  ·exact prS_two k x hx
theorem prS_ne {k j : Nat} (h : j < (prS k).length) : (prS k).getD j 0 ≠ 0 := by
 have := prS_two k (prS k)[j] (List.getElem_mem h)
 rw [List.getD_eq_getElem?_getD, List.getElem?_eq_getElem h, Option.getD_some]
 omega
theorem prS_len : ∀ k, (prS k).length ≤ k
 | 0 => Nat.le_refl _
 | k + 1 => by
  have := prS_len k
  unfold prS
  split
  ·simp; omega
  ·omega
theorem prS_up (k : Nat) : (prS k).length ≤ (prS (k + 1)).length := by
 show _ ≤ (if okF (prS k) ((k : Int) + 2) (prS k).length then prS k ++ [(k : Int) + 2] else prS k).length
 split
 ·simp
 ·omega
theorem prS_mono : ∀ d k, (prS k).length ≤ (prS (k + d)).length
 | 0, _ => Nat.le_refl _
 | d + 1, k => Nat.le_trans (prS_mono d k) (prS_up (k + d))
theorem own_at {N : Nat} {t : TypeId} {kd : IntKind} {A : Option Addr} {m c : Nat} {W : List Int} {He : List Ent} (h : Own N t kd (.slice A m c) W He) (hm : 0 < m) : ∃ g, A = some ⟨g, 0, none⟩ ∧ He = [⟨g, t, W.map (int kd), c⟩] ∧ N ≤ g ∧ W.length ≤ c ∧ c ≤ maxLen := by
 rcases h with ⟨h, _, _⟩ | ⟨g, cap, h, h2, h3, h4, h5⟩
 ·cases h; omega
 ·cases h; exact ⟨g, rfl, h2, h3, h4, h5⟩
theorem ok_yes {k : Nat} (h : okF (prS k) ((k : Int) + 2) (prS k).length = true) : prS (k + 1) = prS k ++ [(k : Int) + 2] := by
 rw [prS, if_pos h]
theorem ok_no {k : Nat} (h : okF (prS k) ((k : Int) + 2) (prS k).length = false) : prS (k + 1) = prS k := by
 rw [prS, if_neg (by rw [h]; simp)]
theorem rprimes_k (n K : Nat) (w : World) (hn : n ≤ (prS K).length) (hKb : K ≤ 400) : Calls Tryz.prog 113 #[.int .i64 (n : Int)] w fun e w' => ∃ v He k, e = .returned v ∧ Own w.heap.size 37 .u64 v (prS k) He ∧ k ≤ K ∧ n ≤ (prS k).length ∧ St w He w' := by
 refine qL (args := [.int .i64 (n : Int)]) Tryz.func113 rfl Tryz.ntmps113 (by simp) ?_
 refine qC [0] ?_
 iterate 17 refine gx ?_
 refine qr (ι := WV) (fun x => [(0, .int .i64 (n : Int)), (3, x.v), (4, .int .u64 ((x.k : Int) + 2))]) (fun x => [] ++ x.He) (fun x => K - x.k) (fun x => Own w.heap.size 37 .u64 x.v (prS x.k) x.He ∧ x.k ≤ K) (⟨0, .slice none 0 0, []⟩ : WV) ⟨Own.nil _ _ _, by show 0 ≤ K; omega⟩ (qH (i := 0) rfl (by first | omega | rfl) (qI (i := 3) rfl (qH (i := 4) rfl (by first | omega | rfl) (qN)))) (fun w h => h) (fun x hC0 => ?_)
 obtain ⟨k, v, He⟩ := x
 obtain ⟨hown, hC2⟩ := hC0
 dsimp only at hown hC2 ⊢
 obtain ⟨Av, cv, hv, hc1, hc2⟩ := hown.form
 subst hv
 have hpl := prS_len k
 iterate 9 refine gx ?_
 refine qX rfl (fun hq0 => ?_) (fun hq0 => ?_)
 ·have hkK : k ≠ K := fun h => by subst h; omega
  iterate 15 refine gx ?_
  refine qC [0, 3, 4, 5, 6] ?_
  refine gx ?_
  refine qr (ι := Nat) (fun j => [(0, .int .i64 (n : Int)), (3, .slice Av (((prS k).length)) cv), (4, .int .u64 ((k : Int) + 2)), (5, .bool (okF (prS k) ((k : Int) + 2) j)), (6, .int .i64 (j : Int))]) (fun j => [] ++ He) (fun j => (prS k).length - j) (fun j => j ≤ (prS k).length) 0 (Nat.zero_le _) (qH (i := 0) rfl (by first | omega | rfl) (qT (i := 3) rfl rfl (by first | omega | (dsimp only; omega) | rfl) (by first | omega | (dsimp only; omega) | rfl) (qH (i := 4) rfl (by first | omega | rfl) (qI (i := 5) rfl (qH (i := 6) rfl (by first | omega | rfl) (qN)))))) (fun w h => h) (fun j hC1 => ?_)
  iterate 9 refine gx ?_
  refine qC [0, 3, 4, 5, 6, 16] ?_
  refine qX rfl (fun hq1 => ?_) (fun hq1 => ?_)
  ·obtain ⟨g, hA, hHe, hN, hcc, hcm⟩ := own_at hown (by omega)
   subst hA; subst hHe
   iterate 9 refine gx ?_
   refine qB (qA rfl) rfl (ql rfl Tryz.underlying163 size37 rfl rfl (i := j) (by omega) (by omega) (off' := j) (by omega)) ?_
   refine qB (qA rfl) rfl (qS rfl agg37 rfl (qZ (i := 0) (ent := ⟨g, 37, (prS k).map (int .u64), cv⟩) (off := j) rfl rfl (by have := qf (kd := .u64) (W := (prS k)) (i := j) (by rw [(Eq.refl (prS k).length)]; omega); (first | exact this | (refine Eq.trans ?_ this; congr 1; omega))))) ?_
   refine qB (qA rfl) rfl (Gets.rem rfl rfl rfl (prS_ne (by omega)) (r := (((k : Int) + 2) % ((prS k).getD j 0))) (tmod_pos (by omega) rfl)) ?_
   iterate 3 refine gx ?_
   refine qC [0, 3, 4, 5, 6, 25] ?_
   refine qX rfl (fun hq2 => ?_) (fun hq2 => ?_)
   ·iterate 7 refine gx ?_
    refine qB (qA rfl) rfl (qR rfl rfl rfl (r := ((j : Int) + 1)) (w64 (by omega) (by omega))) ?_
    iterate 2 refine gx ?_
    exact qj (j + 1) (by omega) (by omega) (qH (i := 0) rfl (by first | omega | rfl) (qT (i := 3) rfl (by first | rfl | (congr 2; omega)) (by first | omega | (dsimp only; omega) | rfl) (by first | omega | (dsimp only; omega) | rfl) (qH (i := 4) rfl (by first | omega | rfl) (qI (i := 5) (by show look _ 5 = some (.bool (okF (prS k) ((k : Int) + 2) (j + 1))); first | (rw [show okF (prS k) ((k : Int) + 2) (j + 1) = false from if_pos hq2]; rfl) | (rw [show okF (prS k) ((k : Int) + 2) (j + 1) = okF (prS k) ((k : Int) + 2) j from if_neg hq2]; rfl)) (qH (i := 6) rfl (by first | omega | rfl) (qN)))))) (fun w h => h)
   ·iterate 5 refine gx ?_
    refine qB (qA rfl) rfl (qR rfl rfl rfl (r := ((j : Int) + 1)) (w64 (by omega) (by omega))) ?_
    iterate 2 refine gx ?_
    exact qj (j + 1) (by omega) (by omega) (qH (i := 0) rfl (by first | omega | rfl) (qT (i := 3) rfl (by first | rfl | (congr 2; omega)) (by first | omega | (dsimp only; omega) | rfl) (by first | omega | (dsimp only; omega) | rfl) (qH (i := 4) rfl (by first | omega | rfl) (qI (i := 5) (by show look _ 5 = some (.bool (okF (prS k) ((k : Int) + 2) (j + 1))); first | (rw [show okF (prS k) ((k : Int) + 2) (j + 1) = false from if_pos hq2]; rfl) | (rw [show okF (prS k) ((k : Int) + 2) (j + 1) = okF (prS k) ((k : Int) + 2) j from if_neg hq2]; rfl)) (qH (i := 6) rfl (by first | omega | rfl) (qN)))))) (fun w h => h)
  ·obtain rfl : j = (prS k).length := by omega
   iterate 10 refine gx ?_
   refine TC.splitB rfl (fun hq3 => ?_) (fun hq3 => ?_)
   ·iterate 3 refine gx ?_
    refine zc (qA rfl) rfl rfl Tryz.underlying163 size37 zero37 rfl (by decide) (by decide) (cells := #[.int .u64 ((k : Int) + 2)]) (tot := 1) (by kernel_rfl) (cs := [.int .u64 ((k : Int) + 2)]) rfl rfl (fun g1 hg1 => ?_)
    refine zd (H := [⟨g1, 37, [int .u64 ((k : Int) + 2)], 1⟩]) (sl := 1) (t := 163) (e := 37) (kd := .u64) (qA rfl) rfl rfl Tryz.underlying163 mk37 rfl rfl rfl (W := prS k) (B := [((k : Int) + 2)]) hown (fun w hs => zT (W := [((k : Int) + 2)]) (hs.has ⟨g1, 37, [int .u64 ((k : Int) + 2)], 1⟩ (by simp)) rfl) (by have := prS_len k; omega) (by have := prS_len k; omega) (fun vo Ho ho hne => ?_)
    have hya := ok_yes hq3
    rw [← hya] at ho
    iterate 4 refine gx ?_
    refine qC [0, 3, 4] ?_
    iterate 2 refine gx ?_
    refine qB (qA rfl) rfl (qR rfl rfl rfl (r := ((k : Int) + 3)) (wu64 (by omega) (by omega))) ?_
    iterate 2 refine gx ?_
    exact qj (⟨k + 1, vo, Ho⟩ : WV) (by show K - (k + 1) < K - k; omega) ⟨ho, by show k + 1 ≤ K; omega⟩ (qH (i := 0) rfl (by first | omega | rfl) (qI (i := 3) rfl (qH (i := 4) rfl (by first | omega | rfl) (qN)))) (fun w h => by first | exact h | exact h.drop (by assumption))
   ·have ho : Own w.heap.size 37 .u64 (.slice Av (prS k).length cv) (prS (k + 1)) He := by rw [ok_no hq3]; exact hown
    generalize hHo : He = Ho at *
    generalize hvo : slice Av (prS k).length cv = vo at *
    iterate 5 refine gx ?_
    refine qB (qA rfl) rfl (qR rfl rfl rfl (r := ((k : Int) + 3)) (wu64 (by omega) (by omega))) ?_
    iterate 2 refine gx ?_
    exact qj (⟨k + 1, vo, Ho⟩ : WV) (by show K - (k + 1) < K - k; omega) ⟨ho, by show k + 1 ≤ K; omega⟩ (qH (i := 0) rfl (by first | omega | rfl) (qI (i := 3) rfl (qH (i := 4) rfl (by first | omega | rfl) (qN)))) (fun w h => by first | exact h | exact h.drop (by assumption))
 ·iterate 12 refine gx ?_
  exact qK rfl rfl (fun w hs => ⟨_, He, k, rfl, hown, hC2, by omega, hs⟩)
/-
 The reference: Constants.
-/
theorem enters113 : Enters Tryz.prog 113 := ⟨_, Tryz.func113, by kernel_rfl, by kernel_rfl⟩
theorem enters114 : Enters Tryz.prog 114 := ⟨_, Tryz.func114, by kernel_rfl, by kernel_rfl⟩
def consF (L : List Int) (c : Bool) : Nat → List Int
 | 0 => []
 | k + 1 => consF L c k ++ [IntKind.u32.wrap (bis (L.getD k 0) c 40).1]
theorem consF_len (L : List Int) (c : Bool) : ∀ k, (consF L c k).length = k
 | 0 => rfl
 | k + 1 => by simp [consF, consF_len L c k]
theorem rprimes_c (n K : Nat) (P : List Int) (w : World) (hP : prS K = P) (hn : P.length = n) (hK : ∀ k, k < K → (prS k).length < n) (hKb : K ≤ 400) : Calls Tryz.prog 113 #[.int .i64 (n : Int)] w fun e w' => ∃ v He, e = .returned v ∧ Own w.heap.size 37 .u64 v P He ∧ St w He w' :=
 (rprimes_k n K w (by rw [hP, hn]; exact Nat.le_refl _) hKb).mono fun e w' ⟨v, He, k, he, ho, hk, hn2, hs⟩ => by
  have hkK : k = K := by
   by_cases h : k < K
   ·have := hK k h; omega
   ·omega
  subst hkK
  rw [hP] at ho
  exact ⟨v, He, he, ho, hs⟩
theorem rcons2_c (n K : Nat) (P : List Int) (w : World) (hP : prS K = P) (hn : P.length = n) (hn0 : 0 < n) (hn9 : n ≤ 100) (hK : ∀ k, k < K → (prS k).length < n) (hKb : K ≤ 400) (hfix : ∀ k, k < n → ¬ 1 < (bis (P.getD k 0) false 40).2 - (bis (P.getD k 0) false 40).1) : Calls Tryz.prog 90 #[.int .i64 (n : Int), .bool false] w fun e w' => ∃ v He, e = .returned v ∧ Own w.heap.size 127 .u32 v (consF P false n) He ∧ St w He w' := by
 refine qL (args := [.int .i64 (n : Int), .bool false]) Tryz.func90 rfl Tryz.ntmps90 (by simp) ?_
 refine qC [0, 1] ?_
 iterate 13 refine gx ?_
 refine qY (ι := WV) (V := fun x => x.v) (R := fun x => Own w.heap.size 37 .u64 x.v P x.He) (H' := fun x => [] ++ x.He) (qA rfl) rfl enters113 rfl rfl (fun w hs => (rprimes_c n K P w hP hn hK hKb).mono fun e w' ⟨v, He, he, ho, hw⟩ => ⟨⟨0, v, He⟩, he, own_mono ho hs.size, st_call hs hw ho.new⟩) (fun x hx => ?_)
 obtain ⟨kx, vL, HL⟩ := x
 dsimp only at hx ⊢
 obtain ⟨gL, cL, hvL, hHL, hNL, hcL, hmL⟩ := hx.resolve_left (fun h => by have := congrArg List.length h.2.1; rw [hn] at this; simp at this; omega)
 rw [hn] at hvL
 subst hvL; subst hHL
 iterate 10 refine gx ?_
 refine qr (ι := WV) (fun x => [(1, .bool false), (5, x.v), (6, .slice (some ⟨gL, 0, none⟩) n cL), (7, .int .i64 (x.k : Int))]) (fun x => [⟨gL, 37, P.map (int .u64), cL⟩] ++ x.He) (fun x => n - x.k) (fun x => Own w.heap.size 127 .u32 x.v (consF P false x.k) x.He ∧ x.k ≤ n) (⟨0, .slice none 0 0, []⟩ : WV) ⟨Own.nil _ _ _, by show 0 ≤ n; omega⟩ (qI (i := 1) rfl (qI (i := 5) rfl (qI (i := 6) rfl (qH (i := 7) rfl (by first | omega | rfl) (qN))))) (fun w h => h) (fun x hC0 => ?_)
 obtain ⟨k, v, He⟩ := x
 obtain ⟨hown, hC2⟩ := hC0
 dsimp only at hown hC2 ⊢
 iterate 9 refine gx ?_
 refine qX rfl (fun hq0 => ?_) (fun hq0 => ?_)
 ·iterate 8 refine gx ?_
  refine qB (qA rfl) rfl (ql rfl Tryz.underlying163 size37 rfl rfl (i := k) (by omega) (by omega) (off' := k) (by omega)) ?_
  refine qB (qA rfl) rfl (qS rfl agg37 rfl (qZ (i := 0) (ent := ⟨gL, 37, P.map (int .u64), cL⟩) (off := k) rfl rfl (by have := qf (kd := .u64) (W := P) (i := k) (by rw [hn]; omega); (first | exact this | (refine Eq.trans ?_ this; congr 1; omega))))) ?_
  refine gx ?_
  refine qM (qA rfl) rfl enters114 rfl rfl (v := .int .u32 (IntKind.u32.wrap (bis (P.getD k 0) false 40).1)) (fun w hs => root2_c (P.getD k 0) w (hfix k (by omega))) ?_
  refine zc (qA rfl) rfl rfl Tryz.underlying102 size127 zero127 rfl (by decide) (by decide) (cells := #[.int .u32 (IntKind.u32.wrap (bis (P.getD k 0) false 40).1)]) (tot := 1) (by kernel_rfl) (cs := [.int .u32 (IntKind.u32.wrap (bis (P.getD k 0) false 40).1)]) rfl rfl (fun g1 hg1 => ?_)
  refine zd (H := [⟨g1, 127, [int .u32 (IntKind.u32.wrap (bis (P.getD k 0) false 40).1)], 1⟩, ⟨gL, 37, P.map (int .u64), cL⟩]) (sl := 1) (t := 102) (e := 127) (kd := .u32) (qA rfl) rfl rfl Tryz.underlying102 mk127 rfl rfl rfl (W := consF P false k) (B := [(IntKind.u32.wrap (bis (P.getD k 0) false 40).1)]) hown (fun w hs => zT (W := [(IntKind.u32.wrap (bis (P.getD k 0) false 40).1)]) (hs.has ⟨g1, 127, [int .u32 (IntKind.u32.wrap (bis (P.getD k 0) false 40).1)], 1⟩ (by simp)) rfl) (by have := consF_len P false k; omega) (by have := consF_len P false k; omega) (fun vo Ho ho hne => ?_)
  iterate 4 refine gx ?_
  refine qC [1, 5, 6, 7] ?_
  iterate 2 refine gx ?_
  refine qB (qA rfl) rfl (qR rfl rfl rfl (r := ((k : Int) + 1)) (w64 (by omega) (by omega))) ?_
  iterate 2 refine gx ?_
  exact qj (⟨k + 1, vo, Ho⟩ : WV) (by show n - (k + 1) < n - k; omega) ⟨ho, by show k + 1 ≤ n; omega⟩ (qI (i := 1) rfl (qI (i := 5) rfl (qT (i := 6) rfl rfl (by first | omega | (dsimp only; omega) | rfl) (by first | omega | (dsimp only; omega) | rfl) (qH (i := 7) rfl (by first | omega | rfl) (qN))))) (fun w h => h.drop (by assumption))
 ·obtain rfl : k = n := by omega
  iterate 12 refine gx ?_
  exact qK rfl rfl (fun w hs => ⟨v, He, rfl, hown, hs.drop hNL⟩)
theorem rcons3_c (n K : Nat) (P : List Int) (w : World) (hP : prS K = P) (hn : P.length = n) (hn0 : 0 < n) (hn9 : n ≤ 100) (hK : ∀ k, k < K → (prS k).length < n) (hKb : K ≤ 400) (hfix : ∀ k, k < n → ¬ 1 < (bis (P.getD k 0) true 40).2 - (bis (P.getD k 0) true 40).1) : Calls Tryz.prog 90 #[.int .i64 (n : Int), .bool true] w fun e w' => ∃ v He, e = .returned v ∧ Own w.heap.size 127 .u32 v (consF P true n) He ∧ St w He w' := by
 refine qL (args := [.int .i64 (n : Int), .bool true]) Tryz.func90 rfl Tryz.ntmps90 (by simp) ?_
 refine qC [0, 1] ?_
 iterate 13 refine gx ?_
 refine qY (ι := WV) (V := fun x => x.v) (R := fun x => Own w.heap.size 37 .u64 x.v P x.He) (H' := fun x => [] ++ x.He) (qA rfl) rfl enters113 rfl rfl (fun w hs => (rprimes_c n K P w hP hn hK hKb).mono fun e w' ⟨v, He, he, ho, hw⟩ => ⟨⟨0, v, He⟩, he, own_mono ho hs.size, st_call hs hw ho.new⟩) (fun x hx => ?_)
 obtain ⟨kx, vL, HL⟩ := x
 dsimp only at hx ⊢
 obtain ⟨gL, cL, hvL, hHL, hNL, hcL, hmL⟩ := hx.resolve_left (fun h => by have := congrArg List.length h.2.1; rw [hn] at this; simp at this; omega)
 rw [hn] at hvL
 subst hvL; subst hHL
 iterate 10 refine gx ?_
 refine qr (ι := WV) (fun x => [(1, .bool true), (5, x.v), (6, .slice (some ⟨gL, 0, none⟩) n cL), (7, .int .i64 (x.k : Int))]) (fun x => [⟨gL, 37, P.map (int .u64), cL⟩] ++ x.He) (fun x => n - x.k) (fun x => Own w.heap.size 127 .u32 x.v (consF P true x.k) x.He ∧ x.k ≤ n) (⟨0, .slice none 0 0, []⟩ : WV) ⟨Own.nil _ _ _, by show 0 ≤ n; omega⟩ (qI (i := 1) rfl (qI (i := 5) rfl (qI (i := 6) rfl (qH (i := 7) rfl (by first | omega | rfl) (qN))))) (fun w h => h) (fun x hC0 => ?_)
 obtain ⟨k, v, He⟩ := x
 obtain ⟨hown, hC2⟩ := hC0
 dsimp only at hown hC2 ⊢
 iterate 9 refine gx ?_
 refine qX rfl (fun hq0 => ?_) (fun hq0 => ?_)
 ·iterate 8 refine gx ?_
  refine qB (qA rfl) rfl (ql rfl Tryz.underlying163 size37 rfl rfl (i := k) (by omega) (by omega) (off' := k) (by omega)) ?_
  refine qB (qA rfl) rfl (qS rfl agg37 rfl (qZ (i := 0) (ent := ⟨gL, 37, P.map (int .u64), cL⟩) (off := k) rfl rfl (by have := qf (kd := .u64) (W := P) (i := k) (by rw [hn]; omega); (first | exact this | (refine Eq.trans ?_ this; congr 1; omega))))) ?_
  refine gx ?_
  refine qM (qA rfl) rfl enters114 rfl rfl (v := .int .u32 (IntKind.u32.wrap (bis (P.getD k 0) true 40).1)) (fun w hs => root3_c (P.getD k 0) w (hfix k (by omega))) ?_
  refine zc (qA rfl) rfl rfl Tryz.underlying102 size127 zero127 rfl (by decide) (by decide) (cells := #[.int .u32 (IntKind.u32.wrap (bis (P.getD k 0) true 40).1)]) (tot := 1) (by kernel_rfl) (cs := [.int .u32 (IntKind.u32.wrap (bis (P.getD k 0) true 40).1)]) rfl rfl (fun g1 hg1 => ?_)
  refine zd (H := [⟨g1, 127, [int .u32 (IntKind.u32.wrap (bis (P.getD k 0) true 40).1)], 1⟩, ⟨gL, 37, P.map (int .u64), cL⟩]) (sl := 1) (t := 102) (e := 127) (kd := .u32) (qA rfl) rfl rfl Tryz.underlying102 mk127 rfl rfl rfl (W := consF P true k) (B := [(IntKind.u32.wrap (bis (P.getD k 0) true 40).1)]) hown (fun w hs => zT (W := [(IntKind.u32.wrap (bis (P.getD k 0) true 40).1)]) (hs.has ⟨g1, 127, [int .u32 (IntKind.u32.wrap (bis (P.getD k 0) true 40).1)], 1⟩ (by simp)) rfl) (by have := consF_len P true k; omega) (by have := consF_len P true k; omega) (fun vo Ho ho hne => ?_)
  iterate 4 refine gx ?_
  refine qC [1, 5, 6, 7] ?_
  iterate 2 refine gx ?_
  refine qB (qA rfl) rfl (qR rfl rfl rfl (r := ((k : Int) + 1)) (w64 (by omega) (by omega))) ?_
  iterate 2 refine gx ?_
  exact qj (⟨k + 1, vo, Ho⟩ : WV) (by show n - (k + 1) < n - k; omega) ⟨ho, by show k + 1 ≤ n; omega⟩ (qI (i := 1) rfl (qI (i := 5) rfl (qT (i := 6) rfl rfl (by first | omega | (dsimp only; omega) | rfl) (by first | omega | (dsimp only; omega) | rfl) (qH (i := 7) rfl (by first | omega | rfl) (qN))))) (fun w h => h.drop (by assumption))
 ·obtain rfl : k = n := by omega
  iterate 12 refine gx ?_
  exact qK rfl rfl (fun w hs => ⟨v, He, rfl, hown, hs.drop hNL⟩)
/-
 The constants: the numbers.
-/
def P8 : List Int := [2, 3, 5, 7, 11, 13, 17, 19]
def P64 : List Int := [2, 3, 5, 7, 11, 13, 17, 19, 23, 29, 31, 37, 41, 43, 47, 53, 59, 61, 67, 71, 73, 79, 83, 89, 97, 101, 103, 107, 109, 113, 127, 131, 137, 139, 149, 151, 157, 163, 167, 173, 179, 181, 191, 193, 197, 199, 211, 223, 227, 229, 233, 239, 241, 251, 257, 263, 269, 271, 277, 281, 283, 293, 307, 311]
def R8 : List (Int × Int) := [(6074000999, 6074001000), (7439101573, 7439101574), (9603838834, 9603838835), (11363415354, 11363415355), (14244795007, 14244795008), (15485724812, 15485724813), (17708603819, 17708603820), (18721328409, 18721328410)]
def R64 : List (Int × Int) := [(5411319704, 5411319705), (6194414737, 6194414738), (7344290767, 7344290768), (8215976869, 8215976870), (9551921755, 9551921756), (10098905585, 10098905586), (11043570340, 11043570341), (11460697813, 11460697814), (12214315672, 12214315673), (13195500289, 13195500290), (13492127166, 13492127167), (14311783875, 14311783876), (14809980276, 14809980277), (15046980094, 15046980095), (15499789991, 15499789992), (16133124468, 16133124469), (16720292289, 16720292290), (16907126662, 16907126663), (17444216262, 17444216263), (17784676812, 17784676813), (17950125167, 17950125168), (18429019306, 18429019307), (18734950876, 18734950877), (19175934170, 19175934171), (19734090066, 19734090067), (20001703533, 20001703534), (20132865992, 20132865993), (20390182855, 20390182856), (20516441075, 20516441076), (20764397895, 20764397896), (21588763473, 21588763474), (21813078375, 21813078376), (22141143685, 22141143686), (22248366392, 22248366393), (22769593852, 22769593853), (22871018771, 22871018772), (23170020180, 23170020181), (23461497531, 23461497532), (23651862830, 23651862831), (23931792517, 23931792518), (24205322401, 24205322402), (24295138891, 24295138892), (24734567280, 24734567281), (24820601251, 24820601252), (24990902297, 24990902298), (25075189284, 25075189285), (25569408389, 25569408390), (26045227120, 26045227121), (26200031510, 26200031511), (26276752392, 26276752393), (26428864332, 26428864333), (26653801653, 26653801654), (26727943347, 26727943348), (27092625994, 27092625995), (27306805839, 27306805840), (27517677555, 27517677556), (27725365998, 27725365999), (27793908591, 27793908592), (27997534228, 27997534229), (28131656200, 28131656201), (28198240250, 28198240251), (28526537963, 28526537964), (28973835255, 28973835256), (29099129074, 29099129075)]
/-
 The constants: a quarter of the cube roots.
-/
theorem ball0 : ((P64.drop 0).take 16).map (fun p => bis p true 40) = (R64.drop 0).take 16 := by decide +kernel
/-
 The constants: a quarter of the cube roots.
-/
theorem ball1 : ((P64.drop 16).take 16).map (fun p => bis p true 40) = (R64.drop 16).take 16 := by decide +kernel
/-
 The constants: a quarter of the cube roots.
-/
theorem ball2 : ((P64.drop 32).take 16).map (fun p => bis p true 40) = (R64.drop 32).take 16 := by decide +kernel
/-
 The constants: a quarter of the cube roots.
-/
theorem ball3 : ((P64.drop 48).take 16).map (fun p => bis p true 40) = (R64.drop 48).take 16 := by decide +kernel
/-
 The reference: the constants are the tables.
-/
theorem p8_is : prS 18 = P8 := by decide +kernel
theorem p64_is : prS 310 = P64 := by decide +kernel
theorem p309 : (prS 309).length = 63 := by decide +kernel
theorem p17 : (prS 17).length = 7 := by decide +kernel
theorem ball8 : P8.map (fun p => bis p false 40) = R8 := by decide +kernel
theorem before8 (k : Nat) (h : k < 18) : (prS k).length < 8 := by
 obtain ⟨d, hd⟩ := Nat.exists_eq_add_of_le (show k ≤ 17 by omega)
 have := prS_mono d k
 rw [← hd, p17] at this
 omega
theorem before64 (k : Nat) (h : k < 310) : (prS k).length < 64 := by
 obtain ⟨d, hd⟩ := Nat.exists_eq_add_of_le (show k ≤ 309 by omega)
 have := prS_mono d k
 rw [← hd, p309] at this
 omega
theorem map_split {α β : Type} (f : α → β) (l : List α) (r : List β) (hl : l.length = 64) (hr : r.length = 64) (h : ∀ q, q < 4 → ((l.drop (16 * q)).take 16).map f = (r.drop (16 * q)).take 16) : l.map f = r := by
 apply List.ext_getElem (by simp [hl, hr])
 intro i h1 h2
 have hi : i < 64 := by omega
 have := congrArg (·[i % 16]?) (h (i / 16) (by omega))
 simp only [List.getElem?_map, List.getElem?_take, List.getElem?_drop, show i % 16 < 16 by omega, if_true, show 16 * (i / 16) + i % 16 = i by omega, List.getElem?_eq_getElem (show i < l.length by omega), List.getElem?_eq_getElem h2, Option.map_some, Option.some.injEq] at this
 simpa using this
theorem ball64 : P64.map (fun p => bis p true 40) = R64 := map_split _ _ _ rfl rfl fun q hq => by
 obtain rfl | rfl | rfl | rfl : q = 0 ∨ q = 1 ∨ q = 2 ∨ q = 3 := by omega
 ·exact ball0
 ·exact ball1
 ·exact ball2
 ·exact ball3
theorem bis_of {L : List Int} {R : List (Int × Int)} {c : Bool} (h : L.map (fun p => bis p c 40) = R) {k : Nat} (hk : k < L.length) : bis (L.getD k 0) c 40 = R.getD k (0, 0) := by
 subst h
 simp [List.getD_eq_getElem?_getD, hk]
def consG (R : List (Int × Int)) : Nat → List Int
 | 0 => []
 | k + 1 => consG R k ++ [IntKind.u32.wrap (R.getD k (0, 0)).1]
theorem cons_of {L : List Int} {R : List (Int × Int)} {c : Bool} (h : L.map (fun p => bis p c 40) = R) : ∀ k, k ≤ L.length → consF L c k = consG R k
 | 0, _ => rfl
 | k + 1, hk => by rw [consF, consG, cons_of h k (by omega), bis_of h (by omega)]
theorem fix8 (k : Nat) (h : k < 8) : ¬ 1 < (bis (P8.getD k 0) false 40).2 - (bis (P8.getD k 0) false 40).1 := by
 rw [bis_of ball8 h]
 have : ∀ k : Fin 8, ¬ 1 < (R8.getD k.val (0, 0)).2 - (R8.getD k.val (0, 0)).1 := by decide +kernel
 exact this ⟨k, h⟩
theorem fix64 (k : Nat) (h : k < 64) : ¬ 1 < (bis (P64.getD k 0) true 40).2 - (bis (P64.getD k 0) true 40).1 := by
 rw [bis_of ball64 h]
 have : ∀ k : Fin 64, ¬ 1 < (R64.getD k.val (0, 0)).2 - (R64.getD k.val (0, 0)).1 := by decide +kernel
 exact this ⟨k, h⟩
theorem cons8 : consF P8 false 8 = IV := (cons_of ball8 8 (Nat.le_refl _)).trans (by decide +kernel)
theorem cons64 : consF P64 true 64 = KT := (cons_of ball64 64 (Nat.le_refl _)).trans (by decide +kernel)
/-
 The reference: Table.
-/
theorem agg104 : (isAgg 104).run Tryz.prog = fun w => .ok true w := isAgg_yes Tryz.underlying104 rfl
theorem enters90 : Enters Tryz.prog 90 := ⟨_, Tryz.func90, by kernel_rfl, by kernel_rfl⟩
theorem size104 : (Tryz.prog.info? 104).map (·.size) = some 2 := by kernel_rfl
theorem zero104 : (Tryz.prog.info? 104).bind (·.zero) = some (.agg #[.slice none 0 0, .slice none 0 0]) := by kernel_rfl
instance : Siz Tryz.prog 104 2 := ⟨size104⟩
instance : Zer Tryz.prog 104 [slice none 0 0, slice none 0 0] := ⟨⟨_, zero104, rfl⟩⟩
theorem rIV_c (w : World) : Calls Tryz.prog 90 #[.int .i64 8, .bool false] w fun e w' => ∃ g c, e = .returned (.slice (some ⟨g, 0, none⟩) 8 c) ∧ w.heap.size ≤ g ∧ 8 ≤ c ∧ St w [⟨g, 127, IV.map (int .u32), c⟩] w' :=
 (rcons2_c 8 18 P8 w p8_is rfl (by omega) (by omega) before8 (by omega) fix8).mono fun e w' ⟨v, He, he, ho, hs⟩ => by
  rw [cons8] at ho
  obtain ⟨g, c, rfl, rfl, hN, hc, hm⟩ := ho.resolve_left (fun h => by have := congrArg List.length h.2.1; simp [IV_len] at this)
  exact ⟨g, c, he, hN, hc, hs⟩
theorem KT_len : KT.length = 64 := by rfl
theorem rKT_c (w : World) : Calls Tryz.prog 90 #[.int .i64 64, .bool true] w fun e w' => ∃ g c, e = .returned (.slice (some ⟨g, 0, none⟩) 64 c) ∧ w.heap.size ≤ g ∧ 64 ≤ c ∧ St w [⟨g, 127, KT.map (int .u32), c⟩] w' :=
 (rcons3_c 64 310 P64 w p64_is rfl (by omega) (by omega) before64 (by omega) fix64).mono fun e w' ⟨v, He, he, ho, hs⟩ => by
  rw [cons64] at ho
  obtain ⟨g, c, rfl, rfl, hN, hc, hm⟩ := ho.resolve_left (fun h => by have := congrArg List.length h.2.1; simp [KT_len] at this)
  exact ⟨g, c, he, hN, hc, hs⟩
theorem rtable_c (w : World) : Calls Tryz.prog 56 #[] w fun e w' => ∃ gs cs gk ck, e = .returned (.agg #[.slice (some ⟨gs, 0, none⟩) 8 cs, .slice (some ⟨gk, 0, none⟩) 64 ck]) ∧ w.heap.size ≤ gs ∧ w.heap.size ≤ gk ∧ 8 ≤ cs ∧ 64 ≤ ck ∧ St w [⟨gk, 127, KT.map (int .u32), ck⟩, ⟨gs, 127, IV.map (int .u32), cs⟩] w' := by
 refine qL (args := []) Tryz.func56 rfl Tryz.ntmps56 (by simp) ?_
 refine qC [] ?_
 iterate 2 refine gx ?_
 refine qc (fun g1 hg1 => ?_)
 iterate 4 refine gx ?_
 refine qY (ι := Nat × Nat) (V := fun x => .slice (some ⟨x.1, 0, none⟩) 8 x.2) (R := fun x => w.heap.size ≤ x.1 ∧ 8 ≤ x.2) (H' := fun x => [⟨x.1, 127, IV.map (int .u32), x.2⟩, ⟨g1, 104, [slice none 0 0, slice none 0 0], 2⟩]) (qA rfl) rfl enters90 rfl rfl (fun w hs => (rIV_c w).mono fun e w' ⟨g, c, he, hge, hc, hw⟩ => ⟨(g, c), he, ⟨Nat.le_trans hs.size hge, hc⟩, hs.made hw hge⟩) (fun x hxs => ?_)
 obtain ⟨gs, cs⟩ := x
 dsimp only at hxs ⊢
 obtain ⟨hgs, hcs⟩ := hxs
 refine qY (ι := Nat × Nat) (V := fun x => .slice (some ⟨x.1, 0, none⟩) 64 x.2) (R := fun x => w.heap.size ≤ x.1 ∧ 64 ≤ x.2) (H' := fun x => [⟨x.1, 127, KT.map (int .u32), x.2⟩, ⟨gs, 127, IV.map (int .u32), cs⟩, ⟨g1, 104, [slice none 0 0, slice none 0 0], 2⟩]) (qA rfl) rfl enters90 rfl rfl (fun w hs => (rKT_c w).mono fun e w' ⟨g, c, he, hge, hc, hw⟩ => ⟨(g, c), he, ⟨Nat.le_trans hs.size hge, hc⟩, hs.made hw hge⟩) (fun x hxk => ?_)
 obtain ⟨gk, ck⟩ := x
 dsimp only at hxk ⊢
 obtain ⟨hgk, hck⟩ := hxk
 refine qB (qA rfl) rfl (qm rfl (vs := [(0, slice (some ⟨gs, 0, none⟩) 8 cs), (1, slice (some ⟨gk, 0, none⟩) 64 ck)]) rfl (fun w => by first | rfl | kernel_rfl) (v := .agg ([slice (some ⟨gs, 0, none⟩) 8 cs, slice (some ⟨gk, 0, none⟩) 64 ck]).toArray)) ?_
 iterate 4 refine gx ?_
 exact qu rfl agg104 size104 rfl (vs := [slice (some ⟨gs, 0, none⟩) 8 cs, slice (some ⟨gk, 0, none⟩) 64 ck]) (by simp []) (qQ (i := 2) (ent := ⟨g1, 104, [slice (some ⟨gs, 0, none⟩) 8 cs, slice (some ⟨gk, 0, none⟩) 64 ck], 2⟩) rfl rfl rfl) (fun w hs => ⟨gs, cs, gk, ck, rfl, hgs, hgk, hcs, hck, hs.erase (i := 2) rfl hg1⟩)
/-
 The reference: With.
-/
theorem agg102 : (isAgg 102).run Tryz.prog = fun w => .ok false w := isAgg_no Tryz.underlying102 rfl
theorem enters87 : Enters Tryz.prog 87 := ⟨_, Tryz.func87, by kernel_rfl, by kernel_rfl⟩
theorem enters88 : Enters Tryz.prog 88 := ⟨_, Tryz.func88, by kernel_rfl, by kernel_rfl⟩
theorem enters89 : Enters Tryz.prog 89 := ⟨_, Tryz.func89, by kernel_rfl, by kernel_rfl⟩
theorem size102 : (Tryz.prog.info? 102).map (·.size) = some 1 := by kernel_rfl
instance : AgN Tryz.prog 102 := ⟨agg102⟩
instance : Fld Tryz.prog 104 0 0 := ⟨⟨_, _, _, Tryz.underlying104, rfl, size102, rfl⟩⟩
theorem row_blk {w : World} {g t tot k : Nat} {W : List Int} {kd : IntKind} (hl : Ent.lies ⟨g, t, W.map (int kd), tot⟩ w) (hW : 64 * k + 64 ≤ W.length) : RowI w g (64 * k) 64 kd (blk W k) := fun j hj => by
 rw [blk_get _ _ _ hj]; exact hl.cell (qf (by omega))
def padM (M : List Int) : List Int := M ++ endB M.length 8
theorem padM_len (M : List Int) : (padM M).length = M.length + (zerosN M.length + 9) := by
 unfold padM
 rw [List.length_append, endB_len]
theorem padM_mod (M : List Int) : (padM M).length % 64 = 0 := by
 rw [padM_len]; unfold zerosN; omega
theorem padM_le (M : List Int) (h : M.length ≤ 1000) : (padM M).length ≤ 2000 := by
 rw [padM_len]; unfold zerosN; omega
theorem sha_padM (M : List Int) : shaM M = digB (cmp (padM M) ((padM M).length / 64)) 8 := by
 unfold shaM padM; rfl
attribute [irreducible] padM
def digI (V : List Int) : Nat → List Int
 | 0 => List.replicate 32 0
 | k + 1 => (digI V k).set k (IntKind.u8.wrap (shrI .u32 (V.getD (k / 4) 0) (24 - 8 * ((k : Int) % 4))))
theorem digI_len (V : List Int) : ∀ k, (digI V k).length = 32
 | 0 => by simp [digI]
 | k + 1 => by simp [digI, digI_len V k]
theorem getD_set' {l : List Int} {i j : Nat} {v d : Int} (hi : i < l.length) : (l.set i v).getD j d = if i = j then v else l.getD j d := by
 simp only [List.getD_eq_getElem?_getD, List.getElem?_set]
 by_cases h : i = j
 ·subst h; simp [hi]
 ·simp [h]
theorem digI_get (V : List Int) : ∀ k, k ≤ 32 → ∀ j, j < k → (digI V k).getD j 0 = IntKind.u8.wrap (shrI .u32 (V.getD (j / 4) 0) (24 - 8 * ((j : Int) % 4)))
 | 0, _, j, hj => absurd hj (Nat.not_lt_zero j)
 | k + 1, hk, j, hj => by
  have hl := digI_len V k
  rw [digI, getD_set' (by omega)]
  by_cases e : k = j
  ·subst e; rw [if_pos rfl]
  ·rw [if_neg e]; exact digI_get V k (by omega) j (by omega)
theorem shr_zero (x : Int) : shrI .u32 x 0 = x := by
 unfold shrI
 have h : (2 : Int) ^ (min (0 : Int).toNat IntKind.u32.bits) = 1 := by decide
 rw [h]; exact Int.fdiv_one x
theorem digB_get (V : List Int) : ∀ k, k ≤ 8 → ∀ j, j < 4 * k → (digB V k).getD j 0 = IntKind.u8.wrap (shrI .u32 (V.getD (j / 4) 0) (24 - 8 * ((j : Int) % 4)))
 | 0, _, j, hj => absurd hj (by omega)
 | k + 1, hk, j, hj => by
  have hl := digB_len V k
  rw [digB, getD_set' (by simp only [List.length_set]; omega), getD_set' (by simp only [List.length_set]; omega), getD_set' (by simp only [List.length_set]; omega), getD_set' (by omega)]
  by_cases e3 : 4 * k + 3 = j
  ·rw [if_pos e3, show j / 4 = k by omega, show (24 - 8 * ((j : Int) % 4)) = 0 by omega, shr_zero]
  by_cases e2 : 4 * k + 2 = j
  ·rw [if_neg e3, if_pos e2, show j / 4 = k by omega, show (24 - 8 * ((j : Int) % 4)) = 8 by omega]
  by_cases e1 : 4 * k + 1 = j
  ·rw [if_neg e3, if_neg e2, if_pos e1, show j / 4 = k by omega, show (24 - 8 * ((j : Int) % 4)) = 16 by omega]
  by_cases e0 : 4 * k = j
  ·rw [if_neg e3, if_neg e2, if_neg e1, if_pos e0, show j / 4 = k by omega, show (24 - 8 * ((j : Int) % 4)) = 24 by omega]
  ·rw [if_neg e3, if_neg e2, if_neg e1, if_neg e0]; exact digB_get V k (by omega) j (by omega)
theorem dig_same (V : List Int) : digI V 32 = digB V 8 := by
 apply List.ext_getElem (by rw [digI_len, digB_len])
 intro i h1 h2
 rw [digI_len] at h1
 have e1 := digI_get V 32 (Nat.le_refl _) i h1
 have e2 := digB_get V 8 (Nat.le_refl _) i (by omega)
 have e3 := e1.trans e2.symm
 rw [List.getD_eq_getElem?_getD, List.getD_eq_getElem?_getD, List.getElem?_eq_getElem (by rw [digI_len]; omega), List.getElem?_eq_getElem h2, Option.getD_some, Option.getD_some] at e3
 exact e3
attribute [irreducible] digI
theorem own_someZ {N t : Nat} {kd : IntKind} {v : Value} {W : List Int} {He : List Ent} (h : Own N t kd v W He) (hW : 0 < W.length) : ∃ g c, v = .slice (some ⟨g, 0, none⟩) W.length c ∧ He = [⟨g, t, W.map (int kd), c⟩] ∧ N ≤ g ∧ W.length ≤ c := by
 rcases h with ⟨_, rfl, _⟩ | ⟨g, c, h1, h2, h3, h4, _⟩
 ·exact absurd hW (by simp)
 ·exact ⟨g, c, h1, h2, h3, h4⟩
theorem rpad_m (M MB : List Int) (LN : Nat) (hMB : padM M = MB) (hLN : MB.length = LN) (A : Option Addr) (m c0 : Nat) (w : World) (hsM : Src w A m .u8 M) (hmc : m ≤ c0) (hm : m ≤ 1000) : Calls Tryz.prog 87 #[.slice A m c0] w fun e w' => ∃ g c, e = .returned (.slice (some ⟨g, 0, none⟩) LN c) ∧ w.heap.size ≤ g ∧ LN ≤ c ∧ St w [⟨g, 5, MB.map (int .u8), c⟩] w' :=
 (rpad_c M A m c0 w hsM hmc hm).mono fun e w' ⟨v, He, he, ho, hs⟩ => by
  have e1 : M ++ endB m 8 = MB := by rw [← hMB, ← hsM.1]; unfold padM; rfl
  rw [e1] at ho
  obtain ⟨g, c, rfl, rfl, hN, hc⟩ := own_someZ ho (by have := padM_len M; rw [hMB] at this; omega)
  rw [hLN] at hc
  exact ⟨g, c, by rw [he, hLN], hN, hc, hs⟩
theorem rschedule_m (B : List Int) (b off cap : Nat) (w : World) (hb : b < w.heap.size) (hB : RowI w b off 64 .u8 B) (hcap : 64 ≤ cap) : Calls Tryz.prog 89 #[.slice (some ⟨b, off, none⟩) 64 cap] w fun e w' => ∃ g c, e = .returned (.slice (some ⟨g, 0, none⟩) 64 c) ∧ w.heap.size ≤ g ∧ 64 ≤ c ∧ St w [⟨g, 127, (sched B).map (int .u32), c⟩] w' :=
 (rschedule_c B b off cap w hb hB hcap).mono fun e w' ⟨v, He, he, ho, hs⟩ => by
  obtain ⟨g, c, rfl, rfl, hN, hc⟩ := own_someZ ho (by rw [sched_len]; omega)
  rw [sched_len] at hc he
  exact ⟨g, c, he, hN, hc, hs⟩
theorem rblock_m (st B : List Int) (bs cs bw cw bk ck : Nat) (w : World) (hst : st.length = 8) (hbs : bs < w.heap.size) (hS : RowI w bs 0 8 .u32 st) (hcs : 8 ≤ cs) (hbw : bw < w.heap.size) (hW : RowI w bw 0 64 .u32 (sched B)) (hcw : 64 ≤ cw) (hbk : bk < w.heap.size) (hK : RowI w bk 0 64 .u32 KT) (hck : 64 ≤ ck) :
  Calls Tryz.prog 88 #[.slice (some ⟨bs, 0, none⟩) 8 cs, .slice (some ⟨bw, 0, none⟩) 64 cw, .slice (some ⟨bk, 0, none⟩) 64 ck] w fun e w' => ∃ g c, e = .returned (.slice (some ⟨g, 0, none⟩) 8 c) ∧ w.heap.size ≤ g ∧ 8 ≤ c ∧ St w [⟨g, 127, (mixS st B).map (int .u32), c⟩] w' :=
 (rblock_c st (sched B) bs 0 cs bw 0 cw bk 0 ck w hst hbs hS hcs hbw hW hcw hbk hK hck).mono fun e w' ⟨v, He, he, ho, hs⟩ => by
  rw [mix_out hst] at ho
  have hl := mixS_len (B := B) hst
  obtain ⟨g, c, rfl, rfl, hN, hc⟩ := own_someZ ho (by omega)
  rw [hl] at hc he
  exact ⟨g, c, he, hN, hc, hs⟩
attribute [local irreducible] blk
theorem rwith_c (M MB : List Int) (LN : Nat) (hMB : padM M = MB) (hLN : MB.length = LN) (hL64 : LN % 64 = 0) (hLb : LN ≤ 2000) (A : Option Addr) (m c0 gs cs gk ck gr tr totr : Nat) (csr : List Value) (w w1 : World) (hsM : Src w A m .u8 M) (hmc : m ≤ c0) (hm : m ≤ 1000) (hgs : w.heap.size ≤ gs) (hgk : w.heap.size ≤ gk) (hgr : w.heap.size ≤ gr) (hcs : 8 ≤ cs) (hck : 64 ≤ ck) (hst : St w [⟨gr, tr, csr, totr⟩, ⟨gk, 127, KT.map (int .u32), ck⟩, ⟨gs, 127, IV.map (int .u32), cs⟩] w1) : Calls Tryz.prog 55 #[.slice A m c0, .agg ([slice (some ⟨gs, 0, none⟩) 8 cs, slice (some ⟨gk, 0, none⟩) 64 ck]).toArray] w1 fun e w' => e = .returned (.agg ((shaM M).map (int .u8)).toArray) ∧ St w [⟨gr, tr, csr, totr⟩] w' := by
 refine calls_over (w0 := w) (H := [⟨gr, tr, csr, totr⟩, ⟨gk, 127, KT.map (int .u32), ck⟩, ⟨gs, 127, IV.map (int .u32), cs⟩]) (args := [.slice A m c0, .agg ([slice (some ⟨gs, 0, none⟩) 8 cs, slice (some ⟨gk, 0, none⟩) 64 ck]).toArray]) Tryz.func55 rfl Tryz.ntmps55 (by simp) hst ?_
 refine qC [0, 1] ?_
 iterate 2 refine gx ?_
 refine qv (fun g1 hg1 => ?_)
 refine zB (qA rfl) rfl rfl zero24 (cs := (List.replicate 32 0).map (int .u8)) rfl (tot := 32) (by simp) (fun g2 hg2 => ?_)
 iterate 12 refine gx ?_
 refine qY (ι := Nat × Nat) (V := fun x => .slice (some ⟨x.1, 0, none⟩) LN x.2) (R := fun x => w.heap.size ≤ x.1 ∧ LN ≤ x.2) (H' := fun x => [⟨x.1, 5, MB.map (int .u8), x.2⟩, ⟨g2, 24, (List.replicate 32 0).map (int .u8), 32⟩, ⟨g1, 104, [slice (some ⟨gs, 0, none⟩) 8 cs, slice (some ⟨gk, 0, none⟩) 64 ck], 2⟩, ⟨gr, tr, csr, totr⟩, ⟨gk, 127, KT.map (int .u32), ck⟩, ⟨gs, 127, IV.map (int .u32), cs⟩]) (qA rfl) rfl enters87 rfl rfl (fun w hs => (rpad_m M MB LN hMB hLN A m c0 w (hsM.at_ hs (fun b hb => (qE (by show g2 ≠ b; omega) (qE (by show g1 ≠ b; omega) (qE (by show gr ≠ b; omega) (qE (by show gk ≠ b; omega) (qE (by show gs ≠ b; omega) qF))))))) hmc hm).mono fun e w' ⟨gv, cv, he, hge, hcv, hw⟩ => ⟨(gv, cv), he, ⟨Nat.le_trans hs.size hge, hcv⟩, hs.made hw hge⟩) (fun x hxm => ?_)
 obtain ⟨gm, cm⟩ := x
 dsimp only at hxm ⊢
 obtain ⟨hgm, hcm⟩ := hxm
 iterate 3 refine gx ?_
 refine qC [3, 4, 5, 6] ?_
 iterate 7 refine gx ?_
 refine qr (ι := WG) (fun x => [(3, .pointer (some ⟨g1, 0, none⟩)), (4, .pointer (some ⟨g2, 0, none⟩)), (5, .slice (some ⟨x.g, 0, none⟩) 8 x.c), (6, .slice (some ⟨gm, 0, none⟩) LN cm), (7, .int .i64 (64 * (x.k : Int)))]) (fun x => [⟨gm, 5, MB.map (int .u8), cm⟩, ⟨g2, 24, (List.replicate 32 0).map (int .u8), 32⟩, ⟨g1, 104, [slice (some ⟨gs, 0, none⟩) 8 cs, slice (some ⟨gk, 0, none⟩) 64 ck], 2⟩, ⟨gr, tr, csr, totr⟩, ⟨gk, 127, KT.map (int .u32), ck⟩, ⟨x.g, 127, (cmp MB x.k).map (int .u32), x.c⟩]) (fun x => LN - 64 * x.k) (fun x => w.heap.size ≤ x.g ∧ 8 ≤ x.c ∧ 64 * x.k ≤ LN) (⟨0, gs, cs⟩ : WG) ⟨hgs, hcs, by show 64 * 0 ≤ LN; omega⟩ (qI (i := 3) rfl (qI (i := 4) rfl (qT (i := 5) rfl (by first | rfl | (congr 2; omega)) (by first | omega | (dsimp only; omega) | rfl) (by first | omega | (dsimp only; omega) | rfl) (qT (i := 6) rfl rfl (by first | omega | (dsimp only; omega) | rfl) (by first | omega | (dsimp only; omega) | rfl) (qH (i := 7) rfl (by first | omega | rfl) (qN)))))) (fun w h => by rw [show cmp MB 0 = IV by unfold cmp; rfl]; exact h) (fun x hC0 => ?_)
 obtain ⟨k, g, c⟩ := x
 obtain ⟨hN, hc, hk⟩ := hC0
 dsimp only at hN hc hk ⊢
 iterate 9 refine gx ?_
 refine qC [3, 4, 5, 6, 7, 17] ?_
 refine qX rfl (fun hq0 => ?_) (fun hq0 => ?_)
 ·iterate 4 refine gx ?_
  refine qe (H' := [⟨gm, 5, MB.map (int .u8), cm⟩, ⟨g2, 24, (List.replicate 32 0).map (int .u8), 32⟩, ⟨g1, 104, [slice (some ⟨gs, 0, none⟩) 8 cs, slice (some ⟨gk, 0, none⟩) 64 ck], 2⟩, ⟨gr, tr, csr, totr⟩, ⟨gk, 127, KT.map (int .u32), ck⟩, ⟨g, 127, (cmp MB k).map (int .u32), c⟩] ++ ([])) (fun w h => h) ?_
  refine TC.mixB (HB := [Ent.mk gm 5 (MB.map (int .u8)) cm, Ent.mk g2 24 ((List.replicate 32 0).map (int .u8)) 32, Ent.mk g1 104 ([slice (some ⟨gs, 0, none⟩) 8 cs, slice (some ⟨gk, 0, none⟩) 64 ck]) 2, Ent.mk gr tr (csr) totr, Ent.mk gk 127 (KT.map (int .u32)) ck, Ent.mk g 127 ((cmp MB k).map (int .u32)) c]) (H := []) (by kernel_rfl) [0, 0, 0, 0, 0, 0, 3, 0, 0, 3, 0] [0, 1, 2, 3, 4, 5, 7, 8, 6, 9, 10] (by kernel_rfl) ?_
  refine qz (qA rfl) rfl (fun _ => qp rfl rfl) ?_
  refine qz (qA rfl) rfl (fun _ => qp rfl rfl) ?_
  refine qz (qA rfl) rfl (fun _ => qp rfl rfl) ?_
  refine qz (qA rfl) rfl (fun _ => qp rfl rfl) ?_
  refine qz (qA rfl) rfl (fun _ => qR rfl rfl rfl (r := (64 * (k : Int) + 64)) (w64 (by omega) (by omega))) ?_
  refine qz (qA rfl) rfl (fun _ => zP rfl Tryz.underlying22 size5 rfl (bnd.at_ (l := (64 * k)) rfl (by omega)) (bnd.at_ (l := (64 * k + 64)) rfl (by omega)) (by omega) (by omega) (A' := some ⟨gm, (64 * k), none⟩) (cut_is (by omega) (by omega)) (ln := 64) (cp := (cm - 64 * k)) (by omega) (by omega)) ?_
  refine qz (qA rfl) rfl (fun _ => zE rfl Tryz.underlying104 rfl size102 rfl (off' := 1) (by first | rfl | omega)) ?_
  refine zO (qA rfl) rfl (fun H' => qS rfl agg102 rfl (qZ (i := 2) (ent := ⟨g1, 104, [slice (some ⟨gs, 0, none⟩) 8 cs, slice (some ⟨gk, 0, none⟩) 64 ck], 2⟩) (off := 1) rfl rfl (by exact rfl))) ?_
  refine zW (ι := Nat × Nat) (V := fun y => .slice (some ⟨y.1, 0, none⟩) 64 y.2) (R := fun y => w.heap.size ≤ y.1 ∧ 64 ≤ y.2) (H' := fun y => [⟨y.1, 127, (sched (blk MB k)).map (int .u32), y.2⟩]) (qA rfl) rfl enters89 rfl rfl (fun w hs => (rschedule_m (blk MB k) gm (64 * k) (cm - 64 * k) w (hs.has (⟨gm, 5, MB.map (int .u8), cm⟩) (by simp)).lt (row_blk (hs.has (⟨gm, 5, MB.map (int .u8), cm⟩) (by simp)) (by omega)) (by omega)).mono fun e w' ⟨gv, cv, he, hge, hcv, hw⟩ => ⟨(gv, cv), he, ⟨Nat.le_trans hs.size hge, hcv⟩, st_call (H := [⟨gm, 5, MB.map (int .u8), cm⟩, ⟨g2, 24, (List.replicate 32 0).map (int .u8), 32⟩, ⟨g1, 104, [slice (some ⟨gs, 0, none⟩) 8 cs, slice (some ⟨gk, 0, none⟩) 64 ck], 2⟩, ⟨gr, tr, csr, totr⟩, ⟨gk, 127, KT.map (int .u32), ck⟩, ⟨g, 127, (cmp MB k).map (int .u32), c⟩]) hs hw (fun d hd => by rw [List.mem_singleton.1 hd]; exact hge)⟩) (fun y hxw => ?_)
  obtain ⟨gw, cw⟩ := y
  dsimp only at hxw ⊢
  obtain ⟨hgw, hcw⟩ := hxw
  refine zW (ι := Nat × Nat) (V := fun y => .slice (some ⟨y.1, 0, none⟩) 8 y.2) (R := fun y => w.heap.size ≤ y.1 ∧ 8 ≤ y.2) (H' := fun y => [⟨gw, 127, (sched (blk MB k)).map (int .u32), cw⟩, ⟨y.1, 127, (mixS (cmp MB k) (blk MB k)).map (int .u32), y.2⟩]) (qA rfl) rfl enters88 rfl rfl (fun w hs => (rblock_m (cmp MB k) (blk MB k) g c gw cw gk ck w (cmp_len MB k) (hs.has (⟨g, 127, (cmp MB k).map (int .u32), c⟩) (by simp)).lt (rowI_ent (hs.has (⟨g, 127, (cmp MB k).map (int .u32), c⟩) (by simp)) (cmp_len MB k)) (by omega) (hs.has (⟨gw, 127, (sched (blk MB k)).map (int .u32), cw⟩) (by simp)).lt (rowI_ent (hs.has (⟨gw, 127, (sched (blk MB k)).map (int .u32), cw⟩) (by simp)) (sched_len _)) (by omega) (hs.has (⟨gk, 127, KT.map (int .u32), ck⟩) (by simp)).lt (rowI_ent (hs.has (⟨gk, 127, KT.map (int .u32), ck⟩) (by simp)) KT_len) (by omega)).mono fun e w' ⟨gv, cv, he, hge, hcv, hw⟩ => ⟨(gv, cv), he, ⟨Nat.le_trans hs.size hge, hcv⟩, st_call (H := [⟨gm, 5, MB.map (int .u8), cm⟩, ⟨g2, 24, (List.replicate 32 0).map (int .u8), 32⟩, ⟨g1, 104, [slice (some ⟨gs, 0, none⟩) 8 cs, slice (some ⟨gk, 0, none⟩) 64 ck], 2⟩, ⟨gr, tr, csr, totr⟩, ⟨gk, 127, KT.map (int .u32), ck⟩, ⟨g, 127, (cmp MB k).map (int .u32), c⟩, ⟨gw, 127, (sched (blk MB k)).map (int .u32), cw⟩]) hs hw (fun d hd => by rw [List.mem_singleton.1 hd]; exact hge)⟩) (fun y hxb => ?_)
  obtain ⟨gb, cb⟩ := y
  dsimp only at hxb ⊢
  obtain ⟨hgb, hcb⟩ := hxb
  refine qz (qA rfl) rfl (fun _ => zf rfl rfl) ?_
  refine TP.nil ?_
  refine zU (H' := [⟨gm, 5, MB.map (int .u8), cm⟩, ⟨g2, 24, (List.replicate 32 0).map (int .u8), 32⟩, ⟨g1, 104, [slice (some ⟨gs, 0, none⟩) 8 cs, slice (some ⟨gk, 0, none⟩) 64 ck], 2⟩, ⟨gr, tr, csr, totr⟩, ⟨gk, 127, KT.map (int .u32), ck⟩, ⟨g, 127, (cmp MB k).map (int .u32), c⟩, ⟨gw, 127, (sched (blk MB k)).map (int .u32), cw⟩, ⟨gb, 127, (mixS (cmp MB k) (blk MB k)).map (int .u32), cb⟩]) (fun w h => h) ?_
  iterate 2 refine gx ?_
  refine qC [3, 4, 5, 6, 7] ?_
  iterate 2 refine gx ?_
  refine qB (qA rfl) rfl (qR rfl rfl rfl (r := (64 * (k : Int) + 64)) (w64 (by omega) (by omega))) ?_
  iterate 2 refine gx ?_
  exact qj (⟨k + 1, gb, cb⟩ : WG) (by show LN - 64 * (k + 1) < LN - 64 * k; omega) ⟨hgb, hcb, by show 64 * (k + 1) ≤ LN; omega⟩ (qI (i := 3) rfl (qI (i := 4) rfl (qT (i := 5) rfl (by first | rfl | (congr 2; omega)) (by first | omega | (dsimp only; omega) | rfl) (by first | omega | (dsimp only; omega) | rfl) (qT (i := 6) rfl rfl (by first | omega | (dsimp only; omega) | rfl) (by first | omega | (dsimp only; omega) | rfl) (qH (i := 7) rfl (by first | omega | rfl) (qN)))))) (fun w h => by have h2 := (h.erase (i := 5) rfl hN).erase (i := 5) rfl hgw; show St _ [_, _, _, _, _, ⟨gb, _, (cmp MB (k + 1)).map (int .u32), cb⟩] w; rw [cmp_succ]; exact h2)
 ·have hkn : k = LN / 64 := by omega
  have Vl := cmp_len MB k
  have hfin : digI (cmp MB k) 32 = shaM M := by rw [dig_same, sha_padM, hMB, hLN, hkn]
  generalize cmp MB k = V at Vl hfin ⊢
  iterate 7 refine gx ?_
  refine zB (qA rfl) rfl rfl zero24 (cs := (List.replicate 32 0).map (int .u8)) rfl (tot := 32) (by simp) (fun g3 hg3 => ?_)
  iterate 9 refine gx ?_
  refine qr (ι := Nat) (fun i => [(4, .pointer (some ⟨g2, 0, none⟩)), (5, .slice (some ⟨g, 0, none⟩) 8 c), (8, .pointer (some ⟨g3, 0, none⟩)), (9, .int .i64 (i : Int))]) (fun i => [⟨g3, 24, (digI V i).map (int .u8), 32⟩, ⟨gm, 5, MB.map (int .u8), cm⟩, ⟨g2, 24, (List.replicate 32 0).map (int .u8), 32⟩, ⟨g1, 104, [slice (some ⟨gs, 0, none⟩) 8 cs, slice (some ⟨gk, 0, none⟩) 64 ck], 2⟩, ⟨gr, tr, csr, totr⟩, ⟨gk, 127, KT.map (int .u32), ck⟩, ⟨g, 127, V.map (int .u32), c⟩]) (fun i => 32 - i) (fun i => i ≤ 32) 0 (Nat.zero_le _) (qI (i := 4) rfl (qT (i := 5) rfl rfl (by first | omega | (dsimp only; omega) | rfl) (by first | omega | (dsimp only; omega) | rfl) (qI (i := 8) rfl (qH (i := 9) rfl (by first | omega | rfl) (qN))))) (fun w h => by rw [show digI V 0 = List.replicate 32 0 by unfold digI; rfl]; exact h) (fun i hC1 => ?_)
  iterate 7 refine gx ?_
  refine qX rfl (fun hq1 => ?_) (fun hq1 => ?_)
  ·iterate 8 refine gx ?_
   refine qB (qA rfl) rfl (Gets.quo rfl rfl rfl (by omega) (r := ((i / 4 : Nat) : Int)) (tdiv_pos (by omega) (w64 (by omega) (by omega)))) ?_
   refine qB (qA rfl) rfl (ql rfl Tryz.underlying102 size127 rfl rfl (i := (((i / 4)))) (by omega) (by omega) (off' := (((i / 4)))) (by omega)) ?_
   refine qB (qA rfl) rfl (qS rfl agg127 rfl (qZ (i := 6) (ent := ⟨g, 127, V.map (int .u32), c⟩) (off := (((i / 4)))) rfl rfl (by have := qf (kd := .u32) (W := V) (i := (((i / 4)))) (by rw [Vl]; omega); (first | exact this | (refine Eq.trans ?_ this; congr 1; omega))))) ?_
   refine gx ?_
   refine qB (qA rfl) rfl (Gets.rem rfl rfl rfl (by omega) (r := ((i : Int) % 4)) (tmod_pos (by omega) rfl)) ?_
   refine qB (qA rfl) rfl (zY rfl rfl rfl (r := (8 * ((i : Int) % 4))) (w64 (by omega) (by omega))) ?_
   refine qB (qA rfl) rfl (zH rfl rfl rfl (r := (24 - 8 * ((i : Int) % 4))) (w64 (by omega) (by omega))) ?_
   refine qB (qA rfl) rfl (zN rfl rfl rfl (by omega) (r := (shrI .u32 (V.getD (((i / 4))) 0) (24 - 8 * ((i : Int) % 4)))) rfl) ?_
   refine qB (qA rfl) rfl (qt rfl Tryz.underlying127 Tryz.underlying5 rfl (r := (IntKind.u8.wrap (shrI .u32 (V.getD (((i / 4))) 0) (24 - 8 * ((i : Int) % 4))))) rfl) ?_
   refine qB (qA rfl) rfl (qq rfl Tryz.underlying24 size5 rfl rfl (i := i) (by omega) (by omega) (off' := i) (by omega)) ?_
   refine qw (qA rfl) rfl rfl size5 rfl rfl rfl (i := 0) rfl rfl (by simp [(digI_len V i)] <;> omega) (cs' := ((digI V i).set i (IntKind.u8.wrap (shrI .u32 (V.getD (((i / 4))) 0) (24 - 8 * ((i : Int) % 4))))).map (int .u8)) (ints_set) (H' := [⟨g3, 24, ((digI V i).set i (IntKind.u8.wrap (shrI .u32 (V.getD (((i / 4))) 0) (24 - 8 * ((i : Int) % 4))))).map (int .u8), 32⟩, ⟨gm, 5, MB.map (int .u8), cm⟩, ⟨g2, 24, (List.replicate 32 0).map (int .u8), 32⟩, ⟨g1, 104, [slice (some ⟨gs, 0, none⟩) 8 cs, slice (some ⟨gk, 0, none⟩) 64 ck], 2⟩, ⟨gr, tr, csr, totr⟩, ⟨gk, 127, KT.map (int .u32), ck⟩, ⟨g, 127, V.map (int .u32), c⟩]) rfl ?_
   iterate 3 refine gx ?_
   refine qC [4, 5, 8, 9] ?_
   iterate 2 refine gx ?_
   refine qB (qA rfl) rfl (qR rfl rfl rfl (r := ((i : Int) + 1)) (w64 (by omega) (by omega))) ?_
   iterate 2 refine gx ?_
   exact qj (i + 1) (by omega) (by omega) (qI (i := 4) rfl (qT (i := 5) rfl rfl (by first | omega | (dsimp only; omega) | rfl) (by first | omega | (dsimp only; omega) | rfl) (qI (i := 8) rfl (qH (i := 9) rfl (by first | omega | rfl) (qN))))) (fun w h => by rw [show digI V (i + 1) = (digI V i).set i (IntKind.u8.wrap (shrI .u32 (V.getD (i / 4) 0) (24 - 8 * ((i : Int) % 4)))) by rw [digI]]; exact h)
  ·obtain rfl : i = 32 := by omega
   iterate 7 refine gx ?_
   refine qB (qA rfl) rfl (qg rfl agg24 size24 rfl (vs := (digI V 32).map (int .u8)) (by simp [(digI_len V 32)]) (qQ (i := 0) (ent := ⟨g3, 24, (digI V 32).map (int .u8), 32⟩) rfl rfl rfl)) ?_
   refine qn (qA rfl) rfl rfl size24 rfl (vs := (digI V 32).map (int .u8)) rfl (by simp [(digI_len V 32)]) qb (i := 2) (ent := ⟨g2, 24, (List.replicate 32 0).map (int .u8), 32⟩) rfl rfl (by simp []) (H' := [⟨g3, 24, (digI V 32).map (int .u8), 32⟩, ⟨gm, 5, MB.map (int .u8), cm⟩, ⟨g2, 24, (digI V 32).map (int .u8), 32⟩, ⟨g1, 104, [slice (some ⟨gs, 0, none⟩) 8 cs, slice (some ⟨gk, 0, none⟩) 64 ck], 2⟩, ⟨gr, tr, csr, totr⟩, ⟨gk, 127, KT.map (int .u32), ck⟩, ⟨g, 127, V.map (int .u32), c⟩]) rfl ?_
   iterate 3 refine gx ?_
   exact qu rfl agg24 size24 rfl (vs := (digI V 32).map (int .u8)) (by simp [(digI_len V 32)]) (qQ (i := 2) (ent := ⟨g2, 24, (digI V 32).map (int .u8), 32⟩) rfl rfl rfl) (fun w hs => ⟨congrArg (fun D => Ending.returned (.agg (List.map (int .u8) D).toArray)) hfin, ((((((hs.drop (by assumption)).drop (by assumption)).drop (by assumption)).drop (by assumption)).erase (i := 1) rfl hgk).erase (i := 1) rfl hN)⟩)
/-
 The reference: Of.
-/
theorem enters55 : Enters Tryz.prog 55 := ⟨_, Tryz.func55, by kernel_rfl, by kernel_rfl⟩
theorem enters56 : Enters Tryz.prog 56 := ⟨_, Tryz.func56, by kernel_rfl, by kernel_rfl⟩
theorem rof_c (M : List Int) (A : Option Addr) (m c0 : Nat) (w : World) (hsM : Src w A m .u8 M) (hmc : m ≤ c0) (hm : m ≤ 1000) : Calls Tryz.prog 21 #[.slice A m c0] w fun e w' => e = .returned (.agg ((shaM M).map (int .u8)).toArray) ∧ St w [] w' := by
 refine qL (args := [.slice A m c0]) Tryz.func21 rfl Tryz.ntmps21 (by simp) ?_
 refine qC [0] ?_
 iterate 2 refine gx ?_
 refine zB (qA rfl) rfl rfl zero24 (cs := (List.replicate 32 0).map (int .u8)) rfl (tot := 32) (by simp) (fun g1 hg1 => ?_)
 iterate 5 refine gx ?_
 refine qY (ι := Nat × Nat × Nat × Nat) (V := fun y => .agg ([slice (some ⟨y.1, 0, none⟩) 8 y.2.1, slice (some ⟨y.2.2.1, 0, none⟩) 64 y.2.2.2]).toArray) (R := fun y => w.heap.size ≤ y.1 ∧ w.heap.size ≤ y.2.2.1 ∧ 8 ≤ y.2.1 ∧ 64 ≤ y.2.2.2) (H' := fun y => [⟨g1, 24, (List.replicate 32 0).map (int .u8), 32⟩, ⟨y.2.2.1, 127, KT.map (int .u32), y.2.2.2⟩, ⟨y.1, 127, IV.map (int .u32), y.2.1⟩]) (qA rfl) rfl enters56 rfl rfl (fun w hs => (rtable_c w).mono fun e w' ⟨gs, cs, gk, ck, he, h1, h2, h3, h4, hw⟩ => ⟨(gs, cs, gk, ck), he, ⟨Nat.le_trans hs.size h1, Nat.le_trans hs.size h2, h3, h4⟩, st_call (H := [⟨g1, 24, (List.replicate 32 0).map (int .u8), 32⟩]) hs hw (fun d hd => (List.mem_cons.1 hd).elim (fun e => e ▸ h2) (fun hd => (List.mem_singleton.1 hd) ▸ h1))⟩) (fun y hy => ?_)
 obtain ⟨gs, cs, gk, ck⟩ := y
 dsimp only at hy ⊢
 obtain ⟨hgs, hgk, hcs, hck⟩ := hy
 refine qY (ι := Unit) (V := fun _ => .agg ((shaM M).map (int .u8)).toArray) (R := fun _ => True) (H' := fun _ => [⟨g1, 24, (List.replicate 32 0).map (int .u8), 32⟩]) (qA rfl) rfl enters55 rfl rfl (fun w hs => (rwith_c M (padM M) (padM M).length rfl rfl (padM_mod M) (padM_le M (by have := hsM.1; omega)) A m c0 gs cs gk ck g1 24 32 ((List.replicate 32 0).map (int .u8)) _ w hsM hmc hm hgs hgk hg1 hcs hck hs).mono fun e w' ⟨he, hw⟩ => ⟨(), he, trivial, hw⟩) (fun _ _ => ?_)
 refine qn (qA rfl) rfl rfl size24 rfl (vs := (shaM M).map (int .u8)) rfl (by simp [(shaM_len M)]) qb (i := 0) (ent := ⟨g1, 24, (List.replicate 32 0).map (int .u8), 32⟩) rfl rfl (by simp []) (H' := [⟨g1, 24, (shaM M).map (int .u8), 32⟩]) rfl ?_
 iterate 3 refine gx ?_
 exact qu rfl agg24 size24 rfl (vs := (shaM M).map (int .u8)) (by simp [(shaM_len M)]) (qQ (i := 0) (ent := ⟨g1, 24, (shaM M).map (int .u8), 32⟩) rfl rfl rfl) (fun w hs => ⟨rfl, (hs.drop (by assumption))⟩)
/-
 ShaDigests: the walk.
-/
/-
 ShaLengths: the walk.
-/
/-
 Contracts of packages extent and command: End, between, Valid, bytes, Copy, describe.
-/
theorem agg146 : (isAgg 146).run Tryz.prog = fun w => .ok true w := isAgg_yes Tryz.underlying146 rfl
theorem agg149 : (isAgg 149).run Tryz.prog = fun w => .ok true w := isAgg_yes Tryz.underlying149 rfl
theorem agg70 : (isAgg 70).run Tryz.prog = fun w => .ok true w := isAgg_yes Tryz.underlying70 rfl
theorem enters103 : Enters Tryz.prog 103 := ⟨_, Tryz.func103, by kernel_rfl, by kernel_rfl⟩
theorem enters30 : Enters Tryz.prog 30 := ⟨_, Tryz.func30, by kernel_rfl, by kernel_rfl⟩
theorem enters40 : Enters Tryz.prog 40 := ⟨_, Tryz.func40, by kernel_rfl, by kernel_rfl⟩
theorem size146 : (Tryz.prog.info? 146).map (·.size) = some 2 := by kernel_rfl
theorem size149 : (Tryz.prog.info? 149).map (·.size) = some 6 := by kernel_rfl
theorem size70 : (Tryz.prog.info? 70).map (·.size) = some 2 := by kernel_rfl
theorem zero149 : (Tryz.prog.info? 149).bind (·.zero) = some (.agg #[.int .i64 0, .int .i64 0, .int .i64 0, .int .i64 0, .int .i64 0, .bool false]) := by kernel_rfl
theorem zero70 : (Tryz.prog.info? 70).bind (·.zero) = some (.agg #[.int .i64 0, .int .i64 0]) := by kernel_rfl
instance : AgN Tryz.prog 22 := ⟨agg22⟩
instance : AgN Tryz.prog 3 := ⟨agg3⟩
instance : AgY Tryz.prog 146 := ⟨agg146⟩
instance : Fld Tryz.prog 61 0 0 := ⟨⟨_, _, _, Tryz.underlying61, rfl, size3, rfl⟩⟩
instance : Fld Tryz.prog 61 1 1 := ⟨⟨_, _, _, Tryz.underlying61, rfl, size3, rfl⟩⟩
instance : Fld Tryz.prog 61 2 2 := ⟨⟨_, _, _, Tryz.underlying61, rfl, size3, rfl⟩⟩
instance : Fld Tryz.prog 61 3 3 := ⟨⟨_, _, _, Tryz.underlying61, rfl, size3, rfl⟩⟩
instance : Fld Tryz.prog 61 4 4 := ⟨⟨_, _, _, Tryz.underlying61, rfl, size22, rfl⟩⟩
instance : Fld Tryz.prog 70 0 0 := ⟨⟨_, _, _, Tryz.underlying70, rfl, size3, rfl⟩⟩
instance : Fld Tryz.prog 70 1 1 := ⟨⟨_, _, _, Tryz.underlying70, rfl, size3, rfl⟩⟩
instance : Siz Tryz.prog 146 2 := ⟨size146⟩
instance : Siz Tryz.prog 149 6 := ⟨size149⟩
instance : Siz Tryz.prog 70 2 := ⟨size70⟩
instance : Sli Tryz.prog 22 5 := ⟨Tryz.underlying22⟩
instance : Zer Tryz.prog 149 [int .i64 0, int .i64 0, int .i64 0, int .i64 0, int .i64 0, Value.bool false] := ⟨⟨_, zero149, rfl⟩⟩
instance : Zer Tryz.prog 70 [int .i64 0, int .i64 0] := ⟨⟨_, zero70, rfl⟩⟩
def vld (o l : Int) : Prop := 0 ≤ o ∧ 0 ≤ l ∧ o + l ≤ 4611686018427387903
instance (o l : Int) : Decidable (vld o l) := by unfold vld; infer_instance
theorem end_c (o l : Int) (h : -9223372036854775808 ≤ o + l ∧ o + l ≤ 9223372036854775807) (w : World) : Calls Tryz.prog 102 #[.agg ([int .i64 o, int .i64 l]).toArray] w fun e w' => e = .returned (.int .i64 (o + l)) ∧ St w [] w' := by
 refine qL (args := [.agg ([int .i64 o, int .i64 l]).toArray]) Tryz.func102 rfl Tryz.ntmps102 (by simp) ?_
 refine qC [0] ?_
 iterate 2 refine gx ?_
 refine qv (fun g1 hg1 => ?_)
 iterate 9 refine gx ?_
 refine qB (qA rfl) rfl (qR rfl rfl rfl (r := (o + l)) (w64 (by omega) (by omega))) ?_
 iterate 4 refine gx ?_
 exact qK rfl rfl (fun w hs => ⟨ret_i (rfl), (hs.drop (by assumption))⟩)
theorem valid_c (o l : Int) (bo : -9223372036854775808 ≤ o ∧ o ≤ 9223372036854775807) (bl : -9223372036854775808 ≤ l ∧ l ≤ 9223372036854775807) (w : World) : Calls Tryz.prog 30 #[.agg ([int .i64 o, int .i64 l]).toArray] w fun e w' => e = .returned (.bool (decide (vld o l))) ∧ St w [] w' := by
 refine qL (args := [.agg ([int .i64 o, int .i64 l]).toArray]) Tryz.func30 rfl Tryz.ntmps30 (by simp) ?_
 refine qC [0] ?_
 iterate 2 refine gx ?_
 refine qv (fun g1 hg1 => ?_)
 iterate 7 refine gx ?_
 by_cases c1 : 0 ≤ o
 ·refine qB (qA rfl) rfl (qP (zb rfl rfl rfl) c1) ?_
  iterate 3 refine gx ?_
  by_cases c2 : 0 ≤ l
  ·refine qB (qJ rfl rfl rfl) rfl (qP (zb rfl rfl rfl) c2) ?_
   iterate 6 refine gx ?_
   refine qB (qJ rfl rfl rfl) rfl (zH rfl rfl rfl (r := (4611686018427387903 - l)) (w64 (by omega) (by omega))) ?_
   iterate 6 refine gx ?_
   exact qK rfl rfl (fun w hs => ⟨dec_iff (by unfold vld; omega), (hs.drop (by assumption))⟩)
  ·refine qB (qJ rfl rfl rfl) rfl (qU (zb rfl rfl rfl) c2) ?_
   iterate 13 refine gx ?_
   exact qK rfl rfl (fun w hs => ⟨dec_f (by unfold vld; omega), (hs.drop (by assumption))⟩)
 ·refine qB (qA rfl) rfl (qU (zb rfl rfl rfl) c1) ?_
  iterate 17 refine gx ?_
  exact qK rfl rfl (fun w hs => ⟨dec_f (by unfold vld; omega), (hs.drop (by assumption))⟩)
theorem max_c (w : World) : Calls Tryz.prog 40 #[] w fun e w' => e = .returned (.int .i64 4611686018427387903) ∧ St w [] w' := by
 refine qL (args := []) Tryz.func40 rfl Tryz.ntmps40 (by simp) ?_
 refine qC [] ?_
 iterate 11 refine gx ?_
 exact qK rfl rfl (fun w hs => ⟨ret_i (rfl), hs⟩)
theorem rvalid_c (o l : Int) (bo : -9223372036854775808 ≤ o ∧ o ≤ 9223372036854775807) (bl : -9223372036854775808 ≤ l ∧ l ≤ 9223372036854775807) (w : World) : Calls Tryz.prog 108 #[.agg ([int .i64 o, int .i64 l]).toArray] w fun e w' => e = .returned (.bool (decide (vld o l))) ∧ St w [] w' := by
 refine qL (args := [.agg ([int .i64 o, int .i64 l]).toArray]) Tryz.func108 rfl Tryz.ntmps108 (by simp) ?_
 refine qC [0] ?_
 iterate 2 refine gx ?_
 refine qv (fun g1 hg1 => ?_)
 iterate 4 refine gx ?_
 refine qy (by kernel_rfl) [0, 1, 0, 0, 0, 1, 0, 0, 0, 0, 1, 1, 0, 0, 0, 0, 1, 1, 0, 1, 0, 0, 0, 0] rfl (by kernel_rfl) ?_
 iterate 2 refine gx ?_
 by_cases c1 : 0 ≤ o
 ·refine qG (qA rfl) rfl (fun _ => qP (zb rfl rfl rfl) c1) ?_
  iterate 3 refine gx ?_
  by_cases c2 : 0 ≤ l
  ·refine qG (qJ rfl rfl rfl) rfl (fun _ => qP (zb rfl rfl rfl) c2) ?_
   iterate 4 refine gx ?_
   refine zM (qJ rfl rfl rfl) rfl enters40 rfl rfl (v := .int .i64 4611686018427387903) (fun w hs => max_c w) ?_
   by_cases c3 : o ≤ 4611686018427387903
   ·refine qG (qJ rfl rfl rfl) rfl (fun _ => qP (Gets.leq rfl rfl rfl) c3) ?_
    iterate 4 refine gx ?_
    refine zM (qJ rfl rfl rfl) rfl enters40 rfl rfl (v := .int .i64 4611686018427387903) (fun w hs => max_c w) ?_
    iterate 2 refine gx ?_
    refine qG (qJ rfl rfl rfl) rfl (fun _ => zH rfl rfl rfl (r := (4611686018427387903 - o)) (w64 (by omega) (by omega))) ?_
    iterate 6 refine gx ?_
    exact qK rfl rfl (fun w hs => ⟨dec_iff (by unfold vld; omega), (hs.drop (by assumption))⟩)
   ·refine qG (qJ rfl rfl rfl) rfl (fun _ => qU (Gets.leq rfl rfl rfl) c3) ?_
    iterate 2 refine gx ?_
    refine zF rfl rfl rfl rfl rfl ?_
    refine zI rfl rfl rfl rfl rfl ?_
    refine zI rfl rfl rfl rfl rfl ?_
    refine zF rfl rfl rfl rfl rfl ?_
    refine zI rfl rfl rfl rfl rfl ?_
    refine zF rfl rfl rfl rfl rfl ?_
    refine zF rfl rfl rfl rfl rfl ?_
    iterate 5 refine gx ?_
    exact qK rfl rfl (fun w hs => ⟨dec_f (by unfold vld; omega), (hs.drop (by assumption))⟩)
  ·refine qG (qJ rfl rfl rfl) rfl (fun _ => qU (zb rfl rfl rfl) c2) ?_
   iterate 2 refine gx ?_
   refine zF rfl rfl rfl rfl rfl ?_
   refine zI rfl rfl rfl rfl rfl ?_
   refine zI rfl rfl rfl rfl rfl ?_
   refine zF rfl rfl rfl rfl rfl ?_
   iterate 2 refine gx ?_
   refine zF rfl rfl rfl rfl rfl ?_
   refine zI rfl rfl rfl rfl rfl ?_
   refine zI rfl rfl rfl rfl rfl ?_
   refine zF rfl rfl rfl rfl rfl ?_
   refine zI rfl rfl rfl rfl rfl ?_
   refine zF rfl rfl rfl rfl rfl ?_
   refine zF rfl rfl rfl rfl rfl ?_
   iterate 5 refine gx ?_
   exact qK rfl rfl (fun w hs => ⟨dec_f (by unfold vld; omega), (hs.drop (by assumption))⟩)
 ·refine qG (qA rfl) rfl (fun _ => qU (zb rfl rfl rfl) c1) ?_
  refine gx ?_
  refine zF rfl rfl rfl rfl rfl ?_
  refine zI rfl rfl rfl rfl rfl ?_
  refine zF rfl rfl rfl rfl rfl ?_
  iterate 2 refine gx ?_
  refine zF rfl rfl rfl rfl rfl ?_
  refine zI rfl rfl rfl rfl rfl ?_
  refine zI rfl rfl rfl rfl rfl ?_
  refine zF rfl rfl rfl rfl rfl ?_
  iterate 2 refine gx ?_
  refine zF rfl rfl rfl rfl rfl ?_
  refine zI rfl rfl rfl rfl rfl ?_
  refine zI rfl rfl rfl rfl rfl ?_
  refine zF rfl rfl rfl rfl rfl ?_
  refine zI rfl rfl rfl rfl rfl ?_
  refine zF rfl rfl rfl rfl rfl ?_
  refine zF rfl rfl rfl rfl rfl ?_
  iterate 5 refine gx ?_
  exact qK rfl rfl (fun w hs => ⟨dec_f (by unfold vld; omega), (hs.drop (by assumption))⟩)
theorem bytes_c (o l : Int) (w : World) : Calls Tryz.prog 103 #[.agg ([int .i64 o, int .i64 l]).toArray] w fun e w' => e = .returned (.agg ([int .i64 o, int .i64 l]).toArray) ∧ St w [] w' := by
 refine qL (args := [.agg ([int .i64 o, int .i64 l]).toArray]) Tryz.func103 rfl Tryz.ntmps103 (by simp) ?_
 refine qC [0] ?_
 iterate 2 refine gx ?_
 refine qv (fun g1 hg1 => ?_)
 refine qc (fun g2 hg2 => ?_)
 iterate 9 refine gx ?_
 exact qu rfl agg70 size70 rfl (vs := [int .i64 o, int .i64 l]) rfl (qQ (i := 0) (ent := ⟨g2, 70, [int .i64 o, int .i64 l], 2⟩) rfl rfl rfl) (fun w hs => ⟨rfl, ((hs.drop (by assumption)).drop (by assumption))⟩)
theorem tvalid_c (o l : Int) (bo : -9223372036854775808 ≤ o ∧ o ≤ 9223372036854775807) (bl : -9223372036854775808 ≤ l ∧ l ≤ 9223372036854775807) (w : World) : Calls Tryz.prog 101 #[.agg ([int .i64 o, int .i64 l]).toArray] w fun e w' => e = .returned (.bool (decide (vld o l))) ∧ St w [] w' := by
 refine qL (args := [.agg ([int .i64 o, int .i64 l]).toArray]) Tryz.func101 rfl Tryz.ntmps101 (by simp) ?_
 refine qC [0] ?_
 iterate 2 refine gx ?_
 refine qv (fun g1 hg1 => ?_)
 iterate 6 refine gx ?_
 refine qM (qA rfl) rfl enters103 rfl rfl (v := .agg ([int .i64 o, int .i64 l]).toArray) (fun w hs => bytes_c o l w) ?_
 refine qM (qA rfl) rfl enters30 rfl rfl (v := .bool (decide (vld o l))) (fun w hs => valid_c o l (by omega) (by omega) w) ?_
 iterate 4 refine gx ?_
 exact qK rfl rfl (fun w hs => ⟨dec_iff (Iff.rfl), (hs.drop (by assumption))⟩)
theorem describe1 (t f l : Int) (A : Option Addr) (m c : Nat) (w : World) : Calls Tryz.prog 100 #[.agg ([int .i64 1, int .i64 t, int .i64 f, int .i64 l, slice A m c]).toArray] w fun e w' => e = .returned (.agg ([int .i64 t, int .i64 l, int .i64 1, int .i64 f, int .i64 l, Value.bool (decide ((0 : Int) < (m : Int)))]).toArray) ∧ St w [] w' := by
 refine qL (args := [.agg ([int .i64 1, int .i64 t, int .i64 f, int .i64 l, slice A m c]).toArray]) Tryz.func100 rfl Tryz.ntmps100 (by simp) ?_
 refine qC [0] ?_
 iterate 2 refine gx ?_
 refine qv (fun g1 hg1 => ?_)
 refine qc (fun g2 hg2 => ?_)
 iterate 12 refine gx ?_
 refine qB (qA rfl) rfl (qP (qo rfl rfl rfl) rfl) ?_
 iterate 3 refine gx ?_
 refine qd rfl ?_
 iterate 6 refine gx ?_
 refine qB (qA rfl) rfl (qm rfl (vs := [(0, int .i64 t), (1, int .i64 l)]) rfl (fun w => by first | rfl | kernel_rfl) (v := .agg ([int .i64 t, int .i64 l]).toArray)) ?_
 iterate 4 refine gx ?_
 refine qB (qA rfl) rfl (qm rfl (vs := [(0, int .i64 f), (1, int .i64 l)]) rfl (fun w => by first | rfl | kernel_rfl) (v := .agg ([int .i64 f, int .i64 l]).toArray)) ?_
 iterate 4 refine gx ?_
 refine qB (qA rfl) rfl (qm rfl (vs := [(0, Value.agg ([int .i64 t, int .i64 l]).toArray), (1, int .i64 1), (2, Value.agg ([int .i64 f, int .i64 l]).toArray), (3, Value.bool (decide (0 < (m : Int))))]) rfl (fun w => by first | rfl | kernel_rfl) (v := .agg ([int .i64 t, int .i64 l, int .i64 1, int .i64 f, int .i64 l, Value.bool (decide (0 < (m : Int)))]).toArray)) ?_
 iterate 6 refine gx ?_
 exact qu rfl agg149 size149 rfl (vs := [int .i64 t, int .i64 l, int .i64 1, int .i64 f, int .i64 l, Value.bool (decide (0 < (m : Int)))]) rfl (qQ (i := 0) (ent := ⟨g2, 149, [int .i64 t, int .i64 l, int .i64 1, int .i64 f, int .i64 l, Value.bool (decide (0 < (m : Int)))], 6⟩) rfl rfl rfl) (fun w hs => ⟨rfl, ((hs.drop (by assumption)).drop (by assumption))⟩)
theorem describe2 (t f l : Int) (A : Option Addr) (m c : Nat) (w : World) : Calls Tryz.prog 100 #[.agg ([int .i64 2, int .i64 t, int .i64 f, int .i64 l, slice A m c]).toArray] w fun e w' => e = .returned (.agg ([int .i64 t, int .i64 (m : Int), int .i64 2, int .i64 0, int .i64 0, Value.bool (decide (¬ (f = 0 ∧ l = 0)))]).toArray) ∧ St w [] w' := by
 refine qL (args := [.agg ([int .i64 2, int .i64 t, int .i64 f, int .i64 l, slice A m c]).toArray]) Tryz.func100 rfl Tryz.ntmps100 (by simp) ?_
 refine qC [0] ?_
 iterate 2 refine gx ?_
 refine qv (fun g1 hg1 => ?_)
 refine qc (fun g2 hg2 => ?_)
 iterate 12 refine gx ?_
 refine qB (qA rfl) rfl (qU (qo rfl rfl rfl) (by decide)) ?_
 iterate 3 refine gx ?_
 refine qW rfl ?_
 iterate 2 refine gx ?_
 refine qB (qA rfl) rfl (qP (qo rfl rfl rfl) rfl) ?_
 iterate 3 refine gx ?_
 refine qC [1, 2, 22] ?_
 refine qd rfl ?_
 iterate 7 refine gx ?_
 refine qB (qA rfl) rfl (qm rfl (vs := [(0, int .i64 t), (1, int .i64 (m : Int))]) rfl (fun w => by first | rfl | kernel_rfl) (v := .agg ([int .i64 t, int .i64 (m : Int)]).toArray)) ?_
 iterate 2 refine gx ?_
 by_cases c1 : f ≠ 0
 ·refine qB (qA rfl) rfl (qP (qs rfl rfl rfl) c1) ?_
  iterate 5 refine gx ?_
  refine qB (qA rfl) rfl (qm rfl (vs := [(0, Value.agg ([int .i64 t, int .i64 (m : Int)]).toArray), (1, int .i64 2), (3, Value.bool true)]) rfl (fun w => by first | rfl | kernel_rfl) (v := .agg ([int .i64 t, int .i64 (m : Int), int .i64 2, int .i64 0, int .i64 0, Value.bool true]).toArray)) ?_
  iterate 6 refine gx ?_
  exact qu rfl agg149 size149 rfl (vs := [int .i64 t, int .i64 (m : Int), int .i64 2, int .i64 0, int .i64 0, Value.bool true]) rfl (qQ (i := 0) (ent := ⟨g2, 149, [int .i64 t, int .i64 (m : Int), int .i64 2, int .i64 0, int .i64 0, Value.bool true], 6⟩) rfl rfl rfl) (fun w hs => ⟨by rw [decide_eq_true (show ¬ (f = 0 ∧ l = 0) by omega)], ((hs.drop (by assumption)).drop (by assumption))⟩)
 ·refine qB (qA rfl) rfl (qU (qs rfl rfl rfl) c1) ?_
  iterate 5 refine gx ?_
  refine qB (qA rfl) rfl (qm rfl (vs := [(0, Value.agg ([int .i64 t, int .i64 (m : Int)]).toArray), (1, int .i64 2), (3, Value.bool (decide (l ≠ 0)))]) rfl (fun w => by first | rfl | kernel_rfl) (v := .agg ([int .i64 t, int .i64 (m : Int), int .i64 2, int .i64 0, int .i64 0, Value.bool (decide (l ≠ 0))]).toArray)) ?_
  iterate 6 refine gx ?_
  exact qu rfl agg149 size149 rfl (vs := [int .i64 t, int .i64 (m : Int), int .i64 2, int .i64 0, int .i64 0, Value.bool (decide (l ≠ 0))]) rfl (qQ (i := 0) (ent := ⟨g2, 149, [int .i64 t, int .i64 (m : Int), int .i64 2, int .i64 0, int .i64 0, Value.bool (decide (l ≠ 0))], 6⟩) rfl rfl rfl) (fun w hs => ⟨by rw [show decide (l ≠ 0) = decide (¬ (f = 0 ∧ l = 0)) from decide_eq_decide.2 (by omega)], ((hs.drop (by assumption)).drop (by assumption))⟩)
theorem describe0 (k t f l : Int) (A : Option Addr) (m c : Nat) (h1 : ¬ k = 1) (h2 : ¬ k = 2) (w : World) : Calls Tryz.prog 100 #[.agg ([int .i64 k, int .i64 t, int .i64 f, int .i64 l, slice A m c]).toArray] w fun e w' => e = .returned (.agg ([int .i64 0, int .i64 0, int .i64 0, int .i64 0, int .i64 0, Value.bool false]).toArray) ∧ St w [] w' := by
 refine qL (args := [.agg ([int .i64 k, int .i64 t, int .i64 f, int .i64 l, slice A m c]).toArray]) Tryz.func100 rfl Tryz.ntmps100 (by simp) ?_
 refine qC [0] ?_
 iterate 2 refine gx ?_
 refine qv (fun g1 hg1 => ?_)
 refine qc (fun g2 hg2 => ?_)
 iterate 12 refine gx ?_
 refine qB (qA rfl) rfl (qU (qo rfl rfl rfl) h1) ?_
 iterate 3 refine gx ?_
 refine qW rfl ?_
 iterate 2 refine gx ?_
 refine qB (qA rfl) rfl (qU (qo rfl rfl rfl) h2) ?_
 iterate 3 refine gx ?_
 refine qC [1, 2, 22] ?_
 refine qW rfl ?_
 iterate 5 refine gx ?_
 refine qB (qA rfl) rfl (qm rfl (vs := []) rfl (fun w => by first | rfl | kernel_rfl) (v := .agg ([int .i64 0, int .i64 0, int .i64 0, int .i64 0, int .i64 0, Value.bool false]).toArray)) ?_
 iterate 4 refine gx ?_
 exact qu rfl agg149 size149 rfl (vs := [int .i64 0, int .i64 0, int .i64 0, int .i64 0, int .i64 0, Value.bool false]) rfl (qQ (i := 0) (ent := ⟨g2, 149, [int .i64 0, int .i64 0, int .i64 0, int .i64 0, int .i64 0, Value.bool false], 6⟩) rfl rfl rfl) (fun w hs => ⟨rfl, ((hs.drop (by assumption)).drop (by assumption))⟩)
/-
 Contracts of package command: Check.
-/
theorem agg147 : (isAgg 147).run Tryz.prog = fun w => .ok false w := isAgg_no Tryz.underlying147 rfl
theorem agg4 : (isAgg 4).run Tryz.prog = fun w => .ok false w := isAgg_no Tryz.underlying4 rfl
theorem agg61 : (isAgg 61).run Tryz.prog = fun w => .ok true w := isAgg_yes Tryz.underlying61 rfl
theorem enters100 : Enters Tryz.prog 100 := ⟨_, Tryz.func100, by kernel_rfl, by kernel_rfl⟩
theorem enters101 : Enters Tryz.prog 101 := ⟨_, Tryz.func101, by kernel_rfl, by kernel_rfl⟩
theorem size147 : (Tryz.prog.info? 147).map (·.size) = some 1 := by kernel_rfl
theorem size4 : (Tryz.prog.info? 4).map (·.size) = some 1 := by kernel_rfl
theorem size61 : (Tryz.prog.info? 61).map (·.size) = some 5 := by kernel_rfl
instance : AgN Tryz.prog 147 := ⟨agg147⟩
instance : AgY Tryz.prog 61 := ⟨agg61⟩
instance : Fld Tryz.prog 146 1 1 := ⟨⟨_, _, _, Tryz.underlying146, rfl, size3, rfl⟩⟩
instance : Fld Tryz.prog 149 0 0 := ⟨⟨_, _, _, Tryz.underlying149, rfl, size146, rfl⟩⟩
instance : Fld Tryz.prog 149 1 2 := ⟨⟨_, _, _, Tryz.underlying149, rfl, size147, rfl⟩⟩
instance : Fld Tryz.prog 149 2 3 := ⟨⟨_, _, _, Tryz.underlying149, rfl, size70, rfl⟩⟩
instance : Fld Tryz.prog 149 3 5 := ⟨⟨_, _, _, Tryz.underlying149, rfl, size4, rfl⟩⟩
instance : Siz Tryz.prog 61 5 := ⟨size61⟩
def codeV (k t f l : Int) (m : Nat) : Int :=
 if k = 1 then (if l = 0 then 7 else if m = 0 ∧ vld t l ∧ vld f l then 0 else 2)
 else if k = 2 then (if m = 0 then 7 else if f = 0 ∧ l = 0 ∧ vld t m then 0 else 2) else 11
def lenV (k l : Int) (m : Nat) : Int := if k = 1 then l else m
theorem check1 (t f l : Int) (A : Option Addr) (m c : Nat) (bt : -9223372036854775808 ≤ t ∧ t ≤ 9223372036854775807) (bf : -9223372036854775808 ≤ f ∧ f ≤ 9223372036854775807) (bl : -9223372036854775808 ≤ l ∧ l ≤ 9223372036854775807) (w : World) : Calls Tryz.prog 67 #[.agg ([int .i64 1, int .i64 t, int .i64 f, int .i64 l, slice A m c]).toArray] w fun e w' => e = .returned (.int .i64 (codeV 1 t f l m)) ∧ St w [] w' := by
 refine qL (args := [.agg ([int .i64 1, int .i64 t, int .i64 f, int .i64 l, slice A m c]).toArray]) Tryz.func67 rfl Tryz.ntmps67 (by simp) ?_
 refine qC [0] ?_
 iterate 2 refine gx ?_
 refine qv (fun g1 hg1 => ?_)
 iterate 6 refine gx ?_
 refine qM (qA rfl) rfl enters100 rfl rfl (v := .agg ([int .i64 t, int .i64 l, int .i64 1, int .i64 f, int .i64 l, Value.bool (decide ((0 : Int) < (m : Int)))]).toArray) (fun w hs => describe1 t f l A m c w) ?_
 refine qc (fun g2 hg2 => ?_)
 iterate 9 refine gx ?_
 refine qB (qA rfl) rfl (qU (qo rfl rfl rfl) (by decide)) ?_
 iterate 3 refine gx ?_
 refine qC [2, 3, 6] ?_
 refine qW rfl ?_
 iterate 9 refine gx ?_
 refine qX rfl (fun cl => ?_) (fun cl => ?_)
 ·iterate 8 refine gx ?_
  exact qK rfl rfl (fun w hs => ⟨ret_i (by unfold codeV; (repeat' split) <;> first | rfl | (exfalso; (try unfold vld at *); omega)), ((hs.drop (by assumption)).drop (by assumption))⟩)
 ·iterate 3 refine gx ?_
  by_cases cm : (0 : Int) < (m : Int)
  ·refine qB (qA rfl) rfl (qP (qS rfl agg4 rfl (qZ (i := 0) (ent := ⟨g2, 149, [int .i64 t, int .i64 l, int .i64 1, int .i64 f, int .i64 l, Value.bool (decide ((0 : Int) < (m : Int)))], 6⟩) (off := 5) rfl rfl (by exact rfl))) cm) ?_
   iterate 15 refine gx ?_
   refine qC [2, 15] ?_
   refine qd rfl ?_
   iterate 8 refine gx ?_
   exact qK rfl rfl (fun w hs => ⟨ret_i (by unfold codeV; (repeat' split) <;> first | rfl | (exfalso; (try unfold vld at *); omega)), ((hs.drop (by assumption)).drop (by assumption))⟩)
  ·refine qB (qA rfl) rfl (qU (qS rfl agg4 rfl (qZ (i := 0) (ent := ⟨g2, 149, [int .i64 t, int .i64 l, int .i64 1, int .i64 f, int .i64 l, Value.bool (decide ((0 : Int) < (m : Int)))], 6⟩) (off := 5) rfl rfl (by exact rfl))) cm) ?_
   iterate 2 refine gx ?_
   refine qB (qJ rfl rfl rfl) rfl (qg rfl agg146 size146 rfl (vs := [int .i64 t, int .i64 l]) rfl (Row.part (i := 0) (ent := ⟨g2, 149, [int .i64 t, int .i64 l, int .i64 1, int .i64 f, int .i64 l, Value.bool (decide ((0 : Int) < (m : Int)))], 6⟩) rfl rfl rfl)) ?_
   by_cases ct : vld t l
   ·refine qM (qJ rfl rfl rfl) rfl enters101 rfl rfl (v := .bool true) (fun w hs => (tvalid_c t l (by omega) (by omega) w).mono fun e w' h => by rw [decide_eq_true (p := vld t l) ct] at h; exact h) ?_
    iterate 4 refine gx ?_
    refine qB (qJ rfl rfl rfl) rfl (qg rfl agg70 size70 rfl (vs := [int .i64 f, int .i64 l]) rfl (Row.part (i := 0) (ent := ⟨g2, 149, [int .i64 t, int .i64 l, int .i64 1, int .i64 f, int .i64 l, Value.bool (decide ((0 : Int) < (m : Int)))], 6⟩) rfl rfl rfl)) ?_
    by_cases cf : vld f l
    ·refine qM (qJ rfl rfl rfl) rfl enters30 rfl rfl (v := .bool true) (fun w hs => (valid_c f l (by omega) (by omega) w).mono fun e w' h => by rw [decide_eq_true (p := vld f l) cf] at h; exact h) ?_
     iterate 5 refine gx ?_
     refine qC [2, 15] ?_
     refine qW rfl ?_
     iterate 9 refine gx ?_
     exact qK rfl rfl (fun w hs => ⟨ret_i (by unfold codeV; (repeat' split) <;> first | rfl | (exfalso; (try unfold vld at *); omega)), ((hs.drop (by assumption)).drop (by assumption))⟩)
    ·refine qM (qJ rfl rfl rfl) rfl enters30 rfl rfl (v := .bool false) (fun w hs => (valid_c f l (by omega) (by omega) w).mono fun e w' h => by rw [decide_eq_false (p := vld f l) cf] at h; exact h) ?_
     iterate 5 refine gx ?_
     refine qC [2, 15] ?_
     refine qd rfl ?_
     iterate 8 refine gx ?_
     exact qK rfl rfl (fun w hs => ⟨ret_i (by unfold codeV; (repeat' split) <;> first | rfl | (exfalso; (try unfold vld at *); omega)), ((hs.drop (by assumption)).drop (by assumption))⟩)
   ·refine qM (qJ rfl rfl rfl) rfl enters101 rfl rfl (v := .bool false) (fun w hs => (tvalid_c t l (by omega) (by omega) w).mono fun e w' h => by rw [decide_eq_false (p := vld t l) ct] at h; exact h) ?_
    iterate 11 refine gx ?_
    refine qC [2, 15] ?_
    refine qd rfl ?_
    iterate 8 refine gx ?_
    exact qK rfl rfl (fun w hs => ⟨ret_i (by unfold codeV; (repeat' split) <;> first | rfl | (exfalso; (try unfold vld at *); omega)), ((hs.drop (by assumption)).drop (by assumption))⟩)
theorem check2 (t f l : Int) (A : Option Addr) (m c : Nat) (hmr : m ≤ 9223372036854775807) (bt : -9223372036854775808 ≤ t ∧ t ≤ 9223372036854775807) (bf : -9223372036854775808 ≤ f ∧ f ≤ 9223372036854775807) (bl : -9223372036854775808 ≤ l ∧ l ≤ 9223372036854775807) (w : World) : Calls Tryz.prog 67 #[.agg ([int .i64 2, int .i64 t, int .i64 f, int .i64 l, slice A m c]).toArray] w fun e w' => e = .returned (.int .i64 (codeV 2 t f l m)) ∧ St w [] w' := by
 refine qL (args := [.agg ([int .i64 2, int .i64 t, int .i64 f, int .i64 l, slice A m c]).toArray]) Tryz.func67 rfl Tryz.ntmps67 (by simp) ?_
 refine qC [0] ?_
 iterate 2 refine gx ?_
 refine qv (fun g1 hg1 => ?_)
 iterate 6 refine gx ?_
 refine qM (qA rfl) rfl enters100 rfl rfl (v := .agg ([int .i64 t, int .i64 (m : Int), int .i64 2, int .i64 0, int .i64 0, Value.bool (decide (¬ (f = 0 ∧ l = 0)))]).toArray) (fun w hs => describe2 t f l A m c w) ?_
 refine qc (fun g2 hg2 => ?_)
 iterate 9 refine gx ?_
 refine qB (qA rfl) rfl (qU (qo rfl rfl rfl) (by decide)) ?_
 iterate 3 refine gx ?_
 refine qC [2, 3, 6] ?_
 refine qW rfl ?_
 iterate 9 refine gx ?_
 refine qX rfl (fun cl => ?_) (fun cl => ?_)
 ·iterate 8 refine gx ?_
  exact qK rfl rfl (fun w hs => ⟨ret_i (by unfold codeV; (repeat' split) <;> first | rfl | (exfalso; (try unfold vld at *); omega)), ((hs.drop (by assumption)).drop (by assumption))⟩)
 ·iterate 3 refine gx ?_
  by_cases cm : ¬ (f = 0 ∧ l = 0)
  ·refine qB (qA rfl) rfl (qP (qS rfl agg4 rfl (qZ (i := 0) (ent := ⟨g2, 149, [int .i64 t, int .i64 (m : Int), int .i64 2, int .i64 0, int .i64 0, Value.bool (decide (¬ (f = 0 ∧ l = 0)))], 6⟩) (off := 5) rfl rfl (by exact rfl))) cm) ?_
   iterate 15 refine gx ?_
   refine qC [2, 15] ?_
   refine qd rfl ?_
   iterate 8 refine gx ?_
   exact qK rfl rfl (fun w hs => ⟨ret_i (by unfold codeV; (repeat' split) <;> first | rfl | (exfalso; (try unfold vld at *); omega)), ((hs.drop (by assumption)).drop (by assumption))⟩)
  ·refine qB (qA rfl) rfl (qU (qS rfl agg4 rfl (qZ (i := 0) (ent := ⟨g2, 149, [int .i64 t, int .i64 (m : Int), int .i64 2, int .i64 0, int .i64 0, Value.bool (decide (¬ (f = 0 ∧ l = 0)))], 6⟩) (off := 5) rfl rfl (by exact rfl))) cm) ?_
   iterate 2 refine gx ?_
   refine qB (qJ rfl rfl rfl) rfl (qg rfl agg146 size146 rfl (vs := [int .i64 t, int .i64 (m : Int)]) rfl (Row.part (i := 0) (ent := ⟨g2, 149, [int .i64 t, int .i64 (m : Int), int .i64 2, int .i64 0, int .i64 0, Value.bool (decide (¬ (f = 0 ∧ l = 0)))], 6⟩) rfl rfl rfl)) ?_
   by_cases ct : vld t (m : Int)
   ·refine qM (qJ rfl rfl rfl) rfl enters101 rfl rfl (v := .bool true) (fun w hs => (tvalid_c t (m : Int) (by omega) (by omega) w).mono fun e w' h => by rw [decide_eq_true (p := vld t (m : Int)) ct] at h; exact h) ?_
    iterate 4 refine gx ?_
    refine qB (qJ rfl rfl rfl) rfl (qg rfl agg70 size70 rfl (vs := [int .i64 0, int .i64 0]) rfl (Row.part (i := 0) (ent := ⟨g2, 149, [int .i64 t, int .i64 (m : Int), int .i64 2, int .i64 0, int .i64 0, Value.bool (decide (¬ (f = 0 ∧ l = 0)))], 6⟩) rfl rfl rfl)) ?_
    by_cases cf : vld 0 0
    ·refine qM (qJ rfl rfl rfl) rfl enters30 rfl rfl (v := .bool true) (fun w hs => (valid_c 0 0 (by omega) (by omega) w).mono fun e w' h => by rw [decide_eq_true (p := vld 0 0) cf] at h; exact h) ?_
     iterate 5 refine gx ?_
     refine qC [2, 15] ?_
     refine qW rfl ?_
     iterate 9 refine gx ?_
     exact qK rfl rfl (fun w hs => ⟨ret_i (by unfold codeV; (repeat' split) <;> first | rfl | (exfalso; (try unfold vld at *); omega)), ((hs.drop (by assumption)).drop (by assumption))⟩)
    ·refine qM (qJ rfl rfl rfl) rfl enters30 rfl rfl (v := .bool false) (fun w hs => (valid_c 0 0 (by omega) (by omega) w).mono fun e w' h => by rw [decide_eq_false (p := vld 0 0) cf] at h; exact h) ?_
     iterate 5 refine gx ?_
     refine qC [2, 15] ?_
     refine qd rfl ?_
     iterate 8 refine gx ?_
     exact qK rfl rfl (fun w hs => ⟨ret_i (by unfold codeV; (repeat' split) <;> first | rfl | (exfalso; (try unfold vld at *); omega)), ((hs.drop (by assumption)).drop (by assumption))⟩)
   ·refine qM (qJ rfl rfl rfl) rfl enters101 rfl rfl (v := .bool false) (fun w hs => (tvalid_c t (m : Int) (by omega) (by omega) w).mono fun e w' h => by rw [decide_eq_false (p := vld t (m : Int)) ct] at h; exact h) ?_
    iterate 11 refine gx ?_
    refine qC [2, 15] ?_
    refine qd rfl ?_
    iterate 8 refine gx ?_
    exact qK rfl rfl (fun w hs => ⟨ret_i (by unfold codeV; (repeat' split) <;> first | rfl | (exfalso; (try unfold vld at *); omega)), ((hs.drop (by assumption)).drop (by assumption))⟩)
theorem check0 (k t f l : Int) (A : Option Addr) (m c : Nat) (h1 : ¬ k = 1) (h2 : ¬ k = 2) (w : World) : Calls Tryz.prog 67 #[.agg ([int .i64 k, int .i64 t, int .i64 f, int .i64 l, slice A m c]).toArray] w fun e w' => e = .returned (.int .i64 (codeV k t f l m)) ∧ St w [] w' := by
 refine qL (args := [.agg ([int .i64 k, int .i64 t, int .i64 f, int .i64 l, slice A m c]).toArray]) Tryz.func67 rfl Tryz.ntmps67 (by simp) ?_
 refine qC [0] ?_
 iterate 2 refine gx ?_
 refine qv (fun g1 hg1 => ?_)
 iterate 6 refine gx ?_
 refine qM (qA rfl) rfl enters100 rfl rfl (v := .agg ([int .i64 0, int .i64 0, int .i64 0, int .i64 0, int .i64 0, Value.bool false]).toArray) (fun w hs => describe0 k t f l A m c h1 h2 w) ?_
 refine qc (fun g2 hg2 => ?_)
 iterate 9 refine gx ?_
 refine qB (qA rfl) rfl (qP (qo rfl rfl rfl) rfl) ?_
 iterate 3 refine gx ?_
 refine qC [2, 3, 6] ?_
 refine qd rfl ?_
 iterate 8 refine gx ?_
 exact qK rfl rfl (fun w hs => ⟨ret_i (by unfold codeV; (repeat' split) <;> first | rfl | (exfalso; (try unfold vld at *); omega)), ((hs.drop (by assumption)).drop (by assumption))⟩)
theorem enters102 : Enters Tryz.prog 102 := ⟨_, Tryz.func102, by kernel_rfl, by kernel_rfl⟩
instance : AgY Tryz.prog 70 := ⟨agg70⟩
instance : Sli Tryz.prog 151 70 := ⟨Tryz.underlying151⟩
theorem ifmax (p q : Int) : (if p < q then q else p) = max p q := by omega
theorem ifmin (p q : Int) : (if q < p then q else p) = min p q := by omega
def inside_ (o l p n : Int) : Prop := o ≤ p ∧ p + n ≤ o + l
instance (o l p n : Int) : Decidable (inside_ o l p n) := by unfold inside_; infer_instance
def meets (o l p n : Int) : Prop := max o p < min (o + l) (p + n)
instance (o l p n : Int) : Decidable (meets o l p n) := by unfold meets; infer_instance
theorem target1 (t f l : Int) (A : Option Addr) (m c : Nat) (w : World) : Calls Tryz.prog 70 #[.agg ([int .i64 1, int .i64 t, int .i64 f, int .i64 l, slice A m c]).toArray] w fun e w' => e = .returned (.agg ([int .i64 t, int .i64 l]).toArray) ∧ St w [] w' := by
 refine qL (args := [.agg ([int .i64 1, int .i64 t, int .i64 f, int .i64 l, slice A m c]).toArray]) Tryz.func70 rfl Tryz.ntmps70 (by simp) ?_
 refine qC [0] ?_
 iterate 2 refine gx ?_
 refine qv (fun g1 hg1 => ?_)
 refine qc (fun g2 hg2 => ?_)
 iterate 5 refine gx ?_
 refine qM (qA rfl) rfl enters100 rfl rfl (v := .agg ([int .i64 t, int .i64 l, int .i64 1, int .i64 f, int .i64 l, Value.bool (decide ((0 : Int) < (m : Int)))]).toArray) (fun w hs => describe1 t f l A m c w) ?_
 refine qB (qA rfl) rfl (Gets.fieldN rfl Tryz.underlying149 rfl rfl agg146 size146 (vs := [int .i64 t, int .i64 l]) rfl) ?_
 refine qM (qA rfl) rfl enters103 rfl rfl (v := .agg ([int .i64 t, int .i64 l]).toArray) (fun w hs => bytes_c t l w) ?_
 iterate 4 refine gx ?_
 exact qu rfl agg70 size70 rfl (vs := [int .i64 t, int .i64 l]) rfl (qQ (i := 0) (ent := ⟨g2, 70, [int .i64 t, int .i64 l], 2⟩) rfl rfl rfl) (fun w hs => ⟨rfl, ((hs.drop (by assumption)).drop (by assumption))⟩)
theorem source1 (t f l : Int) (A : Option Addr) (m c : Nat) (w : World) : Calls Tryz.prog 68 #[.agg ([int .i64 1, int .i64 t, int .i64 f, int .i64 l, slice A m c]).toArray] w fun e w' => e = .returned (.tuple #[.agg ([int .i64 f, int .i64 l]).toArray, .bool true]) ∧ St w [] w' := by
 refine qL (args := [.agg ([int .i64 1, int .i64 t, int .i64 f, int .i64 l, slice A m c]).toArray]) Tryz.func68 rfl Tryz.ntmps68 (by simp) ?_
 refine qC [0] ?_
 iterate 2 refine gx ?_
 refine qv (fun g1 hg1 => ?_)
 refine qc (fun g2 hg2 => ?_)
 iterate 6 refine gx ?_
 refine qM (qA rfl) rfl enters100 rfl rfl (v := .agg ([int .i64 t, int .i64 l, int .i64 1, int .i64 f, int .i64 l, Value.bool (decide ((0 : Int) < (m : Int)))]).toArray) (fun w hs => describe1 t f l A m c w) ?_
 refine qc (fun g3 hg3 => ?_)
 iterate 4 refine gx ?_
 refine TC.mixS [⟨g3, 149, [int .i64 t, int .i64 l, int .i64 1, int .i64 f, int .i64 l, Value.bool (decide ((0 : Int) < (m : Int)))], 6⟩, ⟨g1, 61, [int .i64 1, int .i64 t, int .i64 f, int .i64 l, slice A m c], 5⟩] [⟨g2, 70, [int .i64 0, int .i64 0], 2⟩] (by kernel_rfl) [0, 1, 0, 1, 0, 4, 0] [0, 1, 2, 3, 4, 5, 6] [fun _ _ => True, fun _ _ => True, fun _ _ => True, fun _ _ => True, fun _ _ => True, fun _ _ => True, fun _ _ => True] (by kernel_rfl) (by kernel_rfl) (perm_pick (p := [0, 2, 1]) (by kernel_rfl) rfl) (qx (by assumption) zA) ?_
 refine gx ?_
 refine TR.gets (qA rfl) rfl (fun Z hZ => qg rfl agg70 size70 rfl (vs := [int .i64 f, int .i64 l]) rfl (Row.part (i := 0) (ent := ⟨g3, 149, [int .i64 t, int .i64 l, int .i64 1, int .i64 f, int .i64 l, Value.bool (decide ((0 : Int) < (m : Int)))], 6⟩) rfl rfl rfl)) ?_
 iterate 2 refine gx ?_
 refine zK (qA rfl) rfl (fun _ => qP (qo rfl rfl rfl) rfl) ?_
 refine TR.storeW (qA rfl) rfl rfl size70 rfl (vs := [int .i64 f, int .i64 l]) rfl rfl (by simp [Value.oneCell']) (i := 0) (ent := ⟨g2, 70, [int .i64 0, int .i64 0], 2⟩) rfl rfl rfl (D' := [⟨g2, 70, [int .i64 f, int .i64 l], 2⟩]) rfl (qx (by assumption) zA) ?_
 iterate 4 refine gx ?_
 exact TE.ret2C rfl agg70 size70 rfl rfl (vs := [int .i64 f, int .i64 l]) rfl (qQ (i := 2) (ent := ⟨g2, 70, [int .i64 f, int .i64 l], 2⟩) rfl rfl rfl) (fun w hs => ⟨rfl, (((hs.drop (by assumption)).drop (by assumption)).drop (by assumption))⟩)
theorem target2 (t f l : Int) (A : Option Addr) (m c : Nat) (w : World) : Calls Tryz.prog 70 #[.agg ([int .i64 2, int .i64 t, int .i64 f, int .i64 l, slice A m c]).toArray] w fun e w' => e = .returned (.agg ([int .i64 t, int .i64 (m : Int)]).toArray) ∧ St w [] w' := by
 refine qL (args := [.agg ([int .i64 2, int .i64 t, int .i64 f, int .i64 l, slice A m c]).toArray]) Tryz.func70 rfl Tryz.ntmps70 (by simp) ?_
 refine qC [0] ?_
 iterate 2 refine gx ?_
 refine qv (fun g1 hg1 => ?_)
 refine qc (fun g2 hg2 => ?_)
 iterate 5 refine gx ?_
 refine qM (qA rfl) rfl enters100 rfl rfl (v := .agg ([int .i64 t, int .i64 (m : Int), int .i64 2, int .i64 0, int .i64 0, Value.bool (decide (¬ (f = 0 ∧ l = 0)))]).toArray) (fun w hs => describe2 t f l A m c w) ?_
 refine qB (qA rfl) rfl (Gets.fieldN rfl Tryz.underlying149 rfl rfl agg146 size146 (vs := [int .i64 t, int .i64 (m : Int)]) rfl) ?_
 refine qM (qA rfl) rfl enters103 rfl rfl (v := .agg ([int .i64 t, int .i64 (m : Int)]).toArray) (fun w hs => bytes_c t (m : Int) w) ?_
 iterate 4 refine gx ?_
 exact qu rfl agg70 size70 rfl (vs := [int .i64 t, int .i64 (m : Int)]) rfl (qQ (i := 0) (ent := ⟨g2, 70, [int .i64 t, int .i64 (m : Int)], 2⟩) rfl rfl rfl) (fun w hs => ⟨rfl, ((hs.drop (by assumption)).drop (by assumption))⟩)
theorem source2 (t f l : Int) (A : Option Addr) (m c : Nat) (w : World) : Calls Tryz.prog 68 #[.agg ([int .i64 2, int .i64 t, int .i64 f, int .i64 l, slice A m c]).toArray] w fun e w' => e = .returned (.tuple #[.agg ([int .i64 0, int .i64 0]).toArray, .bool false]) ∧ St w [] w' := by
 refine qL (args := [.agg ([int .i64 2, int .i64 t, int .i64 f, int .i64 l, slice A m c]).toArray]) Tryz.func68 rfl Tryz.ntmps68 (by simp) ?_
 refine qC [0] ?_
 iterate 2 refine gx ?_
 refine qv (fun g1 hg1 => ?_)
 refine qc (fun g2 hg2 => ?_)
 iterate 6 refine gx ?_
 refine qM (qA rfl) rfl enters100 rfl rfl (v := .agg ([int .i64 t, int .i64 (m : Int), int .i64 2, int .i64 0, int .i64 0, Value.bool (decide (¬ (f = 0 ∧ l = 0)))]).toArray) (fun w hs => describe2 t f l A m c w) ?_
 refine qc (fun g3 hg3 => ?_)
 iterate 4 refine gx ?_
 refine TC.mixS [⟨g3, 149, [int .i64 t, int .i64 (m : Int), int .i64 2, int .i64 0, int .i64 0, Value.bool (decide (¬ (f = 0 ∧ l = 0)))], 6⟩, ⟨g1, 61, [int .i64 2, int .i64 t, int .i64 f, int .i64 l, slice A m c], 5⟩] [⟨g2, 70, [int .i64 0, int .i64 0], 2⟩] (by kernel_rfl) [0, 1, 0, 1, 0, 4, 0] [0, 1, 2, 3, 4, 5, 6] [fun _ _ => True, fun _ _ => True, fun _ _ => True, fun _ _ => True, fun _ _ => True, fun _ _ => True, fun _ _ => True] (by kernel_rfl) (by kernel_rfl) (perm_pick (p := [0, 2, 1]) (by kernel_rfl) rfl) (qx (by assumption) zA) ?_
 refine gx ?_
 refine TR.gets (qA rfl) rfl (fun Z hZ => qg rfl agg70 size70 rfl (vs := [int .i64 0, int .i64 0]) rfl (Row.part (i := 0) (ent := ⟨g3, 149, [int .i64 t, int .i64 (m : Int), int .i64 2, int .i64 0, int .i64 0, Value.bool (decide (¬ (f = 0 ∧ l = 0)))], 6⟩) rfl rfl rfl)) ?_
 iterate 2 refine gx ?_
 refine zK (qA rfl) rfl (fun _ => qU (qo rfl rfl rfl) (by decide)) ?_
 refine TR.storeW (qA rfl) rfl rfl size70 rfl (vs := [int .i64 0, int .i64 0]) rfl rfl (by simp [Value.oneCell']) (i := 0) (ent := ⟨g2, 70, [int .i64 0, int .i64 0], 2⟩) rfl rfl rfl (D' := [⟨g2, 70, [int .i64 0, int .i64 0], 2⟩]) rfl (qx (by assumption) zA) ?_
 iterate 4 refine gx ?_
 exact TE.ret2C rfl agg70 size70 rfl rfl (vs := [int .i64 0, int .i64 0]) rfl (qQ (i := 2) (ent := ⟨g2, 70, [int .i64 0, int .i64 0], 2⟩) rfl rfl rfl) (fun w hs => ⟨rfl, (((hs.drop (by assumption)).drop (by assumption)).drop (by assumption))⟩)
theorem contains1 {w : World} (o l p n : Int) (ho : -9223372036854775808 ≤ o + l ∧ o + l ≤ 9223372036854775807) (hp : -9223372036854775808 ≤ p + n ∧ p + n ≤ 9223372036854775807) (b : Nat) (hb : b < w.heap.size) (hrow : ∀ (j : Nat) (u : Value), [int .i64 p, int .i64 n][j]? = some u → w.cell? ⟨b, 0 + j, none⟩ = some u) : Calls Tryz.prog 69 #[.agg ([int .i64 o, int .i64 l]).toArray, .slice (some ⟨b, 0, none⟩) 1 1] w fun e w' => e = .returned (.bool (decide (inside_ o l p n))) ∧ St w [] w' := by
 refine qL (args := [.agg ([int .i64 o, int .i64 l]).toArray, .slice (some ⟨b, 0, none⟩) 1 1]) Tryz.func69 rfl Tryz.ntmps69 (by simp) ?_
 refine qC [0, 1] ?_
 iterate 2 refine gx ?_
 refine qv (fun g1 hg1 => ?_)
 iterate 12 refine gx ?_
 refine qr (ι := Nat) (fun i => [(2, .pointer (some ⟨g1, 0, none⟩)), (7, .slice (some ⟨b, 0, none⟩) 1 1), (8, .int .i64 1), (9, .int .i64 (i : Int))]) (fun i => [⟨g1, 70, [int .i64 o, int .i64 l], 2⟩]) (fun i => 1 - i) (fun i => i ≤ 1 ∧ (i = 1 → inside_ o l p n)) 0 ⟨by omega, by intro h; cases h⟩ (qI (i := 2) rfl (qT (i := 7) rfl rfl (by first | omega | (dsimp only; omega) | rfl) (by first | omega | (dsimp only; omega) | rfl) (qH (i := 8) rfl (by first | omega | rfl) (qH (i := 9) rfl (by first | omega | rfl) (qN))))) (fun w h => h) (fun i hC0 => ?_)
 obtain ⟨hC0, hC1⟩ := hC0
 iterate 6 refine gx ?_
 refine qX rfl (fun hq0 => ?_) (fun hq0 => ?_)
 ·obtain rfl : i = 0 := by omega
  iterate 6 refine gx ?_
  refine qB (qA rfl) rfl (ql rfl Tryz.underlying151 size70 rfl rfl (i := 0) (by rfl) (by omega) (off' := 0) (by omega)) ?_
  refine qB (qA rfl) rfl (qg rfl agg70 size70 rfl rfl (zS hrow hb (qE (by show g1 ≠ b; omega) qF))) ?_
  refine qc (fun g2 hg2 => ?_)
  iterate 4 refine gx ?_
  refine qy (by kernel_rfl) [0, 1, 0, 1, 0, 0, 1, 1, 1, 1, 0, 0] rfl (by kernel_rfl) ?_
  iterate 4 refine gx ?_
  by_cases c1 : p < o
  ·refine qG (qA rfl) rfl (fun _ => qP (zC rfl rfl rfl) c1) ?_
   refine gx ?_
   refine zI rfl rfl rfl rfl rfl ?_
   refine zI rfl rfl rfl rfl rfl ?_
   refine zI rfl rfl rfl rfl rfl ?_
   refine zI rfl rfl rfl rfl rfl ?_
   refine zF rfl rfl rfl rfl rfl ?_
   iterate 3 refine gx ?_
   refine qC [2, 7, 8, 9, 24] ?_
   refine qd rfl ?_
   iterate 11 refine gx ?_
   exact qK rfl rfl (fun w hs => ⟨dec_f (by unfold inside_ at *; omega), ((hs.drop (by assumption)).drop (by assumption))⟩)
  ·refine qG (qA rfl) rfl (fun _ => qU (zC rfl rfl rfl) c1) ?_
   iterate 2 refine gx ?_
   refine zM (qJ rfl rfl rfl) rfl enters102 rfl rfl (v := .int .i64 (p + n)) (fun w hs => end_c p n (by omega) w) ?_
   refine gx ?_
   refine zM (qJ rfl rfl rfl) rfl enters102 rfl rfl (v := .int .i64 (o + l)) (fun w hs => end_c o l (by omega) w) ?_
   by_cases c2 : (o + l) < (p + n)
   ·refine qG (qJ rfl rfl rfl) rfl (fun _ => qP (zJ rfl rfl rfl) c2) ?_
    iterate 3 refine gx ?_
    refine qC [2, 7, 8, 9, 24] ?_
    refine qd rfl ?_
    iterate 11 refine gx ?_
    exact qK rfl rfl (fun w hs => ⟨dec_f (by unfold inside_ at *; omega), ((hs.drop (by assumption)).drop (by assumption))⟩)
   ·refine qG (qJ rfl rfl rfl) rfl (fun _ => qU (zJ rfl rfl rfl) c2) ?_
    iterate 3 refine gx ?_
    refine qC [2, 7, 8, 9, 24] ?_
    refine qW rfl ?_
    iterate 4 refine gx ?_
    refine qB (qA rfl) rfl (qR rfl rfl rfl (r := 1) (w64 (by omega) (by omega))) ?_
    iterate 2 refine gx ?_
    exact qj 1 (by omega) ⟨Nat.le_refl _, fun _ => by unfold inside_; omega⟩ (qI (i := 2) rfl (qT (i := 7) rfl rfl (by first | omega | (dsimp only; omega) | rfl) (by first | omega | (dsimp only; omega) | rfl) (qH (i := 8) rfl (by first | omega | rfl) (qH (i := 9) rfl (by first | omega | rfl) (qN))))) (fun w h => h.drop (by assumption))
 ·have hin := hC1 (by omega)
  iterate 11 refine gx ?_
  exact qK rfl rfl (fun w hs => ⟨dec_t (by unfold inside_ at *; omega), (hs.drop (by assumption))⟩)
theorem lies_row0 {w : World} {g t tot : Nat} {vs : List Value} (h : Ent.lies ⟨g, t, vs, tot⟩ w) (j : Nat) (u : Value) (hu : vs[j]? = some u) : w.cell? ⟨g, 0 + j, none⟩ = some u := by
 have h2 : (vs ++ [])[j]? = some u := by simpa using hu
 rw [Nat.zero_add]
 exact h.cell hu
end Go.Proofs.YtclmgfcdnokaiaaGreatDoor
