/-
  FormatCuts: the frame.
-/
import Derived.Test.YtclmgfcdnokaiaaFormatCuts7Pd
import Derived.Test.YtclmgfcdnokaiaaFormatCuts7Pb
import Derived.Test.YtclmgfcdnokaiaaFormatCuts7Pa
import Derived.Test.YtclmgfcdnokaiaaRows
import Derived.ProofKit
import Derived.LaidMore
import Derived.OpenShut
import Derived.ShutString
import Derived.ChangeOld
import Derived.Stop.Joined
import Derived.Carry
import Derived.Lib.SmallJoins
import Derived.Deep.Matrix
import Derived.SizedLaws
/-
  alive.
-/
namespace Go.Proofs.Ytclmgfcdnokaiaa
set_option linter.unusedVariables false
set_option linter.unusedSimpArgs false
open Go Go.RowKit
theorem enters10 : Enters Try.prog 10 := ⟨_, Try.func10, by kernel_rfl, by kernel_rfl⟩
theorem enters12 : Enters Try.prog 12 := ⟨_, Try.func12, by kernel_rfl, by kernel_rfl⟩
theorem enters15 : Enters Try.prog 15 := ⟨_, Try.func15, by kernel_rfl, by kernel_rfl⟩
theorem enters17 : Enters Try.prog 17 := ⟨_, Try.func17, by kernel_rfl, by kernel_rfl⟩
theorem mod_nat {x : Int} {L : Nat} (hL : 0 < L) : ∃ q : Nat, (q : Int) = x % (L : Int) ∧ q < L := by
  have h1 := Int.emod_nonneg x (show (L : Int) ≠ 0 by omega)
  have h2 := Int.emod_lt_of_pos x (show (0 : Int) < L by omega)
  exact ⟨(x % (L : Int)).toNat, by omega, by omega⟩
theorem encD_ge {o n : Int} {H1 H2 : List Int} {Cs : List CM} (h1 : H1.length = 32) (h2 : H2.length = 32) : 89 ≤ (encD o n H1 H2 Cs).length := by
  unfold encD
  rw [List.length_append, List.length_append, List.length_append, List.length_append, List.length_append, List.length_append, List.length_append, be1_len, be8_len, be8_len, be4_len, h1, h2, show magicB.length = 4 from rfl]
  omega
theorem cm_ok {w : World} {Cs : List CV} (hk : ∀ (i : Nat) (x : CV), Cs[i]? = some x → okK x) (hv : ∀ (i : Nat) (x : CV), Cs[i]? = some x → okV x) (hD : DatC w Cs) (hm : ∀ (i : Nat) (x : CV), Cs[i]? = some x → x.m ≤ 300) : ∀ c ∈ Cs.map cmC, okC c ∧ (c.B.length : Int) ≤ 4611686018427387903 := by
  intro c hc
  obtain ⟨x, hx, rfl⟩ := List.mem_map.1 hc
  obtain ⟨i, hi⟩ := List.mem_iff_getElem?.1 hx
  have h1 := hk i x hi
  have h2 := hv i x hi
  have h3 := (hD i x hi).1.1
  have h4 := hm i x hi
  unfold okK at h1
  unfold okV inR at h2
  obtain ⟨a1, a2, a3, a4, a5⟩ := h2
  refine ⟨⟨a1, ?_⟩, by show (x.B.length : Int) ≤ _; omega⟩
  rcases h1 with h1 | h1
  · exact .inl ⟨h1, a2, a3, List.eq_nil_of_length_eq_zero (by show x.B.length = 0; have : ¬ 0 < x.m := fun h => a4 ⟨h1, h⟩; omega)⟩
  · exact .inr ⟨h1, Decidable.byContradiction (fun h => a5 ⟨h1, .inl h⟩), Decidable.byContradiction (fun h => a5 ⟨h1, .inr h⟩)⟩
theorem beV_bytes (x n : Int) : Bytes (beV x n) := by
  intro z hz
  unfold beV beP at hz
  obtain ⟨i, _, rfl⟩ := List.mem_map.1 hz
  simp [IntKind.wrap, IntKind.signed, IntKind.bits]
  omega
theorem cm_bytes {w : World} {o n : Int} {H1 H2 : List Int} {Cs : List CV} (b1 : Bytes H1) (b2 : Bytes H2) (hD : DatC w Cs) : Bytes (encD o n H1 H2 (Cs.map cmC)) := by
  have hb : ∀ (x k : Int), Bytes (beV x k) := fun x k => beV_bytes x k
  have hc : ∀ l : List CV, (∀ x ∈ l, Bytes x.B) → Bytes (encCs (l.map cmC)) := by
    intro l
    induction l with
    | nil => intro _ x hx; cases hx
    | cons y l ih =>
      intro h
      show Bytes (encC (cmC y) ++ encCs (l.map cmC))
      refine Bytes.app ?_ (ih (fun z hz => h z (by simp [hz])))
      unfold encC
      refine Bytes.app (hb _ _) (Bytes.app (hb _ _) ?_)
      split
      · exact Bytes.app (hb _ _) (hb _ _)
      · exact Bytes.app (hb _ _) (h y (by simp))
  unfold encD
  exact Bytes.app magic_bytes (Bytes.app (hb _ _) (Bytes.app (hb _ _) (Bytes.app (hb _ _) (Bytes.app b1 (Bytes.app b2 (Bytes.app (hb _ _) (hc Cs (fun x hx => by obtain ⟨i, hi⟩ := List.mem_iff_getElem?.1 hx; exact (hD i x hi).2))))))))

theorem fdec_enc (o n : Int) (H1 H2 : List Int) (hH1 : H1.length = 32) (hH2 : H2.length = 32) (A : Option Addr) (m c : Nat) (Cs : List CV) (A2 : Option Addr) (c2 : Nat) (w : World) (hs2 : Src w A2 (encD o n H1 H2 (Cs.map cmC)).length .u8 (encD o n H1 H2 (Cs.map cmC))) (hc2 : (encD o n H1 H2 (Cs.map cmC)).length ≤ c2) (hc22 : c2 ≤ 9223372036854775807) (hL : (encD o n H1 H2 (Cs.map cmC)).length ≤ 100000) (hBy : Bytes (encD o n H1 H2 (Cs.map cmC))) (hinv : rDec (encD o n H1 H2 (Cs.map cmC)) = ⟨o, n, H1, H2, Cs.map cmC, ⟨(encD o n H1 H2 (Cs.map cmC)).length, 0, 0⟩⟩) (hm : Cs.length = m) : Calls Try.prog 15 #[.slice A2 (encD o n H1 H2 (Cs.map cmC)).length c2] w fun e w' => ∃ (A' : Option Addr) (c' : Nat) (Es : List CV) (He : List Ent), e = .returned (.tuple #[.agg ([Value.int .i64 o, Value.int .i64 n] ++ (H1.map (Value.int .u8) ++ (H2.map (Value.int .u8) ++ ([Value.slice A' m ((c'))])))).toArray, .agg ([Value.int .i64 0, Value.int .i64 0]).toArray]) ∧ (m ≤ c' ∧ c' ≤ 9223372036854775807) ∧ OwnD w.heap.size A' m Es He ∧ Es.map cmC = Cs.map cmC ∧ St w He w' := by
  have h := fdec_good (encD o n H1 H2 (Cs.map cmC)) A2 _ c2 w hs2 hBy hc2 hc22 hL (by rw [hinv])
  rw [hinv] at h
  dsimp only at h
  rw [List.length_map, hm] at h
  exact h

theorem e0_len : (encD 0 0 (List.replicate 32 (0 : Int)) (List.replicate 32 (0 : Int)) (([] : List CV).map cmC)).length = 89 := by
  have h1 := encD_ge (o := 0) (n := 0) (H1 := List.replicate 32 (0 : Int)) (H2 := List.replicate 32 (0 : Int)) (Cs := ([] : List CV).map cmC) (by simp) (by simp)
  have h2 := encD_len_le (o := 0) (n := 0) (H1 := List.replicate 32 (0 : Int)) (H2 := List.replicate 32 (0 : Int)) (Cs := []) (m := 0) (by simp) (by simp) rfl (fun i x hx => by simp at hx)
  omega
theorem z0 : inR 0 := ⟨by decide, by decide⟩
theorem num0 : NumsC [] := fun i x hx => by simp at hx
theorem dat0 {w : World} : DatC w [] := fun i x hx => by simp at hx
theorem wrong0 : wrongI 0 0 [] = 0 := wrongI_0 (fun i x hx => by simp at hx) ⟨z0, z0⟩ (fun i x hx => by simp at hx)
theorem inv0 : rDec (encD 0 0 (List.replicate 32 (0 : Int)) (List.replicate 32 (0 : Int)) (([] : List CV).map cmC)) = ⟨0, 0, List.replicate 32 (0 : Int), List.replicate 32 (0 : Int), ([] : List CV).map cmC, ⟨(encD 0 0 (List.replicate 32 (0 : Int)) (List.replicate 32 (0 : Int)) (([] : List CV).map cmC)).length, 0, 0⟩⟩ := rDec_inv z0 z0 (by simp) (by simp) (by decide) (fun c hc => by cases hc)
theorem byt0 : Bytes (encD 0 0 (List.replicate 32 (0 : Int)) (List.replicate 32 (0 : Int)) (([] : List CV).map cmC)) := by
  have hr : Bytes (List.replicate 32 (0 : Int)) := fun z hz => by rw [(List.mem_replicate.1 hz).2]; decide
  exact cm_bytes (w := default) hr hr dat0
def grfB : List Int := [71, 82, 70]
theorem grf_dec : (rDec grfB).s.co = 8 ∧ (rDec grfB).s.po = 3 := by decide +kernel
theorem grf_bytes : Bytes grfB := by intro x hx; unfold grfB at hx; simp only [List.mem_cons, List.not_mem_nil, or_false] at hx; omega

theorem fdec0 (A2 : Option Addr) (c2 : Nat) (w : World) (hs2 : Src w A2 (encD 0 0 (List.replicate 32 (0 : Int)) (List.replicate 32 (0 : Int)) (([] : List CV).map cmC)).length .u8 (encD 0 0 (List.replicate 32 (0 : Int)) (List.replicate 32 (0 : Int)) (([] : List CV).map cmC))) (hc2 : (encD 0 0 (List.replicate 32 (0 : Int)) (List.replicate 32 (0 : Int)) (([] : List CV).map cmC)).length ≤ c2) (hc22 : c2 ≤ 9223372036854775807) : Calls Try.prog 15 #[.slice A2 (encD 0 0 (List.replicate 32 (0 : Int)) (List.replicate 32 (0 : Int)) (([] : List CV).map cmC)).length c2] w fun e w' => ∃ y : Option Addr × Nat, e = .returned (.tuple #[.agg ([Value.int .i64 0, Value.int .i64 0] ++ ((List.replicate 32 (0 : Int)).map (Value.int .u8) ++ ((List.replicate 32 (0 : Int)).map (Value.int .u8) ++ ([Value.slice y.1 0 y.2])))).toArray, .agg ([Value.int .i64 0, Value.int .i64 0]).toArray]) ∧ y.2 ≤ 9223372036854775807 ∧ St w [] w' :=
  (fdec_enc 0 0 (List.replicate 32 (0 : Int)) (List.replicate 32 (0 : Int)) (by simp) (by simp) none 0 0 [] A2 c2 w hs2 hc2 hc22 (by have := e0_len; omega) byt0 inv0 rfl).mono fun e w' h => by
    obtain ⟨A', c', Es, He, he, hc, ho, hE, hw⟩ := h
    exact ⟨(A', c'), he, hc.2, St.left (H := []) hw ho.1⟩

set_option maxRecDepth 100000 in
set_option maxHeartbeats 2000000 in
theorem alive_c (w : World) : Calls Try.prog 9 #[] w fun e w' => e = .returned (.bool true) ∧ St w [] w' := by
  have he0 := e0_len
  refine calls_from (args := []) Try.func9 rfl Try.ntmps9 (by simp) ?_
  refine TC.pr [] ?_
  iterate 7 refine gx ?_
  refine TL.gets (Wants.none rfl) rfl (Gets.build rfl (vs := []) rfl (fun w => by first | rfl | kernel_rfl) (v := .agg ([Value.int .i64 0, Value.int .i64 0] ++ ((List.replicate 32 (0 : Int)).map (Value.int .u8) ++ ((List.replicate 32 (0 : Int)).map (Value.int .u8) ++ ([Value.slice none 0 0])))).toArray)) ?_
  refine TL.call (ι := Value × List Ent) (V := fun y => .tuple #[y.1, .int .i64 0]) (R := fun y => Own w.heap.size 5 .u8 y.1 (encD 0 0 (List.replicate 32 (0 : Int)) (List.replicate 32 (0 : Int)) (([] : List CV).map cmC)) y.2) (H' := fun y => [] ++ y.2) (Wants.none rfl) rfl enters10 rfl rfl (fun w hs => (fenc_yes 0 0 (List.replicate 32 (0 : Int)) (List.replicate 32 (0 : Int)) (by simp) (by simp) none 0 0 [] (by omega) (by omega) num0 (by omega) w ⟨rfl, .inl rfl⟩ dat0 wrong0).mono fun e w' ⟨v, He, he, ho, hw⟩ => ⟨(v, He), he, own_mono ho hs.size, st_call hs hw ho.new⟩) (fun y hR => ?_)
  obtain ⟨vE, HE⟩ := y
  dsimp only at hR ⊢
  have hE : Own w.heap.size 5 .u8 vE (encD 0 0 (List.replicate 32 (0 : Int)) (List.replicate 32 (0 : Int)) (([] : List CV).map cmC)) HE := hR
  obtain ⟨AE, cE, rfl, hcE, hdE⟩ := hE.form
  iterate 10 refine gx ?_
  refine TL.call (ι := Option Addr × Nat) (V := fun yd => .tuple #[.agg ([Value.int .i64 0, Value.int .i64 0] ++ ((List.replicate 32 (0 : Int)).map (Value.int .u8) ++ ((List.replicate 32 (0 : Int)).map (Value.int .u8) ++ ([Value.slice yd.1 0 yd.2])))).toArray, .agg ([Value.int .i64 0, Value.int .i64 0]).toArray]) (R := fun yd => yd.2 ≤ 9223372036854775807) (H' := fun _ => [] ++ HE) (Wants.none rfl) rfl enters15 rfl rfl (fun w hs => (fdec0 AE cE w (hE.srcOf (fun e he => hs.has e (by simp [he]))) hcE hdE).mono fun e w' ⟨y, he, hR, hw⟩ => ⟨y, he, hR, hs.call' hw⟩) (fun yd hyd => ?_)
  iterate 3 refine gx ?_
  refine TL.alloc (Wants.none rfl) rfl rfl zero25 (cs := [Value.int .i64 0, Value.int .i64 0, Value.int .u8 0, Value.int .u8 0, Value.int .u8 0, Value.int .u8 0, Value.int .u8 0, Value.int .u8 0, Value.int .u8 0, Value.int .u8 0, Value.int .u8 0, Value.int .u8 0, Value.int .u8 0, Value.int .u8 0, Value.int .u8 0, Value.int .u8 0, Value.int .u8 0, Value.int .u8 0, Value.int .u8 0, Value.int .u8 0, Value.int .u8 0, Value.int .u8 0, Value.int .u8 0, Value.int .u8 0, Value.int .u8 0, Value.int .u8 0, Value.int .u8 0, Value.int .u8 0, Value.int .u8 0, Value.int .u8 0, Value.int .u8 0, Value.int .u8 0, Value.int .u8 0, Value.int .u8 0, Value.int .u8 0, Value.int .u8 0, Value.int .u8 0, Value.int .u8 0, Value.int .u8 0, Value.int .u8 0, Value.int .u8 0, Value.int .u8 0, Value.int .u8 0, Value.int .u8 0, Value.int .u8 0, Value.int .u8 0, Value.int .u8 0, Value.int .u8 0, Value.int .u8 0, Value.int .u8 0, Value.int .u8 0, Value.int .u8 0, Value.int .u8 0, Value.int .u8 0, Value.int .u8 0, Value.int .u8 0, Value.int .u8 0, Value.int .u8 0, Value.int .u8 0, Value.int .u8 0, Value.int .u8 0, Value.int .u8 0, Value.int .u8 0, Value.int .u8 0, Value.int .u8 0, Value.int .u8 0, Value.slice none 0 0]) rfl (tot := 67) (by simp) (fun g1 hg1 => ?_)
  refine TL.al (fun g2 hg2 => ?_)
  refine TL.storeW (Wants.none rfl) rfl rfl size25 rfl (vs := [Value.int .i64 0, Value.int .i64 0] ++ ((List.replicate 32 (0 : Int)).map (Value.int .u8) ++ ((List.replicate 32 (0 : Int)).map (Value.int .u8) ++ ([Value.slice yd.1 0 yd.2])))) rfl (by simp []) (ones_app (by simp [Value.oneCell']) (ones_app ints_one (ones_app ints_one (by simp [Value.oneCell'])))) (i := 1) (ent := ⟨g1, 25, [Value.int .i64 0, Value.int .i64 0, Value.int .u8 0, Value.int .u8 0, Value.int .u8 0, Value.int .u8 0, Value.int .u8 0, Value.int .u8 0, Value.int .u8 0, Value.int .u8 0, Value.int .u8 0, Value.int .u8 0, Value.int .u8 0, Value.int .u8 0, Value.int .u8 0, Value.int .u8 0, Value.int .u8 0, Value.int .u8 0, Value.int .u8 0, Value.int .u8 0, Value.int .u8 0, Value.int .u8 0, Value.int .u8 0, Value.int .u8 0, Value.int .u8 0, Value.int .u8 0, Value.int .u8 0, Value.int .u8 0, Value.int .u8 0, Value.int .u8 0, Value.int .u8 0, Value.int .u8 0, Value.int .u8 0, Value.int .u8 0, Value.int .u8 0, Value.int .u8 0, Value.int .u8 0, Value.int .u8 0, Value.int .u8 0, Value.int .u8 0, Value.int .u8 0, Value.int .u8 0, Value.int .u8 0, Value.int .u8 0, Value.int .u8 0, Value.int .u8 0, Value.int .u8 0, Value.int .u8 0, Value.int .u8 0, Value.int .u8 0, Value.int .u8 0, Value.int .u8 0, Value.int .u8 0, Value.int .u8 0, Value.int .u8 0, Value.int .u8 0, Value.int .u8 0, Value.int .u8 0, Value.int .u8 0, Value.int .u8 0, Value.int .u8 0, Value.int .u8 0, Value.int .u8 0, Value.int .u8 0, Value.int .u8 0, Value.int .u8 0, Value.slice none 0 0], 67⟩) rfl rfl (by simp []) (H' := [⟨g2, 36, [Value.int .i64 0, Value.int .i64 0], 2⟩, ⟨g1, 25, [Value.int .i64 0, Value.int .i64 0] ++ ((List.replicate 32 (0 : Int)).map (Value.int .u8) ++ ((List.replicate 32 (0 : Int)).map (Value.int .u8) ++ ([Value.slice yd.1 0 yd.2]))), 67⟩] ++ HE) rfl ?_
  refine TL.storeW (Wants.none rfl) rfl rfl size36 rfl (vs := [Value.int .i64 0, Value.int .i64 0]) rfl (by simp []) (by simp [Value.oneCell']) (i := 0) (ent := ⟨g2, 36, [Value.int .i64 0, Value.int .i64 0], 2⟩) rfl rfl (by simp []) (H' := [⟨g2, 36, [Value.int .i64 0, Value.int .i64 0], 2⟩, ⟨g1, 25, [Value.int .i64 0, Value.int .i64 0] ++ ((List.replicate 32 (0 : Int)).map (Value.int .u8) ++ ((List.replicate 32 (0 : Int)).map (Value.int .u8) ++ ([Value.slice yd.1 0 yd.2]))), 67⟩] ++ HE) rfl ?_
  iterate 2 refine gx ?_
  refine TC.pr [0, 1, 2, 3, 4] ?_
  refine gx ?_
  refine TC.heap (H' := [Ent.mk g2 36 ([Value.int .i64 0, Value.int .i64 0]) 2, Ent.mk g1 25 ([Value.int .i64 0, Value.int .i64 0] ++ ((List.replicate 32 (0 : Int)).map (Value.int .u8) ++ ((List.replicate 32 (0 : Int)).map (Value.int .u8) ++ ([Value.slice yd.1 0 yd.2])))) 67]) (fun w h => St.left h hE.fr7) ?_
  refine gx ?_
  refine TL.buildSlice (Wants.none rfl) rfl rfl Try.underlying28 size5 zero5 rfl (by decide) (by decide) (cells := #[.int .u8 71, .int .u8 82, .int .u8 70]) (tot := 3) (by kernel_rfl) (cs := [.int .u8 71, .int .u8 82, .int .u8 70]) rfl rfl (fun g3 hg3 => ?_)
  refine TL.mark2 (Wants.none rfl) rfl rfl Try.underlying28 Try.underlying5 rfl (i := 0) (ent := ⟨g3, 5, [Value.int .u8 71, Value.int .u8 82, Value.int .u8 70], 3⟩) rfl rfl (W := grfB) rfl (by omega) (fun w1 hap hw1 hrw hgw => ?_)
  have hw1' : St w [⟨g2, 36, [Value.int .i64 0, Value.int .i64 0], 2⟩, ⟨g1, 25, [Value.int .i64 0, Value.int .i64 0] ++ ((List.replicate 32 (0 : Int)).map (Value.int .u8) ++ ((List.replicate 32 (0 : Int)).map (Value.int .u8) ++ ([Value.slice yd.1 0 yd.2]))), 67⟩] w1 := hw1
  have hM : Src w1 (some ⟨g3, 0, none⟩) 3 .u8 grfB := ⟨rfl, .inr ⟨g3, 0, rfl, hgw, hrw⟩⟩
  refine TL.call0 (Wants.none rfl) rfl enters15 rfl rfl (v := .tuple #[.agg ([Value.int .i64 0, Value.int .i64 0] ++ ((List.replicate 32 (0 : Int)).map (Value.int .u8) ++ ((List.replicate 32 (0 : Int)).map (Value.int .u8) ++ ([Value.slice none 0 0])))).toArray, .agg ([Value.int .i64 8, Value.int .i64 3]).toArray]) (fun w hs => (fdec_bad grfB (some ⟨g3, 0, none⟩) 3 3 w (hM.at_ hs (fun b hb => ne_nil)) grf_bytes (by omega) (by omega) (by omega) (by rw [grf_dec.1]; decide)).mono fun e w' h => by rw [grf_dec.1, grf_dec.2] at h; exact h) ?_
  have l1 := hw1'.has (⟨g2, 36, [Value.int .i64 0, Value.int .i64 0], 2⟩) (by simp)
  have l2 := hw1'.has (⟨g1, 25, [Value.int .i64 0, Value.int .i64 0] ++ ((List.replicate 32 (0 : Int)).map (Value.int .u8) ++ ((List.replicate 32 (0 : Int)).map (Value.int .u8) ++ ([Value.slice yd.1 0 yd.2]))), 67⟩) (by simp)
  have hn12 : g2 ≠ g1 := pairwise_ne hw1'.apart (i := 0) (j := 1) rfl rfl (by decide)
  refine TL.heap (H' := [⟨g2, 36, [Value.int .i64 0, Value.int .i64 0], 2⟩, ⟨g1, 25, [Value.int .i64 0, Value.int .i64 0] ++ ((List.replicate 32 (0 : Int)).map (Value.int .u8) ++ ((List.replicate 32 (0 : Int)).map (Value.int .u8) ++ ([Value.slice yd.1 0 yd.2]))), 67⟩]) (fun w h => (h.take l2 ne_nil).take l1 (ne_cons (fun h => hn12 h.symm) ne_nil)) ?_
  refine TL.rebase2 hw1' rfl ?_
  refine TL.gets (Wants.none rfl) rfl (Gets.move rfl rfl) ?_
  iterate 2 refine gx ?_
  refine TL.alloc (Wants.none rfl) rfl rfl zero25 (cs := [Value.int .i64 0, Value.int .i64 0, Value.int .u8 0, Value.int .u8 0, Value.int .u8 0, Value.int .u8 0, Value.int .u8 0, Value.int .u8 0, Value.int .u8 0, Value.int .u8 0, Value.int .u8 0, Value.int .u8 0, Value.int .u8 0, Value.int .u8 0, Value.int .u8 0, Value.int .u8 0, Value.int .u8 0, Value.int .u8 0, Value.int .u8 0, Value.int .u8 0, Value.int .u8 0, Value.int .u8 0, Value.int .u8 0, Value.int .u8 0, Value.int .u8 0, Value.int .u8 0, Value.int .u8 0, Value.int .u8 0, Value.int .u8 0, Value.int .u8 0, Value.int .u8 0, Value.int .u8 0, Value.int .u8 0, Value.int .u8 0, Value.int .u8 0, Value.int .u8 0, Value.int .u8 0, Value.int .u8 0, Value.int .u8 0, Value.int .u8 0, Value.int .u8 0, Value.int .u8 0, Value.int .u8 0, Value.int .u8 0, Value.int .u8 0, Value.int .u8 0, Value.int .u8 0, Value.int .u8 0, Value.int .u8 0, Value.int .u8 0, Value.int .u8 0, Value.int .u8 0, Value.int .u8 0, Value.int .u8 0, Value.int .u8 0, Value.int .u8 0, Value.int .u8 0, Value.int .u8 0, Value.int .u8 0, Value.int .u8 0, Value.int .u8 0, Value.int .u8 0, Value.int .u8 0, Value.int .u8 0, Value.int .u8 0, Value.int .u8 0, Value.slice none 0 0]) rfl (tot := 67) (by simp) (fun g4 hg4 => ?_)
  refine TL.al (fun g5 hg5 => ?_)
  refine TL.storeW (Wants.none rfl) rfl rfl size25 rfl (vs := [Value.int .i64 0, Value.int .i64 0] ++ ((List.replicate 32 (0 : Int)).map (Value.int .u8) ++ ((List.replicate 32 (0 : Int)).map (Value.int .u8) ++ ([Value.slice none 0 0])))) rfl (by simp []) (ones_app (by simp [Value.oneCell']) (ones_app ints_one (ones_app ints_one (by simp [Value.oneCell'])))) (i := 1) (ent := ⟨g4, 25, [Value.int .i64 0, Value.int .i64 0, Value.int .u8 0, Value.int .u8 0, Value.int .u8 0, Value.int .u8 0, Value.int .u8 0, Value.int .u8 0, Value.int .u8 0, Value.int .u8 0, Value.int .u8 0, Value.int .u8 0, Value.int .u8 0, Value.int .u8 0, Value.int .u8 0, Value.int .u8 0, Value.int .u8 0, Value.int .u8 0, Value.int .u8 0, Value.int .u8 0, Value.int .u8 0, Value.int .u8 0, Value.int .u8 0, Value.int .u8 0, Value.int .u8 0, Value.int .u8 0, Value.int .u8 0, Value.int .u8 0, Value.int .u8 0, Value.int .u8 0, Value.int .u8 0, Value.int .u8 0, Value.int .u8 0, Value.int .u8 0, Value.int .u8 0, Value.int .u8 0, Value.int .u8 0, Value.int .u8 0, Value.int .u8 0, Value.int .u8 0, Value.int .u8 0, Value.int .u8 0, Value.int .u8 0, Value.int .u8 0, Value.int .u8 0, Value.int .u8 0, Value.int .u8 0, Value.int .u8 0, Value.int .u8 0, Value.int .u8 0, Value.int .u8 0, Value.int .u8 0, Value.int .u8 0, Value.int .u8 0, Value.int .u8 0, Value.int .u8 0, Value.int .u8 0, Value.int .u8 0, Value.int .u8 0, Value.int .u8 0, Value.int .u8 0, Value.int .u8 0, Value.int .u8 0, Value.int .u8 0, Value.int .u8 0, Value.int .u8 0, Value.slice none 0 0], 67⟩) rfl rfl (by simp []) (H' := [⟨g5, 36, [Value.int .i64 0, Value.int .i64 0], 2⟩, ⟨g4, 25, [Value.int .i64 0, Value.int .i64 0] ++ ((List.replicate 32 (0 : Int)).map (Value.int .u8) ++ ((List.replicate 32 (0 : Int)).map (Value.int .u8) ++ ([Value.slice none 0 0]))), 67⟩, ⟨g2, 36, [Value.int .i64 0, Value.int .i64 0], 2⟩, ⟨g1, 25, [Value.int .i64 0, Value.int .i64 0] ++ ((List.replicate 32 (0 : Int)).map (Value.int .u8) ++ ((List.replicate 32 (0 : Int)).map (Value.int .u8) ++ ([Value.slice yd.1 0 yd.2]))), 67⟩]) rfl ?_
  iterate 3 refine gx ?_
  refine TC.pr [0, 1, 2, 3, 4, 6] ?_
  iterate 4 refine gx ?_
  refine TL.gets (Wants.none rfl) rfl (Gets.isTrue (Gets.eql rfl rfl rfl) (by omega)) ?_
  iterate 2 refine gx ?_
  refine TL.gets (Wants.yes rfl rfl rfl) rfl (Gets.isTrue (Gets.eql rfl rfl rfl) rfl) ?_
  iterate 2 refine gx ?_
  refine TL.gets (Wants.yes rfl rfl rfl) rfl (Gets.loadN rfl agg25 size25 rfl (vs := [Value.int .i64 0, Value.int .i64 0] ++ ((List.replicate 32 (0 : Int)).map (Value.int .u8) ++ ((List.replicate 32 (0 : Int)).map (Value.int .u8) ++ ([Value.slice yd.1 0 yd.2])))) (by simp []) (Row.all (i := 3) (ent := ⟨g1, 25, [Value.int .i64 0, Value.int .i64 0] ++ ((List.replicate 32 (0 : Int)).map (Value.int .u8) ++ ((List.replicate 32 (0 : Int)).map (Value.int .u8) ++ ([Value.slice yd.1 0 yd.2]))), 67⟩) rfl rfl rfl)) ?_
  refine TL.gets (Wants.yes rfl rfl rfl) rfl (Gets.build rfl (vs := []) rfl (fun w => by first | rfl | kernel_rfl) (v := .agg ([Value.int .i64 0, Value.int .i64 0] ++ ((List.replicate 32 (0 : Int)).map (Value.int .u8) ++ ((List.replicate 32 (0 : Int)).map (Value.int .u8) ++ ([Value.slice none 0 0])))).toArray)) ?_
  refine TL.call0 (Wants.yes rfl rfl rfl) rfl enters17 rfl rfl (v := .bool true) (fun w hs => (rdsame_c 0 0 (List.replicate 32 (0 : Int)) (List.replicate 32 (0 : Int)) (by simp) (by simp) yd.1 0 yd.2 [] 0 0 (List.replicate 32 (0 : Int)) (List.replicate 32 (0 : Int)) (by simp) (by simp) none 0 0 [] (by omega) (by omega) num0 w ⟨rfl, .inl rfl⟩ ⟨rfl, .inl rfl⟩ dat0 dat0).mono fun e w' h => by rw [decide_eq_true (p := sameD _ _ _ _ _ _ _ _ _ _) ⟨rfl, rfl, rfl, rfl, rfl⟩] at h; exact h) ?_
  iterate 3 refine gx ?_
  refine TL.gets (Wants.yes rfl rfl rfl) rfl (Gets.build rfl (vs := []) rfl (fun w => by first | rfl | kernel_rfl) (v := .agg ([Value.int .i64 0, Value.int .i64 0]).toArray)) ?_
  refine TL.gets (Wants.yes rfl rfl rfl) rfl (Gets.isTrue (Gets.pairEq rfl Try.underlying36 (by decide) (by decide) rfl rfl Try.underlying29 Try.underlying3 sih36 geq36 rfl rfl) ⟨rfl, rfl⟩) ?_
  iterate 3 refine gx ?_
  refine TL.gets (Wants.yes rfl rfl rfl) rfl (Gets.build rfl (vs := [(0, Value.int .i64 8), (1, Value.int .i64 3)]) rfl (fun w => by first | rfl | kernel_rfl) (v := .agg ([Value.int .i64 8, Value.int .i64 3]).toArray)) ?_
  refine TL.gets (Wants.yes rfl rfl rfl) rfl (Gets.isTrue (Gets.pairEq rfl Try.underlying36 (by decide) (by decide) rfl rfl Try.underlying29 Try.underlying3 sih36 geq36 rfl rfl) ⟨rfl, rfl⟩) ?_
  iterate 2 refine gx ?_
  refine TL.gets (Wants.yes rfl rfl rfl) rfl (Gets.build rfl (vs := []) rfl (fun w => by first | rfl | kernel_rfl) (v := .agg ([Value.int .i64 0, Value.int .i64 0] ++ ((List.replicate 32 (0 : Int)).map (Value.int .u8) ++ ((List.replicate 32 (0 : Int)).map (Value.int .u8) ++ ([Value.slice none 0 0])))).toArray)) ?_
  refine TL.call0 (Wants.yes rfl rfl rfl) rfl enters12 rfl rfl (v := .int .i64 (sizeI 0 0 (List.replicate 32 (0 : Int)) (List.replicate 32 (0 : Int)) [])) (fun w hs => fsize_c 0 0 (List.replicate 32 (0 : Int)) (List.replicate 32 (0 : Int)) (by simp) (by simp) none 0 0 [] (by omega) (by omega) num0 (by omega) w ⟨rfl, .inl rfl⟩ dat0) ?_
  refine TL.gets (Wants.yes rfl rfl rfl) rfl (Gets.isTrue (Gets.eql rfl rfl rfl) (by rw [sizeI_len wrong0]; omega)) ?_
  iterate 5 refine gx ?_
  exact TE.ret1 rfl rfl (fun w hs => ⟨rfl, St.left (H := []) hs (Fresh.cons (by assumption) (Fresh.cons (by assumption) (Fresh.cons (by assumption) (Fresh.cons (by assumption) Fresh.nil))))⟩)
end Go.Proofs.Ytclmgfcdnokaiaa
/-
  FormatEncodes: the walk.
-/
namespace Go.Proofs.Ytclmgfcdnokaiaa
set_option linter.unusedVariables false
set_option linter.unusedSimpArgs false
open Go Go.RowKit
theorem enters11 : Enters Try.prog 11 := ⟨_, Try.func11, by kernel_rfl, by kernel_rfl⟩
theorem enters14 : Enters Try.prog 14 := ⟨_, Try.func14, by kernel_rfl, by kernel_rfl⟩
theorem enters8 : Enters Try.prog 8 := ⟨_, Try.func8, by kernel_rfl, by kernel_rfl⟩
theorem enters9 : Enters Try.prog 9 := ⟨_, Try.func9, by kernel_rfl, by kernel_rfl⟩
end Go.Proofs.Ytclmgfcdnokaiaa
/-
  FormatCuts: the walk.
-/
namespace Go.Proofs.Ytclmgfcdnokaiaa
set_option linter.unusedVariables false
set_option linter.unusedSimpArgs false
open Go Go.RowKit

set_option maxRecDepth 100000 in
set_option maxHeartbeats 2000000 in
theorem fcuts_no (o n : Int) (H1 H2 : List Int) (hH1 : H1.length = 32) (hH2 : H2.length = 32) (A : Option Addr) (m c : Nat) (Cs : List CV) (hmc : m ≤ c) (hcm : c ≤ 9223372036854775807) (bo : -9223372036854775808 ≤ o ∧ o ≤ 9223372036854775807) (bn : -9223372036854775808 ≤ n ∧ n ≤ 9223372036854775807) (hN : NumsC Cs) (w : World) (hC : SrcC w A m Cs) (hD : DatC w Cs) (x : Int) (bx : 0 ≤ x ∧ x ≤ 65535) (b1 : Bytes H1) (b2 : Bytes H2) (hf : ¬ fewP Cs) : Calls Try.prog 7 #[.agg ([Value.int .i64 o, Value.int .i64 n] ++ (H1.map (Value.int .u8) ++ (H2.map (Value.int .u8) ++ ([Value.slice A m c])))).toArray, .int .u16 x] w fun e w' => e = .returned (.bool true) ∧ St w [] w' := by
  have hml : m ≤ 9223372036854775807 := by omega
  refine calls_from (args := [.agg ([Value.int .i64 o, Value.int .i64 n] ++ (H1.map (Value.int .u8) ++ (H2.map (Value.int .u8) ++ ([Value.slice A m c])))).toArray, .int .u16 x]) Try.func7 rfl Try.ntmps7 (by simp) ?_
  refine TC.pr [0, 1] ?_
  iterate 2 refine gx ?_
  refine TL.box (Wants.none rfl) rfl rfl rfl (cs := [Value.int .i64 o, Value.int .i64 n] ++ (H1.map (Value.int .u8) ++ (H2.map (Value.int .u8) ++ ([Value.slice A m c])))) (by simp [Value.cells]) (tot := 67) (by simp [hH1, hH2]) (fun g1 hg1 => ?_)
  iterate 7 refine gx ?_
  refine TL.call0 (Wants.none rfl) rfl enters8 rfl rfl (v := .bool false) (fun w hs => (few_c o n H1 H2 hH1 hH2 A m c Cs (by omega) hN w (hC.at_ hs (fun b hb => (ne_cons (by show g1 ≠ b; omega) ne_nil)))).mono fun e w' h => by rw [decide_eq_false (p := fewP Cs) hf] at h; exact h) ?_
  iterate 8 refine gx ?_
  refine TC.pr [1, 2, 4, 16] ?_
  refine TC.yes rfl ?_
  iterate 2 refine gx ?_
  refine TL.call0 (Wants.none rfl) rfl enters9 rfl rfl (v := .bool true) (fun w hs => alive_c w) ?_
  iterate 5 refine gx ?_
  exact TE.ret1 rfl rfl (fun w hs => ⟨rfl, St.left (H := []) hs (Fresh.cons (by assumption) Fresh.nil)⟩)

set_option maxRecDepth 100000 in
set_option maxHeartbeats 2000000 in
theorem fcuts_bad (o n : Int) (H1 H2 : List Int) (hH1 : H1.length = 32) (hH2 : H2.length = 32) (A : Option Addr) (m c : Nat) (Cs : List CV) (hmc : m ≤ c) (hcm : c ≤ 9223372036854775807) (bo : -9223372036854775808 ≤ o ∧ o ≤ 9223372036854775807) (bn : -9223372036854775808 ≤ n ∧ n ≤ 9223372036854775807) (hN : NumsC Cs) (w : World) (hC : SrcC w A m Cs) (hD : DatC w Cs) (x : Int) (bx : 0 ≤ x ∧ x ≤ 65535) (b1 : Bytes H1) (b2 : Bytes H2) (hf : fewP Cs) (hw0 : wrongI o n Cs ≠ 0) : Calls Try.prog 7 #[.agg ([Value.int .i64 o, Value.int .i64 n] ++ (H1.map (Value.int .u8) ++ (H2.map (Value.int .u8) ++ ([Value.slice A m c])))).toArray, .int .u16 x] w fun e w' => e = .returned (.bool true) ∧ St w [] w' := by
  have hml : m ≤ 9223372036854775807 := by omega
  refine calls_from (args := [.agg ([Value.int .i64 o, Value.int .i64 n] ++ (H1.map (Value.int .u8) ++ (H2.map (Value.int .u8) ++ ([Value.slice A m c])))).toArray, .int .u16 x]) Try.func7 rfl Try.ntmps7 (by simp) ?_
  refine TC.pr [0, 1] ?_
  iterate 2 refine gx ?_
  refine TL.box (Wants.none rfl) rfl rfl rfl (cs := [Value.int .i64 o, Value.int .i64 n] ++ (H1.map (Value.int .u8) ++ (H2.map (Value.int .u8) ++ ([Value.slice A m c])))) (by simp [Value.cells]) (tot := 67) (by simp [hH1, hH2]) (fun g1 hg1 => ?_)
  iterate 7 refine gx ?_
  refine TL.call0 (Wants.none rfl) rfl enters8 rfl rfl (v := .bool true) (fun w hs => (few_c o n H1 H2 hH1 hH2 A m c Cs (by omega) hN w (hC.at_ hs (fun b hb => (ne_cons (by show g1 ≠ b; omega) ne_nil)))).mono fun e w' h => by rw [decide_eq_true (p := fewP Cs) hf] at h; exact h) ?_
  iterate 3 refine gx ?_
  refine TL.call0 (Wants.yes rfl rfl rfl) rfl enters11 rfl rfl (v := .int .i64 (wrongI o n Cs)) (fun w hs => rwrong_c o n H1 H2 hH1 hH2 A m c Cs (by omega) hN w (hC.at_ hs (fun b hb => (ne_cons (by show g1 ≠ b; omega) ne_nil)))) ?_
  refine TL.gets (Wants.yes rfl rfl rfl) rfl (Gets.isTrue (Gets.neq rfl rfl rfl) hw0) ?_
  iterate 3 refine gx ?_
  refine TC.pr [1, 2, 4, 16] ?_
  refine TC.yes rfl ?_
  iterate 2 refine gx ?_
  refine TL.call0 (Wants.none rfl) rfl enters9 rfl rfl (v := .bool true) (fun w hs => alive_c w) ?_
  iterate 5 refine gx ?_
  exact TE.ret1 rfl rfl (fun w hs => ⟨rfl, St.left (H := []) hs (Fresh.cons (by assumption) Fresh.nil)⟩)

set_option maxRecDepth 100000 in
set_option maxHeartbeats 2000000 in
theorem fcuts_yes (o n : Int) (H1 H2 : List Int) (hH1 : H1.length = 32) (hH2 : H2.length = 32) (A : Option Addr) (m c : Nat) (Cs : List CV) (hmc : m ≤ c) (hcm : c ≤ 9223372036854775807) (bo : -9223372036854775808 ≤ o ∧ o ≤ 9223372036854775807) (bn : -9223372036854775808 ≤ n ∧ n ≤ 9223372036854775807) (hN : NumsC Cs) (w : World) (hC : SrcC w A m Cs) (hD : DatC w Cs) (x : Int) (bx : 0 ≤ x ∧ x ≤ 65535) (b1 : Bytes H1) (b2 : Bytes H2) (hf : fewP Cs) (hw0 : wrongI o n Cs = 0) : Calls Try.prog 7 #[.agg ([Value.int .i64 o, Value.int .i64 n] ++ (H1.map (Value.int .u8) ++ (H2.map (Value.int .u8) ++ ([Value.slice A m c])))).toArray, .int .u16 x] w fun e w' => e = .returned (.bool true) ∧ St w [] w' := by
  have hml : m ≤ 9223372036854775807 := by omega
  have hok := wrongI_ok hw0
  have hEl : (encD o n H1 H2 (Cs.map cmC)).length ≤ 89 + 325 * m := encD_len_le hH1 hH2 hC.1 (fun i x hx => by rw [(hD i x hx).1.1]; exact hf.1 i x hx)
  have hm40 : m ≤ 40 := by have := hf.2; have := hC.1; omega
  have hE89 : 89 ≤ (encD o n H1 H2 (Cs.map cmC)).length := encD_ge hH1 hH2
  obtain ⟨q, hq, hql⟩ := mod_nat (x := x) (L := (encD o n H1 H2 (Cs.map cmC)).length) (by omega)
  have hBy : Bytes (encD o n H1 H2 (Cs.map cmC)) := cm_bytes b1 b2 hD
  have hcut : (rDec ((encD o n H1 H2 (Cs.map cmC)).take q)).s.co = 8 ∧ (rDec ((encD o n H1 H2 (Cs.map cmC)).take q)).s.po = q := rDec_cut hok.2.1.1 hok.2.1.2 hH1 hH2 (by rw [List.length_map, hC.1]; omega) (cm_ok hok.1 hok.2.2 hD hf.1) hql
  refine calls_from (args := [.agg ([Value.int .i64 o, Value.int .i64 n] ++ (H1.map (Value.int .u8) ++ (H2.map (Value.int .u8) ++ ([Value.slice A m c])))).toArray, .int .u16 x]) Try.func7 rfl Try.ntmps7 (by simp) ?_
  refine TC.pr [0, 1] ?_
  iterate 2 refine gx ?_
  refine TL.box (Wants.none rfl) rfl rfl rfl (cs := [Value.int .i64 o, Value.int .i64 n] ++ (H1.map (Value.int .u8) ++ (H2.map (Value.int .u8) ++ ([Value.slice A m c])))) (by simp [Value.cells]) (tot := 67) (by simp [hH1, hH2]) (fun g1 hg1 => ?_)
  iterate 7 refine gx ?_
  refine TL.call0 (Wants.none rfl) rfl enters8 rfl rfl (v := .bool true) (fun w hs => (few_c o n H1 H2 hH1 hH2 A m c Cs (by omega) hN w (hC.at_ hs (fun b hb => (ne_cons (by show g1 ≠ b; omega) ne_nil)))).mono fun e w' h => by rw [decide_eq_true (p := fewP Cs) hf] at h; exact h) ?_
  iterate 3 refine gx ?_
  refine TL.call0 (Wants.yes rfl rfl rfl) rfl enters11 rfl rfl (v := .int .i64 (wrongI o n Cs)) (fun w hs => rwrong_c o n H1 H2 hH1 hH2 A m c Cs (by omega) hN w (hC.at_ hs (fun b hb => (ne_cons (by show g1 ≠ b; omega) ne_nil)))) ?_
  refine TL.gets (Wants.yes rfl rfl rfl) rfl (Gets.isFalse (Gets.neq rfl rfl rfl) (fun h => h hw0)) ?_
  iterate 3 refine gx ?_
  refine TC.pr [1, 2, 4, 16] ?_
  refine TC.no rfl ?_
  iterate 5 refine gx ?_
  refine TL.call (ι := Value × List Ent) (V := fun y => y.1) (R := fun y => Own w.heap.size 5 .u8 y.1 (encD o n H1 H2 (Cs.map cmC)) y.2) (H' := fun y => [⟨g1, 25, [Value.int .i64 o, Value.int .i64 n] ++ (H1.map (Value.int .u8) ++ (H2.map (Value.int .u8) ++ ([Value.slice A m c]))), 67⟩] ++ y.2) (Wants.none rfl) rfl enters14 rfl rfl (fun w hs => (rencode_c o n H1 H2 hH1 hH2 A m c Cs hok.2.1.1 hok.2.1.2 (by omega) (by omega) hN hok.1 hok.2.2 hf (by have := hf.2; have := hC.1; omega) w (hC.at_ hs (fun b hb => (ne_cons (by show g1 ≠ b; omega) ne_nil))) (hD.at_ hs (fun b hb => (ne_cons (by show g1 ≠ b; omega) ne_nil)))).mono fun e w' ⟨v, He, he, ho, hw⟩ => ⟨(v, He), he, own_mono ho hs.size, st_call hs hw ho.new⟩) (fun y hR => ?_)
  obtain ⟨vW, HW⟩ := y
  dsimp only at hR ⊢
  have hW : Own w.heap.size 5 .u8 vW (encD o n H1 H2 (Cs.map cmC)) HW := hR
  obtain ⟨AW, cW, rfl, hcW, hdW⟩ := hW.form
  iterate 6 refine gx ?_
  refine TL.gets (Wants.none rfl) rfl (Gets.conv rfl Try.underlying44 Try.underlying3 rfl (r := x) (w64 rfl (by omega))) ?_
  iterate 2 refine gx ?_
  refine TL.gets (Wants.none rfl) rfl (Gets.rem rfl rfl rfl (by omega) (r := (q : Int)) (by rw [hq]; exact tmod_pos (by omega) rfl)) ?_
  iterate 3 refine gx ?_
  refine TC.pr [4, 5, 6] ?_
  iterate 4 refine gx ?_
  refine TL.gets (Wants.none rfl) rfl (Gets.sliceS rfl Try.underlying28 size5 rfl bnd.dflt (bnd.at_ (l := q) rfl (by omega)) (by omega) (by omega) (cutA_zero _ _ _) (ln := q) (cp := cW) (by omega) (by omega)) ?_
  refine TL.call0 (Wants.none rfl) rfl enters15 rfl rfl (v := .tuple #[.agg ([Value.int .i64 0, Value.int .i64 0] ++ ((List.replicate 32 (0 : Int)).map (Value.int .u8) ++ ((List.replicate 32 (0 : Int)).map (Value.int .u8) ++ ([Value.slice none 0 0])))).toArray, .agg ([Value.int .i64 8, Value.int .i64 (q : Int)]).toArray]) (fun w hs => (fdec_bad ((encD o n H1 H2 (Cs.map cmC)).take q) AW q cW w (((hW.srcOf (fun e he => hs.has e (by simp [he]))).toX0.head (n := q) (by omega)).src) (fun z hz => hBy z (List.mem_of_mem_take hz)) (by omega) (by omega) (by omega) (by rw [hcut.1]; decide)).mono fun e w' h => by rw [hcut.1, hcut.2] at h; exact h) ?_
  iterate 3 refine gx ?_
  refine TL.alloc (Wants.none rfl) rfl rfl zero25 (cs := [Value.int .i64 0, Value.int .i64 0, Value.int .u8 0, Value.int .u8 0, Value.int .u8 0, Value.int .u8 0, Value.int .u8 0, Value.int .u8 0, Value.int .u8 0, Value.int .u8 0, Value.int .u8 0, Value.int .u8 0, Value.int .u8 0, Value.int .u8 0, Value.int .u8 0, Value.int .u8 0, Value.int .u8 0, Value.int .u8 0, Value.int .u8 0, Value.int .u8 0, Value.int .u8 0, Value.int .u8 0, Value.int .u8 0, Value.int .u8 0, Value.int .u8 0, Value.int .u8 0, Value.int .u8 0, Value.int .u8 0, Value.int .u8 0, Value.int .u8 0, Value.int .u8 0, Value.int .u8 0, Value.int .u8 0, Value.int .u8 0, Value.int .u8 0, Value.int .u8 0, Value.int .u8 0, Value.int .u8 0, Value.int .u8 0, Value.int .u8 0, Value.int .u8 0, Value.int .u8 0, Value.int .u8 0, Value.int .u8 0, Value.int .u8 0, Value.int .u8 0, Value.int .u8 0, Value.int .u8 0, Value.int .u8 0, Value.int .u8 0, Value.int .u8 0, Value.int .u8 0, Value.int .u8 0, Value.int .u8 0, Value.int .u8 0, Value.int .u8 0, Value.int .u8 0, Value.int .u8 0, Value.int .u8 0, Value.int .u8 0, Value.int .u8 0, Value.int .u8 0, Value.int .u8 0, Value.int .u8 0, Value.int .u8 0, Value.int .u8 0, Value.slice none 0 0]) rfl (tot := 67) (by simp) (fun g2 hg2 => ?_)
  refine TL.al (fun g3 hg3 => ?_)
  refine TL.storeW (Wants.none rfl) rfl rfl size25 rfl (vs := [Value.int .i64 0, Value.int .i64 0] ++ ((List.replicate 32 (0 : Int)).map (Value.int .u8) ++ ((List.replicate 32 (0 : Int)).map (Value.int .u8) ++ ([Value.slice none 0 0])))) rfl (by simp []) (ones_app (by simp [Value.oneCell']) (ones_app ints_one (ones_app ints_one (by simp [Value.oneCell'])))) (i := 1) (ent := ⟨g2, 25, [Value.int .i64 0, Value.int .i64 0, Value.int .u8 0, Value.int .u8 0, Value.int .u8 0, Value.int .u8 0, Value.int .u8 0, Value.int .u8 0, Value.int .u8 0, Value.int .u8 0, Value.int .u8 0, Value.int .u8 0, Value.int .u8 0, Value.int .u8 0, Value.int .u8 0, Value.int .u8 0, Value.int .u8 0, Value.int .u8 0, Value.int .u8 0, Value.int .u8 0, Value.int .u8 0, Value.int .u8 0, Value.int .u8 0, Value.int .u8 0, Value.int .u8 0, Value.int .u8 0, Value.int .u8 0, Value.int .u8 0, Value.int .u8 0, Value.int .u8 0, Value.int .u8 0, Value.int .u8 0, Value.int .u8 0, Value.int .u8 0, Value.int .u8 0, Value.int .u8 0, Value.int .u8 0, Value.int .u8 0, Value.int .u8 0, Value.int .u8 0, Value.int .u8 0, Value.int .u8 0, Value.int .u8 0, Value.int .u8 0, Value.int .u8 0, Value.int .u8 0, Value.int .u8 0, Value.int .u8 0, Value.int .u8 0, Value.int .u8 0, Value.int .u8 0, Value.int .u8 0, Value.int .u8 0, Value.int .u8 0, Value.int .u8 0, Value.int .u8 0, Value.int .u8 0, Value.int .u8 0, Value.int .u8 0, Value.int .u8 0, Value.int .u8 0, Value.int .u8 0, Value.int .u8 0, Value.int .u8 0, Value.int .u8 0, Value.int .u8 0, Value.slice none 0 0], 67⟩) rfl rfl (by simp []) (H' := [⟨g3, 36, [Value.int .i64 0, Value.int .i64 0], 2⟩, ⟨g2, 25, [Value.int .i64 0, Value.int .i64 0] ++ ((List.replicate 32 (0 : Int)).map (Value.int .u8) ++ ((List.replicate 32 (0 : Int)).map (Value.int .u8) ++ ([Value.slice none 0 0]))), 67⟩, ⟨g1, 25, [Value.int .i64 o, Value.int .i64 n] ++ (H1.map (Value.int .u8) ++ (H2.map (Value.int .u8) ++ ([Value.slice A m c]))), 67⟩] ++ HW) rfl ?_
  refine TL.storeW (Wants.none rfl) rfl rfl size36 rfl (vs := [Value.int .i64 8, Value.int .i64 (q : Int)]) rfl (by simp []) (by simp [Value.oneCell']) (i := 0) (ent := ⟨g3, 36, [Value.int .i64 0, Value.int .i64 0], 2⟩) rfl rfl (by simp []) (H' := [⟨g3, 36, [Value.int .i64 8, Value.int .i64 (q : Int)], 2⟩, ⟨g2, 25, [Value.int .i64 0, Value.int .i64 0] ++ ((List.replicate 32 (0 : Int)).map (Value.int .u8) ++ ((List.replicate 32 (0 : Int)).map (Value.int .u8) ++ ([Value.slice none 0 0]))), 67⟩, ⟨g1, 25, [Value.int .i64 o, Value.int .i64 n] ++ (H1.map (Value.int .u8) ++ (H2.map (Value.int .u8) ++ ([Value.slice A m c]))), 67⟩] ++ HW) rfl ?_
  iterate 2 refine gx ?_
  refine TC.pr [4, 6, 7, 8] ?_
  iterate 2 refine gx ?_
  refine TL.call0 (Wants.none rfl) rfl enters9 rfl rfl (v := .bool true) (fun w hs => alive_c w) ?_
  refine gx ?_
  refine TL.gets (Wants.yes rfl rfl rfl) rfl (Gets.loadN rfl agg25 size25 rfl (vs := [Value.int .i64 0, Value.int .i64 0] ++ ((List.replicate 32 (0 : Int)).map (Value.int .u8) ++ ((List.replicate 32 (0 : Int)).map (Value.int .u8) ++ ([Value.slice none 0 0])))) (by simp []) (Row.all (i := 1) (ent := ⟨g2, 25, [Value.int .i64 0, Value.int .i64 0] ++ ((List.replicate 32 (0 : Int)).map (Value.int .u8) ++ ((List.replicate 32 (0 : Int)).map (Value.int .u8) ++ ([Value.slice none 0 0]))), 67⟩) rfl rfl rfl)) ?_
  refine TL.gets (Wants.yes rfl rfl rfl) rfl (Gets.build rfl (vs := []) rfl (fun w => by first | rfl | kernel_rfl) (v := .agg ([Value.int .i64 0, Value.int .i64 0] ++ ((List.replicate 32 (0 : Int)).map (Value.int .u8) ++ ((List.replicate 32 (0 : Int)).map (Value.int .u8) ++ ([Value.slice none 0 0])))).toArray)) ?_
  refine TL.call0 (Wants.yes rfl rfl rfl) rfl enters17 rfl rfl (v := .bool true) (fun w hs => (rdsame_c 0 0 (List.replicate 32 (0 : Int)) (List.replicate 32 (0 : Int)) (by simp) (by simp) none 0 0 [] 0 0 (List.replicate 32 (0 : Int)) (List.replicate 32 (0 : Int)) (by simp) (by simp) none 0 0 [] (by omega) (by omega) (fun i x hx => by simp at hx) w ⟨rfl, .inl rfl⟩ ⟨rfl, .inl rfl⟩ (fun i x hx => by simp at hx) (fun i x hx => by simp at hx)).mono fun e w' h => by rw [decide_eq_true (p := sameD _ _ _ _ _ _ _ _ _ _) ⟨rfl, rfl, rfl, rfl, rfl⟩] at h; exact h) ?_
  iterate 4 refine gx ?_
  refine TL.gets (Wants.yes rfl rfl rfl) rfl (Gets.build rfl (vs := [(0, Value.int .i64 8), (1, Value.int .i64 (q : Int))]) rfl (fun w => by first | rfl | kernel_rfl) (v := .agg ([Value.int .i64 8, Value.int .i64 (q : Int)]).toArray)) ?_
  refine TL.gets (Wants.yes rfl rfl rfl) rfl (Gets.isTrue (Gets.pairEq rfl Try.underlying36 (by decide) (by decide) rfl rfl Try.underlying29 Try.underlying3 sih36 geq36 rfl rfl) ⟨rfl, rfl⟩) ?_
  iterate 5 refine gx ?_
  exact TE.ret1 rfl rfl (fun w hs => ⟨rfl, St.left (H := []) hs (Fresh.cons (by assumption) (Fresh.cons (by assumption) (Fresh.cons (by assumption) hW.fr7)))⟩)


theorem formatCuts_walk (o n : Int) (H1 H2 : List Int) (hH1 : H1.length = 32) (hH2 : H2.length = 32) (A : Option Addr) (m c : Nat) (Cs : List CV) (hmc : m ≤ c) (hcm : c ≤ 9223372036854775807) (bo : -9223372036854775808 ≤ o ∧ o ≤ 9223372036854775807) (bn : -9223372036854775808 ≤ n ∧ n ≤ 9223372036854775807) (hN : NumsC Cs) (w : World) (hC : SrcC w A m Cs) (hD : DatC w Cs) (x : Int) (bx : 0 ≤ x ∧ x ≤ 65535) (b1 : Bytes H1) (b2 : Bytes H2) : Calls Try.prog 7 #[.agg ([Value.int .i64 o, Value.int .i64 n] ++ (H1.map (Value.int .u8) ++ (H2.map (Value.int .u8) ++ ([Value.slice A m c])))).toArray, .int .u16 x] w fun e w' => e = .returned (.bool true) ∧ St w [] w' := by
  by_cases hf : fewP Cs
  · by_cases hw : wrongI o n Cs = 0
    · exact fcuts_yes o n H1 H2 hH1 hH2 A m c Cs hmc hcm bo bn hN w hC hD x bx b1 b2 hf hw
    · exact fcuts_bad o n H1 H2 hH1 hH2 A m c Cs hmc hcm bo bn hN w hC hD x bx b1 b2 hf hw
  · exact fcuts_no o n H1 H2 hH1 hH2 A m c Cs hmc hcm bo bn hN w hC hD x bx b1 b2 hf
end Go.Proofs.Ytclmgfcdnokaiaa
/-
  FormatDecodes: the walk.
-/
namespace Go.Proofs.Ytclmgfcdnokaiaa
set_option linter.unusedVariables false
set_option linter.unusedSimpArgs false
open Go Go.RowKit
theorem size29 : (Try.prog.info? 29).map (·.size) = some 1 := by kernel_rfl
instance : AgN Try.prog 29 := ⟨agg29⟩
instance : Fld Try.prog 36 0 0 := ⟨⟨_, _, _, Try.underlying36, rfl, size29, rfl⟩⟩
instance : Fld Try.prog 36 1 1 := ⟨⟨_, _, _, Try.underlying36, rfl, size3, rfl⟩⟩
end Go.Proofs.Ytclmgfcdnokaiaa
/-
  FormatOnce: the walk.
-/
namespace Go.Proofs.Ytclmgfcdnokaiaa
set_option linter.unusedVariables false
set_option linter.unusedSimpArgs false
open Go Go.RowKit

end Go.Proofs.Ytclmgfcdnokaiaa
/-
  FormatInverse: the walk.
-/
namespace Go.Proofs.Ytclmgfcdnokaiaa
set_option linter.unusedVariables false
set_option linter.unusedSimpArgs false
open Go Go.RowKit

end Go.Proofs.Ytclmgfcdnokaiaa
/-
  The walks, as the frames want them.
-/
namespace Go.Proofs.Ytclmgfcdnokaiaa
set_option linter.unusedVariables false
set_option linter.unusedSimpArgs false
open Go Go.RowKit

theorem formatCuts_w (o n : Int) (H1 H2 : List Int) (hH1 : H1.length = 32) (hH2 : H2.length = 32) (A : Option Addr) (m c : Nat) (Cs : List CV) (x : Int) (w : World) (bo : -9223372036854775808 ≤ o ∧ o ≤ 9223372036854775807) (bn : -9223372036854775808 ≤ n ∧ n ≤ 9223372036854775807) (hmc : m ≤ c) (hcm : c ≤ 9223372036854775807) (hN : NumsC Cs) (hC : SrcC w A m Cs) (hD : DatC w Cs) (hA : A = none → m = 0) (hB1 : Bytes H1) (hB2 : Bytes H2) (bx : 0 ≤ x ∧ x ≤ 65535) : Calls Try.prog 7 #[.agg ([Value.int .i64 o, Value.int .i64 n] ++ (H1.map (Value.int .u8) ++ (H2.map (Value.int .u8) ++ ([Value.slice A m c])))).toArray, .int .u16 x] w fun e w' => e = .returned (.bool true) ∧ St w [] w' := formatCuts_walk o n H1 H2 hH1 hH2 A m c Cs hmc hcm bo bn hN w hC hD x bx hB1 hB2
end Go.Proofs.Ytclmgfcdnokaiaa
/-
  A law's frame: arguments opened, tables that start-up lays.
-/
namespace Go.Proofs.Ytclmgfcdnokaiaa
set_option linter.unusedVariables false
set_option linter.unusedSimpArgs false
open Go Go.RowKit Go.ChangeShapes Go.WideShapes Go.ChangeAt Go.Joins Go.Deep

theorem own_knob : ownKnob Try.prog.godebug = none := by kernel_rfl
theorem laid_out : laidOutB Try.prog = true := by kernel_rfl

section
variable {H : Type} {enc : TypeId × Value → H} {P : Program} {W : World} {base fuel : Nat} {sp : Nat → Bool} {held : Bool} {t e : TypeId} {kd : IntKind}
theorem wf_u8b {n : Int} (h : (Lit.int .u8 n).wf = true) : 0 ≤ n ∧ n ≤ 255 := by
  simp [Lit.wf, IntKind.min, IntKind.max, IntKind.signed, IntKind.bits] at h
  exact h
theorem wf_u16b {n : Int} (h : (Lit.int .u16 n).wf = true) : 0 ≤ n ∧ n ≤ 65535 := by
  simp [Lit.wf, IntKind.min, IntKind.max, IntKind.signed, IntKind.bits] at h
  exact h
theorem wf_i64b {n : Int} (h : (Lit.int .i64 n).wf = true) : -9223372036854775808 ≤ n ∧ n ≤ 9223372036854775807 := by
  simp [Lit.wf, IntKind.min, IntKind.max, IntKind.signed, IntKind.bits] at h
  exact h
end
end Go.Proofs.Ytclmgfcdnokaiaa
/-
  A slice of slices of bytes that came in, with the bounds of its numbers.
-/
namespace Go.Proofs.Ytclmgfcdnokaiaa
set_option linter.unusedVariables false
set_option linter.unusedSimpArgs false
open Go Go.RowKit Go.ChangeShapes Go.WideShapes Go.ChangeAt Go.Joins Go.Deep
section
variable {H : Type} {enc : TypeId × Value → H} {P : Program} {W : World} {base fuel : Nat} {sp : Nat → Bool} {held : Bool} {t e : TypeId} {kd : IntKind}
end
end Go.Proofs.Ytclmgfcdnokaiaa
/-
  Arguments opened: slices of numbers with their reach, slices of structs.
-/
namespace Go.Proofs.Ytclmgfcdnokaiaa
set_option linter.unusedVariables false
set_option linter.unusedSimpArgs false
set_option linter.unusedVariables false
set_option maxRecDepth 100000
open Go Go.RowKit Go.ChangeShapes Go.WideShapes Go.ChangeAt Go.Joins Go.Deep
theorem bytes_u8 : Try.prog.bytesOf 5 = 1 := by kernel_rfl
/-- A slice of numbers, its reach. -/
theorem open_bytesR {H : Type} {enc : TypeId × Value → H} {P : Program} {W : World} {t e : TypeId} {fuel : Nat} {v : Value} {y : DataW H × List MemPlace} (ht : P.underlying t = some (.slice e)) (he : P.underlying e = some (.int .u8)) (hc : P.cellsOf e = 1)
    (hf : DataW.trod enc P W 0 (fun _ => true) true fuel t [v] = some y) : ∃ (A : Option Addr) (m c : Nat) (B : List Int), v = .slice A m c ∧ m ≤ c ∧ c ≤ 9223372036854775807 ∧ Src W A m .u8 B ∧ (∀ x ∈ B, 0 ≤ x ∧ x ≤ 255) ∧ (c = 0 ∨ c * P.bytesOf e ∈ y.1.weights P t) := by
  rcases open_ints ht he hc hf with ⟨hcs, _⟩ | ⟨a, len, cap, zs, hcs, _, hl, hm, hz, hx, hcell, hwf⟩
  · simp at hcs
    subst hcs
    exact ⟨none, 0, 0, [], rfl, Nat.le_refl _, by omega, ⟨rfl, .inl rfl⟩, by simp, .inl rfl⟩
  · simp at hcs
    subst hcs
    simp only [if_true] at hz
    refine ⟨some a, len, cap, zs.take len, rfl, hl, hm, ⟨by simp; omega, ?_⟩, fun x hx => wf_u8b (hwf x (List.mem_of_mem_take hx)), .inr ?_⟩
    · by_cases h0 : len = 0
      · exact .inl h0
      · right
        obtain ⟨b, off, spot⟩ := a
        have hc0 := hcell 0 (by omega)
        have hspot : spot = none := by simpa [Addr.add] using World.cell?_spot hc0
        subst hspot
        refine ⟨b, off, rfl, World.block_lt_of_cell? W _ hc0, fun j hj => ?_⟩
        have := hcell j (by omega)
        rw [addr_add] at this
        rw [this]
        simp [List.getD_eq_getElem?_getD, List.getElem?_take, hj]
    · have hlen : (lits .u8 (zs.take len) : List (DataW H)).length + (lits .u8 (zs.drop len) : List (DataW H)).length = cap := by
        simp only [lits, List.length_map, List.length_take, List.length_drop]
        omega
      rw [hx]
      simp only [DataW.weights, ht, hlen]
      exact List.mem_cons_self
end Go.Proofs.Ytclmgfcdnokaiaa
/-
  Arguments opened: commands, extents, arrays of three numbers.
-/
namespace Go.Proofs.Ytclmgfcdnokaiaa
set_option linter.unusedVariables false
set_option linter.unusedSimpArgs false
set_option linter.unusedVariables false
set_option maxRecDepth 100000
open Go Go.RowKit Go.ChangeShapes Go.WideShapes Go.ChangeAt Go.Joins Go.Deep
theorem cells_cmd : Try.prog.cellsOf 47 = 5 := by kernel_rfl
end Go.Proofs.Ytclmgfcdnokaiaa
/-
  Arguments opened: deltas.
-/
namespace Go.Proofs.Ytclmgfcdnokaiaa
set_option linter.unusedVariables false
set_option linter.unusedSimpArgs false
set_option linter.unusedVariables false
set_option maxRecDepth 100000
open Go Go.RowKit Go.ChangeShapes Go.WideShapes Go.ChangeAt Go.Joins Go.Deep
theorem cells_dlt : Try.prog.cellsOf 25 = 67 := by kernel_rfl
theorem cells_dig : Try.prog.cellsOf 22 = 32 := by kernel_rfl
theorem weights_all {H : Type} {P : Program} {e : TypeId} {d : DataW H} {q : Nat} (h : q ∈ d.weights P e) : ∀ {l : List (DataW H)}, d ∈ l → q ∈ DataW.weightsAll P e l
  | c :: l, hd => by
    unfold DataW.weightsAll
    rcases List.mem_cons.1 hd with rfl | hd
    · exact List.mem_append.2 (.inl h)
    · exact List.mem_append.2 (.inr (weights_all h hd))
theorem list5 {α : Type} {l : List α} (h : l.length = 5) : ∃ c0 c1 c2 c3 c4, l = [c0, c1, c2, c3, c4] := by
  match l, h with
  | [c0, c1, c2, c3, c4], _ => exact ⟨c0, c1, c2, c3, c4, rfl⟩
/-- Cells that read as a command. -/
theorem open_cmdF {H : Type} {enc : TypeId × Value → H} {W : World} {fuel : Nat} {cs : List Value} {y : DataW H × List MemPlace} (hf : DataW.trod enc Try.prog W 0 (fun _ => true) true fuel 47 cs = some y)
    (hsz : ∀ q ∈ y.1.weights Try.prog 47, q ≤ reachBytes) : ∃ x : CV, cs = cellsC x ∧ (-9223372036854775808 ≤ x.k ∧ x.k ≤ 9223372036854775807) ∧ NumC x ∧ Src W x.A x.m .u8 x.B ∧ Bytes x.B := by
  obtain ⟨xs, n, _, hx, hl, hlen, hfs⟩ := DataW.trod_struct Try.underlying47 hf
  obtain ⟨c0, c1, c2, c3, c4, rfl⟩ := list5 (hl.trans cells_cmd)
  obtain ⟨y0, y1, y2, y3, y4, rfl⟩ := list5 (show xs.length = 5 from hlen)
  have ci : Try.prog.cellsOf 3 = 1 := by kernel_rfl
  have cb : Try.prog.cellsOf 28 = 1 := by kernel_rfl
  have g0 : DataW.trod enc Try.prog W 0 (fun _ => true) true n 3 [c0] = some y0 := by simpa [Value.cells, ci, cb] using hfs 0 _ rfl
  have g1 : DataW.trod enc Try.prog W 0 (fun _ => true) true n 3 [c1] = some y1 := by simpa [Value.cells, ci, cb] using hfs 1 _ rfl
  have g2 : DataW.trod enc Try.prog W 0 (fun _ => true) true n 3 [c2] = some y2 := by simpa [Value.cells, ci, cb] using hfs 2 _ rfl
  have g3 : DataW.trod enc Try.prog W 0 (fun _ => true) true n 3 [c3] = some y3 := by simpa [Value.cells, ci, cb] using hfs 3 _ rfl
  have g4 : DataW.trod enc Try.prog W 0 (fun _ => true) true n 28 [c4] = some y4 := by simpa [Value.cells, ci, cb] using hfs 4 _ rfl
  obtain ⟨k, e0, _, wk⟩ := DataW.trod_int Try.underlying3 g0
  obtain ⟨t, e1, _, wt⟩ := DataW.trod_int Try.underlying3 g1
  obtain ⟨f, e2, _, wf⟩ := DataW.trod_int Try.underlying3 g2
  obtain ⟨l, e3, _, wl⟩ := DataW.trod_int Try.underlying3 g3
  obtain ⟨A, m, c, B, e4, hmc, hcm, hs, hB, hw⟩ := open_bytesR Try.underlying28 Try.underlying5 (by kernel_rfl) g4
  simp at e0 e1 e2 e3
  subst e0 e1 e2 e3 e4
  have hcR : c ≤ 140737488355327 := by
    rcases hw with hw | hw
    · omega
    · have := hsz (c * Try.prog.bytesOf 5) (by
        rw [hx]
        simp only [List.map_cons, List.map_nil, DataW.weights, Try.underlying47, DataW.weightsEach, Array.toList]
        simp only [List.mem_append]
        exact .inr (.inr (.inr (.inr (.inl hw)))))
      rw [bytes_u8] at this
      simp only [reachBytes] at this
      omega
  exact ⟨⟨k, t, f, l, A, m, c, B⟩, rfl, wf_i64b wk, ⟨wf_i64b wt, wf_i64b wf, wf_i64b wl, hmc, Nat.le_trans hmc hcR, Nat.le_trans hcR (by decide)⟩, hs, hB⟩
/-- A slice of commands. -/
theorem open_cmds {H : Type} {enc : TypeId × Value → H} {W : World} {fuel : Nat} {v : Value} {y : DataW H × List MemPlace} (hf : DataW.trod enc Try.prog W 0 (fun _ => true) true fuel 23 [v] = some y)
    (hsz : ∀ q ∈ y.1.weights Try.prog 23, q ≤ reachBytes) : ∃ (A : Option Addr) (m c : Nat) (Cs : List CV), v = .slice A m c ∧ m ≤ c ∧ c ≤ 9223372036854775807 ∧ SrcC W A m Cs ∧ NumsC Cs ∧ DatC W Cs ∧ (A = none → m = 0) := by
  rcases DataW.trod_slice Try.underlying23 hf with ⟨hcs, _⟩ | ⟨a, len, cap, elems, rest, n, _, hcs, hx, hb, hl, hm, hlen, hel, _, _⟩
  · simp at hcs
    subst hcs
    exact ⟨none, 0, 0, [], rfl, Nat.le_refl _, by omega, ⟨rfl, .inl rfl⟩, fun i x h => by simp at h, fun i x h => by simp at h, fun _ => rfl⟩
  · simp at hcs
    subst hcs
    have each : ∀ i, i < len → ∃ x : CV, (∀ j u, (cellsC x)[j]? = some u → W.cell? ((a.add (i * 5)).add j) = some u) ∧ NumC x ∧ Src W x.A x.m .u8 x.B ∧ Bytes x.B := fun i hi => by
      have hei : elems[i]? = some elems[i] := List.getElem?_eq_getElem (by omega)
      have h1 := hel i hi
      rw [hei, cells_cmd] at h1
      obtain ⟨cs', hc1, hc2⟩ := Option.bind_eq_some_iff.1 h1
      obtain ⟨x, rfl, _, hnx, hsx, hbx⟩ := open_cmdF hc2 (fun q hq => hsz q (by
        rw [hx]
        simp only [DataW.weights, Try.underlying23]
        exact List.mem_cons_of_mem _ (List.mem_append.2 (.inl (weights_all hq (List.mem_map.2 ⟨_, List.getElem_mem _, rfl⟩))))))
      obtain ⟨_, _, hat⟩ := World.cells?_some hc1
      exact ⟨x, fun j u hu => by rw [hat j (by have := (List.getElem?_eq_some_iff.1 hu).1; rw [show (cellsC x).length = 5 from rfl] at this; exact this)]; exact hu, hnx, hsx, hbx⟩
    obtain ⟨Cs, hCl, hCs⟩ : ∃ Cs : List CV, Cs.length = len ∧ ∀ (i : Nat) (x : CV), Cs[i]? = some x → (∀ j u, (cellsC x)[j]? = some u → W.cell? ((a.add (i * 5)).add j) = some u) ∧ NumC x ∧ Src W x.A x.m .u8 x.B ∧ Bytes x.B := by
      have hch : ∀ i : Fin len, ∃ x : CV, (∀ j u, (cellsC x)[j]? = some u → W.cell? ((a.add (i.1 * 5)).add j) = some u) ∧ NumC x ∧ Src W x.A x.m .u8 x.B ∧ Bytes x.B := fun i => each i.1 i.2
      refine ⟨List.ofFn fun i => Classical.choose (hch i), by simp, fun i x hx => ?_⟩
      rw [List.getElem?_ofFn] at hx
      split at hx
      · cases hx
        exact Classical.choose_spec (hch ⟨i, by assumption⟩)
      · cases hx
    refine ⟨some a, len, cap, Cs, rfl, hl, by unfold maxLen at hm; omega, ⟨hCl, ?_⟩, fun i x hx => (hCs i x hx).2.1, fun i x hx => (hCs i x hx).2.2, fun h => by cases h⟩
    by_cases h0 : len = 0
    · exact .inl h0
    · right
      obtain ⟨b, off, spot⟩ := a
      have hx0 : Cs[0]? = some Cs[0] := List.getElem?_eq_getElem (by omega)
      have hc0 := (hCs 0 _ hx0).1 0 _ rfl
      have hspot : spot = none := by
        have := World.cell?_spot hc0
        simpa [Addr.add] using this
      subst hspot
      refine ⟨b, off, rfl, World.block_lt_of_cell? W _ hc0, fun i x hx j u hu => ?_⟩
      have := (hCs i x hx).1 j u hu
      rw [addr_add, addr_add] at this
      rw [show off + 5 * i + j = off + i * 5 + j by omega]; exact this
/-- An array of bytes. -/
theorem open_dig {H : Type} {enc : TypeId × Value → H} {W : World} {fuel : Nat} {cs : List Value} {y : DataW H × List MemPlace} (hf : DataW.trod enc Try.prog W 0 (fun _ => true) true fuel 22 cs = some y) : ∃ B : List Int, cs = B.map (Value.int .u8) ∧ B.length = 32 ∧ Bytes B := by
  obtain ⟨xs, n, _, hx, hl, hlen, hfs⟩ := DataW.trod_array Try.underlying22 hf
  have hl32 : cs.length = 32 := hl.trans cells_dig
  have cu : Try.prog.cellsOf 5 = 1 := by kernel_rfl
  have each : ∀ i, i < 32 → ∃ b : Int, cs[i]? = some (.int .u8 b) ∧ 0 ≤ b ∧ b ≤ 255 := fun i hi => by
    have h1 := hfs i hi
    have hxi : xs[i]? = some xs[i] := List.getElem?_eq_getElem (by omega)
    rw [cu, Nat.mul_one, hxi] at h1
    have h4 : (cs.drop i).take 1 = [cs[i]] := by
      rw [List.drop_eq_getElem_cons (by omega)]; rfl
    rw [h4] at h1
    obtain ⟨b, e1, _, wb⟩ := DataW.trod_int Try.underlying5 h1
    simp at e1
    exact ⟨b, by rw [List.getElem?_eq_getElem (by omega), e1], wf_u8b wb⟩
  have hch : ∀ i : Fin 32, ∃ b : Int, cs[i.1]? = some (.int .u8 b) ∧ 0 ≤ b ∧ b ≤ 255 := fun i => each i.1 i.2
  refine ⟨List.ofFn fun i => Classical.choose (hch i), ?_, by simp, fun b hb => ?_⟩
  · apply List.ext_getElem?
    intro i
    by_cases hi : i < 32
    · rw [(Classical.choose_spec (hch ⟨i, hi⟩)).1]
      rw [List.getElem?_map, List.getElem?_ofFn, dif_pos hi]; rfl
    · rw [List.getElem?_eq_none (by omega), List.getElem?_eq_none (by simp; omega)]
  · obtain ⟨i, rfl⟩ := List.mem_ofFn.1 hb
    exact (Classical.choose_spec (hch i)).2
theorem drop_cut {α : Type} (l : List α) (a n : Nat) : l.drop a = (l.drop a).take n ++ l.drop (a + n) := by
  rw [← List.drop_drop, List.take_append_drop]
theorem open_dlt {H : Type} {enc : TypeId × Value → H} {W : World} {base : Nat} {v : Value} {d : DataW H} {ps : List MemPlace} (hv : Value.okWide Try.prog W .any base 25 v)
    (h : DataW.Trod enc Try.prog W 0 (fun _ => true) true 25 v d ps) (hsz : ∀ q ∈ d.weights Try.prog 25, q ≤ reachBytes) :
    ∃ (o n : Int) (H1 H2 : List Int) (A : Option Addr) (m c : Nat) (Cs : List CV), v = .agg ([Value.int .i64 o, Value.int .i64 n] ++ (H1.map (Value.int .u8) ++ (H2.map (Value.int .u8) ++ [Value.slice A m c]))).toArray ∧ (-9223372036854775808 ≤ o ∧ o ≤ 9223372036854775807) ∧ (-9223372036854775808 ≤ n ∧ n ≤ 9223372036854775807) ∧
      H1.length = 32 ∧ H2.length = 32 ∧ Bytes H1 ∧ Bytes H2 ∧ m ≤ c ∧ c ≤ 9223372036854775807 ∧ SrcC W A m Cs ∧ NumsC Cs ∧ DatC W Cs ∧ (A = none → m = 0) := by
  obtain ⟨cs, rfl, hcz⟩ := okWide_struct Try.underlying25 hv
  obtain ⟨fuel, hf⟩ := h
  obtain ⟨xs, n, _, hx, hl, hlen, hfs⟩ := DataW.trod_struct Try.underlying25 hf
  obtain ⟨l⟩ := cs
  have hcells : (Value.agg ⟨l⟩).cells.toList = l := rfl
  rw [hcells] at hl hfs
  have hl67 : l.length = 67 := hl.trans cells_dlt
  obtain ⟨y0, y1, y2, y3, y4, rfl⟩ := list5 (show xs.length = 5 from hlen)
  have ci : Try.prog.cellsOf 3 = 1 := by kernel_rfl
  have cb : Try.prog.cellsOf 23 = 1 := by kernel_rfl
  have g0 : DataW.trod enc Try.prog W 0 (fun _ => true) true n 3 ((l.drop 0).take 1) = some y0 := by have t0 : DataW.trod enc Try.prog W 0 (fun _ => true) true n 3 ((l.drop 0).take (Try.prog.cellsOf 3)) = some y0 := hfs 0 _ rfl; rw [ci] at t0; exact t0
  have g1 : DataW.trod enc Try.prog W 0 (fun _ => true) true n 3 ((l.drop 1).take 1) = some y1 := by have t0 : DataW.trod enc Try.prog W 0 (fun _ => true) true n 3 ((l.drop 1).take (Try.prog.cellsOf 3)) = some y1 := hfs 1 _ rfl; rw [ci] at t0; exact t0
  have g2 : DataW.trod enc Try.prog W 0 (fun _ => true) true n 22 ((l.drop 2).take 32) = some y2 := by have t0 : DataW.trod enc Try.prog W 0 (fun _ => true) true n 22 ((l.drop 2).take (Try.prog.cellsOf 22)) = some y2 := hfs 2 _ rfl; rw [cells_dig] at t0; exact t0
  have g3 : DataW.trod enc Try.prog W 0 (fun _ => true) true n 22 ((l.drop 34).take 32) = some y3 := by have t0 : DataW.trod enc Try.prog W 0 (fun _ => true) true n 22 ((l.drop 34).take (Try.prog.cellsOf 22)) = some y3 := hfs 3 _ rfl; rw [cells_dig] at t0; exact t0
  have g4 : DataW.trod enc Try.prog W 0 (fun _ => true) true n 23 ((l.drop 66).take 1) = some y4 := by have t0 : DataW.trod enc Try.prog W 0 (fun _ => true) true n 23 ((l.drop 66).take (Try.prog.cellsOf 23)) = some y4 := hfs 4 _ rfl; rw [cb] at t0; exact t0
  obtain ⟨o, e0, _, wo⟩ := DataW.trod_int Try.underlying3 g0
  obtain ⟨nn, e1, _, wn⟩ := DataW.trod_int Try.underlying3 g1
  obtain ⟨H1, e2, hH1, b1⟩ := open_dig g2
  obtain ⟨H2, e3, hH2, b2⟩ := open_dig g3
  obtain ⟨u, e4⟩ : ∃ u, (l.drop 66).take 1 = [u] := List.length_eq_one_iff.1 (by rw [List.length_take, List.length_drop, hl67]; rfl)
  rw [e4] at g4
  simp only [Prod.mk.injEq] at hx
  obtain ⟨A, m, c, Cs, rfl, hmc, hcm, hC, hN, hD, hA⟩ := open_cmds g4 (fun q hq => hsz q (by
    rw [hx.1]
    simp only [List.map_cons, List.map_nil, DataW.weights, Try.underlying25, DataW.weightsEach, Array.toList]
    simp only [List.mem_append]
    exact .inr (.inr (.inr (.inr (.inl hq))))))
  refine ⟨o, nn, H1, H2, A, m, c, Cs, ?_, wf_i64b wo, wf_i64b wn, hH1, hH2, b1, b2, hmc, hcm, hC, hN, hD, hA⟩
  congr 1
  have h5 : l = [Value.int .i64 o, Value.int .i64 nn] ++ (H1.map (Value.int .u8) ++ (H2.map (Value.int .u8) ++ [.slice A m c])) := by
    have k0 := drop_cut l 0 1
    have k1 := drop_cut l 1 1
    have k2 := drop_cut l 2 32
    have k3 := drop_cut l 34 32
    have k4 := drop_cut l 66 1
    rw [e0] at k0
    rw [e1] at k1
    rw [e2] at k2
    rw [e3] at k3
    rw [e4, List.drop_of_length_le (i := 66 + 1) (by omega), List.append_nil] at k4
    have k0' : l = [Value.int .i64 o] ++ l.drop 1 := by simpa using k0
    rw [k0', k1, k2, k3, k4]
    simp
  rw [h5]
end Go.Proofs.Ytclmgfcdnokaiaa
namespace Go.Proofs.Ytclmgfcdnokaiaa
set_option linter.unusedVariables false
open Go Go.RowKit Go.ChangeShapes Go.WideShapes Go.ChangeAt Go.Joins Go.Deep
set_option maxRecDepth 100000 in
theorem formatCuts_lifted (os : Os) (started : os.Started) (H : Type) (enc : TypeId × Value → H) :
    ReturnsInHanded {} Try.checked os 7 .any (Rows.formatCutsSpec.pre6 enc Try.prog Try.f7 Rows.formatCutsRow.domain false) (Rows.formatCutsSpec.post enc Try.prog Try.f7 false true false false) := by
  refine returnsInHanded_of_change_sized (C := Try.checked) own_knob started (by kernel_rfl) Try.func7
    (ChangeSpec.witness6 (enc := enc) (C := Try.checked) false ⟨#[], #[.agg #[.int .i64 0, .int .i64 0, .int .u8 0, .int .u8 0, .int .u8 0, .int .u8 0, .int .u8 0, .int .u8 0, .int .u8 0, .int .u8 0, .int .u8 0, .int .u8 0, .int .u8 0, .int .u8 0, .int .u8 0, .int .u8 0, .int .u8 0, .int .u8 0, .int .u8 0, .int .u8 0, .int .u8 0, .int .u8 0, .int .u8 0, .int .u8 0, .int .u8 0, .int .u8 0, .int .u8 0, .int .u8 0, .int .u8 0, .int .u8 0, .int .u8 0, .int .u8 0, .int .u8 0, .int .u8 0, .int .u8 0, .int .u8 0, .int .u8 0, .int .u8 0, .int .u8 0, .int .u8 0, .int .u8 0, .int .u8 0, .int .u8 0, .int .u8 0, .int .u8 0, .int .u8 0, .int .u8 0, .int .u8 0, .int .u8 0, .int .u8 0, .int .u8 0, .int .u8 0, .int .u8 0, .int .u8 0, .int .u8 0, .int .u8 0, .int .u8 0, .int .u8 0, .int .u8 0, .int .u8 0, .int .u8 0, .int .u8 0, .int .u8 0, .int .u8 0, .int .u8 0, .int .u8 0, .slice none 0 0], .int .u16 0], []⟩ 8 (by kernel_rfl) (by kernel_rfl) (by kernel_rfl) (by kernel_rfl)) ?_
  intro W base args ds gs before hval0 hW hcnd hsz0 _
  have hval : ∀ (j : Nat) t v, Try.f7.params[j]? = some t → args[j]? = some v → Value.okWide Try.prog W .any base t v := hval0
  have hW' := hW
  obtain ⟨p, q, hA0, hV, rfl, hfz, hnd⟩ := hW
  have hA : DataW.TrodAll enc Try.prog W 0 (fun _ => true) true Try.f7.params.toList args.toList ds p := hA0
  have hsz : (DataW.weightsEach Try.prog (Try.f7.params.toList ++ Rows.formatCutsSpec.plain.varTypes Try.prog) (ds ++ gs)).all (· ≤ reachBytes) = true := hsz0
  rw [Try.params7] at hA hval hsz
  obtain ⟨v0, vs0, d0, ds0, p0, q0, hargs, rfl, rfl, h0, r0⟩ := trodAll_cons hA
  obtain ⟨v1, vs1, d1, ds1, p1, q1, rfl, rfl, rfl, h1, r1⟩ := trodAll_cons r0
  obtain ⟨rfl, rfl, rfl⟩ := trodAll_nil r1
  obtain rfl : args = #[v0, v1] := by cases args; simp_all
  obtain ⟨rfl, rfl⟩ := trodVars_none hV
  have k0 := h0
  have lt0 : ∀ x ∈ p0, x.block < W.heap.size := by obtain ⟨m, hm⟩ := k0; exact DataW.trod_lt m _ _ _ hm
  have k1 := h1
  have lt1 : ∀ x ∈ p1, x.block < W.heap.size := by obtain ⟨m, hm⟩ := k1; exact DataW.trod_lt m _ _ _ hm
  obtain ⟨od, nd, H1d, H2d, Ad, md, cd, Cd, hv0, bo0, bn0, hH10, hH20, hB10, hB20, hmc0, hcm0, hC0, hN0, hD0, hA0⟩ := open_dlt (hval 0 25 v0 rfl rfl) h0 (fun q hq => of_decide_eq_true (List.all_eq_true.1 hsz q (DataW.weights_mem_each (j := 0) (t := 25) (d := d0) rfl rfl q hq)))
  subst hv0
  obtain ⟨x, hv1, hd1, hp1, wf1⟩ := open_int Try.underlying44 (hval 1 44 v1 rfl rfl) h1
  have bd1 := wf_u16b wf1
  subst hv1
  clear hA0 hval0 hsz0
  refine (formatCuts_w od nd H1d H2d hH10 hH20 Ad md cd Cd x W bo0 bn0 hmc0 hcm0 hN0 hC0 hD0 hA0 hB10 hB20 bd1).mono fun e W' ⟨he, hst⟩ => ?_
  have bel := hst.below
  subst he
  exact ⟨_, rfl, _, _, _, [], _, [], hW', trodAll_mk1 (shut_bool Try.underlying4 _), (trodAll_cons_mk (Below.trod laid_out (by kernel_rfl) (of_decide_eq_true (by kernel_rfl)) k0 bel lt0) (trodAll_cons_mk (Below.trod laid_out (by kernel_rfl) (of_decide_eq_true (by kernel_rfl)) k1 bel lt1) trodAll_mk0)), rfl, bel.frame _, fun h => by cases h⟩

/-- The statement. -/
theorem formatCuts_holds : Rows.FormatCutsSaid :=
  OpenClaim.holds_of_wide 7 Try.f7 rfl rfl rfl rfl rfl rfl rfl ⟨rfl, rfl, rfl, rfl, rfl⟩ rfl rfl rfl rfl rfl (by kernel_rfl) Try.func7 (by kernel_rfl)
    (of_decide_eq_true (by kernel_rfl)) (by unfold Func.isWrapper; first | (rw [if_pos (by decide +kernel)]; kernel_rfl) | (rw [if_neg (by decide +kernel)]; exact ⟨rfl, rfl⟩))
    (fun os started H enc _ => formatCuts_lifted os started H enc)
end Go.Proofs.Ytclmgfcdnokaiaa
