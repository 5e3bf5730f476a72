/-
  The reference: Of.
-/
import Derived.Test.YtdcphpmkhekghaaDoorShaZ
namespace Go.Proofs.YtdcphpmkhekghaaDoor
set_option linter.unusedVariables false
set_option linter.unusedSimpArgs false
open Go Go.RowKit
theorem enters22 : Enters Tryd.prog 22 := ⟨_, Tryd.func22, by kernel_rfl, by kernel_rfl⟩
theorem enters23 : Enters Tryd.prog 23 := ⟨_, Tryd.func23, by kernel_rfl, by kernel_rfl⟩
set_option maxRecDepth 100000 in
set_option maxHeartbeats 400000 in
theorem rof_c (M : List Int) (A : Option Addr) (m c0 : Nat) (w : World) (hsM : Src w A m .u8 M) (hmc : m ≤ c0) (hm : m ≤ 1000) : Calls Tryd.prog 11 #[.slice A m c0] w fun e w' => e = .returned (.agg ((shaM M).map (Value.int .u8)).toArray) ∧ St w [] w' := by
  refine calls_from (args := [.slice A m c0]) Tryd.func11 rfl Tryd.ntmps11 (by simp) ?_
  refine TC.sub (Sub.cons (i := 0) rfl (Sub.nil)) ?_
  refine TC.seq ?_
  refine TC.regionL ?_
  refine TL.alloc (Wants.none rfl) rfl rfl zero24 (cs := (List.replicate 32 0).map (Value.int .u8)) rfl (tot := 32) (by simp) (fun g1 hg1 => ?_)
  refine TL.nil ?_
  refine TE.then ?_
  refine TC.seq ?_
  refine TC.regionL ?_
  refine TL.gets (Wants.none rfl) rfl (Gets.move rfl rfl) ?_
  refine TL.call (ι := Nat × Nat × Nat × Nat) (V := fun y => .agg ([Value.slice (some ⟨y.1, 0, none⟩) 8 y.2.1, Value.slice (some ⟨y.2.2.1, 0, none⟩) 64 y.2.2.2]).toArray) (R := fun y => w.heap.size ≤ y.1 ∧ w.heap.size ≤ y.2.2.1 ∧ 8 ≤ y.2.1 ∧ 64 ≤ y.2.2.2) (H' := fun y => [⟨g1, 24, (List.replicate 32 0).map (Value.int .u8), 32⟩, ⟨y.2.2.1, 48, KT.map (Value.int .u32), y.2.2.2⟩, ⟨y.1, 48, IV.map (Value.int .u32), y.2.1⟩]) (Wants.none rfl) rfl enters23 rfl rfl (fun w hs => (rtable_c w).mono fun e w' ⟨gs, cs, gk, ck, he, h1, h2, h3, h4, hw⟩ => ⟨(gs, cs, gk, ck), he, ⟨Nat.le_trans hs.size h1, Nat.le_trans hs.size h2, h3, h4⟩, st_call (H := [⟨g1, 24, (List.replicate 32 0).map (Value.int .u8), 32⟩]) hs hw (fun d hd => (List.mem_cons.1 hd).elim (fun e => e ▸ h2) (fun hd => (List.mem_singleton.1 hd) ▸ h1))⟩) (fun y hy => ?_)
  obtain ⟨gs, cs, gk, ck⟩ := y
  dsimp only at hy ⊢
  obtain ⟨hgs, hgk, hcs, hck⟩ := hy
  refine TL.call (ι := Unit) (V := fun _ => .agg ((shaM M).map (Value.int .u8)).toArray) (R := fun _ => True) (H' := fun _ => [⟨g1, 24, (List.replicate 32 0).map (Value.int .u8), 32⟩]) (Wants.none rfl) rfl enters22 rfl rfl (fun w hs => (rwith_c M (padM M) (padM M).length rfl rfl (padM_mod M) (padM_le M (by have := hsM.1; omega)) A m c0 gs cs gk ck g1 24 32 ((List.replicate 32 0).map (Value.int .u8)) _ w hsM hmc hm hgs hgk hg1 hcs hck hs).mono fun e w' ⟨he, hw⟩ => ⟨(), he, trivial, hw⟩) (fun _ _ => ?_)
  refine TL.storeW (Wants.none rfl) rfl rfl size24 rfl (vs := (shaM M).map (Value.int .u8)) rfl (by simp [(shaM_len M)]) ints_one (i := 0) (ent := ⟨g1, 24, (List.replicate 32 0).map (Value.int .u8), 32⟩) rfl rfl (by simp []) (H' := [⟨g1, 24, (shaM M).map (Value.int .u8), 32⟩]) rfl ?_
  refine TL.nil ?_
  refine TE.then ?_
  refine TC.ret ?_
  exact TE.retC rfl agg24 size24 rfl (vs := (shaM M).map (Value.int .u8)) (by simp [(shaM_len M)]) (Row.all (i := 0) (ent := ⟨g1, 24, (shaM M).map (Value.int .u8), 32⟩) rfl rfl rfl) (fun w hs => ⟨rfl, (hs.drop (by assumption))⟩)
end Go.Proofs.YtdcphpmkhekghaaDoor
