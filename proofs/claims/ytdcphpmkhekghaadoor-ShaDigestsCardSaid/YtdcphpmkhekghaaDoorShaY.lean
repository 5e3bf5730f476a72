/-
  The reference: Table.
-/
import Derived.Test.YtdcphpmkhekghaaDoorShaX
namespace Go.Proofs.YtdcphpmkhekghaaDoor
set_option linter.unusedVariables false
set_option linter.unusedSimpArgs false
open Go Go.RowKit
theorem agg46 : (isAgg 46).run Tryd.prog = fun w => .ok true w := isAgg_yes Tryd.underlying46 rfl
theorem enters32 : Enters Tryd.prog 32 := ⟨_, Tryd.func32, by kernel_rfl, by kernel_rfl⟩
theorem size46 : (Tryd.prog.info? 46).map (·.size) = some 2 := by kernel_rfl
theorem zero46 : (Tryd.prog.info? 46).bind (·.zero) = some (.agg #[.slice none 0 0, .slice none 0 0]) := by kernel_rfl

theorem rIV_c (w : World) : Calls Tryd.prog 32 #[.int .i64 8, .bool false] w fun e w' => ∃ g c, e = .returned (.slice (some ⟨g, 0, none⟩) 8 c) ∧ w.heap.size ≤ g ∧ 8 ≤ c ∧ St w [⟨g, 48, IV.map (Value.int .u32), c⟩] w' :=
  (rcons2_c 8 18 P8 w p8_is rfl (by omega) (by omega) before8 (by omega) fix8).mono fun e w' ⟨v, He, he, ho, hs⟩ => by
    rw [cons8] at ho
    obtain ⟨g, c, rfl, rfl, hN, hc, hm⟩ := ho.resolve_left (fun h => by have := congrArg List.length h.2.1; simp [IV_len] at this)
    exact ⟨g, c, he, hN, hc, hs⟩
theorem KT_len : KT.length = 64 := by rfl
theorem rKT_c (w : World) : Calls Tryd.prog 32 #[.int .i64 64, .bool true] w fun e w' => ∃ g c, e = .returned (.slice (some ⟨g, 0, none⟩) 64 c) ∧ w.heap.size ≤ g ∧ 64 ≤ c ∧ St w [⟨g, 48, KT.map (Value.int .u32), c⟩] w' :=
  (rcons3_c 64 310 P64 w p64_is rfl (by omega) (by omega) before64 (by omega) fix64).mono fun e w' ⟨v, He, he, ho, hs⟩ => by
    rw [cons64] at ho
    obtain ⟨g, c, rfl, rfl, hN, hc, hm⟩ := ho.resolve_left (fun h => by have := congrArg List.length h.2.1; simp [KT_len] at this)
    exact ⟨g, c, he, hN, hc, hs⟩

set_option maxRecDepth 100000 in
set_option maxHeartbeats 400000 in
theorem rtable_c (w : World) : Calls Tryd.prog 23 #[] w fun e w' => ∃ gs cs gk ck, e = .returned (.agg #[.slice (some ⟨gs, 0, none⟩) 8 cs, .slice (some ⟨gk, 0, none⟩) 64 ck]) ∧ w.heap.size ≤ gs ∧ w.heap.size ≤ gk ∧ 8 ≤ cs ∧ 64 ≤ ck ∧ St w [⟨gk, 48, KT.map (Value.int .u32), ck⟩, ⟨gs, 48, IV.map (Value.int .u32), cs⟩] w' := by
  refine calls_from (args := []) Tryd.func23 rfl Tryd.ntmps23 (by simp) ?_
  refine TC.sub (Sub.nil) ?_
  refine TC.seq ?_
  refine TC.regionL ?_
  refine TL.alloc (Wants.none rfl) rfl rfl zero46 (cs := [Value.slice none 0 0, Value.slice none 0 0]) rfl (tot := 2) (by simp) (fun g1 hg1 => ?_)
  refine TL.nil ?_
  refine TE.then ?_
  refine TC.seq ?_
  refine TC.regionL ?_
  refine TL.call (ι := Nat × Nat) (V := fun x => .slice (some ⟨x.1, 0, none⟩) 8 x.2) (R := fun x => w.heap.size ≤ x.1 ∧ 8 ≤ x.2) (H' := fun x => [⟨x.1, 48, IV.map (Value.int .u32), x.2⟩, ⟨g1, 46, [Value.slice none 0 0, Value.slice none 0 0], 2⟩]) (Wants.none rfl) rfl enters32 rfl rfl (fun w hs => (rIV_c w).mono fun e w' ⟨g, c, he, hge, hc, hw⟩ => ⟨(g, c), he, ⟨Nat.le_trans hs.size hge, hc⟩, hs.made hw hge⟩) (fun x hxs => ?_)
  obtain ⟨gs, cs⟩ := x
  dsimp only at hxs ⊢
  obtain ⟨hgs, hcs⟩ := hxs
  refine TL.call (ι := Nat × Nat) (V := fun x => .slice (some ⟨x.1, 0, none⟩) 64 x.2) (R := fun x => w.heap.size ≤ x.1 ∧ 64 ≤ x.2) (H' := fun x => [⟨x.1, 48, KT.map (Value.int .u32), x.2⟩, ⟨gs, 48, IV.map (Value.int .u32), cs⟩, ⟨g1, 46, [Value.slice none 0 0, Value.slice none 0 0], 2⟩]) (Wants.none rfl) rfl enters32 rfl rfl (fun w hs => (rKT_c w).mono fun e w' ⟨g, c, he, hge, hc, hw⟩ => ⟨(g, c), he, ⟨Nat.le_trans hs.size hge, hc⟩, hs.made hw hge⟩) (fun x hxk => ?_)
  obtain ⟨gk, ck⟩ := x
  dsimp only at hxk ⊢
  obtain ⟨hgk, hck⟩ := hxk
  refine TL.gets (Wants.none rfl) rfl (Gets.build rfl (vs := [(0, Value.slice (some ⟨gs, 0, none⟩) 8 cs), (1, Value.slice (some ⟨gk, 0, none⟩) 64 ck)]) rfl (fun w => by first | rfl | kernel_rfl) (v := .agg ([Value.slice (some ⟨gs, 0, none⟩) 8 cs, Value.slice (some ⟨gk, 0, none⟩) 64 ck]).toArray)) ?_
  refine TL.storeW (Wants.none rfl) rfl rfl size46 rfl (vs := [Value.slice (some ⟨gs, 0, none⟩) 8 cs, Value.slice (some ⟨gk, 0, none⟩) 64 ck]) rfl (by simp []) (by simp [Value.oneCell']) (i := 2) (ent := ⟨g1, 46, [Value.slice none 0 0, Value.slice none 0 0], 2⟩) rfl rfl (by simp []) (H' := [⟨gk, 48, KT.map (Value.int .u32), ck⟩, ⟨gs, 48, IV.map (Value.int .u32), cs⟩, ⟨g1, 46, [Value.slice (some ⟨gs, 0, none⟩) 8 cs, Value.slice (some ⟨gk, 0, none⟩) 64 ck], 2⟩]) rfl ?_
  refine TL.nil ?_
  refine TE.then ?_
  refine TC.ret ?_
  exact TE.retC rfl agg46 size46 rfl (vs := [Value.slice (some ⟨gs, 0, none⟩) 8 cs, Value.slice (some ⟨gk, 0, none⟩) 64 ck]) (by simp []) (Row.all (i := 2) (ent := ⟨g1, 46, [Value.slice (some ⟨gs, 0, none⟩) 8 cs, Value.slice (some ⟨gk, 0, none⟩) 64 ck], 2⟩) rfl rfl rfl) (fun w hs => ⟨gs, cs, gk, ck, rfl, hgs, hgk, hcs, hck, hs.erase (i := 2) rfl hg1⟩)
end Go.Proofs.YtdcphpmkhekghaaDoor
