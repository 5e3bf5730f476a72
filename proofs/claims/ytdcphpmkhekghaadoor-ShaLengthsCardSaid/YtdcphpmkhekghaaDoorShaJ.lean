/-
  ShaNil: the walk.
-/
import Derived.Test.YtdcphpmkhekghaaDoorShaI
namespace Go.Proofs.YtdcphpmkhekghaaDoor
set_option linter.unusedVariables false
set_option linter.unusedSimpArgs false
open Go Go.RowKit


def bump (W : List Int) : Nat → List Int
  | 0 => W
  | k + 1 => (bump W k).set k (addW .u8 ((bump W k).getD k 0) 1)
theorem bump_len (W : List Int) : ∀ k, (bump W k).length = W.length
  | 0 => rfl
  | k + 1 => by simp [bump, bump_len W k]
theorem st_last {w0 w : World} {e a b : Ent} (h : St w0 [e, a] w) : St w0 ([a] ++ [e]) w := ⟨h.os, h.tape, h.output, h.size, fun c hc => h.has c (by simp at hc ⊢; rcases hc with rfl | rfl <;> simp), fun x hx hne => h.old x hx (fun c hc => hne c (by simp at hc ⊢; rcases hc with rfl | rfl <;> simp)), by
  have := h.apart
  simp only [List.pairwise_cons, List.mem_singleton, forall_eq, List.not_mem_nil, false_implies, implies_true, List.Pairwise.nil, and_true] at this
  simp only [List.singleton_append, List.pairwise_cons, List.mem_singleton, forall_eq, List.not_mem_nil, false_implies, implies_true, List.Pairwise.nil, and_true]
  exact fun hc => this hc.symm⟩

set_option maxRecDepth 100000 in
set_option maxHeartbeats 1000000 in
theorem shaNil_walk (w : World) (Pb : List Int) (Ab : Option Addr) (mb cb : Nat) (hsb : Src w Ab mb .u8 Pb) (hlb : mb ≤ cb) (hmb : cb ≤ 9223372036854775807) (h1 : 1 < w.heap.size) (hIV : RowI w 0 0 8 .u32 IV) (hK : RowI w 1 0 64 .u32 KT) : Calls Tryd.prog 8 #[.slice Ab mb cb] w fun e w' => e = .returned (.bool true) ∧ St w [] w' := by
  refine calls_from (args := [.slice Ab mb cb]) Tryd.func8 rfl Tryd.ntmps8 (by simp) ?_
  refine TC.sub (Sub.cons (i := 0) rfl (Sub.nil)) ?_
  refine TC.seq ?_
  refine TC.regionL ?_
  refine TL.gets (Wants.none rfl) rfl (Gets.assign rfl rfl) ?_
  refine TL.nil ?_
  refine TE.then ?_
  refine TC.seq ?_
  refine TC.seq ?_
  refine TC.regionL ?_
  refine TL.gets (Wants.none rfl) rfl (Gets.move rfl rfl) ?_
  refine TL.gets (Wants.none rfl) rfl (Gets.lenSlice rfl Tryd.underlying22 rfl) ?_
  refine TL.gets (Wants.none rfl) rfl (Gets.gtr rfl rfl rfl) ?_
  refine TL.nil ?_
  refine TE.then ?_
  refine TC.split rfl (fun h0 => ?_) (fun h0 => ?_)
  · refine TC.seq ?_
    refine TC.regionL ?_
    refine TL.call0 (Wants.none rfl) rfl enters9 rfl rfl (v := .bool true) (fun w hs => alive_c w (Nat.lt_of_lt_of_le h1 hs.size) (hIV.keepH hs (by omega) ne_nil) (hK.keepH hs h1 ne_nil)) ?_
    refine TL.gets (Wants.none rfl) rfl (Gets.assign rfl rfl) ?_
    refine TL.nil ?_
    refine TE.then ?_
    refine TC.ret ?_
    refine TE.thenR ?_
    exact TE.ret1 rfl rfl (fun w hs => ⟨rfl, hs⟩)
  · refine TC.skip ?_
    refine TE.then ?_
    refine TC.seq ?_
    refine TC.regionL ?_
    refine TL.gets (Wants.none rfl) rfl (Gets.assign rfl rfl) ?_
    refine TL.nil ?_
    refine TE.then ?_
    refine TC.seq ?_
    refine TC.regionL ?_
    refine TL.call (ι := Nat) (V := fun gh1 => .pointer (some ⟨gh1, 0, none⟩)) (R := fun gh1 => w.heap.size ≤ gh1) (H' := fun gh1 => [⟨gh1, 53, IV.map (Value.int .u32) ++ ((List.replicate 64 0).map (Value.int .u8) ++ ([Value.int .i64 (([] : List Int).length : Int)])), 73⟩]) (Wants.none rfl) rfl enters12 rfl rfl (fun w hs => (new_m w (by have := hs.size; omega) (hIV.keepH hs (by omega) ne_nil)).mono fun e w' ⟨g, he, hge, hw⟩ => ⟨g, he, Nat.le_trans hs.size hge, hs.made hw hge⟩) (fun gh1 hgh1 => ?_)
    refine TL.gets (Wants.none rfl) rfl (Gets.assign rfl rfl) ?_
    refine TL.nil ?_
    refine TE.then ?_
    refine TC.seq ?_
    refine TC.seq ?_
    refine TC.regionL ?_
    refine TL.gets (Wants.none rfl) rfl (Gets.move rfl rfl) ?_
    refine TL.gets (Wants.none rfl) rfl (Gets.ptrNil rfl Tryd.underlying28 rfl rfl) ?_
    refine TL.nil ?_
    refine TE.then ?_
    refine TC.sub (Sub.cons (i := 0) rfl (Sub.cons (i := 2) rfl (Sub.cons (i := 3) rfl (Sub.cons (i := 4) rfl (Sub.cons (i := 13) rfl (Sub.nil)))))) ?_
    refine TC.no rfl ?_
    refine TC.skip ?_
    refine TE.then ?_
    refine TC.seq ?_
    refine TC.regionL ?_
    refine TL.emptySlice (Wants.none rfl) rfl rfl Tryd.underlying22 size5 (fun g1 hg1 => ?_)
    refine TL.gets (Wants.none rfl) rfl (Gets.move rfl rfl) ?_
    refine TL.heap (H' := [⟨gh1, 53, IV.map (Value.int .u32) ++ ((List.replicate 64 0).map (Value.int .u8) ++ ([Value.int .i64 (([] : List Int).length : Int)])), 73⟩] ++ [⟨g1, 5, ([] : List Int).map (Value.int .u8), 0⟩]) (fun w hs => st_last (b := ⟨gh1, 53, IV.map (Value.int .u32) ++ ((List.replicate 64 0).map (Value.int .u8) ++ ([Value.int .i64 (([] : List Int).length : Int)])), 73⟩) hs) ?_
    refine TL.appendOwn (Wants.none rfl) rfl rfl Tryd.underlying22 mk5 rfl rfl rfl (W := []) (B := Pb) (.inr ⟨g1, 0, rfl, rfl, hg1, Nat.le_refl _, by unfold maxLen; omega⟩) (fun w hs => hsb.at_ hs (fun b hb => ne_app (ne_cons (by show gh1 ≠ b; omega) ne_nil) (ne_cons (by show g1 ≠ b; omega) ne_nil))) (by simp only [List.length_nil]; omega) (by simp only [List.length_nil]; omega) (fun vo He ho hne => ?_)
    obtain ⟨go, co, rfl, rfl, hgo, hco, hcm⟩ := ho.some (hne (by intro h; cases h))
    rw [List.nil_append] at hco
    unfold maxLen at hcm
    refine TL.heap (H' := [⟨gh1, 53, IV.map (Value.int .u32) ++ ((List.replicate 64 0).map (Value.int .u8) ++ ([Value.int .i64 (([] : List Int).length : Int)])), 73⟩, ⟨go, 5, Pb.map (Value.int .u8), co⟩]) (fun w hs => hs) ?_
    have lb := hsb.1
    refine TL.gets (Wants.none rfl) rfl (Gets.assign rfl rfl) ?_
    refine TL.nil ?_
    refine TE.then ?_
    refine TC.sub (Sub.cons (i := 0) rfl (Sub.cons (i := 2) rfl (Sub.cons (i := 3) rfl (Sub.cons (i := 4) rfl (Sub.cons (i := 5) rfl (Sub.nil)))))) ?_
    refine TC.seq ?_
    refine TC.regionL ?_
    refine TL.gets (Wants.none rfl) rfl (Gets.move rfl rfl) ?_
    refine TL.gets (Wants.none rfl) rfl (Gets.move rfl rfl) ?_
    refine TL.buildSlice (Wants.none rfl) rfl rfl Tryd.underlying34 size22 zero22 rfl (by decide) (by decide) (cells := #[.slice (some ⟨go, 0, none⟩) Pb.length co]) (tot := 1) (by kernel_rfl) (cs := [.slice (some ⟨go, 0, none⟩) Pb.length co]) rfl rfl (fun g2 hg2 => ?_)
    refine TL.call (ι := List Int × List Int) (V := fun s1 => .int .i64 (Pb.length : Int)) (R := fun s1 => HashOK Pb s1.1 s1.2) (H' := fun s1 => [⟨g2, 22, [Value.slice (some ⟨go, 0, none⟩) Pb.length co], 1⟩, ⟨gh1, 53, s1.1.map (Value.int .u32) ++ (s1.2.map (Value.int .u8) ++ ([Value.int .i64 (Pb.length : Int)])), 73⟩, ⟨go, 5, Pb.map (Value.int .u8), co⟩]) (Wants.none rfl) rfl enters13 rfl rfl (fun w hs => (write_m ([] : List Int) IV (List.replicate 64 0) [Pb] Pb (by simp) gh1 (some ⟨g2, 0, none⟩) 1 1 w hash_nil (hs.has (⟨gh1, 53, IV.map (Value.int .u32) ++ ((List.replicate 64 0).map (Value.int .u8) ++ ([Value.int .i64 (([] : List Int).length : Int)])), 73⟩) (by simp)) (partsN_one (hs.has (⟨g2, 22, [Value.slice (some ⟨go, 0, none⟩) Pb.length co], 1⟩) (by simp)) (pairwise_ne hs.apart (i := 0) (j := 1) rfl rfl (by omega)) (srcN_ent (hs.has (⟨go, 5, Pb.map (Value.int .u8), co⟩) (by simp)) rfl (pairwise_ne hs.apart (i := 2) (j := 1) rfl rfl (by omega))) (by omega)) (by omega) (by omega) (by have lb := hsb.1; (try simp only [List.length_append]); omega) (Nat.lt_of_lt_of_le h1 hs.size) (hIV.keepH hs (by omega) (ne_cons (by show g2 ≠ 0; omega) (ne_cons (by show gh1 ≠ 0; omega) (ne_cons (by show go ≠ 0; omega) ne_nil)))) (hK.keepH hs h1 (ne_cons (by show g2 ≠ 1; omega) (ne_cons (by show gh1 ≠ 1; omega) (ne_cons (by show go ≠ 1; omega) ne_nil)))) (by omega)).mono fun e w' ⟨he, st', rs', h1, h2⟩ => ⟨(st', rs'), he.trans (by simp), h1, St.turn (i := 1) (e := ⟨gh1, 53, (st').map (Value.int .u32) ++ ((rs').map (Value.int .u8) ++ ([Value.int .i64 (Pb.length : Int)])), 73⟩) hs rfl rfl h2⟩) (fun s1 hk1 => ?_)
    have hx1 := hk1.len
    have hy1 := hk1.rlen
    refine TL.nil ?_
    refine TE.then ?_
    refine TC.sub (Sub.cons (i := 0) rfl (Sub.cons (i := 2) rfl (Sub.cons (i := 3) rfl (Sub.cons (i := 4) rfl (Sub.cons (i := 5) rfl (Sub.nil)))))) ?_
    refine TC.seq ?_
    refine TC.seq ?_
    refine TC.regionL ?_
    refine TL.gets (Wants.none rfl) rfl (Gets.move rfl rfl) ?_
    refine TL.gets (Wants.none rfl) rfl (Gets.lenSlice rfl Tryd.underlying22 rfl) ?_
    refine TL.gets (Wants.none rfl) rfl (Gets.move rfl rfl) ?_
    refine TL.nil ?_
    refine TE.then ?_
    refine TC.block ?_
    refine TC.loop (ι := Nat) (fun k => [(0, .slice Ab mb cb), (3, .pointer none), (4, .pointer (some ⟨gh1, 0, none⟩)), (5, .slice (some ⟨go, 0, none⟩) Pb.length co), (22, .int .i64 (Pb.length : Int)), (23, .int .i64 (k : Int))]) (fun k => [⟨g2, 22, [Value.slice (some ⟨go, 0, none⟩) Pb.length co], 1⟩, ⟨gh1, 53, s1.1.map (Value.int .u32) ++ (s1.2.map (Value.int .u8) ++ ([Value.int .i64 (Pb.length : Int)])), 73⟩, ⟨go, 5, (bump Pb k).map (Value.int .u8), co⟩]) (fun k => Pb.length - k) (fun k => k ≤ Pb.length) 0 (by omega) (Sub.slice (i := 0) rfl rfl (by first | omega | (dsimp only; omega) | rfl) (by first | omega | (dsimp only; omega) | rfl) (Sub.cons (i := 3) rfl (Sub.cons (i := 4) rfl (Sub.slice (i := 5) rfl rfl (by first | omega | (dsimp only; omega) | rfl) (by first | omega | (dsimp only; omega) | rfl) (Sub.int (i := 22) rfl (by first | omega | rfl) (Sub.int (i := 23) rfl (by first | omega | rfl) (Sub.nil))))))) (fun w h => h) (fun k hC0 => ?_)
    refine TC.seq ?_
    refine TC.regionL ?_
    refine TL.gets (Wants.none rfl) rfl (Gets.lss rfl rfl rfl) ?_
    refine TL.nil ?_
    refine TE.then ?_
    refine TC.seq ?_
    refine TC.split rfl (fun h2 => ?_) (fun h2 => ?_)
    · refine TC.skip ?_
      refine TE.then ?_
      refine TC.seq ?_
      refine TC.block ?_
      refine TC.seq ?_
      refine TC.regionL ?_
      refine TL.gets (Wants.none rfl) rfl (Gets.move rfl rfl) ?_
      refine TL.gets (Wants.none rfl) rfl (Gets.assign rfl rfl) ?_
      refine TL.nil ?_
      refine TE.then ?_
      refine TC.sub (Sub.cons (i := 0) rfl (Sub.cons (i := 3) rfl (Sub.cons (i := 4) rfl (Sub.cons (i := 5) rfl (Sub.cons (i := 6) rfl (Sub.cons (i := 22) rfl (Sub.cons (i := 23) rfl (Sub.nil)))))))) ?_
      refine TC.regionL ?_
      refine TL.gets (Wants.none rfl) rfl (Gets.move rfl rfl) ?_
      refine TL.gets (Wants.none rfl) rfl (Gets.move rfl rfl) ?_
      refine TL.gets (Wants.none rfl) rfl (Gets.idxSlice rfl Tryd.underlying22 size5 rfl rfl (i := k) (by omega) (by omega) (off' := k) (by omega)) ?_
      refine TL.gets (Wants.none rfl) rfl (Gets.load1 rfl agg5 rfl (At.ent (i := 2) (ent := ⟨go, 5, (bump Pb k).map (Value.int .u8), co⟩) (off := k) rfl rfl (by have := ints_get (kd := .u8) (W := bump Pb k) (i := k) (by rw [(bump_len Pb k)]; omega); (first | exact this | (refine Eq.trans ?_ this; congr 1; omega))))) ?_
      refine TL.gets (Wants.none rfl) rfl (Gets.addU rfl rfl rfl) ?_
      refine TL.gets (Wants.none rfl) rfl (Gets.idxSlice rfl Tryd.underlying22 size5 rfl rfl (i := k) (by omega) (by omega) (off' := k) (by omega)) ?_
      refine TL.store1 (Wants.none rfl) rfl rfl size5 rfl rfl rfl (i := 2) rfl rfl (by simp [(bump_len Pb k)] <;> omega) (cs' := ((bump Pb k).set k (addW .u8 ((bump Pb k).getD k 0) 1)).map (Value.int .u8)) (ints_set) (H' := [⟨g2, 22, [Value.slice (some ⟨go, 0, none⟩) Pb.length co], 1⟩, ⟨gh1, 53, s1.1.map (Value.int .u32) ++ (s1.2.map (Value.int .u8) ++ ([Value.int .i64 (Pb.length : Int)])), 73⟩, ⟨go, 5, ((bump Pb k).set k (addW .u8 ((bump Pb k).getD k 0) 1)).map (Value.int .u8), co⟩]) rfl ?_
      refine TL.nil ?_
      refine TE.blockN ?_
      refine TE.then ?_
      refine TC.sub (Sub.cons (i := 0) rfl (Sub.cons (i := 3) rfl (Sub.cons (i := 4) rfl (Sub.cons (i := 5) rfl (Sub.cons (i := 22) rfl (Sub.cons (i := 23) rfl (Sub.nil))))))) ?_
      refine TC.regionL ?_
      refine TL.gets (Wants.none rfl) rfl (Gets.add rfl rfl rfl (r := ((k : Int) + 1)) (w64 (by omega) (by omega))) ?_
      refine TL.gets (Wants.none rfl) rfl (Gets.move rfl rfl) ?_
      refine TL.nil ?_
      exact TE.back (k + 1) (by omega) (by omega) (Sub.slice (i := 0) rfl rfl (by first | omega | (dsimp only; omega) | rfl) (by first | omega | (dsimp only; omega) | rfl) (Sub.cons (i := 3) rfl (Sub.cons (i := 4) rfl (Sub.slice (i := 5) rfl rfl (by first | omega | (dsimp only; omega) | rfl) (by first | omega | (dsimp only; omega) | rfl) (Sub.int (i := 22) rfl (by first | omega | rfl) (Sub.int (i := 23) rfl (by first | omega | rfl) (Sub.nil))))))) (fun w h => h)
    · refine TC.exit ?_
      refine TE.thenX ?_
      refine TE.thenX ?_
      refine TE.blockX ?_
      refine TE.then ?_
      refine TC.seq ?_
      refine TC.regionL ?_
      refine TL.call0 (Wants.none rfl) rfl enters9 rfl rfl (v := .bool true) (fun w hs => alive_c w (Nat.lt_of_lt_of_le h1 hs.size) (hIV.keepH hs (by omega) (ne_cons (by show g2 ≠ 0; omega) (ne_cons (by show gh1 ≠ 0; omega) (ne_cons (by show go ≠ 0; omega) ne_nil)))) (hK.keepH hs h1 (ne_cons (by show g2 ≠ 1; omega) (ne_cons (by show gh1 ≠ 1; omega) (ne_cons (by show go ≠ 1; omega) ne_nil))))) ?_
      refine TL.gets (Wants.none rfl) rfl (Gets.move rfl rfl) ?_
      refine TL.gets (Wants.yes rfl rfl rfl) rfl (Gets.move rfl rfl) ?_
      refine TL.call0 (Wants.yes rfl rfl rfl) rfl enters14 rfl rfl (v := .agg ((shaM Pb).map (Value.int .u8)).toArray) (fun w hs => sum_m Pb s1.1 s1.2 gh1 w hk1 (hs.has (⟨gh1, 53, s1.1.map (Value.int .u32) ++ (s1.2.map (Value.int .u8) ++ ([Value.int .i64 (Pb.length : Int)])), 73⟩) (by simp)) (by have lb := hsb.1; (try simp only [List.length_append]); omega) (Nat.lt_of_lt_of_le h1 hs.size) (hIV.keepH hs (by omega) (ne_cons (by show g2 ≠ 0; omega) (ne_cons (by show gh1 ≠ 0; omega) (ne_cons (by show go ≠ 0; omega) ne_nil)))) (hK.keepH hs h1 (ne_cons (by show g2 ≠ 1; omega) (ne_cons (by show gh1 ≠ 1; omega) (ne_cons (by show go ≠ 1; omega) ne_nil))))) ?_
      refine TL.gets (Wants.yes rfl rfl rfl) rfl (Gets.move rfl rfl) ?_
      refine TL.buildSlice (Wants.yes rfl rfl rfl) rfl rfl Tryd.underlying34 size22 zero22 rfl (by decide) (by decide) (cells := #[.slice Ab mb cb]) (tot := 1) (by kernel_rfl) (cs := [.slice Ab mb cb]) rfl rfl (fun g3 hg3 => ?_)
      refine TL.call0 (Wants.yes rfl rfl rfl) rfl enters10 rfl rfl (v := .agg ((shaM Pb).map (Value.int .u8)).toArray) (fun w hs => of_m [Pb] Pb (by simp) (some ⟨g3, 0, none⟩) 1 1 w (parts_one (hs.has (⟨g3, 22, [Value.slice Ab mb cb], 1⟩) (by simp)) (hsb.at_ hs (fun b hb => (ne_cons (by show g3 ≠ b; omega) (ne_cons (by show g2 ≠ b; omega) (ne_cons (by show gh1 ≠ b; omega) (ne_cons (by show go ≠ b; omega) ne_nil)))))) (by omega)) (Nat.le_refl _) (by omega) (by have lb := hsb.1; (try simp only [List.length_append]); omega) (Nat.lt_of_lt_of_le h1 hs.size) (hIV.keepH hs (by omega) (ne_cons (by show g3 ≠ 0; omega) (ne_cons (by show g2 ≠ 0; omega) (ne_cons (by show gh1 ≠ 0; omega) (ne_cons (by show go ≠ 0; omega) ne_nil))))) (hK.keepH hs h1 (ne_cons (by show g3 ≠ 1; omega) (ne_cons (by show g2 ≠ 1; omega) (ne_cons (by show gh1 ≠ 1; omega) (ne_cons (by show go ≠ 1; omega) ne_nil)))))) ?_
      refine TL.gets (Wants.yes rfl rfl rfl) rfl (Gets.arrSame rfl Tryd.underlying24 Tryd.underlying5 size5 geq24 rfl rfl (shaM_len Pb)) ?_
      refine TL.gets (Wants.none rfl) rfl (Gets.pickT rfl rfl rfl) ?_
      refine TL.gets (Wants.none rfl) rfl (Gets.move rfl rfl) ?_
      refine TL.gets (Wants.yes rfl rfl rfl) rfl (Gets.move rfl rfl) ?_
      refine TL.gets (Wants.yes rfl rfl rfl) rfl (Gets.move rfl rfl) ?_
      refine TL.buildSlice (Wants.yes rfl rfl rfl) rfl rfl Tryd.underlying34 size22 zero22 rfl (by decide) (by decide) (cells := #[.slice Ab mb cb]) (tot := 1) (by kernel_rfl) (cs := [.slice Ab mb cb]) rfl rfl (fun g4 hg4 => ?_)
      refine TL.call0 (Wants.yes rfl rfl rfl) rfl enters13 rfl rfl (v := .int .i64 0) (fun w hs => writeNil_c (some ⟨g4, 0, none⟩) 1 1 w) ?_
      refine TL.gets (Wants.yes rfl rfl rfl) rfl (Gets.isTrue (Gets.eql rfl rfl rfl) rfl) ?_
      refine TL.gets (Wants.none rfl) rfl (Gets.pickT rfl rfl rfl) ?_
      refine TL.gets (Wants.none rfl) rfl (Gets.move rfl rfl) ?_
      refine TL.gets (Wants.yes rfl rfl rfl) rfl (Gets.move rfl rfl) ?_
      refine TL.call0 (Wants.yes rfl rfl rfl) rfl enters14 rfl rfl (v := .agg ((List.replicate 32 (0 : Int)).map (Value.int .u8)).toArray) (fun w hs => sumNil_c w) ?_
      refine TL.gets (Wants.yes rfl rfl rfl) rfl (Gets.build rfl (vs := []) rfl (fun w => by kernel_rfl) (v := .agg ((List.replicate 32 (0 : Int)).map (Value.int .u8)).toArray)) ?_
      refine TL.gets (Wants.yes rfl rfl rfl) rfl (Gets.arrSame rfl Tryd.underlying24 Tryd.underlying5 size5 geq24 rfl rfl (by simp)) ?_
      refine TL.gets (Wants.none rfl) rfl (Gets.pickT rfl rfl rfl) ?_
      refine TL.gets (Wants.none rfl) rfl (Gets.move rfl rfl) ?_
      refine TL.gets (Wants.yes rfl rfl rfl) rfl (Gets.move rfl rfl) ?_
      refine TL.call0 (Wants.yes rfl rfl rfl) rfl enters15 rfl rfl (v := .int .i64 0) (fun w hs => lenNil_c w) ?_
      refine TL.gets (Wants.yes rfl rfl rfl) rfl (Gets.isTrue (Gets.eql rfl rfl rfl) rfl) ?_
      refine TL.gets (Wants.none rfl) rfl (Gets.pickT rfl rfl rfl) ?_
      refine TL.gets (Wants.none rfl) rfl (Gets.move rfl rfl) ?_
      refine TL.gets (Wants.yes rfl rfl rfl) rfl (Gets.move rfl rfl) ?_
      refine TL.call0 (Wants.yes rfl rfl rfl) rfl enters16 rfl rfl (v := .pointer none) (fun w hs => cloneNil_c w) ?_
      refine TL.gets (Wants.yes rfl rfl rfl) rfl (Gets.nilNil rfl Tryd.underlying28 rfl rfl) ?_
      refine TL.gets (Wants.none rfl) rfl (Gets.pickT rfl rfl rfl) ?_
      refine TL.gets (Wants.none rfl) rfl (Gets.assign rfl rfl) ?_
      refine TL.nil ?_
      refine TE.then ?_
      refine TC.ret ?_
      exact TE.ret1 rfl rfl (fun w hs => ⟨rfl, (((((hs.drop (by assumption)).drop (by assumption)).drop (by assumption)).drop (by assumption)).drop (by assumption))⟩)
end Go.Proofs.YtdcphpmkhekghaaDoor
