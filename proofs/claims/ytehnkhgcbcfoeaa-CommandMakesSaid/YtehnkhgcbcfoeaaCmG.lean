/-
  Contracts of Literal and Part.
-/
import Derived.Test.YtehnkhgcbcfoeaaCmF
namespace Go.Proofs.Ytehnkhgcbcfoeaa
set_option linter.unusedVariables false
set_option linter.unusedSimpArgs false
open Go Go.RowKit
theorem enters10 : Enters Try.prog 10 := ⟨_, Try.func10, by kernel_rfl, by kernel_rfl⟩
theorem enters11 : Enters Try.prog 11 := ⟨_, Try.func11, by kernel_rfl, by kernel_rfl⟩
theorem enters13 : Enters Try.prog 13 := ⟨_, Try.func13, by kernel_rfl, by kernel_rfl⟩
theorem enters26 : Enters Try.prog 26 := ⟨_, Try.func26, by kernel_rfl, by kernel_rfl⟩
theorem enters35 : Enters Try.prog 35 := ⟨_, Try.func35, by kernel_rfl, by kernel_rfl⟩
theorem zero25 : (Try.prog.info? 25).bind (·.zero) = some (.slice none 0 0) := by kernel_rfl
set_option maxRecDepth 100000 in
set_option maxHeartbeats 400000 in
theorem literal_c (t : Int) (Ps : List (List Int)) (A : Option Addr) (m c : Nat) (w : World) (hP : PartsO w A m Ps) (hmc : m ≤ c) (hcm : c ≤ 9223372036854775807) (hT : Ps.flatten.length ≤ 140737488355328) : Calls Try.prog 11 #[.int .i64 t, .slice A m c] w fun e w' => ∃ A' c' He, e = .returned (.agg ([Value.int .i64 2, Value.int .i64 t, Value.int .i64 0, Value.int .i64 0, Value.slice A' Ps.flatten.length ((c'))]).toArray) ∧ Own w.heap.size 5 .u8 (.slice A' Ps.flatten.length c') Ps.flatten He ∧ St w He w' := by
  refine calls_from (args := [.int .i64 t, .slice A m c]) Try.func11 rfl Try.ntmps11 (by simp) ?_
  refine TC.sub (Sub.cons (i := 0) rfl (Sub.cons (i := 1) rfl (Sub.nil))) ?_
  refine TC.seq ?_
  refine TC.regionL ?_
  refine TL.alloc (Wants.none rfl) rfl rfl zero27 (cs := [Value.int .i64 0, Value.int .i64 0, Value.int .i64 0, Value.int .i64 0, Value.slice none 0 0]) rfl (tot := 5) (by simp) (fun g1 hg1 => ?_)
  refine TL.nil ?_
  refine TE.then ?_
  refine TC.seq ?_
  refine TC.regionL ?_
  refine TL.gets (Wants.none rfl) rfl (Gets.move rfl rfl) ?_
  refine TL.gets (Wants.none rfl) rfl (Gets.move rfl rfl) ?_
  refine TL.call (ι := Value × List Ent) (V := fun yl => yl.1) (R := fun yl => Own w.heap.size 5 .u8 yl.1 Ps.flatten yl.2) (H' := fun yl => [⟨g1, 27, [Value.int .i64 0, Value.int .i64 0, Value.int .i64 0, Value.int .i64 0, Value.slice none 0 0], 5⟩] ++ yl.2) (Wants.none rfl) rfl enters26 rfl rfl (fun w hs => (concat_c Ps A m c w (hP.at_ hs (fun b hb => (ne_cons (by show g1 ≠ b; omega) ne_nil))) hmc hcm hT).mono fun e w' ⟨v, He, he, ho, hw⟩ => ⟨(v, He), he, own_mono ho hs.size, st_call hs hw ho.new⟩) (fun yl hOl => ?_)
  obtain ⟨vl, Hl⟩ := yl
  dsimp only at hOl ⊢
  obtain ⟨Al, cl, hvl, hcl, hdl⟩ := hOl.form
  subst hvl
  refine TL.gets (Wants.none rfl) rfl (Gets.build rfl (vs := [(0, Value.int .i64 2), (1, Value.int .i64 t), (4, Value.slice Al Ps.flatten.length cl)]) rfl (fun w => by first | rfl | kernel_rfl) (v := .agg ([Value.int .i64 2, Value.int .i64 t, Value.int .i64 0, Value.int .i64 0, Value.slice Al Ps.flatten.length cl]).toArray)) ?_
  refine TL.storeW (Wants.none rfl) rfl rfl size27 rfl (vs := [Value.int .i64 2, Value.int .i64 t, Value.int .i64 0, Value.int .i64 0, Value.slice Al Ps.flatten.length cl]) rfl (by simp []) (by simp [Value.oneCell']) (i := 0) (ent := ⟨g1, 27, [Value.int .i64 0, Value.int .i64 0, Value.int .i64 0, Value.int .i64 0, Value.slice none 0 0], 5⟩) rfl rfl (by simp []) (H' := [⟨g1, 27, [Value.int .i64 2, Value.int .i64 t, Value.int .i64 0, Value.int .i64 0, Value.slice Al Ps.flatten.length cl], 5⟩] ++ Hl) rfl ?_
  refine TL.nil ?_
  refine TE.then ?_
  refine TC.ret ?_
  exact TE.retC rfl agg27 size27 rfl (vs := [Value.int .i64 2, Value.int .i64 t, Value.int .i64 0, Value.int .i64 0, Value.slice Al Ps.flatten.length cl]) rfl (Row.all (i := 0) (ent := ⟨g1, 27, [Value.int .i64 2, Value.int .i64 t, Value.int .i64 0, Value.int .i64 0, Value.slice Al Ps.flatten.length cl], 5⟩) rfl rfl rfl) (fun w hs => ⟨Al, cl, Hl, rfl, hOl, St.drop (H := Hl) hs (by assumption)⟩)


theorem literal1_c (t : Int) (B : List Int) (A : Option Addr) (n c gp tt tot : Nat) (w : World) (hl : Ent.lies ⟨gp, tt, [Value.slice A n c], tot⟩ w) (hsB : Src w A n .u8 B) (hnc : n ≤ c) (h0 : 0 < n) (hn : n ≤ 140737488355328) :
    Calls Try.prog 11 #[.int .i64 t, .slice (some ⟨gp, 0, none⟩) 1 1] w fun e w' => ∃ g c', e = .returned (.agg ([Value.int .i64 2, Value.int .i64 t, Value.int .i64 0, Value.int .i64 0, Value.slice (some ⟨g, 0, none⟩) n c']).toArray) ∧ w.heap.size ≤ g ∧ n ≤ c' ∧ c' ≤ maxLen ∧ St w [⟨g, 5, B.map (Value.int .u8), c'⟩] w' := by
  have hfl : [B].flatten = B := by simp
  have h := literal_c t [B] (some ⟨gp, 0, none⟩) 1 1 w (parts_one hl hsB hnc) (Nat.le_refl _) (by omega) (by rw [hfl, hsB.1]; omega)
  rw [hfl, hsB.1] at h
  refine h.mono fun e w' ⟨A', c', He, he, ho, hw⟩ => ?_
  obtain ⟨g, c2, h1, h2, h3, h4, h5⟩ := own_some ho (by intro h; cases h; omega)
  rw [hsB.1] at h1 h4
  cases h1
  subst h2
  exact ⟨g, c', he, h3, h4, h5, hw⟩

set_option maxRecDepth 100000 in
set_option maxHeartbeats 400000 in
theorem part1 (t f l : Int) (A : Option Addr) (m c : Nat) (p n : Int) (hp : vld p n) (hl : 1 ≤ l) (hm : m = 0) (ht : vld t l) (hf : vld f l) (hn : 1 ≤ n) (hi : inside_ t l p n) (w : World) : Calls Try.prog 22 #[.agg ([Value.int .i64 1, Value.int .i64 t, Value.int .i64 f, Value.int .i64 l, Value.slice A m c]).toArray, .agg ([Value.int .i64 p, Value.int .i64 n]).toArray] w fun e w' => e = .returned (.tuple #[.agg ([Value.int .i64 1, Value.int .i64 p, Value.int .i64 (f + p - t), Value.int .i64 n, Value.slice none 0 0]).toArray, .bool true]) ∧ St w [] w' := by
  refine calls_from (args := [.agg ([Value.int .i64 1, Value.int .i64 t, Value.int .i64 f, Value.int .i64 l, Value.slice A m c]).toArray, .agg ([Value.int .i64 p, Value.int .i64 n]).toArray]) Try.func22 rfl Try.ntmps22 (by simp) ?_
  refine TC.sub (Sub.cons (i := 0) rfl (Sub.cons (i := 1) rfl (Sub.nil))) ?_
  refine TC.seq ?_
  have ht2 := ht
  have hf2 := hf
  have hp2 := hp
  unfold vld at ht2 hf2 hp2
  have hi2 := hi
  unfold inside_ at hi2
  refine TC.regionL ?_
  refine TL.box (Wants.none rfl) rfl rfl rfl (cs := [Value.int .i64 1, Value.int .i64 t, Value.int .i64 f, Value.int .i64 l, Value.slice A m c]) (by simp [Value.cells]) (tot := 5) (by simp []) (fun g1 hg1 => ?_)
  refine TL.box (Wants.none rfl) rfl rfl rfl (cs := [Value.int .i64 p, Value.int .i64 n]) (by simp [Value.cells]) (tot := 2) (by simp []) (fun g2 hg2 => ?_)
  refine TL.alloc (Wants.none rfl) rfl rfl zero27 (cs := [Value.int .i64 0, Value.int .i64 0, Value.int .i64 0, Value.int .i64 0, Value.slice none 0 0]) rfl (tot := 5) (by simp) (fun g3 hg3 => ?_)
  refine TL.gets (Wants.none rfl) rfl (Gets.assign rfl rfl) ?_
  refine TL.nil ?_
  refine TE.then ?_
  refine TC.seq ?_
  refine TC.seq ?_
  refine TC.regionL ?_
  refine TL.gets (Wants.none rfl) rfl (Gets.loadN rfl agg27 size27 rfl (vs := [Value.int .i64 1, Value.int .i64 t, Value.int .i64 f, Value.int .i64 l, Value.slice A m c]) (by simp []) (Row.all (i := 2) (ent := ⟨g1, 27, [Value.int .i64 1, Value.int .i64 t, Value.int .i64 f, Value.int .i64 l, Value.slice A m c], 5⟩) rfl rfl rfl)) ?_
  refine TL.call0 (Wants.none rfl) rfl enters13 rfl rfl (v := .int .i64 0) (fun w hs => (check_c 1 t f l A m c (by omega) (by omega) (by omega) (by omega) w).mono fun e w' h => by rw [(codeV1.2 ⟨by omega, hm, ht, hf⟩)] at h; exact h) ?_
  refine TL.gets (Wants.none rfl) rfl (Gets.isFalse (Gets.neq rfl rfl rfl) (by decide)) ?_
  refine TL.gets (Wants.none rfl) rfl (Gets.move rfl rfl) ?_
  refine TL.gets (Wants.yes rfl rfl rfl) rfl (Gets.loadN rfl agg37 size37 rfl (vs := [Value.int .i64 p, Value.int .i64 n]) (by simp []) (Row.all (i := 1) (ent := ⟨g2, 37, [Value.int .i64 p, Value.int .i64 n], 2⟩) rfl rfl rfl)) ?_
  refine TL.call0 (Wants.yes rfl rfl rfl) rfl enters29 rfl rfl (v := .bool true) (fun w hs => (valid_c p n (by omega) (by omega) w).mono fun e w' h => by rw [decide_eq_true (p := vld p n) hp] at h; exact h) ?_
  refine TL.gets (Wants.yes rfl rfl rfl) rfl (Gets.not rfl rfl) ?_
  refine TL.gets (Wants.none rfl) rfl (Gets.pickF rfl rfl rfl) ?_
  refine TL.nil ?_
  refine TE.then ?_
  refine TC.sub (Sub.cons (i := 2) rfl (Sub.cons (i := 3) rfl (Sub.cons (i := 4) rfl (Sub.cons (i := 5) rfl (Sub.cons (i := 15) rfl (Sub.nil)))))) ?_
  refine TC.no rfl ?_
  refine TC.skip ?_
  refine TE.then ?_
  refine TC.seq ?_
  refine TC.regionL ?_
  refine TL.gets (Wants.none rfl) rfl (Gets.loadN rfl agg27 size27 rfl (vs := [Value.int .i64 1, Value.int .i64 t, Value.int .i64 f, Value.int .i64 l, Value.slice A m c]) (by simp []) (Row.all (i := 2) (ent := ⟨g1, 27, [Value.int .i64 1, Value.int .i64 t, Value.int .i64 f, Value.int .i64 l, Value.slice A m c], 5⟩) rfl rfl rfl)) ?_
  refine TL.call0 (Wants.none rfl) rfl enters27 rfl rfl (v := .agg ([Value.int .i64 t, Value.int .i64 l, Value.int .i64 1, Value.int .i64 f, Value.int .i64 l, Value.bool (decide ((0 : Int) < (m : Int)))]).toArray) (fun w hs => describe1 t f l A m c w) ?_
  refine TL.alloc (Wants.none rfl) rfl rfl zero52 (cs := [Value.int .i64 0, Value.int .i64 0, Value.int .i64 0, Value.int .i64 0, Value.int .i64 0, Value.bool false]) rfl (tot := 6) (by simp) (fun g4 hg4 => ?_)
  refine TL.storeW (Wants.none rfl) rfl rfl size52 rfl (vs := [Value.int .i64 t, Value.int .i64 l, Value.int .i64 1, Value.int .i64 f, Value.int .i64 l, Value.bool (decide ((0 : Int) < (m : Int)))]) rfl (by simp []) (by simp [Value.oneCell']) (i := 0) (ent := ⟨g4, 52, [Value.int .i64 0, Value.int .i64 0, Value.int .i64 0, Value.int .i64 0, Value.int .i64 0, Value.bool false], 6⟩) rfl rfl (by simp []) (H' := [⟨g4, 52, [Value.int .i64 t, Value.int .i64 l, Value.int .i64 1, Value.int .i64 f, Value.int .i64 l, Value.bool (decide ((0 : Int) < (m : Int)))], 6⟩, ⟨g3, 27, [Value.int .i64 0, Value.int .i64 0, Value.int .i64 0, Value.int .i64 0, Value.slice none 0 0], 5⟩, ⟨g2, 37, [Value.int .i64 p, Value.int .i64 n], 2⟩, ⟨g1, 27, [Value.int .i64 1, Value.int .i64 t, Value.int .i64 f, Value.int .i64 l, Value.slice A m c], 5⟩]) rfl ?_
  refine TL.nil ?_
  refine TE.then ?_
  refine TC.seq ?_
  refine TC.seq ?_
  refine TC.regionL ?_
  refine TL.gets (Wants.none rfl) rfl (Gets.fieldAddr rfl Try.underlying37 rfl size3 rfl (off' := 1) (by first | rfl | omega)) ?_
  refine TL.gets (Wants.none rfl) rfl (Gets.load1 rfl agg3 rfl (At.ent (i := 2) (ent := ⟨g2, 37, [Value.int .i64 p, Value.int .i64 n], 2⟩) (off := 1) rfl rfl (by exact rfl))) ?_
  refine TL.gets (Wants.none rfl) rfl (Gets.isFalse (Gets.eql rfl rfl rfl) (by omega)) ?_
  refine TL.gets (Wants.none rfl) rfl (Gets.move rfl rfl) ?_
  refine TL.gets (Wants.yes rfl rfl rfl) rfl (Gets.fieldAddr rfl Try.underlying52 rfl size49 rfl (off' := 0) (by first | rfl | omega)) ?_
  refine TL.gets (Wants.yes rfl rfl rfl) rfl (Gets.loadN rfl agg49 size49 rfl (vs := [Value.int .i64 t, Value.int .i64 l]) rfl (Row.part (i := 0) (ent := ⟨g4, 52, [Value.int .i64 t, Value.int .i64 l, Value.int .i64 1, Value.int .i64 f, Value.int .i64 l, Value.bool (decide ((0 : Int) < (m : Int)))], 6⟩) rfl rfl rfl)) ?_
  refine TL.gets (Wants.yes rfl rfl rfl) rfl (Gets.loadN rfl agg37 size37 rfl (vs := [Value.int .i64 p, Value.int .i64 n]) (by simp []) (Row.all (i := 2) (ent := ⟨g2, 37, [Value.int .i64 p, Value.int .i64 n], 2⟩) rfl rfl rfl)) ?_
  refine TL.call0 (Wants.yes rfl rfl rfl) rfl enters35 rfl rfl (v := .bool true) (fun w hs => (tcontains_c t l p n (by omega) (by omega) w).mono fun e w' h => by rw [decide_eq_true (p := inside_ t l p n) hi] at h; exact h) ?_
  refine TL.gets (Wants.yes rfl rfl rfl) rfl (Gets.not rfl rfl) ?_
  refine TL.gets (Wants.none rfl) rfl (Gets.pickF rfl rfl rfl) ?_
  refine TL.nil ?_
  refine TE.then ?_
  refine TC.sub (Sub.cons (i := 2) rfl (Sub.cons (i := 3) rfl (Sub.cons (i := 4) rfl (Sub.cons (i := 5) rfl (Sub.cons (i := 6) rfl (Sub.cons (i := 28) rfl (Sub.nil))))))) ?_
  refine TC.no rfl ?_
  refine TC.skip ?_
  refine TE.then ?_
  refine TC.seq ?_
  refine TC.regionL ?_
  refine TL.gets (Wants.none rfl) rfl (Gets.fieldAddr rfl Try.underlying37 rfl size3 rfl (off' := 0) (by first | rfl | omega)) ?_
  refine TL.gets (Wants.none rfl) rfl (Gets.load1 rfl agg3 rfl (At.ent (i := 2) (ent := ⟨g2, 37, [Value.int .i64 p, Value.int .i64 n], 2⟩) (off := 0) rfl rfl (by exact rfl))) ?_
  refine TL.gets (Wants.none rfl) rfl (Gets.fieldAddr rfl Try.underlying52 rfl size49 rfl (off' := 0) (by first | rfl | omega)) ?_
  refine TL.gets (Wants.none rfl) rfl (Gets.fieldAddr rfl Try.underlying49 rfl size3 rfl (off' := 0) (by first | rfl | omega)) ?_
  refine TL.gets (Wants.none rfl) rfl (Gets.load1 rfl agg3 rfl (At.ent (i := 0) (ent := ⟨g4, 52, [Value.int .i64 t, Value.int .i64 l, Value.int .i64 1, Value.int .i64 f, Value.int .i64 l, Value.bool (decide ((0 : Int) < (m : Int)))], 6⟩) (off := 0) rfl rfl (by exact rfl))) ?_
  refine TL.gets (Wants.none rfl) rfl (Gets.sub rfl rfl rfl (r := (p - t)) (w64 (by omega) (by omega))) ?_
  refine TL.gets (Wants.none rfl) rfl (Gets.assign rfl rfl) ?_
  refine TL.nil ?_
  refine TE.then ?_
  refine TC.sub (Sub.cons (i := 2) rfl (Sub.cons (i := 3) rfl (Sub.cons (i := 4) rfl (Sub.cons (i := 5) rfl (Sub.cons (i := 6) rfl (Sub.cons (i := 7) rfl (Sub.nil))))))) ?_
  refine TC.seq ?_
  refine TC.seq ?_
  refine TC.regionL ?_
  refine TL.gets (Wants.none rfl) rfl (Gets.fieldAddr rfl Try.underlying52 rfl size50 rfl (off' := 2) (by first | rfl | omega)) ?_
  refine TL.gets (Wants.none rfl) rfl (Gets.load1 rfl agg50 rfl (At.ent (i := 0) (ent := ⟨g4, 52, [Value.int .i64 t, Value.int .i64 l, Value.int .i64 1, Value.int .i64 f, Value.int .i64 l, Value.bool (decide ((0 : Int) < (m : Int)))], 6⟩) (off := 2) rfl rfl (by exact rfl))) ?_
  refine TL.gets (Wants.none rfl) rfl (Gets.isTrue (Gets.eql rfl rfl rfl) rfl) ?_
  refine TL.nil ?_
  refine TE.then ?_
  refine TC.sub (Sub.cons (i := 2) rfl (Sub.cons (i := 3) rfl (Sub.cons (i := 4) rfl (Sub.cons (i := 5) rfl (Sub.cons (i := 7) rfl (Sub.cons (i := 38) rfl (Sub.nil))))))) ?_
  refine TC.yes rfl ?_
  refine TC.seq ?_
  refine TC.regionL ?_
  refine TL.gets (Wants.none rfl) rfl (Gets.fieldAddr rfl Try.underlying37 rfl size3 rfl (off' := 0) (by first | rfl | omega)) ?_
  refine TL.gets (Wants.none rfl) rfl (Gets.load1 rfl agg3 rfl (At.ent (i := 2) (ent := ⟨g2, 37, [Value.int .i64 p, Value.int .i64 n], 2⟩) (off := 0) rfl rfl (by exact rfl))) ?_
  refine TL.gets (Wants.none rfl) rfl (Gets.fieldAddr rfl Try.underlying27 rfl size3 rfl (off' := 2) (by first | rfl | omega)) ?_
  refine TL.gets (Wants.none rfl) rfl (Gets.load1 rfl agg3 rfl (At.ent (i := 3) (ent := ⟨g1, 27, [Value.int .i64 1, Value.int .i64 t, Value.int .i64 f, Value.int .i64 l, Value.slice A m c], 5⟩) (off := 2) rfl rfl (by exact rfl))) ?_
  refine TL.gets (Wants.none rfl) rfl (Gets.move rfl rfl) ?_
  refine TL.gets (Wants.none rfl) rfl (Gets.add rfl rfl rfl (r := (f + p - t)) (w64 (by omega) (by omega))) ?_
  refine TL.gets (Wants.none rfl) rfl (Gets.fieldAddr rfl Try.underlying37 rfl size3 rfl (off' := 1) (by first | rfl | omega)) ?_
  refine TL.gets (Wants.none rfl) rfl (Gets.load1 rfl agg3 rfl (At.ent (i := 2) (ent := ⟨g2, 37, [Value.int .i64 p, Value.int .i64 n], 2⟩) (off := 1) rfl rfl (by exact rfl))) ?_
  refine TL.call0 (Wants.none rfl) rfl enters10 rfl rfl (v := .agg ([Value.int .i64 1, Value.int .i64 p, Value.int .i64 (f + p - t), Value.int .i64 n, Value.slice none 0 0]).toArray) (fun w hs => copy_c p (f + p - t) n w) ?_
  refine TL.storeW (Wants.none rfl) rfl rfl size27 rfl (vs := [Value.int .i64 1, Value.int .i64 p, Value.int .i64 (f + p - t), Value.int .i64 n, Value.slice none 0 0]) rfl (by simp []) (by simp [Value.oneCell']) (i := 1) (ent := ⟨g3, 27, [Value.int .i64 0, Value.int .i64 0, Value.int .i64 0, Value.int .i64 0, Value.slice none 0 0], 5⟩) rfl rfl (by simp []) (H' := [⟨g4, 52, [Value.int .i64 t, Value.int .i64 l, Value.int .i64 1, Value.int .i64 f, Value.int .i64 l, Value.bool (decide ((0 : Int) < (m : Int)))], 6⟩, ⟨g3, 27, [Value.int .i64 1, Value.int .i64 p, Value.int .i64 (f + p - t), Value.int .i64 n, Value.slice none 0 0], 5⟩, ⟨g2, 37, [Value.int .i64 p, Value.int .i64 n], 2⟩, ⟨g1, 27, [Value.int .i64 1, Value.int .i64 t, Value.int .i64 f, Value.int .i64 l, Value.slice A m c], 5⟩]) rfl ?_
  refine TL.gets (Wants.none rfl) rfl (Gets.assign rfl rfl) ?_
  refine TL.nil ?_
  refine TE.then ?_
  refine TC.ret ?_
  refine TE.thenR ?_
  exact TE.ret2C rfl agg27 size27 rfl rfl (vs := [Value.int .i64 1, Value.int .i64 p, Value.int .i64 (f + p - t), Value.int .i64 n, Value.slice none 0 0]) rfl (Row.all (i := 1) (ent := ⟨g3, 27, [Value.int .i64 1, Value.int .i64 p, Value.int .i64 (f + p - t), Value.int .i64 n, Value.slice none 0 0], 5⟩) rfl rfl rfl) (fun w hs => ⟨rfl, ((((hs.drop (by assumption)).drop (by assumption)).drop (by assumption)).drop (by assumption))⟩)

set_option maxRecDepth 100000 in
set_option maxHeartbeats 400000 in
theorem part_zero1 (t f l : Int) (A : Option Addr) (m c : Nat) (p n : Int) (hp : vld p n) (hl : 1 ≤ l) (hm : m = 0) (ht : vld t l) (hf : vld f l) (hn : n = 0) (w : World) : Calls Try.prog 22 #[.agg ([Value.int .i64 1, Value.int .i64 t, Value.int .i64 f, Value.int .i64 l, Value.slice A m c]).toArray, .agg ([Value.int .i64 p, Value.int .i64 n]).toArray] w fun e w' => e = .returned (.tuple #[.agg ([Value.int .i64 0, Value.int .i64 0, Value.int .i64 0, Value.int .i64 0, Value.slice none 0 0]).toArray, .bool false]) ∧ St w [] w' := by
  refine calls_from (args := [.agg ([Value.int .i64 1, Value.int .i64 t, Value.int .i64 f, Value.int .i64 l, Value.slice A m c]).toArray, .agg ([Value.int .i64 p, Value.int .i64 n]).toArray]) Try.func22 rfl Try.ntmps22 (by simp) ?_
  refine TC.sub (Sub.cons (i := 0) rfl (Sub.cons (i := 1) rfl (Sub.nil))) ?_
  refine TC.seq ?_
  have ht2 := ht
  have hf2 := hf
  have hp2 := hp
  unfold vld at ht2 hf2 hp2
  refine TC.regionL ?_
  refine TL.box (Wants.none rfl) rfl rfl rfl (cs := [Value.int .i64 1, Value.int .i64 t, Value.int .i64 f, Value.int .i64 l, Value.slice A m c]) (by simp [Value.cells]) (tot := 5) (by simp []) (fun g1 hg1 => ?_)
  refine TL.box (Wants.none rfl) rfl rfl rfl (cs := [Value.int .i64 p, Value.int .i64 n]) (by simp [Value.cells]) (tot := 2) (by simp []) (fun g2 hg2 => ?_)
  refine TL.alloc (Wants.none rfl) rfl rfl zero27 (cs := [Value.int .i64 0, Value.int .i64 0, Value.int .i64 0, Value.int .i64 0, Value.slice none 0 0]) rfl (tot := 5) (by simp) (fun g3 hg3 => ?_)
  refine TL.gets (Wants.none rfl) rfl (Gets.assign rfl rfl) ?_
  refine TL.nil ?_
  refine TE.then ?_
  refine TC.seq ?_
  refine TC.seq ?_
  refine TC.regionL ?_
  refine TL.gets (Wants.none rfl) rfl (Gets.loadN rfl agg27 size27 rfl (vs := [Value.int .i64 1, Value.int .i64 t, Value.int .i64 f, Value.int .i64 l, Value.slice A m c]) (by simp []) (Row.all (i := 2) (ent := ⟨g1, 27, [Value.int .i64 1, Value.int .i64 t, Value.int .i64 f, Value.int .i64 l, Value.slice A m c], 5⟩) rfl rfl rfl)) ?_
  refine TL.call0 (Wants.none rfl) rfl enters13 rfl rfl (v := .int .i64 0) (fun w hs => (check_c 1 t f l A m c (by omega) (by omega) (by omega) (by omega) w).mono fun e w' h => by rw [(codeV1.2 ⟨by omega, hm, ht, hf⟩)] at h; exact h) ?_
  refine TL.gets (Wants.none rfl) rfl (Gets.isFalse (Gets.neq rfl rfl rfl) (by decide)) ?_
  refine TL.gets (Wants.none rfl) rfl (Gets.move rfl rfl) ?_
  refine TL.gets (Wants.yes rfl rfl rfl) rfl (Gets.loadN rfl agg37 size37 rfl (vs := [Value.int .i64 p, Value.int .i64 n]) (by simp []) (Row.all (i := 1) (ent := ⟨g2, 37, [Value.int .i64 p, Value.int .i64 n], 2⟩) rfl rfl rfl)) ?_
  refine TL.call0 (Wants.yes rfl rfl rfl) rfl enters29 rfl rfl (v := .bool true) (fun w hs => (valid_c p n (by omega) (by omega) w).mono fun e w' h => by rw [decide_eq_true (p := vld p n) hp] at h; exact h) ?_
  refine TL.gets (Wants.yes rfl rfl rfl) rfl (Gets.not rfl rfl) ?_
  refine TL.gets (Wants.none rfl) rfl (Gets.pickF rfl rfl rfl) ?_
  refine TL.nil ?_
  refine TE.then ?_
  refine TC.sub (Sub.cons (i := 2) rfl (Sub.cons (i := 3) rfl (Sub.cons (i := 4) rfl (Sub.cons (i := 5) rfl (Sub.cons (i := 15) rfl (Sub.nil)))))) ?_
  refine TC.no rfl ?_
  refine TC.skip ?_
  refine TE.then ?_
  refine TC.seq ?_
  refine TC.regionL ?_
  refine TL.gets (Wants.none rfl) rfl (Gets.loadN rfl agg27 size27 rfl (vs := [Value.int .i64 1, Value.int .i64 t, Value.int .i64 f, Value.int .i64 l, Value.slice A m c]) (by simp []) (Row.all (i := 2) (ent := ⟨g1, 27, [Value.int .i64 1, Value.int .i64 t, Value.int .i64 f, Value.int .i64 l, Value.slice A m c], 5⟩) rfl rfl rfl)) ?_
  refine TL.call0 (Wants.none rfl) rfl enters27 rfl rfl (v := .agg ([Value.int .i64 t, Value.int .i64 l, Value.int .i64 1, Value.int .i64 f, Value.int .i64 l, Value.bool (decide ((0 : Int) < (m : Int)))]).toArray) (fun w hs => describe1 t f l A m c w) ?_
  refine TL.alloc (Wants.none rfl) rfl rfl zero52 (cs := [Value.int .i64 0, Value.int .i64 0, Value.int .i64 0, Value.int .i64 0, Value.int .i64 0, Value.bool false]) rfl (tot := 6) (by simp) (fun g4 hg4 => ?_)
  refine TL.storeW (Wants.none rfl) rfl rfl size52 rfl (vs := [Value.int .i64 t, Value.int .i64 l, Value.int .i64 1, Value.int .i64 f, Value.int .i64 l, Value.bool (decide ((0 : Int) < (m : Int)))]) rfl (by simp []) (by simp [Value.oneCell']) (i := 0) (ent := ⟨g4, 52, [Value.int .i64 0, Value.int .i64 0, Value.int .i64 0, Value.int .i64 0, Value.int .i64 0, Value.bool false], 6⟩) rfl rfl (by simp []) (H' := [⟨g4, 52, [Value.int .i64 t, Value.int .i64 l, Value.int .i64 1, Value.int .i64 f, Value.int .i64 l, Value.bool (decide ((0 : Int) < (m : Int)))], 6⟩, ⟨g3, 27, [Value.int .i64 0, Value.int .i64 0, Value.int .i64 0, Value.int .i64 0, Value.slice none 0 0], 5⟩, ⟨g2, 37, [Value.int .i64 p, Value.int .i64 n], 2⟩, ⟨g1, 27, [Value.int .i64 1, Value.int .i64 t, Value.int .i64 f, Value.int .i64 l, Value.slice A m c], 5⟩]) rfl ?_
  refine TL.nil ?_
  refine TE.then ?_
  refine TC.seq ?_
  refine TC.seq ?_
  refine TC.regionL ?_
  refine TL.gets (Wants.none rfl) rfl (Gets.fieldAddr rfl Try.underlying37 rfl size3 rfl (off' := 1) (by first | rfl | omega)) ?_
  refine TL.gets (Wants.none rfl) rfl (Gets.load1 rfl agg3 rfl (At.ent (i := 2) (ent := ⟨g2, 37, [Value.int .i64 p, Value.int .i64 n], 2⟩) (off := 1) rfl rfl (by exact rfl))) ?_
  refine TL.gets (Wants.none rfl) rfl (Gets.isTrue (Gets.eql rfl rfl rfl) (by omega)) ?_
  refine TL.gets (Wants.none rfl) rfl (Gets.move rfl rfl) ?_
  refine TL.pass rfl rfl rfl rfl rfl ?_
  refine TL.pass rfl rfl rfl rfl rfl ?_
  refine TL.pass rfl rfl rfl rfl rfl ?_
  refine TL.pass rfl rfl rfl rfl rfl ?_
  refine TL.pass rfl rfl rfl rfl rfl ?_
  refine TL.gets (Wants.none rfl) rfl (Gets.pickT rfl rfl rfl) ?_
  refine TL.nil ?_
  refine TE.then ?_
  refine TC.sub (Sub.cons (i := 2) rfl (Sub.cons (i := 3) rfl (Sub.cons (i := 4) rfl (Sub.cons (i := 5) rfl (Sub.cons (i := 6) rfl (Sub.cons (i := 28) rfl (Sub.nil))))))) ?_
  refine TC.yes rfl ?_
  refine TC.seq ?_
  refine TC.regionL ?_
  refine TL.gets (Wants.none rfl) rfl (Gets.build rfl (vs := []) rfl (fun w => by first | rfl | kernel_rfl) (v := .agg ([Value.int .i64 0, Value.int .i64 0, Value.int .i64 0, Value.int .i64 0, Value.slice none 0 0]).toArray)) ?_
  refine TL.storeW (Wants.none rfl) rfl rfl size27 rfl (vs := [Value.int .i64 0, Value.int .i64 0, Value.int .i64 0, Value.int .i64 0, Value.slice none 0 0]) rfl (by simp []) (by simp [Value.oneCell']) (i := 1) (ent := ⟨g3, 27, [Value.int .i64 0, Value.int .i64 0, Value.int .i64 0, Value.int .i64 0, Value.slice none 0 0], 5⟩) rfl rfl (by simp []) (H' := [⟨g4, 52, [Value.int .i64 t, Value.int .i64 l, Value.int .i64 1, Value.int .i64 f, Value.int .i64 l, Value.bool (decide ((0 : Int) < (m : Int)))], 6⟩, ⟨g3, 27, [Value.int .i64 0, Value.int .i64 0, Value.int .i64 0, Value.int .i64 0, Value.slice none 0 0], 5⟩, ⟨g2, 37, [Value.int .i64 p, Value.int .i64 n], 2⟩, ⟨g1, 27, [Value.int .i64 1, Value.int .i64 t, Value.int .i64 f, Value.int .i64 l, Value.slice A m c], 5⟩]) rfl ?_
  refine TL.gets (Wants.none rfl) rfl (Gets.assign rfl rfl) ?_
  refine TL.nil ?_
  refine TE.then ?_
  refine TC.ret ?_
  refine TE.thenR ?_
  exact TE.ret2C rfl agg27 size27 rfl rfl (vs := [Value.int .i64 0, Value.int .i64 0, Value.int .i64 0, Value.int .i64 0, Value.slice none 0 0]) rfl (Row.all (i := 1) (ent := ⟨g3, 27, [Value.int .i64 0, Value.int .i64 0, Value.int .i64 0, Value.int .i64 0, Value.slice none 0 0], 5⟩) rfl rfl rfl) (fun w hs => ⟨rfl, ((((hs.drop (by assumption)).drop (by assumption)).drop (by assumption)).drop (by assumption))⟩)

set_option maxRecDepth 100000 in
set_option maxHeartbeats 400000 in
theorem part_out1 (t f l : Int) (A : Option Addr) (m c : Nat) (p n : Int) (hp : vld p n) (hl : 1 ≤ l) (hm : m = 0) (ht : vld t l) (hf : vld f l) (hn : ¬ n = 0) (hi : ¬ inside_ t l p n) (w : World) : Calls Try.prog 22 #[.agg ([Value.int .i64 1, Value.int .i64 t, Value.int .i64 f, Value.int .i64 l, Value.slice A m c]).toArray, .agg ([Value.int .i64 p, Value.int .i64 n]).toArray] w fun e w' => e = .returned (.tuple #[.agg ([Value.int .i64 0, Value.int .i64 0, Value.int .i64 0, Value.int .i64 0, Value.slice none 0 0]).toArray, .bool false]) ∧ St w [] w' := by
  refine calls_from (args := [.agg ([Value.int .i64 1, Value.int .i64 t, Value.int .i64 f, Value.int .i64 l, Value.slice A m c]).toArray, .agg ([Value.int .i64 p, Value.int .i64 n]).toArray]) Try.func22 rfl Try.ntmps22 (by simp) ?_
  refine TC.sub (Sub.cons (i := 0) rfl (Sub.cons (i := 1) rfl (Sub.nil))) ?_
  refine TC.seq ?_
  have ht2 := ht
  have hf2 := hf
  have hp2 := hp
  unfold vld at ht2 hf2 hp2
  refine TC.regionL ?_
  refine TL.box (Wants.none rfl) rfl rfl rfl (cs := [Value.int .i64 1, Value.int .i64 t, Value.int .i64 f, Value.int .i64 l, Value.slice A m c]) (by simp [Value.cells]) (tot := 5) (by simp []) (fun g1 hg1 => ?_)
  refine TL.box (Wants.none rfl) rfl rfl rfl (cs := [Value.int .i64 p, Value.int .i64 n]) (by simp [Value.cells]) (tot := 2) (by simp []) (fun g2 hg2 => ?_)
  refine TL.alloc (Wants.none rfl) rfl rfl zero27 (cs := [Value.int .i64 0, Value.int .i64 0, Value.int .i64 0, Value.int .i64 0, Value.slice none 0 0]) rfl (tot := 5) (by simp) (fun g3 hg3 => ?_)
  refine TL.gets (Wants.none rfl) rfl (Gets.assign rfl rfl) ?_
  refine TL.nil ?_
  refine TE.then ?_
  refine TC.seq ?_
  refine TC.seq ?_
  refine TC.regionL ?_
  refine TL.gets (Wants.none rfl) rfl (Gets.loadN rfl agg27 size27 rfl (vs := [Value.int .i64 1, Value.int .i64 t, Value.int .i64 f, Value.int .i64 l, Value.slice A m c]) (by simp []) (Row.all (i := 2) (ent := ⟨g1, 27, [Value.int .i64 1, Value.int .i64 t, Value.int .i64 f, Value.int .i64 l, Value.slice A m c], 5⟩) rfl rfl rfl)) ?_
  refine TL.call0 (Wants.none rfl) rfl enters13 rfl rfl (v := .int .i64 0) (fun w hs => (check_c 1 t f l A m c (by omega) (by omega) (by omega) (by omega) w).mono fun e w' h => by rw [(codeV1.2 ⟨by omega, hm, ht, hf⟩)] at h; exact h) ?_
  refine TL.gets (Wants.none rfl) rfl (Gets.isFalse (Gets.neq rfl rfl rfl) (by decide)) ?_
  refine TL.gets (Wants.none rfl) rfl (Gets.move rfl rfl) ?_
  refine TL.gets (Wants.yes rfl rfl rfl) rfl (Gets.loadN rfl agg37 size37 rfl (vs := [Value.int .i64 p, Value.int .i64 n]) (by simp []) (Row.all (i := 1) (ent := ⟨g2, 37, [Value.int .i64 p, Value.int .i64 n], 2⟩) rfl rfl rfl)) ?_
  refine TL.call0 (Wants.yes rfl rfl rfl) rfl enters29 rfl rfl (v := .bool true) (fun w hs => (valid_c p n (by omega) (by omega) w).mono fun e w' h => by rw [decide_eq_true (p := vld p n) hp] at h; exact h) ?_
  refine TL.gets (Wants.yes rfl rfl rfl) rfl (Gets.not rfl rfl) ?_
  refine TL.gets (Wants.none rfl) rfl (Gets.pickF rfl rfl rfl) ?_
  refine TL.nil ?_
  refine TE.then ?_
  refine TC.sub (Sub.cons (i := 2) rfl (Sub.cons (i := 3) rfl (Sub.cons (i := 4) rfl (Sub.cons (i := 5) rfl (Sub.cons (i := 15) rfl (Sub.nil)))))) ?_
  refine TC.no rfl ?_
  refine TC.skip ?_
  refine TE.then ?_
  refine TC.seq ?_
  refine TC.regionL ?_
  refine TL.gets (Wants.none rfl) rfl (Gets.loadN rfl agg27 size27 rfl (vs := [Value.int .i64 1, Value.int .i64 t, Value.int .i64 f, Value.int .i64 l, Value.slice A m c]) (by simp []) (Row.all (i := 2) (ent := ⟨g1, 27, [Value.int .i64 1, Value.int .i64 t, Value.int .i64 f, Value.int .i64 l, Value.slice A m c], 5⟩) rfl rfl rfl)) ?_
  refine TL.call0 (Wants.none rfl) rfl enters27 rfl rfl (v := .agg ([Value.int .i64 t, Value.int .i64 l, Value.int .i64 1, Value.int .i64 f, Value.int .i64 l, Value.bool (decide ((0 : Int) < (m : Int)))]).toArray) (fun w hs => describe1 t f l A m c w) ?_
  refine TL.alloc (Wants.none rfl) rfl rfl zero52 (cs := [Value.int .i64 0, Value.int .i64 0, Value.int .i64 0, Value.int .i64 0, Value.int .i64 0, Value.bool false]) rfl (tot := 6) (by simp) (fun g4 hg4 => ?_)
  refine TL.storeW (Wants.none rfl) rfl rfl size52 rfl (vs := [Value.int .i64 t, Value.int .i64 l, Value.int .i64 1, Value.int .i64 f, Value.int .i64 l, Value.bool (decide ((0 : Int) < (m : Int)))]) rfl (by simp []) (by simp [Value.oneCell']) (i := 0) (ent := ⟨g4, 52, [Value.int .i64 0, Value.int .i64 0, Value.int .i64 0, Value.int .i64 0, Value.int .i64 0, Value.bool false], 6⟩) rfl rfl (by simp []) (H' := [⟨g4, 52, [Value.int .i64 t, Value.int .i64 l, Value.int .i64 1, Value.int .i64 f, Value.int .i64 l, Value.bool (decide ((0 : Int) < (m : Int)))], 6⟩, ⟨g3, 27, [Value.int .i64 0, Value.int .i64 0, Value.int .i64 0, Value.int .i64 0, Value.slice none 0 0], 5⟩, ⟨g2, 37, [Value.int .i64 p, Value.int .i64 n], 2⟩, ⟨g1, 27, [Value.int .i64 1, Value.int .i64 t, Value.int .i64 f, Value.int .i64 l, Value.slice A m c], 5⟩]) rfl ?_
  refine TL.nil ?_
  refine TE.then ?_
  refine TC.seq ?_
  refine TC.seq ?_
  refine TC.regionL ?_
  refine TL.gets (Wants.none rfl) rfl (Gets.fieldAddr rfl Try.underlying37 rfl size3 rfl (off' := 1) (by first | rfl | omega)) ?_
  refine TL.gets (Wants.none rfl) rfl (Gets.load1 rfl agg3 rfl (At.ent (i := 2) (ent := ⟨g2, 37, [Value.int .i64 p, Value.int .i64 n], 2⟩) (off := 1) rfl rfl (by exact rfl))) ?_
  refine TL.gets (Wants.none rfl) rfl (Gets.isFalse (Gets.eql rfl rfl rfl) hn) ?_
  refine TL.gets (Wants.none rfl) rfl (Gets.move rfl rfl) ?_
  refine TL.gets (Wants.yes rfl rfl rfl) rfl (Gets.fieldAddr rfl Try.underlying52 rfl size49 rfl (off' := 0) (by first | rfl | omega)) ?_
  refine TL.gets (Wants.yes rfl rfl rfl) rfl (Gets.loadN rfl agg49 size49 rfl (vs := [Value.int .i64 t, Value.int .i64 l]) rfl (Row.part (i := 0) (ent := ⟨g4, 52, [Value.int .i64 t, Value.int .i64 l, Value.int .i64 1, Value.int .i64 f, Value.int .i64 l, Value.bool (decide ((0 : Int) < (m : Int)))], 6⟩) rfl rfl rfl)) ?_
  refine TL.gets (Wants.yes rfl rfl rfl) rfl (Gets.loadN rfl agg37 size37 rfl (vs := [Value.int .i64 p, Value.int .i64 n]) (by simp []) (Row.all (i := 2) (ent := ⟨g2, 37, [Value.int .i64 p, Value.int .i64 n], 2⟩) rfl rfl rfl)) ?_
  refine TL.call0 (Wants.yes rfl rfl rfl) rfl enters35 rfl rfl (v := .bool false) (fun w hs => (tcontains_c t l p n (by omega) (by omega) w).mono fun e w' h => by rw [decide_eq_false (p := inside_ t l p n) hi] at h; exact h) ?_
  refine TL.gets (Wants.yes rfl rfl rfl) rfl (Gets.not rfl rfl) ?_
  refine TL.gets (Wants.none rfl) rfl (Gets.pickF rfl rfl rfl) ?_
  refine TL.nil ?_
  refine TE.then ?_
  refine TC.sub (Sub.cons (i := 2) rfl (Sub.cons (i := 3) rfl (Sub.cons (i := 4) rfl (Sub.cons (i := 5) rfl (Sub.cons (i := 6) rfl (Sub.cons (i := 28) rfl (Sub.nil))))))) ?_
  refine TC.yes rfl ?_
  refine TC.seq ?_
  refine TC.regionL ?_
  refine TL.gets (Wants.none rfl) rfl (Gets.build rfl (vs := []) rfl (fun w => by first | rfl | kernel_rfl) (v := .agg ([Value.int .i64 0, Value.int .i64 0, Value.int .i64 0, Value.int .i64 0, Value.slice none 0 0]).toArray)) ?_
  refine TL.storeW (Wants.none rfl) rfl rfl size27 rfl (vs := [Value.int .i64 0, Value.int .i64 0, Value.int .i64 0, Value.int .i64 0, Value.slice none 0 0]) rfl (by simp []) (by simp [Value.oneCell']) (i := 1) (ent := ⟨g3, 27, [Value.int .i64 0, Value.int .i64 0, Value.int .i64 0, Value.int .i64 0, Value.slice none 0 0], 5⟩) rfl rfl (by simp []) (H' := [⟨g4, 52, [Value.int .i64 t, Value.int .i64 l, Value.int .i64 1, Value.int .i64 f, Value.int .i64 l, Value.bool (decide ((0 : Int) < (m : Int)))], 6⟩, ⟨g3, 27, [Value.int .i64 0, Value.int .i64 0, Value.int .i64 0, Value.int .i64 0, Value.slice none 0 0], 5⟩, ⟨g2, 37, [Value.int .i64 p, Value.int .i64 n], 2⟩, ⟨g1, 27, [Value.int .i64 1, Value.int .i64 t, Value.int .i64 f, Value.int .i64 l, Value.slice A m c], 5⟩]) rfl ?_
  refine TL.gets (Wants.none rfl) rfl (Gets.assign rfl rfl) ?_
  refine TL.nil ?_
  refine TE.then ?_
  refine TC.ret ?_
  refine TE.thenR ?_
  exact TE.ret2C rfl agg27 size27 rfl rfl (vs := [Value.int .i64 0, Value.int .i64 0, Value.int .i64 0, Value.int .i64 0, Value.slice none 0 0]) rfl (Row.all (i := 1) (ent := ⟨g3, 27, [Value.int .i64 0, Value.int .i64 0, Value.int .i64 0, Value.int .i64 0, Value.slice none 0 0], 5⟩) rfl rfl rfl) (fun w hs => ⟨rfl, ((((hs.drop (by assumption)).drop (by assumption)).drop (by assumption)).drop (by assumption))⟩)

set_option maxRecDepth 100000 in
set_option maxHeartbeats 400000 in
theorem part_zero2 (t : Int) (A : Option Addr) (m c : Nat) (p n : Int) (hp : vld p n) (h0 : 0 < m) (ht : vld t m) (hmr : m ≤ 9223372036854775807) (hn : n = 0) (w : World) : Calls Try.prog 22 #[.agg ([Value.int .i64 2, Value.int .i64 t, Value.int .i64 0, Value.int .i64 0, Value.slice A m c]).toArray, .agg ([Value.int .i64 p, Value.int .i64 n]).toArray] w fun e w' => e = .returned (.tuple #[.agg ([Value.int .i64 0, Value.int .i64 0, Value.int .i64 0, Value.int .i64 0, Value.slice none 0 0]).toArray, .bool false]) ∧ St w [] w' := by
  refine calls_from (args := [.agg ([Value.int .i64 2, Value.int .i64 t, Value.int .i64 0, Value.int .i64 0, Value.slice A m c]).toArray, .agg ([Value.int .i64 p, Value.int .i64 n]).toArray]) Try.func22 rfl Try.ntmps22 (by simp) ?_
  refine TC.sub (Sub.cons (i := 0) rfl (Sub.cons (i := 1) rfl (Sub.nil))) ?_
  refine TC.seq ?_
  have ht2 := ht
  have hp2 := hp
  unfold vld at ht2 hp2
  refine TC.regionL ?_
  refine TL.box (Wants.none rfl) rfl rfl rfl (cs := [Value.int .i64 2, Value.int .i64 t, Value.int .i64 0, Value.int .i64 0, Value.slice A m c]) (by simp [Value.cells]) (tot := 5) (by simp []) (fun g1 hg1 => ?_)
  refine TL.box (Wants.none rfl) rfl rfl rfl (cs := [Value.int .i64 p, Value.int .i64 n]) (by simp [Value.cells]) (tot := 2) (by simp []) (fun g2 hg2 => ?_)
  refine TL.alloc (Wants.none rfl) rfl rfl zero27 (cs := [Value.int .i64 0, Value.int .i64 0, Value.int .i64 0, Value.int .i64 0, Value.slice none 0 0]) rfl (tot := 5) (by simp) (fun g3 hg3 => ?_)
  refine TL.gets (Wants.none rfl) rfl (Gets.assign rfl rfl) ?_
  refine TL.nil ?_
  refine TE.then ?_
  refine TC.seq ?_
  refine TC.seq ?_
  refine TC.regionL ?_
  refine TL.gets (Wants.none rfl) rfl (Gets.loadN rfl agg27 size27 rfl (vs := [Value.int .i64 2, Value.int .i64 t, Value.int .i64 0, Value.int .i64 0, Value.slice A m c]) (by simp []) (Row.all (i := 2) (ent := ⟨g1, 27, [Value.int .i64 2, Value.int .i64 t, Value.int .i64 0, Value.int .i64 0, Value.slice A m c], 5⟩) rfl rfl rfl)) ?_
  refine TL.call0 (Wants.none rfl) rfl enters13 rfl rfl (v := .int .i64 0) (fun w hs => (check_c 2 t 0 0 A m c (by omega) (by omega) (by omega) (by omega) w).mono fun e w' h => by rw [(codeV2.2 ⟨by omega, rfl, rfl, ht⟩)] at h; exact h) ?_
  refine TL.gets (Wants.none rfl) rfl (Gets.isFalse (Gets.neq rfl rfl rfl) (by decide)) ?_
  refine TL.gets (Wants.none rfl) rfl (Gets.move rfl rfl) ?_
  refine TL.gets (Wants.yes rfl rfl rfl) rfl (Gets.loadN rfl agg37 size37 rfl (vs := [Value.int .i64 p, Value.int .i64 n]) (by simp []) (Row.all (i := 1) (ent := ⟨g2, 37, [Value.int .i64 p, Value.int .i64 n], 2⟩) rfl rfl rfl)) ?_
  refine TL.call0 (Wants.yes rfl rfl rfl) rfl enters29 rfl rfl (v := .bool true) (fun w hs => (valid_c p n (by omega) (by omega) w).mono fun e w' h => by rw [decide_eq_true (p := vld p n) hp] at h; exact h) ?_
  refine TL.gets (Wants.yes rfl rfl rfl) rfl (Gets.not rfl rfl) ?_
  refine TL.gets (Wants.none rfl) rfl (Gets.pickF rfl rfl rfl) ?_
  refine TL.nil ?_
  refine TE.then ?_
  refine TC.sub (Sub.cons (i := 2) rfl (Sub.cons (i := 3) rfl (Sub.cons (i := 4) rfl (Sub.cons (i := 5) rfl (Sub.cons (i := 15) rfl (Sub.nil)))))) ?_
  refine TC.no rfl ?_
  refine TC.skip ?_
  refine TE.then ?_
  refine TC.seq ?_
  refine TC.regionL ?_
  refine TL.gets (Wants.none rfl) rfl (Gets.loadN rfl agg27 size27 rfl (vs := [Value.int .i64 2, Value.int .i64 t, Value.int .i64 0, Value.int .i64 0, Value.slice A m c]) (by simp []) (Row.all (i := 2) (ent := ⟨g1, 27, [Value.int .i64 2, Value.int .i64 t, Value.int .i64 0, Value.int .i64 0, Value.slice A m c], 5⟩) rfl rfl rfl)) ?_
  refine TL.call0 (Wants.none rfl) rfl enters27 rfl rfl (v := .agg ([Value.int .i64 t, Value.int .i64 (m : Int), Value.int .i64 2, Value.int .i64 0, Value.int .i64 0, Value.bool (decide (¬ (0 = 0 ∧ 0 = 0)))]).toArray) (fun w hs => describe2 t 0 0 A m c w) ?_
  refine TL.alloc (Wants.none rfl) rfl rfl zero52 (cs := [Value.int .i64 0, Value.int .i64 0, Value.int .i64 0, Value.int .i64 0, Value.int .i64 0, Value.bool false]) rfl (tot := 6) (by simp) (fun g4 hg4 => ?_)
  refine TL.storeW (Wants.none rfl) rfl rfl size52 rfl (vs := [Value.int .i64 t, Value.int .i64 (m : Int), Value.int .i64 2, Value.int .i64 0, Value.int .i64 0, Value.bool (decide (¬ (0 = 0 ∧ 0 = 0)))]) rfl (by simp []) (by simp [Value.oneCell']) (i := 0) (ent := ⟨g4, 52, [Value.int .i64 0, Value.int .i64 0, Value.int .i64 0, Value.int .i64 0, Value.int .i64 0, Value.bool false], 6⟩) rfl rfl (by simp []) (H' := [⟨g4, 52, [Value.int .i64 t, Value.int .i64 (m : Int), Value.int .i64 2, Value.int .i64 0, Value.int .i64 0, Value.bool (decide (¬ (0 = 0 ∧ 0 = 0)))], 6⟩, ⟨g3, 27, [Value.int .i64 0, Value.int .i64 0, Value.int .i64 0, Value.int .i64 0, Value.slice none 0 0], 5⟩, ⟨g2, 37, [Value.int .i64 p, Value.int .i64 n], 2⟩, ⟨g1, 27, [Value.int .i64 2, Value.int .i64 t, Value.int .i64 0, Value.int .i64 0, Value.slice A m c], 5⟩]) rfl ?_
  refine TL.nil ?_
  refine TE.then ?_
  refine TC.seq ?_
  refine TC.seq ?_
  refine TC.regionL ?_
  refine TL.gets (Wants.none rfl) rfl (Gets.fieldAddr rfl Try.underlying37 rfl size3 rfl (off' := 1) (by first | rfl | omega)) ?_
  refine TL.gets (Wants.none rfl) rfl (Gets.load1 rfl agg3 rfl (At.ent (i := 2) (ent := ⟨g2, 37, [Value.int .i64 p, Value.int .i64 n], 2⟩) (off := 1) rfl rfl (by exact rfl))) ?_
  refine TL.gets (Wants.none rfl) rfl (Gets.isTrue (Gets.eql rfl rfl rfl) (by omega)) ?_
  refine TL.gets (Wants.none rfl) rfl (Gets.move rfl rfl) ?_
  refine TL.pass rfl rfl rfl rfl rfl ?_
  refine TL.pass rfl rfl rfl rfl rfl ?_
  refine TL.pass rfl rfl rfl rfl rfl ?_
  refine TL.pass rfl rfl rfl rfl rfl ?_
  refine TL.pass rfl rfl rfl rfl rfl ?_
  refine TL.gets (Wants.none rfl) rfl (Gets.pickT rfl rfl rfl) ?_
  refine TL.nil ?_
  refine TE.then ?_
  refine TC.sub (Sub.cons (i := 2) rfl (Sub.cons (i := 3) rfl (Sub.cons (i := 4) rfl (Sub.cons (i := 5) rfl (Sub.cons (i := 6) rfl (Sub.cons (i := 28) rfl (Sub.nil))))))) ?_
  refine TC.yes rfl ?_
  refine TC.seq ?_
  refine TC.regionL ?_
  refine TL.gets (Wants.none rfl) rfl (Gets.build rfl (vs := []) rfl (fun w => by first | rfl | kernel_rfl) (v := .agg ([Value.int .i64 0, Value.int .i64 0, Value.int .i64 0, Value.int .i64 0, Value.slice none 0 0]).toArray)) ?_
  refine TL.storeW (Wants.none rfl) rfl rfl size27 rfl (vs := [Value.int .i64 0, Value.int .i64 0, Value.int .i64 0, Value.int .i64 0, Value.slice none 0 0]) rfl (by simp []) (by simp [Value.oneCell']) (i := 1) (ent := ⟨g3, 27, [Value.int .i64 0, Value.int .i64 0, Value.int .i64 0, Value.int .i64 0, Value.slice none 0 0], 5⟩) rfl rfl (by simp []) (H' := [⟨g4, 52, [Value.int .i64 t, Value.int .i64 (m : Int), Value.int .i64 2, Value.int .i64 0, Value.int .i64 0, Value.bool (decide (¬ (0 = 0 ∧ 0 = 0)))], 6⟩, ⟨g3, 27, [Value.int .i64 0, Value.int .i64 0, Value.int .i64 0, Value.int .i64 0, Value.slice none 0 0], 5⟩, ⟨g2, 37, [Value.int .i64 p, Value.int .i64 n], 2⟩, ⟨g1, 27, [Value.int .i64 2, Value.int .i64 t, Value.int .i64 0, Value.int .i64 0, Value.slice A m c], 5⟩]) rfl ?_
  refine TL.gets (Wants.none rfl) rfl (Gets.assign rfl rfl) ?_
  refine TL.nil ?_
  refine TE.then ?_
  refine TC.ret ?_
  refine TE.thenR ?_
  exact TE.ret2C rfl agg27 size27 rfl rfl (vs := [Value.int .i64 0, Value.int .i64 0, Value.int .i64 0, Value.int .i64 0, Value.slice none 0 0]) rfl (Row.all (i := 1) (ent := ⟨g3, 27, [Value.int .i64 0, Value.int .i64 0, Value.int .i64 0, Value.int .i64 0, Value.slice none 0 0], 5⟩) rfl rfl rfl) (fun w hs => ⟨rfl, ((((hs.drop (by assumption)).drop (by assumption)).drop (by assumption)).drop (by assumption))⟩)

set_option maxRecDepth 100000 in
set_option maxHeartbeats 400000 in
theorem part_out2 (t : Int) (A : Option Addr) (m c : Nat) (p n : Int) (hp : vld p n) (h0 : 0 < m) (ht : vld t m) (hmr : m ≤ 9223372036854775807) (hn : ¬ n = 0) (hi : ¬ inside_ t (m : Int) p n) (w : World) : Calls Try.prog 22 #[.agg ([Value.int .i64 2, Value.int .i64 t, Value.int .i64 0, Value.int .i64 0, Value.slice A m c]).toArray, .agg ([Value.int .i64 p, Value.int .i64 n]).toArray] w fun e w' => e = .returned (.tuple #[.agg ([Value.int .i64 0, Value.int .i64 0, Value.int .i64 0, Value.int .i64 0, Value.slice none 0 0]).toArray, .bool false]) ∧ St w [] w' := by
  refine calls_from (args := [.agg ([Value.int .i64 2, Value.int .i64 t, Value.int .i64 0, Value.int .i64 0, Value.slice A m c]).toArray, .agg ([Value.int .i64 p, Value.int .i64 n]).toArray]) Try.func22 rfl Try.ntmps22 (by simp) ?_
  refine TC.sub (Sub.cons (i := 0) rfl (Sub.cons (i := 1) rfl (Sub.nil))) ?_
  refine TC.seq ?_
  have ht2 := ht
  have hp2 := hp
  unfold vld at ht2 hp2
  refine TC.regionL ?_
  refine TL.box (Wants.none rfl) rfl rfl rfl (cs := [Value.int .i64 2, Value.int .i64 t, Value.int .i64 0, Value.int .i64 0, Value.slice A m c]) (by simp [Value.cells]) (tot := 5) (by simp []) (fun g1 hg1 => ?_)
  refine TL.box (Wants.none rfl) rfl rfl rfl (cs := [Value.int .i64 p, Value.int .i64 n]) (by simp [Value.cells]) (tot := 2) (by simp []) (fun g2 hg2 => ?_)
  refine TL.alloc (Wants.none rfl) rfl rfl zero27 (cs := [Value.int .i64 0, Value.int .i64 0, Value.int .i64 0, Value.int .i64 0, Value.slice none 0 0]) rfl (tot := 5) (by simp) (fun g3 hg3 => ?_)
  refine TL.gets (Wants.none rfl) rfl (Gets.assign rfl rfl) ?_
  refine TL.nil ?_
  refine TE.then ?_
  refine TC.seq ?_
  refine TC.seq ?_
  refine TC.regionL ?_
  refine TL.gets (Wants.none rfl) rfl (Gets.loadN rfl agg27 size27 rfl (vs := [Value.int .i64 2, Value.int .i64 t, Value.int .i64 0, Value.int .i64 0, Value.slice A m c]) (by simp []) (Row.all (i := 2) (ent := ⟨g1, 27, [Value.int .i64 2, Value.int .i64 t, Value.int .i64 0, Value.int .i64 0, Value.slice A m c], 5⟩) rfl rfl rfl)) ?_
  refine TL.call0 (Wants.none rfl) rfl enters13 rfl rfl (v := .int .i64 0) (fun w hs => (check_c 2 t 0 0 A m c (by omega) (by omega) (by omega) (by omega) w).mono fun e w' h => by rw [(codeV2.2 ⟨by omega, rfl, rfl, ht⟩)] at h; exact h) ?_
  refine TL.gets (Wants.none rfl) rfl (Gets.isFalse (Gets.neq rfl rfl rfl) (by decide)) ?_
  refine TL.gets (Wants.none rfl) rfl (Gets.move rfl rfl) ?_
  refine TL.gets (Wants.yes rfl rfl rfl) rfl (Gets.loadN rfl agg37 size37 rfl (vs := [Value.int .i64 p, Value.int .i64 n]) (by simp []) (Row.all (i := 1) (ent := ⟨g2, 37, [Value.int .i64 p, Value.int .i64 n], 2⟩) rfl rfl rfl)) ?_
  refine TL.call0 (Wants.yes rfl rfl rfl) rfl enters29 rfl rfl (v := .bool true) (fun w hs => (valid_c p n (by omega) (by omega) w).mono fun e w' h => by rw [decide_eq_true (p := vld p n) hp] at h; exact h) ?_
  refine TL.gets (Wants.yes rfl rfl rfl) rfl (Gets.not rfl rfl) ?_
  refine TL.gets (Wants.none rfl) rfl (Gets.pickF rfl rfl rfl) ?_
  refine TL.nil ?_
  refine TE.then ?_
  refine TC.sub (Sub.cons (i := 2) rfl (Sub.cons (i := 3) rfl (Sub.cons (i := 4) rfl (Sub.cons (i := 5) rfl (Sub.cons (i := 15) rfl (Sub.nil)))))) ?_
  refine TC.no rfl ?_
  refine TC.skip ?_
  refine TE.then ?_
  refine TC.seq ?_
  refine TC.regionL ?_
  refine TL.gets (Wants.none rfl) rfl (Gets.loadN rfl agg27 size27 rfl (vs := [Value.int .i64 2, Value.int .i64 t, Value.int .i64 0, Value.int .i64 0, Value.slice A m c]) (by simp []) (Row.all (i := 2) (ent := ⟨g1, 27, [Value.int .i64 2, Value.int .i64 t, Value.int .i64 0, Value.int .i64 0, Value.slice A m c], 5⟩) rfl rfl rfl)) ?_
  refine TL.call0 (Wants.none rfl) rfl enters27 rfl rfl (v := .agg ([Value.int .i64 t, Value.int .i64 (m : Int), Value.int .i64 2, Value.int .i64 0, Value.int .i64 0, Value.bool (decide (¬ (0 = 0 ∧ 0 = 0)))]).toArray) (fun w hs => describe2 t 0 0 A m c w) ?_
  refine TL.alloc (Wants.none rfl) rfl rfl zero52 (cs := [Value.int .i64 0, Value.int .i64 0, Value.int .i64 0, Value.int .i64 0, Value.int .i64 0, Value.bool false]) rfl (tot := 6) (by simp) (fun g4 hg4 => ?_)
  refine TL.storeW (Wants.none rfl) rfl rfl size52 rfl (vs := [Value.int .i64 t, Value.int .i64 (m : Int), Value.int .i64 2, Value.int .i64 0, Value.int .i64 0, Value.bool (decide (¬ (0 = 0 ∧ 0 = 0)))]) rfl (by simp []) (by simp [Value.oneCell']) (i := 0) (ent := ⟨g4, 52, [Value.int .i64 0, Value.int .i64 0, Value.int .i64 0, Value.int .i64 0, Value.int .i64 0, Value.bool false], 6⟩) rfl rfl (by simp []) (H' := [⟨g4, 52, [Value.int .i64 t, Value.int .i64 (m : Int), Value.int .i64 2, Value.int .i64 0, Value.int .i64 0, Value.bool (decide (¬ (0 = 0 ∧ 0 = 0)))], 6⟩, ⟨g3, 27, [Value.int .i64 0, Value.int .i64 0, Value.int .i64 0, Value.int .i64 0, Value.slice none 0 0], 5⟩, ⟨g2, 37, [Value.int .i64 p, Value.int .i64 n], 2⟩, ⟨g1, 27, [Value.int .i64 2, Value.int .i64 t, Value.int .i64 0, Value.int .i64 0, Value.slice A m c], 5⟩]) rfl ?_
  refine TL.nil ?_
  refine TE.then ?_
  refine TC.seq ?_
  refine TC.seq ?_
  refine TC.regionL ?_
  refine TL.gets (Wants.none rfl) rfl (Gets.fieldAddr rfl Try.underlying37 rfl size3 rfl (off' := 1) (by first | rfl | omega)) ?_
  refine TL.gets (Wants.none rfl) rfl (Gets.load1 rfl agg3 rfl (At.ent (i := 2) (ent := ⟨g2, 37, [Value.int .i64 p, Value.int .i64 n], 2⟩) (off := 1) rfl rfl (by exact rfl))) ?_
  refine TL.gets (Wants.none rfl) rfl (Gets.isFalse (Gets.eql rfl rfl rfl) hn) ?_
  refine TL.gets (Wants.none rfl) rfl (Gets.move rfl rfl) ?_
  refine TL.gets (Wants.yes rfl rfl rfl) rfl (Gets.fieldAddr rfl Try.underlying52 rfl size49 rfl (off' := 0) (by first | rfl | omega)) ?_
  refine TL.gets (Wants.yes rfl rfl rfl) rfl (Gets.loadN rfl agg49 size49 rfl (vs := [Value.int .i64 t, Value.int .i64 (m : Int)]) rfl (Row.part (i := 0) (ent := ⟨g4, 52, [Value.int .i64 t, Value.int .i64 (m : Int), Value.int .i64 2, Value.int .i64 0, Value.int .i64 0, Value.bool (decide (¬ (0 = 0 ∧ 0 = 0)))], 6⟩) rfl rfl rfl)) ?_
  refine TL.gets (Wants.yes rfl rfl rfl) rfl (Gets.loadN rfl agg37 size37 rfl (vs := [Value.int .i64 p, Value.int .i64 n]) (by simp []) (Row.all (i := 2) (ent := ⟨g2, 37, [Value.int .i64 p, Value.int .i64 n], 2⟩) rfl rfl rfl)) ?_
  refine TL.call0 (Wants.yes rfl rfl rfl) rfl enters35 rfl rfl (v := .bool false) (fun w hs => (tcontains_c t (m : Int) p n (by omega) (by omega) w).mono fun e w' h => by rw [decide_eq_false (p := inside_ t (m : Int) p n) hi] at h; exact h) ?_
  refine TL.gets (Wants.yes rfl rfl rfl) rfl (Gets.not rfl rfl) ?_
  refine TL.gets (Wants.none rfl) rfl (Gets.pickF rfl rfl rfl) ?_
  refine TL.nil ?_
  refine TE.then ?_
  refine TC.sub (Sub.cons (i := 2) rfl (Sub.cons (i := 3) rfl (Sub.cons (i := 4) rfl (Sub.cons (i := 5) rfl (Sub.cons (i := 6) rfl (Sub.cons (i := 28) rfl (Sub.nil))))))) ?_
  refine TC.yes rfl ?_
  refine TC.seq ?_
  refine TC.regionL ?_
  refine TL.gets (Wants.none rfl) rfl (Gets.build rfl (vs := []) rfl (fun w => by first | rfl | kernel_rfl) (v := .agg ([Value.int .i64 0, Value.int .i64 0, Value.int .i64 0, Value.int .i64 0, Value.slice none 0 0]).toArray)) ?_
  refine TL.storeW (Wants.none rfl) rfl rfl size27 rfl (vs := [Value.int .i64 0, Value.int .i64 0, Value.int .i64 0, Value.int .i64 0, Value.slice none 0 0]) rfl (by simp []) (by simp [Value.oneCell']) (i := 1) (ent := ⟨g3, 27, [Value.int .i64 0, Value.int .i64 0, Value.int .i64 0, Value.int .i64 0, Value.slice none 0 0], 5⟩) rfl rfl (by simp []) (H' := [⟨g4, 52, [Value.int .i64 t, Value.int .i64 (m : Int), Value.int .i64 2, Value.int .i64 0, Value.int .i64 0, Value.bool (decide (¬ (0 = 0 ∧ 0 = 0)))], 6⟩, ⟨g3, 27, [Value.int .i64 0, Value.int .i64 0, Value.int .i64 0, Value.int .i64 0, Value.slice none 0 0], 5⟩, ⟨g2, 37, [Value.int .i64 p, Value.int .i64 n], 2⟩, ⟨g1, 27, [Value.int .i64 2, Value.int .i64 t, Value.int .i64 0, Value.int .i64 0, Value.slice A m c], 5⟩]) rfl ?_
  refine TL.gets (Wants.none rfl) rfl (Gets.assign rfl rfl) ?_
  refine TL.nil ?_
  refine TE.then ?_
  refine TC.ret ?_
  refine TE.thenR ?_
  exact TE.ret2C rfl agg27 size27 rfl rfl (vs := [Value.int .i64 0, Value.int .i64 0, Value.int .i64 0, Value.int .i64 0, Value.slice none 0 0]) rfl (Row.all (i := 1) (ent := ⟨g3, 27, [Value.int .i64 0, Value.int .i64 0, Value.int .i64 0, Value.int .i64 0, Value.slice none 0 0], 5⟩) rfl rfl rfl) (fun w hs => ⟨rfl, ((((hs.drop (by assumption)).drop (by assumption)).drop (by assumption)).drop (by assumption))⟩)

set_option maxRecDepth 100000 in
set_option maxHeartbeats 400000 in
theorem part2 (t : Int) (B : List Int) (b off m c q n : Nat) (hmc : m ≤ c) (hcm : c ≤ 140737488355328) (hn : 1 ≤ n) (hq : q + n ≤ m) (ht : vld t m) (w : World) (hsA : Src w (some ⟨b, off, none⟩) m .u8 B) : Calls Try.prog 22 #[.agg ([Value.int .i64 2, Value.int .i64 t, Value.int .i64 0, Value.int .i64 0, Value.slice (some ⟨b, off, none⟩) m c]).toArray, .agg ([Value.int .i64 (t + (q : Int)), Value.int .i64 (n : Int)]).toArray] w fun e w' => ∃ g c', e = .returned (.tuple #[.agg ([Value.int .i64 2, Value.int .i64 (t + (q : Int)), Value.int .i64 0, Value.int .i64 0, Value.slice (some ⟨g, 0, none⟩) n c']).toArray, .bool true]) ∧ w.heap.size ≤ g ∧ n ≤ c' ∧ c' ≤ maxLen ∧ St w [⟨g, 5, ((B.drop q).take n).map (Value.int .u8), c'⟩] w' := by
  refine calls_from (args := [.agg ([Value.int .i64 2, Value.int .i64 t, Value.int .i64 0, Value.int .i64 0, Value.slice (some ⟨b, off, none⟩) m c]).toArray, .agg ([Value.int .i64 (t + (q : Int)), Value.int .i64 (n : Int)]).toArray]) Try.func22 rfl Try.ntmps22 (by simp) ?_
  refine TC.sub (Sub.cons (i := 0) rfl (Sub.cons (i := 1) rfl (Sub.nil))) ?_
  refine TC.seq ?_
  have ht2 := ht
  unfold vld at ht2
  have hlq : ((B.drop q).take n).length = n := by rw [List.length_take, List.length_drop, hsA.1]; omega
  have hp : vld (t + (q : Int)) (n : Int) := by unfold vld; omega
  have hi : inside_ t (m : Int) (t + (q : Int)) (n : Int) := by unfold inside_; omega
  refine TC.regionL ?_
  refine TL.box (Wants.none rfl) rfl rfl rfl (cs := [Value.int .i64 2, Value.int .i64 t, Value.int .i64 0, Value.int .i64 0, Value.slice (some ⟨b, off, none⟩) m c]) (by simp [Value.cells]) (tot := 5) (by simp []) (fun g1 hg1 => ?_)
  refine TL.box (Wants.none rfl) rfl rfl rfl (cs := [Value.int .i64 (t + (q : Int)), Value.int .i64 (n : Int)]) (by simp [Value.cells]) (tot := 2) (by simp []) (fun g2 hg2 => ?_)
  refine TL.alloc (Wants.none rfl) rfl rfl zero27 (cs := [Value.int .i64 0, Value.int .i64 0, Value.int .i64 0, Value.int .i64 0, Value.slice none 0 0]) rfl (tot := 5) (by simp) (fun g3 hg3 => ?_)
  refine TL.gets (Wants.none rfl) rfl (Gets.assign rfl rfl) ?_
  refine TL.nil ?_
  refine TE.then ?_
  refine TC.seq ?_
  refine TC.seq ?_
  refine TC.regionL ?_
  refine TL.gets (Wants.none rfl) rfl (Gets.loadN rfl agg27 size27 rfl (vs := [Value.int .i64 2, Value.int .i64 t, Value.int .i64 0, Value.int .i64 0, Value.slice (some ⟨b, off, none⟩) m c]) (by simp []) (Row.all (i := 2) (ent := ⟨g1, 27, [Value.int .i64 2, Value.int .i64 t, Value.int .i64 0, Value.int .i64 0, Value.slice (some ⟨b, off, none⟩) m c], 5⟩) rfl rfl rfl)) ?_
  refine TL.call0 (Wants.none rfl) rfl enters13 rfl rfl (v := .int .i64 0) (fun w hs => (check_c 2 t 0 0 (some ⟨b, off, none⟩) m c (by omega) (by omega) (by omega) (by omega) w).mono fun e w' h => by rw [(codeV2.2 ⟨by omega, rfl, rfl, ht⟩)] at h; exact h) ?_
  refine TL.gets (Wants.none rfl) rfl (Gets.isFalse (Gets.neq rfl rfl rfl) (by decide)) ?_
  refine TL.gets (Wants.none rfl) rfl (Gets.move rfl rfl) ?_
  refine TL.gets (Wants.yes rfl rfl rfl) rfl (Gets.loadN rfl agg37 size37 rfl (vs := [Value.int .i64 (t + (q : Int)), Value.int .i64 (n : Int)]) (by simp []) (Row.all (i := 1) (ent := ⟨g2, 37, [Value.int .i64 (t + (q : Int)), Value.int .i64 (n : Int)], 2⟩) rfl rfl rfl)) ?_
  refine TL.call0 (Wants.yes rfl rfl rfl) rfl enters29 rfl rfl (v := .bool true) (fun w hs => (valid_c (t + (q : Int)) (n : Int) (by omega) (by omega) w).mono fun e w' h => by rw [decide_eq_true (p := vld (t + (q : Int)) (n : Int)) hp] at h; exact h) ?_
  refine TL.gets (Wants.yes rfl rfl rfl) rfl (Gets.not rfl rfl) ?_
  refine TL.gets (Wants.none rfl) rfl (Gets.pickF rfl rfl rfl) ?_
  refine TL.nil ?_
  refine TE.then ?_
  refine TC.sub (Sub.cons (i := 2) rfl (Sub.cons (i := 3) rfl (Sub.cons (i := 4) rfl (Sub.cons (i := 5) rfl (Sub.cons (i := 15) rfl (Sub.nil)))))) ?_
  refine TC.no rfl ?_
  refine TC.skip ?_
  refine TE.then ?_
  refine TC.seq ?_
  refine TC.regionL ?_
  refine TL.gets (Wants.none rfl) rfl (Gets.loadN rfl agg27 size27 rfl (vs := [Value.int .i64 2, Value.int .i64 t, Value.int .i64 0, Value.int .i64 0, Value.slice (some ⟨b, off, none⟩) m c]) (by simp []) (Row.all (i := 2) (ent := ⟨g1, 27, [Value.int .i64 2, Value.int .i64 t, Value.int .i64 0, Value.int .i64 0, Value.slice (some ⟨b, off, none⟩) m c], 5⟩) rfl rfl rfl)) ?_
  refine TL.call0 (Wants.none rfl) rfl enters27 rfl rfl (v := .agg ([Value.int .i64 t, Value.int .i64 (m : Int), Value.int .i64 2, Value.int .i64 0, Value.int .i64 0, Value.bool (decide (¬ (0 = 0 ∧ 0 = 0)))]).toArray) (fun w hs => describe2 t 0 0 (some ⟨b, off, none⟩) m c w) ?_
  refine TL.alloc (Wants.none rfl) rfl rfl zero52 (cs := [Value.int .i64 0, Value.int .i64 0, Value.int .i64 0, Value.int .i64 0, Value.int .i64 0, Value.bool false]) rfl (tot := 6) (by simp) (fun g4 hg4 => ?_)
  refine TL.storeW (Wants.none rfl) rfl rfl size52 rfl (vs := [Value.int .i64 t, Value.int .i64 (m : Int), Value.int .i64 2, Value.int .i64 0, Value.int .i64 0, Value.bool (decide (¬ (0 = 0 ∧ 0 = 0)))]) rfl (by simp []) (by simp [Value.oneCell']) (i := 0) (ent := ⟨g4, 52, [Value.int .i64 0, Value.int .i64 0, Value.int .i64 0, Value.int .i64 0, Value.int .i64 0, Value.bool false], 6⟩) rfl rfl (by simp []) (H' := [⟨g4, 52, [Value.int .i64 t, Value.int .i64 (m : Int), Value.int .i64 2, Value.int .i64 0, Value.int .i64 0, Value.bool (decide (¬ (0 = 0 ∧ 0 = 0)))], 6⟩, ⟨g3, 27, [Value.int .i64 0, Value.int .i64 0, Value.int .i64 0, Value.int .i64 0, Value.slice none 0 0], 5⟩, ⟨g2, 37, [Value.int .i64 (t + (q : Int)), Value.int .i64 (n : Int)], 2⟩, ⟨g1, 27, [Value.int .i64 2, Value.int .i64 t, Value.int .i64 0, Value.int .i64 0, Value.slice (some ⟨b, off, none⟩) m c], 5⟩]) rfl ?_
  refine TL.nil ?_
  refine TE.then ?_
  refine TC.seq ?_
  refine TC.seq ?_
  refine TC.regionL ?_
  refine TL.gets (Wants.none rfl) rfl (Gets.fieldAddr rfl Try.underlying37 rfl size3 rfl (off' := 1) (by first | rfl | omega)) ?_
  refine TL.gets (Wants.none rfl) rfl (Gets.load1 rfl agg3 rfl (At.ent (i := 2) (ent := ⟨g2, 37, [Value.int .i64 (t + (q : Int)), Value.int .i64 (n : Int)], 2⟩) (off := 1) rfl rfl (by exact rfl))) ?_
  refine TL.gets (Wants.none rfl) rfl (Gets.isFalse (Gets.eql rfl rfl rfl) (by omega)) ?_
  refine TL.gets (Wants.none rfl) rfl (Gets.move rfl rfl) ?_
  refine TL.gets (Wants.yes rfl rfl rfl) rfl (Gets.fieldAddr rfl Try.underlying52 rfl size49 rfl (off' := 0) (by first | rfl | omega)) ?_
  refine TL.gets (Wants.yes rfl rfl rfl) rfl (Gets.loadN rfl agg49 size49 rfl (vs := [Value.int .i64 t, Value.int .i64 (m : Int)]) rfl (Row.part (i := 0) (ent := ⟨g4, 52, [Value.int .i64 t, Value.int .i64 (m : Int), Value.int .i64 2, Value.int .i64 0, Value.int .i64 0, Value.bool (decide (¬ (0 = 0 ∧ 0 = 0)))], 6⟩) rfl rfl rfl)) ?_
  refine TL.gets (Wants.yes rfl rfl rfl) rfl (Gets.loadN rfl agg37 size37 rfl (vs := [Value.int .i64 (t + (q : Int)), Value.int .i64 (n : Int)]) (by simp []) (Row.all (i := 2) (ent := ⟨g2, 37, [Value.int .i64 (t + (q : Int)), Value.int .i64 (n : Int)], 2⟩) rfl rfl rfl)) ?_
  refine TL.call0 (Wants.yes rfl rfl rfl) rfl enters35 rfl rfl (v := .bool true) (fun w hs => (tcontains_c t (m : Int) (t + (q : Int)) (n : Int) (by omega) (by omega) w).mono fun e w' h => by rw [decide_eq_true (p := inside_ t (m : Int) (t + (q : Int)) (n : Int)) hi] at h; exact h) ?_
  refine TL.gets (Wants.yes rfl rfl rfl) rfl (Gets.not rfl rfl) ?_
  refine TL.gets (Wants.none rfl) rfl (Gets.pickF rfl rfl rfl) ?_
  refine TL.nil ?_
  refine TE.then ?_
  refine TC.sub (Sub.cons (i := 2) rfl (Sub.cons (i := 3) rfl (Sub.cons (i := 4) rfl (Sub.cons (i := 5) rfl (Sub.cons (i := 6) rfl (Sub.cons (i := 28) rfl (Sub.nil))))))) ?_
  refine TC.no rfl ?_
  refine TC.skip ?_
  refine TE.then ?_
  refine TC.seq ?_
  refine TC.regionL ?_
  refine TL.gets (Wants.none rfl) rfl (Gets.fieldAddr rfl Try.underlying37 rfl size3 rfl (off' := 0) (by first | rfl | omega)) ?_
  refine TL.gets (Wants.none rfl) rfl (Gets.load1 rfl agg3 rfl (At.ent (i := 2) (ent := ⟨g2, 37, [Value.int .i64 (t + (q : Int)), Value.int .i64 (n : Int)], 2⟩) (off := 0) rfl rfl (by exact rfl))) ?_
  refine TL.gets (Wants.none rfl) rfl (Gets.fieldAddr rfl Try.underlying52 rfl size49 rfl (off' := 0) (by first | rfl | omega)) ?_
  refine TL.gets (Wants.none rfl) rfl (Gets.fieldAddr rfl Try.underlying49 rfl size3 rfl (off' := 0) (by first | rfl | omega)) ?_
  refine TL.gets (Wants.none rfl) rfl (Gets.load1 rfl agg3 rfl (At.ent (i := 0) (ent := ⟨g4, 52, [Value.int .i64 t, Value.int .i64 (m : Int), Value.int .i64 2, Value.int .i64 0, Value.int .i64 0, Value.bool (decide (¬ (0 = 0 ∧ 0 = 0)))], 6⟩) (off := 0) rfl rfl (by exact rfl))) ?_
  refine TL.gets (Wants.none rfl) rfl (Gets.sub rfl rfl rfl (r := (q : Int)) (w64 (by omega) (by omega))) ?_
  refine TL.gets (Wants.none rfl) rfl (Gets.assign rfl rfl) ?_
  refine TL.nil ?_
  refine TE.then ?_
  refine TC.sub (Sub.cons (i := 2) rfl (Sub.cons (i := 3) rfl (Sub.cons (i := 4) rfl (Sub.cons (i := 5) rfl (Sub.cons (i := 6) rfl (Sub.cons (i := 7) rfl (Sub.nil))))))) ?_
  refine TC.seq ?_
  refine TC.seq ?_
  refine TC.regionL ?_
  refine TL.gets (Wants.none rfl) rfl (Gets.fieldAddr rfl Try.underlying52 rfl size50 rfl (off' := 2) (by first | rfl | omega)) ?_
  refine TL.gets (Wants.none rfl) rfl (Gets.load1 rfl agg50 rfl (At.ent (i := 0) (ent := ⟨g4, 52, [Value.int .i64 t, Value.int .i64 (m : Int), Value.int .i64 2, Value.int .i64 0, Value.int .i64 0, Value.bool (decide (¬ (0 = 0 ∧ 0 = 0)))], 6⟩) (off := 2) rfl rfl (by exact rfl))) ?_
  refine TL.gets (Wants.none rfl) rfl (Gets.isFalse (Gets.eql rfl rfl rfl) (by decide)) ?_
  refine TL.nil ?_
  refine TE.then ?_
  refine TC.sub (Sub.cons (i := 2) rfl (Sub.cons (i := 3) rfl (Sub.cons (i := 4) rfl (Sub.cons (i := 5) rfl (Sub.cons (i := 7) rfl (Sub.cons (i := 38) rfl (Sub.nil))))))) ?_
  refine TC.no rfl ?_
  refine TC.skip ?_
  refine TE.then ?_
  refine TC.seq ?_
  refine TC.mixS [⟨g4, 52, [Value.int .i64 t, Value.int .i64 (m : Int), Value.int .i64 2, Value.int .i64 0, Value.int .i64 0, Value.bool (decide (¬ (0 = 0 ∧ 0 = 0)))], 6⟩, ⟨g2, 37, [Value.int .i64 (t + (q : Int)), Value.int .i64 (n : Int)], 2⟩, ⟨g1, 27, [Value.int .i64 2, Value.int .i64 t, Value.int .i64 0, Value.int .i64 0, Value.slice (some ⟨b, off, none⟩) m c], 5⟩] [⟨g3, 27, [Value.int .i64 0, Value.int .i64 0, Value.int .i64 0, Value.int .i64 0, Value.slice none 0 0], 5⟩] (by kernel_rfl) [0, 1, 0, 1, 0, 0, 0, 1, 0, 0, 3, 6, 4, 0] [0, 1, 2, 3, 4, 5, 6, 7, 8, 9, 10, 11, 12, 13] [fun _ _ => True, fun _ _ => True, fun _ _ => True, fun _ _ => True, fun _ _ => True, fun _ _ => True, fun _ _ => True, fun _ _ => True, fun _ _ => True, fun _ _ => True, fun v d => ∃ g, v = .slice (some ⟨g, 0, none⟩) 1 1 ∧ d = [⟨g, 25, [.slice (some ⟨b, (off + q), none⟩) n (c - q)], 1⟩], fun v e => ∃ yk : Nat × Nat, (n ≤ yk.2 ∧ yk.2 ≤ maxLen) ∧ v = .agg ([Value.int .i64 2, Value.int .i64 (t + (q : Int)), Value.int .i64 0, Value.int .i64 0, Value.slice (some ⟨yk.1, 0, none⟩) n yk.2]).toArray ∧ e = [⟨yk.1, 5, ((B.drop q).take n).map (Value.int .u8), yk.2⟩], fun _ _ => True, fun _ _ => True] (by kernel_rfl) (by kernel_rfl) (perm_pick (p := [0, 2, 3, 1]) (by kernel_rfl) rfl) (Fresh.cons (by assumption) Fresh.nil) ?_
  refine TR.free (Wants.none rfl) rfl (fun _ => Gets.fieldAddr rfl Try.underlying37 rfl size3 rfl (off' := 0) (by first | rfl | omega)) ?_
  refine TR.gets (Wants.none rfl) rfl (fun Z hZ => Gets.load1 rfl agg3 rfl (At.ent (i := 1) (ent := ⟨g2, 37, [Value.int .i64 (t + (q : Int)), Value.int .i64 (n : Int)], 2⟩) (off := 0) rfl rfl (by exact rfl))) ?_
  refine TR.free (Wants.none rfl) rfl (fun _ => Gets.fieldAddr rfl Try.underlying27 rfl size25 rfl (off' := 4) (by first | rfl | omega)) ?_
  refine TR.gets (Wants.none rfl) rfl (fun Z hZ => Gets.load1 rfl agg25 rfl (At.ent (i := 2) (ent := ⟨g1, 27, [Value.int .i64 2, Value.int .i64 t, Value.int .i64 0, Value.int .i64 0, Value.slice (some ⟨b, off, none⟩) m c], 5⟩) (off := 4) rfl rfl (by exact rfl))) ?_
  refine TR.free (Wants.none rfl) rfl (fun _ => Gets.move rfl rfl) ?_
  refine TR.free (Wants.none rfl) rfl (fun _ => Gets.move rfl rfl) ?_
  refine TR.free (Wants.none rfl) rfl (fun _ => Gets.fieldAddr rfl Try.underlying37 rfl size3 rfl (off' := 1) (by first | rfl | omega)) ?_
  refine TR.gets (Wants.none rfl) rfl (fun Z hZ => Gets.load1 rfl agg3 rfl (At.ent (i := 1) (ent := ⟨g2, 37, [Value.int .i64 (t + (q : Int)), Value.int .i64 (n : Int)], 2⟩) (off := 1) rfl rfl (by exact rfl))) ?_
  refine TR.free (Wants.none rfl) rfl (fun _ => Gets.add rfl rfl rfl (r := ((q : Int) + (n : Int))) (w64 (by omega) (by omega))) ?_
  refine TR.free (Wants.none rfl) rfl (fun _ => Gets.sliceS rfl Try.underlying25 size5 rfl (bnd.at_ (l := q) rfl (by omega)) (bnd.at_ (l := (q + n)) rfl (by omega)) (by omega) (by omega) (A' := some ⟨b, (off + q), none⟩) (cut_is (by omega) (by omega)) (ln := n) (cp := (c - q)) (by omega) (by omega)) ?_
  refine TR.buildSlice (Wants.none rfl) rfl rfl Try.underlying23 size25 zero25 rfl (by decide) (by decide) (cells := #[.slice (some ⟨b, (off + q), none⟩) n (c - q)]) (tot := 1) (by kernel_rfl) (cs := [.slice (some ⟨b, (off + q), none⟩) n (c - q)]) rfl rfl (fun g5 hg5 => ?_)
  refine TR.call6 (ι := Nat × Nat) (V := fun yk => .agg ([Value.int .i64 2, Value.int .i64 (t + (q : Int)), Value.int .i64 0, Value.int .i64 0, Value.slice (some ⟨yk.1, 0, none⟩) n yk.2]).toArray) (R := fun yk => n ≤ yk.2 ∧ yk.2 ≤ maxLen) (E := fun yk => [⟨yk.1, 5, ((B.drop q).take n).map (Value.int .u8), yk.2⟩]) (Wants.none rfl) rfl enters11 rfl rfl (fun Z w hZ hs => (show Calls Try.prog 11 #[.int .i64 (t + (q : Int)), .slice (some ⟨g5, 0, none⟩) 1 1] w (fun e w' => ∃ yk : Nat × Nat, e = .returned (.agg ([Value.int .i64 2, Value.int .i64 (t + (q : Int)), Value.int .i64 0, Value.int .i64 0, Value.slice (some ⟨yk.1, 0, none⟩) n yk.2]).toArray) ∧ (n ≤ yk.2 ∧ yk.2 ≤ maxLen) ∧ w.heap.size ≤ (⟨yk.1, 5, ((B.drop q).take n).map (Value.int .u8), yk.2⟩ : Ent).g ∧ St w [⟨yk.1, 5, ((B.drop q).take n).map (Value.int .u8), yk.2⟩] w') from (literal1_c (t + (q : Int)) ((B.drop q).take n) (some ⟨b, (off + q), none⟩) n (c - q) g5 25 1 w (hs.has (⟨g5, 25, [Value.slice (some ⟨b, (off + q), none⟩) n (c - q)], 1⟩) (by simp)) ((hsA.at_ hs (fun b hb => (ne_app (ne_cons (by show g4 ≠ b; omega) (ne_cons (by show g2 ≠ b; omega) (ne_cons (by show g1 ≠ b; omega) ne_nil))) (ne_app (ne_cons (by show g5 ≠ b; omega) ne_nil) (hZ.ne hb))))).cut (l := q) (n := n) (by omega)) (by omega) (by omega) (by omega)).mono fun e w' ⟨gv, cv, he, hgv, hcv, hmv, hw⟩ => ⟨(gv, cv), he, ⟨hcv, hmv⟩, hgv, hw⟩).mono fun e w' ⟨x, he, hR, hE, hw⟩ => ⟨x, he, hR, fresh_one hE, hw⟩) (fun yk hRk hEk => ?_)
  have hEk := fresh_head hEk
  obtain ⟨gk, ck⟩ := yk
  dsimp only at hRk hEk ⊢
  obtain ⟨hck, hmk⟩ := hRk
  unfold maxLen at hmk
  refine TR.storeW (Wants.none rfl) rfl rfl size27 rfl (vs := [Value.int .i64 2, Value.int .i64 (t + (q : Int)), Value.int .i64 0, Value.int .i64 0, Value.slice (some ⟨gk, 0, none⟩) n ck]) rfl rfl (by simp [Value.oneCell']) (i := 0) (ent := ⟨g3, 27, [Value.int .i64 0, Value.int .i64 0, Value.int .i64 0, Value.int .i64 0, Value.slice none 0 0], 5⟩) rfl rfl rfl (D' := [⟨g3, 27, [Value.int .i64 2, Value.int .i64 (t + (q : Int)), Value.int .i64 0, Value.int .i64 0, Value.slice (some ⟨gk, 0, none⟩) n ck], 5⟩]) rfl (Fresh.cons (by assumption) Fresh.nil) ?_
  refine TR.free (Wants.none rfl) rfl (fun _ => Gets.assign rfl rfl) ?_
  refine TR.nil ?_
  refine TE.then ?_
  refine TC.ret ?_
  exact TE.ret2C rfl agg27 size27 rfl rfl (vs := [Value.int .i64 2, Value.int .i64 (t + (q : Int)), Value.int .i64 0, Value.int .i64 0, Value.slice (some ⟨gk, 0, none⟩) n ck]) rfl (Row.all (i := 5) (ent := ⟨g3, 27, [Value.int .i64 2, Value.int .i64 (t + (q : Int)), Value.int .i64 0, Value.int .i64 0, Value.slice (some ⟨gk, 0, none⟩) n ck], 5⟩) rfl rfl rfl) (fun w hs => ⟨gk, ck, rfl, hEk, hck, by unfold maxLen; omega, (((((hs.erase (i := 5) rfl (by assumption)).erase (i := 3) rfl (by assumption)).erase (i := 2) rfl (by assumption)).erase (i := 1) rfl (by assumption)).erase (i := 0) rfl (by assumption))⟩)

set_option maxRecDepth 100000 in
set_option maxHeartbeats 400000 in
theorem rpart1 (t f l : Int) (A : Option Addr) (m c : Nat) (p n : Int) (hl : 1 ≤ l) (ht : vld t l) (hf : vld f l) (hn : 1 ≤ n) (hi : inside_ t l p n) (w : World) : Calls Try.prog 23 #[.agg ([Value.int .i64 1, Value.int .i64 t, Value.int .i64 f, Value.int .i64 l, Value.slice A m c]).toArray, .agg ([Value.int .i64 p, Value.int .i64 n]).toArray] w fun e w' => e = .returned (.agg ([Value.int .i64 1, Value.int .i64 p, Value.int .i64 (f + p - t), Value.int .i64 n, Value.slice none 0 0]).toArray) ∧ St w [] w' := by
  refine calls_from (args := [.agg ([Value.int .i64 1, Value.int .i64 t, Value.int .i64 f, Value.int .i64 l, Value.slice A m c]).toArray, .agg ([Value.int .i64 p, Value.int .i64 n]).toArray]) Try.func23 rfl Try.ntmps23 (by simp) ?_
  refine TC.sub (Sub.cons (i := 0) rfl (Sub.cons (i := 1) rfl (Sub.nil))) ?_
  refine TC.seq ?_
  have ht2 := ht
  have hf2 := hf
  have hi2 := hi
  unfold vld at ht2 hf2
  unfold inside_ at hi2
  refine TC.regionL ?_
  refine TL.box (Wants.none rfl) rfl rfl rfl (cs := [Value.int .i64 1, Value.int .i64 t, Value.int .i64 f, Value.int .i64 l, Value.slice A m c]) (by simp [Value.cells]) (tot := 5) (by simp []) (fun g1 hg1 => ?_)
  refine TL.box (Wants.none rfl) rfl rfl rfl (cs := [Value.int .i64 p, Value.int .i64 n]) (by simp [Value.cells]) (tot := 2) (by simp []) (fun g2 hg2 => ?_)
  refine TL.alloc (Wants.none rfl) rfl rfl zero27 (cs := [Value.int .i64 0, Value.int .i64 0, Value.int .i64 0, Value.int .i64 0, Value.slice none 0 0]) rfl (tot := 5) (by simp) (fun g3 hg3 => ?_)
  refine TL.nil ?_
  refine TE.then ?_
  refine TC.seq ?_
  refine TC.regionL ?_
  refine TL.gets (Wants.none rfl) rfl (Gets.fieldAddr rfl Try.underlying37 rfl size3 rfl (off' := 0) (by first | rfl | omega)) ?_
  refine TL.gets (Wants.none rfl) rfl (Gets.load1 rfl agg3 rfl (At.ent (i := 1) (ent := ⟨g2, 37, [Value.int .i64 p, Value.int .i64 n], 2⟩) (off := 0) rfl rfl (by exact rfl))) ?_
  refine TL.gets (Wants.none rfl) rfl (Gets.fieldAddr rfl Try.underlying27 rfl size3 rfl (off' := 1) (by first | rfl | omega)) ?_
  refine TL.gets (Wants.none rfl) rfl (Gets.load1 rfl agg3 rfl (At.ent (i := 2) (ent := ⟨g1, 27, [Value.int .i64 1, Value.int .i64 t, Value.int .i64 f, Value.int .i64 l, Value.slice A m c], 5⟩) (off := 1) rfl rfl (by exact rfl))) ?_
  refine TL.gets (Wants.none rfl) rfl (Gets.sub rfl rfl rfl (r := (p - t)) (w64 (by omega) (by omega))) ?_
  refine TL.gets (Wants.none rfl) rfl (Gets.assign rfl rfl) ?_
  refine TL.nil ?_
  refine TE.then ?_
  refine TC.sub (Sub.cons (i := 2) rfl (Sub.cons (i := 3) rfl (Sub.cons (i := 4) rfl (Sub.cons (i := 5) rfl (Sub.nil))))) ?_
  refine TC.seq ?_
  refine TC.seq ?_
  refine TC.regionL ?_
  refine TL.gets (Wants.none rfl) rfl (Gets.fieldAddr rfl Try.underlying27 rfl size3 rfl (off' := 0) (by first | rfl | omega)) ?_
  refine TL.gets (Wants.none rfl) rfl (Gets.load1 rfl agg3 rfl (At.ent (i := 2) (ent := ⟨g1, 27, [Value.int .i64 1, Value.int .i64 t, Value.int .i64 f, Value.int .i64 l, Value.slice A m c], 5⟩) (off := 0) rfl rfl (by exact rfl))) ?_
  refine TL.gets (Wants.none rfl) rfl (Gets.isTrue (Gets.eql rfl rfl rfl) rfl) ?_
  refine TL.nil ?_
  refine TE.then ?_
  refine TC.yes rfl ?_
  refine TC.seq ?_
  refine TC.regionL ?_
  refine TL.gets (Wants.none rfl) rfl (Gets.fieldAddr rfl Try.underlying37 rfl size3 rfl (off' := 0) (by first | rfl | omega)) ?_
  refine TL.gets (Wants.none rfl) rfl (Gets.load1 rfl agg3 rfl (At.ent (i := 1) (ent := ⟨g2, 37, [Value.int .i64 p, Value.int .i64 n], 2⟩) (off := 0) rfl rfl (by exact rfl))) ?_
  refine TL.gets (Wants.none rfl) rfl (Gets.fieldAddr rfl Try.underlying27 rfl size3 rfl (off' := 2) (by first | rfl | omega)) ?_
  refine TL.gets (Wants.none rfl) rfl (Gets.load1 rfl agg3 rfl (At.ent (i := 2) (ent := ⟨g1, 27, [Value.int .i64 1, Value.int .i64 t, Value.int .i64 f, Value.int .i64 l, Value.slice A m c], 5⟩) (off := 2) rfl rfl (by exact rfl))) ?_
  refine TL.gets (Wants.none rfl) rfl (Gets.move rfl rfl) ?_
  refine TL.gets (Wants.none rfl) rfl (Gets.add rfl rfl rfl (r := (f + p - t)) (w64 (by omega) (by omega))) ?_
  refine TL.gets (Wants.none rfl) rfl (Gets.fieldAddr rfl Try.underlying37 rfl size3 rfl (off' := 1) (by first | rfl | omega)) ?_
  refine TL.gets (Wants.none rfl) rfl (Gets.load1 rfl agg3 rfl (At.ent (i := 1) (ent := ⟨g2, 37, [Value.int .i64 p, Value.int .i64 n], 2⟩) (off := 1) rfl rfl (by exact rfl))) ?_
  refine TL.gets (Wants.none rfl) rfl (Gets.build rfl (vs := [(0, Value.int .i64 1), (1, Value.int .i64 p), (2, Value.int .i64 (f + p - t)), (3, Value.int .i64 n)]) rfl (fun w => by first | rfl | kernel_rfl) (v := .agg ([Value.int .i64 1, Value.int .i64 p, Value.int .i64 (f + p - t), Value.int .i64 n, Value.slice none 0 0]).toArray)) ?_
  refine TL.storeW (Wants.none rfl) rfl rfl size27 rfl (vs := [Value.int .i64 1, Value.int .i64 p, Value.int .i64 (f + p - t), Value.int .i64 n, Value.slice none 0 0]) rfl (by simp []) (by simp [Value.oneCell']) (i := 0) (ent := ⟨g3, 27, [Value.int .i64 0, Value.int .i64 0, Value.int .i64 0, Value.int .i64 0, Value.slice none 0 0], 5⟩) rfl rfl (by simp []) (H' := [⟨g3, 27, [Value.int .i64 1, Value.int .i64 p, Value.int .i64 (f + p - t), Value.int .i64 n, Value.slice none 0 0], 5⟩, ⟨g2, 37, [Value.int .i64 p, Value.int .i64 n], 2⟩, ⟨g1, 27, [Value.int .i64 1, Value.int .i64 t, Value.int .i64 f, Value.int .i64 l, Value.slice A m c], 5⟩]) rfl ?_
  refine TL.nil ?_
  refine TE.then ?_
  refine TC.ret ?_
  refine TE.thenR ?_
  exact TE.retC rfl agg27 size27 rfl (vs := [Value.int .i64 1, Value.int .i64 p, Value.int .i64 (f + p - t), Value.int .i64 n, Value.slice none 0 0]) rfl (Row.all (i := 0) (ent := ⟨g3, 27, [Value.int .i64 1, Value.int .i64 p, Value.int .i64 (f + p - t), Value.int .i64 n, Value.slice none 0 0], 5⟩) rfl rfl rfl) (fun w hs => ⟨rfl, (((hs.drop (by assumption)).drop (by assumption)).drop (by assumption))⟩)

set_option maxRecDepth 100000 in
set_option maxHeartbeats 400000 in
theorem rpart2 (t : Int) (B : List Int) (b off m c q n : Nat) (hmc : m ≤ c) (hcm : c ≤ 140737488355328) (hn : 1 ≤ n) (hq : q + n ≤ m) (ht : vld t m) (w : World) (hsA : Src w (some ⟨b, off, none⟩) m .u8 B) : Calls Try.prog 23 #[.agg ([Value.int .i64 2, Value.int .i64 t, Value.int .i64 0, Value.int .i64 0, Value.slice (some ⟨b, off, none⟩) m c]).toArray, .agg ([Value.int .i64 (t + (q : Int)), Value.int .i64 (n : Int)]).toArray] w fun e w' => ∃ g c', e = .returned (.agg ([Value.int .i64 2, Value.int .i64 (t + (q : Int)), Value.int .i64 0, Value.int .i64 0, Value.slice (some ⟨g, 0, none⟩) n c']).toArray) ∧ w.heap.size ≤ g ∧ n ≤ c' ∧ c' ≤ maxLen ∧ St w [⟨g, 5, ((B.drop q).take n).map (Value.int .u8), c'⟩] w' := by
  refine calls_from (args := [.agg ([Value.int .i64 2, Value.int .i64 t, Value.int .i64 0, Value.int .i64 0, Value.slice (some ⟨b, off, none⟩) m c]).toArray, .agg ([Value.int .i64 (t + (q : Int)), Value.int .i64 (n : Int)]).toArray]) Try.func23 rfl Try.ntmps23 (by simp) ?_
  refine TC.sub (Sub.cons (i := 0) rfl (Sub.cons (i := 1) rfl (Sub.nil))) ?_
  refine TC.seq ?_
  have ht2 := ht
  unfold vld at ht2
  have hlq : ((B.drop q).take n).length = n := by rw [List.length_take, List.length_drop, hsA.1]; omega
  have hp : vld (t + (q : Int)) (n : Int) := by unfold vld; omega
  have hi : inside_ t (m : Int) (t + (q : Int)) (n : Int) := by unfold inside_; omega
  refine TC.regionL ?_
  refine TL.box (Wants.none rfl) rfl rfl rfl (cs := [Value.int .i64 2, Value.int .i64 t, Value.int .i64 0, Value.int .i64 0, Value.slice (some ⟨b, off, none⟩) m c]) (by simp [Value.cells]) (tot := 5) (by simp []) (fun g1 hg1 => ?_)
  refine TL.box (Wants.none rfl) rfl rfl rfl (cs := [Value.int .i64 (t + (q : Int)), Value.int .i64 (n : Int)]) (by simp [Value.cells]) (tot := 2) (by simp []) (fun g2 hg2 => ?_)
  refine TL.alloc (Wants.none rfl) rfl rfl zero27 (cs := [Value.int .i64 0, Value.int .i64 0, Value.int .i64 0, Value.int .i64 0, Value.slice none 0 0]) rfl (tot := 5) (by simp) (fun g3 hg3 => ?_)
  refine TL.nil ?_
  refine TE.then ?_
  refine TC.seq ?_
  refine TC.regionL ?_
  refine TL.gets (Wants.none rfl) rfl (Gets.fieldAddr rfl Try.underlying37 rfl size3 rfl (off' := 0) (by first | rfl | omega)) ?_
  refine TL.gets (Wants.none rfl) rfl (Gets.load1 rfl agg3 rfl (At.ent (i := 1) (ent := ⟨g2, 37, [Value.int .i64 (t + (q : Int)), Value.int .i64 (n : Int)], 2⟩) (off := 0) rfl rfl (by exact rfl))) ?_
  refine TL.gets (Wants.none rfl) rfl (Gets.fieldAddr rfl Try.underlying27 rfl size3 rfl (off' := 1) (by first | rfl | omega)) ?_
  refine TL.gets (Wants.none rfl) rfl (Gets.load1 rfl agg3 rfl (At.ent (i := 2) (ent := ⟨g1, 27, [Value.int .i64 2, Value.int .i64 t, Value.int .i64 0, Value.int .i64 0, Value.slice (some ⟨b, off, none⟩) m c], 5⟩) (off := 1) rfl rfl (by exact rfl))) ?_
  refine TL.gets (Wants.none rfl) rfl (Gets.sub rfl rfl rfl (r := (q : Int)) (w64 (by omega) (by omega))) ?_
  refine TL.gets (Wants.none rfl) rfl (Gets.assign rfl rfl) ?_
  refine TL.nil ?_
  refine TE.then ?_
  refine TC.sub (Sub.cons (i := 2) rfl (Sub.cons (i := 3) rfl (Sub.cons (i := 4) rfl (Sub.cons (i := 5) rfl (Sub.nil))))) ?_
  refine TC.seq ?_
  refine TC.seq ?_
  refine TC.regionL ?_
  refine TL.gets (Wants.none rfl) rfl (Gets.fieldAddr rfl Try.underlying27 rfl size3 rfl (off' := 0) (by first | rfl | omega)) ?_
  refine TL.gets (Wants.none rfl) rfl (Gets.load1 rfl agg3 rfl (At.ent (i := 2) (ent := ⟨g1, 27, [Value.int .i64 2, Value.int .i64 t, Value.int .i64 0, Value.int .i64 0, Value.slice (some ⟨b, off, none⟩) m c], 5⟩) (off := 0) rfl rfl (by exact rfl))) ?_
  refine TL.gets (Wants.none rfl) rfl (Gets.isFalse (Gets.eql rfl rfl rfl) (by decide)) ?_
  refine TL.nil ?_
  refine TE.then ?_
  refine TC.no rfl ?_
  refine TC.skip ?_
  refine TE.then ?_
  refine TC.seq ?_
  refine TC.mixS [⟨g2, 37, [Value.int .i64 (t + (q : Int)), Value.int .i64 (n : Int)], 2⟩, ⟨g1, 27, [Value.int .i64 2, Value.int .i64 t, Value.int .i64 0, Value.int .i64 0, Value.slice (some ⟨b, off, none⟩) m c], 5⟩] [⟨g3, 27, [Value.int .i64 0, Value.int .i64 0, Value.int .i64 0, Value.int .i64 0, Value.slice none 0 0], 5⟩] (by kernel_rfl) [0, 1, 3, 0, 1, 0, 0, 0, 1, 0, 0, 3, 0, 4] [0, 1, 3, 4, 5, 6, 7, 8, 9, 10, 2, 11, 12, 13] [fun _ _ => True, fun _ _ => True, fun v d => ∃ g, v = .slice (some ⟨g, 0, none⟩) 0 0 ∧ d = [⟨g, 5, [], 0⟩], fun _ _ => True, fun _ _ => True, fun _ _ => True, fun _ _ => True, fun _ _ => True, fun _ _ => True, fun _ _ => True, fun _ _ => True, fun v d => ∃ g c, 0 + n ≤ c ∧ c ≤ maxLen ∧ v = .slice (some ⟨g, 0, none⟩) (0 + n) c ∧ d = [⟨g, 5, (([] : List Int) ++ ((B.drop q).take n)).map (Value.int .u8), c⟩], fun _ _ => True, fun _ _ => True] (by kernel_rfl) (by kernel_rfl) (perm_pick (p := [1, 2, 0]) (by kernel_rfl) rfl) (Fresh.cons (by assumption) Fresh.nil) ?_
  refine TR.free (Wants.none rfl) rfl (fun _ => Gets.fieldAddr rfl Try.underlying37 rfl size3 rfl (off' := 0) (by first | rfl | omega)) ?_
  refine TR.gets (Wants.none rfl) rfl (fun Z hZ => Gets.load1 rfl agg3 rfl (At.ent (i := 0) (ent := ⟨g2, 37, [Value.int .i64 (t + (q : Int)), Value.int .i64 (n : Int)], 2⟩) (off := 0) rfl rfl (by exact rfl))) ?_
  refine TR.free (Wants.none rfl) rfl (fun _ => Gets.fieldAddr rfl Try.underlying27 rfl size25 rfl (off' := 4) (by first | rfl | omega)) ?_
  refine TR.gets (Wants.none rfl) rfl (fun Z hZ => Gets.load1 rfl agg25 rfl (At.ent (i := 1) (ent := ⟨g1, 27, [Value.int .i64 2, Value.int .i64 t, Value.int .i64 0, Value.int .i64 0, Value.slice (some ⟨b, off, none⟩) m c], 5⟩) (off := 4) rfl rfl (by exact rfl))) ?_
  refine TR.free (Wants.none rfl) rfl (fun _ => Gets.move rfl rfl) ?_
  refine TR.free (Wants.none rfl) rfl (fun _ => Gets.move rfl rfl) ?_
  refine TR.free (Wants.none rfl) rfl (fun _ => Gets.fieldAddr rfl Try.underlying37 rfl size3 rfl (off' := 1) (by first | rfl | omega)) ?_
  refine TR.gets (Wants.none rfl) rfl (fun Z hZ => Gets.load1 rfl agg3 rfl (At.ent (i := 0) (ent := ⟨g2, 37, [Value.int .i64 (t + (q : Int)), Value.int .i64 (n : Int)], 2⟩) (off := 1) rfl rfl (by exact rfl))) ?_
  refine TR.free (Wants.none rfl) rfl (fun _ => Gets.add rfl rfl rfl (r := ((q : Int) + (n : Int))) (w64 (by omega) (by omega))) ?_
  refine TR.free (Wants.none rfl) rfl (fun _ => Gets.sliceS rfl Try.underlying25 size5 rfl (bnd.at_ (l := q) rfl (by omega)) (bnd.at_ (l := (q + n)) rfl (by omega)) (by omega) (by omega) (A' := some ⟨b, (off + q), none⟩) (cut_is (by omega) (by omega)) (ln := n) (cp := (c - q)) (by omega) (by omega)) ?_
  refine TR.emptySlice (Wants.none rfl) rfl rfl Try.underlying25 size5 (fun g4 hg4 => ?_)
  refine TR.appendFull (m := 0) (kd := .u8) (W := []) (B := ((B.drop q).take n)) (Wants.none rfl) rfl rfl Try.underlying25 mk5 rfl rfl rfl (fun Z w hZ hs => src_no) (fun Z w hZ hs => ((hsA.at_ hs (fun b hb => (ne_app (ne_cons (by show g2 ≠ b; omega) (ne_cons (by show g1 ≠ b; omega) ne_nil)) (hZ.ne hb)))).cut (l := q) (n := n) (by omega))) (by omega) (by intro h; rfl) (by unfold maxLen; omega) (by omega) (fun gk ck hEk hck hmk => ?_)
  rw [Nat.zero_add] at hck ⊢
  unfold maxLen at hmk
  refine TR.free (Wants.none rfl) rfl (fun _ => Gets.build rfl (vs := [(0, Value.int .i64 2), (1, Value.int .i64 (t + (q : Int))), (4, Value.slice (some ⟨gk, 0, none⟩) n ck)]) rfl (fun w => by first | rfl | kernel_rfl) (v := .agg ([Value.int .i64 2, Value.int .i64 (t + (q : Int)), Value.int .i64 0, Value.int .i64 0, Value.slice (some ⟨gk, 0, none⟩) n ck]).toArray)) ?_
  refine TR.storeW (Wants.none rfl) rfl rfl size27 rfl (vs := [Value.int .i64 2, Value.int .i64 (t + (q : Int)), Value.int .i64 0, Value.int .i64 0, Value.slice (some ⟨gk, 0, none⟩) n ck]) rfl rfl (by simp [Value.oneCell']) (i := 0) (ent := ⟨g3, 27, [Value.int .i64 0, Value.int .i64 0, Value.int .i64 0, Value.int .i64 0, Value.slice none 0 0], 5⟩) rfl rfl rfl (D' := [⟨g3, 27, [Value.int .i64 2, Value.int .i64 (t + (q : Int)), Value.int .i64 0, Value.int .i64 0, Value.slice (some ⟨gk, 0, none⟩) n ck], 5⟩]) rfl (Fresh.cons (by assumption) Fresh.nil) ?_
  refine TR.nil ?_
  refine TE.then ?_
  refine TC.ret ?_
  exact TE.retC rfl agg27 size27 rfl (vs := [Value.int .i64 2, Value.int .i64 (t + (q : Int)), Value.int .i64 0, Value.int .i64 0, Value.slice (some ⟨gk, 0, none⟩) n ck]) rfl (Row.all (i := 4) (ent := ⟨g3, 27, [Value.int .i64 2, Value.int .i64 (t + (q : Int)), Value.int .i64 0, Value.int .i64 0, Value.slice (some ⟨gk, 0, none⟩) n ck], 5⟩) rfl rfl rfl) (fun w hs => ⟨gk, ck, rfl, hEk, hck, by unfold maxLen; omega, ((((hs.erase (i := 4) rfl (by assumption)).erase (i := 2) rfl (by assumption)).erase (i := 1) rfl (by assumption)).erase (i := 0) rfl (by assumption))⟩)
end Go.Proofs.Ytehnkhgcbcfoeaa
