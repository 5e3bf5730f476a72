/-
  DeltaWith: the walk.
-/
import Derived.Test.YtkgamkjdkapchaaDlG
namespace Go.Proofs.Ytkgamkjdkapchaa
set_option linter.unusedVariables false
set_option linter.unusedSimpArgs false
open Go Go.RowKit
theorem enters17 : Enters Try.prog 17 := ⟨_, Try.func17, by kernel_rfl, by kernel_rfl⟩
theorem enters18 : Enters Try.prog 18 := ⟨_, Try.func18, by kernel_rfl, by kernel_rfl⟩
theorem enters22 : Enters Try.prog 22 := ⟨_, Try.func22, by kernel_rfl, by kernel_rfl⟩
set_option maxRecDepth 100000 in
set_option maxHeartbeats 2000000 in
theorem dwith_no1 (o n : Int) (H1 H2 : List Int) (hH1 : H1.length = 32) (hH2 : H2.length = 32) (A : Option Addr) (m c : Nat) (Cs : List CV) (o2 n2 : Int) (G1 G2 : List Int) (hG1 : G1.length = 32) (hG2 : G2.length = 32) (A2 : Option Addr) (m2 c2 : Nat) (Es : List CV) (hml : m ≤ 9223372036854775807) (hml2 : m2 ≤ 9223372036854775807) (hN : NumsC Cs) (hN2 : NumsC Es) (w : World) (hC : SrcC w A m Cs) (hC2 : SrcC w A2 m2 Es) (hD : DatC w Cs) (hE : DatC w Es) (hf : ¬ fewP Cs) : Calls Try.prog 6 #[.agg ([Value.int .i64 o, Value.int .i64 n] ++ (H1.map (Value.int .u8) ++ (H2.map (Value.int .u8) ++ ([Value.slice A m c])))).toArray, .agg ([Value.int .i64 o2, Value.int .i64 n2] ++ (G1.map (Value.int .u8) ++ (G2.map (Value.int .u8) ++ ([Value.slice A2 m2 c2])))).toArray] w fun e w' => e = .returned (.bool true) ∧ St w [] w' := by
  refine calls_from (args := [.agg ([Value.int .i64 o, Value.int .i64 n] ++ (H1.map (Value.int .u8) ++ (H2.map (Value.int .u8) ++ ([Value.slice A m c])))).toArray, .agg ([Value.int .i64 o2, Value.int .i64 n2] ++ (G1.map (Value.int .u8) ++ (G2.map (Value.int .u8) ++ ([Value.slice A2 m2 c2])))).toArray]) Try.func6 rfl Try.ntmps6 (by simp) ?_
  refine TC.sub (Sub.cons (i := 0) rfl (Sub.cons (i := 1) rfl (Sub.nil))) ?_
  refine TC.seq ?_
  refine TC.regionL ?_
  refine TL.box (Wants.none rfl) rfl rfl rfl (cs := [Value.int .i64 o, Value.int .i64 n] ++ (H1.map (Value.int .u8) ++ (H2.map (Value.int .u8) ++ ([Value.slice A m c])))) (by simp [Value.cells]) (tot := 67) (by simp [hH1, hH2]) (fun g1 hg1 => ?_)
  refine TL.box (Wants.none rfl) rfl rfl rfl (cs := [Value.int .i64 o2, Value.int .i64 n2] ++ (G1.map (Value.int .u8) ++ (G2.map (Value.int .u8) ++ ([Value.slice A2 m2 c2])))) (by simp [Value.cells]) (tot := 67) (by simp [hG1, hG2]) (fun g2 hg2 => ?_)
  refine TL.gets (Wants.none rfl) rfl (Gets.assign rfl rfl) ?_
  refine TL.nil ?_
  refine TE.then ?_
  refine TC.seq ?_
  refine TC.seq ?_
  refine TC.regionL ?_
  refine TL.gets (Wants.none rfl) rfl (Gets.loadN rfl agg25 size25 rfl (vs := [Value.int .i64 o, Value.int .i64 n] ++ (H1.map (Value.int .u8) ++ (H2.map (Value.int .u8) ++ ([Value.slice A m c])))) (by simp [hH1, hH2]) (Row.all (i := 1) (ent := ⟨g1, 25, [Value.int .i64 o, Value.int .i64 n] ++ (H1.map (Value.int .u8) ++ (H2.map (Value.int .u8) ++ ([Value.slice A m c]))), 67⟩) rfl rfl rfl)) ?_
  refine TL.call0 (Wants.none rfl) rfl enters8 rfl rfl (v := .bool false) (fun w hs => (few_c o n H1 H2 hH1 hH2 A m c Cs (by omega) hN w (hC.at_ hs (fun b hb => (ne_cons (by show g2 ≠ b; omega) (ne_cons (by show g1 ≠ b; omega) ne_nil))))).mono fun e w' h => by rw [decide_eq_false (p := fewP Cs) hf] at h; exact h) ?_
  refine TL.gets (Wants.none rfl) rfl (Gets.not rfl rfl) ?_
  refine TL.gets (Wants.none rfl) rfl (Gets.move rfl rfl) ?_
  refine TL.pass rfl rfl rfl rfl rfl ?_
  refine TL.pass rfl rfl rfl rfl rfl ?_
  refine TL.pass rfl rfl rfl rfl rfl ?_
  refine TL.gets (Wants.none rfl) rfl (Gets.pickT rfl rfl rfl) ?_
  refine TL.nil ?_
  refine TE.then ?_
  refine TC.sub (Sub.cons (i := 2) rfl (Sub.cons (i := 3) rfl (Sub.cons (i := 4) rfl (Sub.cons (i := 13) rfl (Sub.nil))))) ?_
  refine TC.yes rfl ?_
  refine TC.seq ?_
  refine TC.regionL ?_
  refine TL.call0 (Wants.none rfl) rfl enters9 rfl rfl (v := .bool true) (fun w hs => alive_c w) ?_
  refine TL.gets (Wants.none rfl) rfl (Gets.assign rfl rfl) ?_
  refine TL.nil ?_
  refine TE.then ?_
  refine TC.ret ?_
  refine TE.thenR ?_
  exact TE.ret1 rfl rfl (fun w hs => ⟨rfl, ((hs.drop (by assumption)).drop (by assumption))⟩)

set_option maxRecDepth 100000 in
set_option maxHeartbeats 2000000 in
theorem dwith_no2 (o n : Int) (H1 H2 : List Int) (hH1 : H1.length = 32) (hH2 : H2.length = 32) (A : Option Addr) (m c : Nat) (Cs : List CV) (o2 n2 : Int) (G1 G2 : List Int) (hG1 : G1.length = 32) (hG2 : G2.length = 32) (A2 : Option Addr) (m2 c2 : Nat) (Es : List CV) (hml : m ≤ 9223372036854775807) (hml2 : m2 ≤ 9223372036854775807) (hN : NumsC Cs) (hN2 : NumsC Es) (w : World) (hC : SrcC w A m Cs) (hC2 : SrcC w A2 m2 Es) (hD : DatC w Cs) (hE : DatC w Es) (hf : fewP Cs) (hf2 : ¬ fewP Es) : Calls Try.prog 6 #[.agg ([Value.int .i64 o, Value.int .i64 n] ++ (H1.map (Value.int .u8) ++ (H2.map (Value.int .u8) ++ ([Value.slice A m c])))).toArray, .agg ([Value.int .i64 o2, Value.int .i64 n2] ++ (G1.map (Value.int .u8) ++ (G2.map (Value.int .u8) ++ ([Value.slice A2 m2 c2])))).toArray] w fun e w' => e = .returned (.bool true) ∧ St w [] w' := by
  refine calls_from (args := [.agg ([Value.int .i64 o, Value.int .i64 n] ++ (H1.map (Value.int .u8) ++ (H2.map (Value.int .u8) ++ ([Value.slice A m c])))).toArray, .agg ([Value.int .i64 o2, Value.int .i64 n2] ++ (G1.map (Value.int .u8) ++ (G2.map (Value.int .u8) ++ ([Value.slice A2 m2 c2])))).toArray]) Try.func6 rfl Try.ntmps6 (by simp) ?_
  refine TC.sub (Sub.cons (i := 0) rfl (Sub.cons (i := 1) rfl (Sub.nil))) ?_
  refine TC.seq ?_
  refine TC.regionL ?_
  refine TL.box (Wants.none rfl) rfl rfl rfl (cs := [Value.int .i64 o, Value.int .i64 n] ++ (H1.map (Value.int .u8) ++ (H2.map (Value.int .u8) ++ ([Value.slice A m c])))) (by simp [Value.cells]) (tot := 67) (by simp [hH1, hH2]) (fun g1 hg1 => ?_)
  refine TL.box (Wants.none rfl) rfl rfl rfl (cs := [Value.int .i64 o2, Value.int .i64 n2] ++ (G1.map (Value.int .u8) ++ (G2.map (Value.int .u8) ++ ([Value.slice A2 m2 c2])))) (by simp [Value.cells]) (tot := 67) (by simp [hG1, hG2]) (fun g2 hg2 => ?_)
  refine TL.gets (Wants.none rfl) rfl (Gets.assign rfl rfl) ?_
  refine TL.nil ?_
  refine TE.then ?_
  refine TC.seq ?_
  refine TC.seq ?_
  refine TC.regionL ?_
  refine TL.gets (Wants.none rfl) rfl (Gets.loadN rfl agg25 size25 rfl (vs := [Value.int .i64 o, Value.int .i64 n] ++ (H1.map (Value.int .u8) ++ (H2.map (Value.int .u8) ++ ([Value.slice A m c])))) (by simp [hH1, hH2]) (Row.all (i := 1) (ent := ⟨g1, 25, [Value.int .i64 o, Value.int .i64 n] ++ (H1.map (Value.int .u8) ++ (H2.map (Value.int .u8) ++ ([Value.slice A m c]))), 67⟩) rfl rfl rfl)) ?_
  refine TL.call0 (Wants.none rfl) rfl enters8 rfl rfl (v := .bool true) (fun w hs => (few_c o n H1 H2 hH1 hH2 A m c Cs (by omega) hN w (hC.at_ hs (fun b hb => (ne_cons (by show g2 ≠ b; omega) (ne_cons (by show g1 ≠ b; omega) ne_nil))))).mono fun e w' h => by rw [decide_eq_true (p := fewP Cs) hf] at h; exact h) ?_
  refine TL.gets (Wants.none rfl) rfl (Gets.not rfl rfl) ?_
  refine TL.gets (Wants.none rfl) rfl (Gets.move rfl rfl) ?_
  refine TL.gets (Wants.yes rfl rfl rfl) rfl (Gets.loadN rfl agg25 size25 rfl (vs := [Value.int .i64 o2, Value.int .i64 n2] ++ (G1.map (Value.int .u8) ++ (G2.map (Value.int .u8) ++ ([Value.slice A2 m2 c2])))) (by simp [hG1, hG2]) (Row.all (i := 0) (ent := ⟨g2, 25, [Value.int .i64 o2, Value.int .i64 n2] ++ (G1.map (Value.int .u8) ++ (G2.map (Value.int .u8) ++ ([Value.slice A2 m2 c2]))), 67⟩) rfl rfl rfl)) ?_
  refine TL.call0 (Wants.yes rfl rfl rfl) rfl enters8 rfl rfl (v := .bool false) (fun w hs => (few_c o2 n2 G1 G2 hG1 hG2 A2 m2 c2 Es (by omega) hN2 w (hC2.at_ hs (fun b hb => (ne_cons (by show g2 ≠ b; omega) (ne_cons (by show g1 ≠ b; omega) ne_nil))))).mono fun e w' h => by rw [decide_eq_false (p := fewP Es) hf2] at h; exact h) ?_
  refine TL.gets (Wants.yes rfl rfl rfl) rfl (Gets.not rfl rfl) ?_
  refine TL.gets (Wants.none rfl) rfl (Gets.pickF rfl rfl rfl) ?_
  refine TL.nil ?_
  refine TE.then ?_
  refine TC.sub (Sub.cons (i := 2) rfl (Sub.cons (i := 3) rfl (Sub.cons (i := 4) rfl (Sub.cons (i := 13) rfl (Sub.nil))))) ?_
  refine TC.yes rfl ?_
  refine TC.seq ?_
  refine TC.regionL ?_
  refine TL.call0 (Wants.none rfl) rfl enters9 rfl rfl (v := .bool true) (fun w hs => alive_c w) ?_
  refine TL.gets (Wants.none rfl) rfl (Gets.assign rfl rfl) ?_
  refine TL.nil ?_
  refine TE.then ?_
  refine TC.ret ?_
  refine TE.thenR ?_
  exact TE.ret1 rfl rfl (fun w hs => ⟨rfl, ((hs.drop (by assumption)).drop (by assumption))⟩)

set_option maxRecDepth 100000 in
set_option maxHeartbeats 2000000 in
theorem dwith_yes (o n : Int) (H1 H2 : List Int) (hH1 : H1.length = 32) (hH2 : H2.length = 32) (A : Option Addr) (m c : Nat) (Cs : List CV) (o2 n2 : Int) (G1 G2 : List Int) (hG1 : G1.length = 32) (hG2 : G2.length = 32) (A2 : Option Addr) (m2 c2 : Nat) (Es : List CV) (hml : m ≤ 9223372036854775807) (hml2 : m2 ≤ 9223372036854775807) (hN : NumsC Cs) (hN2 : NumsC Es) (w : World) (hC : SrcC w A m Cs) (hC2 : SrcC w A2 m2 Es) (hD : DatC w Cs) (hE : DatC w Es) (hf : fewP Cs) (hf2 : fewP Es) : Calls Try.prog 6 #[.agg ([Value.int .i64 o, Value.int .i64 n] ++ (H1.map (Value.int .u8) ++ (H2.map (Value.int .u8) ++ ([Value.slice A m c])))).toArray, .agg ([Value.int .i64 o2, Value.int .i64 n2] ++ (G1.map (Value.int .u8) ++ (G2.map (Value.int .u8) ++ ([Value.slice A2 m2 c2])))).toArray] w fun e w' => e = .returned (.bool true) ∧ St w [] w' := by
  have hmm : m ≤ 1000000000 := by have := hf.2; have := hC.1; omega
  have hmm2 : m2 ≤ 1000000000 := by have := hf2.2; have := hC2.1; omega
  refine calls_from (args := [.agg ([Value.int .i64 o, Value.int .i64 n] ++ (H1.map (Value.int .u8) ++ (H2.map (Value.int .u8) ++ ([Value.slice A m c])))).toArray, .agg ([Value.int .i64 o2, Value.int .i64 n2] ++ (G1.map (Value.int .u8) ++ (G2.map (Value.int .u8) ++ ([Value.slice A2 m2 c2])))).toArray]) Try.func6 rfl Try.ntmps6 (by simp) ?_
  refine TC.sub (Sub.cons (i := 0) rfl (Sub.cons (i := 1) rfl (Sub.nil))) ?_
  refine TC.seq ?_
  refine TC.regionL ?_
  refine TL.box (Wants.none rfl) rfl rfl rfl (cs := [Value.int .i64 o, Value.int .i64 n] ++ (H1.map (Value.int .u8) ++ (H2.map (Value.int .u8) ++ ([Value.slice A m c])))) (by simp [Value.cells]) (tot := 67) (by simp [hH1, hH2]) (fun g1 hg1 => ?_)
  refine TL.box (Wants.none rfl) rfl rfl rfl (cs := [Value.int .i64 o2, Value.int .i64 n2] ++ (G1.map (Value.int .u8) ++ (G2.map (Value.int .u8) ++ ([Value.slice A2 m2 c2])))) (by simp [Value.cells]) (tot := 67) (by simp [hG1, hG2]) (fun g2 hg2 => ?_)
  refine TL.gets (Wants.none rfl) rfl (Gets.assign rfl rfl) ?_
  refine TL.nil ?_
  refine TE.then ?_
  refine TC.seq ?_
  refine TC.seq ?_
  refine TC.regionL ?_
  refine TL.gets (Wants.none rfl) rfl (Gets.loadN rfl agg25 size25 rfl (vs := [Value.int .i64 o, Value.int .i64 n] ++ (H1.map (Value.int .u8) ++ (H2.map (Value.int .u8) ++ ([Value.slice A m c])))) (by simp [hH1, hH2]) (Row.all (i := 1) (ent := ⟨g1, 25, [Value.int .i64 o, Value.int .i64 n] ++ (H1.map (Value.int .u8) ++ (H2.map (Value.int .u8) ++ ([Value.slice A m c]))), 67⟩) rfl rfl rfl)) ?_
  refine TL.call0 (Wants.none rfl) rfl enters8 rfl rfl (v := .bool true) (fun w hs => (few_c o n H1 H2 hH1 hH2 A m c Cs (by omega) hN w (hC.at_ hs (fun b hb => (ne_cons (by show g2 ≠ b; omega) (ne_cons (by show g1 ≠ b; omega) ne_nil))))).mono fun e w' h => by rw [decide_eq_true (p := fewP Cs) hf] at h; exact h) ?_
  refine TL.gets (Wants.none rfl) rfl (Gets.not rfl rfl) ?_
  refine TL.gets (Wants.none rfl) rfl (Gets.move rfl rfl) ?_
  refine TL.gets (Wants.yes rfl rfl rfl) rfl (Gets.loadN rfl agg25 size25 rfl (vs := [Value.int .i64 o2, Value.int .i64 n2] ++ (G1.map (Value.int .u8) ++ (G2.map (Value.int .u8) ++ ([Value.slice A2 m2 c2])))) (by simp [hG1, hG2]) (Row.all (i := 0) (ent := ⟨g2, 25, [Value.int .i64 o2, Value.int .i64 n2] ++ (G1.map (Value.int .u8) ++ (G2.map (Value.int .u8) ++ ([Value.slice A2 m2 c2]))), 67⟩) rfl rfl rfl)) ?_
  refine TL.call0 (Wants.yes rfl rfl rfl) rfl enters8 rfl rfl (v := .bool true) (fun w hs => (few_c o2 n2 G1 G2 hG1 hG2 A2 m2 c2 Es (by omega) hN2 w (hC2.at_ hs (fun b hb => (ne_cons (by show g2 ≠ b; omega) (ne_cons (by show g1 ≠ b; omega) ne_nil))))).mono fun e w' h => by rw [decide_eq_true (p := fewP Es) hf2] at h; exact h) ?_
  refine TL.gets (Wants.yes rfl rfl rfl) rfl (Gets.not rfl rfl) ?_
  refine TL.gets (Wants.none rfl) rfl (Gets.pickF rfl rfl rfl) ?_
  refine TL.nil ?_
  refine TE.then ?_
  refine TC.sub (Sub.cons (i := 2) rfl (Sub.cons (i := 3) rfl (Sub.cons (i := 4) rfl (Sub.cons (i := 13) rfl (Sub.nil))))) ?_
  refine TC.no rfl ?_
  refine TC.skip ?_
  refine TE.then ?_
  refine TC.seq ?_
  refine TC.regionL ?_
  refine TL.gets (Wants.none rfl) rfl (Gets.loadN rfl agg25 size25 rfl (vs := [Value.int .i64 o, Value.int .i64 n] ++ (H1.map (Value.int .u8) ++ (H2.map (Value.int .u8) ++ ([Value.slice A m c])))) (by simp [hH1, hH2]) (Row.all (i := 1) (ent := ⟨g1, 25, [Value.int .i64 o, Value.int .i64 n] ++ (H1.map (Value.int .u8) ++ (H2.map (Value.int .u8) ++ ([Value.slice A m c]))), 67⟩) rfl rfl rfl)) ?_
  refine TL.gets (Wants.none rfl) rfl (Gets.fieldAddr rfl Try.underlying25 rfl size23 rfl (off' := 66) (by first | rfl | omega)) ?_
  refine TL.gets (Wants.none rfl) rfl (Gets.load1 rfl agg23 rfl (At.ent (i := 0) (ent := ⟨g2, 25, [Value.int .i64 o2, Value.int .i64 n2] ++ (G1.map (Value.int .u8) ++ (G2.map (Value.int .u8) ++ ([Value.slice A2 m2 c2]))), 67⟩) (off := 66) rfl rfl (by exact app_right (a := 2) (i := 64) (rfl) (app_right (a := 32) (i := 32) (ints_len hG1) (app_right (a := 32) (i := 0) (ints_len hG2) (rfl)))))) ?_
  refine TL.call (ι := (Option Addr × Nat) × (List CV × List Ent)) (V := fun y => .agg ([Value.int .i64 o, Value.int .i64 n] ++ (H1.map (Value.int .u8) ++ (H2.map (Value.int .u8) ++ ([Value.slice y.1.1 m2 y.1.2])))).toArray) (R := fun y => (m2 ≤ y.1.2 ∧ y.1.2 ≤ 9223372036854775807) ∧ OwnD w.heap.size y.1.1 m2 y.2.1 y.2.2 ∧ sameE y.2.1 Es) (H' := fun y => [⟨g2, 25, [Value.int .i64 o2, Value.int .i64 n2] ++ (G1.map (Value.int .u8) ++ (G2.map (Value.int .u8) ++ ([Value.slice A2 m2 c2]))), 67⟩, ⟨g1, 25, [Value.int .i64 o, Value.int .i64 n] ++ (H1.map (Value.int .u8) ++ (H2.map (Value.int .u8) ++ ([Value.slice A m c]))), 67⟩] ++ y.2.2) (Wants.none rfl) rfl enters21 rfl rfl (fun w hs => (dwith_c o n H1 H2 hH1 hH2 A m c A2 m2 c2 Es hmm2 hN2 w (hC2.at_ hs (fun b hb => (ne_cons (by show g2 ≠ b; omega) (ne_cons (by show g1 ≠ b; omega) ne_nil)))) (hE.at_ hs (fun b hb => (ne_cons (by show g2 ≠ b; omega) (ne_cons (by show g1 ≠ b; omega) ne_nil)))) hf2.q).mono fun e w' ⟨A', c', Fs, He, he, hc, ho, hsm, hw⟩ => ⟨((A', c'), (Fs, He)), he, ⟨hc, ho.mono hs.size, hsm⟩, st_call hs hw ho.1⟩) (fun y hR => ?_)
  obtain ⟨⟨Ax, cx⟩, Fx, Ex⟩ := y
  obtain ⟨hcx, hox, hsmx⟩ := hR
  dsimp only at hcx hox hsmx ⊢
  have hFx : Fresh w Ex := hox.1
  refine TL.alloc (Wants.none rfl) rfl rfl zero25 (cs := [Value.int .i64 0, Value.int .i64 0] ++ ((List.replicate 64 0).map (Value.int .u8) ++ ([Value.slice none 0 0]))) rfl (tot := 67) (by simp) (fun g3 hg3 => ?_)
  refine TL.storeW (Wants.none rfl) rfl rfl size25 rfl (vs := [Value.int .i64 o, Value.int .i64 n] ++ (H1.map (Value.int .u8) ++ (H2.map (Value.int .u8) ++ ([Value.slice Ax m2 cx])))) rfl (by simp [hH1, hH2]) (ones_app (by simp [Value.oneCell']) (ones_app ints_one (ones_app ints_one (by simp [Value.oneCell'])))) (i := 0) (ent := ⟨g3, 25, [Value.int .i64 0, Value.int .i64 0] ++ ((List.replicate 64 0).map (Value.int .u8) ++ ([Value.slice none 0 0])), 67⟩) rfl rfl (by simp []) (H' := [⟨g3, 25, [Value.int .i64 o, Value.int .i64 n] ++ (H1.map (Value.int .u8) ++ (H2.map (Value.int .u8) ++ ([Value.slice Ax m2 cx]))), 67⟩, ⟨g2, 25, [Value.int .i64 o2, Value.int .i64 n2] ++ (G1.map (Value.int .u8) ++ (G2.map (Value.int .u8) ++ ([Value.slice A2 m2 c2]))), 67⟩, ⟨g1, 25, [Value.int .i64 o, Value.int .i64 n] ++ (H1.map (Value.int .u8) ++ (H2.map (Value.int .u8) ++ ([Value.slice A m c]))), 67⟩] ++ Ex) rfl ?_
  refine TL.nil ?_
  refine TE.then ?_
  refine TC.sub (Sub.cons (i := 2) rfl (Sub.cons (i := 3) rfl (Sub.cons (i := 4) rfl (Sub.cons (i := 5) rfl (Sub.nil))))) ?_
  refine TC.seq ?_
  refine TC.mix (by kernel_rfl) [1, 0, 1, 1, 0, 1, 1, 1, 0, 0, 1, 1, 1, 1, 1, 1, 0, 0, 0, 1, 1, 1, 0, 0, 1, 1, 1, 0, 1, 0, 1, 1, 0, 0, 0] rfl (by kernel_rfl) ?_
  refine TM.call0 (Wants.none rfl) rfl enters9 rfl rfl (v := .bool true) (fun w hs => alive_c w) ?_
  refine TM.free (Wants.none rfl) rfl (fun _ => Gets.move rfl rfl) ?_
  refine TM.gets (Wants.yes rfl rfl rfl) rfl (Gets.loadN rfl agg25 size25 rfl (vs := [Value.int .i64 o, Value.int .i64 n] ++ (H1.map (Value.int .u8) ++ (H2.map (Value.int .u8) ++ ([Value.slice Ax m2 cx])))) (by simp [hH1, hH2]) (Row.all (i := 0) (ent := ⟨g3, 25, [Value.int .i64 o, Value.int .i64 n] ++ (H1.map (Value.int .u8) ++ (H2.map (Value.int .u8) ++ ([Value.slice Ax m2 cx]))), 67⟩) rfl rfl rfl)) ?_
  refine TM.gets (Wants.yes rfl rfl rfl) rfl (Gets.loadN rfl agg25 size25 rfl (vs := [Value.int .i64 o, Value.int .i64 n] ++ (H1.map (Value.int .u8) ++ (H2.map (Value.int .u8) ++ ([Value.slice A m c])))) (by simp [hH1, hH2]) (Row.all (i := 2) (ent := ⟨g1, 25, [Value.int .i64 o, Value.int .i64 n] ++ (H1.map (Value.int .u8) ++ (H2.map (Value.int .u8) ++ ([Value.slice A m c]))), 67⟩) rfl rfl rfl)) ?_
  refine TM.free (Wants.yes rfl rfl rfl) rfl (fun _ => Gets.fieldAddr rfl Try.underlying25 rfl size23 rfl (off' := 66) (by first | rfl | omega)) ?_
  refine TM.gets (Wants.yes rfl rfl rfl) rfl (Gets.load1 rfl agg23 rfl (At.ent (i := 1) (ent := ⟨g2, 25, [Value.int .i64 o2, Value.int .i64 n2] ++ (G1.map (Value.int .u8) ++ (G2.map (Value.int .u8) ++ ([Value.slice A2 m2 c2]))), 67⟩) (off := 66) rfl rfl (by exact app_right (a := 2) (i := 64) (rfl) (app_right (a := 32) (i := 32) (ints_len hG1) (app_right (a := 32) (i := 0) (ints_len hG2) (rfl)))))) ?_
  refine TM.call0 (Wants.yes rfl rfl rfl) rfl enters18 rfl rfl (v := .agg ([Value.int .i64 o, Value.int .i64 n] ++ (H1.map (Value.int .u8) ++ (H2.map (Value.int .u8) ++ ([Value.slice A2 m2 c2])))).toArray) (fun w hs => rwith_c o n H1 H2 hH1 hH2 A A2 m c m2 c2 w) ?_
  refine TM.call0 (Wants.yes rfl rfl rfl) rfl enters17 rfl rfl (v := .bool true) (fun w hs => (rdsame_c o n H1 H2 hH1 hH2 Ax m2 cx Fx o n H1 H2 hH1 hH2 A2 m2 c2 Es hmm2 hmm2 hox.num w (hox.src (fun e he => hs.has e (by simp [he]))) (hC2.at_ hs (fun b hb => (ne_app (ne_cons (by show g3 ≠ b; omega) (ne_cons (by show g2 ≠ b; omega) (ne_cons (by show g1 ≠ b; omega) ne_nil))) (hFx.ne hb)))) (hox.dat (fun e he => hs.has e (by simp [he]))) (hE.at_ hs (fun b hb => (ne_app (ne_cons (by show g3 ≠ b; omega) (ne_cons (by show g2 ≠ b; omega) (ne_cons (by show g1 ≠ b; omega) ne_nil))) (hFx.ne hb))))).mono fun e w' h => by rw [decide_eq_true (p := sameD o n H1 H2 Fx o n H1 H2 Es) ⟨rfl, rfl, rfl, rfl, hsmx.c⟩] at h; exact h) ?_
  refine TM.free (Wants.none rfl) rfl (fun _ => Gets.pickT rfl rfl rfl) ?_
  refine TM.free (Wants.none rfl) rfl (fun _ => Gets.move rfl rfl) ?_
  refine TM.gets (Wants.yes rfl rfl rfl) rfl (Gets.loadN rfl agg25 size25 rfl (vs := [Value.int .i64 o, Value.int .i64 n] ++ (H1.map (Value.int .u8) ++ (H2.map (Value.int .u8) ++ ([Value.slice A m c])))) (by simp [hH1, hH2]) (Row.all (i := 2) (ent := ⟨g1, 25, [Value.int .i64 o, Value.int .i64 n] ++ (H1.map (Value.int .u8) ++ (H2.map (Value.int .u8) ++ ([Value.slice A m c]))), 67⟩) rfl rfl rfl)) ?_
  refine TM.gets (Wants.yes rfl rfl rfl) rfl (Gets.loadN rfl agg25 size25 rfl (vs := [Value.int .i64 o2, Value.int .i64 n2] ++ (G1.map (Value.int .u8) ++ (G2.map (Value.int .u8) ++ ([Value.slice A2 m2 c2])))) (by simp [hG1, hG2]) (Row.all (i := 1) (ent := ⟨g2, 25, [Value.int .i64 o2, Value.int .i64 n2] ++ (G1.map (Value.int .u8) ++ (G2.map (Value.int .u8) ++ ([Value.slice A2 m2 c2]))), 67⟩) rfl rfl rfl)) ?_
  refine TM.call0 (Wants.yes rfl rfl rfl) rfl enters22 rfl rfl (v := .bool (decide (sameD o n H1 H2 Cs o2 n2 G1 G2 Es))) (fun w hs => dsame_c o n H1 H2 hH1 hH2 A m c Cs o2 n2 G1 G2 hG1 hG2 A2 m2 c2 Es hmm hmm2 hN w (hC.at_ hs (fun b hb => (ne_app (ne_cons (by show g3 ≠ b; omega) (ne_cons (by show g2 ≠ b; omega) (ne_cons (by show g1 ≠ b; omega) ne_nil))) (hFx.ne hb)))) (hC2.at_ hs (fun b hb => (ne_app (ne_cons (by show g3 ≠ b; omega) (ne_cons (by show g2 ≠ b; omega) (ne_cons (by show g1 ≠ b; omega) ne_nil))) (hFx.ne hb)))) (hD.at_ hs (fun b hb => (ne_app (ne_cons (by show g3 ≠ b; omega) (ne_cons (by show g2 ≠ b; omega) (ne_cons (by show g1 ≠ b; omega) ne_nil))) (hFx.ne hb)))) (hE.at_ hs (fun b hb => (ne_app (ne_cons (by show g3 ≠ b; omega) (ne_cons (by show g2 ≠ b; omega) (ne_cons (by show g1 ≠ b; omega) ne_nil))) (hFx.ne hb)))) hf.q hf2.q) ?_
  refine TM.gets (Wants.yes rfl rfl rfl) rfl (Gets.loadN rfl agg25 size25 rfl (vs := [Value.int .i64 o, Value.int .i64 n] ++ (H1.map (Value.int .u8) ++ (H2.map (Value.int .u8) ++ ([Value.slice A m c])))) (by simp [hH1, hH2]) (Row.all (i := 2) (ent := ⟨g1, 25, [Value.int .i64 o, Value.int .i64 n] ++ (H1.map (Value.int .u8) ++ (H2.map (Value.int .u8) ++ ([Value.slice A m c]))), 67⟩) rfl rfl rfl)) ?_
  refine TM.gets (Wants.yes rfl rfl rfl) rfl (Gets.loadN rfl agg25 size25 rfl (vs := [Value.int .i64 o2, Value.int .i64 n2] ++ (G1.map (Value.int .u8) ++ (G2.map (Value.int .u8) ++ ([Value.slice A2 m2 c2])))) (by simp [hG1, hG2]) (Row.all (i := 1) (ent := ⟨g2, 25, [Value.int .i64 o2, Value.int .i64 n2] ++ (G1.map (Value.int .u8) ++ (G2.map (Value.int .u8) ++ ([Value.slice A2 m2 c2]))), 67⟩) rfl rfl rfl)) ?_
  refine TM.call0 (Wants.yes rfl rfl rfl) rfl enters17 rfl rfl (v := .bool (decide (sameD o n H1 H2 Cs o2 n2 G1 G2 Es))) (fun w hs => rdsame_c o n H1 H2 hH1 hH2 A m c Cs o2 n2 G1 G2 hG1 hG2 A2 m2 c2 Es hmm hmm2 hN w (hC.at_ hs (fun b hb => (ne_app (ne_cons (by show g3 ≠ b; omega) (ne_cons (by show g2 ≠ b; omega) (ne_cons (by show g1 ≠ b; omega) ne_nil))) (hFx.ne hb)))) (hC2.at_ hs (fun b hb => (ne_app (ne_cons (by show g3 ≠ b; omega) (ne_cons (by show g2 ≠ b; omega) (ne_cons (by show g1 ≠ b; omega) ne_nil))) (hFx.ne hb)))) (hD.at_ hs (fun b hb => (ne_app (ne_cons (by show g3 ≠ b; omega) (ne_cons (by show g2 ≠ b; omega) (ne_cons (by show g1 ≠ b; omega) ne_nil))) (hFx.ne hb)))) (hE.at_ hs (fun b hb => (ne_app (ne_cons (by show g3 ≠ b; omega) (ne_cons (by show g2 ≠ b; omega) (ne_cons (by show g1 ≠ b; omega) ne_nil))) (hFx.ne hb))))) ?_
  refine TM.free (Wants.yes rfl rfl rfl) rfl (fun _ => Gets.isTrue (Gets.boolEqP rfl Try.underlying4 rfl rfl) Iff.rfl) ?_
  refine TM.free (Wants.none rfl) rfl (fun _ => Gets.pickT rfl rfl rfl) ?_
  refine TM.free (Wants.none rfl) rfl (fun _ => Gets.move rfl rfl) ?_
  refine TM.gets (Wants.yes rfl rfl rfl) rfl (Gets.loadN rfl agg25 size25 rfl (vs := [Value.int .i64 o, Value.int .i64 n] ++ (H1.map (Value.int .u8) ++ (H2.map (Value.int .u8) ++ ([Value.slice A m c])))) (by simp [hH1, hH2]) (Row.all (i := 2) (ent := ⟨g1, 25, [Value.int .i64 o, Value.int .i64 n] ++ (H1.map (Value.int .u8) ++ (H2.map (Value.int .u8) ++ ([Value.slice A m c]))), 67⟩) rfl rfl rfl)) ?_
  refine TM.gets (Wants.yes rfl rfl rfl) rfl (Gets.loadN rfl agg25 size25 rfl (vs := [Value.int .i64 o, Value.int .i64 n] ++ (H1.map (Value.int .u8) ++ (H2.map (Value.int .u8) ++ ([Value.slice A m c])))) (by simp [hH1, hH2]) (Row.all (i := 2) (ent := ⟨g1, 25, [Value.int .i64 o, Value.int .i64 n] ++ (H1.map (Value.int .u8) ++ (H2.map (Value.int .u8) ++ ([Value.slice A m c]))), 67⟩) rfl rfl rfl)) ?_
  refine TM.call0 (Wants.yes rfl rfl rfl) rfl enters22 rfl rfl (v := .bool true) (fun w hs => (dsame_c o n H1 H2 hH1 hH2 A m c Cs o n H1 H2 hH1 hH2 A m c Cs hmm hmm hN w (hC.at_ hs (fun b hb => (ne_app (ne_cons (by show g3 ≠ b; omega) (ne_cons (by show g2 ≠ b; omega) (ne_cons (by show g1 ≠ b; omega) ne_nil))) (hFx.ne hb)))) (hC.at_ hs (fun b hb => (ne_app (ne_cons (by show g3 ≠ b; omega) (ne_cons (by show g2 ≠ b; omega) (ne_cons (by show g1 ≠ b; omega) ne_nil))) (hFx.ne hb)))) (hD.at_ hs (fun b hb => (ne_app (ne_cons (by show g3 ≠ b; omega) (ne_cons (by show g2 ≠ b; omega) (ne_cons (by show g1 ≠ b; omega) ne_nil))) (hFx.ne hb)))) (hD.at_ hs (fun b hb => (ne_app (ne_cons (by show g3 ≠ b; omega) (ne_cons (by show g2 ≠ b; omega) (ne_cons (by show g1 ≠ b; omega) ne_nil))) (hFx.ne hb)))) hf.q hf.q).mono fun e w' h => by rw [decide_eq_true (p := sameD o n H1 H2 Cs o n H1 H2 Cs) ⟨rfl, rfl, rfl, rfl, rfl⟩] at h; exact h) ?_
  refine TM.free (Wants.none rfl) rfl (fun _ => Gets.pickT rfl rfl rfl) ?_
  refine TM.free (Wants.none rfl) rfl (fun _ => Gets.move rfl rfl) ?_
  refine TM.gets (Wants.yes rfl rfl rfl) rfl (Gets.loadN rfl agg25 size25 rfl (vs := [Value.int .i64 o, Value.int .i64 n] ++ (H1.map (Value.int .u8) ++ (H2.map (Value.int .u8) ++ ([Value.slice Ax m2 cx])))) (by simp [hH1, hH2]) (Row.all (i := 0) (ent := ⟨g3, 25, [Value.int .i64 o, Value.int .i64 n] ++ (H1.map (Value.int .u8) ++ (H2.map (Value.int .u8) ++ ([Value.slice Ax m2 cx]))), 67⟩) rfl rfl rfl)) ?_
  refine TM.gets (Wants.yes rfl rfl rfl) rfl (Gets.loadN rfl agg25 size25 rfl (vs := [Value.int .i64 o, Value.int .i64 n] ++ (H1.map (Value.int .u8) ++ (H2.map (Value.int .u8) ++ ([Value.slice A m c])))) (by simp [hH1, hH2]) (Row.all (i := 2) (ent := ⟨g1, 25, [Value.int .i64 o, Value.int .i64 n] ++ (H1.map (Value.int .u8) ++ (H2.map (Value.int .u8) ++ ([Value.slice A m c]))), 67⟩) rfl rfl rfl)) ?_
  refine TM.call0 (Wants.yes rfl rfl rfl) rfl enters22 rfl rfl (v := .bool (decide (sameD o n H1 H2 Fx o n H1 H2 Cs))) (fun w hs => dsame_c o n H1 H2 hH1 hH2 Ax m2 cx Fx o n H1 H2 hH1 hH2 A m c Cs hmm2 hmm hox.num w (hox.src (fun e he => hs.has e (by simp [he]))) (hC.at_ hs (fun b hb => (ne_app (ne_cons (by show g3 ≠ b; omega) (ne_cons (by show g2 ≠ b; omega) (ne_cons (by show g1 ≠ b; omega) ne_nil))) (hFx.ne hb)))) (hox.dat (fun e he => hs.has e (by simp [he]))) (hD.at_ hs (fun b hb => (ne_app (ne_cons (by show g3 ≠ b; omega) (ne_cons (by show g2 ≠ b; omega) (ne_cons (by show g1 ≠ b; omega) ne_nil))) (hFx.ne hb)))) (hf2.q.same hsmx) hf.q) ?_
  refine TM.free (Wants.yes rfl rfl rfl) rfl (fun _ => Gets.fieldAddr rfl Try.underlying25 rfl size23 rfl (off' := 66) (by first | rfl | omega)) ?_
  refine TM.gets (Wants.yes rfl rfl rfl) rfl (Gets.load1 rfl agg23 rfl (At.ent (i := 2) (ent := ⟨g1, 25, [Value.int .i64 o, Value.int .i64 n] ++ (H1.map (Value.int .u8) ++ (H2.map (Value.int .u8) ++ ([Value.slice A m c]))), 67⟩) (off := 66) rfl rfl (by exact app_right (a := 2) (i := 64) (rfl) (app_right (a := 32) (i := 32) (ints_len hH1) (app_right (a := 32) (i := 0) (ints_len hH2) (rfl)))))) ?_
  refine TM.free (Wants.yes rfl rfl rfl) rfl (fun _ => Gets.fieldAddr rfl Try.underlying25 rfl size23 rfl (off' := 66) (by first | rfl | omega)) ?_
  refine TM.gets (Wants.yes rfl rfl rfl) rfl (Gets.load1 rfl agg23 rfl (At.ent (i := 1) (ent := ⟨g2, 25, [Value.int .i64 o2, Value.int .i64 n2] ++ (G1.map (Value.int .u8) ++ (G2.map (Value.int .u8) ++ ([Value.slice A2 m2 c2]))), 67⟩) (off := 66) rfl rfl (by exact app_right (a := 2) (i := 64) (rfl) (app_right (a := 32) (i := 32) (ints_len hG1) (app_right (a := 32) (i := 0) (ints_len hG2) (rfl)))))) ?_
  refine TM.call0 (Wants.yes rfl rfl rfl) rfl enters23 rfl rfl (v := .bool (decide (sameC Cs Es))) (fun w hs => rall_c A A2 m c m2 c2 Cs Es hmm hmm2 hN w (hC.at_ hs (fun b hb => (ne_app (ne_cons (by show g3 ≠ b; omega) (ne_cons (by show g2 ≠ b; omega) (ne_cons (by show g1 ≠ b; omega) ne_nil))) (hFx.ne hb)))) (hC2.at_ hs (fun b hb => (ne_app (ne_cons (by show g3 ≠ b; omega) (ne_cons (by show g2 ≠ b; omega) (ne_cons (by show g1 ≠ b; omega) ne_nil))) (hFx.ne hb)))) (hD.at_ hs (fun b hb => (ne_app (ne_cons (by show g3 ≠ b; omega) (ne_cons (by show g2 ≠ b; omega) (ne_cons (by show g1 ≠ b; omega) ne_nil))) (hFx.ne hb)))) (hE.at_ hs (fun b hb => (ne_app (ne_cons (by show g3 ≠ b; omega) (ne_cons (by show g2 ≠ b; omega) (ne_cons (by show g1 ≠ b; omega) ne_nil))) (hFx.ne hb))))) ?_
  refine TM.free (Wants.yes rfl rfl rfl) rfl (fun _ => Gets.isTrue (Gets.boolEqP rfl Try.underlying4 rfl rfl) ⟨fun h => (hsmx.c.symm.trans h.2.2.2.2).symm, fun h => ⟨rfl, rfl, rfl, rfl, hsmx.c.trans h.symm⟩⟩) ?_
  refine TM.free (Wants.none rfl) rfl (fun _ => Gets.pickT rfl rfl rfl) ?_
  refine TM.free (Wants.none rfl) rfl (fun _ => Gets.assign rfl rfl) ?_
  refine TM.nil ?_
  refine TE.then ?_
  refine TC.ret ?_
  exact TE.ret1 rfl rfl (fun w hs => ⟨rfl, by have h2 := St.left (H := [⟨g3, 25, [Value.int .i64 o, Value.int .i64 n] ++ (H1.map (Value.int .u8) ++ (H2.map (Value.int .u8) ++ ([Value.slice Ax m2 cx]))), 67⟩, ⟨g2, 25, [Value.int .i64 o2, Value.int .i64 n2] ++ (G1.map (Value.int .u8) ++ (G2.map (Value.int .u8) ++ ([Value.slice A2 m2 c2]))), 67⟩, ⟨g1, 25, [Value.int .i64 o, Value.int .i64 n] ++ (H1.map (Value.int .u8) ++ (H2.map (Value.int .u8) ++ ([Value.slice A m c]))), 67⟩]) hs hFx; exact (((h2.drop (by assumption)).drop (by assumption)).drop (by assumption))⟩)


theorem deltaWith_walk (o n : Int) (H1 H2 : List Int) (hH1 : H1.length = 32) (hH2 : H2.length = 32) (A : Option Addr) (m c : Nat) (Cs : List CV) (o2 n2 : Int) (G1 G2 : List Int) (hG1 : G1.length = 32) (hG2 : G2.length = 32) (A2 : Option Addr) (m2 c2 : Nat) (Es : List CV) (w : World) (bo : -9223372036854775808 ≤ o ∧ o ≤ 9223372036854775807) (bn : -9223372036854775808 ≤ n ∧ n ≤ 9223372036854775807) (hmc : m ≤ c) (hcm : c ≤ 9223372036854775807) (hN : NumsC Cs) (hC : SrcC w A m Cs) (hD : DatC w Cs) (hA : A = none → m = 0) (hB1 : Bytes H1) (hB2 : Bytes H2) (bo2 : -9223372036854775808 ≤ o2 ∧ o2 ≤ 9223372036854775807) (bn2 : -9223372036854775808 ≤ n2 ∧ n2 ≤ 9223372036854775807) (hmc2 : m2 ≤ c2) (hcm2 : c2 ≤ 9223372036854775807) (hN2 : NumsC Es) (hC2 : SrcC w A2 m2 Es) (hE : DatC w Es) (hA2 : A2 = none → m2 = 0) (hB3 : Bytes G1) (hB4 : Bytes G2) : Calls Try.prog 6 #[.agg ([Value.int .i64 o, Value.int .i64 n] ++ (H1.map (Value.int .u8) ++ (H2.map (Value.int .u8) ++ ([Value.slice A m c])))).toArray, .agg ([Value.int .i64 o2, Value.int .i64 n2] ++ (G1.map (Value.int .u8) ++ (G2.map (Value.int .u8) ++ ([Value.slice A2 m2 c2])))).toArray] w fun e w' => e = .returned (.bool true) ∧ St w [] w' := by
  have h1 : m ≤ 9223372036854775807 := by omega
  have h2 : m2 ≤ 9223372036854775807 := by omega
  by_cases hf : fewP Cs
  · by_cases hf2 : fewP Es
    · exact dwith_yes o n H1 H2 hH1 hH2 A m c Cs o2 n2 G1 G2 hG1 hG2 A2 m2 c2 Es h1 h2 hN hN2 w hC hC2 hD hE hf hf2
    · exact dwith_no2 o n H1 H2 hH1 hH2 A m c Cs o2 n2 G1 G2 hG1 hG2 A2 m2 c2 Es h1 h2 hN hN2 w hC hC2 hD hE hf hf2
  · exact dwith_no1 o n H1 H2 hH1 hH2 A m c Cs o2 n2 G1 G2 hG1 hG2 A2 m2 c2 Es h1 h2 hN hN2 w hC hC2 hD hE hf
end Go.Proofs.Ytkgamkjdkapchaa
