/-
  DeltaSorts: the frame.
-/
import Derived.Test.YtkgamkjdkapchaaSorts5Pe
import Derived.Test.YtkgamkjdkapchaaSorts5Pa
import Derived.Test.YtkgamkjdkapchaaRows
import Derived.ProofKit
import Derived.LaidMore
import Derived.OpenShut
import Derived.ShutString
import Derived.ChangeOld
import Derived.Stop.Joined
import Derived.Carry
import Derived.Lib.SmallJoins
import Derived.Deep.Matrix
import Derived.SizedLaws
import Derived.Test.YtkgamkjdkapchaaSorts5Pc
/-
  DeltaSorts: the walk.
-/
namespace Go.Proofs.Ytkgamkjdkapchaa
set_option linter.unusedVariables false
set_option linter.unusedSimpArgs false
open Go Go.RowKit
theorem enters16 : Enters Try.prog 16 := ⟨_, Try.func16, by kernel_rfl, by kernel_rfl⟩
theorem enters19 : Enters Try.prog 19 := ⟨_, Try.func19, by kernel_rfl, by kernel_rfl⟩
set_option maxRecDepth 100000 in
set_option maxHeartbeats 2000000 in
theorem dsorts_no (o n : Int) (H1 H2 : List Int) (hH1 : H1.length = 32) (hH2 : H2.length = 32) (A : Option Addr) (m c : Nat) (Cs : List CV) (hml : m ≤ 9223372036854775807 ∧ ((-9223372036854775808 ≤ o ∧ o ≤ 9223372036854775807) ∧ (-9223372036854775808 ≤ n ∧ n ≤ 9223372036854775807))) (hN : NumsC Cs) (w : World) (hC : SrcC w A m Cs) (hD : DatC w Cs) (hf : ¬ fewP Cs) : Calls Try.prog 5 #[.agg ([Value.int .i64 o, Value.int .i64 n] ++ (H1.map (Value.int .u8) ++ (H2.map (Value.int .u8) ++ ([Value.slice A m c])))).toArray] w fun e w' => e = .returned (.bool true) ∧ St w [] w' := by
  refine calls_from (args := [.agg ([Value.int .i64 o, Value.int .i64 n] ++ (H1.map (Value.int .u8) ++ (H2.map (Value.int .u8) ++ ([Value.slice A m c])))).toArray]) Try.func5 rfl Try.ntmps5 (by simp) ?_
  refine TC.sub (Sub.cons (i := 0) rfl (Sub.nil)) ?_
  refine TC.seq ?_
  refine TC.regionL ?_
  refine TL.box (Wants.none rfl) rfl rfl rfl (cs := [Value.int .i64 o, Value.int .i64 n] ++ (H1.map (Value.int .u8) ++ (H2.map (Value.int .u8) ++ ([Value.slice A m c])))) (by simp [Value.cells]) (tot := 67) (by simp [hH1, hH2]) (fun g1 hg1 => ?_)
  refine TL.gets (Wants.none rfl) rfl (Gets.assign rfl rfl) ?_
  refine TL.nil ?_
  refine TE.then ?_
  refine TC.seq ?_
  refine TC.seq ?_
  refine TC.regionL ?_
  refine TL.gets (Wants.none rfl) rfl (Gets.loadN rfl agg25 size25 rfl (vs := [Value.int .i64 o, Value.int .i64 n] ++ (H1.map (Value.int .u8) ++ (H2.map (Value.int .u8) ++ ([Value.slice A m c])))) (by simp [hH1, hH2]) (Row.all (i := 0) (ent := ⟨g1, 25, [Value.int .i64 o, Value.int .i64 n] ++ (H1.map (Value.int .u8) ++ (H2.map (Value.int .u8) ++ ([Value.slice A m c]))), 67⟩) rfl rfl rfl)) ?_
  refine TL.call0 (Wants.none rfl) rfl enters8 rfl rfl (v := .bool false) (fun w hs => (few_c o n H1 H2 hH1 hH2 A m c Cs (by omega) hN w (hC.at_ hs (fun b hb => (ne_cons (by show g1 ≠ b; omega) ne_nil)))).mono fun e w' h => by rw [decide_eq_false (p := fewP Cs) hf] at h; exact h) ?_
  refine TL.gets (Wants.none rfl) rfl (Gets.not rfl rfl) ?_
  refine TL.gets (Wants.none rfl) rfl (Gets.move rfl rfl) ?_
  refine TL.pass rfl rfl rfl rfl rfl ?_
  refine TL.pass rfl rfl rfl rfl rfl ?_
  refine TL.pass rfl rfl rfl rfl rfl ?_
  refine TL.gets (Wants.none rfl) rfl (Gets.pickT rfl rfl rfl) ?_
  refine TL.nil ?_
  refine TE.then ?_
  refine TC.sub (Sub.cons (i := 1) rfl (Sub.cons (i := 2) rfl (Sub.cons (i := 15) rfl (Sub.nil)))) ?_
  refine TC.yes rfl ?_
  refine TC.seq ?_
  refine TC.regionL ?_
  refine TL.call0 (Wants.none rfl) rfl enters9 rfl rfl (v := .bool true) (fun w hs => alive_c w) ?_
  refine TL.gets (Wants.none rfl) rfl (Gets.assign rfl rfl) ?_
  refine TL.nil ?_
  refine TE.then ?_
  refine TC.ret ?_
  refine TE.thenR ?_
  exact TE.ret1 rfl rfl (fun w hs => ⟨rfl, (hs.drop (by assumption))⟩)

set_option maxRecDepth 100000 in
set_option maxHeartbeats 2000000 in
theorem dsorts_bad (o n : Int) (H1 H2 : List Int) (hH1 : H1.length = 32) (hH2 : H2.length = 32) (A : Option Addr) (m c : Nat) (Cs : List CV) (hml : m ≤ 9223372036854775807 ∧ ((-9223372036854775808 ≤ o ∧ o ≤ 9223372036854775807) ∧ (-9223372036854775808 ≤ n ∧ n ≤ 9223372036854775807))) (hN : NumsC Cs) (w : World) (hC : SrcC w A m Cs) (hD : DatC w Cs) (hf : fewP Cs) (hv : ¬ (faultI o n Cs).1 = 0) : Calls Try.prog 5 #[.agg ([Value.int .i64 o, Value.int .i64 n] ++ (H1.map (Value.int .u8) ++ (H2.map (Value.int .u8) ++ ([Value.slice A m c])))).toArray] w fun e w' => e = .returned (.bool true) ∧ St w [] w' := by
  have hmm : m ≤ 1000000000 := by have := hf.2; have := hC.1; omega
  refine calls_from (args := [.agg ([Value.int .i64 o, Value.int .i64 n] ++ (H1.map (Value.int .u8) ++ (H2.map (Value.int .u8) ++ ([Value.slice A m c])))).toArray]) Try.func5 rfl Try.ntmps5 (by simp) ?_
  refine TC.sub (Sub.cons (i := 0) rfl (Sub.nil)) ?_
  refine TC.seq ?_
  refine TC.regionL ?_
  refine TL.box (Wants.none rfl) rfl rfl rfl (cs := [Value.int .i64 o, Value.int .i64 n] ++ (H1.map (Value.int .u8) ++ (H2.map (Value.int .u8) ++ ([Value.slice A m c])))) (by simp [Value.cells]) (tot := 67) (by simp [hH1, hH2]) (fun g1 hg1 => ?_)
  refine TL.gets (Wants.none rfl) rfl (Gets.assign rfl rfl) ?_
  refine TL.nil ?_
  refine TE.then ?_
  refine TC.seq ?_
  refine TC.seq ?_
  refine TC.regionL ?_
  refine TL.gets (Wants.none rfl) rfl (Gets.loadN rfl agg25 size25 rfl (vs := [Value.int .i64 o, Value.int .i64 n] ++ (H1.map (Value.int .u8) ++ (H2.map (Value.int .u8) ++ ([Value.slice A m c])))) (by simp [hH1, hH2]) (Row.all (i := 0) (ent := ⟨g1, 25, [Value.int .i64 o, Value.int .i64 n] ++ (H1.map (Value.int .u8) ++ (H2.map (Value.int .u8) ++ ([Value.slice A m c]))), 67⟩) rfl rfl rfl)) ?_
  refine TL.call0 (Wants.none rfl) rfl enters8 rfl rfl (v := .bool true) (fun w hs => (few_c o n H1 H2 hH1 hH2 A m c Cs (by omega) hN w (hC.at_ hs (fun b hb => (ne_cons (by show g1 ≠ b; omega) ne_nil)))).mono fun e w' h => by rw [decide_eq_true (p := fewP Cs) hf] at h; exact h) ?_
  refine TL.gets (Wants.none rfl) rfl (Gets.not rfl rfl) ?_
  refine TL.gets (Wants.none rfl) rfl (Gets.move rfl rfl) ?_
  refine TL.gets (Wants.yes rfl rfl rfl) rfl (Gets.loadN rfl agg25 size25 rfl (vs := [Value.int .i64 o, Value.int .i64 n] ++ (H1.map (Value.int .u8) ++ (H2.map (Value.int .u8) ++ ([Value.slice A m c])))) (by simp [hH1, hH2]) (Row.all (i := 0) (ent := ⟨g1, 25, [Value.int .i64 o, Value.int .i64 n] ++ (H1.map (Value.int .u8) ++ (H2.map (Value.int .u8) ++ ([Value.slice A m c]))), 67⟩) rfl rfl rfl)) ?_
  refine TL.call0 (Wants.yes rfl rfl rfl) rfl enters13 rfl rfl (v := .bool false) (fun w hs => (rdvalid_c o n H1 H2 hH1 hH2 A m c Cs hmm hN w (hC.at_ hs (fun b hb => (ne_cons (by show g1 ≠ b; omega) ne_nil)))).mono fun e w' h => by rw [decide_eq_false (p := (faultI o n Cs).1 = 0) hv] at h; exact h) ?_
  refine TL.gets (Wants.yes rfl rfl rfl) rfl (Gets.not rfl rfl) ?_
  refine TL.gets (Wants.none rfl) rfl (Gets.pickF rfl rfl rfl) ?_
  refine TL.nil ?_
  refine TE.then ?_
  refine TC.sub (Sub.cons (i := 1) rfl (Sub.cons (i := 2) rfl (Sub.cons (i := 15) rfl (Sub.nil)))) ?_
  refine TC.yes rfl ?_
  refine TC.seq ?_
  refine TC.regionL ?_
  refine TL.call0 (Wants.none rfl) rfl enters9 rfl rfl (v := .bool true) (fun w hs => alive_c w) ?_
  refine TL.gets (Wants.none rfl) rfl (Gets.assign rfl rfl) ?_
  refine TL.nil ?_
  refine TE.then ?_
  refine TC.ret ?_
  refine TE.thenR ?_
  exact TE.ret1 rfl rfl (fun w hs => ⟨rfl, (hs.drop (by assumption))⟩)

set_option maxRecDepth 100000 in
set_option maxHeartbeats 2000000 in
theorem dsorts_yes (o n : Int) (H1 H2 : List Int) (hH1 : H1.length = 32) (hH2 : H2.length = 32) (A : Option Addr) (m c : Nat) (Cs : List CV) (hml : m ≤ 9223372036854775807 ∧ ((-9223372036854775808 ≤ o ∧ o ≤ 9223372036854775807) ∧ (-9223372036854775808 ≤ n ∧ n ≤ 9223372036854775807))) (hN : NumsC Cs) (w : World) (hC : SrcC w A m Cs) (hD : DatC w Cs) (hf : fewP Cs) (hv : (faultI o n Cs).1 = 0) : Calls Try.prog 5 #[.agg ([Value.int .i64 o, Value.int .i64 n] ++ (H1.map (Value.int .u8) ++ (H2.map (Value.int .u8) ++ ([Value.slice A m c])))).toArray] w fun e w' => e = .returned (.bool true) ∧ St w [] w' := by
  have hmm : m ≤ 1000000000 := by have := hf.2; have := hC.1; omega
  have hVC := validC hv
  have hm40 : m ≤ 40 := by have := hf.2; have := hC.1; omega
  refine calls_from (args := [.agg ([Value.int .i64 o, Value.int .i64 n] ++ (H1.map (Value.int .u8) ++ (H2.map (Value.int .u8) ++ ([Value.slice A m c])))).toArray]) Try.func5 rfl Try.ntmps5 (by simp) ?_
  refine TC.sub (Sub.cons (i := 0) rfl (Sub.nil)) ?_
  refine TC.seq ?_
  refine TC.regionL ?_
  refine TL.box (Wants.none rfl) rfl rfl rfl (cs := [Value.int .i64 o, Value.int .i64 n] ++ (H1.map (Value.int .u8) ++ (H2.map (Value.int .u8) ++ ([Value.slice A m c])))) (by simp [Value.cells]) (tot := 67) (by simp [hH1, hH2]) (fun g1 hg1 => ?_)
  refine TL.gets (Wants.none rfl) rfl (Gets.assign rfl rfl) ?_
  refine TL.nil ?_
  refine TE.then ?_
  refine TC.seq ?_
  refine TC.seq ?_
  refine TC.regionL ?_
  refine TL.gets (Wants.none rfl) rfl (Gets.loadN rfl agg25 size25 rfl (vs := [Value.int .i64 o, Value.int .i64 n] ++ (H1.map (Value.int .u8) ++ (H2.map (Value.int .u8) ++ ([Value.slice A m c])))) (by simp [hH1, hH2]) (Row.all (i := 0) (ent := ⟨g1, 25, [Value.int .i64 o, Value.int .i64 n] ++ (H1.map (Value.int .u8) ++ (H2.map (Value.int .u8) ++ ([Value.slice A m c]))), 67⟩) rfl rfl rfl)) ?_
  refine TL.call0 (Wants.none rfl) rfl enters8 rfl rfl (v := .bool true) (fun w hs => (few_c o n H1 H2 hH1 hH2 A m c Cs (by omega) hN w (hC.at_ hs (fun b hb => (ne_cons (by show g1 ≠ b; omega) ne_nil)))).mono fun e w' h => by rw [decide_eq_true (p := fewP Cs) hf] at h; exact h) ?_
  refine TL.gets (Wants.none rfl) rfl (Gets.not rfl rfl) ?_
  refine TL.gets (Wants.none rfl) rfl (Gets.move rfl rfl) ?_
  refine TL.gets (Wants.yes rfl rfl rfl) rfl (Gets.loadN rfl agg25 size25 rfl (vs := [Value.int .i64 o, Value.int .i64 n] ++ (H1.map (Value.int .u8) ++ (H2.map (Value.int .u8) ++ ([Value.slice A m c])))) (by simp [hH1, hH2]) (Row.all (i := 0) (ent := ⟨g1, 25, [Value.int .i64 o, Value.int .i64 n] ++ (H1.map (Value.int .u8) ++ (H2.map (Value.int .u8) ++ ([Value.slice A m c]))), 67⟩) rfl rfl rfl)) ?_
  refine TL.call0 (Wants.yes rfl rfl rfl) rfl enters13 rfl rfl (v := .bool true) (fun w hs => (rdvalid_c o n H1 H2 hH1 hH2 A m c Cs hmm hN w (hC.at_ hs (fun b hb => (ne_cons (by show g1 ≠ b; omega) ne_nil)))).mono fun e w' h => by rw [decide_eq_true (p := (faultI o n Cs).1 = 0) hv] at h; exact h) ?_
  refine TL.gets (Wants.yes rfl rfl rfl) rfl (Gets.not rfl rfl) ?_
  refine TL.gets (Wants.none rfl) rfl (Gets.pickF rfl rfl rfl) ?_
  refine TL.nil ?_
  refine TE.then ?_
  refine TC.sub (Sub.cons (i := 1) rfl (Sub.cons (i := 2) rfl (Sub.cons (i := 15) rfl (Sub.nil)))) ?_
  refine TC.no rfl ?_
  refine TC.skip ?_
  refine TE.then ?_
  refine TC.seq ?_
  refine TC.regionL ?_
  refine TL.gets (Wants.none rfl) rfl (Gets.loadN rfl agg25 size25 rfl (vs := [Value.int .i64 o, Value.int .i64 n] ++ (H1.map (Value.int .u8) ++ (H2.map (Value.int .u8) ++ ([Value.slice A m c])))) (by simp [hH1, hH2]) (Row.all (i := 0) (ent := ⟨g1, 25, [Value.int .i64 o, Value.int .i64 n] ++ (H1.map (Value.int .u8) ++ (H2.map (Value.int .u8) ++ ([Value.slice A m c]))), 67⟩) rfl rfl rfl)) ?_
  refine TL.alloc (Wants.none rfl) rfl rfl zero25 (cs := [Value.int .i64 0, Value.int .i64 0] ++ ((List.replicate 64 0).map (Value.int .u8) ++ ([Value.slice none 0 0]))) rfl (tot := 67) (by simp) (fun g2 hg2 => ?_)
  refine TL.storeW (Wants.none rfl) rfl rfl size25 rfl (vs := [Value.int .i64 o, Value.int .i64 n] ++ (H1.map (Value.int .u8) ++ (H2.map (Value.int .u8) ++ ([Value.slice A m c])))) rfl (by simp [hH1, hH2]) (ones_app (by simp [Value.oneCell']) (ones_app ints_one (ones_app ints_one (by simp [Value.oneCell'])))) (i := 0) (ent := ⟨g2, 25, [Value.int .i64 0, Value.int .i64 0] ++ ((List.replicate 64 0).map (Value.int .u8) ++ ([Value.slice none 0 0])), 67⟩) rfl rfl (by simp []) (H' := [⟨g2, 25, [Value.int .i64 o, Value.int .i64 n] ++ (H1.map (Value.int .u8) ++ (H2.map (Value.int .u8) ++ ([Value.slice A m c]))), 67⟩, ⟨g1, 25, [Value.int .i64 o, Value.int .i64 n] ++ (H1.map (Value.int .u8) ++ (H2.map (Value.int .u8) ++ ([Value.slice A m c]))), 67⟩]) rfl ?_
  refine TL.nil ?_
  refine TE.then ?_
  refine TC.seq ?_
  refine TC.regionL ?_
  refine TL.emptySlice (Wants.none rfl) rfl rfl Try.underlying23 size40 (fun g3 hg3 => ?_)
  refine TL.gets (Wants.none rfl) rfl (Gets.fieldAddr rfl Try.underlying25 rfl size23 rfl (off' := 66) (by first | rfl | omega)) ?_
  refine TL.gets (Wants.none rfl) rfl (Gets.load1 rfl agg23 rfl (At.ent (i := 2) (ent := ⟨g1, 25, [Value.int .i64 o, Value.int .i64 n] ++ (H1.map (Value.int .u8) ++ (H2.map (Value.int .u8) ++ ([Value.slice A m c]))), 67⟩) (off := 66) rfl rfl (by exact app_right (a := 2) (i := 64) (rfl) (app_right (a := 32) (i := 32) (ints_len hH1) (app_right (a := 32) (i := 0) (ints_len hH2) (rfl)))))) ?_
  refine TL.heap (H' := [Ent.mk g2 25 ([Value.int .i64 o, Value.int .i64 n] ++ (H1.map (Value.int .u8) ++ (H2.map (Value.int .u8) ++ ([Value.slice A m c])))) 67, Ent.mk g1 25 ([Value.int .i64 o, Value.int .i64 n] ++ (H1.map (Value.int .u8) ++ (H2.map (Value.int .u8) ++ ([Value.slice A m c])))) 67] ++ [(Ent.mk g3 40 [] 0)]) (fun w h => h.perm (List.perm_append_comm (l₁ := [(Ent.mk g3 40 [] 0)]) (l₂ := [Ent.mk g2 25 ([Value.int .i64 o, Value.int .i64 n] ++ (H1.map (Value.int .u8) ++ (H2.map (Value.int .u8) ++ ([Value.slice A m c])))) 67, Ent.mk g1 25 ([Value.int .i64 o, Value.int .i64 n] ++ (H1.map (Value.int .u8) ++ (H2.map (Value.int .u8) ++ ([Value.slice A m c])))) 67]))) ?_
  refine TL.appendS (H := [Ent.mk g2 25 ([Value.int .i64 o, Value.int .i64 n] ++ (H1.map (Value.int .u8) ++ (H2.map (Value.int .u8) ++ ([Value.slice A m c])))) 67, Ent.mk g1 25 ([Value.int .i64 o, Value.int .i64 n] ++ (H1.map (Value.int .u8) ++ (H2.map (Value.int .u8) ++ ([Value.slice A m c])))) 67]) (He := [(Ent.mk g3 40 [] 0)]) (Wants.none rfl) rfl rfl Try.underlying23 mk40 rfl (by decide) rfl rfl (s := 5) (nn := 0) (m := m) (cs := []) (news := flatC Cs) (OwnS.empty hg3 rfl) (by rw [flatC_len]; have := hC.1; omega) (fun w hs => (hC.at_ hs (fun b hb => (ne_app (ne_cons (by show g2 ≠ b; omega) (ne_cons (by show g1 ≠ b; omega) ne_nil)) (ne_cons (by show g3 ≠ b; omega) ne_nil)))).srcAll) (flatC_one' _) (by unfold maxLen; omega) (by omega) (fun vo Ho hvo0 => ?_)
  have hvo : OwnS w.heap.size 40 5 vo m (flatC Cs) Ho := by rw [← Nat.zero_add m]; exact hvo0
  clear hvo0
  obtain ⟨Ao, co, rfl, hco, hco2⟩ := hvo.form
  have hFo : Fresh w Ho := hvo.new
  refine TL.gets (Wants.none rfl) rfl (Gets.fieldAddr rfl Try.underlying25 rfl size23 rfl (off' := 66) (by first | rfl | omega)) ?_
  refine TL.store1 (Wants.none rfl) rfl rfl size23 rfl rfl rfl (i := 0) rfl rfl (by simp [hH1, hH2] <;> omega) (cs' := [Value.int .i64 o, Value.int .i64 n] ++ (H1.map (Value.int .u8) ++ (H2.map (Value.int .u8) ++ ([Value.slice Ao m co])))) (set_right (a := 2) (i := 64) (rfl) (set_right (a := 32) (i := 32) (ints_len hH1) (set_right (a := 32) (i := 0) (ints_len hH2) (rfl)))) (H' := [⟨g2, 25, [Value.int .i64 o, Value.int .i64 n] ++ (H1.map (Value.int .u8) ++ (H2.map (Value.int .u8) ++ ([Value.slice Ao m co]))), 67⟩, ⟨g1, 25, [Value.int .i64 o, Value.int .i64 n] ++ (H1.map (Value.int .u8) ++ (H2.map (Value.int .u8) ++ ([Value.slice A m c]))), 67⟩] ++ Ho) rfl ?_
  refine TL.nil ?_
  refine TE.then ?_
  refine TC.sub (Sub.cons (i := 1) rfl (Sub.cons (i := 2) rfl (Sub.cons (i := 3) rfl (Sub.nil)))) ?_
  refine TC.seq ?_
  refine TC.regionL ?_
  refine TL.gets (Wants.none rfl) rfl (Gets.loadN rfl agg25 size25 rfl (vs := [Value.int .i64 o, Value.int .i64 n] ++ (H1.map (Value.int .u8) ++ (H2.map (Value.int .u8) ++ ([Value.slice Ao m co])))) (by simp [hH1, hH2]) (Row.all (i := 0) (ent := ⟨g2, 25, [Value.int .i64 o, Value.int .i64 n] ++ (H1.map (Value.int .u8) ++ (H2.map (Value.int .u8) ++ ([Value.slice Ao m co]))), 67⟩) rfl rfl rfl)) ?_
  refine TL.call (ι := (Option Addr × Nat) × (List CV × List Ent)) (V := fun y => .agg ([Value.int .i64 o, Value.int .i64 n] ++ (H1.map (Value.int .u8) ++ (H2.map (Value.int .u8) ++ ([Value.slice y.1.1 m y.1.2])))).toArray) (R := fun y => (m ≤ y.1.2 ∧ y.1.2 ≤ 9223372036854775807) ∧ OwnD w.heap.size y.1.1 m y.2.1 y.2.2 ∧ ∃ Gs : List CV, Gs.Perm Cs ∧ Gs.Pairwise leC ∧ sameE y.2.1 Gs) (H' := fun y => [⟨g2, 25, [Value.int .i64 o, Value.int .i64 n] ++ (H1.map (Value.int .u8) ++ (H2.map (Value.int .u8) ++ ([Value.slice Ao m co]))), 67⟩, ⟨g1, 25, [Value.int .i64 o, Value.int .i64 n] ++ (H1.map (Value.int .u8) ++ (H2.map (Value.int .u8) ++ ([Value.slice A m c]))), 67⟩] ++ Ho ++ y.2.2) (Wants.none rfl) rfl enters16 rfl rfl (fun w hs => (dsort_c o n H1 H2 hH1 hH2 Ao m co Cs hmm hN w (hvo.srcC (fun e he => hs.has e (by simp [he]))) (hD.at_ hs (fun b hb => (ne_app (ne_cons (by show g2 ≠ b; omega) (ne_cons (by show g1 ≠ b; omega) ne_nil)) (hFo.ne hb)))) hf.q hVC).mono fun e w' ⟨A', c', Fs, He, he, hc, ho, hsm, hw⟩ => ⟨((A', c'), (Fs, He)), he, ⟨hc, ho.mono hs.size, hsm⟩, st_call hs hw ho.1⟩) (fun y hR => ?_)
  obtain ⟨⟨As, cs⟩, Fs, Es⟩ := y
  obtain ⟨hcs, hos, Gs, hGp, hGs, hsms⟩ := hR
  dsimp only at hcs hos hsms ⊢
  have hFs : Fresh w Es := hos.1
  have hvG := hVC.permV hGp
  have hvF : faultI o n Fs = (0, 0) := by rw [faultI_same hsms]; exact hvG
  have hVF := validC (o := o) (n := n) (Cs := Fs) (by rw [hvF])
  have hFl : Fs.length = m := by rw [hsms.len, hGp.length_eq]; exact hC.1
  have hch : chainT 0 (Fs.map tg) := by rw [hsms.tg]; exact (hVC.chain hGp hGs).1
  have hsumF := hVF.sum
  refine TL.heap (H' := [⟨g2, 25, [Value.int .i64 o, Value.int .i64 n] ++ (H1.map (Value.int .u8) ++ (H2.map (Value.int .u8) ++ ([Value.slice Ao m co]))), 67⟩, ⟨g1, 25, [Value.int .i64 o, Value.int .i64 n] ++ (H1.map (Value.int .u8) ++ (H2.map (Value.int .u8) ++ ([Value.slice A m c]))), 67⟩] ++ (Ho ++ Es)) (fun w h => by rw [← List.append_assoc]; exact h) ?_
  have hFtEs := Fresh.app hFo hFs
  refine TL.alloc (Wants.none rfl) rfl rfl zero25 (cs := [Value.int .i64 0, Value.int .i64 0] ++ ((List.replicate 64 0).map (Value.int .u8) ++ ([Value.slice none 0 0]))) rfl (tot := 67) (by simp) (fun g4 hg4 => ?_)
  refine TL.storeW (Wants.none rfl) rfl rfl size25 rfl (vs := [Value.int .i64 o, Value.int .i64 n] ++ (H1.map (Value.int .u8) ++ (H2.map (Value.int .u8) ++ ([Value.slice As m cs])))) rfl (by simp [hH1, hH2]) (ones_app (by simp [Value.oneCell']) (ones_app ints_one (ones_app ints_one (by simp [Value.oneCell'])))) (i := 0) (ent := ⟨g4, 25, [Value.int .i64 0, Value.int .i64 0] ++ ((List.replicate 64 0).map (Value.int .u8) ++ ([Value.slice none 0 0])), 67⟩) rfl rfl (by simp []) (H' := [⟨g4, 25, [Value.int .i64 o, Value.int .i64 n] ++ (H1.map (Value.int .u8) ++ (H2.map (Value.int .u8) ++ ([Value.slice As m cs]))), 67⟩, ⟨g2, 25, [Value.int .i64 o, Value.int .i64 n] ++ (H1.map (Value.int .u8) ++ (H2.map (Value.int .u8) ++ ([Value.slice Ao m co]))), 67⟩, ⟨g1, 25, [Value.int .i64 o, Value.int .i64 n] ++ (H1.map (Value.int .u8) ++ (H2.map (Value.int .u8) ++ ([Value.slice A m c]))), 67⟩] ++ (Ho ++ Es)) rfl ?_
  refine TL.nil ?_
  refine TE.then ?_
  refine TC.seq ?_
  refine TC.seq ?_
  refine TC.mixT ([⟨g4, 25, [Value.int .i64 o, Value.int .i64 n] ++ (H1.map (Value.int .u8) ++ (H2.map (Value.int .u8) ++ ([Value.slice As m cs]))), 67⟩, ⟨g2, 25, [Value.int .i64 o, Value.int .i64 n] ++ (H1.map (Value.int .u8) ++ (H2.map (Value.int .u8) ++ ([Value.slice Ao m co]))), 67⟩, ⟨g1, 25, [Value.int .i64 o, Value.int .i64 n] ++ (H1.map (Value.int .u8) ++ (H2.map (Value.int .u8) ++ ([Value.slice A m c]))), 67⟩] ++ (Ho ++ Es)) [] (by kernel_rfl) [0, 0, 0, 0, 3, 0, 7, 0, 0, 0, 0, 0, 0, 0] [0, 1, 2, 3, 4, 5, 6, 7, 8, 9, 10, 11, 12, 13] [fun _ _ => True, fun _ _ => True, fun _ _ => True, fun _ _ => True, fun v e => ∃ y : Value × (List CV × List Ent), (OwnS w.heap.size 40 5 y.1 m (flatC y.2.1) y.2.2 ∧ y.2.1.Perm Cs ∧ y.2.1.Pairwise leC) ∧ v = y.1 ∧ e = y.2.2, fun _ _ => True, fun u d => u = .bool true ∧ d = [], fun _ _ => True, fun _ _ => True, fun _ _ => True, fun _ _ => True, fun _ _ => True, fun _ _ => True, fun _ _ => True] (by kernel_rfl) (by kernel_rfl) (List.Perm.of_eq (List.append_nil _).symm) Fresh.nil ?_
  refine TT.free (Wants.none rfl) rfl (fun Z hZ => Gets.loadN rfl agg25 size25 rfl (vs := [Value.int .i64 o, Value.int .i64 n] ++ (H1.map (Value.int .u8) ++ (H2.map (Value.int .u8) ++ ([Value.slice As m cs])))) (by simp [hH1, hH2]) (Row.all (i := 0) (ent := ⟨g4, 25, [Value.int .i64 o, Value.int .i64 n] ++ (H1.map (Value.int .u8) ++ (H2.map (Value.int .u8) ++ ([Value.slice As m cs]))), 67⟩) rfl rfl rfl)) ?_
  refine TT.free (Wants.none rfl) rfl (fun Z hZ => Gets.loadN rfl agg25 size25 rfl (vs := [Value.int .i64 o, Value.int .i64 n] ++ (H1.map (Value.int .u8) ++ (H2.map (Value.int .u8) ++ ([Value.slice A m c])))) (by simp [hH1, hH2]) (Row.all (i := 2) (ent := ⟨g1, 25, [Value.int .i64 o, Value.int .i64 n] ++ (H1.map (Value.int .u8) ++ (H2.map (Value.int .u8) ++ ([Value.slice A m c]))), 67⟩) rfl rfl rfl)) ?_
  refine TT.free (Wants.none rfl) rfl (fun Z hZ => Gets.fieldAddr rfl Try.underlying25 rfl size23 rfl (off' := 66) (by first | rfl | omega)) ?_
  refine TT.free (Wants.none rfl) rfl (fun Z hZ => Gets.load1 rfl agg23 rfl (At.ent (i := 2) (ent := ⟨g1, 25, [Value.int .i64 o, Value.int .i64 n] ++ (H1.map (Value.int .u8) ++ (H2.map (Value.int .u8) ++ ([Value.slice A m c]))), 67⟩) (off := 66) rfl rfl (by exact app_right (a := 2) (i := 64) (rfl) (app_right (a := 32) (i := 32) (ints_len hH1) (app_right (a := 32) (i := 0) (ints_len hH2) (rfl)))))) ?_
  refine TT.call (ι := Value × (List CV × List Ent)) (V := fun y => y.1) (R := fun y => OwnS w.heap.size 40 5 y.1 m (flatC y.2.1) y.2.2 ∧ y.2.1.Perm Cs ∧ y.2.1.Pairwise leC) (E := fun y => y.2.2) (Wants.none rfl) rfl enters19 rfl rfl (fun Z w hZ hs => (rsort_c A m c Cs hmm hN w (hC.at_ hs (fun b hb => (ne_app (ne_app (ne_cons (by show g4 ≠ b; omega) (ne_cons (by show g2 ≠ b; omega) (ne_cons (by show g1 ≠ b; omega) ne_nil))) (hFtEs.ne hb)) (hZ.ne hb))))).mono fun e w' ⟨v, Er, He, he, ho, hp, hq, hw⟩ => ⟨(v, (Er, He)), he, ⟨ho.mono hs.size, hp, hq⟩, ho.new, hw⟩) (fun y hR hFr => ?_)
  obtain ⟨vr, Er, Hr⟩ := y
  obtain ⟨hvr, hEp, hEs⟩ := hR
  dsimp only at hvr hEp hEs hFr ⊢
  obtain ⟨Ar, cr, rfl, hcr, hcr2⟩ := hvr.form
  refine TT.call0 (Wants.none rfl) rfl enters18 rfl rfl (v := .agg ([Value.int .i64 o, Value.int .i64 n] ++ (H1.map (Value.int .u8) ++ (H2.map (Value.int .u8) ++ ([Value.slice Ar m cr])))).toArray) (fun Z w hZ hs => rwith_c o n H1 H2 hH1 hH2 A Ar m c m cr w) ?_
  refine TT.callR (Wants.none rfl) rfl enters17 rfl rfl (v := .bool true) (fun Z w hZ hs => (rdsame_c o n H1 H2 hH1 hH2 As m cs Fs o n H1 H2 hH1 hH2 Ar m cr Er hmm hmm hos.num w (hos.src (fun e he => hs.has e (by simp [he]))) (hvr.srcC (fun e he => hs.has e (by simp [he]))) (hos.dat (fun e he => hs.has e (by simp [he]))) ((hD.at_ hs (fun b hb => (ne_app (ne_app (ne_cons (by show g4 ≠ b; omega) (ne_cons (by show g2 ≠ b; omega) (ne_cons (by show g1 ≠ b; omega) ne_nil))) (hFtEs.ne hb)) (ne_app (ne_app ne_nil (Fresh.ne hvr.new hb)) (hZ.ne hb))))).sub fun x hx => hEp.mem_iff.1 hx)).mono fun e w' h => by rw [decide_eq_true (p := sameD o n H1 H2 Fs o n H1 H2 Er) ⟨rfl, rfl, rfl, rfl, sorted_once hVC hGp hEp hGs hEs ▸ hsms.c⟩] at h; exact h) ?_
  refine TT.free (Wants.none rfl) rfl (fun Z hZ => Gets.not rfl rfl) ?_
  refine TT.free (Wants.none rfl) rfl (fun Z hZ => Gets.move rfl rfl) ?_
  refine TT.free (Wants.yes rfl rfl rfl) rfl (fun Z hZ => Gets.loadN rfl agg25 size25 rfl (vs := [Value.int .i64 o, Value.int .i64 n] ++ (H1.map (Value.int .u8) ++ (H2.map (Value.int .u8) ++ ([Value.slice Ao m co])))) (by simp [hH1, hH2]) (Row.all (i := 1) (ent := ⟨g2, 25, [Value.int .i64 o, Value.int .i64 n] ++ (H1.map (Value.int .u8) ++ (H2.map (Value.int .u8) ++ ([Value.slice Ao m co]))), 67⟩) rfl rfl rfl)) ?_
  refine TT.free (Wants.yes rfl rfl rfl) rfl (fun Z hZ => Gets.loadN rfl agg25 size25 rfl (vs := [Value.int .i64 o, Value.int .i64 n] ++ (H1.map (Value.int .u8) ++ (H2.map (Value.int .u8) ++ ([Value.slice A m c])))) (by simp [hH1, hH2]) (Row.all (i := 2) (ent := ⟨g1, 25, [Value.int .i64 o, Value.int .i64 n] ++ (H1.map (Value.int .u8) ++ (H2.map (Value.int .u8) ++ ([Value.slice A m c]))), 67⟩) rfl rfl rfl)) ?_
  refine TT.call0 (Wants.yes rfl rfl rfl) rfl enters17 rfl rfl (v := .bool true) (fun Z w hZ hs => (rdsame_c o n H1 H2 hH1 hH2 Ao m co Cs o n H1 H2 hH1 hH2 A m c Cs hmm hmm hN w (hvo.srcC (fun e he => hs.has e (by simp [he]))) (hC.at_ hs (fun b hb => (ne_app (ne_app (ne_cons (by show g4 ≠ b; omega) (ne_cons (by show g2 ≠ b; omega) (ne_cons (by show g1 ≠ b; omega) ne_nil))) (hFtEs.ne hb)) (hZ.ne hb)))) (hD.at_ hs (fun b hb => (ne_app (ne_app (ne_cons (by show g4 ≠ b; omega) (ne_cons (by show g2 ≠ b; omega) (ne_cons (by show g1 ≠ b; omega) ne_nil))) (hFtEs.ne hb)) (hZ.ne hb)))) (hD.at_ hs (fun b hb => (ne_app (ne_app (ne_cons (by show g4 ≠ b; omega) (ne_cons (by show g2 ≠ b; omega) (ne_cons (by show g1 ≠ b; omega) ne_nil))) (hFtEs.ne hb)) (hZ.ne hb))))).mono fun e w' h => by rw [decide_eq_true (p := sameD o n H1 H2 Cs o n H1 H2 Cs) ⟨rfl, rfl, rfl, rfl, rfl⟩] at h; exact h) ?_
  refine TT.free (Wants.yes rfl rfl rfl) rfl (fun Z hZ => Gets.not rfl rfl) ?_
  refine TT.free (Wants.none rfl) rfl (fun Z hZ => Gets.pickF rfl rfl rfl) ?_
  refine TT.nil ?_
  refine TE.heap (H' := [⟨g4, 25, [Value.int .i64 o, Value.int .i64 n] ++ (H1.map (Value.int .u8) ++ (H2.map (Value.int .u8) ++ ([Value.slice As m cs]))), 67⟩, ⟨g2, 25, [Value.int .i64 o, Value.int .i64 n] ++ (H1.map (Value.int .u8) ++ (H2.map (Value.int .u8) ++ ([Value.slice Ao m co]))), 67⟩, ⟨g1, 25, [Value.int .i64 o, Value.int .i64 n] ++ (H1.map (Value.int .u8) ++ (H2.map (Value.int .u8) ++ ([Value.slice A m c]))), 67⟩] ++ (Ho ++ Es)) (fun w h => St.left h hvr.new) ?_
  refine TE.then ?_
  refine TC.sub (Sub.cons (i := 1) rfl (Sub.cons (i := 2) rfl (Sub.cons (i := 4) rfl (Sub.cons (i := 38) rfl (Sub.nil))))) ?_
  refine TC.no rfl ?_
  refine TC.skip ?_
  refine TE.then ?_
  refine TC.seq ?_
  refine TC.regionL ?_
  refine TL.gets (Wants.none rfl) rfl (Gets.assign rfl rfl) ?_
  refine TL.nil ?_
  refine TE.then ?_
  refine TC.seq ?_
  refine TC.seq ?_
  refine TC.regionL ?_
  refine TL.gets (Wants.none rfl) rfl (Gets.fieldAddr rfl Try.underlying25 rfl size23 rfl (off' := 66) (by first | rfl | omega)) ?_
  refine TL.gets (Wants.none rfl) rfl (Gets.load1 rfl agg23 rfl (At.ent (i := 0) (ent := ⟨g4, 25, [Value.int .i64 o, Value.int .i64 n] ++ (H1.map (Value.int .u8) ++ (H2.map (Value.int .u8) ++ ([Value.slice As m cs]))), 67⟩) (off := 66) rfl rfl (by exact app_right (a := 2) (i := 64) (rfl) (app_right (a := 32) (i := 32) (ints_len hH1) (app_right (a := 32) (i := 0) (ints_len hH2) (rfl)))))) ?_
  refine TL.gets (Wants.none rfl) rfl (Gets.lenSlice rfl Try.underlying23 rfl) ?_
  refine TL.gets (Wants.none rfl) rfl (Gets.move rfl rfl) ?_
  refine TL.nil ?_
  refine TE.then ?_
  refine TC.sub (Sub.cons (i := 1) rfl (Sub.cons (i := 2) rfl (Sub.cons (i := 4) rfl (Sub.cons (i := 5) rfl (Sub.cons (i := 40) rfl (Sub.cons (i := 41) rfl (Sub.cons (i := 42) rfl (Sub.nil)))))))) ?_
  refine TC.block ?_
  refine TC.loop (ι := Nat) (fun i => [(1, .pointer (some ⟨g1, 0, none⟩)), (4, .pointer (some ⟨g4, 0, none⟩)), (5, .int .i64 (totI lnV Fs i)), (40, .slice As m cs), (41, .int .i64 (m : Int)), (42, .int .i64 (i : Int))]) (fun i => [⟨g4, 25, [Value.int .i64 o, Value.int .i64 n] ++ (H1.map (Value.int .u8) ++ (H2.map (Value.int .u8) ++ ([Value.slice As m cs]))), 67⟩, ⟨g2, 25, [Value.int .i64 o, Value.int .i64 n] ++ (H1.map (Value.int .u8) ++ (H2.map (Value.int .u8) ++ ([Value.slice Ao m co]))), 67⟩, ⟨g1, 25, [Value.int .i64 o, Value.int .i64 n] ++ (H1.map (Value.int .u8) ++ (H2.map (Value.int .u8) ++ ([Value.slice A m c]))), 67⟩] ++ (Ho ++ Es)) (fun i => m - i) (fun i => i ≤ m) 0 (Nat.zero_le _) (Sub.cons (i := 1) rfl (Sub.cons (i := 4) rfl (Sub.int (i := 5) rfl ((totI_zero _ _).symm) (Sub.slice (i := 40) rfl rfl (by first | omega | (dsimp only; omega) | rfl) (by first | omega | (dsimp only; omega) | rfl) (Sub.int (i := 41) rfl (by first | omega | rfl) (Sub.int (i := 42) rfl (by first | omega | rfl) (Sub.nil))))))) (fun w h => h) (fun i hC0 => ?_)
  refine TC.seq ?_
  refine TC.regionL ?_
  refine TL.gets (Wants.none rfl) rfl (Gets.lss rfl rfl rfl) ?_
  refine TL.nil ?_
  refine TE.then ?_
  refine TC.seq ?_
  refine TC.split rfl (fun hq2 => ?_) (fun hq2 => ?_)
  · obtain ⟨bs, offs, hAs⟩ := hos.addr (by omega)
    subst hAs
    obtain ⟨x, hx⟩ : ∃ x, Fs[i]? = some x := ⟨_, List.getElem?_eq_getElem (by omega)⟩
    have hnx := hos.num i x hx
    unfold NumC at hnx
    have htx := chain_tot hch hx
    have ht5 := totI_succ (f := lnV) hx
    rw [show lnV x = lenV x.k x.l x.m from rfl] at ht5
    have hbd0 := hVF.tot i
    have hbd1 := hVF.tot (i + 1)
    have hlb := lenV_bd (k := x.k) (l := x.l) (m := x.m) (by omega) (by omega)
    refine TC.skip ?_
    refine TE.then ?_
    refine TC.seq ?_
    refine TC.block ?_
    refine TC.seq ?_
    refine TC.regionL ?_
    refine TL.gets (Wants.none rfl) rfl (Gets.idxSlice rfl Try.underlying23 size40 rfl rfl (i := i) (by omega) (by omega) (off' := (offs + 5 * i)) (by omega)) ?_
    refine TL.gets (Wants.none rfl) rfl (Gets.loadN rfl agg40 size40 rfl rfl ((fun w hs jj u h => hos.rows (by omega) (fun e he => hs.has e (by simp [he])) i x hx jj u h))) ?_
    refine TL.alloc (Wants.none rfl) rfl rfl zero40 (cs := [Value.int .i64 0, Value.int .i64 0, Value.int .i64 0, Value.int .i64 0, Value.slice none 0 0]) rfl (tot := 5) (by simp) (fun g5 hg5 => ?_)
    refine TL.storeW (Wants.none rfl) rfl rfl size40 rfl (vs := [Value.int .i64 x.k, Value.int .i64 x.t, Value.int .i64 x.f, Value.int .i64 x.l, Value.slice x.A x.m x.c]) rfl (by simp []) (by simp [Value.oneCell']) (i := 0) (ent := ⟨g5, 40, [Value.int .i64 0, Value.int .i64 0, Value.int .i64 0, Value.int .i64 0, Value.slice none 0 0], 5⟩) rfl rfl (by simp []) (H' := [⟨g5, 40, [Value.int .i64 x.k, Value.int .i64 x.t, Value.int .i64 x.f, Value.int .i64 x.l, Value.slice x.A x.m x.c], 5⟩, ⟨g4, 25, [Value.int .i64 o, Value.int .i64 n] ++ (H1.map (Value.int .u8) ++ (H2.map (Value.int .u8) ++ ([Value.slice (some ⟨bs, offs, none⟩) m cs]))), 67⟩, ⟨g2, 25, [Value.int .i64 o, Value.int .i64 n] ++ (H1.map (Value.int .u8) ++ (H2.map (Value.int .u8) ++ ([Value.slice Ao m co]))), 67⟩, ⟨g1, 25, [Value.int .i64 o, Value.int .i64 n] ++ (H1.map (Value.int .u8) ++ (H2.map (Value.int .u8) ++ ([Value.slice A m c]))), 67⟩] ++ (Ho ++ Es)) rfl ?_
    refine TL.nil ?_
    refine TE.then ?_
    refine TC.sub (Sub.cons (i := 1) rfl (Sub.cons (i := 4) rfl (Sub.cons (i := 5) rfl (Sub.cons (i := 7) rfl (Sub.cons (i := 40) rfl (Sub.cons (i := 41) rfl (Sub.cons (i := 42) rfl (Sub.nil)))))))) ?_
    refine TC.seq ?_
    refine TC.seq ?_
    refine TC.regionL ?_
    refine TL.gets (Wants.none rfl) rfl (Gets.fieldAddr rfl Try.underlying40 rfl size3 rfl (off' := 1) (by first | rfl | omega)) ?_
    refine TL.gets (Wants.none rfl) rfl (Gets.load1 rfl agg3 rfl (At.ent (i := 0) (ent := ⟨g5, 40, [Value.int .i64 x.k, Value.int .i64 x.t, Value.int .i64 x.f, Value.int .i64 x.l, Value.slice x.A x.m x.c], 5⟩) (off := 1) rfl rfl (by exact rfl))) ?_
    refine TL.gets (Wants.none rfl) rfl (Gets.move rfl rfl) ?_
    refine TL.gets (Wants.none rfl) rfl (Gets.isFalse (Gets.neq rfl rfl rfl) (by omega)) ?_
    refine TL.nil ?_
    refine TE.then ?_
    refine TC.sub (Sub.cons (i := 1) rfl (Sub.cons (i := 4) rfl (Sub.cons (i := 5) rfl (Sub.cons (i := 7) rfl (Sub.cons (i := 40) rfl (Sub.cons (i := 41) rfl (Sub.cons (i := 42) rfl (Sub.cons (i := 49) rfl (Sub.nil))))))))) ?_
    refine TC.no rfl ?_
    refine TC.skip ?_
    refine TE.then ?_
    refine TC.regionL ?_
    refine TL.gets (Wants.none rfl) rfl (Gets.move rfl rfl) ?_
    refine TL.gets (Wants.none rfl) rfl (Gets.loadN rfl agg40 size40 rfl (vs := [Value.int .i64 x.k, Value.int .i64 x.t, Value.int .i64 x.f, Value.int .i64 x.l, Value.slice x.A x.m x.c]) (by simp []) (Row.all (i := 0) (ent := ⟨g5, 40, [Value.int .i64 x.k, Value.int .i64 x.t, Value.int .i64 x.f, Value.int .i64 x.l, Value.slice x.A x.m x.c], 5⟩) rfl rfl rfl)) ?_
    refine TL.call0 (Wants.none rfl) rfl enters20 rfl rfl (v := .int .i64 (lenV x.k x.l x.m)) (fun w hs => rlen_c x.k x.t x.f x.l x.A x.m x.c w) ?_
    refine TL.gets (Wants.none rfl) rfl (Gets.add rfl rfl rfl (r := ((totI lnV Fs i) + (lenV x.k x.l x.m))) (w64 (by omega) (by omega))) ?_
    refine TL.gets (Wants.none rfl) rfl (Gets.assign rfl rfl) ?_
    refine TL.nil ?_
    refine TE.blockN ?_
    refine TE.then ?_
    refine TC.sub (Sub.cons (i := 1) rfl (Sub.cons (i := 4) rfl (Sub.cons (i := 5) rfl (Sub.cons (i := 40) rfl (Sub.cons (i := 41) rfl (Sub.cons (i := 42) rfl (Sub.nil))))))) ?_
    refine TC.regionL ?_
    refine TL.gets (Wants.none rfl) rfl (Gets.add rfl rfl rfl (r := ((i : Int) + 1)) (w64 (by omega) (by omega))) ?_
    refine TL.gets (Wants.none rfl) rfl (Gets.move rfl rfl) ?_
    refine TL.nil ?_
    exact TE.back (i + 1) (by omega) (by omega) (Sub.cons (i := 1) rfl (Sub.cons (i := 4) rfl (Sub.int (i := 5) rfl (by omega) (Sub.slice (i := 40) rfl (by first | rfl | (congr 2; omega)) (by first | omega | (dsimp only; omega) | rfl) (by first | omega | (dsimp only; omega) | rfl) (Sub.int (i := 41) rfl (by first | omega | rfl) (Sub.int (i := 42) rfl (by first | omega | rfl) (Sub.nil))))))) (fun w h => h.drop (by assumption))
  · have him : i = m := by omega
    refine TC.exit ?_
    refine TE.thenX ?_
    refine TE.thenX ?_
    refine TE.blockX ?_
    refine TE.then ?_
    refine TC.seq ?_
    refine TC.regionL ?_
    refine TL.call0 (Wants.none rfl) rfl enters9 rfl rfl (v := .bool true) (fun w hs => alive_c w) ?_
    refine TL.gets (Wants.none rfl) rfl (Gets.move rfl rfl) ?_
    refine TL.gets (Wants.yes rfl rfl rfl) rfl (Gets.move rfl rfl) ?_
    refine TL.gets (Wants.yes rfl rfl rfl) rfl (Gets.fieldAddr rfl Try.underlying25 rfl size3 rfl (off' := 1) (by first | rfl | omega)) ?_
    refine TL.gets (Wants.yes rfl rfl rfl) rfl (Gets.load1 rfl agg3 rfl (At.ent (i := 2) (ent := ⟨g1, 25, [Value.int .i64 o, Value.int .i64 n] ++ (H1.map (Value.int .u8) ++ (H2.map (Value.int .u8) ++ ([Value.slice A m c]))), 67⟩) (off := 1) rfl rfl (by exact app_left (i := 1) (B := H1.map (Value.int .u8) ++ (H2.map (Value.int .u8) ++ ([Value.slice A m c]))) (rfl)))) ?_
    refine TL.gets (Wants.yes rfl rfl rfl) rfl (Gets.isTrue (Gets.eql rfl rfl rfl) (by rw [him, totI_all hFl, ln_sum]; exact hsumF)) ?_
    refine TL.gets (Wants.none rfl) rfl (Gets.pickT rfl rfl rfl) ?_
    refine TL.gets (Wants.none rfl) rfl (Gets.move rfl rfl) ?_
    refine TL.gets (Wants.yes rfl rfl rfl) rfl (Gets.loadN rfl agg25 size25 rfl (vs := [Value.int .i64 o, Value.int .i64 n] ++ (H1.map (Value.int .u8) ++ (H2.map (Value.int .u8) ++ ([Value.slice As m cs])))) (by simp [hH1, hH2]) (Row.all (i := 0) (ent := ⟨g4, 25, [Value.int .i64 o, Value.int .i64 n] ++ (H1.map (Value.int .u8) ++ (H2.map (Value.int .u8) ++ ([Value.slice As m cs]))), 67⟩) rfl rfl rfl)) ?_
    refine TL.call0 (Wants.yes rfl rfl rfl) rfl enters12 rfl rfl (v := .bool true) (fun w hs => (dvalid_c o n H1 H2 hH1 hH2 As m cs Fs hmm hos.num w (hos.src (fun e he => hs.has e (by simp [he]))) (hos.dat (fun e he => hs.has e (by simp [he]))) ((hf.q.sub2 hGp).same hsms) (by omega) (by omega)).mono fun e w' h => by rw [decide_eq_true (p := (faultI o n Fs).1 = 0) (by rw [hvF])] at h; exact h) ?_
    refine TL.gets (Wants.none rfl) rfl (Gets.pickT rfl rfl rfl) ?_
    refine TL.gets (Wants.none rfl) rfl (Gets.assign rfl rfl) ?_
    refine TL.nil ?_
    refine TE.then ?_
    refine TC.ret ?_
    exact TE.ret1 rfl rfl (fun w hs => ⟨rfl, by have h2 := St.left (H := [⟨g4, 25, [Value.int .i64 o, Value.int .i64 n] ++ (H1.map (Value.int .u8) ++ (H2.map (Value.int .u8) ++ ([Value.slice As m cs]))), 67⟩, ⟨g2, 25, [Value.int .i64 o, Value.int .i64 n] ++ (H1.map (Value.int .u8) ++ (H2.map (Value.int .u8) ++ ([Value.slice Ao m co]))), 67⟩, ⟨g1, 25, [Value.int .i64 o, Value.int .i64 n] ++ (H1.map (Value.int .u8) ++ (H2.map (Value.int .u8) ++ ([Value.slice A m c]))), 67⟩]) hs hFtEs; exact (((h2.drop (by assumption)).drop (by assumption)).drop (by assumption))⟩)


theorem deltaSorts_walk (o n : Int) (H1 H2 : List Int) (hH1 : H1.length = 32) (hH2 : H2.length = 32) (A : Option Addr) (m c : Nat) (Cs : List CV) (w : World) (bo : -9223372036854775808 ≤ o ∧ o ≤ 9223372036854775807) (bn : -9223372036854775808 ≤ n ∧ n ≤ 9223372036854775807) (hmc : m ≤ c) (hcm : c ≤ 9223372036854775807) (hN : NumsC Cs) (hC : SrcC w A m Cs) (hD : DatC w Cs) (hA : A = none → m = 0) (hB1 : Bytes H1) (hB2 : Bytes H2) : Calls Try.prog 5 #[.agg ([Value.int .i64 o, Value.int .i64 n] ++ (H1.map (Value.int .u8) ++ (H2.map (Value.int .u8) ++ ([Value.slice A m c])))).toArray] w fun e w' => e = .returned (.bool true) ∧ St w [] w' := by
  by_cases hf : fewP Cs
  · by_cases hv : (faultI o n Cs).1 = 0
    · exact dsorts_yes o n H1 H2 hH1 hH2 A m c Cs (by omega) hN w hC hD hf hv
    · exact dsorts_bad o n H1 H2 hH1 hH2 A m c Cs (by omega) hN w hC hD hf hv
  · exact dsorts_no o n H1 H2 hH1 hH2 A m c Cs (by omega) hN w hC hD hf
end Go.Proofs.Ytkgamkjdkapchaa
/-
  A law's frame: arguments opened, tables that start-up lays.
-/
namespace Go.Proofs.Ytkgamkjdkapchaa
set_option linter.unusedVariables false
set_option linter.unusedSimpArgs false
open Go Go.RowKit Go.ChangeShapes Go.WideShapes Go.ChangeAt Go.Joins Go.Deep

theorem own_knob : ownKnob Try.prog.godebug = none := by kernel_rfl
theorem laid_out : laidOutB Try.prog = true := by kernel_rfl

section
variable {H : Type} {enc : TypeId × Value → H} {P : Program} {W : World} {base fuel : Nat} {sp : Nat → Bool} {held : Bool} {t e : TypeId} {kd : IntKind}
/-- An array of numbers that reads as known ones. -/
theorem cells_of_table {n : Nat} {cs : List Value} {T : List Int} {p : List MemPlace} (ht : P.underlying t = some (.array n e)) (he : P.underlying e = some (.int kd)) (hc : P.cellsOf e = 1) (hn : P.cellsOf t = n)
    (hd : DataW.trod enc P W base sp held fuel t cs = some (.agg (T.map fun x => .lit (.int kd x)), p)) : cs = T.map (Value.int kd) := by
  obtain ⟨xs, m, _, hx, hlen, hxn, hel⟩ := DataW.trod_array ht hd
  simp only [Prod.mk.injEq, DataW.agg.injEq] at hx
  have hTn : T.length = n := by
    have := congrArg List.length hx.1
    simp at this; omega
  apply List.ext_getElem (by simp; omega)
  intro i h1 h2
  have hi : i < n := by omega
  have h3 := hel i hi
  rw [hc, Nat.mul_one, List.getElem?_eq_getElem (by omega : i < xs.length)] at h3
  have h4 : (cs.drop i).take 1 = [cs[i]] := by
    rw [List.drop_eq_getElem_cons h1]; rfl
  rw [h4] at h3
  obtain ⟨k, e1, e2, _⟩ := DataW.trod_int he h3
  have h5 : (xs.map (·.1))[i]? = (T.map fun x => DataW.lit (.int kd x))[i]? := by rw [hx.1]
  have hxi : i < xs.length := by omega
  have hTi : i < T.length := by omega
  simp only [List.getElem?_map, List.getElem?_eq_getElem hxi, List.getElem?_eq_getElem hTi, Option.map_some, Option.some.injEq] at h5
  rw [e2] at h5
  simp only [DataW.lit.injEq, Lit.int.injEq, true_and] at h5
  simp only [List.cons.injEq, and_true] at e1
  rw [e1, List.getElem_map, h5]

theorem wf_u8b {n : Int} (h : (Lit.int .u8 n).wf = true) : 0 ≤ n ∧ n ≤ 255 := by
  simp [Lit.wf, IntKind.min, IntKind.max, IntKind.signed, IntKind.bits] at h
  exact h
theorem wf_i64b {n : Int} (h : (Lit.int .i64 n).wf = true) : -9223372036854775808 ≤ n ∧ n ≤ 9223372036854775807 := by
  simp [Lit.wf, IntKind.min, IntKind.max, IntKind.signed, IntKind.bits] at h
  exact h
/-- A slice of bytes that came in. -/
theorem open_bytes {v : Value} {d : DataW H} {ps : List MemPlace} (ht : P.underlying t = some (.slice e)) (he : P.underlying e = some (.int .u8)) (hc : P.cellsOf e = 1) (hv : Value.okWide P W .any base t v)
    (h : DataW.Trod enc P W 0 (fun _ => true) true t v d ps) : ∃ (A : Option Addr) (m c : Nat) (B : List Int), v = .slice A m c ∧ m ≤ c ∧ c ≤ 9223372036854775807 ∧ Src W A m .u8 B ∧ ∀ x ∈ B, 0 ≤ x ∧ x ≤ 255 := by
  obtain ⟨a0, len0, cap0, rfl⟩ := okWide_slice ht hv
  obtain ⟨fuel, hf⟩ := h
  rcases open_ints ht he hc hf with ⟨hcs, _⟩ | ⟨a, len, cap, zs, hcs, _, hl, hm, hz, _, hcell, hwf⟩
  · simp [Value.cells] at hcs
    obtain ⟨rfl, rfl, rfl⟩ := hcs
    exact ⟨none, 0, 0, [], rfl, Nat.le_refl _, by omega, ⟨rfl, .inl rfl⟩, by simp⟩
  · simp [Value.cells] at hcs
    obtain ⟨rfl, rfl, rfl⟩ := hcs
    simp only [if_true] at hz
    refine ⟨some a, len0, cap0, zs.take len0, rfl, hl, hm, ⟨by simp; omega, ?_⟩, fun x hx => wf_u8b (hwf x (List.mem_of_mem_take hx))⟩
    by_cases h0 : len0 = 0
    · exact .inl h0
    · right
      obtain ⟨b, off, spot⟩ := a
      have hc0 := hcell 0 (by omega)
      have hspot : spot = none := by simpa [Addr.add] using World.cell?_spot hc0
      subst hspot
      refine ⟨b, off, rfl, World.block_lt_of_cell? W _ hc0, fun j hj => ?_⟩
      have := hcell j (by omega)
      rw [addr_add] at this
      rw [this]
      simp [List.getD_eq_getElem?_getD, List.getElem?_take, hj]
/-- A slice of slices of bytes that came in. -/
theorem open_bss {q : TypeId} {v : Value} {d : DataW H} {ps : List MemPlace} (ht : P.underlying t = some (.slice e)) (he : P.underlying e = some (.slice q)) (hq : P.underlying q = some (.int .u8)) (ce : P.cellsOf e = 1) (cq : P.cellsOf q = 1) (hv : Value.okWide P W .any base t v)
    (h : DataW.Trod enc P W 0 (fun _ => true) true t v d ps) : ∃ (A : Option Addr) (m c : Nat) (Ps : List (List Int)), v = .slice A m c ∧ m ≤ c ∧ c ≤ 9223372036854775807 ∧
      (Ps.length = m ∧ (m = 0 ∨ ∃ b off, A = some ⟨b, off, none⟩ ∧ b < W.heap.size ∧ ∀ i, i < m → ∃ Ai mi ci, W.cell? ⟨b, off + i, none⟩ = some (.slice Ai mi ci) ∧ Src W Ai mi .u8 (Ps.getD i []) ∧ mi ≤ ci)) := by
  obtain ⟨a0, len0, cap0, rfl⟩ := okWide_slice ht hv
  obtain ⟨fuel, hf⟩ := h
  rcases open_int_rows ht he hq ce cq hf with ⟨hcs, _⟩ | ⟨a, len, cap, A, L, C, Z, hcs, _, hl, hm, _, hrow⟩
  · simp [Value.cells] at hcs
    obtain ⟨rfl, rfl, rfl⟩ := hcs
    exact ⟨none, 0, 0, [], rfl, Nat.le_refl _, by omega, rfl, .inl rfl⟩
  · simp [Value.cells] at hcs
    obtain ⟨rfl, rfl, rfl⟩ := hcs
    refine ⟨some a, len0, cap0, (List.range len0).map fun r => (Z r).take (L r), rfl, hl, hm, by simp, ?_⟩
    by_cases h0 : len0 = 0
    · exact .inl h0
    · right
      obtain ⟨b, off, spot⟩ := a
      have hc0 := (hrow 0 (by omega)).1
      have hspot : spot = none := by simpa [Addr.add] using World.cell?_spot hc0
      subst hspot
      refine ⟨b, off, rfl, World.block_lt_of_cell? W _ hc0, fun i hi => ?_⟩
      obtain ⟨g1, g2, g3, g4, g5, g6, g7⟩ := hrow i (by omega)
      rw [addr_add] at g1
      refine ⟨A i, L i, C i, g1, ?_, g2⟩
      have hget : ((List.range len0).map fun r => (Z r).take (L r)).getD i [] = (Z i).take (L i) := by simp [hi]
      rw [hget]
      refine ⟨by simp; omega, ?_⟩
      by_cases hl0 : L i = 0
      · exact .inl hl0
      · right
        cases hA : A i with
        | none => have := g6 hA; omega
        | some a' =>
          obtain ⟨_, hz⟩ := g7 a' hA
          obtain ⟨b', off', spot'⟩ := a'
          have hc1 := hz 0 (by omega)
          have hspot' : spot' = none := by simpa [Addr.add] using World.cell?_spot hc1
          subst hspot'
          refine ⟨b', off', rfl, World.block_lt_of_cell? W _ hc1, fun j hj => ?_⟩
          have := hz j (by omega)
          rw [addr_add] at this
          rw [this]
          simp [List.getD_eq_getElem?_getD, List.getElem?_take, hj]
end
end Go.Proofs.Ytkgamkjdkapchaa
/-
  A slice of slices of bytes that came in, with the bounds of its numbers.
-/
namespace Go.Proofs.Ytkgamkjdkapchaa
set_option linter.unusedVariables false
set_option linter.unusedSimpArgs false
open Go Go.RowKit Go.ChangeShapes Go.WideShapes Go.ChangeAt Go.Joins Go.Deep
section
variable {H : Type} {enc : TypeId × Value → H} {P : Program} {W : World} {base fuel : Nat} {sp : Nat → Bool} {held : Bool} {t e : TypeId} {kd : IntKind}
theorem open_bssB {q : TypeId} {v : Value} {d : DataW H} {ps : List MemPlace} (ht : P.underlying t = some (.slice e)) (he : P.underlying e = some (.slice q)) (hq : P.underlying q = some (.int .u8)) (ce : P.cellsOf e = 1) (cq : P.cellsOf q = 1) (hv : Value.okWide P W .any base t v)
    (h : DataW.Trod enc P W 0 (fun _ => true) true t v d ps) : ∃ (A : Option Addr) (m c : Nat) (Ps : List (List Int)), v = .slice A m c ∧ m ≤ c ∧ c ≤ 9223372036854775807 ∧
      (Ps.length = m ∧ (m = 0 ∨ ∃ b off, A = some ⟨b, off, none⟩ ∧ b < W.heap.size ∧ ∀ i, i < m → ∃ Ai mi ci, W.cell? ⟨b, off + i, none⟩ = some (.slice Ai mi ci) ∧ Src W Ai mi .u8 (Ps.getD i []) ∧ mi ≤ ci)) ∧ ∀ x ∈ Ps.flatten, 0 ≤ x ∧ x ≤ 255 := by
  obtain ⟨a0, len0, cap0, rfl⟩ := okWide_slice ht hv
  obtain ⟨fuel, hf⟩ := h
  rcases open_int_rows ht he hq ce cq hf with ⟨hcs, _⟩ | ⟨a, len, cap, A, L, C, Z, hcs, _, hl, hm, _, hrow⟩
  · simp [Value.cells] at hcs
    obtain ⟨rfl, rfl, rfl⟩ := hcs
    exact ⟨none, 0, 0, [], rfl, Nat.le_refl _, by omega, ⟨rfl, .inl rfl⟩, by simp⟩
  · simp [Value.cells] at hcs
    obtain ⟨rfl, rfl, rfl⟩ := hcs
    refine ⟨some a, len0, cap0, (List.range len0).map fun r => (Z r).take (L r), rfl, hl, hm, ⟨by simp, ?_⟩, ?_⟩
    · by_cases h0 : len0 = 0
      · exact .inl h0
      · right
        obtain ⟨b, off, spot⟩ := a
        have hc0 := (hrow 0 (by omega)).1
        have hspot : spot = none := by simpa [Addr.add] using World.cell?_spot hc0
        subst hspot
        refine ⟨b, off, rfl, World.block_lt_of_cell? W _ hc0, fun i hi => ?_⟩
        obtain ⟨g1, g2, g3, g4, g5, g6, g7⟩ := hrow i (by omega)
        rw [addr_add] at g1
        refine ⟨A i, L i, C i, g1, ?_, g2⟩
        have hget : ((List.range len0).map fun r => (Z r).take (L r)).getD i [] = (Z i).take (L i) := by simp [hi]
        rw [hget]
        refine ⟨by simp; omega, ?_⟩
        by_cases hl0 : L i = 0
        · exact .inl hl0
        · right
          cases hA : A i with
          | none => have := g6 hA; omega
          | some a' =>
            obtain ⟨_, hz⟩ := g7 a' hA
            obtain ⟨b', off', spot'⟩ := a'
            have hc1 := hz 0 (by omega)
            have hspot' : spot' = none := by simpa [Addr.add] using World.cell?_spot hc1
            subst hspot'
            refine ⟨b', off', rfl, World.block_lt_of_cell? W _ hc1, fun j hj => ?_⟩
            have := hz j (by omega)
            rw [addr_add] at this
            rw [this]
            simp [List.getD_eq_getElem?_getD, List.getElem?_take, hj]
    · intro x hx
      obtain ⟨l, hl1, hl2⟩ := List.mem_flatten.1 hx
      obtain ⟨r, hr, rfl⟩ := List.mem_map.1 hl1
      have hr' := List.mem_range.1 hr
      obtain ⟨_, _, _, _, g5, _, _⟩ := hrow r (by omega)
      exact wf_u8b (g5 x (List.mem_of_mem_take hl2))
end
end Go.Proofs.Ytkgamkjdkapchaa
/-
  Arguments opened: commands, extents, arrays of three numbers.
-/
namespace Go.Proofs.Ytkgamkjdkapchaa
set_option linter.unusedVariables false
set_option linter.unusedSimpArgs false
set_option linter.unusedVariables false
set_option maxRecDepth 100000
open Go Go.RowKit Go.ChangeShapes Go.WideShapes Go.ChangeAt Go.Joins Go.Deep
theorem cells_ext : Try.prog.cellsOf 49 = 2 := by kernel_rfl
theorem cells_cmd : Try.prog.cellsOf 40 = 5 := by kernel_rfl
theorem bytes_u8 : Try.prog.bytesOf 5 = 1 := by kernel_rfl
theorem open_ext {H : Type} {enc : TypeId × Value → H} {W : World} {base : Nat} {v : Value} {d : DataW H} {ps : List MemPlace} (hv : Value.okWide Try.prog W .any base 49 v)
    (h : DataW.Trod enc Try.prog W 0 (fun _ => true) true 49 v d ps) :
    ∃ o l : Int, v = .agg #[.int .i64 o, .int .i64 l] ∧ (-9223372036854775808 ≤ o ∧ o ≤ 9223372036854775807) ∧ (-9223372036854775808 ≤ l ∧ l ≤ 9223372036854775807) := by
  obtain ⟨c0, c1, y0, y1, m, rfl, _, _, h0, h1⟩ := open_agg2 Try.underlying49 (by kernel_rfl) cells_ext hv h
  obtain ⟨a, e0, _, wa⟩ := DataW.trod_int Try.underlying3 h0
  obtain ⟨b, e1, _, wb⟩ := DataW.trod_int Try.underlying3 h1
  simp at e0 e1
  subst e0 e1
  exact ⟨a, b, rfl, wf_i64b wa, wf_i64b wb⟩
theorem array5 {α : Type} {cs : Array α} (h : cs.size = 5) : ∃ c0 c1 c2 c3 c4, cs = #[c0, c1, c2, c3, c4] := by
  obtain ⟨l⟩ := cs
  match l, h with
  | [c0, c1, c2, c3, c4], _ => exact ⟨c0, c1, c2, c3, c4, rfl⟩
/-- A slice of numbers, its reach. -/
theorem open_bytesR {H : Type} {enc : TypeId × Value → H} {P : Program} {W : World} {t e : TypeId} {fuel : Nat} {v : Value} {y : DataW H × List MemPlace} (ht : P.underlying t = some (.slice e)) (he : P.underlying e = some (.int .u8)) (hc : P.cellsOf e = 1)
    (hf : DataW.trod enc P W 0 (fun _ => true) true fuel t [v] = some y) : ∃ (A : Option Addr) (m c : Nat) (B : List Int), v = .slice A m c ∧ m ≤ c ∧ c ≤ 9223372036854775807 ∧ Src W A m .u8 B ∧ (∀ x ∈ B, 0 ≤ x ∧ x ≤ 255) ∧ (c = 0 ∨ c * P.bytesOf e ∈ y.1.weights P t) := by
  rcases open_ints ht he hc hf with ⟨hcs, _⟩ | ⟨a, len, cap, zs, hcs, _, hl, hm, hz, hx, hcell, hwf⟩
  · simp at hcs
    subst hcs
    exact ⟨none, 0, 0, [], rfl, Nat.le_refl _, by omega, ⟨rfl, .inl rfl⟩, by simp, .inl rfl⟩
  · simp at hcs
    subst hcs
    simp only [if_true] at hz
    refine ⟨some a, len, cap, zs.take len, rfl, hl, hm, ⟨by simp; omega, ?_⟩, fun x hx => wf_u8b (hwf x (List.mem_of_mem_take hx)), .inr ?_⟩
    · by_cases h0 : len = 0
      · exact .inl h0
      · right
        obtain ⟨b, off, spot⟩ := a
        have hc0 := hcell 0 (by omega)
        have hspot : spot = none := by simpa [Addr.add] using World.cell?_spot hc0
        subst hspot
        refine ⟨b, off, rfl, World.block_lt_of_cell? W _ hc0, fun j hj => ?_⟩
        have := hcell j (by omega)
        rw [addr_add] at this
        rw [this]
        simp [List.getD_eq_getElem?_getD, List.getElem?_take, hj]
    · have hlen : (lits .u8 (zs.take len) : List (DataW H)).length + (lits .u8 (zs.drop len) : List (DataW H)).length = cap := by
        simp only [lits, List.length_map, List.length_take, List.length_drop]
        omega
      rw [hx]
      simp only [DataW.weights, ht, hlen]
      exact List.mem_cons_self
theorem open_cmd {H : Type} {enc : TypeId × Value → H} {W : World} {base : Nat} {v : Value} {d : DataW H} {ps : List MemPlace} (hv : Value.okWide Try.prog W .any base 40 v)
    (h : DataW.Trod enc Try.prog W 0 (fun _ => true) true 40 v d ps) (hsz : ∀ q ∈ d.weights Try.prog 40, q ≤ reachBytes) :
    ∃ (k t f l : Int) (A : Option Addr) (m c : Nat) (B : List Int), v = .agg #[.int .i64 k, .int .i64 t, .int .i64 f, .int .i64 l, .slice A m c] ∧ (-9223372036854775808 ≤ k ∧ k ≤ 9223372036854775807) ∧ (-9223372036854775808 ≤ t ∧ t ≤ 9223372036854775807) ∧
      (-9223372036854775808 ≤ f ∧ f ≤ 9223372036854775807) ∧ (-9223372036854775808 ≤ l ∧ l ≤ 9223372036854775807) ∧ m ≤ c ∧ c ≤ 140737488355327 ∧ (∀ x ∈ B, 0 ≤ x ∧ x ≤ 255) ∧ Src W A m .u8 B := by
  obtain ⟨cs, rfl, hcz⟩ := okWide_struct Try.underlying40 hv
  obtain ⟨c0, c1, c2, c3, c4, rfl⟩ := array5 (hcz.trans cells_cmd)
  obtain ⟨fuel, hf⟩ := h
  obtain ⟨xs, n, _, hx, hl, hlen, hfs⟩ := DataW.trod_struct Try.underlying40 hf
  match xs, hlen with
  | [y0, y1, y2, y3, y4], _ =>
    have ci : Try.prog.cellsOf 3 = 1 := by kernel_rfl
    have cb : Try.prog.cellsOf 38 = 1 := by kernel_rfl
    have g0 : DataW.trod enc Try.prog W 0 (fun _ => true) true n 3 [c0] = some y0 := by simpa [Value.cells, ci, cb] using hfs 0 _ rfl
    have g1 : DataW.trod enc Try.prog W 0 (fun _ => true) true n 3 [c1] = some y1 := by simpa [Value.cells, ci, cb] using hfs 1 _ rfl
    have g2 : DataW.trod enc Try.prog W 0 (fun _ => true) true n 3 [c2] = some y2 := by simpa [Value.cells, ci, cb] using hfs 2 _ rfl
    have g3 : DataW.trod enc Try.prog W 0 (fun _ => true) true n 3 [c3] = some y3 := by simpa [Value.cells, ci, cb] using hfs 3 _ rfl
    have g4 : DataW.trod enc Try.prog W 0 (fun _ => true) true n 38 [c4] = some y4 := by simpa [Value.cells, ci, cb] using hfs 4 _ rfl
    obtain ⟨k, e0, _, wk⟩ := DataW.trod_int Try.underlying3 g0
    obtain ⟨t, e1, _, wt⟩ := DataW.trod_int Try.underlying3 g1
    obtain ⟨f, e2, _, wf⟩ := DataW.trod_int Try.underlying3 g2
    obtain ⟨l, e3, _, wl⟩ := DataW.trod_int Try.underlying3 g3
    obtain ⟨A, m, c, B, e4, hmc, hcm, hs, hB, hw⟩ := open_bytesR Try.underlying38 Try.underlying5 (by kernel_rfl) g4
    simp at e0 e1 e2 e3
    subst e0 e1 e2 e3 e4
    simp only [Prod.mk.injEq] at hx
    have hcR : c ≤ 140737488355327 := by
      rcases hw with hw | hw
      · omega
      · have := hsz (c * Try.prog.bytesOf 5) (by
          rw [hx.1]
          simp only [List.map_cons, List.map_nil, DataW.weights, Try.underlying40, DataW.weightsEach, Array.toList]
          simp only [List.mem_append]
          exact .inr (.inr (.inr (.inr (.inl hw)))))
        rw [bytes_u8] at this
        simp only [reachBytes] at this
        omega
    exact ⟨k, t, f, l, A, m, c, B, rfl, wf_i64b wk, wf_i64b wt, wf_i64b wf, wf_i64b wl, hmc, hcR, hB, hs⟩
end Go.Proofs.Ytkgamkjdkapchaa
/-
  Arguments opened: deltas.
-/
namespace Go.Proofs.Ytkgamkjdkapchaa
set_option linter.unusedVariables false
set_option linter.unusedSimpArgs false
set_option linter.unusedVariables false
set_option maxRecDepth 100000
open Go Go.RowKit Go.ChangeShapes Go.WideShapes Go.ChangeAt Go.Joins Go.Deep
theorem cells_dlt : Try.prog.cellsOf 25 = 67 := by kernel_rfl
theorem cells_dig : Try.prog.cellsOf 22 = 32 := by kernel_rfl
theorem weights_all {H : Type} {P : Program} {e : TypeId} {d : DataW H} {q : Nat} (h : q ∈ d.weights P e) : ∀ {l : List (DataW H)}, d ∈ l → q ∈ DataW.weightsAll P e l
  | c :: l, hd => by
    unfold DataW.weightsAll
    rcases List.mem_cons.1 hd with rfl | hd
    · exact List.mem_append.2 (.inl h)
    · exact List.mem_append.2 (.inr (weights_all h hd))
theorem list5 {α : Type} {l : List α} (h : l.length = 5) : ∃ c0 c1 c2 c3 c4, l = [c0, c1, c2, c3, c4] := by
  match l, h with
  | [c0, c1, c2, c3, c4], _ => exact ⟨c0, c1, c2, c3, c4, rfl⟩
/-- Cells that read as a command. -/
theorem open_cmdF {H : Type} {enc : TypeId × Value → H} {W : World} {fuel : Nat} {cs : List Value} {y : DataW H × List MemPlace} (hf : DataW.trod enc Try.prog W 0 (fun _ => true) true fuel 40 cs = some y)
    (hsz : ∀ q ∈ y.1.weights Try.prog 40, q ≤ reachBytes) : ∃ x : CV, cs = cellsC x ∧ (-9223372036854775808 ≤ x.k ∧ x.k ≤ 9223372036854775807) ∧ NumC x ∧ Src W x.A x.m .u8 x.B ∧ Bytes x.B := by
  obtain ⟨xs, n, _, hx, hl, hlen, hfs⟩ := DataW.trod_struct Try.underlying40 hf
  obtain ⟨c0, c1, c2, c3, c4, rfl⟩ := list5 (hl.trans cells_cmd)
  obtain ⟨y0, y1, y2, y3, y4, rfl⟩ := list5 (show xs.length = 5 from hlen)
  have ci : Try.prog.cellsOf 3 = 1 := by kernel_rfl
  have cb : Try.prog.cellsOf 38 = 1 := by kernel_rfl
  have g0 : DataW.trod enc Try.prog W 0 (fun _ => true) true n 3 [c0] = some y0 := by simpa [Value.cells, ci, cb] using hfs 0 _ rfl
  have g1 : DataW.trod enc Try.prog W 0 (fun _ => true) true n 3 [c1] = some y1 := by simpa [Value.cells, ci, cb] using hfs 1 _ rfl
  have g2 : DataW.trod enc Try.prog W 0 (fun _ => true) true n 3 [c2] = some y2 := by simpa [Value.cells, ci, cb] using hfs 2 _ rfl
  have g3 : DataW.trod enc Try.prog W 0 (fun _ => true) true n 3 [c3] = some y3 := by simpa [Value.cells, ci, cb] using hfs 3 _ rfl
  have g4 : DataW.trod enc Try.prog W 0 (fun _ => true) true n 38 [c4] = some y4 := by simpa [Value.cells, ci, cb] using hfs 4 _ rfl
  obtain ⟨k, e0, _, wk⟩ := DataW.trod_int Try.underlying3 g0
  obtain ⟨t, e1, _, wt⟩ := DataW.trod_int Try.underlying3 g1
  obtain ⟨f, e2, _, wf⟩ := DataW.trod_int Try.underlying3 g2
  obtain ⟨l, e3, _, wl⟩ := DataW.trod_int Try.underlying3 g3
  obtain ⟨A, m, c, B, e4, hmc, hcm, hs, hB, hw⟩ := open_bytesR Try.underlying38 Try.underlying5 (by kernel_rfl) g4
  simp at e0 e1 e2 e3
  subst e0 e1 e2 e3 e4
  have hcR : c ≤ 140737488355327 := by
    rcases hw with hw | hw
    · omega
    · have := hsz (c * Try.prog.bytesOf 5) (by
        rw [hx]
        simp only [List.map_cons, List.map_nil, DataW.weights, Try.underlying40, DataW.weightsEach, Array.toList]
        simp only [List.mem_append]
        exact .inr (.inr (.inr (.inr (.inl hw)))))
      rw [bytes_u8] at this
      simp only [reachBytes] at this
      omega
  exact ⟨⟨k, t, f, l, A, m, c, B⟩, rfl, wf_i64b wk, ⟨wf_i64b wt, wf_i64b wf, wf_i64b wl, hmc, Nat.le_trans hmc hcR, Nat.le_trans hcR (by decide)⟩, hs, hB⟩
/-- A slice of commands. -/
theorem open_cmds {H : Type} {enc : TypeId × Value → H} {W : World} {fuel : Nat} {v : Value} {y : DataW H × List MemPlace} (hf : DataW.trod enc Try.prog W 0 (fun _ => true) true fuel 23 [v] = some y)
    (hsz : ∀ q ∈ y.1.weights Try.prog 23, q ≤ reachBytes) : ∃ (A : Option Addr) (m c : Nat) (Cs : List CV), v = .slice A m c ∧ m ≤ c ∧ c ≤ 9223372036854775807 ∧ SrcC W A m Cs ∧ NumsC Cs ∧ DatC W Cs ∧ (A = none → m = 0) := by
  rcases DataW.trod_slice Try.underlying23 hf with ⟨hcs, _⟩ | ⟨a, len, cap, elems, rest, n, _, hcs, hx, hb, hl, hm, hlen, hel, _, _⟩
  · simp at hcs
    subst hcs
    exact ⟨none, 0, 0, [], rfl, Nat.le_refl _, by omega, ⟨rfl, .inl rfl⟩, fun i x h => by simp at h, fun i x h => by simp at h, fun _ => rfl⟩
  · simp at hcs
    subst hcs
    have each : ∀ i, i < len → ∃ x : CV, (∀ j u, (cellsC x)[j]? = some u → W.cell? ((a.add (i * 5)).add j) = some u) ∧ NumC x ∧ Src W x.A x.m .u8 x.B ∧ Bytes x.B := fun i hi => by
      have hei : elems[i]? = some elems[i] := List.getElem?_eq_getElem (by omega)
      have h1 := hel i hi
      rw [hei, cells_cmd] at h1
      obtain ⟨cs', hc1, hc2⟩ := Option.bind_eq_some_iff.1 h1
      obtain ⟨x, rfl, _, hnx, hsx, hbx⟩ := open_cmdF hc2 (fun q hq => hsz q (by
        rw [hx]
        simp only [DataW.weights, Try.underlying23]
        exact List.mem_cons_of_mem _ (List.mem_append.2 (.inl (weights_all hq (List.mem_map.2 ⟨_, List.getElem_mem _, rfl⟩))))))
      obtain ⟨_, _, hat⟩ := World.cells?_some hc1
      exact ⟨x, fun j u hu => by rw [hat j (by have := (List.getElem?_eq_some_iff.1 hu).1; rw [show (cellsC x).length = 5 from rfl] at this; exact this)]; exact hu, hnx, hsx, hbx⟩
    obtain ⟨Cs, hCl, hCs⟩ : ∃ Cs : List CV, Cs.length = len ∧ ∀ (i : Nat) (x : CV), Cs[i]? = some x → (∀ j u, (cellsC x)[j]? = some u → W.cell? ((a.add (i * 5)).add j) = some u) ∧ NumC x ∧ Src W x.A x.m .u8 x.B ∧ Bytes x.B := by
      have hch : ∀ i : Fin len, ∃ x : CV, (∀ j u, (cellsC x)[j]? = some u → W.cell? ((a.add (i.1 * 5)).add j) = some u) ∧ NumC x ∧ Src W x.A x.m .u8 x.B ∧ Bytes x.B := fun i => each i.1 i.2
      refine ⟨List.ofFn fun i => Classical.choose (hch i), by simp, fun i x hx => ?_⟩
      rw [List.getElem?_ofFn] at hx
      split at hx
      · cases hx
        exact Classical.choose_spec (hch ⟨i, by assumption⟩)
      · cases hx
    refine ⟨some a, len, cap, Cs, rfl, hl, by unfold maxLen at hm; omega, ⟨hCl, ?_⟩, fun i x hx => (hCs i x hx).2.1, fun i x hx => (hCs i x hx).2.2, fun h => by cases h⟩
    by_cases h0 : len = 0
    · exact .inl h0
    · right
      obtain ⟨b, off, spot⟩ := a
      have hx0 : Cs[0]? = some Cs[0] := List.getElem?_eq_getElem (by omega)
      have hc0 := (hCs 0 _ hx0).1 0 _ rfl
      have hspot : spot = none := by
        have := World.cell?_spot hc0
        simpa [Addr.add] using this
      subst hspot
      refine ⟨b, off, rfl, World.block_lt_of_cell? W _ hc0, fun i x hx j u hu => ?_⟩
      have := (hCs i x hx).1 j u hu
      rw [addr_add, addr_add] at this
      rw [show off + 5 * i + j = off + i * 5 + j by omega]; exact this
/-- An array of bytes. -/
theorem open_dig {H : Type} {enc : TypeId × Value → H} {W : World} {fuel : Nat} {cs : List Value} {y : DataW H × List MemPlace} (hf : DataW.trod enc Try.prog W 0 (fun _ => true) true fuel 22 cs = some y) : ∃ B : List Int, cs = B.map (Value.int .u8) ∧ B.length = 32 ∧ Bytes B := by
  obtain ⟨xs, n, _, hx, hl, hlen, hfs⟩ := DataW.trod_array Try.underlying22 hf
  have hl32 : cs.length = 32 := hl.trans cells_dig
  have cu : Try.prog.cellsOf 5 = 1 := by kernel_rfl
  have each : ∀ i, i < 32 → ∃ b : Int, cs[i]? = some (.int .u8 b) ∧ 0 ≤ b ∧ b ≤ 255 := fun i hi => by
    have h1 := hfs i hi
    have hxi : xs[i]? = some xs[i] := List.getElem?_eq_getElem (by omega)
    rw [cu, Nat.mul_one, hxi] at h1
    have h4 : (cs.drop i).take 1 = [cs[i]] := by
      rw [List.drop_eq_getElem_cons (by omega)]; rfl
    rw [h4] at h1
    obtain ⟨b, e1, _, wb⟩ := DataW.trod_int Try.underlying5 h1
    simp at e1
    exact ⟨b, by rw [List.getElem?_eq_getElem (by omega), e1], wf_u8b wb⟩
  have hch : ∀ i : Fin 32, ∃ b : Int, cs[i.1]? = some (.int .u8 b) ∧ 0 ≤ b ∧ b ≤ 255 := fun i => each i.1 i.2
  refine ⟨List.ofFn fun i => Classical.choose (hch i), ?_, by simp, fun b hb => ?_⟩
  · apply List.ext_getElem?
    intro i
    by_cases hi : i < 32
    · rw [(Classical.choose_spec (hch ⟨i, hi⟩)).1]
      rw [List.getElem?_map, List.getElem?_ofFn, dif_pos hi]; rfl
    · rw [List.getElem?_eq_none (by omega), List.getElem?_eq_none (by simp; omega)]
  · obtain ⟨i, rfl⟩ := List.mem_ofFn.1 hb
    exact (Classical.choose_spec (hch i)).2
theorem drop_cut {α : Type} (l : List α) (a n : Nat) : l.drop a = (l.drop a).take n ++ l.drop (a + n) := by
  rw [← List.drop_drop, List.take_append_drop]
theorem open_dlt {H : Type} {enc : TypeId × Value → H} {W : World} {base : Nat} {v : Value} {d : DataW H} {ps : List MemPlace} (hv : Value.okWide Try.prog W .any base 25 v)
    (h : DataW.Trod enc Try.prog W 0 (fun _ => true) true 25 v d ps) (hsz : ∀ q ∈ d.weights Try.prog 25, q ≤ reachBytes) :
    ∃ (o n : Int) (H1 H2 : List Int) (A : Option Addr) (m c : Nat) (Cs : List CV), v = .agg ([Value.int .i64 o, Value.int .i64 n] ++ (H1.map (Value.int .u8) ++ (H2.map (Value.int .u8) ++ [Value.slice A m c]))).toArray ∧ (-9223372036854775808 ≤ o ∧ o ≤ 9223372036854775807) ∧ (-9223372036854775808 ≤ n ∧ n ≤ 9223372036854775807) ∧
      H1.length = 32 ∧ H2.length = 32 ∧ Bytes H1 ∧ Bytes H2 ∧ m ≤ c ∧ c ≤ 9223372036854775807 ∧ SrcC W A m Cs ∧ NumsC Cs ∧ DatC W Cs ∧ (A = none → m = 0) := by
  obtain ⟨cs, rfl, hcz⟩ := okWide_struct Try.underlying25 hv
  obtain ⟨fuel, hf⟩ := h
  obtain ⟨xs, n, _, hx, hl, hlen, hfs⟩ := DataW.trod_struct Try.underlying25 hf
  obtain ⟨l⟩ := cs
  have hcells : (Value.agg ⟨l⟩).cells.toList = l := rfl
  rw [hcells] at hl hfs
  have hl67 : l.length = 67 := hl.trans cells_dlt
  obtain ⟨y0, y1, y2, y3, y4, rfl⟩ := list5 (show xs.length = 5 from hlen)
  have ci : Try.prog.cellsOf 3 = 1 := by kernel_rfl
  have cb : Try.prog.cellsOf 23 = 1 := by kernel_rfl
  have g0 : DataW.trod enc Try.prog W 0 (fun _ => true) true n 3 ((l.drop 0).take 1) = some y0 := by have t0 : DataW.trod enc Try.prog W 0 (fun _ => true) true n 3 ((l.drop 0).take (Try.prog.cellsOf 3)) = some y0 := hfs 0 _ rfl; rw [ci] at t0; exact t0
  have g1 : DataW.trod enc Try.prog W 0 (fun _ => true) true n 3 ((l.drop 1).take 1) = some y1 := by have t0 : DataW.trod enc Try.prog W 0 (fun _ => true) true n 3 ((l.drop 1).take (Try.prog.cellsOf 3)) = some y1 := hfs 1 _ rfl; rw [ci] at t0; exact t0
  have g2 : DataW.trod enc Try.prog W 0 (fun _ => true) true n 22 ((l.drop 2).take 32) = some y2 := by have t0 : DataW.trod enc Try.prog W 0 (fun _ => true) true n 22 ((l.drop 2).take (Try.prog.cellsOf 22)) = some y2 := hfs 2 _ rfl; rw [cells_dig] at t0; exact t0
  have g3 : DataW.trod enc Try.prog W 0 (fun _ => true) true n 22 ((l.drop 34).take 32) = some y3 := by have t0 : DataW.trod enc Try.prog W 0 (fun _ => true) true n 22 ((l.drop 34).take (Try.prog.cellsOf 22)) = some y3 := hfs 3 _ rfl; rw [cells_dig] at t0; exact t0
  have g4 : DataW.trod enc Try.prog W 0 (fun _ => true) true n 23 ((l.drop 66).take 1) = some y4 := by have t0 : DataW.trod enc Try.prog W 0 (fun _ => true) true n 23 ((l.drop 66).take (Try.prog.cellsOf 23)) = some y4 := hfs 4 _ rfl; rw [cb] at t0; exact t0
  obtain ⟨o, e0, _, wo⟩ := DataW.trod_int Try.underlying3 g0
  obtain ⟨nn, e1, _, wn⟩ := DataW.trod_int Try.underlying3 g1
  obtain ⟨H1, e2, hH1, b1⟩ := open_dig g2
  obtain ⟨H2, e3, hH2, b2⟩ := open_dig g3
  obtain ⟨u, e4⟩ : ∃ u, (l.drop 66).take 1 = [u] := List.length_eq_one_iff.1 (by rw [List.length_take, List.length_drop, hl67]; rfl)
  rw [e4] at g4
  simp only [Prod.mk.injEq] at hx
  obtain ⟨A, m, c, Cs, rfl, hmc, hcm, hC, hN, hD, hA⟩ := open_cmds g4 (fun q hq => hsz q (by
    rw [hx.1]
    simp only [List.map_cons, List.map_nil, DataW.weights, Try.underlying25, DataW.weightsEach, Array.toList]
    simp only [List.mem_append]
    exact .inr (.inr (.inr (.inr (.inl hq))))))
  refine ⟨o, nn, H1, H2, A, m, c, Cs, ?_, wf_i64b wo, wf_i64b wn, hH1, hH2, b1, b2, hmc, hcm, hC, hN, hD, hA⟩
  congr 1
  have h5 : l = [Value.int .i64 o, Value.int .i64 nn] ++ (H1.map (Value.int .u8) ++ (H2.map (Value.int .u8) ++ [.slice A m c])) := by
    have k0 := drop_cut l 0 1
    have k1 := drop_cut l 1 1
    have k2 := drop_cut l 2 32
    have k3 := drop_cut l 34 32
    have k4 := drop_cut l 66 1
    rw [e0] at k0
    rw [e1] at k1
    rw [e2] at k2
    rw [e3] at k3
    rw [e4, List.drop_of_length_le (i := 66 + 1) (by omega), List.append_nil] at k4
    have k0' : l = [Value.int .i64 o] ++ l.drop 1 := by simpa using k0
    rw [k0', k1, k2, k3, k4]
    simp
  rw [h5]
end Go.Proofs.Ytkgamkjdkapchaa
namespace Go.Proofs.Ytkgamkjdkapchaa
set_option linter.unusedVariables false
open Go Go.RowKit Go.ChangeShapes Go.WideShapes Go.ChangeAt Go.Joins Go.Deep
set_option maxRecDepth 100000 in
theorem deltaSorts_lifted (os : Os) (started : os.Started) (H : Type) (enc : TypeId × Value → H) :
    ReturnsInHanded {} Try.checked os 5 .any (Rows.deltaSortsSpec.pre6 enc Try.prog Try.f5 Rows.deltaSortsRow.domain false) (Rows.deltaSortsSpec.post enc Try.prog Try.f5 false true false false) := by
  refine returnsInHanded_of_change_sized (C := Try.checked) own_knob started (by kernel_rfl) Try.func5
    (ChangeSpec.witness6 (enc := enc) (C := Try.checked) false ⟨#[], #[.agg #[.int .i64 0, .int .i64 0, .int .u8 0, .int .u8 0, .int .u8 0, .int .u8 0, .int .u8 0, .int .u8 0, .int .u8 0, .int .u8 0, .int .u8 0, .int .u8 0, .int .u8 0, .int .u8 0, .int .u8 0, .int .u8 0, .int .u8 0, .int .u8 0, .int .u8 0, .int .u8 0, .int .u8 0, .int .u8 0, .int .u8 0, .int .u8 0, .int .u8 0, .int .u8 0, .int .u8 0, .int .u8 0, .int .u8 0, .int .u8 0, .int .u8 0, .int .u8 0, .int .u8 0, .int .u8 0, .int .u8 0, .int .u8 0, .int .u8 0, .int .u8 0, .int .u8 0, .int .u8 0, .int .u8 0, .int .u8 0, .int .u8 0, .int .u8 0, .int .u8 0, .int .u8 0, .int .u8 0, .int .u8 0, .int .u8 0, .int .u8 0, .int .u8 0, .int .u8 0, .int .u8 0, .int .u8 0, .int .u8 0, .int .u8 0, .int .u8 0, .int .u8 0, .int .u8 0, .int .u8 0, .int .u8 0, .int .u8 0, .int .u8 0, .int .u8 0, .int .u8 0, .int .u8 0, .slice none 0 0]], []⟩ 8 (by kernel_rfl) (by kernel_rfl) (by kernel_rfl) (by kernel_rfl)) ?_
  intro W base args ds gs before hval0 hW hcnd hsz0 _
  have hval : ∀ (j : Nat) t v, Try.f5.params[j]? = some t → args[j]? = some v → Value.okWide Try.prog W .any base t v := hval0
  have hW' := hW
  obtain ⟨p, q, hA0, hV, rfl, hfz, hnd⟩ := hW
  have hA : DataW.TrodAll enc Try.prog W 0 (fun _ => true) true Try.f5.params.toList args.toList ds p := hA0
  have hsz : (DataW.weightsEach Try.prog (Try.f5.params.toList ++ Rows.deltaSortsSpec.plain.varTypes Try.prog) (ds ++ gs)).all (· ≤ reachBytes) = true := hsz0
  rw [Try.params5] at hA hval hsz
  obtain ⟨v0, vs0, d0, ds0, p0, q0, hargs, rfl, rfl, h0, r0⟩ := trodAll_cons hA
  obtain ⟨rfl, rfl, rfl⟩ := trodAll_nil r0
  obtain rfl : args = #[v0] := by cases args; simp_all
  obtain ⟨rfl, rfl⟩ := trodVars_none hV
  have k0 := h0
  have lt0 : ∀ x ∈ p0, x.block < W.heap.size := by obtain ⟨m, hm⟩ := k0; exact DataW.trod_lt m _ _ _ hm
  obtain ⟨od, nd, H1d, H2d, Ad, md, cd, Cd, hv0, bo0, bn0, hH10, hH20, hB10, hB20, hmc0, hcm0, hC0, hN0, hD0, hA0⟩ := open_dlt (hval 0 25 v0 rfl rfl) h0 (fun q hq => of_decide_eq_true (List.all_eq_true.1 hsz q (DataW.weights_mem_each (j := 0) (t := 25) (d := d0) rfl rfl q hq)))
  subst hv0
  clear hA0 hval0 hsz0
  refine (deltaSorts_walk od nd H1d H2d hH10 hH20 Ad md cd Cd W bo0 bn0 hmc0 hcm0 hN0 hC0 hD0 hA0 hB10 hB20).mono fun e W' ⟨he, hst⟩ => ?_
  have bel := hst.below
  subst he
  exact ⟨_, rfl, _, _, _, [], _, [], hW', trodAll_mk1 (shut_bool Try.underlying4 _), (trodAll_cons_mk (Below.trod laid_out (by kernel_rfl) (of_decide_eq_true (by kernel_rfl)) k0 bel lt0) trodAll_mk0), rfl, bel.frame _, fun h => by cases h⟩

/-- The statement. -/
theorem deltaSorts_holds : Rows.DeltaSortsSaid :=
  OpenClaim.holds_of_wide 5 Try.f5 rfl rfl rfl rfl rfl rfl rfl ⟨rfl, rfl, rfl, rfl, rfl⟩ rfl rfl rfl rfl rfl (by kernel_rfl) Try.func5 (by kernel_rfl)
    (of_decide_eq_true (by kernel_rfl)) (by unfold Func.isWrapper; first | (rw [if_pos (by decide +kernel)]; kernel_rfl) | (rw [if_neg (by decide +kernel)]; exact ⟨rfl, rfl⟩))
    (fun os started H enc _ => deltaSorts_lifted os started H enc)
end Go.Proofs.Ytkgamkjdkapchaa
