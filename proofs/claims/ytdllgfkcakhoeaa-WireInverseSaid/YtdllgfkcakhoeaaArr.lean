/-
  Two arrays of numbers, compared.
-/
import Derived.Test.YtdllgfkcakhoeaaStr
namespace Go.Proofs.Ytdllgfkcakhoeaa
set_option linter.unusedVariables false
set_option linter.unusedSimpArgs false
set_option linter.unusedVariables false
open Go Go.RowKit
section
variable {P : Program} {ops : Array Oper} {Q : Exit → Act → World → Prop} {n : Sz} {w0 : World} {L L' : List (Nat × Value)} {H : List Ent}
variable {o : Oper} {rest : List Oper} {v u : Value} {x y z : Operand} {k m j : Nat} {t t' e : TypeId} {ks : List Nat} {kd : IntKind} {p q : Int}
theorem eqIn_int2 (d : Nat) (h1 : P.underlying e = some (.int kd)) (a b : Int) (w : World) : (Op.equalIn (d + 1) e (.int kd a) (.int kd b)).run P w = .ok (a == b) w := by
  simp [Op.equalIn, Sem.run_bind, run_under h1]
theorem all_eq {W V : List Int} {len : Nat} (hW : W.length = len) (hV : V.length = len) : (List.range' 0 len).all (fun i => W.getD i 0 == V.getD i 0) = decide (W = V) := by
  by_cases h : W = V
  · subst h
    rw [decide_eq_true rfl]
    exact List.all_eq_true.2 fun i _ => by simp
  · rw [decide_eq_false h]
    refine Bool.eq_false_iff.2 fun ha => h ?_
    refine list_of_getD (hW.trans hV.symm) fun i hi => ?_
    have := List.all_eq_true.1 ha i (List.mem_range'_1.2 ⟨by omega, by omega⟩)
    simpa using this
theorem eqIn_arr2 (d : Nat) {len : Nat} {W V : List Int} (h1 : P.underlying t = some (.array len e)) (h2 : P.underlying e = some (.int kd)) (hsz : (P.info? e).map (·.size) = some 1) (hW : W.length = len) (hV : V.length = len) (w : World) :
    (Op.equalIn (d + 1 + 1) t (.agg (W.map (Value.int kd)).toArray) (.agg (V.map (Value.int kd)).toArray)).run P w = .ok (decide (W = V)) w := by
  have hag := isAgg_no h2 rfl
  unfold Op.equalIn
  simp only [Sem.run_bind, run_under h1, Result.andThen_ok, run_size hsz]
  simp only [Std.Legacy.Range.forIn_eq_forIn_range', Std.Legacy.Range.size, Nat.sub_zero, Nat.add_one_sub_one, Nat.div_one]
  have key : ∀ (l : List Nat), (∀ i ∈ l, i < len) → ((forIn l ((none, ()) : Option Bool × Unit) fun i r => do
      if !(← Op.equalIn (d + 1) e (← part e (W.map (Value.int kd)).toArray (i * 1)) (← part e (V.map (Value.int kd)).toArray (i * 1))) then
        pure (ForInStep.done (some false, ()))
      else pure (ForInStep.yield (none, ()))) : Sem (Option Bool × Unit)).run P w = .ok (if l.all (fun i => W.getD i 0 == V.getD i 0) then (none, ()) else (some false, ())) w := by
    intro l
    induction l with
    | nil => intro _; rfl
    | cons i l ih =>
      intro hi
      have hil : i < W.length := by rw [hW]; exact hi i (by simp)
      have hiv : i < V.length := by rw [hV]; exact hi i (by simp)
      have hp := run_part1 (P := P) (e := e) (cs := (W.map (Value.int kd)).toArray) (i := i * 1) (v := .int kd (W.getD i 0)) hag (by simp [hil]) w
      have hq := run_part1 (P := P) (e := e) (cs := (V.map (Value.int kd)).toArray) (i := i * 1) (v := .int kd (V.getD i 0)) hag (by simp [hiv]) w
      simp only [List.forIn_cons, Sem.run_bind, hp, hq, Result.andThen_ok, eqIn_int2 d h2, List.all_cons]
      by_cases hb : W.getD i 0 = V.getD i 0
      · have hb2 : (W.getD i 0 == V.getD i 0) = true := by simpa using hb
        simp only [hb2, Bool.not_true, Bool.false_eq_true, if_false, Sem.run_pure, Result.andThen_ok, Bool.true_and]
        exact ih fun j hj => hi j (by simp [hj])
      · have hb2 : (W.getD i 0 == V.getD i 0) = false := by simpa using hb
        simp only [hb2, Bool.not_false, if_true, Sem.run_pure, Result.andThen_ok, Bool.false_and, Bool.false_eq_true, if_false]
  rw [key (List.range' 0 len) (fun i hi => by have := List.mem_range'_1.1 hi; omega), all_eq hW hV]
  by_cases h : W = V
  · rw [decide_eq_true h]; rfl
  · rw [decide_eq_false h]; rfl
theorem Gets.arrEq {len : Nat} {W V : List Int} (ho : o.op = .binOp .eql t x y t') (h1 : P.underlying t = some (.array len e)) (h2 : P.underlying e = some (.int kd)) (hsz : (P.info? e).map (·.size) = some 1) (hgt : P.eqGuardType P.depth t = false)
    (hx : ev L x = some (.agg (W.map (Value.int kd)).toArray)) (hy : ev L y = some (.agg (V.map (Value.int kd)).toArray)) (hW : W.length = len) (hV : V.length = len) : Gets P n w0 o L H (.bool (decide (W = V))) := fun a w hf hs => by
  simp only [execOp, ho, hf.eval hx, hf.eval hy]
  refine run_value ?_
  have h3 := eqIn_arr2 (P := P) 9998 h1 h2 hsz hW hV w
  have h4 : ∀ c d : Value, Op.equal t c d = Op.equalIn (9998 + 1 + 1) t c d := fun _ _ => rfl
  simp only [Sem.run_bind, run_noGuard hgt, Result.andThen_ok, binOp, h4]
  generalize Op.equalIn (9998 + 1 + 1) t (.agg (W.map (Value.int kd)).toArray) (.agg (V.map (Value.int kd)).toArray) = s at *
  simp [h3]
end
theorem seg_mid {A B C : List Value} {a : Nat} (ha : A.length = a) : ((A ++ (B ++ C)).drop a).take B.length = B := by subst ha; simp
end Go.Proofs.Ytdllgfkcakhoeaa
