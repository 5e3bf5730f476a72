/-
  Structs: parts of blocks, fields, equality; two results, one of them in memory; rooms that Grow asks for.
-/
import Derived.Test.YtdllgfkcakhoeaaMixS
import Derived.Test.YtdllgfkcakhoeaaSrc
import Derived.Laws.StructEq
namespace Go.Proofs.Ytdllgfkcakhoeaa
set_option linter.unusedVariables false
set_option linter.unusedSimpArgs false
set_option linter.unusedVariables false
open Go Go.RowKit
section
variable {P : Program} {ops : Array Oper} {Q : Exit → Act → World → Prop} {n : Sz} {w0 : World} {L L' : List (Nat × Value)} {H : List Ent}
variable {o : Oper} {rest : List Oper} {v u : Value} {x y z : Operand} {k m j : Nat} {t t' e : TypeId} {ks : List Nat} {kd : IntKind} {p q : Int}
theorem Row.part {i g off : Nat} {ent : Ent} {vs : List Value} (hi : H[i]? = some ent) (hg : ent.g = g) (hv : (ent.cs.drop off).take vs.length = vs) : Row w0 H g off vs := Row.ent hi hg fun j u hu => by
  rw [← hv, List.getElem?_take] at hu
  split at hu
  · rwa [List.getElem?_drop] at hu
  · cases hu
theorem run_partN {cs : Array Value} {i s : Nat} {vs : List Value} (hag : (isAgg e).run P = fun w => .ok true w) (hsz : (P.info? e).map (·.size) = some s) (hv : (cs.toList.drop i).take s = vs) (w : World) : (part e cs i).run P w = .ok (.agg vs.toArray) w := by
  subst hv
  simp only [part, Sem.run_bind, hag, Result.andThen_ok, if_true, run_size hsz, Sem.run_pure]
  congr 2
  apply Array.ext'
  simp [List.take_drop]
/-- A field of a struct's value. -/
theorem Gets.field {f : Nat} {fields : Array Field} {fl : Field} {cs : Array Value} (ho : o.op = .field t x f) (h1 : P.underlying t = some (.struct fields)) (hfl : fields[f]? = some fl) (hx : ev L x = some (.agg cs))
    (hp : ∀ w, (part fl.type cs fl.offset).run P w = .ok v w) : Gets P n w0 o L H v := fun a w hf hs => by
  simp only [execOp, ho, hf.eval hx]
  refine run_value ?_
  simp only [Instr.field, Sem.run_bind, run_under h1, Result.andThen_ok, hfl, asAgg, Sem.run_pure]
  exact hp w
theorem Gets.fieldN {f s : Nat} {fields : Array Field} {fl : Field} {cs vs : List Value} (ho : o.op = .field t x f) (h1 : P.underlying t = some (.struct fields)) (hfl : fields[f]? = some fl) (hx : ev L x = some (.agg cs.toArray))
    (hag : (isAgg fl.type).run P = fun w => .ok true w) (hsz : (P.info? fl.type).map (·.size) = some s) (hv : (cs.drop fl.offset).take s = vs) : Gets P n w0 o L H (.agg vs.toArray) :=
  Gets.field ho h1 hfl hx (run_partN hag hsz (by simpa using hv))
theorem Gets.field1 {f : Nat} {fields : Array Field} {fl : Field} {cs : List Value} (ho : o.op = .field t x f) (h1 : P.underlying t = some (.struct fields)) (hfl : fields[f]? = some fl) (hx : ev L x = some (.agg cs.toArray))
    (hag : (isAgg fl.type).run P = fun w => .ok false w) (hv : cs[fl.offset]? = some v) : Gets P n w0 o L H v :=
  Gets.field ho h1 hfl hx (run_part1 hag (by simpa using hv))
theorem fieldsOf_is {fs : Array Field} (h : P.underlying t = some (.struct fs)) : P.fieldsOf t = fs := by unfold Program.fieldsOf; rw [h]
/-- Two structs of two numbers. -/
theorem Gets.pairEq {f0 f1 : Field} {a b c d : Int} {k0 k1 : IntKind} (ho : o.op = .binOp .eql t x y t') (h1 : P.underlying t = some (.struct #[f0, f1])) (hn0 : f0.name ≠ "_") (hn1 : f1.name ≠ "_") (ho0 : f0.offset = 0) (ho1 : f1.offset = 1)
    (ht0 : P.underlying f0.type = some (.int k0)) (ht1 : P.underlying f1.type = some (.int k1)) (hsi : P.stoodInHeld t = false) (hgt : P.eqGuardType P.depth t = false)
    (hx : ev L x = some (.agg [Value.int kd a, Value.int kd b].toArray)) (hy : ev L y = some (.agg [Value.int kd c, Value.int kd d].toArray)) : Gets P n w0 o L H (.bool (decide (a = c ∧ b = d))) := fun ac w hf hs => by
  simp only [execOp, ho, hf.eval hx, hf.eval hy]
  refine run_value ?_
  have hg := run_eqGuard_agg (P := P) w .eql t x y [Value.int kd a, Value.int kd b].toArray [Value.int kd c, Value.int kd d].toArray hgt
  have hp := fun (ty : TypeId) (kk : IntKind) (l : List Value) (i : Nat) (v : Value) (ht : P.underlying ty = some (.int kk)) (hv : l[i]? = some v) (w : World) => run_part1 (P := P) (cs := l.toArray) (isAgg_no ht rfl) (by simpa using hv) w
  simp only [Sem.run_bind, hg, Result.andThen_ok]
  rw [run_eql_struct, run_equalIn_struct w 9999 t _ _ (by rw [fieldsOf_is h1]; exact h1) hsi, fieldsOf_is h1]
  simp only [Op.eqFields, Sem.run_bind, ne_eq, hn0, hn1, not_false_eq_true, if_true, ho0, ho1,
    hp f0.type k0 [Value.int kd a, Value.int kd b] 0 _ ht0 rfl, hp f0.type k0 [Value.int kd c, Value.int kd d] 0 _ ht0 rfl, hp f1.type k1 [Value.int kd a, Value.int kd b] 1 _ ht1 rfl, hp f1.type k1 [Value.int kd c, Value.int kd d] 1 _ ht1 rfl, Result.andThen_ok]
  have e0 := run_equalIn_int (P := P) w 9998 f0.type kd k0 a c ht0
  have e1 := run_equalIn_int (P := P) w 9998 f1.type kd k1 b d ht1
  rw [show (9998 + 1) = 9999 from rfl] at e0 e1
  have q1 := hp f1.type k1 [Value.int kd a, Value.int kd b] 1 _ ht1 rfl
  have q2 := hp f1.type k1 [Value.int kd c, Value.int kd d] 1 _ ht1 rfl
  rw [e0]
  by_cases hac : a = c
  · subst hac
    simp only [beq_self_eq_true, Result.andThen_ok, Bool.not_true, Bool.false_eq_true, if_false, Sem.run_bind, q1, q2]
    rw [e1]
    by_cases hbd : b = d
    · subst hbd
      simp only [beq_self_eq_true, Result.andThen_ok, Bool.not_true, Bool.false_eq_true, if_false, Sem.run_pure]
      simp
    · have : (b == d) = false := by simpa using hbd
      simp [this, hbd]
  · have : (a == c) = false := by simpa using hac
    simp [this, hac]
theorem Gets.boolEqP {a b : Prop} [Decidable a] [Decidable b] (ho : o.op = .binOp .eql t x y t') (h1 : P.underlying t = some .bool) (hx : ev L x = some (.bool (decide a))) (hy : ev L y = some (.bool (decide b))) : Gets P n w0 o L H (.bool (decide (a ↔ b))) :=
  Gets.congr (Gets.boolEq ho h1 hx hy) (by by_cases ha : a <;> by_cases hb : b <;> simp [ha, hb])
theorem Gets.max2 (ho : o.op = .call { callee := .builtin .max, args := #[x, y], argTypes := #[t, t] }) (hx : ev L x = some (.int kd p)) (hy : ev L y = some (.int kd q)) : Gets P n w0 o L H (.int kd (if p < q then q else p)) := fun a w hf hs => by
  simp only [execOp, ho, resolve, invoke, builtin, Sem.run_bind, Sem.run_pure, Result.andThen_ok, List.map_toArray, List.map_cons, List.map_nil, hf.eval hx, hf.eval hy, Builtin.max_]
  simp [Builtin.max2, Sem.run_bind]
theorem Gets.capSlice {A : Option Addr} {len cap : Nat} (ho : o.op = .call { callee := .builtin .cap, args := #[x], argTypes := #[t] }) (h1 : P.underlying t = some (.slice e)) (hx : ev L x = some (.slice A len cap)) : Gets P n w0 o L H (.int .i64 cap) := fun a w hf hs => by
  simp only [execOp, ho, resolve, invoke, builtin, Sem.run_bind, Sem.run_pure, Result.andThen_ok, List.map_toArray, List.map_cons, List.map_nil, hf.eval hx, Builtin.cap_]
  simp [Sem.run_bind, run_under h1, goInt]
/-- Two results, the first of them in memory. -/
theorem TE.ret2C {fn : Func} {R : Ending → World → Prop} {i j g off s : Nat} {vs : List Value} (hres : fn.results = #[.cell i t, .tmp j]) (hag : (isAgg t).run P = fun w => .ok true w) (hsz : (P.info? t).map (·.size) = some s)
    (hx : look L i = some (.pointer (some ⟨g, off, none⟩))) (hy : look L j = some u) (hl : vs.length = s) (hc : Row w0 H g off vs) (h : ∀ w, St w0 H w → R (.returned (.tuple #[.agg vs.toArray, u])) w) (hds : n.ds = [] := by rfl) : TE (bodyPost P fn R) .ret n w0 L H := fun a w hf hs => by
  refine ⟨hf.1.trans hds, .tuple #[.agg vs.toArray, u], ?_, h w hs⟩
  have h1 : (a.tmps.getD i undef) = .pointer (some ⟨g, off, none⟩) := by simp [Array.getD_eq_getD_getElem?, hf.2.2 i _ hx]
  have h3 : (a.tmps.getD j undef) = u := by simp [Array.getD_eq_getD_getElem?, hf.2.2 j _ hy]
  have h2 := run_loadCells (P := P) (w := w) (b := g) (off := off) s 0 #[] vs hl (fun j u hu => by rw [Nat.zero_add]; exact hc w hs j u hu)
  simp only [results, hres]
  simp [Sem.run_bind, loadVar, hag, run_size hsz, loadCells]
  simp only [Array.getD_eq_getD_getElem?] at h1 h3
  simp [h1, h3, asAddr, h2]
theorem TE.end2C {fn : Func} {R : Ending → World → Prop} {i j g off s : Nat} {vs : List Value} (hres : fn.results = #[.cell i t, .tmp j]) (hag : (isAgg t).run P = fun w => .ok true w) (hsz : (P.info? t).map (·.size) = some s)
    (hx : look L i = some (.pointer (some ⟨g, off, none⟩))) (hy : look L j = some u) (hl : vs.length = s) (hc : Row w0 H g off vs) (h : ∀ w, St w0 H w → R (.returned (.tuple #[.agg vs.toArray, u])) w) (hds : n.ds = [] := by rfl) : TE (bodyPost P fn R) .normal n w0 L H := fun a w hf hs =>
  TE.ret2C hres hag hsz hx hy hl hc h hds a w hf hs
theorem St.less {w : World} {g tot : Nat} {cs : List Value} (h : St w0 (⟨g, t, cs, tot⟩ :: H) w) : St w0 (⟨g, t, [], tot⟩ :: H) w :=
  ⟨h.os, h.tape, h.output, h.size, fun e he => by
    rcases List.mem_cons.1 he with rfl | he
    · obtain ⟨cur, h1, h2, _⟩ := h.has _ List.mem_cons_self
      exact ⟨cur, h1, h2, by simp⟩
    · exact h.has e (by simp [he]),
  fun b hb hne => h.old b hb (fun e he => by
    rcases List.mem_cons.1 he with rfl | he
    · exact hne ⟨g, t, [], tot⟩ List.mem_cons_self
    · exact hne e (by simp [he])), .cons (fun d hd => (List.pairwise_cons.1 h.apart).1 d hd) (List.pairwise_cons.1 h.apart).2⟩
/-- 'append' of so many zeros onto nil. -/
theorem TL.growNil {nn bytes : Nat} {zv : Value} (hg : Wants n ops L o) (hi' : inside n o.dst = true) (ho : o.op = .call { callee := .builtin .append, args := #[x, y], argTypes := #[t, t'] }) (h1 : P.underlying t = some (.slice e)) (h2 : P.underlying t' = some (.int .i64))
    (hz : (P.info? e).map (fun i => (i.zero, i.size, i.bytes)) = some (some zv, 1, bytes)) (hzc : zv.cells = #[zv]) (hx : ev L x = some (.slice none 0 0)) (hy : ev L y = some (.int .i64 (nn : Int))) (hpos : 0 < nn) (hle : nn * bytes ≤ 140737488355328) (hnn : nn ≤ 140737488355328)
    (hr : ∀ g c, w0.heap.size ≤ g → nn ≤ c → c ≤ maxLen → TL P ops Q n w0 rest (put L o.dst (.slice (some ⟨g, 0, none⟩) nn c)) (⟨g, e, [], c⟩ :: H)) : TL P ops Q n w0 (o :: rest) L H :=
  fun a w hf hs => wpL_wants hg.nd (hg a hf) fun K hK => by
    obtain ⟨i, hi1, hi2⟩ := Option.map_eq_some_iff.1 hz
    simp only [Prod.mk.injEq] at hi2
    obtain ⟨hz1, hz2, hz3⟩ := hi2
    have hwrap : IntKind.i64.wrap (nn : Int) = (nn : Int) := IntWalk.i64_in _ (by omega)
    have hcap := grownCap_ge w nn 0 e
    have hcap2 := grownCap_le_maxLen w nn 0 e (by unfold maxLen; omega)
    have hn0 : nn ≠ 0 := by omega
    have hl0 : ¬ ((nn : Int) < 0) := by omega
    have hb : ¬ ((281474976710656 : Int) < (nn : Int) * (bytes : Int)) := by
      have h := Int.ofNat_le.2 hle
      rw [Int.natCast_mul] at h
      intro h'
      have h3 : ((140737488355328 : Nat) : Int) = 140737488355328 := rfl
      rw [h3] at h; omega
    have h63 : ¬ (9223372036854775807 < (nn : Int)) := by omega
    have h48 : ¬ (281474976710656 < Builtin.nextslicecap nn 0 * bytes) := by rw [nextslicecap_zero (by omega)]; omega
    obtain ⟨cs, hsz, hcs⟩ : ∃ cs : Array Value, cs.size = grownCap w nn 0 e ∧ (Builtin.append_ #[t, t'] o.type #[.slice none 0 0, .int .i64 (nn : Int)]).run P w = .ok (.slice (some ⟨w.heap.size, 0, none⟩) nn (grownCap w nn 0 e)) (w.drew.alloc (.cells cs e)) := by
      refine ⟨Builtin.zeroCells zv.cells nn ++ Builtin.zeroCells zv.cells (grownCap w nn 0 e - nn), ?_, ?_⟩
      · rw [Array.size_append, size_zeroCells, size_zeroCells, hzc]
        show nn * 1 + (grownCap w nn 0 e - nn) * 1 = _
        omega
      · simp [Builtin.append_, Sem.run_bind, run_under h1, run_under h2, sizeOf, typeInfo, zeroValue, hi1, hz1, hz2, hz3, asInt, asIntOf, hwrap, hn0, hl0, hb, h63, h48, Question.forced, Builtin.firstCells, newRow, grownCap]
    unfold Oper.wp
    have hrun : (execOp a.eval o).run P w = .ok (.value (.slice (some ⟨w.heap.size, 0, none⟩) nn (grownCap w nn 0 e))) (w.drew.alloc (.cells cs e)) := by
      simp only [execOp, ho, resolve, invoke, builtin, Sem.run_bind, Sem.run_pure, Result.andThen_ok, List.map_toArray, List.map_cons, List.map_nil, hf.eval hx, hf.eval hy, hcs]
    rw [hrun]
    have h := hs.drew.alloc e cs.toList cs rfl
    have hlen : cs.toList.length = grownCap w nn 0 e := by simpa using hsz
    rw [hlen] at h
    exact hK _ _ (hr w.heap.size (grownCap w nn 0 e) hs.size hcap hcap2 _ _ (hf.put o.dst _ hi') (St.less h))
end
section
variable {P : Program} {ops : Array Oper} {Q : Exit → Act → World → Prop} {n : Sz} {w0 : World} {L L' : List (Nat × Value)} {HB X D : List Ent}
variable {o : Oper} {rest : List Oper} {v u : Value} {x y z : Operand} {k m j : Nat} {t t' e : TypeId} {ks : List Nat} {kd : IntKind} {r : Value → List Ent → Prop} {rs : List (Value → List Ent → Prop)}
/-- A call that makes blocks, of whatever has been made. -/
theorem TR.call3 {ι : Type} {f : FuncId} {xs : List Operand} {ts : Array TypeId} {vs : List Value} {V : ι → Value} {R : ι → Prop} {E : ι → List Ent} (hg : Wants n ops L o) (hi : inside n o.dst = true) (h : Enters P f)
    (ho : o.op = .call { callee := .value (.func f), args := xs.toArray, argTypes := ts }) (hx : evs L xs = some vs)
    (hc : ∀ Z w, Fresh w0 Z → St w0 (HB ++ Z) w → Calls P f vs.toArray w fun e w' => ∃ i, e = .returned (V i) ∧ R i ∧ Fresh w (E i) ∧ St w (E i) w')
    (hr : ∀ i, R i → Fresh w0 (E i) → TR P ops Q n w0 HB ks rs rest (put L o.dst (V i)) (X ++ E i) D) : TR P ops Q n w0 HB (3 :: ks) ((fun v e => ∃ i, R i ∧ v = V i ∧ e = E i) :: rs) (o :: rest) L X D :=
  TR.call (k := 3) (.inl rfl) hg hi h ho hx hc hr
/-- A call that makes blocks and reads what has been made. -/
theorem TR.call6 {ι : Type} {f : FuncId} {xs : List Operand} {ts : Array TypeId} {vs : List Value} {V : ι → Value} {R : ι → Prop} {E : ι → List Ent} (hg : Wants n ops L o) (hi : inside n o.dst = true) (h : Enters P f)
    (ho : o.op = .call { callee := .value (.func f), args := xs.toArray, argTypes := ts }) (hx : evs L xs = some vs)
    (hc : ∀ Z w, Fresh w0 Z → St w0 (HB ++ (X ++ Z)) w → Calls P f vs.toArray w fun e w' => ∃ i, e = .returned (V i) ∧ R i ∧ Fresh w (E i) ∧ St w (E i) w')
    (hr : ∀ i, R i → Fresh w0 (E i) → TR P ops Q n w0 HB ks rs rest (put L o.dst (V i)) (X ++ E i) D) : TR P ops Q n w0 HB (6 :: ks) ((fun v e => ∃ i, R i ∧ v = V i ∧ e = E i) :: rs) (o :: rest) L X D :=
  TR.call (k := 6) (.inr (.inr rfl)) hg hi h ho hx hc hr
/-- Append of something onto a full slice. -/
theorem TR.appendFull {A As : Option Addr} {bytes sl sc : Nat} {W B : List Int} {zv : Value} (hg : Wants n ops L o) (hi' : inside n o.dst = true) (ho : o.op = .call { callee := .builtin .append, args := #[x, y], argTypes := #[t, t] })
    (h1 : P.underlying t = some (.slice e)) (hz : (P.info? e).map (fun i => (i.zero, i.size, i.bytes)) = some (some zv, 1, bytes)) (hzc : zv.cells = #[zv])
    (hx : ev L x = some (.slice A m m)) (hy : ev L y = some (.slice As sl sc)) (hW : ∀ Z w, Fresh w0 Z → St w0 (HB ++ Z) w → Src w A m kd W) (hsrc : ∀ Z w, Fresh w0 Z → St w0 (HB ++ Z) w → Src w As sl kd B) (hsl : 0 < sl) (hA : A = none → m = 0)
    (h63 : m + sl ≤ maxLen) (hbytes : (m + sl) * bytes ≤ 140737488355328)
    (hr : ∀ g c, w0.heap.size ≤ g → m + sl ≤ c → c ≤ maxLen → TR P ops Q n w0 HB ks rs rest (put L o.dst (.slice (some ⟨g, 0, none⟩) (m + sl) c)) (X ++ [⟨g, e, (W ++ B).map (Value.int kd), c⟩]) D) :
    TR P ops Q n w0 HB (3 :: ks) ((fun v d => ∃ g c, m + sl ≤ c ∧ c ≤ maxLen ∧ v = .slice (some ⟨g, 0, none⟩) (m + sl) c ∧ d = [⟨g, e, (W ++ B).map (Value.int kd), c⟩]) :: rs) (o :: rest) L X D :=
  fun a hf => .inr (.inl ⟨.inl rfl, fun Z w hZ hs => by
    obtain ⟨v', w', He', hrun, hown, hv, hst⟩ := run_append_full (ty := o.type) (sc := sc) h1 hz hzc (hW Z w hZ hs) (hsrc Z w hZ hs) hsl hA h63 hbytes
    have hlen : (W ++ B).length = m + sl := by rw [List.length_append, (hW Z w hZ hs).1, (hsrc Z w hZ hs).1]
    obtain ⟨g, c, hv2, hHe, hg2, hc, hm⟩ := own_some hown hv
    rw [hlen] at hv2 hc
    subst hv2; subst hHe
    have hrun' : (execOp a.eval o).run P w = .ok (.value (.slice (some ⟨g, 0, none⟩) (m + sl) c)) w' := by
      simp only [execOp, ho, resolve, invoke, builtin, Sem.run_bind, Sem.run_pure, Result.andThen_ok, List.map_toArray, List.map_cons, List.map_nil, hf.eval hx, hf.eval hy, hrun]
    exact ⟨.inl ⟨_, _, _, hrun', ⟨g, c, hc, hm, rfl, rfl⟩, fresh_one hg2, hst⟩, hg a hf⟩,
    fun v d hE ⟨g, c, h2, h3, h4, h5⟩ => by subst h4; subst h5; exact hr g c (fresh_head hE) h2 h3 _ (hf.put o.dst _ hi')⟩)
theorem TR.passU {j d : Nat} {b : Bool} (h : o.guard = some (j, b)) (hj : (ops[j]?).bind (·.dst) = some d) (hd : look L d = some undef) (hi : inside n o.dst = true) (hr : TR P ops Q n w0 HB ks rs rest (put L o.dst undef) X D) : TR P ops Q n w0 HB (0 :: ks) (r :: rs) (o :: rest) L X D :=
  fun a hf => .inl ⟨by decide, undef, fun Z _ => .inr ⟨by
    have hy : yielded ops a.tmps j = none := by
      unfold yielded
      rw [hj]
      simp [hf.2.2 d _ hd, undef]
    simp [Region.wanted, h, hy], rfl⟩, hr _ (hf.put o.dst undef hi)⟩
end
section
variable {P : Program} {ops : Array Oper} {Q : Exit → Act → World → Prop} {n : Sz} {w0 : World} {L : List (Nat × Value)} {H : List Ent} {o : Oper} {rest : List Oper} {ks : List Nat} {k m j d : Nat} {b c : Bool}
theorem guard_undef {a : Act} (hf : Fr n L a) (hj : (ops[j]?).bind (·.dst) = some d) (hd : look L d = some undef) : yielded ops a.tmps j = none := by
  unfold yielded
  rw [hj]
  simp [hf.2.2 d _ hd, undef]
theorem TL.passU (h : o.guard = some (j, c)) (hj : (ops[j]?).bind (·.dst) = some d) (hd : look L d = some undef) (hi : inside n o.dst = true) (hr : TL P ops Q n w0 rest (put L o.dst undef) H) : TL P ops Q n w0 (o :: rest) L H :=
  fun a w hf hs => wpL_pass (by simp [Region.wanted, h, guard_undef hf hj hd]) (hr _ _ (hf.put o.dst undef hi) hs)
theorem TS.passU (h : o.guard = some (j, c)) (hj : (ops[j]?).bind (·.dst) = some d) (hd : look L d = some undef) (hi : inside n o.dst = true) (hr : TS P ops Q n w0 k m rest (put L o.dst undef) H) : TS P ops Q n w0 k (m + 1) (o :: rest) L H :=
  fun a hf => SeqM.skip (by simp [Region.wanted, h, guard_undef hf hj hd]) (hr _ (hf.put o.dst undef hi))
theorem TM.passU (h : o.guard = some (j, c)) (hj : (ops[j]?).bind (·.dst) = some d) (hd : look L d = some undef) (hi : inside n o.dst = true) (hr : TM P ops Q n w0 ks rest (put L o.dst undef) H) : TM P ops Q n w0 (0 :: ks) (o :: rest) L H :=
  fun a hf => ⟨undef, St w0 H, ⟨fun S0 => .inr ⟨by simp [Region.wanted, h, guard_undef hf hj hd], rfl⟩, rfl⟩, hr _ (hf.put o.dst undef hi)⟩
theorem TM.pass1U (h : o.guard = some (j, c)) (hj : (ops[j]?).bind (·.dst) = some d) (hd : look L d = some undef) (hi : inside n o.dst = true) (hr : TM P ops Q n w0 ks rest (put L o.dst undef) H) : TM P ops Q n w0 (1 :: ks) (o :: rest) L H :=
  fun a hf => ⟨undef, St w0 H, ⟨.inr ⟨by simp [Region.wanted, h, guard_undef hf hj hd], rfl⟩, rfl⟩, hr _ (hf.put o.dst undef hi)⟩
theorem TM.pass1 (h : o.guard = some (j, c)) (hj : (ops[j]?).bind (·.dst) = some d) (hd : look L d = some (.bool b)) (hi : inside n o.dst = true) (hb : b = !c) (hr : TM P ops Q n w0 ks rest (put L o.dst undef) H) : TM P ops Q n w0 (1 :: ks) (o :: rest) L H :=
  fun a hf => ⟨undef, St w0 H, ⟨.inr ⟨by subst hb; simp [Region.wanted, h, guard_val hf hj hd], rfl⟩, rfl⟩, hr _ (hf.put o.dst undef hi)⟩
end
theorem Gets.strAdd {P : Program} {n : Sz} {w0 : World} {L : List (Nat × Value)} {H : List Ent} {o : Oper} {x y : Operand} {t t' : TypeId} {b c d : ByteArray} (ho : o.op = .binOp .add t x y t') (hx : ev L x = some (.string b)) (hy : ev L y = some (.string c)) (hn : b.size + c.size ≤ 9223372036854775807) (hd : b ++ c = d) : Gets P n w0 o L H (.string d) := fun a w hf hs => by
  subst hd
  simp only [execOp, ho, hf.eval hx, hf.eval hy]
  refine run_value ?_
  have : ¬ (((b.size + c.size : Nat) : Int) > IntKind.i64.max) := by simp only [IntKind.max, IntKind.bits, IntKind.signed]; simp; omega
  simp only [eqGuard, binOp, Sem.run_bind, Op.stringOp, if_neg this, Sem.run_pure]
  rfl
section
variable {P : Program} {n : Sz} {w0 : World} {L : List (Nat × Value)} {H : List Ent} {o : Oper} {x y : Operand} {t t' : TypeId}
theorem Gets.boolNeP {a b : Prop} [Decidable a] [Decidable b] (ho : o.op = .binOp .neq t x y t') (h1 : P.underlying t = some .bool) (hx : ev L x = some (.bool (decide a))) (hy : ev L y = some (.bool (decide b))) : Gets P n w0 o L H (.bool (decide (¬ (a ↔ b)))) := fun ac w hf hs => by
  simp only [execOp, ho, hf.eval hx, hf.eval hy]
  refine run_value ?_
  have h3 := eqIn_bb (P := P) (t := t) 9999 (b := decide a) (c := decide b) h1 w
  have h4 : ∀ c d : Value, Op.equal t c d = Op.equalIn (9999 + 1) t c d := fun _ _ => rfl
  simp only [eqGuard, Sem.run_bind, Sem.run_pure, Result.andThen_ok, binOp, h4]
  generalize Op.equalIn (9999 + 1) t (.bool (decide a)) (.bool (decide b)) = s at *
  by_cases ha : a <;> by_cases hb : b <;> simp [ha, hb] at h3 ⊢ <;> simp [h3]
theorem bs_app (l r : List Int) : bs l ++ bs r = bs (l ++ r) := by
  apply ByteArray.ext
  apply Array.toList_inj.1
  unfold bs
  simp [ByteArray.data_append]
end
theorem dec_iff {p q : Prop} [Decidable p] [Decidable q] (h : p ↔ q) : Ending.returned (.bool (decide p)) = .returned (.bool (decide q)) := by rw [decide_eq_decide.2 h]
theorem dec_t {q : Prop} [Decidable q] (h : q) : Ending.returned (.bool true) = .returned (.bool (decide q)) := by rw [decide_eq_true h]
theorem dec_f {q : Prop} [Decidable q] (h : ¬ q) : Ending.returned (.bool false) = .returned (.bool (decide q)) := by rw [decide_eq_false h]
theorem ret_i {a b : Int} (h : a = b) : Ending.returned (.int .i64 a) = .returned (.int .i64 b) := by rw [h]
end Go.Proofs.Ytdllgfkcakhoeaa
