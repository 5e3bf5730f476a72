/-
  The reference of layer 6: Length, Bytes.
-/
import Derived.Test.YtclmgfcdnokaiaaFormatDecodes7Pa
import Derived.RangeFuncNested
import Derived.RangeFuncLeaves
import Derived.Below
import Derived.Test.YtclmgfcdnokaiaaRows
/-
  A region that draws its order, with operations that change what the region or the call has made: kind 0 reads nothing that is changed or made, kind 3 makes blocks, kind 7 reads or changes what is made.
-/
namespace Go.Proofs.Ytclmgfcdnokaiaa
set_option linter.unusedVariables false
set_option linter.unusedSimpArgs false
set_option linter.unusedVariables false
open Go Go.RowKit
section
variable {P : Program} {ops : Array Oper} {md : Region.Mode} {w0 : World} {HB : List Ent}
def compatT (i j : Nat) : Bool :=
  match j with
  | 0 => Nat.beq i 0
  | 3 => Nat.beq i 0 || Nat.beq i 3 || Nat.beq i 7
  | 7 => Nat.beq i 0
  | _ => false
/-- The operation changes what has been made: among X0 and Y it puts E in Y's place. -/
def ChangesL (P : Program) (ops : Array Oper) (w0 : World) (HB X0 Z : List Ent) (o : Oper) (a : Act) (R : Value → List Ent → Prop) (w : World) : Prop :=
  ((∃ v E w', (execOp a.eval o).run P w = .ok (.value v) w' ∧ R v E ∧ Fresh w0 E ∧ St w0 (HB ++ ((X0 ++ E) ++ Z)) w') ∨
    (∃ E w', o.dst = none ∧ (execOp a.eval o).run P w = .ok .skip w' ∧ R undef E ∧ Fresh w0 E ∧ St w0 (HB ++ ((X0 ++ E) ++ Z)) w') ∨
    (∃ f vs, (execOp a.eval o).run P w = .ok (.enter f vs) w ∧ Calls P f vs w fun e w'' => ∃ v E, e = .returned v ∧ R v E ∧ Fresh w0 E ∧ St w0 (HB ++ ((X0 ++ E) ++ Z)) w'')) ∧ Region.wanted o (yielded ops a.tmps) = true
theorem ChangesL.of_same {X0 Z : List Ent} {o : Oper} {a a' : Act} {w : World} {R : Value → List Ent → Prop} (h : ChangesL P ops w0 HB X0 Z o a R w) (he : execOp a'.eval o = execOp a.eval o)
    (hw : Region.wanted o (yielded ops a'.tmps) = Region.wanted o (yielded ops a.tmps)) : ChangesL P ops w0 HB X0 Z o a' R w := by
  unfold ChangesL at *; rw [he, hw]; exact h
theorem ChangesL.one {X0 Z : List Ent} {o : Oper} {a : Act} {w : World} {R : Value → List Ent → Prop} (h : ChangesL P ops w0 HB X0 Z o a R w) : ∃ v E w', R v E ∧ Fresh w0 E ∧ St w0 (HB ++ ((X0 ++ E) ++ Z)) w' := by
  rcases h.1 with ⟨v, E, w', _, h1, h2, h3⟩ | ⟨E, w', _, _, h1, h2, h3⟩ | ⟨f, vs, _, hc⟩
  · exact ⟨v, E, w', h1, h2, h3⟩
  · exact ⟨_, E, w', h1, h2, h3⟩
  · obtain ⟨e, w', fr, ⟨v, E, _, h1, h2, h3⟩, _⟩ := hc []
    exact ⟨v, E, w', h1, h2, h3⟩
theorem ChangesL.perm {X0 Z X0' Z' : List Ent} {o : Oper} {a : Act} {w : World} {R : Value → List Ent → Prop} (h : ChangesL P ops w0 HB X0 Z o a R w) (hp : ∀ E, ((X0 ++ E) ++ Z).Perm ((X0' ++ E) ++ Z')) : ChangesL P ops w0 HB X0' Z' o a R w := by
  refine ⟨?_, h.2⟩
  rcases h.1 with ⟨v, E, w', h0, h1, h2, h3⟩ | ⟨E, w', hd, h0, h1, h2, h3⟩ | ⟨f, vs, h0, hc⟩
  · exact .inl ⟨v, E, w', h0, h1, h2, h3.perm (List.Perm.append_left HB (hp E))⟩
  · exact .inr (.inl ⟨E, w', hd, h0, h1, h2, h3.perm (List.Perm.append_left HB (hp E))⟩)
  · refine .inr (.inr ⟨f, vs, h0, hc.mono ?_⟩)
    rintro e w' ⟨v, E, he, h1, h2, h3⟩
    exact ⟨v, E, he, h1, h2, h3.perm (List.Perm.append_left HB (hp E))⟩
def MixT (P : Program) (ops : Array Oper) (w0 : World) (HB : List Ent) (K : Nat → Nat) (RR : Nat → Value → List Ent → Prop) (T : Act → World → Prop) : List Nat → Act → List Ent → Prop
  | [], a, X => ∀ w, St w0 (HB ++ X) w → T a w
  | i :: is, a, X => ∃ o, ops[i]? = some o ∧ (
      (K i = 0 ∧ ∃ v, Val P ops w0 HB 0 [] o v a ∧ MixT P ops w0 HB K RR T is (a.put o.dst v) X) ∨
      (K i = 3 ∧ (∀ Z w, Fresh w0 Z → St w0 (HB ++ Z) w → MakesL P ops o a (RR i) w) ∧ ∀ v E, Fresh w0 E → RR i v E → MixT P ops w0 HB K RR T is (a.put o.dst v) (X ++ E)) ∨
      (K i = 7 ∧ ∃ X0 Y, X.Perm (X0 ++ Y) ∧ (∀ Z w, Fresh w0 Z → St w0 (HB ++ ((X0 ++ Y) ++ Z)) w → ChangesL P ops w0 HB X0 Z o a (RR i) w) ∧ ∀ v E, Fresh w0 E → RR i v E → MixT P ops w0 HB K RR T is (a.put o.dst v) (X0 ++ E)))
theorem MixT.perm {K : Nat → Nat} {RR : Nat → Value → List Ent → Prop} {T : Act → World → Prop} : ∀ (is : List Nat) (a : Act) (X X' : List Ent), X.Perm X' → MixT P ops w0 HB K RR T is a X → MixT P ops w0 HB K RR T is a X'
  | [], a, X, X', hp, h => fun w hs => h w (hs.perm (List.Perm.append_left HB hp.symm))
  | i :: is, a, X, X', hp, h => by
    obtain ⟨o, ho, h⟩ := h
    refine ⟨o, ho, ?_⟩
    rcases h with ⟨h1, v, h2, h3⟩ | ⟨h1, h2, h3⟩ | ⟨h1, X0, Y, hXY, h2, h3⟩
    · exact .inl ⟨h1, v, h2, MixT.perm is _ X X' hp h3⟩
    · exact .inr (.inl ⟨h1, h2, fun v E hE hR => MixT.perm is _ _ _ (List.Perm.append_right E hp) (h3 v E hE hR)⟩)
    · exact .inr (.inr ⟨h1, X0, Y, hp.symm.trans hXY, h2, h3⟩)
theorem MixT.first3 {K : Nat → Nat} {RR : Nat → Value → List Ent → Prop} {T : Act → World → Prop} (hsel : ∀ (j : Nat) (o : Oper) cs b, ops[j]? = some o → o.op ≠ .select cs b) {j : Nat} {oj : Oper} (hj : ops[j]? = some oj) (hk : K j = 3) (post : List Nat) :
    ∀ (pre : List Nat) (a : Act) (X : List Ent), (∀ i oi, i ∈ pre → ops[i]? = some oi → oi.apart ops oj = true ∧ compatT (K i) (K j) = true) → MixT P ops w0 HB K RR T (pre ++ j :: post) a X →
      ((∃ Z w, Fresh w0 (X ++ Z) ∧ St w0 (HB ++ (X ++ Z)) w) → ∀ Z w, Fresh w0 Z → St w0 (HB ++ Z) w → MakesL P ops oj a (RR j) w) ∧
        ∀ v E, Fresh w0 E → RR j v E → MixT P ops w0 HB K RR T (pre ++ post) (a.put oj.dst v) (X ++ E)
  | [], a, X, _, h => by
    obtain ⟨o, ho, h⟩ := h
    rw [hj] at ho; cases ho
    rcases h with ⟨h1, _⟩ | ⟨_, h2, h3⟩ | ⟨h1, _⟩
    · omega
    · exact ⟨fun _ => h2, h3⟩
    · omega
  | i :: pre, a, X, hap, h => by
    obtain ⟨oi, hi, h⟩ := h
    obtain ⟨hap1, hcomp⟩ := hap i oi List.mem_cons_self hi
    obtain ⟨h1, h2, h3⟩ := Oper.apart_spec hap1
    have hap' := fun k ok hk => hap k ok (List.mem_cons_of_mem _ hk)
    have ej := fun v => (execOp_put oj (fun cs b => hsel j oj cs b hj) a oi.dst v h1).symm
    have wj := fun v => (wanted_put oj a oi.dst v h1).symm
    have ei := fun v => execOp_put oi (fun cs b => hsel i oi cs b hi) a oj.dst v h3
    have wi := fun v => wanted_put oi a oj.dst v h3
    rcases h with ⟨hki, vi, hf, hs⟩ | ⟨hki, hm, hs⟩ | ⟨hki, X0, Y, hp, hch, hs⟩
    · obtain ⟨hmj, hsj⟩ := MixT.first3 hsel hj hk post pre (a.put oi.dst vi) X hap' hs
      refine ⟨fun hex Z w hZ hst => (hmj hex Z w hZ hst).of_same (ej vi) (wj vi), fun v E hE hR => ⟨oi, hi, .inl ⟨hki, vi, ?_, ?_⟩⟩⟩
      · exact hf.of_same (ei v) (wi v)
      · rw [← Act.put_comm a vi v h2]; exact hsj v E hE hR
    · have rec_ := fun v E (hE : Fresh w0 E) (hR : RR i v E) => MixT.first3 hsel hj hk post pre (a.put oi.dst v) (X ++ E) hap' (hs v E hE hR)
      refine ⟨fun hex Z w hZ hst => ?_, fun v E hE hR => ⟨oi, hi, .inr (.inl ⟨hki, fun Z w hZ hst => (hm Z w hZ hst).of_same (ei v) (wi v), fun vi Ei hEi hRi => ?_⟩)⟩⟩
      · obtain ⟨Z1, w1, hZ1, hs1⟩ := hex
        obtain ⟨vi, Ei, w', hRi, hEi, hst'⟩ := (hm (X ++ Z1) w1 hZ1 hs1).one
        have hEi0 : Fresh w0 Ei := fun e he => Nat.le_trans hs1.size (hEi e he)
        have hall := st_call hs1 hst' hEi
        have hex' : ∃ Z w, Fresh w0 ((X ++ Ei) ++ Z) ∧ St w0 (HB ++ ((X ++ Ei) ++ Z)) w := by
          refine ⟨Z1, w', fun e he => ?_, hall.perm ?_⟩
          · simp only [List.append_assoc, List.mem_append] at he
            rcases he with he | he | he
            · exact hZ1 e (List.mem_append.2 (.inl he))
            · exact hEi0 e he
            · exact hZ1 e (List.mem_append.2 (.inr he))
          · simp only [List.append_assoc]
            exact List.Perm.append_left HB (List.Perm.append_left X List.perm_append_comm)
        exact ((rec_ vi Ei hEi0 hRi).1 hex' Z w hZ hst).of_same (ej vi) (wj vi)
      · have := (rec_ vi Ei hEi hRi).2 v E hE hR
        rw [Act.put_comm a vi v h2] at this
        refine MixT.perm _ _ _ _ ?_ this
        rw [List.append_assoc, List.append_assoc]
        exact List.Perm.append_left X List.perm_append_comm
    · have rec_ := fun v E (hE : Fresh w0 E) (hR : RR i v E) => MixT.first3 hsel hj hk post pre (a.put oi.dst v) (X0 ++ E) hap' (hs v E hE hR)
      refine ⟨fun hex Z w hZ hst => ?_, fun v E hE hR => ⟨oi, hi, .inr (.inr ⟨hki, X0 ++ E, Y, ?_, fun Z w hZ hst => ?_, fun vi Ei hEi hRi => ?_⟩)⟩⟩
      · obtain ⟨Z1, w1, hZ1, hs1⟩ := hex
        have hZ1' : Fresh w0 Z1 := fun e he => hZ1 e (List.mem_append.2 (.inr he))
        obtain ⟨vi, Ei, w', hRi, hEi, hst'⟩ := (hch Z1 w1 hZ1' (hs1.perm (List.Perm.append_left HB (List.Perm.append_right Z1 hp)))).one
        have hX0 : Fresh w0 X0 := fun e he => hZ1 e (List.mem_append.2 (.inl (hp.mem_iff.2 (List.mem_append.2 (.inl he)))))
        exact ((rec_ vi Ei hEi hRi).1 ⟨Z1, w', (hX0.app hEi).app hZ1', hst'⟩ Z w hZ hst).of_same (ej vi) (wj vi)
      · refine (List.Perm.append_right E hp).trans ?_
        rw [List.append_assoc, List.append_assoc]
        exact List.Perm.append_left X0 List.perm_append_comm
      · have hc := hch (E ++ Z) w (hE.app hZ) (hst.perm (List.Perm.append_left HB (by
          simp only [List.append_assoc]
          refine List.Perm.append_left X0 ?_
          rw [← List.append_assoc, ← List.append_assoc]
          exact List.Perm.append_right Z List.perm_append_comm)))
        refine (hc.of_same (ei v) (wi v)).perm fun F => ?_
        simp only [List.append_assoc]
        refine List.Perm.append_left X0 ?_
        rw [← List.append_assoc, ← List.append_assoc]
        exact List.Perm.append_right Z List.perm_append_comm
      · have := (rec_ vi Ei hEi hRi).2 v E hE hR
        rw [Act.put_comm a vi v h2] at this
        refine MixT.perm _ _ _ _ ?_ this
        rw [List.append_assoc, List.append_assoc]
        exact List.Perm.append_left X0 List.perm_append_comm
def MixMT (P : Program) (ops : Array Oper) (w0 : World) (HB : List Ent) (T : Act → World → Prop) : List Nat → List (Value → List Ent → Prop) → List Oper → Act → List Ent → Prop
  | [], [], [], a, X => ∀ w, St w0 (HB ++ X) w → T a w
  | k :: ks, r :: rs, o :: rest, a, X => (k = 0 ∧ ∃ v, Val P ops w0 HB 0 [] o v a ∧ MixMT P ops w0 HB T ks rs rest (a.put o.dst v) X) ∨
      (k = 3 ∧ (∀ Z w, Fresh w0 Z → St w0 (HB ++ Z) w → MakesL P ops o a r w) ∧ ∀ v E, Fresh w0 E → r v E → MixMT P ops w0 HB T ks rs rest (a.put o.dst v) (X ++ E)) ∨
      (k = 7 ∧ ∃ X0 Y, X.Perm (X0 ++ Y) ∧ (∀ Z w, Fresh w0 Z → St w0 (HB ++ ((X0 ++ Y) ++ Z)) w → ChangesL P ops w0 HB X0 Z o a r w) ∧ ∀ v E, Fresh w0 E → r v E → MixMT P ops w0 HB T ks rs rest (a.put o.dst v) (X0 ++ E))
  | _, _, _, _, _ => False
theorem MixMT.seqp {T : Act → World → Prop} {l : List Oper} {ks : List Nat} {rs : List (Value → List Ent → Prop)} : ∀ (p : List Nat) (a : Act) (X : List Ent), (∀ i ∈ p, i < l.length) → MixMT P l.toArray w0 HB T (pickK ks p) (pickRL rs p) (pickO l p) a X →
    MixT P l.toArray w0 HB (ks.getD · 2) (rs.getD · (fun _ _ => False)) T p a X
  | [], _, _, _, h => h
  | i :: is, a, X, hp, h => by
    have hlt := hp i List.mem_cons_self
    have hi : l[i]? = some l[i] := List.getElem?_eq_getElem hlt
    unfold pickO pickK pickRL at h
    rw [hi] at h
    have rec_ : ∀ a X, MixMT P l.toArray w0 HB T (pickK ks is) (pickRL rs is) (pickO l is) a X → MixT P l.toArray w0 HB (ks.getD · 2) (rs.getD · (fun _ _ => False)) T is a X := fun a X h => MixMT.seqp is a X (fun j hj => hp j (List.mem_cons_of_mem _ hj)) h
    refine ⟨l[i], by rw [List.getElem?_toArray]; exact hi, ?_⟩
    rcases h with ⟨h1, v, h2, h3⟩ | ⟨h1, h2, h3⟩ | ⟨h1, X0, Y, hq, h2, h3⟩
    · exact .inl ⟨h1, v, h2, rec_ _ _ h3⟩
    · exact .inr (.inl ⟨h1, h2, fun v E hE hR => rec_ _ _ (h3 v E hE hR)⟩)
    · exact .inr (.inr ⟨h1, X0, Y, hq, h2, fun v E hE hR => rec_ _ _ (h3 v E hE hR)⟩)
end
section
variable {P : Program} {ops : Array Oper} {Q : Exit → Act → World → Prop} {n : Sz} {w0 : World} {L L' : List (Nat × Value)} {HB X D : List Ent}
variable {o : Oper} {rest : List Oper} {v u : Value} {x y z : Operand} {k m j : Nat} {t t' e : TypeId} {ks : List Nat} {kd : IntKind} {r : Value → List Ent → Prop} {rs : List (Value → List Ent → Prop)}
def TT (P : Program) (ops : Array Oper) (Q : Exit → Act → World → Prop) (n : Sz) (w0 : World) (HB : List Ent) (ks : List Nat) (rs : List (Value → List Ent → Prop)) (rest : List Oper) (L : List (Nat × Value)) (X : List Ent) : Prop :=
  ∀ a, Fr n L a → MixMT P ops w0 HB (Q .normal) ks rs rest a X
theorem TT.nil (h : TE Q .normal n w0 L (HB ++ X)) : TT P ops Q n w0 HB [] [] [] L X := fun a hf w hs => h a w hf hs
theorem TT.free (hg : Wants n ops L o) (hi : inside n o.dst = true) (h : ∀ Z, Fresh w0 Z → Gets P n w0 o L (HB ++ Z) v) (hr : TT P ops Q n w0 HB ks rs rest (put L o.dst v) X) : TT P ops Q n w0 HB (0 :: ks) (r :: rs) (o :: rest) L X :=
  fun a hf => .inl ⟨rfl, v, fun Z hZ => .inl ⟨hg a hf, fun w hS => by rw [if_pos rfl] at hS ⊢; rw [h Z hZ a w hf hS]; exact ⟨rfl, hS⟩⟩, hr _ (hf.put o.dst v hi)⟩
/-- A call that leaves all known blocks. -/
theorem TT.call0 {f : FuncId} {xs : List Operand} {ts : Array TypeId} {vs : List Value} (hg : Wants n ops L o) (hi : inside n o.dst = true) (h : Enters P f)
    (ho : o.op = .call { callee := .value (.func f), args := xs.toArray, argTypes := ts }) (hx : evs L xs = some vs)
    (hc : ∀ Z w, Fresh w0 Z → St w0 (HB ++ Z) w → Calls P f vs.toArray w fun e w' => e = .returned v ∧ St w [] w')
    (hr : TT P ops Q n w0 HB ks rs rest (put L o.dst v) X) : TT P ops Q n w0 HB (0 :: ks) (r :: rs) (o :: rest) L X :=
  fun a hf => .inl ⟨rfl, v, fun Z hZ => .inl ⟨hg a hf, fun w hS => by
    rw [if_pos rfl] at hS
    rw [run_enter h ho hf hx]
    exact (hc Z w hZ hS).mono fun e w' ⟨he, hw⟩ => ⟨he, by rw [if_pos rfl]; exact hS.call' hw⟩⟩, hr _ (hf.put o.dst v hi)⟩
/-- A call that makes blocks. -/
theorem TT.call {ι : Type} {f : FuncId} {xs : List Operand} {ts : Array TypeId} {vs : List Value} {V : ι → Value} {R : ι → Prop} {E : ι → List Ent} (hg : Wants n ops L o) (hi : inside n o.dst = true) (h : Enters P f)
    (ho : o.op = .call { callee := .value (.func f), args := xs.toArray, argTypes := ts }) (hx : evs L xs = some vs)
    (hc : ∀ Z w, Fresh w0 Z → St w0 (HB ++ Z) w → Calls P f vs.toArray w fun e w' => ∃ i, e = .returned (V i) ∧ R i ∧ Fresh w (E i) ∧ St w (E i) w')
    (hr : ∀ i, R i → Fresh w0 (E i) → TT P ops Q n w0 HB ks rs rest (put L o.dst (V i)) (X ++ E i)) : TT P ops Q n w0 HB (3 :: ks) ((fun v e => ∃ i, R i ∧ v = V i ∧ e = E i) :: rs) (o :: rest) L X :=
  fun a hf => .inr (.inl ⟨rfl, fun Z w hZ hs => ⟨.inr ⟨f, vs.toArray, run_enter h ho hf hx, (hc Z w hZ hs).mono fun e w' ⟨i, he, hR, hE, hs'⟩ => ⟨V i, E i, he, ⟨i, hR, rfl, rfl⟩, hE, hs'⟩⟩, hg a hf⟩,
    fun v e hE ⟨i, hR, h1, h2⟩ => by subst h1; subst h2; exact hr i hR hE _ (hf.put o.dst _ hi)⟩)
theorem TT.buildSlice {len s : Nat} {ps : List (Nat × Operand)} {vs : List (Nat × Value)} {cells : Array Value} {cs : List Value} {zv : Value} (hg : Wants n ops L o) (hi : inside n o.dst = true) (ho : o.op = .buildSlice t len ps.toArray)
    (h1 : P.underlying t = some (.slice e)) (hsz : (P.info? e).map (·.size) = some s) (hz : (P.info? e).bind (·.zero) = some zv) (hv : operVals L ps = some vs) (hlen : len * s ≤ 2 ^ 24) (hpos : (len * s = 0) = False)
    {tot : Nat} (hfill : Instr.fill (fun i => some (i * s, s)) ((Array.range (len * s)).map (zv.cells[· % zv.cells.size]!)) vs = some cells) (hcs : cells.toList = cs) (htot : cs.length = tot)
    (hr : ∀ g, w0.heap.size ≤ g → TT P ops Q n w0 HB ks rs rest (put L o.dst (.slice (some ⟨g, 0, none⟩) len len)) (X ++ [⟨g, e, cs, tot⟩])) :
    TT P ops Q n w0 HB (3 :: ks) ((fun v d => ∃ g, v = .slice (some ⟨g, 0, none⟩) len len ∧ d = [⟨g, e, cs, tot⟩]) :: rs) (o :: rest) L X :=
  fun a hf => .inr (.inl ⟨rfl, fun Z w hZ hs => by
    have hrun : (execOp a.eval o).run P w = .ok (.value (.slice (some ⟨w.heap.size, 0, none⟩) len len)) (w.alloc (.cells cells e)) := by
      have hm := operVals_eval hf hv
      have hm2 : (ps.map fun (x : Nat × Operand) => match x with | (i, x) => (i, a.eval x)) = vs := hm
      simp only [execOp, ho]
      refine run_value ?_
      simp only [Instr.buildSlice, Sem.run_bind, run_under h1, Result.andThen_ok, run_size hsz, List.map_toArray, hm2]
      rw [if_neg (by omega), if_neg (by simp [hpos])]
      simp only [Sem.run_bind, run_zero hz, Result.andThen_ok, Sem.run_pure, hfill]
      simp [newRow, newObj, Sem.run_bind, Sem.run]
    subst htot
    exact ⟨.inl ⟨_, _, _, hrun, ⟨_, rfl, rfl⟩, fresh_one (Nat.le_refl _), (St.refl w).alloc e cs cells hcs⟩, hg a hf⟩,
    fun v d hE ⟨g, h2, h3⟩ => by subst h2; subst h3; exact hr g (fresh_head hE) _ (hf.put o.dst _ hi)⟩)
theorem TT.emptySlice {s : Nat} (hg : Wants n ops L o) (hi : inside n o.dst = true) (ho : o.op = .buildSlice t 0 #[]) (h1 : P.underlying t = some (.slice e)) (hsz : (P.info? e).map (·.size) = some s)
    (hr : ∀ g, w0.heap.size ≤ g → TT P ops Q n w0 HB ks rs rest (put L o.dst (.slice (some ⟨g, 0, none⟩) 0 0)) (X ++ [⟨g, e, [], 0⟩])) :
    TT P ops Q n w0 HB (3 :: ks) ((fun v d => ∃ g, v = .slice (some ⟨g, 0, none⟩) 0 0 ∧ d = [⟨g, e, [], 0⟩]) :: rs) (o :: rest) L X :=
  fun a hf => .inr (.inl ⟨rfl, fun Z w hZ hs => by
    have hrun : (execOp a.eval o).run P w = .ok (.value (.slice (some ⟨w.heap.size, 0, none⟩) 0 0)) (w.alloc (.cells #[] e)) := by
      simp only [execOp, ho]
      refine run_value ?_
      have hr0 : Array.range 0 = #[] := rfl
      simp [Instr.buildSlice, Sem.run_bind, run_under h1, run_size hsz, Instr.fill, newRow, newObj, Sem.run, hr0]
    exact ⟨.inl ⟨_, _, _, hrun, ⟨_, rfl, rfl⟩, fresh_one (Nat.le_refl _), (St.refl w).alloc e [] #[] rfl⟩, hg a hf⟩,
    fun v d hE ⟨g, h2, h3⟩ => by subst h2; subst h3; exact hr g (fresh_head hE) _ (hf.put o.dst _ hi)⟩)
/-- A value is read out of what is made. -/
theorem TT.reads (hg : Wants n ops L o) (hi : inside n o.dst = true) (hX : Fresh w0 X) (h : ∀ Z, Fresh w0 Z → Gets P n w0 o L (HB ++ (X ++ Z)) v) (hr : TT P ops Q n w0 HB ks rs rest (put L o.dst v) X) :
    TT P ops Q n w0 HB (7 :: ks) ((fun u d => u = v ∧ d = []) :: rs) (o :: rest) L X :=
  fun a hf => .inr (.inr ⟨rfl, X, [], by rw [List.append_nil], fun Z w hZ hs => by
    rw [List.append_nil] at hs
    exact ⟨.inl ⟨v, [], w, h Z hZ a w hf hs, ⟨rfl, rfl⟩, Fresh.nil, by rw [List.append_nil]; exact hs⟩, hg a hf⟩, fun u d _ ⟨h1, h2⟩ => by subst h1; subst h2; rw [List.append_nil]; exact hr _ (hf.put o.dst _ hi)⟩)
end
end Go.Proofs.Ytclmgfcdnokaiaa
/-
  A slice of the call's own whose elements have several cells each: 'append' onto it, in the text's order and in a region that draws its order.
-/
namespace Go.Proofs.Ytclmgfcdnokaiaa
set_option linter.unusedVariables false
set_option linter.unusedSimpArgs false
set_option linter.unusedVariables false
open Go Go.RowKit
section
variable {P : Program} {ops : Array Oper} {Q : Exit → Act → World → Prop} {n : Sz} {w0 : World} {L L' : List (Nat × Value)} {H HB X X0 : List Ent}
variable {o : Oper} {rest : List Oper} {v u : Value} {x y z : Operand} {k m j : Nat} {t t' e : TypeId} {ks : List Nat} {kd : IntKind} {r : Value → List Ent → Prop} {rs : List (Value → List Ent → Prop)}
def OwnS (N : Nat) (t : TypeId) (s : Nat) (v : Value) (n : Nat) (cs : List Value) (He : List Ent) : Prop :=
  cs.length = n * s ∧ ((v = .slice none 0 0 ∧ n = 0 ∧ He = []) ∨ ∃ g cap, v = .slice (some ⟨g, 0, none⟩) n cap ∧ He = [⟨g, t, cs, cap * s⟩] ∧ N ≤ g ∧ n ≤ cap ∧ cap ≤ maxLen)
theorem OwnS.nil (N : Nat) (t : TypeId) (s : Nat) : OwnS N t s (.slice none 0 0) 0 [] [] := ⟨by simp, .inl ⟨rfl, rfl, rfl⟩⟩
theorem OwnS.empty {N g : Nat} {t : TypeId} {s tot : Nat} (h : N ≤ g) (ht : tot = 0 * s) : OwnS N t s (.slice (some ⟨g, 0, none⟩) 0 0) 0 [] [⟨g, t, [], tot⟩] := ⟨by simp, .inr ⟨g, 0, rfl, by rw [ht], h, Nat.le_refl _, by unfold maxLen; omega⟩⟩
theorem OwnS.mono {N N' s nn : Nat} {cs : List Value} {He : List Ent} (h : OwnS N' t s v nn cs He) (hN : N ≤ N') : OwnS N t s v nn cs He := by
  refine ⟨h.1, ?_⟩
  rcases h.2 with h | ⟨g, cap, h1, h2, h3, h4⟩
  · exact .inl h
  · exact .inr ⟨g, cap, h1, h2, Nat.le_trans hN h3, h4⟩
theorem OwnS.new {N s nn : Nat} {cs : List Value} {He : List Ent} (h : OwnS N t s v nn cs He) : ∀ e ∈ He, N ≤ e.g := by
  rcases h.2 with ⟨_, _, rfl⟩ | ⟨g, cap, _, rfl, hN, _⟩
  · intro e he; cases he
  · intro e he; rw [List.mem_singleton.1 he]; exact hN
theorem OwnS.form {N s nn : Nat} {cs : List Value} {He : List Ent} (h : OwnS N t s v nn cs He) : ∃ A c, v = .slice A nn c ∧ nn ≤ c ∧ c ≤ 9223372036854775807 := by
  rcases h.2 with ⟨rfl, rfl, rfl⟩ | ⟨g, cap, rfl, rfl, hN, hc, hm⟩
  · exact ⟨none, 0, rfl, Nat.le_refl _, by omega⟩
  · exact ⟨_, cap, rfl, hc, by unfold maxLen at hm; omega⟩
theorem OwnS.row {w : World} {N s nn : Nat} {cs : List Value} {He : List Ent} (h : OwnS N t s v nn cs He) (hs : ∀ e ∈ He, e.lies w) : w.ownsRow N t s v nn cs := by
  refine ⟨h.1, ?_⟩
  rcases h.2 with ⟨rfl, rfl, rfl⟩ | ⟨g, cap, rfl, rfl, hN, hc, hm⟩
  · exact .inl ⟨rfl, rfl⟩
  · obtain ⟨cur, h1, h2, h3⟩ := hs _ (List.mem_singleton.2 rfl)
    refine .inr ⟨g, cap, cur, rfl, hN, h1, hc, hm, h2, ?_⟩
    rw [← h.1]
    apply List.ext_getElem?
    intro i
    simp only [List.getElem?_take]
    by_cases hi : i < cs.length
    · rw [if_pos hi]
      have := h3 i _ (List.getElem?_eq_getElem hi)
      rw [List.getElem?_eq_getElem hi, Array.getElem?_toList]; exact this
    · rw [if_neg hi, List.getElem?_eq_none (by omega)]
theorem ownS_of_row {w : World} {N s nn : Nat} {cs : List Value} (h : w.ownsRow N t s v nn cs) : ∃ He, OwnS N t s v nn cs He ∧ (He = [] ∨ ∃ e, He = [e] ∧ e.lies w ∧ N ≤ e.g ∧ v.ownBlock = some e.g) := by
  rcases h.2 with ⟨rfl, rfl⟩ | ⟨g, cap, cur, rfl, hN, h1, hc, hm, hsz, ht⟩
  · exact ⟨[], ⟨h.1, .inl ⟨rfl, rfl, rfl⟩⟩, .inl rfl⟩
  · refine ⟨[⟨g, t, cs, cap * s⟩], ⟨h.1, .inr ⟨g, cap, rfl, rfl, hN, hc, hm⟩⟩, .inr ⟨_, rfl, ⟨cur, h1, hsz, ?_⟩, hN, rfl⟩⟩
    intro i u hu
    have hi : i < cs.length := (List.getElem?_eq_some_iff.1 hu).1
    have h2 : (cur.toList.take (nn * s))[i]? = some u := by rw [ht]; exact hu
    rw [← h.1] at h2
    simpa [List.getElem?_take, hi] using h2
/-- Cells that lie somewhere, or none. -/
def SrcV (w : World) (As : Option Addr) (m : Nat) (news : List Value) : Prop := (As = none ∧ m = 0) ∨ ∃ a, As = some a ∧ ∀ j u, news[j]? = some u → w.cell? (a.add j) = some u
theorem run_append_none {w : World} {s nn bytes sc : Nat} {N : Nat} {cs : List Value} {He : List Ent} {zv : Value} {ty : TypeId} (h1 : P.underlying t = some (.slice e)) (hz : (P.info? e).map (fun i => (i.zero, i.size, i.bytes)) = some (some zv, s, bytes)) (h : OwnS N e s v nn cs He) :
    (Builtin.append_ #[t, t] ty #[v, .slice none 0 sc]).run P w = .ok v w := by
  obtain ⟨i, hi1, hi2⟩ := Option.map_eq_some_iff.1 hz
  rcases h.2 with ⟨rfl, rfl, rfl⟩ | ⟨g, cap, rfl, rfl, hN, hc, hm⟩
  · simp [Builtin.append_, Sem.run_bind, run_under h1, sizeOf, typeInfo, hi1, Builtin.firstCells, Builtin.lenOf]
  · simp [Builtin.append_, Sem.run_bind, run_under h1, sizeOf, typeInfo, hi1, Builtin.firstCells, Builtin.lenOf, storeCells, hc]
theorem run_appendS {w : World} {As : Option Addr} {s nn m sc bytes N : Nat} {cs news : List Value} {He : List Ent} {zv : Value} {ty : TypeId} (h1 : P.underlying t = some (.slice e)) (hz : (P.info? e).map (fun i => (i.zero, i.size, i.bytes)) = some (some zv, s, bytes)) (hzc : zv.cells.size = s) (hs0 : 0 < s)
    (hown : OwnS N e s v nn cs He) (hs : St w0 (H ++ He) w) (hN : N ≤ w0.heap.size) (hN2 : w0.heap.size ≤ N) (hl : news.length = m * s) (hsrc : SrcV w As m news) (h1c : ∀ u ∈ news, u.oneCell' = true) (h63 : nn + m ≤ maxLen) (hbytes : (nn + m) * bytes ≤ 140737488355328) (hsc : As = none → sc = sc) :
    ∃ v' w' He', (Builtin.append_ #[t, t] ty #[v, .slice As m sc]).run P w = .ok v' w' ∧ OwnS N e s v' (nn + m) (cs ++ news) He' ∧ St w0 (H ++ He') w' := by
  obtain rfl : N = w0.heap.size := by omega
  rcases hsrc with ⟨rfl, rfl⟩ | ⟨a, rfl, hcells⟩
  · have hn : news = [] := List.length_eq_zero_iff.1 (by rw [hl]; simp)
    subst hn
    exact ⟨v, w, He, run_append_none h1 hz hown, by rw [List.append_nil, Nat.add_zero]; exact hown, hs⟩
  · obtain ⟨i, hi1, hi2⟩ := Option.map_eq_some_iff.1 hz
    simp only [Prod.mk.injEq] at hi2
    obtain ⟨hz1, hz2, hz3⟩ := hi2
    have hrow := hown.row (w := w) hs.right
    obtain ⟨v', w', hrun, hrow', hgrown, hblk0, h6⟩ := run_append_own_at (P := P) w w0.heap.size t ty e i zv s bytes h1 hi1 hz1 hz2 hz3 hzc hs0 v nn cs hrow a m sc news hl hcells h1c h63 hbytes hs.size
    obtain ⟨He', hown', hHe⟩ := ownS_of_row hrow'
    refine ⟨v', w', He', hrun, hown', St.regrow hs hgrown ?_ ?_ ?_ ?_⟩
    · rcases hown.2 with ⟨rfl, _, rfl⟩ | ⟨g, cap, rfl, rfl, _⟩
      · simp
      · simp [Value.ownBlock]
    · rcases hown.2 with ⟨rfl, _, rfl⟩ | ⟨g, cap, rfl, rfl, hN, _⟩
      · simp [Value.ownBlock]
      · simp only [Value.ownBlock]; rintro b hb; cases hb; exact hN
    · rcases hown.2 with ⟨rfl, _, rfl⟩ | ⟨g, cap, rfl, rfl, hN, _⟩
      · simp [Value.ownBlock]
      · intro c hc heq
        simp only [Value.ownBlock, Option.some.injEq] at heq
        exact (List.pairwise_append.1 hs.apart).2.2 c hc _ (List.mem_singleton.2 rfl) heq
    · rcases hHe with h | ⟨d, h, hd, hdN, hdv⟩
      · exact .inl h
      · refine .inr ⟨d, h, hd, hdN, ?_⟩
        rcases h6 with hb | hb
        · left; rw [← hdv, hb]
        · right; have := Option.some.inj (hb.symm.trans hdv); omega
/-- 'append' onto a slice of the call's own. -/
theorem TL.appendS {As : Option Addr} {s nn sc bytes : Nat} {cs news : List Value} {He : List Ent} {zv : Value} (hg : Wants n ops L o) (hi' : inside n o.dst = true) (ho : o.op = .call { callee := .builtin .append, args := #[x, y], argTypes := #[t, t] })
    (h1 : P.underlying t = some (.slice e)) (hz : (P.info? e).map (fun i => (i.zero, i.size, i.bytes)) = some (some zv, s, bytes)) (hzc : zv.cells.size = s) (hs0 : 0 < s)
    (hx : ev L x = some v) (hy : ev L y = some (.slice As m sc)) (hown : OwnS w0.heap.size e s v nn cs He) (hl : news.length = m * s) (hsrc : ∀ w, St w0 (H ++ He) w → SrcV w As m news) (h1c : ∀ u ∈ news, u.oneCell' = true)
    (h63 : nn + m ≤ maxLen) (hbytes : (nn + m) * bytes ≤ 140737488355328)
    (hr : ∀ v' He', OwnS w0.heap.size e s v' (nn + m) (cs ++ news) He' → TL P ops Q n w0 rest (put L o.dst v') (H ++ He')) : TL P ops Q n w0 (o :: rest) L (H ++ He) :=
  fun a w hf hs => wpL_wants hg.nd (hg a hf) fun K hK => by
    obtain ⟨v', w', He', hrun, hown', hst⟩ := run_appendS (P := P) (t := t) (ty := o.type) (sc := sc) h1 hz hzc hs0 hown hs (Nat.le_refl _) (Nat.le_refl _) hl (hsrc w hs) h1c h63 hbytes (fun _ => rfl)
    have hrun' : (execOp a.eval o).run P w = .ok (.value v') w' := by
      simp only [execOp, ho, resolve, invoke, builtin, Sem.run_bind, Sem.run_pure, Result.andThen_ok, List.map_toArray, List.map_cons, List.map_nil, hf.eval hx, hf.eval hy, hrun]
    unfold Oper.wp; rw [hrun']
    exact hK _ _ (hr v' He' hown' _ _ (hf.put o.dst _ hi') hst)
theorem TT.appendS {As : Option Addr} {s nn sc bytes : Nat} {cs news : List Value} {He : List Ent} {zv : Value} (hg : Wants n ops L o) (hi' : inside n o.dst = true) (ho : o.op = .call { callee := .builtin .append, args := #[x, y], argTypes := #[t, t] })
    (h1 : P.underlying t = some (.slice e)) (hz : (P.info? e).map (fun i => (i.zero, i.size, i.bytes)) = some (some zv, s, bytes)) (hzc : zv.cells.size = s) (hs0 : 0 < s)
    (hx : ev L x = some v) (hy : ev L y = some (.slice As m sc)) (hown : OwnS w0.heap.size e s v nn cs He) (hXp : X.Perm (X0 ++ He)) (hl : news.length = m * s)
    (hsrc : ∀ Z w, Fresh w0 Z → St w0 (HB ++ ((X0 ++ He) ++ Z)) w → SrcV w As m news) (h1c : ∀ u ∈ news, u.oneCell' = true)
    (h63 : nn + m ≤ maxLen) (hbytes : (nn + m) * bytes ≤ 140737488355328)
    (hr : ∀ v' He', OwnS w0.heap.size e s v' (nn + m) (cs ++ news) He' → TT P ops Q n w0 HB ks rs rest (put L o.dst v') (X0 ++ He')) :
    TT P ops Q n w0 HB (7 :: ks) ((fun v' d => OwnS w0.heap.size e s v' (nn + m) (cs ++ news) d) :: rs) (o :: rest) L X :=
  fun a hf => .inr (.inr ⟨rfl, X0, He, hXp, fun Z w hZ hs => by
    have hperm : ∀ F : List Ent, (HB ++ ((X0 ++ F) ++ Z)).Perm ((HB ++ (X0 ++ Z)) ++ F) := fun F => by
      rw [List.append_assoc, List.append_assoc]
      refine List.Perm.append_left HB ?_
      rw [List.append_assoc]
      exact List.Perm.append_left X0 List.perm_append_comm
    obtain ⟨v', w', He', hrun, hown', hst⟩ := run_appendS (P := P) (t := t) (ty := o.type) (sc := sc) h1 hz hzc hs0 hown (hs.perm (hperm He)) (Nat.le_refl _) (Nat.le_refl _) hl (hsrc Z w hZ hs) h1c h63 hbytes (fun _ => rfl)
    have hrun' : (execOp a.eval o).run P w = .ok (.value v') w' := by
      simp only [execOp, ho, resolve, invoke, builtin, Sem.run_bind, Sem.run_pure, Result.andThen_ok, List.map_toArray, List.map_cons, List.map_nil, hf.eval hx, hf.eval hy, hrun]
    exact ⟨.inl ⟨v', He', w', hrun', hown', hown'.new, hst.perm (hperm He').symm⟩, hg a hf⟩, fun v' d _ hR => hr v' d hR _ (hf.put o.dst _ hi')⟩)
end
/-- Cells of a block. -/
theorem lies_srcV {w : World} {g t tot m : Nat} {cs : List Value} (h : Ent.lies ⟨g, t, cs, tot⟩ w) : SrcV w (some ⟨g, 0, none⟩) m cs := .inr ⟨_, rfl, fun j u hu => by
  rw [addr_add, Nat.zero_add]; exact h.cell hu⟩
end Go.Proofs.Ytclmgfcdnokaiaa
/-
  Fields: numbers with sizes; what they are written as.
-/
namespace Go.Proofs.Ytclmgfcdnokaiaa
set_option linter.unusedVariables false
set_option linter.unusedSimpArgs false
set_option linter.unusedVariables false
open Go Go.RowKit
/-- A field, as it lies. -/
structure FV where
  x : Int
  n : Int
def NumF (f : FV) : Prop := (0 ≤ f.x ∧ f.x ≤ 18446744073709551615) ∧ (-9223372036854775808 ≤ f.n ∧ f.n ≤ 9223372036854775807)
def NumsF (Fs : List FV) : Prop := ∀ (i : Nat) (f : FV), Fs[i]? = some f → NumF f
def cellsF (f : FV) : List Value := [.int .u64 f.x, .int .i64 f.n]
def RowsF (w : World) (b off : Nat) (Fs : List FV) : Prop := ∀ (i : Nat) (x : FV), Fs[i]? = some x → ∀ j u, (cellsF x)[j]? = some u → w.cell? ⟨b, off + 2 * i + j, none⟩ = some u
def SrcF (w : World) (A : Option Addr) (m : Nat) (Fs : List FV) : Prop := Fs.length = m ∧ (m = 0 ∨ ∃ b off, A = some ⟨b, off, none⟩ ∧ b < w.heap.size ∧ RowsF w b off Fs)
theorem SrcF.at_ {w0 w : World} {H : List Ent} {A : Option Addr} {m : Nat} {Fs : List FV} (h : SrcF w0 A m Fs) (hs : St w0 H w) (hH : ∀ b, b < w0.heap.size → ∀ e ∈ H, e.g ≠ b) : SrcF w A m Fs := by
  refine ⟨h.1, ?_⟩
  rcases h.2 with h | ⟨b, off, hA, hb, hr⟩
  · exact .inl h
  · refine .inr ⟨b, off, hA, Nat.lt_of_lt_of_le hb hs.size, fun i x hx j u hu => ?_⟩
    rw [hs.old_cell (ad := ⟨b, _, none⟩) hb (hH b hb)]
    exact hr i x hx j u hu
theorem SrcF.some_ {w : World} {A : Option Addr} {m i : Nat} {Fs : List FV} (h : SrcF w A m Fs) (hi : i < m) : ∃ b off, A = some ⟨b, off, none⟩ ∧ b < w.heap.size ∧ RowsF w b off Fs := h.2.resolve_left (by omega)
theorem SrcF.get {w : World} {A : Option Addr} {m i : Nat} {Fs : List FV} (h : SrcF w A m Fs) (hi : i < m) : ∃ x, Fs[i]? = some x := ⟨_, List.getElem?_eq_getElem (by rw [h.1]; exact hi)⟩
/-! ### Fields in a slice of the call's own -/
def flatF (Fs : List FV) : List Value := Fs.flatMap cellsF
theorem cellsF_len (x : FV) : (cellsF x).length = 2 := rfl
theorem flatF_app (Fs Es : List FV) : flatF (Fs ++ Es) = flatF Fs ++ flatF Es := by unfold flatF; rw [List.flatMap_append]
theorem flatF_one (x : FV) : flatF [x] = cellsF x := by unfold flatF; simp
theorem flatF_get : ∀ {Fs : List FV} {i : Nat} {x : FV} {j : Nat} {u : Value}, Fs[i]? = some x → (cellsF x)[j]? = some u → (flatF Fs)[2 * i + j]? = some u
  | [], i, x, j, u, h, _ => by simp at h
  | y :: l, 0, x, j, u, h, hu => by
    simp at h; subst h
    have hj : j < 2 := by have := (List.getElem?_eq_some_iff.1 hu).1; rw [cellsF_len] at this; exact this
    show (flatF ([y] ++ l))[2 * 0 + j]? = some u
    rw [flatF_app, flatF_one, List.getElem?_append_left (by rw [cellsF_len]; omega), Nat.mul_zero, Nat.zero_add]; exact hu
  | y :: l, i + 1, x, j, u, h, hu => by
    simp at h
    show (flatF ([y] ++ l))[2 * (i + 1) + j]? = some u
    rw [flatF_app, flatF_one, List.getElem?_append_right (by rw [cellsF_len]; omega), cellsF_len]
    have := flatF_get (Fs := l) h hu
    rw [← this]; congr 1; omega
/-! ### Blocks and results -/
theorem calls_yes {Pr : Program} {f : FuncId} {args : Array Value} {w : World} {p : Prop} [Decidable p] (hp : p) (h : Calls Pr f args w fun e w' => e = .returned (.bool (decide p)) ∧ St w [] w') : Calls Pr f args w fun e w' => e = .returned (.bool true) ∧ St w [] w' := by
  rw [decide_eq_true hp] at h; exact h
/-- The rounds of 'fields'. -/
structure WF where
  i : Nat
  v1 : Value
  H1 : List Ent
  v2 : Value
  W : List Int
  H2 : List Ent
/-! ### The mathematics -/
/-- A number fits its size. -/
def fitV (x n : Int) : Prop := 1 ≤ n ∧ n ≤ 8 ∧ (n = 8 ∨ shrI .u64 x (8 * n) = 0)
instance (x n : Int) : Decidable (fitV x n) := by unfold fitV; infer_instance
/-- The first k of the bytes of a number of size n. -/
def beP (x n : Int) (k : Nat) : List Int := (List.range k).map fun (i : Nat) => IntKind.u8.wrap (shrI .u64 x (8 * n - 8 * (i : Int) - 8))
def beV (x n : Int) : List Int := beP x n n.toNat
theorem beP_len (x n : Int) (k : Nat) : (beP x n k).length = k := by simp [beP]
theorem beP_zero (x n : Int) : beP x n 0 = [] := rfl
theorem beP_succ (x n : Int) (k : Nat) : beP x n (k + 1) = beP x n k ++ [IntKind.u8.wrap (shrI .u64 x (8 * n - 8 * (k : Int) - 8))] := by
  unfold beP; rw [List.range_succ, List.map_append]; rfl
theorem beV_len (x n : Int) : (beV x n).length = n.toNat := beP_len x n _
/-- A slice of the call's own, and how far it is. -/
structure WN where
  k : Nat
  v : Value
  He : List Ent
/-- What fields are written as. -/
def encF : List FV → List Int
  | [] => []
  | f :: l => beV f.x f.n ++ encF l
def fitAll (Fs : List FV) : Prop := ∀ f ∈ Fs, fitV f.x f.n
theorem encF_app (Fs Gs : List FV) : encF (Fs ++ Gs) = encF Fs ++ encF Gs := by
  induction Fs with
  | nil => rfl
  | cons f l ih => simp [encF, ih]
theorem encF_one (f : FV) : encF [f] = beV f.x f.n := by simp [encF]
theorem take_one {α : Type} {Fs : List α} {i : Nat} {f : α} (h : Fs[i]? = some f) : Fs.take (i + 1) = Fs.take i ++ [f] := by rw [List.take_add_one, h, Option.toList_some]
theorem encF_take {Fs : List FV} {i : Nat} {f : FV} (h : Fs[i]? = some f) : encF (Fs.take (i + 1)) = encF (Fs.take i) ++ beV f.x f.n := by
  rw [List.take_add_one, h, Option.toList_some, encF_app, encF_one]
theorem encF_le {Fs : List FV} (h : fitAll Fs) : (encF Fs).length ≤ 8 * Fs.length := by
  induction Fs with
  | nil => simp [encF]
  | cons f l ih =>
    have h1 := h f List.mem_cons_self
    have h2 := ih (fun g hg => h g (List.mem_cons_of_mem _ hg))
    unfold fitV at h1
    simp only [encF, List.length_append, beV_len, List.length_cons]; omega
/-- The fields before the first that does not fit. -/
def fitAllB (Fs : List FV) : Bool := Fs.all fun f => decide (fitV f.x f.n)
theorem fitAllB_iff (Fs : List FV) : fitAllB Fs = true ↔ fitAll Fs := by
  unfold fitAllB fitAll; rw [List.all_eq_true]; simp
instance (Fs : List FV) : Decidable (fitAll Fs) := decidable_of_iff _ (fitAllB_iff Fs)
theorem fitAll_nil : fitAll [] := fun f hf => by cases hf
theorem fitAll_take {Fs : List FV} {i : Nat} {f : FV} (h : Fs[i]? = some f) : fitAll (Fs.take (i + 1)) ↔ fitAll (Fs.take i) ∧ fitV f.x f.n := by
  unfold fitAll
  rw [List.take_add_one, h, Option.toList_some]
  constructor
  · intro H; exact ⟨fun g hg => H g (List.mem_append_left _ hg), H f (List.mem_append_right _ (List.mem_singleton.2 rfl))⟩
  · rintro ⟨h1, h2⟩ g hg
    rcases List.mem_append.1 hg with hg | hg
    · exact h1 g hg
    · rw [List.mem_singleton.1 hg]; exact h2
end Go.Proofs.Ytclmgfcdnokaiaa
/-
  A number that is written and read back.
-/
namespace Go.Proofs.Ytclmgfcdnokaiaa
set_option linter.unusedVariables false
set_option linter.unusedSimpArgs false
set_option linter.unusedVariables false
open Go Go.RowKit
/-- The number that bytes are. -/
def valB (B : List Int) : Int := B.foldl (fun a b => 256 * a + b) 0
theorem valB_snoc (B : List Int) (b : Int) : valB (B ++ [b]) = 256 * valB B + b := by unfold valB; rw [List.foldl_append]; rfl
theorem shr_nat {x q : Nat} (hq : q ≤ 64) : shrI .u64 (x : Int) (q : Int) = ((x / 2 ^ q : Nat) : Int) := by
  have hm : min q IntKind.u64.bits = q := Nat.min_eq_left hq
  unfold shrI
  rw [Int.toNat_natCast, hm, Int.fdiv_eq_ediv_of_nonneg _ (Int.le_of_lt (Int.pow_pos (by decide))), Int.natCast_ediv, Int.natCast_pow]; rfl
theorem wrap8_nat (y : Nat) : IntKind.u8.wrap (y : Int) = ((y % 256 : Nat) : Int) := by
  simp [IntKind.wrap, IntKind.signed, IntKind.bits]
theorem val_be {x n : Nat} (hn : n ≤ 8) : ∀ k, k ≤ n → valB (beP (x : Int) (n : Int) k) = ((x / 2 ^ (8 * n - 8 * k) % 256 ^ k : Nat) : Int)
  | 0, _ => by simp [beP, valB, Nat.mod_one]
  | k + 1, hk => by
    have ih := val_be (x := x) hn k (by omega)
    rw [beP_succ, valB_snoc, ih]
    have hq : (8 * (n : Int) - 8 * (k : Int) - 8) = ((8 * n - 8 * (k + 1) : Nat) : Int) := by omega
    rw [hq, shr_nat (by omega), wrap8_nat]
    have h1 : x / 2 ^ (8 * n - 8 * k) = x / 2 ^ (8 * n - 8 * (k + 1)) / 256 := by
      rw [Nat.div_div_eq_div_mul, show (256 : Nat) = 2 ^ 8 by rfl, ← Nat.pow_add, show 8 * n - 8 * (k + 1) + 8 = 8 * n - 8 * k by omega]
    rw [h1, show (256 : Nat) ^ (k + 1) = 256 * 256 ^ k by rw [Nat.pow_succ, Nat.mul_comm], Nat.mod_mul]
    generalize x / 2 ^ (8 * n - 8 * (k + 1)) = y
    generalize y / 256 % 256 ^ k = z
    omega
theorem val_beV {x n : Int} (hx : 0 ≤ x ∧ x ≤ 18446744073709551615) (hf : fitV x n) : valB (beV x n) = x := by
  obtain ⟨h1, h2, h3⟩ := hf
  obtain ⟨y, rfl⟩ := Int.eq_ofNat_of_zero_le hx.1
  obtain ⟨m, rfl⟩ := Int.eq_ofNat_of_zero_le (show 0 ≤ n by omega)
  unfold beV
  rw [Int.toNat_natCast, val_be (by omega) m (Nat.le_refl _), Nat.sub_self, Nat.pow_zero, Nat.div_one]
  congr 1
  apply Nat.mod_eq_of_lt
  rw [show (256 : Nat) = 2 ^ 8 by rfl, ← Nat.pow_mul]
  rcases h3 with h3 | h3
  · have : m = 8 := by omega
    subst this
    omega
  · rw [show (8 * (m : Int)) = ((8 * m : Nat) : Int) by omega, shr_nat (by omega)] at h3
    have h4 : y / 2 ^ (8 * m) = 0 := by omega
    exact (Nat.div_eq_zero_iff_lt (Nat.pow_pos (by omega))).1 h4
end Go.Proofs.Ytclmgfcdnokaiaa
/-
  Two arrays of numbers, compared.
-/
namespace Go.Proofs.Ytclmgfcdnokaiaa
set_option linter.unusedVariables false
set_option linter.unusedSimpArgs false
set_option linter.unusedVariables false
open Go Go.RowKit
section
variable {P : Program} {ops : Array Oper} {Q : Exit → Act → World → Prop} {n : Sz} {w0 : World} {L L' : List (Nat × Value)} {H : List Ent}
variable {o : Oper} {rest : List Oper} {v u : Value} {x y z : Operand} {k m j : Nat} {t t' e : TypeId} {ks : List Nat} {kd : IntKind} {p q : Int}
theorem eqIn_int2 (d : Nat) (h1 : P.underlying e = some (.int kd)) (a b : Int) (w : World) : (Op.equalIn (d + 1) e (.int kd a) (.int kd b)).run P w = .ok (a == b) w := by
  simp [Op.equalIn, Sem.run_bind, run_under h1]
theorem all_eq {W V : List Int} {len : Nat} (hW : W.length = len) (hV : V.length = len) : (List.range' 0 len).all (fun i => W.getD i 0 == V.getD i 0) = decide (W = V) := by
  by_cases h : W = V
  · subst h
    rw [decide_eq_true rfl]
    exact List.all_eq_true.2 fun i _ => by simp
  · rw [decide_eq_false h]
    refine Bool.eq_false_iff.2 fun ha => h ?_
    refine list_of_getD (hW.trans hV.symm) fun i hi => ?_
    have := List.all_eq_true.1 ha i (List.mem_range'_1.2 ⟨by omega, by omega⟩)
    simpa using this
theorem eqIn_arr2 (d : Nat) {len : Nat} {W V : List Int} (h1 : P.underlying t = some (.array len e)) (h2 : P.underlying e = some (.int kd)) (hsz : (P.info? e).map (·.size) = some 1) (hW : W.length = len) (hV : V.length = len) (w : World) :
    (Op.equalIn (d + 1 + 1) t (.agg (W.map (Value.int kd)).toArray) (.agg (V.map (Value.int kd)).toArray)).run P w = .ok (decide (W = V)) w := by
  have hag := isAgg_no h2 rfl
  unfold Op.equalIn
  simp only [Sem.run_bind, run_under h1, Result.andThen_ok, run_size hsz]
  simp only [Std.Legacy.Range.forIn_eq_forIn_range', Std.Legacy.Range.size, Nat.sub_zero, Nat.add_one_sub_one, Nat.div_one]
  have key : ∀ (l : List Nat), (∀ i ∈ l, i < len) → ((forIn l ((none, ()) : Option Bool × Unit) fun i r => do
      if !(← Op.equalIn (d + 1) e (← part e (W.map (Value.int kd)).toArray (i * 1)) (← part e (V.map (Value.int kd)).toArray (i * 1))) then
        pure (ForInStep.done (some false, ()))
      else pure (ForInStep.yield (none, ()))) : Sem (Option Bool × Unit)).run P w = .ok (if l.all (fun i => W.getD i 0 == V.getD i 0) then (none, ()) else (some false, ())) w := by
    intro l
    induction l with
    | nil => intro _; rfl
    | cons i l ih =>
      intro hi
      have hil : i < W.length := by rw [hW]; exact hi i (by simp)
      have hiv : i < V.length := by rw [hV]; exact hi i (by simp)
      have hp := run_part1 (P := P) (e := e) (cs := (W.map (Value.int kd)).toArray) (i := i * 1) (v := .int kd (W.getD i 0)) hag (by simp [hil]) w
      have hq := run_part1 (P := P) (e := e) (cs := (V.map (Value.int kd)).toArray) (i := i * 1) (v := .int kd (V.getD i 0)) hag (by simp [hiv]) w
      simp only [List.forIn_cons, Sem.run_bind, hp, hq, Result.andThen_ok, eqIn_int2 d h2, List.all_cons]
      by_cases hb : W.getD i 0 = V.getD i 0
      · have hb2 : (W.getD i 0 == V.getD i 0) = true := by simpa using hb
        simp only [hb2, Bool.not_true, Bool.false_eq_true, if_false, Sem.run_pure, Result.andThen_ok, Bool.true_and]
        exact ih fun j hj => hi j (by simp [hj])
      · have hb2 : (W.getD i 0 == V.getD i 0) = false := by simpa using hb
        simp only [hb2, Bool.not_false, if_true, Sem.run_pure, Result.andThen_ok, Bool.false_and, Bool.false_eq_true, if_false]
  rw [key (List.range' 0 len) (fun i hi => by have := List.mem_range'_1.1 hi; omega), all_eq hW hV]
  by_cases h : W = V
  · rw [decide_eq_true h]; rfl
  · rw [decide_eq_false h]; rfl
theorem Gets.arrEq {len : Nat} {W V : List Int} (ho : o.op = .binOp .eql t x y t') (h1 : P.underlying t = some (.array len e)) (h2 : P.underlying e = some (.int kd)) (hsz : (P.info? e).map (·.size) = some 1) (hgt : P.eqGuardType P.depth t = false)
    (hx : ev L x = some (.agg (W.map (Value.int kd)).toArray)) (hy : ev L y = some (.agg (V.map (Value.int kd)).toArray)) (hW : W.length = len) (hV : V.length = len) : Gets P n w0 o L H (.bool (decide (W = V))) := fun a w hf hs => by
  simp only [execOp, ho, hf.eval hx, hf.eval hy]
  refine run_value ?_
  have h3 := eqIn_arr2 (P := P) 9998 h1 h2 hsz hW hV w
  have h4 : ∀ c d : Value, Op.equal t c d = Op.equalIn (9998 + 1 + 1) t c d := fun _ _ => rfl
  simp only [Sem.run_bind, run_noGuard hgt, Result.andThen_ok, binOp, h4]
  generalize Op.equalIn (9998 + 1 + 1) t (.agg (W.map (Value.int kd)).toArray) (.agg (V.map (Value.int kd)).toArray) = s at *
  simp [h3]
end
theorem seg_mid {A B C : List Value} {a : Nat} (ha : A.length = a) : ((A ++ (B ++ C)).drop a).take B.length = B := by subst ha; simp
end Go.Proofs.Ytclmgfcdnokaiaa
/-
  Steps that need no word: what an operation gets is found by its form.
-/
namespace Go.Proofs.Ytclmgfcdnokaiaa
set_option linter.unusedVariables false
set_option linter.unusedSimpArgs false
set_option linter.unusedVariables false
open Go Go.RowKit
class Sli (P : Program) (t : TypeId) (e : outParam TypeId) : Prop where
  h : P.underlying t = some (.slice e)
class Siz (P : Program) (t : TypeId) (s : outParam Nat) : Prop where
  h : (P.info? t).map (·.size) = some s
class AgY (P : Program) (t : TypeId) : Prop where
  h : (isAgg t).run P = fun w => .ok true w
class AgN (P : Program) (t : TypeId) : Prop where
  h : (isAgg t).run P = fun w => .ok false w
class Fld (P : Program) (t : TypeId) (f : Nat) (k : outParam Nat) : Prop where
  h : ∃ fields fl s, P.underlying t = some (.struct fields) ∧ fields[f]? = some fl ∧ (P.info? fl.type).map (·.size) = some (s + 1) ∧ fl.offset = k
class Zer (P : Program) (t : TypeId) (cs : outParam (List Value)) : Prop where
  h : ∃ zv, (P.info? t).bind (·.zero) = some zv ∧ zv.cells.toList = cs
inductive SelI : List Nat → List (Nat × Value) → List (Nat × Value) → Prop
  | nil {L : List (Nat × Value)} : SelI [] L []
  | cons {k : Nat} {ks : List Nat} {L : List (Nat × Value)} {v : Value} {L' : List (Nat × Value)} (h : look L k = some v) (hr : SelI ks L L') : SelI (k :: ks) L ((k, v) :: L')
inductive SetI : List Ent → Nat → Ent → List Ent → Prop
  | zero {a : Ent} {l : List Ent} {e : Ent} : SetI (a :: l) 0 e (e :: l)
  | succ {a : Ent} {l : List Ent} {i : Nat} {e : Ent} {l' : List Ent} (h : SetI l i e l') : SetI (a :: l) (i + 1) e (a :: l')
section
variable {P : Program} {ops : Array Oper} {Q : Exit → Act → World → Prop} {n : Sz} {w0 : World} {L L' : List (Nat × Value)} {H H' : List Ent}
variable {o : Oper} {rest : List Oper} {v u : Value} {x y z : Operand} {k m j : Nat} {t t' e : TypeId} {kd : IntKind} {p q : Int}
theorem Gets.fa0 {f b : Nat} [F : Fld P t f k] (ho : o.op = .fieldAddr t x f) (hx : ev L x = some (.pointer (some ⟨b, 0, none⟩))) : Gets P n w0 o L H (.pointer (some ⟨b, k, none⟩)) := by
  obtain ⟨fields, fl, s, h1, h2, h3, h4⟩ := F.h
  exact Gets.fieldAddr ho h1 h2 h3 hx (by omega)
theorem dl66 {a b s : Value} {H1 H2 : List Int} {kd : IntKind} (h1 : H1.length = 32) (h2 : H2.length = 32) : ([a, b] ++ (H1.map (Value.int kd) ++ (H2.map (Value.int kd) ++ [s])))[66]? = some s :=
  app_right (a := 2) (i := 64) rfl (app_right (a := 32) (i := 32) (ints_len h1) (app_right (a := 32) (i := 0) (ints_len h2) rfl))
theorem Gets.loadD {b off s : Nat} {vs : List Value} (ho : o.op = .load t x) (hag : (isAgg t).run P = fun w => .ok true w) (hsz : (P.info? t).map (·.size) = some s) (hx : ev L x = some (.pointer (some ⟨b, off, none⟩))) (hc : Row w0 H b off vs) (hl : vs.length = s) : Gets P n w0 o L H (.agg vs.toArray) := Gets.loadN ho hag hsz hx hl hc
theorem dlLen {a b s : Value} {H1 H2 : List Int} {kd : IntKind} (h1 : H1.length = 32) (h2 : H2.length = 32) : ([a, b] ++ (H1.map (Value.int kd) ++ (H2.map (Value.int kd) ++ [s]))).length = 67 := by simp [h1, h2]
/-- An operation is passed, or it ends with v and leaves the world. -/
def Stp (P : Program) (ops : Array Oper) (n : Sz) (w0 : World) (o : Oper) (L : List (Nat × Value)) (H : List Ent) (v : Value) : Prop :=
  inside n o.dst = true ∧ ((Wants n ops L o ∧ Gets P n w0 o L H v) ∨ (v = undef ∧ ∀ a, Fr n L a → Region.wanted o (yielded ops a.tmps) = false))
theorem Stp.g (hg : Wants n ops L o) (hi : inside n o.dst = true) (h : Gets P n w0 o L H v) : Stp P ops n w0 o L H v := ⟨hi, .inl ⟨hg, h⟩⟩
theorem Stp.ps {d : Nat} {b c : Bool} (h : o.guard = some (j, c)) (hj : (ops[j]?).bind (·.dst) = some d) (hd : look L d = some (.bool b)) (hi : inside n o.dst = true) (hb : b = !c) : Stp P ops n w0 o L H undef :=
  ⟨hi, .inr ⟨rfl, fun a hf => by subst hb; simp [Region.wanted, h, guard_val hf hj hd]⟩⟩
theorem Stp.pu {d : Nat} {c : Bool} (h : o.guard = some (j, c)) (hj : (ops[j]?).bind (·.dst) = some d) (hd : look L d = some undef) (hi : inside n o.dst = true) : Stp P ops n w0 o L H undef :=
  ⟨hi, .inr ⟨rfl, fun a hf => by simp [Region.wanted, h, guard_undef hf hj hd]⟩⟩
theorem TL.stp (h : Stp P ops n w0 o L H v) (hr : TL P ops Q n w0 rest (put L o.dst v) H) : TL P ops Q n w0 (o :: rest) L H := by
  obtain ⟨hi, ⟨hg, hgt⟩ | ⟨rfl, hw⟩⟩ := h
  · exact TL.gets hg hi hgt hr
  · exact fun a w hf hs => wpL_pass (hw a hf) (hr _ _ (hf.put o.dst undef hi) hs)
/-- A value, found by its form. -/
theorem Gets.au (h : Gets P n w0 o L H v := by
    first
    | exact Gets.move rfl rfl
    | exact Gets.assign rfl rfl
    | exact Gets.fa0 rfl rfl
    | exact Gets.load1 rfl AgN.h rfl (by first | exact At.ent (i := 0) rfl rfl rfl | exact At.ent (i := 1) rfl rfl rfl | exact At.ent (i := 2) rfl rfl rfl | exact At.ent (i := 3) rfl rfl rfl | exact At.ent (i := 4) rfl rfl rfl | exact At.ent (i := 5) rfl rfl rfl | exact At.ent (i := 0) rfl rfl (dl66 (by assumption) (by assumption)) | exact At.ent (i := 1) rfl rfl (dl66 (by assumption) (by assumption)) | exact At.ent (i := 2) rfl rfl (dl66 (by assumption) (by assumption)) | exact At.ent (i := 3) rfl rfl (dl66 (by assumption) (by assumption)))
    | exact Gets.loadN rfl AgY.h Siz.h rfl rfl (by first | exact Row.all (i := 0) rfl rfl rfl | exact Row.all (i := 1) rfl rfl rfl | exact Row.all (i := 2) rfl rfl rfl | exact Row.all (i := 3) rfl rfl rfl | exact Row.all (i := 4) rfl rfl rfl | exact Row.all (i := 5) rfl rfl rfl)
    | exact Gets.loadD rfl AgY.h Siz.h rfl (by first | exact Row.all (i := 0) rfl rfl rfl | exact Row.all (i := 1) rfl rfl rfl | exact Row.all (i := 2) rfl rfl rfl | exact Row.all (i := 3) rfl rfl rfl) (dlLen (by assumption) (by assumption))
    | exact Gets.pickT rfl rfl rfl
    | exact Gets.pickF rfl rfl rfl
    | exact Gets.notP rfl rfl
    | exact Gets.not rfl rfl
    | exact Gets.lss rfl rfl rfl
    | exact Gets.eql rfl rfl rfl
    | exact Gets.neq rfl rfl rfl
    | exact Gets.leq rfl rfl rfl
    | exact Gets.gtr rfl rfl rfl
    | exact Gets.geq rfl rfl rfl
    | exact Gets.lenSlice rfl Sli.h rfl
    | exact Gets.extract rfl rfl rfl) : Gets P n w0 o L H v := h
theorem Wants.au (h : Wants n ops L o := by first | exact Wants.none rfl | exact Wants.yes rfl rfl rfl) : Wants n ops L o := h
theorem SelI.sub {ks : List Nat} (h : SelI ks L L') : Sub L' L := by
  induction h with
  | nil => exact Sub.nil
  | cons h _ ih => exact Sub.cons h ih
theorem TC.pr {c : Code} (ks : List Nat) (hr : TC P Q n w0 c L' H) (h : SelI ks L L' := by repeat (first | exact SelI.nil | exact rfl | apply SelI.cons)) : TC P Q n w0 c L H := TC.sub h.sub hr
theorem SetI.eq {e : Ent} {i : Nat} (h : SetI H i e H') : H.set i e = H' := by
  induction h with
  | zero => rfl
  | succ _ ih => rw [List.set_cons_succ, ih]
theorem ones_all {vs : List Value} (h : vs.all (·.oneCell') = true) : ∀ u ∈ vs, u.oneCell' = true := fun u hu => List.all_eq_true.1 h u hu
/-- A whole block of known cells is written anew. -/
theorem TL.bxA {cs : List Value} {tot : Nat} (hr : ∀ g, w0.heap.size ≤ g → TL P ops Q n w0 rest (put L o.dst (.pointer (some ⟨g, 0, none⟩))) (⟨g, t, cs, tot⟩ :: H)) (hg : Wants n ops L o := by exact Wants.none rfl) (hi : inside n o.dst = true := by rfl) (ho : o.op = .box t x := by rfl) (hx : ev L x = some (.agg cs.toArray) := by rfl)
    (htot : cs.length = tot := by rfl) : TL P ops Q n w0 (o :: rest) L H := TL.box hg hi ho hx (by simp [Value.cells]) htot hr
theorem TL.al {cs : List Value} {tot : Nat} [Z : Zer P t cs] (hr : ∀ g, w0.heap.size ≤ g → TL P ops Q n w0 rest (put L o.dst (.pointer (some ⟨g, 0, none⟩))) (⟨g, t, cs, tot⟩ :: H)) (hg : Wants n ops L o := by exact Wants.none rfl) (hi : inside n o.dst = true := by rfl) (ho : o.op = .alloc t := by rfl)
    (htot : cs.length = tot := by rfl) : TL P ops Q n w0 (o :: rest) L H := by
  obtain ⟨zv, h1, h2⟩ := Z.h
  exact TL.alloc hg hi ho h1 h2 htot hr
theorem TL.sW {g s : Nat} {ent : Ent} {vs : List Value} (i : Nat) [hsz : Siz P t s] (ho : o.op = .store t x y) (hd : o.dst = none) (hx : ev L x = some (.pointer (some ⟨g, 0, none⟩))) (hi : H[i]? = some ent) (he : ent.g = g) (hy : ev L y = some (.agg vs.toArray)) (hl : vs.length = s) (h1 : vs.all (·.oneCell') = true) (hoff : ent.cs.length = s)
    (hH : SetI H i ⟨ent.g, ent.t, vs, ent.tot⟩ H') (hg : Wants n ops L o) (hr : TL P ops Q n w0 rest L H') : TL P ops Q n w0 (o :: rest) L H := TL.storeW hg hd ho hsz.h hx hy hl (ones_all h1) hi he hoff hH.eq hr
theorem TE.thenm {m : Md} {y : Code} {Q' : Exit → Act → World → Prop} (hm : n.md = m) (h : TC P Q n w0 y L H) : TE (Exit.then (wpn m P y Q) Q') .normal n w0 L H := by subst hm; exact TE.then h
/-- One step, found by its form. -/
theorem gx {A B : Prop} (b : B) (h : B → A := by
    first
    | with_reducible exact TL.nil
    | with_reducible exact TC.regionL
    | with_reducible exact TC.seq
    | with_reducible exact TC.block
    | with_reducible exact TC.skip
    | with_reducible exact TC.ret
    | with_reducible exact TC.exit
    | with_reducible exact TE.thenm (by with_unfolding_all exact rfl)
    | with_reducible exact TE.thenR
    | with_reducible exact TE.thenX
    | with_reducible exact TE.blockN
    | with_reducible exact TE.blockR
    | with_reducible exact TE.blockX
    | exact TL.gets Wants.au rfl Gets.au
    | exact TL.stp (Stp.ps rfl rfl rfl rfl rfl)
    | exact TL.stp (Stp.pu rfl rfl rfl rfl)
    | exact TL.sW 0 rfl rfl rfl rfl rfl rfl rfl rfl rfl (by repeat (first | exact SetI.zero | apply SetI.succ)) Wants.au
    | exact TL.sW 1 rfl rfl rfl rfl rfl rfl rfl rfl rfl (by repeat (first | exact SetI.zero | apply SetI.succ)) Wants.au
    | exact TL.sW 2 rfl rfl rfl rfl rfl rfl rfl rfl rfl (by repeat (first | exact SetI.zero | apply SetI.succ)) Wants.au
    | exact TL.sW 3 rfl rfl rfl rfl rfl rfl rfl rfl rfl (by repeat (first | exact SetI.zero | apply SetI.succ)) Wants.au
    | exact TL.sW 4 rfl rfl rfl rfl rfl rfl rfl rfl rfl (by repeat (first | exact SetI.zero | apply SetI.succ)) Wants.au
    | exact TL.sW 5 rfl rfl rfl rfl rfl rfl rfl rfl rfl (by repeat (first | exact SetI.zero | apply SetI.succ)) Wants.au
    | exact TM.nil
    | exact TR.nil
    | exact TM.free Wants.au rfl (fun _ => Gets.au)
    | exact TM.gets Wants.au rfl Gets.au
    | exact TR.free Wants.au rfl (fun _ => Gets.au)
    | exact TR.gets Wants.au rfl (fun _ _ => Gets.au)) : A := h b
/-- All blocks that a call has made are forgotten. -/
inductive Own_ (w0 : World) : List Ent → Prop
  | nil : Own_ w0 []
  | cons {e : Ent} {H : List Ent} (h : w0.heap.size ≤ e.g) (hr : Own_ w0 H) : Own_ w0 (e :: H)
end
end Go.Proofs.Ytclmgfcdnokaiaa
/-
  A region that draws its order, with operations that make memory and others that read what stays as it is all along.
-/
namespace Go.Proofs.Ytclmgfcdnokaiaa
set_option linter.unusedVariables false
set_option linter.unusedSimpArgs false
set_option linter.unusedVariables false
open Go Go.RowKit
section
variable {P : Program} {ops : Array Oper} {md : Region.Mode}
def compatB (i j : Nat) : Bool := (compat3 i j && !Nat.beq i 7 && !Nat.beq j 7 && !Nat.beq i 8 && !Nat.beq j 8) || (Nat.beq i 0 && Nat.beq j 8)
def pairsOK9 (f : Nat → Nat → Bool) : List Nat → Bool
  | [] => true
  | i :: is => is.all (f i) && pairsOK9 f is
theorem pairsOK_spec9 {f : Nat → Nat → Bool} : ∀ {is : List Nat}, pairsOK9 f is = true → is.Pairwise (fun i j => f i j = true)
  | [], _ => .nil
  | i :: is, h => by
    unfold pairsOK9 at h
    simp only [Bool.and_eq_true, List.all_eq_true] at h
    exact .cons h.1 (pairsOK_spec9 h.2)
/-- i may stand before j. -/
def pairOK9 (md : Region.Mode) (ops : Array Oper) (ks ms : List Nat) (i j : Nat) : Bool :=
  !Nat.beq i j &&
  ((ms.getD j 0).testBit i || (match ops[i]? with
    | some oi => (match ops[j]? with | some oj => oi.apart ops oj && compatB (ks.getD i 2) (ks.getD j 2) | none => true)
    | none => true)) &&
  (match ops[i]? with | some oi => oi.after.all (fun e => !Region.binds md e || !Nat.beq e.on j) | none => true)
def mixOKp9 (md : Region.Mode) (ops : Array Oper) (ks p : List Nat) : Bool :=
  Region.noSelect ops && Nat.beq p.length ops.size && ((List.range ops.size).all fun q => p.any (Nat.beq q)) &&
  (let ms := masks md ops
   p.all (fun i => decide (i < ops.size) && (match ops[i]? with | some oi => oi.after.all (fun e => !Region.binds md e || (!Nat.beq e.on i && decide (e.on < ops.size))) | none => true)) &&
   pairsOK9 (pairOK9 md ops ks ms) p)
def PairP9 (md : Region.Mode) (ops : Array Oper) (ks : List Nat) (i j : Nat) : Prop :=
  i ≠ j ∧ (∀ oi oj, ops[i]? = some oi → ops[j]? = some oj → Before md ops j i ∨ (oi.apart ops oj = true ∧ compatB (ks.getD i 2) (ks.getD j 2) = true)) ∧
  ∀ oi, ops[i]? = some oi → ∀ e ∈ oi.after, Region.binds md e = true → e.on ≠ j
theorem nbeq_ne9 {a b : Nat} (h : Nat.beq a b = false) : a ≠ b := fun e => by
  subst e
  rw [Nat.beq_refl] at h
  cases h
theorem pairOK_spec9 {ks : List Nat} {i j : Nat} (h : pairOK9 md ops ks (masks md ops) i j = true) : PairP9 md ops ks i j := by
  unfold pairOK9 at h
  simp only [Bool.and_eq_true, Bool.or_eq_true, Bool.not_eq_true'] at h
  obtain ⟨⟨h1, h2⟩, h3⟩ := h
  refine ⟨nbeq_ne9 h1, fun oi oj hi hj => ?_, fun oi hi e he hb => ?_⟩
  · rcases h2 with h2 | h2
    · exact .inl (masks_spec h2)
    · rw [hi, hj] at h2
      simp only [Bool.and_eq_true] at h2
      exact .inr h2
  · rw [hi] at h3
    simp only [Array.all_eq_true_iff_forall_mem, Bool.or_eq_true, Bool.not_eq_true'] at h3
    exact nbeq_ne9 ((h3 e he).resolve_left (by simp [hb]))
theorem mixOKp_spec9 {ks p : List Nat} (h : mixOKp9 md ops ks p = true) : Region.noSelect ops = true ∧ p.length = ops.size ∧ (∀ q, q < ops.size → q ∈ p) ∧
    (∀ i ∈ p, i < ops.size ∧ ∀ oi, ops[i]? = some oi → ∀ e ∈ oi.after, Region.binds md e = true → e.on ≠ i ∧ e.on < ops.size) ∧ p.Pairwise (PairP9 md ops ks) := by
  unfold mixOKp9 at h
  simp only [Bool.and_eq_true, List.all_eq_true, decide_eq_true_eq] at h
  obtain ⟨⟨⟨h1, h2⟩, h7⟩, h3, h4⟩ := h
  refine ⟨h1, Nat.eq_of_beq_eq_true h2, fun q hq => ?_, fun i hi => ⟨(h3 i hi).1, fun oi hoi e he hb => ?_⟩, (pairsOK_spec9 h4).imp pairOK_spec9⟩
  · obtain ⟨r, hr, hqr⟩ := List.any_eq_true.1 (h7 q (List.mem_range.2 hq))
    rw [Nat.eq_of_beq_eq_true hqr]; exact hr
  have h5 := (h3 i hi).2
  rw [hoi] at h5
  simp only [Array.all_eq_true_iff_forall_mem, Bool.or_eq_true, Bool.and_eq_true, Bool.not_eq_true', decide_eq_true_eq] at h5
  have h6 := (h5 e he).resolve_left (by simp [hb])
  exact ⟨nbeq_ne9 h6.1, h6.2⟩
/-- The operations in the chosen order. -/
def pickO9 (l : List Oper) : List Nat → List Oper
  | [] => []
  | i :: is => match l[i]? with
    | some o => o :: pickO9 l is
    | none => pickO9 l is
def pickK9 (ks : List Nat) : List Nat → List Nat
  | [] => []
  | i :: is => ks.getD i 2 :: pickK9 ks is
/-- An operation's step; B holds all along; kind 0: it reads no more than B says. -/
def StepB (P : Program) (ops : Array Oper) (B : World → Prop) (kind : Nat) (o : Oper) (v : Value) (a : Act) (S S' : World → Prop) : Prop :=
  match kind with
  | 0 => (∀ S0, (∀ w, S0 w → B w) → Fixed P ops S0 o v a) ∧ S' = S
  | _ => Fixed P ops S o v a ∧ S' = S
theorem StepB.of_same {B : World → Prop} {kind : Nat} {o : Oper} {v : Value} {a a' : Act} {S S' : World → Prop} (h : StepB P ops B kind o v a S S') (he : execOp a'.eval o = execOp a.eval o)
    (hw : Region.wanted o (yielded ops a'.tmps) = Region.wanted o (yielded ops a.tmps)) : StepB P ops B kind o v a' S S' := by
  unfold StepB at *
  split at h
  · exact ⟨fun S0 h0 => (h.1 S0 h0).of_same he hw, h.2⟩
  · exact ⟨h.1.of_same he hw, h.2⟩
theorem StepB.eq {B : World → Prop} {kind : Nat} {o : Oper} {v : Value} {a : Act} {S S' : World → Prop} (h : StepB P ops B kind o v a S S') : S' = S := by
  unfold StepB at h
  split at h <;> exact h.2
theorem StepB.wpOp {B : World → Prop} {kind i : Nat} {o : Oper} {v : Value} {a : Act} {S S' : World → Prop} (hi : ops[i]? = some o) (h : StepB P ops B kind o v a S S') (hB : ∀ w, S w → B w) {Q : Exit → Act → World → Prop}
    {K : Act → World → Prop} {w : World} (hS : S w) (hK : ∀ w', S' w' → K (a.put o.dst v) w') : wpOp P ops Q i K a w := by
  unfold StepB at h
  split at h
  · obtain ⟨h, rfl⟩ := h; exact (h S' hB).wpOp hi hS hK
  · obtain ⟨h, rfl⟩ := h; exact h.wpOp hi hS hK
/-- A store, the last of a region. -/
def LastP (P : Program) (ops : Array Oper) (o : Oper) (a : Act) (S S' : World → Prop) : Prop :=
  o.dst = none ∧ ∀ w, S w → (∃ w', (execOp a.eval o).run P w = .ok .skip w' ∧ S' w') ∧ Region.wanted o (yielded ops a.tmps) = true
def MixSeqB (P : Program) (ops : Array Oper) (B : World → Prop) (K : Nat → Nat) (T : Act → World → Prop) : List Nat → Act → (World → Prop) → Prop
  | [], a, S => ∀ w, S w → T a w
  | i :: is, a, S => ∃ o, ops[i]? = some o ∧ ((K i ≠ 3 ∧ K i ≠ 7 ∧ K i ≠ 8 ∧ ∃ v S', StepB P ops B (K i) o v a S S' ∧ MixSeqB P ops B K T is (a.put o.dst v) S') ∨
      (K i = 3 ∧ ∃ R, Many P ops o a S R ∧ ∀ v S', R v S' → (∀ w, S' w → B w) ∧ MixSeqB P ops B K T is (a.put o.dst v) S') ∨
      (K i = 7 ∧ ∃ S', LastP P ops o a S S' ∧ (is ≠ [] → ∀ w, S' w → B w) ∧ MixSeqB P ops B K T is a S') ∨
      (K i = 8 ∧ ∃ S', LastP P ops o a S S' ∧ (∀ w, S' w → B w) ∧ MixSeqB P ops B K T is a S'))
theorem compatB3 {i j : Nat} (h : compatB i j = true) : (compat3 i j = true ∧ i ≠ 7 ∧ j ≠ 7 ∧ i ≠ 8 ∧ j ≠ 8) ∨ (i = 0 ∧ j = 8) := by
  unfold compatB at h
  simp only [Bool.or_eq_true, Bool.and_eq_true, Bool.not_eq_true'] at h
  rcases h with h | h
  · exact .inl ⟨h.1.1.1.1, (fun e => by rw [e] at h; cases h.1.1.1.2), (fun e => by rw [e] at h; cases h.1.1.2), (fun e => by rw [e] at h; cases h.1.2), (fun e => by rw [e] at h; cases h.2)⟩
  · exact .inr ⟨Nat.eq_of_beq_eq_true h.1, Nat.eq_of_beq_eq_true h.2⟩
theorem MixSeqB.first {B : World → Prop} {K : Nat → Nat} {T : Act → World → Prop} (hsel : ∀ (j : Nat) (o : Oper) cs b, ops[j]? = some o → o.op ≠ .select cs b) {j : Nat} {oj : Oper} (hj : ops[j]? = some oj) (hj3 : K j ≠ 3) (hj7 : K j ≠ 7) (hj8 : K j ≠ 8) (post : List Nat) :
    ∀ (pre : List Nat) (a : Act) (S : World → Prop), (∀ i oi, i ∈ pre → ops[i]? = some oi → oi.apart ops oj = true ∧ compatB (K i) (K j) = true) → MixSeqB P ops B K T (pre ++ j :: post) a S →
      ∃ vj S', StepB P ops B (K j) oj vj a S S' ∧ MixSeqB P ops B K T (pre ++ post) (a.put oj.dst vj) S'
  | [], a, S, _, h => by
    obtain ⟨o, ho, h⟩ := h
    rw [hj] at ho; cases ho
    rcases h with ⟨_, _, _, v, S', hf, hs⟩ | h | h | h
    · exact ⟨v, S', hf, hs⟩
    · exact absurd h.1 hj3
    · exact absurd h.1 hj7
    · exact absurd h.1 hj8
  | i :: pre, a, S, hap, h => by
    obtain ⟨oi, hi, h⟩ := h
    obtain ⟨hap1, hcomp0⟩ := hap i oi List.mem_cons_self hi
    obtain ⟨hcomp, hi7, _, hi8, _⟩ := (compatB3 hcomp0).resolve_right (fun h => hj8 h.2)
    have hi3 : K i ≠ 3 := by
      intro hc
      unfold compat3 at hcomp
      rw [hc] at hcomp
      simp at hcomp
    rcases h with ⟨_, _, _, vi, Si, hf, hs⟩ | h | h | h
    · obtain rfl := hf.eq
      obtain ⟨vj, Sj, hfj, hsj⟩ := MixSeqB.first hsel hj hj3 hj7 hj8 post pre (a.put oi.dst vi) Si (fun k ok hk => hap k ok (List.mem_cons_of_mem _ hk)) hs
      obtain rfl := hfj.eq
      obtain ⟨h1, h2, h3⟩ := Oper.apart_spec hap1
      have ej := execOp_put oj (fun cs b => hsel j oj cs b hj) a oi.dst vi h1
      have wj := wanted_put oj a oi.dst vi h1
      have ei := execOp_put oi (fun cs b => hsel i oi cs b hi) a oj.dst vj h3
      have wi := wanted_put oi a oj.dst vj h3
      have hcm := Act.put_comm a vi vj h2
      exact ⟨vj, _, hfj.of_same ej.symm wj.symm, oi, hi, .inl ⟨hi3, hi7, hi8, vi, _, hf.of_same ei wi, by rw [← hcm]; exact hsj⟩⟩
    · exact absurd h.1 hi3
    · exact absurd h.1 hi7
    · exact absurd h.1 hi8
theorem MixSeqB.first3 {B : World → Prop} {K : Nat → Nat} {T : Act → World → Prop} (hsel : ∀ (j : Nat) (o : Oper) cs b, ops[j]? = some o → o.op ≠ .select cs b) {j : Nat} {oj : Oper} (hj : ops[j]? = some oj) (hj3 : K j = 3) (post : List Nat) :
    ∀ (pre : List Nat) (a : Act) (S : World → Prop), (∀ i oi, i ∈ pre → ops[i]? = some oi → oi.apart ops oj = true ∧ compatB (K i) (K j) = true) → MixSeqB P ops B K T (pre ++ j :: post) a S →
      ∃ R, Many P ops oj a S R ∧ ∀ v S', R v S' → (∀ w, S' w → B w) ∧ MixSeqB P ops B K T (pre ++ post) (a.put oj.dst v) S'
  | [], a, S, _, h => by
    obtain ⟨o, ho, h⟩ := h
    rw [hj] at ho; cases ho
    rcases h with h | h | h | h
    · exact absurd hj3 h.1
    · exact h.2
    · have := h.1; omega
    · have := h.1; omega
  | i :: pre, a, S, hap, h => by
    obtain ⟨oi, hi, h⟩ := h
    obtain ⟨hap1, hcomp0⟩ := hap i oi List.mem_cons_self hi
    obtain ⟨hcomp, hi7, _, hi8, _⟩ := (compatB3 hcomp0).resolve_right (fun h => by have := h.2; omega)
    have hk : K i = 0 := by
      unfold compat3 at hcomp
      rw [hj3] at hcomp
      simp at hcomp
      exact hcomp
    rcases h with ⟨hi3, _, _, vi, Si, hf, hs⟩ | h | h | h
    · obtain rfl := hf.eq
      obtain ⟨R, hfj, hsj⟩ := MixSeqB.first3 hsel hj hj3 post pre (a.put oi.dst vi) Si (fun k ok hk => hap k ok (List.mem_cons_of_mem _ hk)) hs
      obtain ⟨h1, h2, h3⟩ := Oper.apart_spec hap1
      have ej := execOp_put oj (fun cs b => hsel j oj cs b hj) a oi.dst vi h1
      have wj := wanted_put oj a oi.dst vi h1
      rw [hk] at hf
      obtain ⟨hfree, _⟩ := hf
      refine ⟨R, hfj.of_same ej.symm wj.symm, fun v S' hR => ⟨(hsj v S' hR).1, oi, hi, .inl ⟨hi3, hi7, hi8, vi, S', ?_, ?_⟩⟩⟩
      · have ei := execOp_put oi (fun cs b => hsel i oi cs b hi) a oj.dst v h3
        have wi := wanted_put oi a oj.dst v h3
        rw [hk]
        exact ⟨fun S0 h0 => (hfree S0 h0).of_same ei wi, rfl⟩
      · rw [← Act.put_comm a vi v h2]; exact (hsj v S' hR).2
    · have := h.1; omega
    · have := h.1; omega
    · have := h.1; omega
theorem LastP.of_same {o : Oper} {a a' : Act} {S S' : World → Prop} (h : LastP P ops o a S S') (he : execOp a'.eval o = execOp a.eval o)
    (hw : Region.wanted o (yielded ops a'.tmps) = Region.wanted o (yielded ops a.tmps)) : LastP P ops o a' S S' := by
  unfold LastP at *; rw [he, hw]; exact h
theorem MixSeqB.first8 {B : World → Prop} {K : Nat → Nat} {T : Act → World → Prop} (hsel : ∀ (j : Nat) (o : Oper) cs b, ops[j]? = some o → o.op ≠ .select cs b) {j : Nat} {oj : Oper} (hj : ops[j]? = some oj) (hj8 : K j = 8) (post : List Nat) :
    ∀ (pre : List Nat) (a : Act) (S : World → Prop), (∀ i oi, i ∈ pre → ops[i]? = some oi → oi.apart ops oj = true ∧ compatB (K i) (K j) = true) → MixSeqB P ops B K T (pre ++ j :: post) a S →
      ∃ S', LastP P ops oj a S S' ∧ (∀ w, S' w → B w) ∧ MixSeqB P ops B K T (pre ++ post) a S'
  | [], a, S, _, h => by
    obtain ⟨o, ho, h⟩ := h
    rw [hj] at ho; cases ho
    rcases h with h | h | h | h
    · exact absurd hj8 h.2.2.1
    · have := h.1; omega
    · have := h.1; omega
    · exact h.2
  | i :: pre, a, S, hap, h => by
    obtain ⟨oi, hi, h⟩ := h
    obtain ⟨hap1, hcomp0⟩ := hap i oi List.mem_cons_self hi
    have hk : K i = 0 := by
      rcases compatB3 hcomp0 with h | h
      · exact absurd hj8 h.2.2.2.2
      · exact h.1
    rcases h with ⟨hi3, hi7, hi8, vi, Si, hf, hs⟩ | h | h | h
    · obtain rfl := hf.eq
      obtain ⟨S', hfj, hB', hsj⟩ := MixSeqB.first8 hsel hj hj8 post pre (a.put oi.dst vi) Si (fun k ok hk => hap k ok (List.mem_cons_of_mem _ hk)) hs
      obtain ⟨h1, h2, h3⟩ := Oper.apart_spec hap1
      have ej := execOp_put oj (fun cs b => hsel j oj cs b hj) a oi.dst vi h1
      have wj := wanted_put oj a oi.dst vi h1
      rw [hk] at hf
      obtain ⟨hfree, _⟩ := hf
      exact ⟨S', hfj.of_same ej.symm wj.symm, hB', oi, hi, .inl ⟨hi3, hi7, hi8, vi, S', by rw [hk]; exact ⟨hfree, rfl⟩, hsj⟩⟩
    · have := h.1; omega
    · have := h.1; omega
    · have := h.1; omega
theorem wpAny_end {Q : Exit → Act → World → Prop} {listed : Array Bool} {a : Act} {w : World} (hl : Lists ops.size md ops [] listed) (h : Q .normal a w) : wpAny P md ops Q 0 listed a w := by
  refine wpAny_done ?_ h 0
  rw [List.eq_nil_iff_forall_not_mem]
  intro j hj
  obtain ⟨hjun, oj, hoj, _⟩ := mem_ready.1 hj
  have hjs : j < ops.size := (Array.getElem?_eq_some_iff.1 hoj).1
  have := (hl.2.1 j hjs).1 hjun
  simp at this
  omega
theorem wpAny_of_mixB {Q : Exit → Act → World → Prop} {B : World → Prop} {ks p : List Nat} (hns : Region.noSelect ops = true) (hself : ∀ i ∈ p, i < ops.size ∧ ∀ oi, ops[i]? = some oi → ∀ e ∈ oi.after, Region.binds md e = true → e.on ≠ i ∧ e.on < ops.size) :
    ∀ (n : Nat) (is : List Nat) (listed : Array Bool) (a : Act) (w : World) (S : World → Prop), is.length = n → is.Pairwise (PairP9 md ops ks) → (∀ i ∈ is, i ∈ p) → Lists ops.size md ops is listed → MixSeqB P ops B (ks.getD · 2) (Q .normal) is a S → (∀ w, S w → B w) → S w →
      wpAny P md ops Q n listed a w := by
  have hsel := Region.noSelect_spec hns
  intro n
  induction n with
  | zero =>
    intro is listed a w S hlen _ _ hl hs hB hS
    obtain rfl : is = [] := List.length_eq_zero_iff.1 hlen
    exact wpAny_end hl (hs w hS)
  | succ n ih =>
    intro is listed a w S hlen hpw hlt hl hs hB hS
    have hnd : is.Nodup := hpw.imp (fun h => h.1)
    refine ⟨fun hnone => ?_, fun j hj => ?_⟩
    · exfalso
      obtain ⟨i, is', rfl⟩ : ∃ i is', is = i :: is' := by
        cases is with
        | nil => simp at hlen
        | cons i is' => exact ⟨i, is', rfl⟩
      obtain ⟨him, hafter⟩ := hself i (hlt i List.mem_cons_self)
      have hi : ops[i]? = some ops[i] := Array.getElem?_eq_getElem him
      have hmem : i ∈ Region.ready md ops listed := by
        rw [mem_ready]
        refine ⟨(hl.2.1 i him).2 (.inl List.mem_cons_self), _, hi, fun e he hb => ?_⟩
        obtain ⟨hne, hon⟩ := hafter _ hi e he hb
        rw [getD_false_of (by rw [hl.1]; exact hon), hl.2.1 e.on hon]
        rintro (h | h)
        · rcases List.mem_cons.1 h with h | h
          · exact hne h
          · exact ((List.pairwise_cons.1 hpw).1 _ h).2.2 _ hi e he hb rfl
        · omega
      rw [hnone] at hmem
      cases hmem
    · obtain ⟨hjun, oj, hoj, hall⟩ := mem_ready.1 hj
      have hjs : j < ops.size := (Array.getElem?_eq_some_iff.1 hoj).1
      have hnw : ∀ i ∈ is, ¬ Before md ops j i := fun i hi hw => by
        have h1 := hw listed hl.2.2 (fun o ho' e he hb => by rw [hoj] at ho'; cases ho'; exact hall e he hb)
        have him := (hself i (hlt i hi)).1
        exact (getD_false_of (by rw [hl.1]; omega)).1 h1 ((hl.2.1 i him).2 (.inl hi))
      have hjin : j ∈ is := by
        rcases (hl.2.1 j hjs).1 hjun with h | h
        · exact h
        · omega
      obtain ⟨pre, post, rfl⟩ := List.append_of_mem hjin
      have hap : ∀ i oi, i ∈ pre → ops[i]? = some oi → oi.apart ops oj = true ∧ compatB (ks.getD i 2) (ks.getD j 2) = true := fun i oi hi hoi => by
        have hij := (List.pairwise_append.1 hpw).2.2 i hi j List.mem_cons_self
        rcases hij.2.1 oi oj hoi hoj with hw | hap
        · exact absurd hw (hnw i (by simp [hi]))
        · exact hap
      have hsub : (pre ++ post).Sublist (pre ++ j :: post) := List.Sublist.append_left (List.sublist_cons_self _ _) _
      by_cases hk7 : ks.getD j 2 = 7
      · obtain rfl : pre = [] := by
          cases pre with
          | nil => rfl
          | cons i pre =>
            have him := (hself i (hlt i (by simp))).1
            have hcc := (hap i ops[i] List.mem_cons_self (Array.getElem?_eq_getElem him)).2
            rcases compatB3 hcc with h | h
            · exact absurd hk7 h.2.2.1
            · have := h.2; omega
        obtain ⟨o, ho, hseq⟩ := hs
        rw [hoj] at ho; cases ho
        rcases hseq with h | h | ⟨_, S', hl7, hB', hT⟩ | h
        · exact absurd hk7 h.2.1
        · have h3 : ks.getD j 2 = 3 := h.1
          omega
        · obtain ⟨hd, hlast⟩ := hl7
          obtain ⟨⟨w', hr, hS'⟩, hw⟩ := hlast w hS
          unfold Go.wpOp
          simp only [hoj, hw, if_true, Oper.wp]
          refine .inl ?_
          rw [hr]
          refine (show wpAny P md ops Q n (listed.setIfInBounds j true) (a.put oj.dst undef) w' from ?_)
          rw [hd]
          by_cases hpo : post = []
          · subst hpo
            have hn0 : n = 0 := by simp at hlen; omega
            subst hn0
            exact wpAny_end (a := a) (hl.next (pre := []) (post := []) rfl hnd hjs (Nat.le_refl _) hj) (hT w' hS')
          · exact ih ([] ++ post) _ _ w' S' (by simp at hlen ⊢; omega) (hpw.sublist hsub) (fun i hi => hlt i (hsub.subset hi)) (hl.next rfl hnd hjs (Nat.le_refl _) hj) hT (hB' hpo) hS'
        · have h8 : ks.getD j 2 = 8 := h.1
          omega
      by_cases hk8 : ks.getD j 2 = 8
      · obtain ⟨S', ⟨hd, hlast⟩, hB', hs'⟩ := MixSeqB.first8 (K := (ks.getD · 2)) hsel hoj hk8 post pre a S hap hs
        obtain ⟨⟨w', hr, hS'⟩, hw⟩ := hlast w hS
        unfold Go.wpOp
        simp only [hoj, hw, if_true, Oper.wp]
        refine .inl ?_
        rw [hr]
        refine (show wpAny P md ops Q n (listed.setIfInBounds j true) (a.put oj.dst undef) w' from ?_)
        rw [hd]
        exact ih (pre ++ post) _ _ w' S' (by simp at hlen ⊢; omega) (hpw.sublist hsub) (fun i hi => hlt i (hsub.subset hi)) (hl.next rfl hnd hjs (Nat.le_refl _) hj) hs' hB' hS'
      by_cases hk3 : ks.getD j 2 = 3
      · obtain ⟨R, hf, hs'⟩ := MixSeqB.first3 (K := (ks.getD · 2)) hsel hoj hk3 post pre a S hap hs
        obtain ⟨hr, hw⟩ := hf w hS
        unfold Go.wpOp
        simp only [hoj, hw, if_true, Oper.wp]
        refine .inl ?_
        have go : ∀ v S' w', R v S' → S' w' → wpAny P md ops Q n (listed.setIfInBounds j true) (a.put oj.dst v) w' := fun v S' w' hR hS' =>
          ih (pre ++ post) _ _ w' S' (by simp at hlen ⊢; omega) (hpw.sublist hsub) (fun i hi => hlt i (hsub.subset hi)) (hl.next rfl hnd hjs (Nat.le_refl _) hj) (hs' v S' hR).2 (hs' v S' hR).1 hS'
        rcases hr with ⟨v, w', S', hr, hR, hS'⟩ | ⟨f, vs, w', hr, hc⟩
        · rw [hr]; exact go v S' w' hR hS'
        · rw [hr]
          refine hc.mono ?_
          rintro e w'' ⟨v, S', rfl, hR, hS'⟩
          exact go v S' w'' hR hS'
      · obtain ⟨vj, S', hf, hs'⟩ := MixSeqB.first (K := (ks.getD · 2)) hsel hoj hk3 hk7 hk8 post pre a S hap hs
        have hB' : ∀ w, S' w → B w := by rw [hf.eq]; exact hB
        refine hf.wpOp hoj hB hS fun w' hS' => ?_
        exact ih (pre ++ post) _ _ w' S' (by simp at hlen ⊢; omega) (hpw.sublist hsub) (fun i hi => hlt i (hsub.subset hi)) (hl.next rfl hnd hjs (Nat.le_refl _) hj) hs' hB' hS'
def MixMB (P : Program) (ops : Array Oper) (B : World → Prop) (T : Act → World → Prop) : List Nat → List Oper → Act → (World → Prop) → Prop
  | [], [], a, S => ∀ w, S w → T a w
  | k :: ks, o :: rest, a, S => (k ≠ 3 ∧ k ≠ 7 ∧ k ≠ 8 ∧ ∃ v S', StepB P ops B k o v a S S' ∧ MixMB P ops B T ks rest (a.put o.dst v) S') ∨ (k = 3 ∧ ∃ R, Many P ops o a S R ∧ ∀ v S', R v S' → (∀ w, S' w → B w) ∧ MixMB P ops B T ks rest (a.put o.dst v) S') ∨
      (k = 7 ∧ ∃ S', LastP P ops o a S S' ∧ (ks ≠ [] → ∀ w, S' w → B w) ∧ MixMB P ops B T ks rest a S') ∨
      (k = 8 ∧ ∃ S', LastP P ops o a S S' ∧ (∀ w, S' w → B w) ∧ MixMB P ops B T ks rest a S')
  | _, _, _, _ => False
theorem MixMB.seqp {B : World → Prop} {T : Act → World → Prop} {l : List Oper} {ks : List Nat} : ∀ (p : List Nat) (a : Act) (S : World → Prop), (∀ i ∈ p, i < l.length) → MixMB P l.toArray B T (pickK9 ks p) (pickO9 l p) a S → MixSeqB P l.toArray B (ks.getD · 2) T p a S
  | [], _, _, _, h => h
  | i :: is, a, S, hp, h => by
    have hlt := hp i List.mem_cons_self
    have hi : l[i]? = some l[i] := List.getElem?_eq_getElem hlt
    unfold pickO9 pickK9 at h
    rw [hi] at h
    have rec_ : ∀ a S, MixMB P l.toArray B T (pickK9 ks is) (pickO9 l is) a S → MixSeqB P l.toArray B (ks.getD · 2) T is a S := fun a S h => MixMB.seqp is a S (fun j hj => hp j (List.mem_cons_of_mem _ hj)) h
    refine ⟨l[i], by rw [List.getElem?_toArray]; exact hi, ?_⟩
    rcases h with ⟨h1, h7, h8, v, S', h2, h3⟩ | ⟨h1, R, h2, h3⟩ | ⟨h1, S', h2, h3, h4⟩ | ⟨h1, S', h2, h3, h4⟩
    · exact .inl ⟨h1, h7, h8, v, S', h2, rec_ _ _ h3⟩
    · exact .inr (.inl ⟨h1, R, h2, fun v S' hR => ⟨(h3 v S' hR).1, rec_ _ _ (h3 v S' hR).2⟩⟩)
    · refine .inr (.inr (.inl ⟨h1, S', h2, fun hne => h3 ?_, rec_ _ _ h4⟩))
      cases is with
      | nil => exact absurd rfl hne
      | cons j is => unfold pickK9; exact List.cons_ne_nil _ _
    · exact .inr (.inr (.inr ⟨h1, S', h2, h3, rec_ _ _ h4⟩))
theorem wp_mixB {Q : Exit → Act → World → Prop} {id : Nat} {l : List Oper} {a : Act} {w : World} {S B : World → Prop} (hmix : P.follows .mixedOrders = true) (ks p : List Nat) (ho : mixOKp9 .any l.toArray ks p = true)
    (hB : ∀ w, S w → B w) (hS : S w.drew) (h : MixMB P l.toArray B (Q .normal) (pickK9 ks p) (pickO9 l p) a S) : (Code.region id l.toArray true).wp P Q a w := by
  refine wpFrom_start hmix ?_
  intro listed hl
  have hsz : l.toArray.size = l.length := by simp
  obtain ⟨hns, hlen, hall, hself, hpw⟩ := mixOKp_spec9 ho
  have := wpAny_of_mixB (P := P) (Q := Q) (ks := ks) hns hself l.length p listed a w.drew S (hlen.trans hsz) hpw (fun i hi => hi)
    ⟨hl.1, fun q hq => by
      rw [hl.2.1 q hq]
      have := hall q hq
      simp [this], hl.2.2⟩ (MixMB.seqp p a S (fun i hi => by rw [← hsz]; exact (hself i hi).1) h) hB hS
  rw [hsz, Nat.sub_zero]
  exact this
end
section
variable {P : Program} {ops : Array Oper} {Q : Exit → Act → World → Prop} {n : Sz} {w0 : World} {L L' : List (Nat × Value)} {HB H : List Ent}
variable {o : Oper} {rest : List Oper} {v u : Value} {x y z : Operand} {k m j : Nat} {t t' e : TypeId} {ks : List Nat} {kd : IntKind}
/-- What stays: the blocks HB. -/
def Stays (w0 : World) (HB : List Ent) (w : World) : Prop := ∃ H', St w0 (HB ++ H') w
def TP (P : Program) (ops : Array Oper) (Q : Exit → Act → World → Prop) (n : Sz) (w0 : World) (HB : List Ent) (ks : List Nat) (rest : List Oper) (L : List (Nat × Value)) (H : List Ent) : Prop :=
  ∀ a, Fr n L a → MixMB P ops (Stays w0 HB) (Q .normal) ks rest a (St w0 (HB ++ H))
theorem TC.mixB {id : Nat} {l : List Oper} (hmix : P.follows .mixedOrders = true) (ks p : List Nat) (ho : mixOKp9 .any l.toArray ks p = true) (h : TP P l.toArray Q n w0 HB (pickK9 ks p) (pickO9 l p) L H) (hmd : n.md = .plain := by rfl) : TC P Q n w0 (.region id l.toArray true) L (HB ++ H) :=
  fun a w hf hs => by rw [hmd]; exact wp_mixB hmix ks p ho (fun w h => ⟨H, h⟩) hs.drew (h a hf)
theorem TP.nil (h : TE Q .normal n w0 L (HB ++ H)) : TP P ops Q n w0 HB [] [] L H := fun a hf w hs => h a w hf hs
theorem TP.free (hg : Wants n ops L o) (hi : inside n o.dst = true) (h : ∀ w0, Gets P n w0 o L [] v) (hr : TP P ops Q n w0 HB ks rest (put L o.dst v) H) : TP P ops Q n w0 HB (0 :: ks) (o :: rest) L H :=
  fun a hf => .inl ⟨by decide, by decide, by decide, v, St w0 (HB ++ H), ⟨fun S0 _ => .inl ⟨hg a hf, fun w hS => by rw [h w a w hf (St.refl w)]; exact ⟨rfl, hS⟩⟩, rfl⟩, hr _ (hf.put o.dst v hi)⟩
theorem TP.stay (hg : Wants n ops L o) (hi : inside n o.dst = true) (h : ∀ H', Gets P n w0 o L (HB ++ H') v) (hr : TP P ops Q n w0 HB ks rest (put L o.dst v) H) : TP P ops Q n w0 HB (0 :: ks) (o :: rest) L H :=
  fun a hf => .inl ⟨by decide, by decide, by decide, v, St w0 (HB ++ H), ⟨fun S0 h0 => .inl ⟨hg a hf, fun w hS => by
    obtain ⟨H', hs⟩ := h0 w hS
    rw [h H' a w hf hs]; exact ⟨rfl, hS⟩⟩, rfl⟩, hr _ (hf.put o.dst v hi)⟩
theorem TP.gets (hg : Wants n ops L o) (hi : inside n o.dst = true) (h : Gets P n w0 o L (HB ++ H) v) (hr : TP P ops Q n w0 HB ks rest (put L o.dst v) H) : TP P ops Q n w0 HB (1 :: ks) (o :: rest) L H :=
  fun a hf => .inl ⟨by decide, by decide, by decide, v, St w0 (HB ++ H), ⟨.inl ⟨hg a hf, fun w hS => by rw [h a w hf hS]; exact ⟨rfl, hS⟩⟩, rfl⟩, hr _ (hf.put o.dst v hi)⟩
/-- A call that ends with one of many values, each with what it leaves. -/
theorem TP.call {ι : Type} {f : FuncId} {xs : List Operand} {ts : Array TypeId} {vs : List Value} {V : ι → Value} {R : ι → Prop} {H' : ι → List Ent} (hg : Wants n ops L o) (hi : inside n o.dst = true) (h : Enters P f)
    (ho : o.op = .call { callee := .value (.func f), args := xs.toArray, argTypes := ts }) (hx : evs L xs = some vs)
    (hc : ∀ w, St w0 (HB ++ H) w → Calls P f vs.toArray w fun e w' => ∃ i, e = .returned (V i) ∧ R i ∧ St w0 (HB ++ H' i) w')
    (hr : ∀ i, R i → TP P ops Q n w0 HB ks rest (put L o.dst (V i)) (H' i)) : TP P ops Q n w0 HB (3 :: ks) (o :: rest) L H :=
  fun a hf => .inr <| .inl ⟨rfl, fun v S' => ∃ i, R i ∧ v = V i ∧ S' = St w0 (HB ++ H' i), fun w hs =>
    ⟨.inr ⟨f, vs.toArray, w, run_enter h ho hf hx, (hc w hs).mono fun e w' ⟨i, he, hR, hs'⟩ => ⟨V i, _, he, ⟨i, hR, rfl, rfl⟩, hs'⟩⟩, hg a hf⟩,
    fun v S' ⟨i, hR, h1, h2⟩ => by subst h1; subst h2; exact ⟨fun w hw => ⟨H' i, hw⟩, hr i hR _ (hf.put o.dst _ hi)⟩⟩
/-- A function's contract, of a world in which some blocks are known already. -/
theorem calls_over {f : FuncId} {fn : Func} {c : Code} {args : List Value} {w : World} {R : Ending → World → Prop} {N : Nat} (hf : P.funcs[f]? = some fn) (hb : fn.body = some c) (hN : fn.ntmps = N) (hl : args.length ≤ N) (hs : St w0 H w)
    (h : TC P (bodyPost P fn R) ⟨N, [], .plain⟩ w0 c (args.zipIdx.map fun x => (x.2, x.1)) H) : Calls P f args.toArray w R := by
  subst hN
  refine calls_of_wp hf hb (h _ w ⟨rfl, by simp; omega, ?_⟩ hs)
  intro i v hi
  have key : ∀ (l : List Value) (k : Nat), look ((l.zipIdx k).map fun x => (x.2, x.1)) i = some v → k ≤ i ∧ l[i - k]? = some v := by
    intro l
    induction l with
    | nil => intro k h; simp [look] at h
    | cons c l ih =>
      intro k h
      simp only [List.zipIdx_cons, List.map_cons, look] at h
      cases hb : Nat.beq i k with
      | true => rw [hb] at h; have := Nat.eq_of_beq_eq_true hb; subst this; simp at h; simp [h]
      | false =>
        rw [hb] at h
        obtain ⟨h1, h2⟩ := ih (k + 1) h
        refine ⟨by omega, ?_⟩
        rw [show i - k = (i - (k + 1)) + 1 by omega]
        simpa using h2
  obtain ⟨_, h2⟩ := key args 0 hi
  have hlt : i < args.length := (List.getElem?_eq_some_iff.1 h2).1
  simp only [Nat.sub_zero] at h2
  have h3 : args[i] = v := by rw [List.getElem?_eq_getElem hlt] at h2; exact Option.some.inj h2
  simp [Array.getElem?_append, hlt, h3]
end
end Go.Proofs.Ytclmgfcdnokaiaa
/-
  A slice of structs is made.
-/
namespace Go.Proofs.Ytclmgfcdnokaiaa
set_option linter.unusedVariables false
set_option linter.unusedSimpArgs false
set_option linter.unusedVariables false
open Go Go.RowKit
variable {P : Program} {ops : Array Oper} {Q : Exit → Act → World → Prop} {n : Sz} {w0 : World} {L L' : List (Nat × Value)} {H : List Ent}
variable {o : Oper} {rest : List Oper} {v u : Value} {x y z : Operand} {k m j : Nat} {t t' e : TypeId} {kd kd' : IntKind} {p q r : Int}
section
variable {HB X D : List Ent} {ks : List Nat} {r' : Value → List Ent → Prop} {rs : List (Value → List Ent → Prop)}
theorem TR.storeN {i g off s : Nat} {ent : Ent} {vs : List Value} (hg : Wants n ops L o) (hd : o.dst = none) (ho : o.op = .store t x y) (hsz : (P.info? t).map (·.size) = some s)
    (hx : ev L x = some (.pointer (some ⟨g, off, none⟩))) (hy : ev L y = some (.agg vs.toArray)) (hl : vs.length = s) (h1 : ∀ u ∈ vs, u.oneCell' = true) (hi : D[i]? = some ent) (he : ent.g = g) (hoff : off + vs.length ≤ ent.cs.length)
    {cs' : List Value} (hcs : ent.cs.take off ++ vs ++ ent.cs.drop (off + vs.length) = cs') {D' : List Ent} (hH : D.set i ⟨ent.g, ent.t, cs', ent.tot⟩ = D') (hF : Fresh w0 D) (hr : TR P ops Q n w0 HB ks rs rest L X D') : TR P ops Q n w0 HB (4 :: ks) (r' :: rs) (o :: rest) L X D :=
  fun a hf => .inr (.inr ⟨rfl, hd, D', ⟨fun Z w hZ hs => by
    subst hcs
    subst hH
    have hlt : i < D.length := (List.getElem?_eq_some_iff.1 hi).1
    have hi2 : (HB ++ (Z ++ D))[HB.length + (Z.length + i)]? = some ent := by
      rw [List.getElem?_append_right (by omega), List.getElem?_append_right (by omega), ← hi]
      congr 1; omega
    obtain ⟨w', hrun, hs'⟩ := run_storeCells (P := P) (i := HB.length + (Z.length + i)) (g := g) (ent := ent) (off := off) vs 0 (HB ++ (Z ++ D)) ent w he hs hi2 h1 (by omega)
    refine ⟨w', ?_, ?_⟩
    · simp only [execOp, ho, hf.eval hx, hf.eval hy]
      refine run_unit ?_
      simp only [Instr.storeAt, Instr.sureAddr, storeVar, Sem.run_bind, Sem.run_pure, Result.andThen_ok, run_size hsz]
      rw [if_neg (fun h => h (by simpa [Value.cells] using hl))]
      simpa [Value.cells] using hrun
    · rw [Nat.add_zero] at hs'
      rwa [List.set_append_right _ _ (by omega), List.set_append_right _ _ (by omega), show HB.length + (Z.length + i) - HB.length - Z.length = i by omega] at hs', hg a hf, by subst hH; exact fresh_set hF hi rfl⟩, hr a hf⟩)
end
end Go.Proofs.Ytclmgfcdnokaiaa
/-
  A range over a function whose iterator keeps state of its own in cells: the iterator's contract, and one law for the statement.
-/
namespace Go.Proofs.Ytclmgfcdnokaiaa
set_option linter.unusedVariables false
set_option linter.unusedSimpArgs false
open Go Go.RowKit

/-- Outside the blocks from lo up to hi nothing that was there has turned. -/
structure Beside (lo hi : Nat) (A B : World) : Prop where
  os : B.os = A.os
  tape : B.tape = A.tape
  output : B.output = A.output
  size : A.heap.size ≤ B.heap.size
  block : ∀ k, k < A.heap.size → ¬ (lo ≤ k ∧ k < hi) → B.heap[k]? = A.heap[k]?

theorem Beside.refl (lo hi : Nat) (A : World) : Beside lo hi A A := ⟨rfl, rfl, rfl, Nat.le_refl _, fun _ _ _ => rfl⟩
theorem Beside.trans {lo hi : Nat} {A B C : World} (h : Beside lo hi A B) (k : Beside lo hi B C) : Beside lo hi A C :=
  ⟨k.os.trans h.os, k.tape.trans h.tape, k.output.trans h.output, Nat.le_trans h.size k.size, fun i hi' hn => (k.block i (Nat.lt_of_lt_of_le hi' h.size) hn).trans (h.block i hi' hn)⟩
theorem Beside.mono {lo hi lo' hi' : Nat} {A B : World} (h : Beside lo hi A B) (h1 : lo' ≤ lo) (h2 : hi ≤ hi') : Beside lo' hi' A B :=
  ⟨h.os, h.tape, h.output, h.size, fun k hk hn => h.block k hk (fun hc => hn ⟨Nat.le_trans h1 hc.1, Nat.lt_of_lt_of_le hc.2 h2⟩)⟩
theorem Beside.alloc (lo hi : Nat) (A : World) (o : Obj) : Beside lo hi A (A.alloc o) := ⟨rfl, rfl, rfl, by simp, fun k hk _ => Below.heap_alloc A o k hk⟩
theorem Beside.drew (lo hi : Nat) (A : World) : Beside lo hi A A.drew := ⟨rfl, rfl, rfl, Nat.le_refl _, fun _ _ _ => rfl⟩
theorem Beside.setCell {lo hi : Nat} (A : World) (p : Addr) (u : Value) (h1 : lo ≤ p.block) (h2 : p.block < hi) : Beside lo hi A (A.setCell p u) :=
  ⟨rfl, rfl, rfl, by simp [World.setCell], fun k _ hn => Below.heap_setCell A p u k (fun e => hn (by rw [e]; exact ⟨h1, h2⟩))⟩
theorem Beside.putObj {lo hi : Nat} (A : World) (r : Nat) (o : Obj) (h1 : lo ≤ r) (h2 : r < hi) : Beside lo hi A (A.putObj r o) :=
  ⟨rfl, rfl, rfl, by simp, fun k _ hn => World.putObj_heap_other (fun e => hn (by rw [e]; exact ⟨h1, h2⟩))⟩
theorem Beside.below {lo hi n₀ : Nat} {A B : World} (h : Beside lo hi A B) (hn : n₀ ≤ lo) (hA : n₀ ≤ A.heap.size) : Below n₀ A B :=
  ⟨h.os, h.tape, h.output, h.size, fun k hk => h.block k (Nat.lt_of_lt_of_le hk hA) (fun hc => by omega)⟩
theorem Beside.cell {lo hi : Nat} {A B : World} (h : Beside lo hi A B) {b o : Nat} (hb : b < A.heap.size) (hn : b < lo ∨ hi ≤ b) : B.cell? ⟨b, o, none⟩ = A.cell? ⟨b, o, none⟩ :=
  World.cell?_of_block (w := A) (h.block b hb (by omega))
/-- The blocks of a set lie as they lay. -/
structure Keeps (Ks : Nat → Prop) (A B : World) : Prop where
  size : A.heap.size ≤ B.heap.size
  block : ∀ k, Ks k → k < A.heap.size → B.heap[k]? = A.heap[k]?
theorem Keeps.refl (Ks : Nat → Prop) (A : World) : Keeps Ks A A := ⟨Nat.le_refl _, fun _ _ _ => rfl⟩
theorem Keeps.trans {Ks : Nat → Prop} {A B C : World} (h : Keeps Ks A B) (k : Keeps Ks B C) : Keeps Ks A C :=
  ⟨Nat.le_trans h.size k.size, fun i hi hl => (k.block i hi (Nat.lt_of_lt_of_le hl h.size)).trans (h.block i hi hl)⟩
theorem Keeps.mono {Ks Ks' : Nat → Prop} {A B : World} (h : Keeps Ks A B) (hs : ∀ k, Ks' k → Ks k) : Keeps Ks' A B := ⟨h.size, fun k hk => h.block k (hs k hk)⟩
theorem Keeps.alloc (Ks : Nat → Prop) (A : World) (o : Obj) : Keeps Ks A (A.alloc o) := ⟨by simp, fun k _ hl => Below.heap_alloc A o k hl⟩
theorem Keeps.drew (Ks : Nat → Prop) (A : World) : Keeps Ks A A.drew := ⟨Nat.le_refl _, fun _ _ _ => rfl⟩
theorem Keeps.setCell {Ks : Nat → Prop} (A : World) (p : Addr) (u : Value) (h : ¬ Ks p.block) : Keeps Ks A (A.setCell p u) :=
  ⟨by simp [World.setCell], fun k hk _ => Below.heap_setCell A p u k (fun e => h (by rw [← e]; exact hk))⟩
theorem Keeps.putObj {Ks : Nat → Prop} (A : World) (r : Nat) (o : Obj) (h : ¬ Ks r) : Keeps Ks A (A.putObj r o) :=
  ⟨by simp, fun k hk _ => World.putObj_heap_other (fun e => h (by rw [← e]; exact hk))⟩
theorem Keeps.below {Ks : Nat → Prop} {A B : World} (h : Below A.heap.size A B) : Keeps Ks A B := ⟨h.size, fun k _ hl => h.block k hl⟩
theorem Keeps.cell {Ks : Nat → Prop} {A B : World} (h : Keeps Ks A B) {b o : Nat} (hb : b < A.heap.size) (hk : Ks b) : B.cell? ⟨b, o, none⟩ = A.cell? ⟨b, o, none⟩ :=
  World.cell?_of_block (w := A) (h.block b hk hb)
/-- **THE ITERATOR's CONTRACT.** Called in whatever later world W with whatever loop's yield: it hands on encs 0, encs 1, .. up to N of them, in that order; it keeps state in its own first c blocks alone; the rounds must keep those, and the blocks that it has captured. -/
def IterC (F : Fence) (n : Nat) (P : Program) (g : Nat) (lb : Array Value) (encs : Nat → Array Value) (N c : Nat) (Cap : Nat → Prop) (w0 : World) : Prop :=
  ∀ (l : Nat) (J Jx : Nat → World → Prop) (W : World), Below w0.heap.size w0 W →
    (∀ s A B, J s A → Beside W.heap.size (W.heap.size + c) A B → J s B) →
    (∀ s A B, Jx s A → Beside W.heap.size (W.heap.size + c) A B → Jx s B) →
    (∀ i W1, i < N → J i W1 → W.heap.size + c ≤ W1.heap.size → YieldAt F (n - 1) P l (encs i) W1 fun e W' =>
      (e = .returned (.bool true) ∧ J (i + 1) W' ∧ Keeps (fun k => (W.heap.size ≤ k ∧ k < W.heap.size + c) ∨ Cap k) W1 W') ∨ (e = .returned (.bool false) ∧ Jx (i + 1) W' ∧ W1.heap.size ≤ W'.heap.size)) →
    J 0 W →
    CallsIn F n P g (#[.func (.yield l) #[] #[]] ++ lb) W fun e W' => (∃ v, e = .returned v) ∧ (J N W' ∨ ∃ i, i < N ∧ Jx (i + 1) W')

/-- How the body of a round may be left. -/
def itPost (Ks : Nat → Prop) (I : Nat → World → Prop) (Ix : Code → Nat → World → Prop) (i : Nat) (W : World) : Exit → Act → World → Prop
  | .normal, _, W' => Keeps Ks W W' ∧ I i W'
  | .ret, _, W' => Keeps Ks W W' ∧ Ix .ret i W'
  | .exit id, _, W' => Keeps Ks W W' ∧ Ix (.exit id) i W'
  | .goto t, _, W' => Keeps Ks W W' ∧ Ix (.goto t) i W'
  | .panic _, _, _ => False
  | .outgrown, _, _ => False

variable {F : Fence} {n : Nat} {P : Program}

/-- **THE STATEMENT**, over an iterator that has its contract. 'lo': the heap's size where the statement begins; the record and the block for deferred calls are lo and lo + 1, the iterator's own blocks follow. -/
theorem wpIn_rangeFunc_it {g : Operand} {ps : Array Tmp} {assign body : Code} {Q : Exit → Act → World → Prop} {a : Act} {w : World}
    (hro : F.round = none) (h1 : 1 ≤ n) {gf : Nat} {lb : Array Value} (hg : a.eval g = .func (.func gf) #[] lb) (hFg : F.fn gf) (eg : ∀ args w, (callFunc gf args).run P w = .ok (.enter gf args) w)
    {encs : Nat → Array Value} {N c : Nat} {Cap : Nat → Prop} {w0 : World} (hseq : IterC F (n - 1) P gf lb encs N c Cap w0)
    (hb0 : Below w0.heap.size w0 w) (hcap : ∀ k, Cap k → k < w.heap.size) (hps : ∀ i, (encs i).size = ps.size)
    (I : Nat → World → Prop) (Ix : Code → Nat → World → Prop) (Ax : Nat → Act → World → Prop)
    (hI : ∀ s A B, I s A → Beside w.heap.size (w.heap.size + 2 + c) A B → I s B)
    (hIx : ∀ j s A B, Ix j s A → Beside w.heap.size (w.heap.size + 2 + c) A B → Ix j s B)
    (hAx : ∀ s a A B, Ax s a A → Beside w.heap.size (w.heap.size + 2 + c) A B → Ax s a B)
    (h0 : I 0 w)
    (hassign : ∀ (l i : Nat) (W : World), i < N → I i W → w.heap.size + 2 + c ≤ W.heap.size → assign.wpIn (F.inRound l) (n - 1 - 1) P
      (Exit.then (fun a₁ W₁ => Ax i a₁ W₁ ∧ Keeps (fun k => (w.heap.size ≤ k ∧ k < w.heap.size + 2 + c) ∨ Cap k) W W₁) (fun _ _ _ => False))
      { tmps := (ps.zip (encs i)).foldl (fun t (p, v) => t.setIfInBounds p v) a.tmps, defers := [] } W)
    (hbody : ∀ (l i : Nat) (a₁ : Act) (W : World), i < N → Ax i a₁ W → w.heap.size + 2 + c ≤ W.heap.size →
      body.wpIn (F.inRound l) (n - 1 - 1) P (itPost (fun k => (w.heap.size ≤ k ∧ k < w.heap.size + 2 + c) ∨ Cap k) I Ix (i + 1) W) a₁ W)
    (hdone : ∀ (W : World), I N W → W.heap[w.heap.size]? = some (.deferred (some [])) → Q .normal { a with defers := { target := .collected w.heap.size, args := #[] } :: a.defers } W)
    (hstop : ∀ (j : Code) (i : Nat) (W : World), i < N → Ix j (i + 1) W → W.heap[w.heap.size]? = some (.deferred (some [])) → j.wpIn F n P Q { a with defers := { target := .collected w.heap.size, args := #[] } :: a.defers } W) :
    (Code.rangeFunc g ps assign body).wpIn F n P Q a w := by
  refine wpIn_rangeFunc ?_
  intro fn hfn
  rw [hro]
  obtain ⟨rec, hrec⟩ : ∃ rec : LoopState → Option Code → Loop, rec = fun st pe => { state := st, pending := pe, fn, tmps := a.tmps, params := ps, assign, body, defers := w.heap.size } := ⟨_, rfl⟩
  obtain ⟨W1, hW1⟩ : ∃ W1, (w.alloc (.deferred (some []))).alloc (.loop (rec .ready none)) = W1 := ⟨_, rfl⟩
  have hsz : W1.heap.size = w.heap.size + 2 := by rw [← hW1]; simp
  have hL1 : W1.heap[w.heap.size + 1]? = some (.loop (rec .ready none)) := by
    rw [← hW1]; have := World.alloc_heap_new (w.alloc (.deferred (some []))) (.loop (rec .ready none)); rwa [World.size_alloc] at this
  have hK1 : W1.heap[w.heap.size]? = some (.deferred (some [])) := by
    rw [← hW1]; exact (Below.heap_alloc _ _ _ (by simp)).trans (World.alloc_heap_new w _)
  have hI1 : I 0 W1 := by rw [← hW1]; exact hI _ _ _ (hI _ _ _ h0 (Beside.alloc _ _ _ _)) (Beside.alloc _ _ _ _)
  have hb1 : Below w0.heap.size w0 W1 := by
    rw [← hW1]; exact hb0.trans ((((Below.refl _ w).alloc (Nat.le_refl _) _).alloc (by simp) _).mono hb0.size)
  refine ⟨w.heap.size + 1, [{ target := .collected w.heap.size, args := #[] }], W1, { target := .fn (.func gf) lb, args := #[.func (.yield (w.heap.size + 1)) #[] #[]] }, W1, gf,
    #[.func (.yield (w.heap.size + 1)) #[] #[]] ++ lb, W1, ?_, ?_, ?_, ?_, fun _ => h1, ?_⟩
  · rw [← hW1, hrec]; exact run_enterLoop_outer _ _ _ _ _
  · simp only [resolve, hg]
    simp [go_sem]
  · intro f' hf'; simp [Target.leads] at hf'; subst hf'; exact hFg
  · simp [invoke, go_sem, eg]
  · have inM : ∀ {A B : World}, Beside W1.heap.size (W1.heap.size + c) A B → Beside w.heap.size (w.heap.size + 2 + c) A B := fun h => h.mono (by omega) (by omega)
    refine (hseq (w.heap.size + 1)
      (fun i W => I i W ∧ W.heap[w.heap.size + 1]? = some (.loop (rec .ready none)) ∧ W.heap[w.heap.size]? = some (.deferred (some [])))
      (fun i W => ∃ j, Ix j i W ∧ W.heap[w.heap.size + 1]? = some (.loop (rec .done (some j))) ∧ W.heap[w.heap.size]? = some (.deferred (some [])))
      W1 hb1
      (fun s A B hs hg' => by
        have l1 := (Array.getElem?_eq_some_iff.1 hs.2.1).1
        exact ⟨hI s A B hs.1 (inM hg'), (hg'.block _ l1 (by omega)).trans hs.2.1, (hg'.block _ (by omega) (by omega)).trans hs.2.2⟩)
      (fun s A B hs hg' => by
        obtain ⟨j, hj, hl, hk⟩ := hs
        have l1 := (Array.getElem?_eq_some_iff.1 hl).1
        exact ⟨j, hIx j s A B hj (inM hg'), (hg'.block _ l1 (by omega)).trans hl, (hg'.block _ (by omega) (by omega)).trans hk⟩)
      ?_ ⟨hI1, hL1, hK1⟩).mono ?_
    · -- one round
      rintro i W hiN ⟨hi, hl, hk⟩ hWs
      have hlt : w.heap.size + 1 < W.heap.size := (Array.getElem?_eq_some_iff.1 hl).1
      have hy := run_yield (P := P) (args := encs i) hl (by rw [hrec]; exact hps i)
      rw [hrec] at hy
      refine ⟨fn, _, assign, body, hy, roundIn_of_wpIn hfn (wpIn_mono (hassign (w.heap.size + 1) i W hiN hi (by omega)) ?_)⟩
      intro e1 a1 W2 hp1
      cases e1 with
      | normal =>
        obtain ⟨hax, hkp⟩ := hp1
        have hl2 : W2.heap[w.heap.size + 1]? = some (.loop (rec .ready none)) := (hkp.block _ (.inl ⟨by omega, by omega⟩) hlt).trans hl
        have hk2 : W2.heap[w.heap.size]? = some (.deferred (some [])) := (hkp.block _ (.inl ⟨by omega, by omega⟩) (by omega)).trans hk
        have hlt2 : w.heap.size + 1 < W2.heap.size := (Array.getElem?_eq_some_iff.1 hl2).1
        refine ⟨_, run_beginRound hl2 (by rw [hrec]), ?_⟩
        obtain ⟨W3, hW3⟩ : ∃ W3, W2.putObj (w.heap.size + 1) (.loop { rec .ready none with state := .busy }) = W3 := ⟨_, rfl⟩
        rw [hW3]
        have hl3 : W3.heap[w.heap.size + 1]? = some (.loop { rec .ready none with state := .busy }) := by rw [← hW3]; exact World.putObj_heap_same hlt2
        have hk3 : W3.heap[w.heap.size]? = some (.deferred (some [])) := by rw [← hW3]; exact (World.putObj_heap_other (by omega)).trans hk2
        have hax3 : Ax i a1 W3 := by rw [← hW3]; exact hAx _ _ _ _ hax (Beside.putObj _ _ _ (by omega) (by omega))
        have hs3 : W3.heap.size = W2.heap.size := by rw [← hW3]; simp
        have hke3 : Keeps (fun k => (W1.heap.size ≤ k ∧ k < W1.heap.size + c) ∨ Cap k) W W3 := by
          have hput : Keeps (fun k => (W1.heap.size ≤ k ∧ k < W1.heap.size + c) ∨ Cap k) W2 W3 := by
            rw [← hW3]
            refine Keeps.putObj _ _ _ ?_
            rintro (hk | hk)
            · omega
            · have := hcap _ hk; omega
          refine (hkp.mono ?_).trans hput
          rintro k (hk | hk)
          · exact .inl ⟨by omega, by omega⟩
          · exact .inr hk
        refine wpIn_mono (hbody _ i a1 W3 hiN hax3 (by have := hkp.size; omega)) ?_
        have fin : ∀ (jump : Option Code) (W4 : World), Keeps (fun k => (w.heap.size ≤ k ∧ k < w.heap.size + 2 + c) ∨ Cap k) W3 W4 →
            (Instr.endRound (w.heap.size + 1) jump).run P W4 = .ok (.bool jump.isNone) (W4.putObj (w.heap.size + 1) (.loop (rec (if jump.isNone then .ready else .done) jump))) ∧
            W4.heap.size ≤ (W4.putObj (w.heap.size + 1) (.loop (rec (if jump.isNone then .ready else .done) jump))).heap.size ∧
            (W4.putObj (w.heap.size + 1) (.loop (rec (if jump.isNone then .ready else .done) jump))).heap[w.heap.size + 1]? = some (.loop (rec (if jump.isNone then .ready else .done) jump)) ∧
            (W4.putObj (w.heap.size + 1) (.loop (rec (if jump.isNone then .ready else .done) jump))).heap[w.heap.size]? = some (.deferred (some [])) := fun jump W4 hk4 => by
          have hl4 : W4.heap[w.heap.size + 1]? = some (.loop { rec .ready none with state := .busy }) := (hk4.block _ (.inl ⟨by omega, by omega⟩) (by omega)).trans hl3
          have := run_endRound (P := P) jump hl4
          rw [hrec] at this ⊢
          exact ⟨this, by simp, World.putObj_heap_same (Array.getElem?_eq_some_iff.1 hl4).1, (World.putObj_heap_other (by omega)).trans ((hk4.block _ (.inl ⟨by omega, by omega⟩) (by omega)).trans hk3)⟩
        have size4 : ∀ (jump : Option Code) (W4 : World), Keeps (fun k => (w.heap.size ≤ k ∧ k < w.heap.size + 2 + c) ∨ Cap k) W3 W4 →
            W.heap.size ≤ (W4.putObj (w.heap.size + 1) (.loop (rec (if jump.isNone then .ready else .done) jump))).heap.size := fun jump W4 hk4 => by
          have h1 := hkp.size
          have h2 := hk4.size
          have h3 := (fin jump W4 hk4).2.1
          omega
        rintro e a3 W4 hp
        cases e with
        | normal =>
          obtain ⟨hk4, hi4⟩ := hp
          obtain ⟨hr, _, hl5, hk5⟩ := fin none W4 hk4
          refine ⟨_, _, hr, .inl ⟨rfl, ⟨hI _ _ _ hi4 (Beside.putObj _ _ _ (by omega) (by omega)), hl5, hk5⟩, (hke3.trans (hk4.mono ?_)).trans (Keeps.putObj _ _ _ ?_)⟩⟩
          · rintro k (hk | hk)
            · exact .inl ⟨by omega, by omega⟩
            · exact .inr hk
          · rintro (hk | hk)
            · omega
            · have := hcap _ hk; omega
        | ret =>
          obtain ⟨hk4, hi4⟩ := hp
          obtain ⟨hr, _, hl5, hk5⟩ := fin (some .ret) W4 hk4
          exact ⟨_, _, hr, .inr ⟨rfl, ⟨.ret, hIx _ _ _ _ hi4 (Beside.putObj _ _ _ (by omega) (by omega)), hl5, hk5⟩, size4 (some .ret) W4 hk4⟩⟩
        | exit id =>
          obtain ⟨hk4, hi4⟩ := hp
          obtain ⟨hr, _, hl5, hk5⟩ := fin (some (.exit id)) W4 hk4
          exact ⟨_, _, hr, .inr ⟨rfl, ⟨.exit id, hIx _ _ _ _ hi4 (Beside.putObj _ _ _ (by omega) (by omega)), hl5, hk5⟩, size4 (some (.exit id)) W4 hk4⟩⟩
        | goto t =>
          obtain ⟨hk4, hi4⟩ := hp
          obtain ⟨hr, _, hl5, hk5⟩ := fin (some (.goto t)) W4 hk4
          exact ⟨_, _, hr, .inr ⟨rfl, ⟨.goto t, hIx _ _ _ _ hi4 (Beside.putObj _ _ _ (by omega) (by omega)), hl5, hk5⟩, size4 (some (.goto t)) W4 hk4⟩⟩
        | panic ch => exact hp.elim
        | outgrown => exact hp.elim
      | _ => exact hp1.elim
    · -- behind the iterator
      rintro e W2 ⟨⟨v, rfl⟩, (⟨hi, hl, hk⟩ | ⟨i, hiN, j, hj, hl, hk⟩)⟩
      · exact ⟨none, _, by have := run_endLoop (P := P) hl (by rw [hrec]; simp); rw [hrec] at this; exact this, hdone _ (hI _ _ _ hi (Beside.putObj _ _ _ (by omega) (by omega))) ((World.putObj_heap_other (by omega)).trans hk)⟩
      · exact ⟨some j, _, by have := run_endLoop (P := P) hl (by rw [hrec]; simp); rw [hrec] at this; exact this, hstop j i _ hiN (hIx _ _ _ _ hj (Beside.putObj _ _ _ (by omega) (by omega))) ((World.putObj_heap_other (by omega)).trans hk)⟩
end Go.Proofs.Ytclmgfcdnokaiaa
/-
  Ranges over functions, and iterators, in the engine's terms.
-/
namespace Go.Proofs.Ytclmgfcdnokaiaa
set_option linter.unusedVariables false
set_option linter.unusedSimpArgs false
open Go Go.RowKit
set_option linter.unusedVariables false

section
variable {P : Program} {ops : Array Oper} {Q : Exit → Act → World → Prop} {n : Sz} {w0 v W w : World} {L L' : List (Nat × Value)} {H A B HC X : List Ent} {o : Oper} {rest : List Oper} {ex : Exit}

theorem St.self (h : St w0 H w) : St w H w := ⟨rfl, rfl, rfl, Nat.le_refl _, h.has, fun _ _ _ => rfl, h.apart⟩
theorem St.self1 (h : St w0 (A ++ B) w) : St w A w := ⟨rfl, rfl, rfl, Nat.le_refl _, fun e he => h.has e (List.mem_append.2 (.inl he)), fun _ _ _ => rfl, (List.pairwise_append.1 h.apart).1⟩
/-- One stretch behind another. -/
theorem St.over (h : St w0 (A ++ HC) v) (k : St v B w) (h1 : ∀ e ∈ B, ∀ d ∈ HC, e.g ≠ d.g) (h2 : ∀ d ∈ A, w0.heap.size ≤ d.g ∨ ∃ e ∈ B, e.g = d.g) : St w0 (B ++ HC) w := by
  refine ⟨k.os.trans h.os, k.tape.trans h.tape, k.output.trans h.output, Nat.le_trans h.size k.size, ?_, ?_, ?_⟩
  · intro e he
    rcases List.mem_append.1 he with he | he
    · exact k.has e he
    · have hl := h.has e (List.mem_append.2 (.inr he))
      exact hl.of_block (k.old _ hl.lt (fun d hd => h1 d hd e he))
  · intro b hb hneb
    have hbv := Nat.lt_of_lt_of_le hb h.size
    refine (k.old b hbv (fun e he => hneb e (List.mem_append.2 (.inl he)))).trans (h.old b hb ?_)
    intro d hd
    rcases List.mem_append.1 hd with hd | hd
    · rcases h2 d hd with h2 | ⟨e, he, heg⟩
      · omega
      · rw [← heg]; exact hneb e (List.mem_append.2 (.inl he))
    · exact hneb d (List.mem_append.2 (.inr hd))
  · rw [List.pairwise_append]
    exact ⟨k.apart, (List.pairwise_append.1 h.apart).2.1, fun e he d hd => h1 e he d hd⟩
theorem St.dropAll : ∀ (X : List Ent), St w0 (X ++ H) w → (∀ e ∈ X, w0.heap.size ≤ e.g) → St w0 H w
  | [], h, _ => h
  | e :: X, h, hx => St.dropAll X (h.drop (hx e List.mem_cons_self)) fun d hd => hx d (List.mem_cons_of_mem _ hd)
theorem St.besides {lo hi : Nat} (h : St w0 H v) (hb : Beside lo hi v w) (h1 : ∀ e ∈ H, e.g < lo ∨ hi ≤ e.g) (h2 : w0.heap.size ≤ lo) : St w0 H w :=
  ⟨hb.os.trans h.os, hb.tape.trans h.tape, hb.output.trans h.output, Nat.le_trans h.size hb.size,
    fun e he => (h.has e he).of_block (hb.block _ (h.has e he).lt (fun hc => by have := h1 e he; omega)),
    fun b hlt hne => (hb.block b (Nat.lt_of_lt_of_le hlt h.size) (fun hc => by omega)).trans (h.old b hlt hne), h.apart⟩
theorem gs_mem {Hi H0 : List Ent} (hgs : Hi.map (·.g) = H0.map (·.g)) : ∀ e ∈ Hi, ∃ d ∈ H0, d.g = e.g := fun e he => by
  have : e.g ∈ H0.map (·.g) := by rw [← hgs]; exact List.mem_map_of_mem he
  obtain ⟨d, hd, h⟩ := List.mem_map.1 this
  exact ⟨d, hd, h⟩

theorem wpIn_num {F : Fence} (hF : F.depth = none) {m m' : Nat} {c : Code} {a : Act} (h : c.wpIn F m P Q a w) : c.wpIn F m' P Q a w := fun b k cs h1 h2 _ =>
  h b k cs h1 h2 (fun d hd => by rw [hF] at hd; cases hd)

def mark (D : Nat) : Deferred := { target := .collected D, args := #[] }
/-- Behind the assignment of a round: what the slots and the blocks are; y: from here on the round's own blocks lie. -/
def AxP (v : World) (La : Nat → List (Nat × Value)) (Ha : Nat → List Ent) (Hi : List Ent) (n : Sz) : Act → World → Prop := fun a W => ∃ y, v.heap.size ≤ y ∧ y ≤ W.heap.size ∧ Fr n (La y) a ∧ St v (Ha y ++ Hi) W
/-- How a round may be left. -/
def RoundQ (y : Nat) (v : World) (C1 : Prop) (H1 : List Ent) (Cr : Prop) (Hr : List Ent) (idb : Nat) (Cb : Prop) (Hb : List Ent) : Exit → Act → World → Prop
  | .normal, _, W => C1 ∧ ∃ X, (∀ e ∈ X, y ≤ e.g) ∧ St v (X ++ H1) W
  | .ret, _, W => Cr ∧ ∃ X, (∀ e ∈ X, y ≤ e.g) ∧ St v (X ++ Hr) W
  | .exit id, _, W => id = idb ∧ Cb ∧ ∃ X, (∀ e ∈ X, y ≤ e.g) ∧ St v (X ++ Hb) W
  | _, _, _ => False
structure MarkAt (w0 W : World) (D : Nat) (gs : List Nat) : Prop where
  new : w0.heap.size ≤ D
  here : W.heap[D]? = some (.deferred (some []))
  ne : ∀ x ∈ gs, x ≠ D
theorem TC.range {g : Operand} {p : Tmp} {assign body : Code} {gf : FuncId} {lb : List Value} {V : Nat → Value} {N c : Nat} {Cap : Nat → Prop}
    (hmd : n.md = .plain) (hds : n.ds = []) (hp : inside n (some p) = true) (hg : ev L g = some (.func (.func gf) #[] lb.toArray)) (hent : Enters P gf)
    (hit : ∀ w, St w0 H w → IterC Fence.wide 2 P gf lb.toArray (fun i => #[V i]) N c Cap w)
    (C : Nat → Prop) (Hi : Nat → List Ent) (HC : List Ent) (La : Nat → Nat → List (Nat × Value)) (Ha : Nat → Nat → List Ent)
    (Cr : Nat → Prop) (Hr : Nat → List Ent) (idb : Nat) (Cb : Nat → Prop) (Hb : Nat → List Ent)
    (hC0 : C 0) (h0 : ∀ w, St w0 H w → St w0 (Hi 0 ++ HC) w)
    (hgs : ∀ i, (Hi i).map (·.g) = (Hi 0).map (·.g)) (hgr : ∀ i, (Hr i).map (·.g) = (Hi 0).map (·.g)) (hgb : ∀ i, (Hb i).map (·.g) = (Hi 0).map (·.g))
    (hcap : ∀ w, St w0 H w → ∀ k, Cap k → k < w.heap.size ∧ ∀ e ∈ Hi 0, e.g ≠ k)
    (hHa : ∀ i y, ∀ e ∈ Ha i y, y ≤ e.g)
    (hassign : ∀ l i v, i < N → C i → St w0 (Hi i ++ HC) v → TC P (Exit.then (AxP v (La i) (Ha i) (Hi i) ⟨n.size, [], .inn (some l)⟩) (fun _ _ _ => False)) ⟨n.size, [], .inn (some l)⟩ v assign ((p, V i) :: L) (Hi i))
    (hbody : ∀ l i y v, i < N → C i → w0.heap.size ≤ y → y ≤ v.heap.size → St w0 (Ha i y ++ (Hi i ++ HC)) v →
      TC P (RoundQ y v (C (i + 1)) (Hi (i + 1)) (Cr (i + 1)) (Hr (i + 1)) idb (Cb (i + 1)) (Hb (i + 1))) ⟨n.size, [], .inn (some l)⟩ v body (La i y) (Ha i y ++ Hi i))
    (hdone : ∀ D W, C N → St w0 (Hi N ++ HC) W → MarkAt w0 W D ((Hi 0 ++ HC).map (·.g)) → TE Q .normal ⟨n.size, [mark D], .plain⟩ W L (Hi N ++ HC))
    (hret : ∀ D W i, i < N → Cr (i + 1) → St w0 (Hr (i + 1) ++ HC) W → MarkAt w0 W D ((Hi 0 ++ HC).map (·.g)) → TE Q .ret ⟨n.size, [mark D], .plain⟩ W L (Hr (i + 1) ++ HC))
    (hbrk : ∀ D W i, i < N → Cb (i + 1) → St w0 (Hb (i + 1) ++ HC) W → MarkAt w0 W D ((Hi 0 ++ HC).map (·.g)) → TE Q (.exit idb) ⟨n.size, [mark D], .plain⟩ W L (Hb (i + 1) ++ HC)) :
    TC P Q n w0 (.rangeFunc g #[p] assign body) L H := by
  intro a w hf hs
  have hall := h0 w hs
  have hltI : ∀ e ∈ Hi 0, e.g < w.heap.size := fun e he => (hall.has e (List.mem_append.2 (.inl he))).lt
  have hltC : ∀ e ∈ HC, e.g < w.heap.size := fun e he => (hall.has e (List.mem_append.2 (.inr he))).lt
  have ltG : ∀ {Hx : List Ent}, Hx.map (·.g) = (Hi 0).map (·.g) → ∀ e ∈ Hx, e.g < w.heap.size := fun hx e he => by
    obtain ⟨d, hd, h⟩ := gs_mem hx e he
    rw [← h]; exact hltI d hd
  have capG : ∀ {Hx : List Ent}, Hx.map (·.g) = (Hi 0).map (·.g) → ∀ k, Cap k → ∀ e ∈ Hx, e.g ≠ k := fun hx k hk e he => by
    obtain ⟨d, hd, h⟩ := gs_mem hx e he
    rw [← h]; exact (hcap w hs k hk).2 d hd
  have apG : ∀ {Hx : List Ent}, Hx.map (·.g) = (Hi 0).map (·.g) → ∀ e ∈ Hx, ∀ d ∈ HC, e.g ≠ d.g := fun hx e he d hd => by
    obtain ⟨e', he', h⟩ := gs_mem hx e he
    rw [← h]; exact (List.pairwise_append.1 hall.apart).2.2 e' he' d hd
  have hsz := hs.size
  rw [hmd]
  have fin : ∀ {W : World}, W.heap[w.heap.size]? = some (.deferred (some [])) → MarkAt w0 W w.heap.size ((Hi 0 ++ HC).map (·.g)) := fun hD => ⟨hsz, hD, fun x hx => by
    obtain ⟨e, he, rfl⟩ := List.mem_map.1 hx
    rcases List.mem_append.1 he with he | he
    · have := hltI e he; omega
    · have := hltC e he; omega⟩
  have frM : ∀ D, Fr ⟨n.size, [mark D], .plain⟩ L { a with defers := { target := .collected D, args := #[] } :: a.defers } := fun D => ⟨by show _ :: a.defers = _; rw [hf.1, hds]; rfl, hf.2⟩
  refine wpIn_wide.1 (wpIn_rangeFunc_it (F := Fence.wide) (n := 3) (w0 := w) rfl (by omega) (gf := gf) (lb := lb.toArray) (hf.eval hg) trivial (fun args w => run_call hent args w) (hit w hs) (Below.refl _ _) (fun k hk => (hcap w hs k hk).1) (fun _ => rfl)
    (fun i W => C i ∧ St w0 (Hi i ++ HC) W)
    (fun j i W => match j with
      | .ret => Cr i ∧ St w0 (Hr i ++ HC) W
      | .exit id => id = idb ∧ Cb i ∧ St w0 (Hb i ++ HC) W
      | _ => False)
    (fun i a W => ∃ y, w.heap.size + 2 + c ≤ y ∧ y ≤ W.heap.size ∧ Fr ⟨n.size, [], .plain⟩ (La i y) a ∧ C i ∧ St w0 (Ha i y ++ (Hi i ++ HC)) W)
    ?hI ?hIx ?hAx ⟨hC0, hall⟩ ?assign ?body ?done ?stop)
  case hI =>
    rintro i A B ⟨h1, h2⟩ hb
    refine ⟨h1, h2.besides hb (fun e he => ?_) hsz⟩
    rcases List.mem_append.1 he with he | he
    · exact .inl (ltG (hgs i) e he)
    · exact .inl (hltC e he)
  case hIx =>
    rintro j i A B h hb
    have step : ∀ {Hx : List Ent}, Hx.map (·.g) = (Hi 0).map (·.g) → St w0 (Hx ++ HC) A → St w0 (Hx ++ HC) B := fun hx h2 => h2.besides hb (fun e he => by
      rcases List.mem_append.1 he with he | he
      · exact .inl (ltG hx e he)
      · exact .inl (hltC e he)) hsz
    cases j with
    | ret => exact ⟨h.1, step (hgr i) h.2⟩
    | exit id => exact ⟨h.1, h.2.1, step (hgb i) h.2.2⟩
    | _ => exact h.elim
  case hAx =>
    rintro i a' A B ⟨y, hy, hyA, hfr, hC, h2⟩ hb
    refine ⟨y, hy, Nat.le_trans hyA hb.size, hfr, hC, h2.besides hb (fun e he => ?_) hsz⟩
    rcases List.mem_append.1 he with he | he
    · exact .inr (Nat.le_trans hy (hHa i y e he))
    · rcases List.mem_append.1 he with he | he
      · exact .inl (ltG (hgs i) e he)
      · exact .inl (hltC e he)
  case assign =>
    rintro l i W hiN ⟨hC, hSt⟩ hWs
    have hfr : Fr ⟨n.size, [], .inn (some l)⟩ ((p, V i) :: L) { tmps := ((#[p] : Array Tmp).zip #[V i]).foldl (fun t (p, v) => t.setIfInBounds p v) a.tmps, defers := [] } := by
      have h := hf.put (some p) (V i) hp
      refine ⟨rfl, ?_, ?_⟩
      · simpa [Act.put] using h.2.1
      · have h3 := h.2.2
        unfold Proofs.Ytclmgfcdnokaiaa.put at h3
        simpa [Act.put] using h3
    have h := hassign l i W hiN hC hSt _ W hfr hSt.self1
    refine wpIn_mono (wpIn_num (F := Fence.wide.inRound l) rfl (m := 2) h) ?_
    intro e a1 W1 hq
    cases e with
    | normal =>
      obtain ⟨y, hy, hyW, hfr1, hst⟩ := hq
      refine ⟨⟨y, by omega, hyW, ⟨hfr1.1, hfr1.2⟩, hC, ?_⟩, hst.size, ?_⟩
      · have := St.over hSt hst (fun e he d hd => by
          rcases List.mem_append.1 he with he | he
          · have h1 := hHa i y e he
            have h2 := hltC d hd
            omega
          · exact apG (hgs i) e he d hd) (fun d hd => .inr ⟨d, List.mem_append.2 (.inr hd), rfl⟩)
        rw [List.append_assoc] at this
        exact this
      · intro k hk hkW
        refine hst.old k hkW fun e he => ?_
        rcases List.mem_append.1 he with he | he
        · have h1 := hHa i y e he
          omega
        · rcases hk with hk | hk
          · have := ltG (hgs i) e he; omega
          · exact capG (hgs i) k hk e he
    | _ => exact hq.elim
  case body =>
    rintro l i a1 W hiN ⟨y, hy, hyW, hfr, hC, hSt⟩ hWs
    have hSt' : St w0 ((Ha i y ++ Hi i) ++ HC) W := by rw [List.append_assoc]; exact hSt
    have h := hbody l i y W hiN hC (by omega) hyW hSt a1 W ⟨hfr.1, hfr.2⟩ hSt'.self1
    refine wpIn_mono (wpIn_num (F := Fence.wide.inRound l) rfl (m := 2) h) ?_
    have keep : ∀ {Hx X : List Ent} {W' : World}, Hx.map (·.g) = (Hi 0).map (·.g) → (∀ e ∈ X, y ≤ e.g) → St W (X ++ Hx) W' →
        Keeps (fun k => (w.heap.size ≤ k ∧ k < w.heap.size + 2 + c) ∨ Cap k) W W' ∧ St w0 (Hx ++ HC) W' := fun {Hx X W'} hx hX hst => by
      refine ⟨⟨hst.size, fun k hk hkW => hst.old k hkW fun e he => ?_⟩, ?_⟩
      · rcases List.mem_append.1 he with he | he
        · have h1 := hX e he
          rcases hk with hk | hk
          · omega
          · have := (hcap w hs k hk).1; omega
        · rcases hk with hk | hk
          · have := ltG hx e he; omega
          · exact capG hx k hk e he
      · have := St.over hSt' hst (fun e he d hd => by
          rcases List.mem_append.1 he with he | he
          · have h1 := hX e he
            have h2 := hltC d hd
            omega
          · exact apG hx e he d hd) (fun d hd => by
          rcases List.mem_append.1 hd with hd | hd
          · have := hHa i y d hd
            exact .inl (by omega)
          · have hdm : d.g ∈ Hx.map (·.g) := by rw [hx, ← hgs i]; exact List.mem_map_of_mem hd
            obtain ⟨e, he, h⟩ := List.mem_map.1 hdm
            exact .inr ⟨e, List.mem_append.2 (.inr he), h⟩)
        rw [List.append_assoc] at this
        exact St.dropAll X this fun e he => by have := hX e he; omega
    intro e a2 W2 hq
    cases e with
    | normal =>
      obtain ⟨h1, X, hX, h2⟩ := hq
      have ⟨k1, k2⟩ := keep (hgs (i + 1)) hX h2
      exact ⟨k1, h1, k2⟩
    | ret =>
      obtain ⟨h1, X, hX, h2⟩ := hq
      have ⟨k1, k2⟩ := keep (hgr (i + 1)) hX h2
      exact ⟨k1, h1, k2⟩
    | exit id =>
      obtain ⟨h0, h1, X, hX, h2⟩ := hq
      have ⟨k1, k2⟩ := keep (hgb (i + 1)) hX h2
      exact ⟨k1, h0, h1, k2⟩
    | _ => exact hq.elim
  case done =>
    rintro W ⟨h1, h2⟩ hD
    exact hdone _ W h1 h2 (fin hD) _ W (frM _) h2.self
  case stop =>
    rintro j i W hiN h hD
    cases j with
    | ret => exact wpIn_ret (hret _ W i hiN h.1 h.2 (fin hD) _ W (frM _) h.2.self)
    | exit id =>
      obtain ⟨rfl, h1, h2⟩ := h
      exact wpIn_exit (hbrk _ W i hiN h1 h2 (fin hD) _ W (frM _) h2.self)
    | _ => exact h.elim

/-! ### A function that holds such a statement -/
/-! ### An iterator -/
theorem TL.yield {l t : Nat} {xs : List Operand} {vs : List Value} {ts : Array TypeId} {T U : World → Prop} (hmd : n.md = .inn none) (hg : Wants n ops L o) (hi : inside n o.dst = true)
    (ho : o.op = .call { callee := .value (.tmp t), args := xs.toArray, argTypes := ts }) (ht : look L t = some (.func (.yield l) #[] #[])) (hx : evs L xs = some vs)
    (hy : ∀ w, St w0 H w → YieldAt Fence.wide 1 P l vs.toArray w fun e w' => (e = .returned (.bool true) ∧ T w') ∨ (e = .returned (.bool false) ∧ U w'))
    (h1 : ∀ v, T v → TL P ops Q n v rest (put L o.dst (.bool true)) []) (h2 : ∀ v, U v → TL P ops Q n v rest (put L o.dst (.bool false)) []) : TL P ops Q n w0 (o :: rest) L H := by
  intro a w hf hs
  obtain ⟨fn, tmps, assign, body, hyl, hr⟩ := hy w hs
  have h1' : ∀ v, T v → wpL n.md P ops Q rest (a.put o.dst (.bool true)) v := fun v hv => h1 v hv _ v (hf.put o.dst _ hi) (St.refl v)
  have h2' : ∀ v, U v → wpL n.md P ops Q rest (a.put o.dst (.bool false)) v := fun v hv => h2 v hv _ v (hf.put o.dst _ hi) (St.refl v)
  rw [hmd] at h1' h2' ⊢
  have hm := hf.evals hx
  have hev : a.eval (.tmp t) = .func (.yield l) #[] #[] := hf.eval (x := .tmp t) ht
  have hrun : (execOp a.eval o).run P w = .ok (.round l fn tmps assign body) w := by
    simp only [execOp, ho, resolve, hev, Deferred.ofValue, Sem.run_bind, Sem.run_pure, Result.andThen_ok, List.map_toArray, hm, invoke]
    simpa using hyl
  refine wpListIn_step fun K hK => ?_
  rw [if_pos (hg a hf)]
  refine ⟨fun _ _ => trivial, ?_⟩
  have hsem : (o.semAt (wideAt none).round a.eval).run P w = .ok (.round l fn tmps assign body) w := hrun
  rw [hsem]
  refine ⟨fun hd => by simp [wideAt, Fence.wide] at hd, ?_⟩
  refine RoundIn.mono (R := fun e w' => (e = .returned (.bool true) ∧ T w') ∨ (e = .returned (.bool false) ∧ U w')) ?_ ?_
  · exact hr
  · rintro e w' (⟨rfl, hT⟩ | ⟨rfl, hU⟩)
    · exact hK _ _ (h1' w' hT)
    · exact hK _ _ (h2' w' hU)
/-! ### Function values -/
theorem run_enterF {f : FuncId} {t : Nat} {lb : List Value} {xs : List Operand} {ts : Array TypeId} {vs : List Value} {a : Act} {w : World} (h : Enters P f) (ho : o.op = .call { callee := .value (.tmp t), args := xs.toArray, argTypes := ts }) (hf : Fr n L a)
    (ht : look L t = some (.func (.func f) #[] lb.toArray)) (hx : evs L xs = some vs) : (execOp a.eval o).run P w = .ok (.enter f (vs ++ lb).toArray) w := by
  have hm := hf.evals hx
  have hev : a.eval (.tmp t) = .func (.func f) #[] lb.toArray := hf.eval (x := .tmp t) ht
  simp only [execOp, ho, resolve, hev, Deferred.ofValue, Sem.run_bind, Sem.run_pure, Result.andThen_ok, List.map_toArray, hm, invoke]
  simp [run_call h]
theorem TL.callF {ι : Type} {f : FuncId} {t : Nat} {lb : List Value} {xs : List Operand} {ts : Array TypeId} {vs : List Value} {V : ι → Value} {R : ι → Prop} {H' : ι → List Ent} (hg : Wants n ops L o) (hi : inside n o.dst = true) (h : Enters P f)
    (ho : o.op = .call { callee := .value (.tmp t), args := xs.toArray, argTypes := ts }) (ht : look L t = some (.func (.func f) #[] lb.toArray)) (hx : evs L xs = some vs)
    (hc : ∀ w, St w0 H w → Calls P f (vs ++ lb).toArray w fun e w' => ∃ i, e = .returned (V i) ∧ R i ∧ St w0 (H' i) w')
    (hr : ∀ i, R i → TL P ops Q n w0 rest (put L o.dst (V i)) (H' i)) : TL P ops Q n w0 (o :: rest) L H :=
  fun a w hf hs => wpL_wants hg.nd (hg a hf) fun K hK => by
    unfold Oper.wp; rw [run_enterF h ho hf ht hx]
    refine (hc w hs).mono ?_
    rintro e w' ⟨i, rfl, hR, hs'⟩
    exact hK _ _ (hr i hR _ _ (hf.put o.dst _ hi) hs')
theorem TL.call0F {f : FuncId} {t : Nat} {lb : List Value} {xs : List Operand} {ts : Array TypeId} {vs : List Value} {u : Value} (hg : Wants n ops L o) (hi : inside n o.dst = true) (h : Enters P f)
    (ho : o.op = .call { callee := .value (.tmp t), args := xs.toArray, argTypes := ts }) (ht : look L t = some (.func (.func f) #[] lb.toArray)) (hx : evs L xs = some vs)
    (hc : ∀ w, St w0 H w → Calls P f (vs ++ lb).toArray w fun e w' => e = .returned u ∧ St w [] w')
    (hr : TL P ops Q n w0 rest (put L o.dst u) H) : TL P ops Q n w0 (o :: rest) L H :=
  TL.callF (ι := Unit) (V := fun _ => u) (R := fun _ => True) (H' := fun _ => H) hg hi h ho ht hx (fun w hs => (hc w hs).mono fun e w' ⟨he, hw⟩ => ⟨(), he, trivial, hs.call' hw⟩) fun _ _ => hr
theorem Gets.makeFunc {fn : Fn} {xs ys : List Operand} {us vs : List Value} (ho : o.op = .makeFunc fn xs.toArray ys.toArray) (hx : evs L xs = some us) (hy : evs L ys = some vs) : Gets P n w0 o L H (.func fn us.toArray vs.toArray) := fun a w hf hs => by
  have h1 := hf.evals hx
  have h2 := hf.evals hy
  simp only [execOp, ho, List.map_toArray, h1, h2]
  rfl
end
end Go.Proofs.Ytclmgfcdnokaiaa
/-
  The reader: its block, its bytes, what its calls leave.
-/
namespace Go.Proofs.Ytclmgfcdnokaiaa
set_option linter.unusedVariables false
set_option linter.unusedSimpArgs false
set_option linter.unusedVariables false
open Go Go.RowKit
/-! ### Calls that turn blocks of the caller's and leave new ones -/
theorem St.turns {w0 w w' : World} {H F H' E : List Ent} (h : St w0 (H ++ F) w) (hb : St w (H' ++ E) w') (hg : H'.map Ent.g = H.map Ent.g) (hE : ∀ e ∈ E, w.heap.size ≤ e.g) : St w0 (H' ++ (E ++ F)) w' := by
  have hmem : ∀ d ∈ H', ∃ d' ∈ H, d'.g = d.g := fun d hd => by
    have : d.g ∈ H.map Ent.g := hg ▸ List.mem_map_of_mem hd
    obtain ⟨d', h1, h2⟩ := List.mem_map.1 this
    exact ⟨d', h1, h2⟩
  have hmem2 : ∀ d ∈ H, ∃ d' ∈ H', d'.g = d.g := fun d hd => by
    have : d.g ∈ H'.map Ent.g := hg ▸ List.mem_map_of_mem hd
    obtain ⟨d', h1, h2⟩ := List.mem_map.1 this
    exact ⟨d', h1, h2⟩
  obtain ⟨a1, a2, a3⟩ := List.pairwise_append.1 h.apart
  obtain ⟨b1, b2, b3⟩ := List.pairwise_append.1 hb.apart
  have hF : ∀ f ∈ F, ∀ d ∈ H' ++ E, d.g ≠ f.g := fun f hf d hd => by
    have hlt := (h.has f (List.mem_append_right _ hf)).lt
    rcases List.mem_append.1 hd with hd | hd
    · obtain ⟨d', h1, h2⟩ := hmem d hd
      rw [← h2]; exact a3 d' h1 f hf
    · have := hE d hd; omega
  refine ⟨hb.os.trans h.os, hb.tape.trans h.tape, hb.output.trans h.output, Nat.le_trans h.size hb.size, ?_, ?_, ?_⟩
  · intro e he
    rcases List.mem_append.1 he with he | he
    · exact hb.has e (List.mem_append_left _ he)
    · rcases List.mem_append.1 he with he | he
      · exact hb.has e (List.mem_append_right _ he)
      · have hl := h.has e (List.mem_append_right _ he)
        exact hl.of_block (hb.old _ hl.lt (hF e he))
  · intro b hlt hne
    refine (hb.old b (Nat.lt_of_lt_of_le hlt h.size) fun d hd => ?_).trans (h.old b hlt fun d hd => ?_)
    · rcases List.mem_append.1 hd with hd | hd
      · exact hne d (List.mem_append_left _ hd)
      · exact hne d (List.mem_append_right _ (List.mem_append_left _ hd))
    · rcases List.mem_append.1 hd with hd | hd
      · obtain ⟨d', h1, h2⟩ := hmem2 d hd
        rw [← h2]; exact hne d' (List.mem_append_left _ h1)
      · exact hne d (List.mem_append_right _ (List.mem_append_right _ hd))
  · rw [List.pairwise_append]
    refine ⟨b1, ?_, ?_⟩
    · rw [List.pairwise_append]
      exact ⟨b2, a2, fun d hd f hf => hF f hf d (List.mem_append_right _ hd)⟩
    · intro d hd f hf
      rcases List.mem_append.1 hf with hf | hf
      · exact b3 d hd f hf
      · exact hF f hf d (List.mem_append_left _ hd)
theorem perm_erase {α : Type} {a : α} : ∀ {l : List α} {i : Nat}, l[i]? = some a → (a :: l.eraseIdx i).Perm l
  | [], i, h => by simp at h
  | b :: l, 0, h => by simp at h; subst h; exact List.Perm.refl _
  | b :: l, i + 1, h => by
    simp at h
    exact (List.Perm.swap _ _ _).trans ((perm_erase (l := l) h).cons b)
theorem perm_set {α : Type} {e : α} : ∀ {l : List α} {i : Nat}, i < l.length → (l.set i e).Perm (e :: l.eraseIdx i)
  | [], i, h => by simp at h
  | b :: l, 0, h => List.Perm.refl _
  | b :: l, i + 1, h => ((perm_set (l := l) (by simpa using h)).cons b).trans (List.Perm.swap _ _ _)
/-- A call that turns one block and leaves new ones behind. -/
theorem St.turnE {w0 w w' : World} {H E : List Ent} {i : Nat} {d e : Ent} (h : St w0 H w) (hi : H[i]? = some d) (hg : e.g = d.g) (hb : St w (e :: E) w') (hE : ∀ x ∈ E, w.heap.size ≤ x.g) : St w0 (H.set i e ++ E) w' := by
  obtain ⟨hlt, hd⟩ := List.getElem?_eq_some_iff.1 hi
  have h1 : (d :: H.eraseIdx i).Perm H := perm_erase hi
  have h2 : (H.set i e).Perm (e :: H.eraseIdx i) := perm_set hlt
  have h3 := St.turns (H := [d]) (F := H.eraseIdx i) (H' := [e]) (E := E) (h.perm h1.symm) hb (by simp [hg]) hE
  refine h3.perm ?_
  have h4 : ([e] ++ (E ++ H.eraseIdx i)).Perm ([e] ++ (H.eraseIdx i ++ E)) := List.Perm.append_left _ List.perm_append_comm
  refine h4.trans ?_
  rw [← List.append_assoc]
  exact List.Perm.append_right _ h2.symm
theorem St.assoc3 {w0 w : World} {X Y Z : List Ent} (h : St w0 ((X ++ Y) ++ Z) w) : St w0 (X ++ (Y ++ Z)) w := by rw [List.append_assoc] at h; exact h
/-- A block of which all cells are known, and which has come out as it was. -/
theorem St.same {w w' : World} {e : Ent} (h : St w [e] w') (hl : e.lies w) (hn : e.cs.length = e.tot) : St w [] w' := by
  have key : ∀ {u : World}, e.lies u → u.heap[e.g]? = some (.cells e.cs.toArray e.t (0, 0)) := fun {u} hu => by
    obtain ⟨cur, h1, h2, h3⟩ := hu
    rw [h1]
    have : cur = e.cs.toArray := by
      apply Array.ext_getElem?
      intro i
      by_cases hi : i < e.cs.length
      · rw [h3 i _ (List.getElem?_eq_getElem hi)]; simp [hi]
      · rw [Array.getElem?_eq_none (by omega)]; simp; omega
    rw [this]
  refine ⟨h.os, h.tape, h.output, h.size, by simp, fun b hb _ => ?_, .nil⟩
  by_cases hbg : b = e.g
  · subst hbg
    rw [key (h.has e (by simp)), key hl]
  · exact h.old b hb (fun d hd => by rw [List.mem_singleton.1 hd]; exact fun x => hbg x.symm)
/-- Less is known of a block. -/
theorem St.blank {w0 w : World} {g t tot : Nat} {cs : List Value} {H : List Ent} (h : St w0 (⟨g, t, cs, tot⟩ :: H) w) : St w0 (⟨g, t, [], tot⟩ :: H) w := by
  refine ⟨h.os, h.tape, h.output, h.size, fun e he => ?_, fun b hb hne => h.old b hb fun e he => ?_, ?_⟩
  · rcases List.mem_cons.1 he with rfl | he
    · obtain ⟨cur, h1, h2, h3⟩ := h.has ⟨g, t, cs, tot⟩ List.mem_cons_self
      exact ⟨cur, h1, h2, fun j u hu => by simp at hu⟩
    · exact h.has e (List.mem_cons_of_mem _ he)
  · rcases List.mem_cons.1 he with rfl | he
    · exact hne ⟨g, t, [], tot⟩ List.mem_cons_self
    · exact hne e (List.mem_cons_of_mem _ he)
  · have := List.pairwise_cons.1 h.apart
    exact .cons this.1 this.2
/-! ### Bytes that lie beside some blocks -/
def SrcX (w : World) (X : List Nat) (A : Option Addr) (m : Nat) (kd : IntKind) (B : List Int) : Prop := B.length = m ∧ (m = 0 ∨ ∃ b off, A = some ⟨b, off, none⟩ ∧ b < w.heap.size ∧ (∀ x ∈ X, b ≠ x) ∧ RowI w b off m kd B)
section
variable {w0 w : World} {g m : Nat} {A : Option Addr} {kd : IntKind} {B : List Int} {H : List Ent} {X Y : List Nat}
theorem SrcX.at_ (h : SrcX w0 X A m kd B) (hs : St w0 H w) (hH : ∀ b, b < w0.heap.size → (∀ x ∈ X, b ≠ x) → ∀ e ∈ H, e.g ≠ b) : SrcX w X A m kd B := by
  obtain ⟨h1, h2⟩ := h
  refine ⟨h1, ?_⟩
  rcases h2 with h2 | ⟨b, off, hA, hb, hne, hr⟩
  · exact .inl h2
  · exact .inr ⟨b, off, hA, Nat.lt_of_lt_of_le hb hs.size, hne, fun j hj => (hs.old_cell (ad := ⟨b, off + j, none⟩) hb (hH b hb hne)).trans (hr j hj)⟩
theorem SrcX.src (h : SrcX w X A m kd B) : Src w A m kd B := by
  obtain ⟨h1, h2⟩ := h
  refine ⟨h1, ?_⟩
  rcases h2 with h2 | ⟨b, off, hA, hb, hne, hr⟩
  · exact .inl h2
  · exact .inr ⟨b, off, hA, hb, hr⟩
theorem SrcX.sub (h : SrcX w X A m kd B) (hY : ∀ y ∈ Y, y ∈ X) : SrcX w Y A m kd B := by
  obtain ⟨h1, h2⟩ := h
  refine ⟨h1, ?_⟩
  rcases h2 with h2 | ⟨b, off, hA, hb, hne, hr⟩
  · exact .inl h2
  · exact .inr ⟨b, off, hA, hb, fun y hy => hne y (hY y hy), hr⟩
theorem SrcX.more (h : SrcX w X A m kd B) (hg : w.heap.size ≤ g) : SrcX w (g :: X) A m kd B := by
  obtain ⟨h1, h2⟩ := h
  refine ⟨h1, ?_⟩
  rcases h2 with h2 | ⟨b, off, hA, hb, hne, hr⟩
  · exact .inl h2
  · refine .inr ⟨b, off, hA, hb, fun x hx => ?_, hr⟩
    rcases List.mem_cons.1 hx with rfl | hx
    · omega
    · exact hne x hx
theorem SrcX.head (h : SrcX w X A m kd B) {n : Nat} (hl : n ≤ m) : SrcX w X A n kd (B.take n) := by
  obtain ⟨h1, h2⟩ := h
  refine ⟨by simp; omega, ?_⟩
  rcases h2 with h2 | ⟨b, off, hA, hb, hne, hr⟩
  · exact .inl (by omega)
  · refine .inr ⟨b, off, hA, hb, hne, fun j hj => ?_⟩
    rw [hr j (by omega)]
    simp [List.getD_eq_getElem?_getD, List.getElem?_take, hj]
theorem SrcX.drop {c l : Nat} (h : SrcX w X A m kd B) (hl : l ≤ m) (hc : m ≤ c) : SrcX w X (cutA A c l 1) (m - l) kd (B.drop l) := by
  obtain ⟨h1, h2⟩ := h
  refine ⟨by simp [h1], ?_⟩
  rcases h2 with h2 | ⟨b, off, hA, hb, hne, hr⟩
  · exact .inl (by omega)
  · by_cases hlm : l = m
    · exact .inl (by omega)
    · subst hA
      refine .inr ⟨b, off + l, by rw [cut_is (o' := off + l) (by omega) (by omega)], hb, hne, fun j hj => ?_⟩
      have := hr (l + j) (by omega)
      rw [← Nat.add_assoc] at this
      rw [this]
      simp [List.getD_eq_getElem?_getD, List.getElem?_drop]
theorem Src.toX (h : Src w A m kd B) (hne : ∀ b off, A = some ⟨b, off, none⟩ → ∀ x ∈ X, b ≠ x) : SrcX w X A m kd B := by
  obtain ⟨h1, h2⟩ := h
  refine ⟨h1, ?_⟩
  rcases h2 with h2 | ⟨b, off, hA, hb, hr⟩
  · exact .inl h2
  · exact .inr ⟨b, off, hA, hb, hne b off hA, hr⟩
theorem Src.toX0 (h : Src w A m kd B) : SrcX w [] A m kd B := h.toX (fun _ _ _ x hx => by cases hx)
theorem Own.srcX {N t c : Nat} {He : List Ent} (h : Own N t kd (.slice A m c) B He) (hs : ∀ e ∈ He, e.lies w) (hne : ∀ e ∈ He, ∀ x ∈ X, e.g ≠ x) : SrcX w X A m kd B := by
  refine Src.toX (h.srcOf hs) fun b off hA => ?_
  rcases h with ⟨h1, _⟩ | ⟨g', cap, h1, h2, _⟩
  · cases h1; cases hA
  · cases h1; cases hA
    exact hne _ (by rw [h2]; exact List.mem_singleton.2 rfl)
theorem St.beside {F : List Ent} {d : Ent} (h : St w0 (H ++ F) w) (hd : d ∈ H) : ∀ e ∈ F, e.g ≠ d.g := fun e he => ((List.pairwise_append.1 h.apart).2.2 d hd e he).symm
theorem calls_no {Pr : Program} {f : FuncId} {args : Array Value} {w : World} {p : Prop} [Decidable p] (hp : ¬ p) (h : Calls Pr f args w fun e w' => e = .returned (.bool (decide p)) ∧ St w [] w') : Calls Pr f args w fun e w' => e = .returned (.bool false) ∧ St w [] w' := by
  rw [decide_eq_false hp] at h; exact h
theorem TP.call0 {P : Program} {ops : Array Oper} {Q : Exit → Act → World → Prop} {n : Sz} {L : List (Nat × Value)} {HB : List Ent} {ks : List Nat} {o : Oper} {rest : List Oper} {f : FuncId} {xs : List Operand} {ts : Array TypeId} {vs : List Value} {v : Value} (hg : Wants n ops L o) (hi : inside n o.dst = true) (h : Enters P f)
    (ho : o.op = .call { callee := .value (.func f), args := xs.toArray, argTypes := ts }) (hx : evs L xs = some vs)
    (hc : ∀ w, St w0 (HB ++ H) w → Calls P f vs.toArray w fun e w' => e = .returned v ∧ St w [] w')
    (hr : TP P ops Q n w0 HB ks rest (put L o.dst v) H) : TP P ops Q n w0 HB (3 :: ks) (o :: rest) L H :=
  TP.call (ι := Unit) (V := fun _ => v) (R := fun _ => True) (H' := fun _ => H) hg hi h ho hx (fun w hs => (hc w hs).mono fun e w' ⟨he, hw⟩ => ⟨(), he, trivial, hs.call' hw⟩) fun _ _ => hr
theorem St.one {e e' : Ent} (h : St w0 [e] w) (he : e = e') : St w0 [e'] w := he ▸ h
end
/-! ### The reader's cells -/
def rdC (A : Option Addr) (m c k : Nat) (co po : Int) : List Value := [.slice A m c, .int .i64 (k : Int), .int .i64 co, .int .i64 po]
def rdN : Nat := 4
/-! ### Numbers of bytes -/
theorem valB_natR : ∀ {B : List Int}, Bytes B → ∃ v : Nat, valB B.reverse = (v : Int) ∧ v < 256 ^ B.length
  | [], _ => ⟨0, rfl, by simp⟩
  | b :: l, h => by
    obtain ⟨v, h1, h2⟩ := valB_natR (B := l) (fun x hx => h x (List.mem_cons_of_mem _ hx))
    have hb := h b List.mem_cons_self
    obtain ⟨c, rfl⟩ := Int.eq_ofNat_of_zero_le hb.1
    refine ⟨256 * v + c, by rw [List.reverse_cons, valB_snoc, h1]; omega, ?_⟩
    rw [List.length_cons, Nat.pow_succ]
    omega
theorem valB_nat {B : List Int} (h : Bytes B) : ∃ v : Nat, valB B = (v : Int) ∧ v < 256 ^ B.length := by
  have := valB_natR (B := B.reverse) (fun x hx => h x (List.mem_reverse.1 hx))
  rw [List.reverse_reverse, List.length_reverse] at this; exact this
theorem valB_bd {B : List Int} (h : Bytes B) (hl : B.length ≤ 8) : 0 ≤ valB B ∧ valB B ≤ 18446744073709551615 := by
  obtain ⟨v, h1, h2⟩ := valB_nat h
  have : (256 : Nat) ^ B.length ≤ 256 ^ 8 := Nat.pow_le_pow_right (by decide) hl
  have h3 : (256 : Nat) ^ 8 = 18446744073709551616 := by decide
  omega
theorem wrap64_nat {y : Nat} (h : y < 18446744073709551616) : IntKind.u64.wrap (y : Int) = (y : Int) := by
  simp [IntKind.wrap, IntKind.signed, IntKind.bits]; omega
theorem shl_or {a b : Nat} (ha : a < 72057594037927936) (hb : b < 256) : orI .u64 (shlI .u64 (a : Int) 8) (b : Int) = ((256 * a + b : Nat) : Int) := by
  have h1 : shlI .u64 (a : Int) 8 = ((a * 256 : Nat) : Int) := by
    unfold shlI
    have : ((a : Int) * 2 ^ min (Int.toNat 8) IntKind.u64.bits) = ((a * 256 : Nat) : Int) := by
      rw [show min (Int.toNat 8) IntKind.u64.bits = 8 from rfl]; omega
    rw [this, wrap64_nat (by omega)]
  rw [h1]
  unfold orI
  have h3 : a * 256 ||| b = 256 * a + b := by
    have := Nat.shiftLeft_add_eq_or_of_lt (i := 8) (b := b) hb a
    rw [Nat.shiftLeft_eq] at this
    rw [show a * 256 = a * 2 ^ 8 by rfl, ← this]; omega
  have h4 : ((BitVec.ofInt 64 ((a * 256 : Nat) : Int) ||| BitVec.ofInt 64 (b : Int)).toNat) = 256 * a + b := by
    rw [BitVec.ofInt_natCast, BitVec.ofInt_natCast, BitVec.toNat_or, BitVec.toNat_ofNat, BitVec.toNat_ofNat, Nat.mod_eq_of_lt (by omega), Nat.mod_eq_of_lt (by omega), h3]
  show IntKind.u64.wrap (((BitVec.ofInt 64 ((a * 256 : Nat) : Int) ||| BitVec.ofInt 64 (b : Int)).toNat : Nat) : Int) = _
  rw [h4, wrap64_nat (by omega)]
theorem valB_step {D : List Int} {i : Nat} (hB : Bytes D) (hi : i < D.length) (h8 : D.length ≤ 8) : orI .u64 (shlI .u64 (valB (D.take i)) 8) (D.getD i 0) = valB (D.take (i + 1)) := by
  obtain ⟨v, h1, h2⟩ := valB_nat (hB.take i)
  have hl : (D.take i).length = i := by simp; omega
  rw [hl] at h2
  have h3 : (256 : Nat) ^ i ≤ 256 ^ 7 := Nat.pow_le_pow_right (by decide) (by omega)
  have h4 : (256 : Nat) ^ 7 = 72057594037927936 := by decide
  have hb := hB.get i
  obtain ⟨b, hb2⟩ := Int.eq_ofNat_of_zero_le hb.1
  rw [take_snoc hi, valB_snoc, h1, hb2, shl_or (by omega) (by omega)]; omega
/-! ### The length of a number -/
def lenB (x : Nat) : Nat := if x = 0 then 0 else Nat.log2 x + 1
def lenI (x : Int) : Int := (lenB x.toNat : Int)
theorem lenB_le {x q : Nat} : lenB x ≤ q ↔ x < 2 ^ q := by
  unfold lenB
  by_cases h : x = 0
  · subst h; simp [Nat.pow_pos]
  · rw [if_neg h, ← Nat.log2_lt h]; omega
theorem lenB_shr {x y s : Nat} (h : 2 ^ s ≤ x) (hy : y = x / 2 ^ s) : lenB x = lenB y + s := by
  have h2 : 0 < 2 ^ s := Nat.pow_pos (by decide)
  apply Nat.le_antisymm
  · rw [lenB_le, Nat.pow_add]
    have h1 : y < 2 ^ lenB y := lenB_le.1 (Nat.le_refl _)
    subst hy
    exact (Nat.div_lt_iff_lt_mul h2).1 h1
  · have h1 : x < 2 ^ lenB x := lenB_le.1 (Nat.le_refl _)
    have hs : s ≤ lenB x := by
      apply Nat.le_of_not_lt
      intro hlt
      have := Nat.pow_le_pow_right (n := 2) (by decide) (Nat.le_of_lt hlt)
      omega
    have h3 : lenB y ≤ lenB x - s := by
      rw [lenB_le]
      subst hy
      rw [Nat.div_lt_iff_lt_mul h2, ← Nat.pow_add, Nat.sub_add_cancel hs]; exact h1
    omega
theorem len_fit {x n : Int} (hx : 0 ≤ x ∧ x ≤ 18446744073709551615) (hn : 1 ≤ n ∧ n ≤ 8) : 8 * n < lenI x ↔ ¬ fitV x n := by
  obtain ⟨y, rfl⟩ := Int.eq_ofNat_of_zero_le hx.1
  obtain ⟨k, rfl⟩ := Int.eq_ofNat_of_zero_le (show 0 ≤ n by omega)
  unfold lenI fitV
  rw [Int.toNat_natCast]
  have h1 : (8 * (k : Int)) = ((8 * k : Nat) : Int) := by omega
  rw [h1, shr_nat (by omega)]
  have h2 := lenB_le (x := y) (q := 8 * k)
  have h3 : y / 2 ^ (8 * k) = 0 ↔ y < 2 ^ (8 * k) := Nat.div_eq_zero_iff_lt (Nat.pow_pos (by decide))
  have h4 : k = 8 → y < 2 ^ (8 * k) := fun h => by subst h; omega
  constructor
  · rintro h ⟨h5, h6, h7⟩
    have h8 : ¬ y < 2 ^ (8 * k) := fun h9 => by have := h2.2 h9; omega
    rcases h7 with h7 | h7
    · exact h8 (h4 (by omega))
    · exact h8 (h3.1 (by omega))
  · intro h
    apply Int.lt_of_not_ge
    intro hge
    have h9 := h2.1 (by omega)
    exact h ⟨by omega, by omega, .inr (by have := h3.2 h9; omega)⟩
/-! ### Prefixes -/
end Go.Proofs.Ytclmgfcdnokaiaa
/-
  Mathematics of deltas, no program in it: targets that do not overlap and cover an interval: the smallest gap, sums of lengths, the sorted order.
-/
namespace Go.Proofs.Ytclmgfcdnokaiaa
set_option linter.unusedVariables false
set_option linter.unusedSimpArgs false
/-- A target: where it begins, how long it is. -/
def hasB (p : Int × Int) (x : Int) : Prop := p.1 ≤ x ∧ x < p.1 + p.2
instance (p : Int × Int) (x : Int) : Decidable (hasB p x) := by unfold hasB; infer_instance
def okT (a N : Int) (p : Int × Int) : Prop := a ≤ p.1 ∧ 1 ≤ p.2 ∧ p.1 + p.2 ≤ N
def apartT (p q : Int × Int) : Prop := p.1 + p.2 ≤ q.1 ∨ q.1 + q.2 ≤ p.1
theorem apartT.symm {p q : Int × Int} (h : apartT p q) : apartT q p := Or.symm h
/-- All targets are valid, and no two overlap. -/
def tidyT (a N : Int) (l : List (Int × Int)) : Prop := (∀ p ∈ l, okT a N p) ∧ l.Pairwise apartT
def coverT (a N : Int) (l : List (Int × Int)) : Prop := ∀ x, a ≤ x → x < N → ∃ p ∈ l, hasB p x
def freeT (l : List (Int × Int)) (x : Int) : Prop := ∀ p ∈ l, ¬ hasB p x
/-! ### The smallest gap -/
/-! ### Sorted -/
def sumT (l : List (Int × Int)) : Int := (l.map (·.2)).sum
theorem sumT_cons (p : Int × Int) (l : List (Int × Int)) : sumT (p :: l) = p.2 + sumT l := by simp [sumT]
theorem sumT_perm {l r : List (Int × Int)} (h : l.Perm r) : sumT l = sumT r := by
  induction h with
  | nil => rfl
  | cons p _ ih => rw [sumT_cons, sumT_cons, ih]
  | swap p q l => rw [sumT_cons, sumT_cons, sumT_cons, sumT_cons]; omega
  | trans _ _ ih1 ih2 => rw [ih1, ih2]
theorem tidyT.perm {a N : Int} {l r : List (Int × Int)} (h : tidyT a N l) (hp : l.Perm r) : tidyT a N r := ⟨fun p hr => h.1 p (hp.mem_iff.2 hr), h.2.perm hp apartT.symm⟩
theorem coverT.perm {a N : Int} {l r : List (Int × Int)} (h : coverT a N l) (hp : l.Perm r) : coverT a N r := fun x h1 h2 => by
  obtain ⟨p, hl, hb⟩ := h x h1 h2
  exact ⟨p, hp.mem_iff.1 hl, hb⟩
theorem freeT.perm {l r : List (Int × Int)} {x : Int} (h : freeT l x) (hp : l.Perm r) : freeT r x := fun p hr => h p (hp.mem_iff.2 hr)
/-! ### One sorted order -/
section
variable {α : Type} (key : α → Int)
end
end Go.Proofs.Ytclmgfcdnokaiaa
/-
  Contracts of packages extent and command: End, between, Valid, bytes, Copy, describe.
-/
namespace Go.Proofs.Ytclmgfcdnokaiaa
set_option linter.unusedVariables false
set_option linter.unusedSimpArgs false
open Go Go.RowKit


/-- An extent that is valid. -/
def vld (o l : Int) : Prop := 0 ≤ o ∧ 0 ≤ l ∧ o + l ≤ 4611686018427387903
instance (o l : Int) : Decidable (vld o l) := by unfold vld; infer_instance

end Go.Proofs.Ytclmgfcdnokaiaa
/-
  Contracts of package command: Check.
-/
namespace Go.Proofs.Ytclmgfcdnokaiaa
set_option linter.unusedVariables false
set_option linter.unusedSimpArgs false
open Go Go.RowKit


def codeV (k t f l : Int) (m : Nat) : Int :=
  if k = 1 then (if l = 0 then 7 else if m = 0 ∧ vld t l ∧ vld f l then 0 else 2)
  else if k = 2 then (if m = 0 then 7 else if f = 0 ∧ l = 0 ∧ vld t m then 0 else 2) else 11
def lenV (k l : Int) (m : Nat) : Int := if k = 1 then l else m
end Go.Proofs.Ytclmgfcdnokaiaa
/-
  Contracts of package command: Target, Source, Overlaps, contains.
-/
namespace Go.Proofs.Ytclmgfcdnokaiaa
set_option linter.unusedVariables false
set_option linter.unusedSimpArgs false
open Go Go.RowKit


def inside_ (o l p n : Int) : Prop := o ≤ p ∧ p + n ≤ o + l
instance (o l p n : Int) : Decidable (inside_ o l p n) := by unfold inside_; infer_instance
def meets (o l p n : Int) : Prop := max o p < min (o + l) (p + n)
instance (o l p n : Int) : Decidable (meets o l p n) := by unfold meets; infer_instance


end Go.Proofs.Ytclmgfcdnokaiaa
/-
  Contracts of the reference: Len, Target, Source, Check, Overlaps.
-/
namespace Go.Proofs.Ytclmgfcdnokaiaa
set_option linter.unusedVariables false
set_option linter.unusedSimpArgs false
open Go Go.RowKit


theorem codeV1 {t f l : Int} {m : Nat} : codeV 1 t f l m = 0 ↔ ¬ l = 0 ∧ m = 0 ∧ vld t l ∧ vld f l := by
  unfold codeV; (repeat' split) <;> simp_all
theorem codeV2 {t f l : Int} {m : Nat} : codeV 2 t f l m = 0 ↔ ¬ m = 0 ∧ f = 0 ∧ l = 0 ∧ vld t m := by
  unfold codeV; (repeat' split) <;> simp_all
theorem codeV0 {k t f l : Int} {m : Nat} (h : codeV k t f l m = 0) : k = 1 ∨ k = 2 := by
  unfold codeV at h
  by_cases h1 : k = 1
  · exact .inl h1
  by_cases h2 : k = 2
  · exact .inr h2
  rw [if_neg h1, if_neg h2] at h; cases h
end Go.Proofs.Ytclmgfcdnokaiaa
/-
  Slices of commands in memory; the first of some indices; the model of a delta's check.
-/
namespace Go.Proofs.Ytclmgfcdnokaiaa
set_option linter.unusedVariables false
set_option linter.unusedSimpArgs false
set_option linter.unusedVariables false
open Go Go.RowKit
structure CV where
  k : Int
  t : Int
  f : Int
  l : Int
  A : Option Addr
  m : Nat
  c : Nat
  B : List Int
def cellsC (x : CV) : List Value := [Value.int .i64 x.k, Value.int .i64 x.t, Value.int .i64 x.f, Value.int .i64 x.l, Value.slice x.A x.m x.c]
def RowsC (w : World) (b off : Nat) (Cs : List CV) : Prop := ∀ (i : Nat) (x : CV), Cs[i]? = some x → ∀ j u, (cellsC x)[j]? = some u → w.cell? ⟨b, off + 5 * i + j, none⟩ = some u
def SrcC (w : World) (A : Option Addr) (m : Nat) (Cs : List CV) : Prop := Cs.length = m ∧ (m = 0 ∨ ∃ b off, A = some ⟨b, off, none⟩ ∧ b < w.heap.size ∧ RowsC w b off Cs)
def NumC (x : CV) : Prop := (-9223372036854775808 ≤ x.t ∧ x.t ≤ 9223372036854775807) ∧ (-9223372036854775808 ≤ x.f ∧ x.f ≤ 9223372036854775807) ∧ (-9223372036854775808 ≤ x.l ∧ x.l ≤ 9223372036854775807) ∧ x.m ≤ x.c ∧ x.m ≤ 140737488355327 ∧ x.c ≤ 9223372036854775807
def NumsC (Cs : List CV) : Prop := ∀ (i : Nat) (x : CV), Cs[i]? = some x → NumC x
theorem SrcC.at_ {w0 w : World} {H : List Ent} {A : Option Addr} {m : Nat} {Cs : List CV} (h : SrcC w0 A m Cs) (hs : St w0 H w) (hH : ∀ b, b < w0.heap.size → ∀ e ∈ H, e.g ≠ b) : SrcC w A m Cs := by
  refine ⟨h.1, ?_⟩
  rcases h.2 with h | ⟨b, off, hA, hb, hr⟩
  · exact .inl h
  · refine .inr ⟨b, off, hA, Nat.lt_of_lt_of_le hb hs.size, fun i x hx j u hu => ?_⟩
    rw [hs.old_cell (ad := ⟨b, _, none⟩) hb (hH b hb)]
    exact hr i x hx j u hu
theorem SrcC.some_ {w : World} {A : Option Addr} {m i : Nat} {Cs : List CV} (h : SrcC w A m Cs) (hi : i < m) : ∃ b off, A = some ⟨b, off, none⟩ ∧ b < w.heap.size ∧ RowsC w b off Cs := h.2.resolve_left (by omega)
theorem SrcC.get {w : World} {A : Option Addr} {m i : Nat} {Cs : List CV} (h : SrcC w A m Cs) (hi : i < m) : ∃ x, Cs[i]? = some x := ⟨_, List.getElem?_eq_getElem (by rw [h.1]; exact hi)⟩
/-- The target. -/
def tg (x : CV) : Int × Int := (x.t, lenV x.k x.l x.m)
def fewP (Cs : List CV) : Prop := (∀ (i : Nat) (x : CV), Cs[i]? = some x → x.m ≤ 300) ∧ Cs.length ≤ 40
def singleV (o n : Int) (x : CV) : Int :=
  if codeV x.k x.t x.f x.l x.m = 0 then (if x.k = 1 ∧ o < x.f + x.l then 5 else if n < x.t + lenV x.k x.l x.m then 6 else 0) else codeV x.k x.t x.f x.l x.m
theorem all_succ {α : Type} {Cs : List α} {p : α → Prop} {i : Nat} {x : α} (h : ∀ (j : Nat) (y : α), j < i → Cs[j]? = some y → p y) (hx : Cs[i]? = some x) (hp : p x) : ∀ (j : Nat) (y : α), j < i + 1 → Cs[j]? = some y → p y := fun j y hj hy => by
  by_cases hji : j = i
  · subst hji; rw [hx] at hy; cases hy; exact hp
  · exact h j y (by omega) hy
theorem all_of {α : Type} {Cs : List α} {p : α → Prop} {m : Nat} (hm : Cs.length ≤ m) (h : ∀ (j : Nat) (y : α), j < m → Cs[j]? = some y → p y) : ∀ (i : Nat) (x : α), Cs[i]? = some x → p x := fun i x hx => h i x (by have := (List.getElem?_eq_some_iff.1 hx).1; omega) hx
theorem lenV_bd {k l : Int} {m : Nat} (hl : -9223372036854775808 ≤ l ∧ l ≤ 9223372036854775807) (hm : m ≤ 140737488355327) : -9223372036854775808 ≤ lenV k l m ∧ lenV k l m ≤ 9223372036854775807 := by
  unfold lenV; split <;> omega
theorem codeV_facts {k t f l : Int} {m : Nat} (h : codeV k t f l m = 0) : vld t (lenV k l m) ∧ 1 ≤ lenV k l m ∧ (k = 1 → vld f l) := by
  rcases codeV0 h with rfl | rfl
  · obtain ⟨h1, h2, h3, h4⟩ := codeV1.1 h
    unfold lenV; rw [if_pos rfl]
    exact ⟨h3, by unfold vld at h3; omega, fun _ => h4⟩
  · obtain ⟨h1, h2, h3, h4⟩ := codeV2.1 h
    unfold lenV; rw [if_neg (by decide)]
    exact ⟨h4, by omega, fun h => by cases h⟩
noncomputable instance (Cs : List CV) : Decidable (fewP Cs) := Classical.propDecidable _
/-! ### The fault of a delta -/
def okLen (o n : Int) : Prop := 0 ≤ o ∧ 0 ≤ n ∧ o ≤ 4611686018427387903 ∧ n ≤ 4611686018427387903
instance (o n : Int) : Decidable (okLen o n) := by unfold okLen; infer_instance
theorem single_vld {o n : Int} {x : CV} (h : singleV o n x = 0) : vld x.t (lenV x.k x.l x.m) ∧ 1 ≤ lenV x.k x.l x.m ∧ x.t + lenV x.k x.l x.m ≤ n ∧ codeV x.k x.t x.f x.l x.m = 0 ∧ (x.k = 1 → vld x.f x.l ∧ x.f + x.l ≤ o) := by
  unfold singleV at h
  by_cases hc : codeV x.k x.t x.f x.l x.m = 0
  · rw [if_pos hc] at h
    obtain ⟨h1, h2, h3⟩ := codeV_facts hc
    split at h
    · cases h
    · split at h
      · cases h
      · exact ⟨h1, h2, by omega, hc, fun hk => ⟨h3 hk, by omega⟩⟩
  · rw [if_neg hc] at h; exact absurd h hc
end Go.Proofs.Ytclmgfcdnokaiaa
/-
  Contracts of Same.
-/
namespace Go.Proofs.Ytclmgfcdnokaiaa
set_option linter.unusedVariables false
set_option linter.unusedSimpArgs false
open Go Go.RowKit
theorem agg28 : (isAgg 28).run Try.prog = fun w => .ok false w := isAgg_no Try.underlying28 rfl
theorem agg3 : (isAgg 3).run Try.prog = fun w => .ok false w := isAgg_no Try.underlying3 rfl
theorem size28 : (Try.prog.info? 28).map (·.size) = some 1 := by kernel_rfl
theorem size3 : (Try.prog.info? 3).map (·.size) = some 1 := by kernel_rfl
instance : AgN Try.prog 28 := ⟨agg28⟩
instance : AgN Try.prog 3 := ⟨agg3⟩
instance : Fld Try.prog 47 0 0 := ⟨⟨_, _, _, Try.underlying47, rfl, size3, rfl⟩⟩
instance : Fld Try.prog 47 1 1 := ⟨⟨_, _, _, Try.underlying47, rfl, size3, rfl⟩⟩
instance : Fld Try.prog 47 2 2 := ⟨⟨_, _, _, Try.underlying47, rfl, size3, rfl⟩⟩
instance : Fld Try.prog 47 3 3 := ⟨⟨_, _, _, Try.underlying47, rfl, size3, rfl⟩⟩
instance : Fld Try.prog 47 4 4 := ⟨⟨_, _, _, Try.underlying47, rfl, size28, rfl⟩⟩

def sameP (k t f l k2 t2 f2 l2 : Int) (B B2 : List Int) : Prop := k = k2 ∧ t = t2 ∧ f = f2 ∧ l = l2 ∧ B = B2
instance (k t f l k2 t2 f2 l2 : Int) (B B2 : List Int) : Decidable (sameP k t f l k2 t2 f2 l2 B B2) := by unfold sameP; infer_instance
set_option maxRecDepth 100000 in
set_option maxHeartbeats 400000 in
theorem rsame_c (k t f l k2 t2 f2 l2 : Int) (A A2 : Option Addr) (m c m2 c2 : Nat) (B B2 : List Int) (hB : Bytes B) (hB2 : Bytes B2) (w : World) (hsA : Src w A m .u8 B) (hsB : Src w A2 m2 .u8 B2) : Calls Try.prog 51 #[.agg ([Value.int .i64 k, Value.int .i64 t, Value.int .i64 f, Value.int .i64 l, Value.slice A m c]).toArray, .agg ([Value.int .i64 k2, Value.int .i64 t2, Value.int .i64 f2, Value.int .i64 l2, Value.slice A2 m2 c2]).toArray] w fun e w' => e = .returned (.bool (decide (sameP k t f l k2 t2 f2 l2 B B2))) ∧ St w [] w' := by
  refine calls_from (args := [.agg ([Value.int .i64 k, Value.int .i64 t, Value.int .i64 f, Value.int .i64 l, Value.slice A m c]).toArray, .agg ([Value.int .i64 k2, Value.int .i64 t2, Value.int .i64 f2, Value.int .i64 l2, Value.slice A2 m2 c2]).toArray]) Try.func51 rfl Try.ntmps51 (by simp) ?_
  refine TC.pr [0, 1] ?_
  iterate 2 refine gx ?_
  refine TL.bxA (fun g1 hg1 => ?_)
  refine TL.bxA (fun g2 hg2 => ?_)
  iterate 9 refine gx ?_
  by_cases q1 : k = k2
  · refine TL.gets (Wants.none rfl) rfl (Gets.isTrue (Gets.eql rfl rfl rfl) q1) ?_
    iterate 5 refine gx ?_
    by_cases q2 : t = t2
    · refine TL.gets (Wants.yes rfl rfl rfl) rfl (Gets.isTrue (Gets.eql rfl rfl rfl) q2) ?_
      iterate 6 refine gx ?_
      by_cases q3 : f = f2
      · refine TL.gets (Wants.yes rfl rfl rfl) rfl (Gets.isTrue (Gets.eql rfl rfl rfl) q3) ?_
        iterate 6 refine gx ?_
        by_cases q4 : l = l2
        · refine TL.gets (Wants.yes rfl rfl rfl) rfl (Gets.isTrue (Gets.eql rfl rfl rfl) q4) ?_
          iterate 4 refine gx ?_
          refine TL.gets (Wants.yes rfl rfl rfl) rfl (Gets.b2s rfl Try.underlying28 Try.underlying9 Try.underlying5 rfl (fun w hs => (hsA.at_ hs (fun b hb => (ne_cons (by show g2 ≠ b; omega) (ne_cons (by show g1 ≠ b; omega) ne_nil)))))) ?_
          iterate 2 refine gx ?_
          refine TL.gets (Wants.yes rfl rfl rfl) rfl (Gets.b2s rfl Try.underlying28 Try.underlying9 Try.underlying5 rfl (fun w hs => (hsB.at_ hs (fun b hb => (ne_cons (by show g2 ≠ b; omega) (ne_cons (by show g1 ≠ b; omega) ne_nil)))))) ?_
          refine TL.gets (Wants.yes rfl rfl rfl) rfl (Gets.bytesEq rfl rfl rfl hB hB2) ?_
          iterate 5 refine gx ?_
          exact TE.ret1 rfl rfl (fun w hs => ⟨dec_iff (by unfold sameP; simp [*]), ((hs.drop (by assumption)).drop (by assumption))⟩)
        · refine TL.gets (Wants.yes rfl rfl rfl) rfl (Gets.isFalse (Gets.eql rfl rfl rfl) q4) ?_
          iterate 14 refine gx ?_
          exact TE.ret1 rfl rfl (fun w hs => ⟨dec_f (by unfold sameP; simp [*]), ((hs.drop (by assumption)).drop (by assumption))⟩)
      · refine TL.gets (Wants.yes rfl rfl rfl) rfl (Gets.isFalse (Gets.eql rfl rfl rfl) q3) ?_
        iterate 21 refine gx ?_
        exact TE.ret1 rfl rfl (fun w hs => ⟨dec_f (by unfold sameP; simp [*]), ((hs.drop (by assumption)).drop (by assumption))⟩)
    · refine TL.gets (Wants.yes rfl rfl rfl) rfl (Gets.isFalse (Gets.eql rfl rfl rfl) q2) ?_
      iterate 28 refine gx ?_
      exact TE.ret1 rfl rfl (fun w hs => ⟨dec_f (by unfold sameP; simp [*]), ((hs.drop (by assumption)).drop (by assumption))⟩)
  · refine TL.gets (Wants.none rfl) rfl (Gets.isFalse (Gets.eql rfl rfl rfl) q1) ?_
    iterate 34 refine gx ?_
    exact TE.ret1 rfl rfl (fun w hs => ⟨dec_f (by unfold sameP; simp [*]), ((hs.drop (by assumption)).drop (by assumption))⟩)

end Go.Proofs.Ytclmgfcdnokaiaa
/-
  Contracts of Clone, Grow and Concat.
-/
namespace Go.Proofs.Ytclmgfcdnokaiaa
set_option linter.unusedVariables false
set_option linter.unusedSimpArgs false
open Go Go.RowKit
theorem mk5 : (Try.prog.info? 5).map (fun i => (i.zero, i.size, i.bytes)) = some (some (.int .u8 0), 1, 1) := by kernel_rfl
theorem size5 : (Try.prog.info? 5).map (·.size) = some 1 := by kernel_rfl
structure WP where
  k : Nat
  v : Value
  He : List Ent
end Go.Proofs.Ytclmgfcdnokaiaa
/-
  Contracts of Literal and Part.
-/
namespace Go.Proofs.Ytclmgfcdnokaiaa
set_option linter.unusedVariables false
set_option linter.unusedSimpArgs false
open Go Go.RowKit

end Go.Proofs.Ytclmgfcdnokaiaa
/-
  The reference of layer 5: Few, single, Find.
-/
namespace Go.Proofs.Ytclmgfcdnokaiaa
set_option linter.unusedVariables false
set_option linter.unusedSimpArgs false
open Go Go.RowKit
theorem agg23 : (isAgg 23).run Try.prog = fun w => .ok false w := isAgg_no Try.underlying23 rfl
theorem size23 : (Try.prog.info? 23).map (·.size) = some 1 := by kernel_rfl
theorem size47 : (Try.prog.info? 47).map (·.size) = some 5 := by kernel_rfl
instance : AgN Try.prog 23 := ⟨agg23⟩
instance : Fld Try.prog 25 4 66 := ⟨⟨_, _, _, Try.underlying25, rfl, size23, rfl⟩⟩
instance : Sli Try.prog 23 47 := ⟨Try.underlying23⟩
instance : Sli Try.prog 28 5 := ⟨Try.underlying28⟩
end Go.Proofs.Ytclmgfcdnokaiaa
/-
  The reference of layer 5: gap, Check, Valid.
-/
namespace Go.Proofs.Ytclmgfcdnokaiaa
set_option linter.unusedVariables false
set_option linter.unusedSimpArgs false
open Go Go.RowKit

end Go.Proofs.Ytclmgfcdnokaiaa
/-
  Sums over commands: copied and literal bytes.
-/
namespace Go.Proofs.Ytclmgfcdnokaiaa
set_option linter.unusedVariables false
set_option linter.unusedSimpArgs false
set_option linter.unusedVariables false
open Go Go.RowKit
def totI (f : CV → Int) (Cs : List CV) (i : Nat) : Int := ((Cs.take i).map f).sum
def cpV (x : CV) : Int := if x.k = 1 then x.l else 0
def ltV (x : CV) : Int := if x.k = 1 then 0 else (x.m : Int)
def lnV (x : CV) : Int := lenV x.k x.l x.m
theorem sum_nonneg' {l : List Int} (h : ∀ x ∈ l, 0 ≤ x) : 0 ≤ l.sum := by
  induction l with
  | nil => simp
  | cons a l ih => rw [List.sum_cons]; have := h a (by simp); have := ih (fun x hx => h x (by simp [hx])); omega
theorem totI_bd {f : CV → Int} {Cs : List CV} (hf : ∀ x ∈ Cs, 0 ≤ f x) (i : Nat) : 0 ≤ totI f Cs i ∧ totI f Cs i ≤ (Cs.map f).sum := by
  have h1 : 0 ≤ totI f Cs i := sum_nonneg' (fun y hy => by
    obtain ⟨x, hx, rfl⟩ := List.mem_map.1 hy
    exact hf x (List.mem_of_mem_take hx))
  have h2 : 0 ≤ ((Cs.drop i).map f).sum := sum_nonneg' (fun y hy => by
    obtain ⟨x, hx, rfl⟩ := List.mem_map.1 hy
    exact hf x (List.mem_of_mem_drop hx))
  have h3 : (Cs.map f).sum = totI f Cs i + ((Cs.drop i).map f).sum := by
    unfold totI
    rw [← List.sum_append, ← List.map_append, List.take_append_drop]
  omega
theorem cp_lt (Cs : List CV) : (Cs.map cpV).sum + (Cs.map ltV).sum = sumT (Cs.map tg) := by
  induction Cs with
  | nil => simp [sumT]
  | cons x l ih =>
    rw [List.map_cons, List.map_cons, List.map_cons, sumT_cons, List.sum_cons, List.sum_cons, ← ih]
    have : cpV x + ltV x = (tg x).2 := by unfold cpV ltV tg lenV; dsimp only; split <;> omega
    omega
theorem ln_sum (Cs : List CV) : (Cs.map lnV).sum = sumT (Cs.map tg) := by unfold sumT lnV tg; simp [List.map_map, Function.comp_def]
/-- What holds of a delta without a fault. -/
structure ValidC (o n : Int) (Cs : List CV) : Prop where
  len : okLen o n
  single : ∀ (i : Nat) (x : CV), Cs[i]? = some x → singleV o n x = 0
  tidy : tidyT 0 n (Cs.map tg)
  cover : coverT 0 n (Cs.map tg)
  sum : sumT (Cs.map tg) = n
  pos : ∀ x ∈ Cs, 0 ≤ cpV x ∧ 0 ≤ ltV x ∧ 1 ≤ lnV x
theorem ValidC.tot {o n : Int} {Cs : List CV} (h : ValidC o n Cs) (i : Nat) : 0 ≤ totI cpV Cs i ∧ totI cpV Cs i ≤ n ∧ 0 ≤ totI ltV Cs i ∧ totI ltV Cs i ≤ n ∧ 0 ≤ totI lnV Cs i ∧ totI lnV Cs i ≤ n ∧ n ≤ 4611686018427387903 := by
  have h1 := totI_bd (f := cpV) (fun x hx => (h.pos x hx).1) i
  have h2 := totI_bd (f := ltV) (fun x hx => (h.pos x hx).2.1) i
  have h3 := totI_bd (f := lnV) (fun x hx => by have := (h.pos x hx).2.2; omega) i
  have h4 := cp_lt Cs
  have h5 := h.sum
  have h6 := ln_sum Cs
  have h7 := sum_nonneg' (l := Cs.map cpV) (fun y hy => by obtain ⟨x, hx, rfl⟩ := List.mem_map.1 hy; exact (h.pos x hx).1)
  have h8 := sum_nonneg' (l := Cs.map ltV) (fun y hy => by obtain ⟨x, hx, rfl⟩ := List.mem_map.1 hy; exact (h.pos x hx).2.1)
  have h9 := h.len
  unfold okLen at h9
  omega
theorem ValidC.vld {o n : Int} {Cs : List CV} (h : ValidC o n Cs) : ∀ (i : Nat) (x : CV), Cs[i]? = some x → vld x.t (lenV x.k x.l x.m) := fun i x hx => (single_vld (h.single i x hx)).1
end Go.Proofs.Ytclmgfcdnokaiaa
/-
  The reference of layer 5: Totals.
-/
namespace Go.Proofs.Ytclmgfcdnokaiaa
set_option linter.unusedVariables false
set_option linter.unusedSimpArgs false
open Go Go.RowKit

end Go.Proofs.Ytclmgfcdnokaiaa
/-
  What commands are, without where their data lie; when lists of commands are the same.
-/
namespace Go.Proofs.Ytclmgfcdnokaiaa
set_option linter.unusedVariables false
set_option linter.unusedSimpArgs false
set_option linter.unusedVariables false
open Go Go.RowKit
/-- The bytes of the commands lie in memory. -/
def DatC (w : World) (Cs : List CV) : Prop := ∀ (i : Nat) (x : CV), Cs[i]? = some x → Src w x.A x.m .u8 x.B ∧ Bytes x.B
theorem DatC.at_ {w0 w : World} {H : List Ent} {Cs : List CV} (h : DatC w0 Cs) (hs : St w0 H w) (hH : ∀ b, b < w0.heap.size → ∀ e ∈ H, e.g ≠ b) : DatC w Cs := fun i x hx => ⟨(h i x hx).1.at_ hs hH, (h i x hx).2⟩
def valC (x : CV) : Int × Int × Int × Int × List Int := (x.k, x.t, x.f, x.l, x.B)
def sameC (Cs Es : List CV) : Prop := Cs.map valC = Es.map valC
instance (Cs Es : List CV) : Decidable (sameC Cs Es) := by unfold sameC; infer_instance
abbrev sameV (x y : CV) : Prop := sameP x.k x.t x.f x.l y.k y.t y.f y.l x.B y.B
theorem sameV_iff {x y : CV} : sameV x y ↔ valC x = valC y := by unfold sameV sameP valC; simp only [Prod.mk.injEq]
theorem sameC_len {Cs Es : List CV} (h : sameC Cs Es) : Cs.length = Es.length := by have := congrArg List.length h; simpa using this
theorem sameC_at {Cs Es : List CV} (h : sameC Cs Es) {i : Nat} {x y : CV} (hx : Cs[i]? = some x) (hy : Es[i]? = some y) : sameV x y := by
  have h1 := congrArg (·[i]?) h
  simp only [List.getElem?_map, hx, hy, Option.map_some, Option.some.injEq] at h1
  exact sameV_iff.2 h1
theorem sameC_of {Cs Es : List CV} (hl : Cs.length = Es.length) (h : ∀ (i : Nat) (x y : CV), Cs[i]? = some x → Es[i]? = some y → sameV x y) : sameC Cs Es := by
  apply List.ext_getElem?
  intro i
  rw [List.getElem?_map, List.getElem?_map]
  cases hx : Cs[i]? with
  | none =>
    rw [List.getElem?_eq_none_iff] at hx
    rw [List.getElem?_eq_none (by omega)]
  | some x =>
    have hi := (List.getElem?_eq_some_iff.1 hx).1
    have hy : Es[i]? = some Es[i] := List.getElem?_eq_getElem (by omega)
    rw [hy]
    simp only [Option.map_some, Option.some.injEq]
    exact sameV_iff.1 (h i x _ hx hy)
theorem sameC_succ {Cs Es : List CV} {i : Nat} {x y : CV} (h : ∀ (j : Nat) (x y : CV), j < i → Cs[j]? = some x → Es[j]? = some y → sameV x y) (hx : Cs[i]? = some x) (hy : Es[i]? = some y) (hs : sameV x y) : ∀ (j : Nat) (x y : CV), j < i + 1 → Cs[j]? = some x → Es[j]? = some y → sameV x y := fun j x' y' hj hx' hy' => by
  by_cases e : j = i
  · subst e; rw [hx] at hx'; rw [hy] at hy'; cases hx'; cases hy'; exact hs
  · exact h j x' y' (by omega) hx' hy'
def sameD (o n : Int) (H1 H2 : List Int) (Cs : List CV) (o2 n2 : Int) (G1 G2 : List Int) (Es : List CV) : Prop := o = o2 ∧ n = n2 ∧ H1 = G1 ∧ H2 = G2 ∧ sameC Cs Es
instance (o n : Int) (H1 H2 : List Int) (Cs : List CV) (o2 n2 : Int) (G1 G2 : List Int) (Es : List CV) : Decidable (sameD o n H1 H2 Cs o2 n2 G1 G2 Es) := by unfold sameD; infer_instance
end Go.Proofs.Ytclmgfcdnokaiaa
/-
  The reference of layer 5: All, Same.
-/
namespace Go.Proofs.Ytclmgfcdnokaiaa
set_option linter.unusedVariables false
set_option linter.unusedSimpArgs false
open Go Go.RowKit
theorem agg22 : (isAgg 22).run Try.prog = fun w => .ok true w := isAgg_yes Try.underlying22 rfl
theorem agg47 : (isAgg 47).run Try.prog = fun w => .ok true w := isAgg_yes Try.underlying47 rfl
theorem enters35 : Enters Try.prog 35 := ⟨_, Try.func35, by kernel_rfl, by kernel_rfl⟩
theorem enters51 : Enters Try.prog 51 := ⟨_, Try.func51, by kernel_rfl, by kernel_rfl⟩
theorem geq22 : Try.prog.eqGuardType Try.prog.depth 22 = false := by kernel_rfl
theorem size22 : (Try.prog.info? 22).map (·.size) = some 32 := by kernel_rfl
instance : Fld Try.prog 25 0 0 := ⟨⟨_, _, _, Try.underlying25, rfl, size3, rfl⟩⟩
instance : Fld Try.prog 25 1 1 := ⟨⟨_, _, _, Try.underlying25, rfl, size3, rfl⟩⟩
instance : Fld Try.prog 25 2 2 := ⟨⟨_, _, _, Try.underlying25, rfl, size22, rfl⟩⟩
instance : Fld Try.prog 25 3 34 := ⟨⟨_, _, _, Try.underlying25, rfl, size22, rfl⟩⟩
set_option maxRecDepth 100000 in
set_option maxHeartbeats 400000 in
theorem rall_c (A A2 : Option Addr) (m c m2 c2 : Nat) (Cs Es : List CV) (hmm : m ≤ 1000000000) (hmm2 : m2 ≤ 1000000000) (hN : NumsC Cs) (w : World) (hC : SrcC w A m Cs) (hC2 : SrcC w A2 m2 Es) (hD : DatC w Cs) (hE : DatC w Es) : Calls Try.prog 35 #[.slice A m c, .slice A2 m2 c2] w fun e w' => e = .returned (.bool (decide (sameC Cs Es))) ∧ St w [] w' := by
  refine calls_from (args := [.slice A m c, .slice A2 m2 c2]) Try.func35 rfl Try.ntmps35 (by simp) ?_
  refine TC.pr [0, 1] ?_
  iterate 15 refine gx ?_
  refine TC.split rfl (fun hq0 => ?_) (fun hq0 => ?_)
  · iterate 7 refine gx ?_
    exact TE.ret1 rfl rfl (fun w hs => ⟨dec_f (fun h => by first | exact hq2 (sameC_at h hx hy) | (have h1 := sameC_len h; have h2 := hC.1; have h3 := hC2.1; omega)), hs⟩)
  · iterate 8 refine gx ?_
    refine TC.pr [0, 1, 4, 5] ?_
    refine gx ?_
    refine TC.loop (ι := Nat) (fun i => [(0, .slice A m c), (1, .slice A2 m2 c2), (5, .int .i64 (i : Int))]) (fun i => []) (fun i => m - i) (fun i => i ≤ m ∧ ∀ (j : Nat) (x y : CV), j < i → Cs[j]? = some x → Es[j]? = some y → sameV x y) 0 ⟨Nat.zero_le _, fun j x y h => absurd h (Nat.not_lt_zero j)⟩ (Sub.slice (i := 0) rfl rfl (by first | omega | (dsimp only; omega) | rfl) (by first | omega | (dsimp only; omega) | rfl) (Sub.slice (i := 1) rfl rfl (by first | omega | (dsimp only; omega) | rfl) (by first | omega | (dsimp only; omega) | rfl) (Sub.int (i := 5) rfl (by first | omega | rfl) (Sub.nil)))) (fun w h => h) (fun i hC0 => ?_)
    obtain ⟨hC0, hj⟩ := hC0
    iterate 9 refine gx ?_
    refine TC.split rfl (fun hq1 => ?_) (fun hq1 => ?_)
    · obtain ⟨b, off, hAe, hb, hrw⟩ := hC.some_ (i := i) (by omega)
      subst hAe
      obtain ⟨x, hx⟩ := hC.get (i := i) (by omega)
      have hnx := hN i x hx
      unfold NumC at hnx
      have hlbx := lenV_bd (k := x.k) (l := x.l) (m := x.m) (by omega) (by omega)
      obtain ⟨b2, off2, hAe2, hb2, hrw2⟩ := hC2.some_ (i := i) (by omega)
      subst hAe2
      obtain ⟨y, hy⟩ := hC2.get (i := i) (by omega)
      iterate 5 refine gx ?_
      refine TC.mix (by kernel_rfl) [0, 0, 0, 1, 0, 0, 0, 1, 1, 0] rfl (by kernel_rfl) ?_
      iterate 2 refine gx ?_
      refine TM.free (Wants.none rfl) rfl (fun _ => Gets.idxSlice rfl Try.underlying23 size47 rfl rfl (i := i) (by omega) (by omega) (off' := (off + 5 * i)) (by omega)) ?_
      refine TM.gets (Wants.none rfl) rfl (Gets.loadN rfl agg47 size47 rfl rfl (Row.old (fun jj u h => hrw i x hx jj u h) hb ne_nil)) ?_
      iterate 2 refine gx ?_
      refine TM.free (Wants.none rfl) rfl (fun _ => Gets.idxSlice rfl Try.underlying23 size47 rfl rfl (i := i) (by omega) (by omega) (off' := (off2 + 5 * i)) (by omega)) ?_
      refine TM.gets (Wants.none rfl) rfl (Gets.loadN rfl agg47 size47 rfl rfl (Row.old (fun jj u h => hrw2 i y hy jj u h) hb2 ne_nil)) ?_
      refine TM.call0 (Wants.none rfl) rfl enters51 rfl rfl (v := .bool (decide (sameP x.k x.t x.f x.l y.k y.t y.f y.l x.B y.B))) (fun w hs => rsame_c x.k x.t x.f x.l y.k y.t y.f y.l x.A y.A x.m x.c y.m y.c x.B y.B (hD i x hx).2 (hE i y hy).2 w ((hD i x hx).1.at_ hs (fun b hb => ne_nil)) ((hE i y hy).1.at_ hs (fun b hb => ne_nil))) ?_
      iterate 3 refine gx ?_
      refine TC.pr [0, 1, 5, 26] ?_
      refine TC.split rfl (fun hq2 => ?_) (fun hq2 => ?_)
      · iterate 11 refine gx ?_
        exact TE.ret1 rfl rfl (fun w hs => ⟨dec_f (fun h => by first | exact hq2 (sameC_at h hx hy) | (have h1 := sameC_len h; have h2 := hC.1; have h3 := hC2.1; omega)), hs⟩)
      · iterate 5 refine gx ?_
        refine TL.gets (Wants.none rfl) rfl (Gets.add rfl rfl rfl (r := ((i : Int) + 1)) (w64 (by omega) (by omega))) ?_
        iterate 2 refine gx ?_
        exact TE.back (i + 1) (by omega) ⟨by omega, sameC_succ hj hx hy (Decidable.not_not.1 hq2)⟩ (Sub.slice (i := 0) rfl (by first | rfl | (congr 2; omega)) (by first | omega | (dsimp only; omega) | rfl) (by first | omega | (dsimp only; omega) | rfl) (Sub.slice (i := 1) rfl (by first | rfl | (congr 2; omega)) (by first | omega | (dsimp only; omega) | rfl) (by first | omega | (dsimp only; omega) | rfl) (Sub.int (i := 5) rfl (by first | omega | rfl) (Sub.nil)))) (fun w h => h)
    · iterate 11 refine gx ?_
      exact TE.ret1 rfl rfl (fun w hs => ⟨dec_t (sameC_of (by have := hC.1; have := hC2.1; omega) fun i' x y hx hy => hj i' x y (by have := (List.getElem?_eq_some_iff.1 hx).1; have := hC.1; omega) hx hy), hs⟩)

set_option maxRecDepth 100000 in
set_option maxHeartbeats 400000 in
theorem rdsame_c (o n : Int) (H1 H2 : List Int) (hH1 : H1.length = 32) (hH2 : H2.length = 32) (A : Option Addr) (m c : Nat) (Cs : List CV) (o2 n2 : Int) (G1 G2 : List Int) (hG1 : G1.length = 32) (hG2 : G2.length = 32) (A2 : Option Addr) (m2 c2 : Nat) (Es : List CV) (hmm : m ≤ 1000000000) (hmm2 : m2 ≤ 1000000000) (hN : NumsC Cs) (w : World) (hC : SrcC w A m Cs) (hC2 : SrcC w A2 m2 Es) (hD : DatC w Cs) (hE : DatC w Es) : Calls Try.prog 17 #[.agg ([Value.int .i64 o, Value.int .i64 n] ++ (H1.map (Value.int .u8) ++ (H2.map (Value.int .u8) ++ ([Value.slice A m c])))).toArray, .agg ([Value.int .i64 o2, Value.int .i64 n2] ++ (G1.map (Value.int .u8) ++ (G2.map (Value.int .u8) ++ ([Value.slice A2 m2 c2])))).toArray] w fun e w' => e = .returned (.bool (decide (sameD o n H1 H2 Cs o2 n2 G1 G2 Es))) ∧ St w [] w' := by
  refine calls_from (args := [.agg ([Value.int .i64 o, Value.int .i64 n] ++ (H1.map (Value.int .u8) ++ (H2.map (Value.int .u8) ++ ([Value.slice A m c])))).toArray, .agg ([Value.int .i64 o2, Value.int .i64 n2] ++ (G1.map (Value.int .u8) ++ (G2.map (Value.int .u8) ++ ([Value.slice A2 m2 c2])))).toArray]) Try.func17 rfl Try.ntmps17 (by simp) ?_
  refine TC.pr [0, 1] ?_
  iterate 2 refine gx ?_
  refine TL.box (Wants.none rfl) rfl rfl rfl (cs := [Value.int .i64 o, Value.int .i64 n] ++ (H1.map (Value.int .u8) ++ (H2.map (Value.int .u8) ++ ([Value.slice A m c])))) (by simp [Value.cells]) (tot := 67) (by simp [hH1, hH2]) (fun g1 hg1 => ?_)
  refine TL.box (Wants.none rfl) rfl rfl rfl (cs := [Value.int .i64 o2, Value.int .i64 n2] ++ (G1.map (Value.int .u8) ++ (G2.map (Value.int .u8) ++ ([Value.slice A2 m2 c2])))) (by simp [Value.cells]) (tot := 67) (by simp [hG1, hG2]) (fun g2 hg2 => ?_)
  iterate 9 refine gx ?_
  by_cases q1 : o = o2
  · refine TL.gets (Wants.none rfl) rfl (Gets.isTrue (Gets.eql rfl rfl rfl) q1) ?_
    iterate 5 refine gx ?_
    by_cases q2 : n = n2
    · refine TL.gets (Wants.yes rfl rfl rfl) rfl (Gets.isTrue (Gets.eql rfl rfl rfl) q2) ?_
      iterate 3 refine gx ?_
      refine TL.gets (Wants.yes rfl rfl rfl) rfl (Gets.loadN rfl agg22 size22 rfl (vs := H1.map (Value.int .u8)) (by simp [hH1]) (Row.part (i := 1) (ent := ⟨g1, 25, [Value.int .i64 o, Value.int .i64 n] ++ (H1.map (Value.int .u8) ++ (H2.map (Value.int .u8) ++ ([Value.slice A m c]))), 67⟩) rfl rfl (by exact seg_mid (by simp [])))) ?_
      refine gx ?_
      refine TL.gets (Wants.yes rfl rfl rfl) rfl (Gets.loadN rfl agg22 size22 rfl (vs := G1.map (Value.int .u8)) (by simp [hG1]) (Row.part (i := 0) (ent := ⟨g2, 25, [Value.int .i64 o2, Value.int .i64 n2] ++ (G1.map (Value.int .u8) ++ (G2.map (Value.int .u8) ++ ([Value.slice A2 m2 c2]))), 67⟩) rfl rfl (by exact seg_mid (by simp [])))) ?_
      by_cases q3 : H1 = G1
      · refine TL.gets (Wants.yes rfl rfl rfl) rfl (Gets.isTrue (Gets.arrEq rfl Try.underlying22 Try.underlying5 size5 geq22 rfl rfl hH1 hG1) q3) ?_
        iterate 3 refine gx ?_
        refine TL.gets (Wants.yes rfl rfl rfl) rfl (Gets.loadN rfl agg22 size22 rfl (vs := H2.map (Value.int .u8)) (by simp [hH2]) (Row.part (i := 1) (ent := ⟨g1, 25, [Value.int .i64 o, Value.int .i64 n] ++ (H1.map (Value.int .u8) ++ (H2.map (Value.int .u8) ++ ([Value.slice A m c]))), 67⟩) rfl rfl (by rw [← List.append_assoc]; exact seg_mid (by simp [hH1])))) ?_
        refine gx ?_
        refine TL.gets (Wants.yes rfl rfl rfl) rfl (Gets.loadN rfl agg22 size22 rfl (vs := G2.map (Value.int .u8)) (by simp [hG2]) (Row.part (i := 0) (ent := ⟨g2, 25, [Value.int .i64 o2, Value.int .i64 n2] ++ (G1.map (Value.int .u8) ++ (G2.map (Value.int .u8) ++ ([Value.slice A2 m2 c2]))), 67⟩) rfl rfl (by rw [← List.append_assoc]; exact seg_mid (by simp [hG1])))) ?_
        by_cases q4 : H2 = G2
        · refine TL.gets (Wants.yes rfl rfl rfl) rfl (Gets.isTrue (Gets.arrEq rfl Try.underlying22 Try.underlying5 size5 geq22 rfl rfl hH2 hG2) q4) ?_
          iterate 6 refine gx ?_
          refine TL.call0 (Wants.yes rfl rfl rfl) rfl enters35 rfl rfl (v := .bool (decide (sameC Cs Es))) (fun w hs => rall_c A A2 m c m2 c2 Cs Es hmm hmm2 hN w (hC.at_ hs (fun b hb => (ne_cons (by show g2 ≠ b; omega) (ne_cons (by show g1 ≠ b; omega) ne_nil)))) (hC2.at_ hs (fun b hb => (ne_cons (by show g2 ≠ b; omega) (ne_cons (by show g1 ≠ b; omega) ne_nil)))) (hD.at_ hs (fun b hb => (ne_cons (by show g2 ≠ b; omega) (ne_cons (by show g1 ≠ b; omega) ne_nil)))) (hE.at_ hs (fun b hb => (ne_cons (by show g2 ≠ b; omega) (ne_cons (by show g1 ≠ b; omega) ne_nil))))) ?_
          iterate 5 refine gx ?_
          exact TE.ret1 rfl rfl (fun w hs => ⟨dec_iff (by unfold sameD; simp [*]), ((hs.drop (by assumption)).drop (by assumption))⟩)
        · refine TL.gets (Wants.yes rfl rfl rfl) rfl (Gets.isFalse (Gets.arrEq rfl Try.underlying22 Try.underlying5 size5 geq22 rfl rfl hH2 hG2) q4) ?_
          iterate 12 refine gx ?_
          exact TE.ret1 rfl rfl (fun w hs => ⟨dec_f (by unfold sameD; simp [*]), ((hs.drop (by assumption)).drop (by assumption))⟩)
      · refine TL.gets (Wants.yes rfl rfl rfl) rfl (Gets.isFalse (Gets.arrEq rfl Try.underlying22 Try.underlying5 size5 geq22 rfl rfl hH1 hG1) q3) ?_
        iterate 19 refine gx ?_
        exact TE.ret1 rfl rfl (fun w hs => ⟨dec_f (by unfold sameD; simp [*]), ((hs.drop (by assumption)).drop (by assumption))⟩)
    · refine TL.gets (Wants.yes rfl rfl rfl) rfl (Gets.isFalse (Gets.eql rfl rfl rfl) q2) ?_
      iterate 26 refine gx ?_
      exact TE.ret1 rfl rfl (fun w hs => ⟨dec_f (by unfold sameD; simp [*]), ((hs.drop (by assumption)).drop (by assumption))⟩)
  · refine TL.gets (Wants.none rfl) rfl (Gets.isFalse (Gets.eql rfl rfl rfl) q1) ?_
    iterate 32 refine gx ?_
    exact TE.ret1 rfl rfl (fun w hs => ⟨dec_f (by unfold sameD; simp [*]), ((hs.drop (by assumption)).drop (by assumption))⟩)
end Go.Proofs.Ytclmgfcdnokaiaa
/-
  The encoding of deltas, as mathematics: what is written, what is read, that one inverts the other.
-/
namespace Go.Proofs.Ytclmgfcdnokaiaa
set_option linter.unusedVariables false
set_option linter.unusedSimpArgs false
set_option linter.unusedVariables false
open Go Go.RowKit
def inR (x : Int) : Prop := 0 ≤ x ∧ x ≤ 4611686018427387903
instance (x : Int) : Decidable (inR x) := by unfold inR; infer_instance
structure CM where
  k : Int
  t : Int
  f : Int
  l : Int
  B : List Int
def okC (c : CM) : Prop := inR c.t ∧ ((c.k = 1 ∧ inR c.f ∧ inR c.l ∧ c.B = []) ∨ (c.k = 2 ∧ c.f = 0 ∧ c.l = 0))
def encC (c : CM) : List Int := beV c.k 1 ++ (beV c.t 8 ++ (if c.k = 1 then beV c.f 8 ++ beV c.l 8 else beV (c.B.length : Int) 8 ++ c.B))
def encCs : List CM → List Int
  | [] => []
  | c :: l => encC c ++ encCs l
def magicB : List Int := [71, 82, 70, 84]
def encD (o n : Int) (h1 h2 : List Int) (Cs : List CM) : List Int :=
  magicB ++ (beV 1 1 ++ (beV o 8 ++ (beV n 8 ++ (h1 ++ (h2 ++ (beV (Cs.length : Int) 4 ++ encCs Cs))))))
/-! ### The reader -/
structure RS where
  k : Nat
  co : Int
  po : Int
def rFail (s : RS) (c p : Int) : RS := if s.co = 0 ∧ c ≠ 0 then ⟨s.k, c, p⟩ else s
def rUint (B : List Int) (s : RS) (n : Nat) : Int × RS :=
  if s.co = 0 then (if B.length < s.k + n then (0, ⟨s.k, 8, B.length⟩) else (valB ((B.drop s.k).take n), ⟨s.k + n, 0, s.po⟩)) else (0, s)
def rLen (B : List Int) (s : RS) : Int × RS :=
  if 4611686018427387903 < (rUint B s 8).1 then (0, rFail (rUint B s 8).2 2 s.k) else rUint B s 8
def rBytes (B : List Int) (s : RS) (n : Nat) : List Int × RS :=
  if s.co = 0 then (if B.length < s.k + n then ([], ⟨s.k, 8, B.length⟩) else ((B.drop s.k).take n, ⟨s.k + n, 0, s.po⟩)) else ([], s)
/-- Bytes that must be there. -/
def rExp (B : List Int) (s : RS) (D : List Int) (code : Int) : Bool × RS :=
  if s.co = 0 then (if (B.drop s.k).take D.length = D then (true, ⟨s.k + D.length, 0, s.po⟩) else if D.take (B.length - s.k) = B.drop s.k then (false, ⟨s.k, 8, B.length⟩) else (false, rFail s code s.k)) else (false, s)
def kindF (s1 : RS) (kk : Int) (at_ : Nat) : RS := if s1.co = 0 ∧ kk ≠ 1 ∧ kk ≠ 2 then rFail s1 11 at_ else s1
def rCmd (B : List Int) (s : RS) : CM × RS :=
  let a := rUint B s 1
  let s2 := kindF a.2 a.1 s.k
  let t := rLen B s2
  if a.1 = 1 then
    let f := rLen B t.2
    let l := rLen B f.2
    (⟨a.1, t.1, f.1, l.1, []⟩, l.2)
  else
    let m := rLen B t.2
    let D := rBytes B m.2 m.1.toNat
    (⟨a.1, t.1, 0, 0, D.1⟩, D.2)
def rIter (B : List Int) (s : RS) : Nat → List CM × RS
  | 0 => ([], s)
  | i + 1 => if (rIter B s i).2.co = 0 then ((rIter B s i).1 ++ [(rCmd B (rIter B s i).2).1], (rCmd B (rIter B s i).2).2) else rIter B s i
def versF (s : RS) (v : Int) : RS := if s.co = 0 ∧ v ≠ 1 then rFail s 10 4 else s
def extraF (B : List Int) (s : RS) : RS := if s.co = 0 ∧ s.k < B.length then rFail s 12 s.k else s
structure DR where
  o : Int
  n : Int
  h1 : List Int
  h2 : List Int
  Cs : List CM
  s : RS
def rDec (B : List Int) : DR :=
  let e := rExp B ⟨0, 0, 0⟩ magicB 9
  let v := rUint B e.2 1
  let o := rLen B (versF v.2 v.1)
  let n := rLen B o.2
  let x := rBytes B n.2 32
  let y := rBytes B x.2 32
  let c := rUint B y.2 4
  let l := rIter B c.2 c.1.toNat
  ⟨o.1, n.1, x.1, y.1, l.1, extraF B l.2⟩
/-! ### Dead readers -/
theorem rFail_dead {s : RS} {c p : Int} (h : s.co ≠ 0) : rFail s c p = s := by unfold rFail; rw [if_neg (fun x => h x.1)]
theorem rUint_dead {B : List Int} {s : RS} {n : Nat} (h : s.co ≠ 0) : rUint B s n = (0, s) := by unfold rUint; rw [if_neg h]
theorem rLen_dead {B : List Int} {s : RS} (h : s.co ≠ 0) : rLen B s = (0, s) := by unfold rLen; rw [rUint_dead h]; rw [if_neg (show ¬ (4611686018427387903 : Int) < 0 by decide)]
theorem rBytes_dead {B : List Int} {s : RS} {n : Nat} (h : s.co ≠ 0) : rBytes B s n = ([], s) := by unfold rBytes; rw [if_neg h]
theorem kindF_dead {s : RS} {kk : Int} {a : Nat} (h : s.co ≠ 0) : kindF s kk a = s := by unfold kindF; rw [if_neg (fun x => h x.1)]
theorem versF_dead {s : RS} {v : Int} (h : s.co ≠ 0) : versF s v = s := by unfold versF; rw [if_neg (fun x => h x.1)]
theorem extraF_dead {B : List Int} {s : RS} (h : s.co ≠ 0) : extraF B s = s := by unfold extraF; rw [if_neg (fun x => h x.1)]
theorem rCmd_dead {B : List Int} {s : RS} (h : s.co ≠ 0) : rCmd B s = (⟨0, 0, 0, 0, []⟩, s) := by
  unfold rCmd
  simp only [rUint_dead h, kindF_dead h, rLen_dead h, rBytes_dead h]
  rw [if_neg (by decide)]
theorem rIter_dead {B : List Int} {s : RS} (h : s.co ≠ 0) : ∀ n, rIter B s n = ([], s)
  | 0 => rfl
  | n + 1 => by unfold rIter; rw [rIter_dead h n]; rw [if_neg h]
theorem rIter_stop {B : List Int} {s : RS} {i : Nat} (h : (rIter B s i).2.co ≠ 0) : ∀ n, rIter B s (i + n) = rIter B s i
  | 0 => rfl
  | n + 1 => by
    have ih := rIter_stop h n
    show (if (rIter B s (i + n)).2.co = 0 then ((rIter B s (i + n)).1 ++ [(rCmd B (rIter B s (i + n)).2).1], (rCmd B (rIter B s (i + n)).2).2) else rIter B s (i + n)) = _
    rw [ih, if_neg h]
/-! ### One step, from a position in a text of which the bytes are a beginning -/
def RdAt (B E : List Int) (s : RS) (R : List Int) : Prop := s.co = 0 ∧ s.k ≤ B.length ∧ E.drop s.k = R
theorem rd_take {B E : List Int} (hB : B <+: E) {s : RS} {X R : List Int} (h : RdAt B E s (X ++ R)) (hn : s.k + X.length ≤ B.length) : (B.drop s.k).take X.length = X := by
  obtain ⟨T, rfl⟩ := hB
  have h1 := h.2.2
  rw [List.drop_append_of_le_length h.2.1] at h1
  have h2 := congrArg (List.take X.length) h1
  rw [List.take_left, List.take_append_of_le_length (by rw [List.length_drop]; omega)] at h2
  exact h2
theorem rd_next {B E : List Int} {s : RS} {X R : List Int} (h : RdAt B E s (X ++ R)) (hn : s.k + X.length ≤ B.length) (po : Int) : RdAt B E ⟨s.k + X.length, 0, po⟩ R := by
  refine ⟨rfl, hn, ?_⟩
  show E.drop (s.k + X.length) = R
  rw [← List.drop_drop, h.2.2, List.drop_left]
def Short (B : List Int) (s : RS) : Prop := s.co = 8 ∧ s.po = B.length
theorem Short.dead {B : List Int} {s : RS} (h : Short B s) : s.co ≠ 0 := by rw [h.1]; decide
theorem rUint_at {B E : List Int} (hB : B <+: E) {s : RS} {X R : List Int} {n : Nat} (h : RdAt B E s (X ++ R)) (hn : X.length = n) :
    (rUint B s n = (valB X, ⟨s.k + n, 0, s.po⟩) ∧ RdAt B E ⟨s.k + n, 0, s.po⟩ R) ∨ (B.length < s.k + n ∧ rUint B s n = (0, ⟨s.k, 8, B.length⟩)) := by
  subst hn
  unfold rUint
  rw [if_pos h.1]
  by_cases hl : B.length < s.k + X.length
  · rw [if_pos hl]; exact .inr ⟨hl, rfl⟩
  · rw [if_neg hl, rd_take hB h (by omega)]; exact .inl ⟨rfl, rd_next h (by omega) _⟩
theorem rBytes_at {B E : List Int} (hB : B <+: E) {s : RS} {X R : List Int} {n : Nat} (h : RdAt B E s (X ++ R)) (hn : X.length = n) :
    (rBytes B s n = (X, ⟨s.k + n, 0, s.po⟩) ∧ RdAt B E ⟨s.k + n, 0, s.po⟩ R) ∨ (B.length < s.k + n ∧ rBytes B s n = ([], ⟨s.k, 8, B.length⟩)) := by
  subst hn
  unfold rBytes
  rw [if_pos h.1]
  by_cases hl : B.length < s.k + X.length
  · rw [if_pos hl]; exact .inr ⟨hl, rfl⟩
  · rw [if_neg hl, rd_take hB h (by omega)]; exact .inl ⟨rfl, rd_next h (by omega) _⟩
theorem be8_len (x : Int) : (beV x 8).length = 8 := beV_len x 8
theorem fit8 {x : Int} (h : inR x) : fitV x 8 := ⟨by decide, by decide, .inl rfl⟩
theorem val8 {x : Int} (h : inR x) : valB (beV x 8) = x := val_beV ⟨h.1, by unfold inR at h; omega⟩ (fit8 h)
theorem rLen_at {B E : List Int} (hB : B <+: E) {s : RS} {x : Int} {R : List Int} (hx : inR x) (h : RdAt B E s (beV x 8 ++ R)) :
    (rLen B s = (x, ⟨s.k + 8, 0, s.po⟩) ∧ RdAt B E ⟨s.k + 8, 0, s.po⟩ R) ∨ (B.length < s.k + 8 ∧ rLen B s = (0, ⟨s.k, 8, B.length⟩)) := by
  unfold rLen
  rcases rUint_at hB h (be8_len x) with ⟨h1, h2⟩ | ⟨h1, h2⟩
  · rw [h1, val8 hx]
    unfold inR at hx
    rw [if_neg (by show ¬ 4611686018427387903 < x; omega)]
    exact .inl ⟨rfl, h2⟩
  · rw [h2, if_neg (show ¬ (4611686018427387903 : Int) < 0 by decide)]; exact .inr ⟨h1, rfl⟩
theorem eight (a : Nat) (p : Int) : (⟨a, 8, p⟩ : RS).co ≠ 0 := by show (8 : Int) ≠ 0; decide
theorem val1 {k : Int} (h : k = 1 ∨ k = 2) : valB (beV k 1) = k := by rcases h with rfl | rfl <;> decide +kernel
theorem be1_len (x : Int) : (beV x 1).length = 1 := beV_len x 1
/-- One command. -/
theorem rCmd_at {B E : List Int} (hB : B <+: E) {s : RS} {c : CM} {R : List Int} (hc : okC c) (hl : (c.B.length : Int) ≤ 4611686018427387903) (h : RdAt B E s (encC c ++ R)) :
    (∃ s', rCmd B s = (c, s') ∧ RdAt B E s' R ∧ s'.po = s.po ∧ s'.k = s.k + (encC c).length) ∨ (B.length < s.k + (encC c).length ∧ Short B (rCmd B s).2) := by
  obtain ⟨ck, ct, cf, cl, D⟩ := c
  unfold okC encC at *
  dsimp only at *
  obtain ⟨hct, hc2⟩ := hc
  have hk : ck = 1 ∨ ck = 2 := by rcases hc2 with h | h; exact .inl h.1; exact .inr h.1
  rw [List.append_assoc, List.append_assoc] at h
  have hlen : (beV ck 1 ++ (beV ct 8 ++ (if ck = 1 then beV cf 8 ++ beV cl 8 else beV (D.length : Int) 8 ++ D))).length = 9 + (if ck = 1 then beV cf 8 ++ beV cl 8 else beV (D.length : Int) 8 ++ D).length := by
    rw [List.length_append, List.length_append, be1_len, be8_len]; omega
  rw [hlen]
  unfold rCmd
  rcases rUint_at hB h (be1_len ck) with ⟨h1, h2⟩ | ⟨h1, h2⟩
  · have hkf : kindF ⟨s.k + 1, 0, s.po⟩ ck s.k = ⟨s.k + 1, 0, s.po⟩ := by
      unfold kindF; rw [if_neg (fun x => by rcases hk with h | h; exact x.2.1 h; exact x.2.2 h)]
    simp only [h1, val1 hk, hkf]
    rcases rLen_at hB hct h2 with ⟨h3, h4⟩ | ⟨h3, h4⟩
    · simp only [h3]
      dsimp only at h4
      rcases hc2 with ⟨k1, kf, kl, kB⟩ | ⟨k2, kf, kl⟩
      · subst k1; subst kB
        rw [if_pos rfl] at h4 ⊢
        rw [if_pos rfl, List.length_append, be8_len, be8_len]
        rw [List.append_assoc] at h4
        rcases rLen_at hB kf h4 with ⟨h5, h6⟩ | ⟨h5, h6⟩
        · dsimp only at h6
          rcases rLen_at hB kl h6 with ⟨h7, h8⟩ | ⟨h7, h8⟩
          · simp only [h5, h7]
            exact .inl ⟨_, rfl, h8, rfl, by (try dsimp only) <;> omega⟩
          · simp only [h5, h8]
            dsimp only at h7
            exact .inr ⟨by omega, rfl, rfl⟩
        · simp only [h6, rLen_dead (eight _ _)]
          dsimp only at h5
          exact .inr ⟨by omega, rfl, rfl⟩
      · subst k2; subst kf; subst kl
        rw [if_neg (by decide)] at h4 ⊢
        rw [if_neg (by decide), List.length_append, be8_len]
        rw [List.append_assoc] at h4
        rcases rLen_at hB (x := (D.length : Int)) ⟨by omega, hl⟩ h4 with ⟨h5, h6⟩ | ⟨h5, h6⟩
        · dsimp only at h6
          simp only [h5, Int.toNat_natCast]
          rcases rBytes_at hB h6 rfl with ⟨h7, h8⟩ | ⟨h7, h8⟩
          · simp only [h7]
            exact .inl ⟨_, rfl, h8, rfl, by (try dsimp only) <;> omega⟩
          · simp only [h8]
            dsimp only at h7
            exact .inr ⟨by omega, rfl, rfl⟩
        · simp only [h6, rBytes_dead (eight _ _)]
          dsimp only at h5
          exact .inr ⟨by omega, rfl, rfl⟩
    · simp only [h4, rLen_dead (eight _ _), rBytes_dead (eight _ _)]
      dsimp only at h3
      refine .inr ⟨by omega, ?_⟩
      split <;> exact ⟨rfl, rfl⟩
  · simp only [h2, kindF_dead (eight _ _), rLen_dead (eight _ _), rBytes_dead (eight _ _)]
    refine .inr ⟨by omega, ?_⟩
    split <;> exact ⟨rfl, rfl⟩
/-- All commands. -/
theorem encCs_app (l r : List CM) : encCs (l ++ r) = encCs l ++ encCs r := by
  induction l with
  | nil => rfl
  | cons c l ih => show encC c ++ encCs (l ++ r) = _; rw [ih, ← List.append_assoc]; rfl
theorem encC_pos (c : CM) : 17 ≤ (encC c).length := by
  unfold encC
  rw [List.length_append, List.length_append, be1_len, be8_len]
  split
  · rw [List.length_append, be8_len]; omega
  · rw [List.length_append, be8_len]; omega
theorem encCs_le (l : List CM) : l.length ≤ (encCs l).length := by
  induction l with
  | nil => exact Nat.le_refl _
  | cons c l ih => show l.length + 1 ≤ (encC c ++ encCs l).length; rw [List.length_append]; have := encC_pos c; omega
theorem rIter_succ_ok {B : List Int} {s : RS} {i : Nat} (h : (rIter B s i).2.co = 0) : rIter B s (i + 1) = ((rIter B s i).1 ++ [(rCmd B (rIter B s i).2).1], (rCmd B (rIter B s i).2).2) := by
  show (if (rIter B s i).2.co = 0 then _ else _) = _; rw [if_pos h]
theorem rIter_succ_no {B : List Int} {s : RS} {i : Nat} (h : (rIter B s i).2.co ≠ 0) : rIter B s (i + 1) = rIter B s i := rIter_stop h 1
theorem rIter_at {B E : List Int} (hB : B <+: E) {s : RS} {Cs : List CM} {R : List Int} (hok : ∀ c ∈ Cs, okC c ∧ (c.B.length : Int) ≤ 4611686018427387903) (h : RdAt B E s (encCs Cs ++ R)) : ∀ i, i ≤ Cs.length →
    (∃ s', rIter B s i = (Cs.take i, s') ∧ RdAt B E s' (encCs (Cs.drop i) ++ R) ∧ s'.po = s.po ∧ s'.k = s.k + (encCs (Cs.take i)).length) ∨ (B.length < s.k + (encCs Cs).length ∧ Short B (rIter B s i).2)
  | 0, _ => .inl ⟨s, rfl, h, rfl, rfl⟩
  | i + 1, hi => by
    rcases rIter_at hB hok h i (by omega) with ⟨s', h1, h2, h3, h4⟩ | ⟨h1, h2⟩
    · have hx : Cs[i]? = some Cs[i] := List.getElem?_eq_getElem (by omega)
      have hd : Cs.drop i = Cs[i] :: Cs.drop (i + 1) := List.drop_eq_getElem_cons (by omega)
      have ht : Cs.take (i + 1) = Cs.take i ++ [Cs[i]] := take_one hx
      have hsp : encCs Cs = encCs (Cs.take i) ++ (encC Cs[i] ++ encCs (Cs.drop (i + 1))) := by
        conv => lhs; rw [← List.take_append_drop i Cs]
        rw [encCs_app, hd]; rfl
      rw [hd] at h2
      have h2' : RdAt B E s' (encC Cs[i] ++ (encCs (Cs.drop (i + 1)) ++ R)) := by rw [← List.append_assoc]; exact h2
      have hco : (rIter B s i).2.co = 0 := by rw [h1]; exact h2.1
      rw [rIter_succ_ok hco, h1]
      have hm := hok Cs[i] (List.getElem_mem (by omega))
      rcases rCmd_at hB hm.1 hm.2 h2' with ⟨s2, h5, h6, h7, h8⟩ | ⟨h5, h6⟩
      · refine .inl ⟨s2, by dsimp only; rw [h5, ht], h6, h7.trans h3, ?_⟩
        rw [ht, encCs_app, List.length_append, h8, h4]
        show _ = _ + (_ + (encC Cs[i] ++ []).length)
        rw [List.append_nil]; omega
      · refine .inr ⟨?_, h6⟩
        rw [hsp, List.length_append, List.length_append]; omega
    · refine .inr ⟨h1, ?_⟩
      rw [rIter_succ_no h2.dead]; exact h2
theorem rExp_at {B E : List Int} (hB : B <+: E) {s : RS} {D R : List Int} {code : Int} (h : RdAt B E s (D ++ R)) :
    (rExp B s D code = (true, ⟨s.k + D.length, 0, s.po⟩) ∧ RdAt B E ⟨s.k + D.length, 0, s.po⟩ R) ∨ (B.length < s.k + D.length ∧ rExp B s D code = (false, ⟨s.k, 8, B.length⟩)) := by
  unfold rExp
  rw [if_pos h.1]
  by_cases hl : s.k + D.length ≤ B.length
  · rw [if_pos (rd_take hB h hl)]; exact .inl ⟨rfl, rd_next h hl _⟩
  · have h1 : ¬ (B.drop s.k).take D.length = D := fun e => by
      have := congrArg List.length e
      rw [List.length_take, List.length_drop] at this
      have := h.2.1
      omega
    rw [if_neg h1]
    have h2 : D.take (B.length - s.k) = B.drop s.k := by
      obtain ⟨T, rfl⟩ := hB
      have h3 := h.2.2
      rw [List.drop_append_of_le_length h.2.1] at h3
      have h4 := congrArg (List.take (B.length - s.k)) h3
      rw [List.take_left' (by rw [List.length_drop]), List.take_append_of_le_length (by omega)] at h4
      exact h4.symm
    rw [if_pos h2]; exact .inr ⟨by omega, rfl⟩
theorem be4_len (x : Int) : (beV x 4).length = 4 := beV_len x 4
theorem val4 {m : Nat} (h : m < 4294967296) : valB (beV (m : Int) 4) = (m : Int) := val_beV ⟨by omega, by omega⟩ ⟨by decide, by decide, .inr (by
  rw [show (8 * (4 : Int)) = ((32 : Nat) : Int) from rfl, shr_nat (by decide), Nat.div_eq_of_lt (by rw [show (2 : Nat) ^ 32 = 4294967296 by decide]; exact h)]; rfl)⟩
/-- A beginning of an encoding is read as far as it goes. -/
theorem rDec_at {B E : List Int} (hB : B <+: E) {o n : Int} {h1 h2 : List Int} {Cs : List CM} {R : List Int} (ho : inR o) (hn : inR n) (hl1 : h1.length = 32) (hl2 : h2.length = 32) (hc : Cs.length < 4294967296)
    (hok : ∀ c ∈ Cs, okC c ∧ (c.B.length : Int) ≤ 4611686018427387903) (hE : E = encD o n h1 h2 Cs ++ R) :
    (∃ s, rDec B = ⟨o, n, h1, h2, Cs, extraF B s⟩ ∧ s.co = 0 ∧ s.po = 0 ∧ s.k = (encD o n h1 h2 Cs).length ∧ s.k ≤ B.length) ∨ (B.length < (encD o n h1 h2 Cs).length ∧ Short B (rDec B).s) := by
  have hlen : (encD o n h1 h2 Cs).length = 89 + (encCs Cs).length := by
    unfold encD magicB
    simp only [List.length_append, be1_len, be8_len, be4_len, hl1, hl2, List.length_cons, List.length_nil]; omega
  rw [hlen]
  unfold encD at hE
  simp only [List.append_assoc] at hE
  have h0 : RdAt B E ⟨0, 0, 0⟩ (magicB ++ (beV 1 1 ++ (beV o 8 ++ (beV n 8 ++ (h1 ++ (h2 ++ (beV (Cs.length : Int) 4 ++ (encCs Cs ++ R)))))))) := ⟨rfl, Nat.zero_le _, by rw [List.drop_zero]; exact hE⟩
  have key : ∀ s : RS, Short B s → Short B (extraF B s) := fun s h => by rw [extraF_dead h.dead]; exact h
  unfold rDec
  rcases rExp_at (code := 9) hB h0 with ⟨e1, a1⟩ | ⟨e1, e2⟩
  rotate_left
  · simp only [e2, rUint_dead (eight _ _), versF_dead (eight _ _), rLen_dead (eight _ _), rBytes_dead (eight _ _), rIter_dead (eight _ _)]
    exact .inr ⟨by unfold magicB at e1; dsimp only [List.length_cons, List.length_nil] at e1; omega, key _ ⟨rfl, rfl⟩⟩
  have m4 : magicB.length = 4 := rfl
  simp only [e1, m4, Nat.zero_add]
  rw [m4] at a1; dsimp only [Nat.zero_add] at a1
  rcases rUint_at hB a1 (be1_len 1) with ⟨e1, a1⟩ | ⟨e1, e2⟩
  rotate_left
  · simp only [e2, versF_dead (eight _ _), rLen_dead (eight _ _), rUint_dead (eight _ _), rBytes_dead (eight _ _), rIter_dead (eight _ _)]
    exact .inr ⟨by dsimp only at e1; omega, key _ ⟨rfl, rfl⟩⟩
  have hv : versF ⟨4 + 1, 0, 0⟩ (valB (beV 1 1)) = ⟨4 + 1, 0, 0⟩ := by unfold versF; rw [val1 (.inl rfl), if_neg (fun h => h.2 rfl)]
  simp only [e1, hv]
  dsimp only at a1
  rcases rLen_at hB ho a1 with ⟨e1, a1⟩ | ⟨e1, e2⟩
  rotate_left
  · simp only [e2, rLen_dead (eight _ _), rUint_dead (eight _ _), rBytes_dead (eight _ _), rIter_dead (eight _ _)]
    exact .inr ⟨by dsimp only at e1; omega, key _ ⟨rfl, rfl⟩⟩
  simp only [e1]
  dsimp only at a1
  rcases rLen_at hB hn a1 with ⟨e1, a1⟩ | ⟨e1, e2⟩
  rotate_left
  · simp only [e2, rUint_dead (eight _ _), rBytes_dead (eight _ _), rIter_dead (eight _ _)]
    exact .inr ⟨by dsimp only at e1; omega, key _ ⟨rfl, rfl⟩⟩
  simp only [e1]
  dsimp only at a1
  rcases rBytes_at hB a1 hl1 with ⟨e1, a1⟩ | ⟨e1, e2⟩
  rotate_left
  · simp only [e2, rUint_dead (eight _ _), rBytes_dead (eight _ _), rIter_dead (eight _ _)]
    exact .inr ⟨by dsimp only at e1; omega, key _ ⟨rfl, rfl⟩⟩
  simp only [e1]
  dsimp only at a1
  rcases rBytes_at hB a1 hl2 with ⟨e1, a1⟩ | ⟨e1, e2⟩
  rotate_left
  · simp only [e2, rUint_dead (eight _ _), rIter_dead (eight _ _)]
    exact .inr ⟨by dsimp only at e1; omega, key _ ⟨rfl, rfl⟩⟩
  simp only [e1]
  dsimp only at a1
  rcases rUint_at hB a1 (be4_len _) with ⟨e1, a1⟩ | ⟨e1, e2⟩
  rotate_left
  · simp only [e2, rIter_dead (eight _ _)]
    exact .inr ⟨by dsimp only at e1; omega, key _ ⟨rfl, rfl⟩⟩
  simp only [e1, val4 hc, Int.toNat_natCast]
  dsimp only at a1
  rcases rIter_at hB hok a1 Cs.length (Nat.le_refl _) with ⟨s', e1, a2, a3, a4⟩ | ⟨e1, e2⟩
  · rw [List.take_length] at e1 a4
    rw [e1]
    dsimp only at a3 a4 ⊢
    exact .inl ⟨s', rfl, a2.1, a3, by omega, a2.2.1⟩
  · dsimp only at e1
    exact .inr ⟨by omega, key _ e2⟩
/-- What is written is read back; what follows it is too much; what is cut off is too short. -/
theorem rDec_inv {o n : Int} {h1 h2 : List Int} {Cs : List CM} (ho : inR o) (hn : inR n) (hl1 : h1.length = 32) (hl2 : h2.length = 32) (hc : Cs.length < 4294967296) (hok : ∀ c ∈ Cs, okC c ∧ (c.B.length : Int) ≤ 4611686018427387903) :
    rDec (encD o n h1 h2 Cs) = ⟨o, n, h1, h2, Cs, ⟨(encD o n h1 h2 Cs).length, 0, 0⟩⟩ := by
  rcases rDec_at (R := []) (List.prefix_refl (encD o n h1 h2 Cs)) ho hn hl1 hl2 hc hok (List.append_nil _).symm with ⟨s, e1, e2, e3, e4, e5⟩ | ⟨e1, _⟩
  · rw [e1]
    have : extraF (encD o n h1 h2 Cs) s = ⟨(encD o n h1 h2 Cs).length, 0, 0⟩ := by
      unfold extraF; rw [if_neg (fun h => by have := h.2; omega)]
      obtain ⟨k, co, po⟩ := s
      dsimp only at e2 e3 e4
      rw [e2, e3, e4]
    rw [this]
  · omega
end Go.Proofs.Ytclmgfcdnokaiaa
/-
  The encoding of deltas: what is accepted is the encoding of what was read.
-/
namespace Go.Proofs.Ytclmgfcdnokaiaa
set_option linter.unusedVariables false
set_option linter.unusedSimpArgs false
set_option linter.unusedVariables false
open Go Go.RowKit
theorem u8wrap (x : Int) : IntKind.u8.wrap x = x % 256 := by simp [IntKind.wrap, IntKind.signed, IntKind.bits]
theorem beV_byt (x n : Int) : Bytes (beV x n) := fun y hy => by
  unfold beV beP at hy
  obtain ⟨i, _, rfl⟩ := List.mem_map.1 hy
  rw [u8wrap]
  have h := Int.emod_nonneg (shrI .u64 x (8 * n - 8 * (i : Int) - 8)) (show (256 : Int) ≠ 0 by decide)
  have h2 := Int.emod_lt_of_pos (shrI .u64 x (8 * n - 8 * (i : Int) - 8)) (show (0 : Int) < 256 by decide)
  omega
theorem valB_natR' : ∀ {B : List Int}, Bytes B → ∃ v : Nat, valB B.reverse = (v : Int) ∧ v < 256 ^ B.length
  | [], _ => ⟨0, rfl, by simp⟩
  | b :: l, h => by
    obtain ⟨v, h1, h2⟩ := valB_natR' (B := l) (fun x hx => h x (List.mem_cons_of_mem _ hx))
    have hb := h b List.mem_cons_self
    obtain ⟨c, rfl⟩ := Int.eq_ofNat_of_zero_le hb.1
    refine ⟨256 * v + c, by rw [List.reverse_cons, valB_snoc, h1]; omega, ?_⟩
    rw [List.length_cons, Nat.pow_succ]
    omega
theorem valB_nat' {B : List Int} (h : Bytes B) : ∃ v : Nat, valB B = (v : Int) ∧ v < 256 ^ B.length := by
  have := valB_natR' (B := B.reverse) (fun x hx => h x (List.mem_reverse.1 hx))
  rw [List.reverse_reverse, List.length_reverse] at this; exact this
theorem valB_injR : ∀ {X Y : List Int}, Bytes X → Bytes Y → X.length = Y.length → valB X.reverse = valB Y.reverse → X = Y
  | [], [], _, _, _, _ => rfl
  | [], y :: Y, _, _, h, _ => by simp at h
  | x :: X, [], _, _, h, _ => by simp at h
  | x :: X, y :: Y, hX, hY, hl, h => by
    rw [List.reverse_cons, List.reverse_cons, valB_snoc, valB_snoc] at h
    have hx := hX x List.mem_cons_self
    have hy := hY y List.mem_cons_self
    have h1 : x = y := by omega
    subst h1
    rw [valB_injR (X := X) (Y := Y) (fun z hz => hX z (List.mem_cons_of_mem _ hz)) (fun z hz => hY z (List.mem_cons_of_mem _ hz)) (by simpa using hl) (by omega)]
theorem valB_inj {X Y : List Int} (hX : Bytes X) (hY : Bytes Y) (hl : X.length = Y.length) (h : valB X = valB Y) : X = Y := by
  have := valB_injR (X := X.reverse) (Y := Y.reverse) (fun z hz => hX z (List.mem_reverse.1 hz)) (fun z hz => hY z (List.mem_reverse.1 hz)) (by simpa using hl) (by simpa using h)
  exact List.reverse_inj.1 this
theorem beV_valB {X : List Int} {n : Nat} (hX : Bytes X) (hl : X.length = n) (h1 : 1 ≤ n) (h8 : n ≤ 8) : beV (valB X) (n : Int) = X := by
  obtain ⟨v, h2, h3⟩ := valB_nat' hX
  rw [hl] at h3
  have h4 : (256 : Nat) ^ n = 2 ^ (8 * n) := by rw [show (256 : Nat) = 2 ^ 8 by rfl, ← Nat.pow_mul]
  have h5 : (256 : Nat) ^ n ≤ 256 ^ 8 := Nat.pow_le_pow_right (by decide) h8
  have h6 : (256 : Nat) ^ 8 = 18446744073709551616 := by decide
  refine valB_inj (beV_byt _ _) hX (by rw [beV_len, hl]; omega) ?_
  refine val_beV ⟨by omega, by omega⟩ ⟨by omega, by omega, .inr ?_⟩
  rw [h2, show (8 * (n : Int)) = ((8 * n : Nat) : Int) by omega, shr_nat (by omega), Nat.div_eq_of_lt (by omega)]; rfl
theorem take_step (B : List Int) (k n : Nat) : B.take (k + n) = B.take k ++ (B.drop k).take n := List.take_add
section
variable {B : List Int} {s : RS} {n : Nat}
theorem seg_len (h : s.k + n ≤ B.length) : ((B.drop s.k).take n).length = n := by rw [List.length_take, List.length_drop]; omega
theorem rUint_back (h : (rUint B s n).2.co = 0) : s.co = 0 ∧ s.k + n ≤ B.length ∧ rUint B s n = (valB ((B.drop s.k).take n), ⟨s.k + n, 0, s.po⟩) := by
  unfold rUint at h ⊢
  by_cases h1 : s.co = 0
  · rw [if_pos h1] at h ⊢
    by_cases h2 : B.length < s.k + n
    · rw [if_pos h2] at h; exact absurd h (eight _ _)
    · rw [if_neg h2]; exact ⟨h1, by omega, rfl⟩
  · rw [if_neg h1] at h; exact absurd h h1
theorem rBytes_back (h : (rBytes B s n).2.co = 0) : s.co = 0 ∧ s.k + n ≤ B.length ∧ rBytes B s n = ((B.drop s.k).take n, ⟨s.k + n, 0, s.po⟩) := by
  unfold rBytes at h ⊢
  by_cases h1 : s.co = 0
  · rw [if_pos h1] at h ⊢
    by_cases h2 : B.length < s.k + n
    · rw [if_pos h2] at h; exact absurd h (eight _ _)
    · rw [if_neg h2]; exact ⟨h1, by omega, rfl⟩
  · rw [if_neg h1] at h; exact absurd h h1
theorem rFail_back {c p : Int} (hc : c ≠ 0) (h : (rFail s c p).co = 0) : False := by
  unfold rFail at h
  by_cases h1 : s.co = 0
  · rw [if_pos ⟨h1, hc⟩] at h; exact hc h
  · rw [if_neg (fun x => h1 x.1)] at h; exact h1 h
theorem rLen_back (hB : Bytes B) (h : (rLen B s).2.co = 0) : s.co = 0 ∧ s.k + 8 ≤ B.length ∧ rLen B s = (valB ((B.drop s.k).take 8), ⟨s.k + 8, 0, s.po⟩) ∧ inR (valB ((B.drop s.k).take 8)) := by
  unfold rLen at h ⊢
  by_cases h1 : 4611686018427387903 < (rUint B s 8).1
  · rw [if_pos h1] at h; exact (rFail_back (by decide) h).elim
  · rw [if_neg h1] at h ⊢
    obtain ⟨h2, h3, h4⟩ := rUint_back h
    refine ⟨h2, h3, h4, ?_⟩
    rw [h4] at h1
    obtain ⟨v, h5, _⟩ := valB_nat' ((hB.drop s.k).take 8)
    dsimp only at h1
    unfold inR; omega
theorem kindF_back {kk : Int} {a : Nat} (h : (kindF s kk a).co = 0) : s.co = 0 ∧ (kk = 1 ∨ kk = 2) ∧ kindF s kk a = s := by
  unfold kindF at h ⊢
  by_cases h1 : s.co = 0 ∧ kk ≠ 1 ∧ kk ≠ 2
  · rw [if_pos h1] at h; exact (rFail_back (by decide) h).elim
  · rw [if_neg h1] at h ⊢
    refine ⟨h, ?_, rfl⟩
    by_cases h2 : kk = 1
    · exact .inl h2
    · exact .inr (Classical.byContradiction fun h3 => h1 ⟨h, h2, h3⟩)
theorem versF_back {v : Int} (h : (versF s v).co = 0) : s.co = 0 ∧ v = 1 ∧ versF s v = s := by
  unfold versF at h ⊢
  by_cases h1 : s.co = 0 ∧ v ≠ 1
  · rw [if_pos h1] at h; exact (rFail_back (by decide) h).elim
  · rw [if_neg h1] at h ⊢
    exact ⟨h, Classical.byContradiction fun h3 => h1 ⟨h, h3⟩, rfl⟩
theorem extraF_back (h : (extraF B s).co = 0) : s.co = 0 ∧ B.length ≤ s.k ∧ extraF B s = s := by
  unfold extraF at h ⊢
  by_cases h1 : s.co = 0 ∧ s.k < B.length
  · rw [if_pos h1] at h; exact (rFail_back (by decide) h).elim
  · rw [if_neg h1] at h ⊢
    exact ⟨h, Nat.le_of_not_lt fun h3 => h1 ⟨h, h3⟩, rfl⟩
theorem rExp_back {D : List Int} {code : Int} (hc : code ≠ 0) (h : (rExp B s D code).2.co = 0) : s.co = 0 ∧ (B.drop s.k).take D.length = D ∧ rExp B s D code = (true, ⟨s.k + D.length, 0, s.po⟩) := by
  unfold rExp at h ⊢
  by_cases h1 : s.co = 0
  · rw [if_pos h1] at h ⊢
    by_cases h2 : (B.drop s.k).take D.length = D
    · rw [if_pos h2]; exact ⟨h1, h2, rfl⟩
    · rw [if_neg h2] at h
      by_cases h3 : D.take (B.length - s.k) = B.drop s.k
      · rw [if_pos h3] at h; exact absurd h (eight _ _)
      · rw [if_neg h3] at h; exact (rFail_back hc h).elim
  · rw [if_neg h1] at h; exact absurd h h1
/-- What has been read so far, when a command has been read. -/
theorem rCmd_back (hB : Bytes B) (h : (rCmd B s).2.co = 0) : s.co = 0 ∧ okC (rCmd B s).1 ∧ (rCmd B s).1.B.length ≤ B.length ∧ Bytes (rCmd B s).1.B ∧ (rCmd B s).2.k ≤ B.length ∧ (rCmd B s).2.po = s.po ∧ B.take (rCmd B s).2.k = B.take s.k ++ encC (rCmd B s).1 := by
  unfold rCmd at h ⊢
  dsimp only at h ⊢
  by_cases hk : (rUint B s 1).1 = 1
  · rw [if_pos hk] at h ⊢
    dsimp only at h ⊢
    obtain ⟨c1, l1, e1, i1⟩ := rLen_back hB h
    obtain ⟨c2, l2, e2, i2⟩ := rLen_back hB c1
    obtain ⟨c3, l3, e3, i3⟩ := rLen_back hB c2
    obtain ⟨c4, hkk, e4⟩ := kindF_back c3
    obtain ⟨c5, l5, e5⟩ := rUint_back c4
    rw [e4, e5] at e3 l3 i3
    dsimp only at e3 l3 i3
    rw [e4, e5, e3] at e2 l2 i2
    dsimp only at e2 l2 i2
    rw [e4, e5, e3, e2] at e1 l1 i1
    dsimp only at e1 l1 i1
    have hv : valB ((B.drop s.k).take 1) = 1 := by rw [e5] at hk; exact hk
    rw [e4, hk, e5]; dsimp only
    rw [e3]; dsimp only
    rw [e2]; dsimp only
    rw [e1]; dsimp only
    have hX : beV 1 1 = (B.drop s.k).take 1 := by
      have := beV_valB (X := (B.drop s.k).take 1) (n := 1) ((hB.drop _).take _) (seg_len l5) (by decide) (by decide)
      rw [hv] at this; exact this
    refine ⟨c5, ⟨i3, .inl ⟨rfl, i2, i1, rfl⟩⟩, Nat.zero_le _, fun x hx => (by cases hx), l1, rfl, ?_⟩
    unfold encC
    dsimp only
    rw [if_pos rfl, hX]
    have q3 := beV_valB (X := (B.drop (s.k + 1)).take 8) (n := 8) ((hB.drop _).take _) (by rw [List.length_take, List.length_drop]; omega) (by decide) (by decide)
    have q2 := beV_valB (X := (B.drop (s.k + 1 + 8)).take 8) (n := 8) ((hB.drop _).take _) (by rw [List.length_take, List.length_drop]; omega) (by decide) (by decide)
    have q1 := beV_valB (X := (B.drop (s.k + 1 + 8 + 8)).take 8) (n := 8) ((hB.drop _).take _) (by rw [List.length_take, List.length_drop]; omega) (by decide) (by decide)
    rw [show (8 : Int) = ((8 : Nat) : Int) from rfl, q3, q2, q1, take_step, take_step, take_step, take_step]
    simp only [List.append_assoc]
  · rw [if_neg hk] at h ⊢
    dsimp only at h ⊢
    obtain ⟨c1, l1, e1⟩ := rBytes_back h
    obtain ⟨c2, l2, e2, i2⟩ := rLen_back hB c1
    obtain ⟨c3, l3, e3, i3⟩ := rLen_back hB c2
    obtain ⟨c4, hkk, e4⟩ := kindF_back c3
    obtain ⟨c5, l5, e5⟩ := rUint_back c4
    have hk2 : (rUint B s 1).1 = 2 := hkk.resolve_left hk
    rw [e4, e5] at e3 l3 i3
    dsimp only at e3 l3 i3
    rw [e4, e5, e3] at e2 l2 i2
    dsimp only at e2 l2 i2
    rw [e4, e5, e3, e2] at e1 l1
    dsimp only at e1 l1
    have hv : valB ((B.drop s.k).take 1) = 2 := by rw [e5] at hk2; exact hk2
    rw [e4, hk2, e5]; dsimp only
    rw [e3]; dsimp only
    rw [e2]; dsimp only
    rw [e1]; dsimp only
    have hX : beV 2 1 = (B.drop s.k).take 1 := by
      have := beV_valB (X := (B.drop s.k).take 1) (n := 1) ((hB.drop _).take _) (seg_len l5) (by decide) (by decide)
      rw [hv] at this; exact this
    generalize hm : valB ((B.drop (s.k + 1 + 8)).take 8) = m at *
    have hDl : ((B.drop (s.k + 1 + 8 + 8)).take m.toNat).length = m.toNat := by rw [List.length_take, List.length_drop]; omega
    refine ⟨c5, ⟨i3, .inr ⟨rfl, rfl, rfl⟩⟩, by rw [hDl]; omega, (hB.drop _).take _, l1, rfl, ?_⟩
    unfold encC
    dsimp only
    rw [if_neg (by decide), hX, hDl]
    have q3 := beV_valB (X := (B.drop (s.k + 1)).take 8) (n := 8) ((hB.drop _).take _) (by rw [List.length_take, List.length_drop]; omega) (by decide) (by decide)
    have q2 := beV_valB (X := (B.drop (s.k + 1 + 8)).take 8) (n := 8) ((hB.drop _).take _) (by rw [List.length_take, List.length_drop]; omega) (by decide) (by decide)
    have hmn : ((m.toNat : Nat) : Int) = m := Int.toNat_of_nonneg i2.1
    rw [hm] at q2
    rw [hmn, show (8 : Int) = ((8 : Nat) : Int) from rfl, q3, q2, take_step, take_step, take_step, take_step]
    simp only [List.append_assoc]
theorem rIter_back (hB : Bytes B) : ∀ i, (rIter B s i).2.co = 0 → s.k ≤ B.length → s.co = 0 ∧ (∀ c ∈ (rIter B s i).1, okC c ∧ c.B.length ≤ B.length ∧ Bytes c.B) ∧ (rIter B s i).1.length = i ∧ (rIter B s i).2.k ≤ B.length ∧ (rIter B s i).2.po = s.po ∧ B.take (rIter B s i).2.k = B.take s.k ++ encCs (rIter B s i).1
  | 0, h, hk => ⟨h, fun c hc => (by cases hc), rfl, hk, rfl, by show _ = _ ++ []; rw [List.append_nil]; rfl⟩
  | i + 1, h, hk => by
    by_cases h1 : (rIter B s i).2.co = 0
    · obtain ⟨a1, a2, a3, a4, a5, a6⟩ := rIter_back hB i h1 hk
      rw [rIter_succ_ok h1] at h ⊢
      dsimp only at h ⊢
      obtain ⟨b1, b2, b3, b4, b5, b6, b7⟩ := rCmd_back hB h
      refine ⟨a1, fun c hc => ?_, by rw [List.length_append, a3]; rfl, b5, b6.trans a5, ?_⟩
      · rcases List.mem_append.1 hc with hc | hc
        · exact a2 c hc
        · rw [List.mem_singleton.1 hc]; exact ⟨b2, b3, b4⟩
      · rw [b7, a6, encCs_app]
        show _ = _ ++ (_ ++ (encC _ ++ []))
        rw [List.append_nil, List.append_assoc]
    · rw [rIter_succ_no h1] at h; exact absurd h h1
end
/-- What is accepted is the encoding of what was read. -/
theorem rDec_back {B : List Int} (hB : Bytes B) (h : (rDec B).s.co = 0) :
    inR (rDec B).o ∧ inR (rDec B).n ∧ (rDec B).h1.length = 32 ∧ (rDec B).h2.length = 32 ∧ (rDec B).Cs.length < 4294967296 ∧ (∀ c ∈ (rDec B).Cs, okC c ∧ c.B.length ≤ B.length ∧ Bytes c.B) ∧ (rDec B).Cs.length ≤ B.length ∧
    encD (rDec B).o (rDec B).n (rDec B).h1 (rDec B).h2 (rDec B).Cs = B ∧ (rDec B).s = ⟨B.length, 0, 0⟩ := by
  unfold rDec at h ⊢
  dsimp only at h ⊢
  obtain ⟨c0, l0, e0⟩ := extraF_back h
  have hlt : ∀ (s : RS) (n : Nat), (rUint B s n).2.co = 0 → (rUint B s n).2.k ≤ B.length := fun s n h => by
    obtain ⟨_, h2, h3⟩ := rUint_back h
    rw [h3]; exact h2
  have hco : ∀ (s : RS) i, (rIter B s i).2.co = 0 → s.co = 0 := fun s i hh => Classical.byContradiction fun hn => by rw [rIter_dead hn] at hh; exact hn hh
  have c1 := hco _ _ c0
  obtain ⟨_, a2, a3, a4, a5, a6⟩ := rIter_back hB _ c0 (hlt _ _ c1)
  obtain ⟨c2, l2, e2⟩ := rUint_back c1
  obtain ⟨c3, l3, e3⟩ := rBytes_back c2
  obtain ⟨c4, l4, e4⟩ := rBytes_back c3
  obtain ⟨c5, l5, e5, i5⟩ := rLen_back hB c4
  obtain ⟨c6, l6, e6, i6⟩ := rLen_back hB c5
  obtain ⟨c7, v7, e7⟩ := versF_back c6
  obtain ⟨c8, l8, e8⟩ := rUint_back c7
  obtain ⟨c9, d9, e9⟩ := rExp_back (by decide) c8
  have m4 : magicB.length = 4 := rfl
  rw [m4] at e9 d9
  dsimp only at e9 d9
  rw [e9] at e8 l8
  dsimp only at e8 l8
  rw [e9] at v7 e7
  dsimp only at v7 e7
  rw [e8] at v7 e7
  dsimp only at v7 e7
  simp only [e9, e8, e7] at e6 l6 i6
  simp only [e9, e8, e7, e6] at e5 l5 i5
  simp only [e9, e8, e7, e6, e5] at e4 l4
  simp only [e9, e8, e7, e6, e5, e4] at e3 l3
  simp only [e9, e8, e7, e6, e5, e4, e3] at e2 l2
  simp only [e9, e8, e7, e6, e5, e4, e3, e2] at a2 a3 a4 a5 a6 e0 l0 c0
  simp only [e9, e8, e7, e6, e5, e4, e3, e2]
  generalize hr : rIter B ⟨0 + 4 + 1 + 8 + 8 + 32 + 32 + 4, 0, 0⟩ (valB ((B.drop (0 + 4 + 1 + 8 + 8 + 32 + 32)).take 4)).toNat = r at *
  have hb4 : Bytes ((B.drop (0 + 4 + 1 + 8 + 8 + 32 + 32)).take 4) := (hB.drop _).take _
  obtain ⟨v, v1, v2⟩ := valB_nat' hb4
  have hl4 : ((B.drop (0 + 4 + 1 + 8 + 8 + 32 + 32)).take 4).length = 4 := by rw [List.length_take, List.length_drop]; omega
  rw [hl4, show (256 : Nat) ^ 4 = 4294967296 by decide] at v2
  rw [v1, Int.toNat_natCast] at a3
  have hle : r.1.length ≤ B.length := by
    have h1 := encCs_le r.1
    have h2 := congrArg List.length a6
    rw [List.length_append, List.length_take, List.length_take] at h2
    omega
  have hBk : B.take r.2.k = B := List.take_of_length_le l0
  refine ⟨i6, i5, by rw [List.length_take, List.length_drop]; omega, by rw [List.length_take, List.length_drop]; omega, by omega, a2, hle, ?_, ?_⟩
  · have q1 := beV_valB (X := (B.drop (0 + 4)).take 1) (n := 1) ((hB.drop _).take _) (by rw [List.length_take, List.length_drop]; omega) (by decide) (by decide)
    have q2 := beV_valB (X := (B.drop (0 + 4 + 1)).take 8) (n := 8) ((hB.drop _).take _) (by rw [List.length_take, List.length_drop]; omega) (by decide) (by decide)
    have q3 := beV_valB (X := (B.drop (0 + 4 + 1 + 8)).take 8) (n := 8) ((hB.drop _).take _) (by rw [List.length_take, List.length_drop]; omega) (by decide) (by decide)
    have q4 := beV_valB (X := (B.drop (0 + 4 + 1 + 8 + 8 + 32 + 32)).take 4) (n := 4) hb4 hl4 (by decide) (by decide)
    rw [v7] at q1
    rw [v1, ← a3] at q4
    have q1' : beV 1 1 = (B.drop (0 + 4)).take 1 := q1
    have q4' : beV (r.1.length : Int) 4 = (B.drop (0 + 4 + 1 + 8 + 8 + 32 + 32)).take 4 := q4
    unfold encD
    rw [show (8 : Int) = ((8 : Nat) : Int) from rfl, q1', q2, q3, q4']
    have hM : magicB = B.take (0 + 4) := by rw [take_step]; rw [List.take_zero, List.nil_append]; exact d9.symm
    rw [hBk] at a6
    conv => rhs; rw [a6]
    rw [take_step B (0 + 4 + 1 + 8 + 8 + 32 + 32) 4, take_step B (0 + 4 + 1 + 8 + 8 + 32) 32, take_step B (0 + 4 + 1 + 8 + 8) 32, take_step B (0 + 4 + 1 + 8) 8, take_step B (0 + 4 + 1) 8, take_step B (0 + 4) 1, ← hM]
    simp only [List.append_assoc]
  · rw [e0]
    have hk : r.2.k = B.length := by omega
    obtain ⟨r1, ⟨k, co, po⟩⟩ := r
    dsimp only at hk c0 a5 ⊢
    rw [hk, c0, a5]
/-! ### Where a fault lies -/
def RI (B : List Int) (s : RS) : Prop := s.k ≤ B.length ∧ ((s.co = 0 ∧ s.po = 0) ∨ (s.co ≠ 0 ∧ 0 ≤ s.po ∧ s.po ≤ B.length))
section
variable {B : List Int} {s : RS} {n : Nat}
theorem rFail_ri {c p : Int} (hc : c ≠ 0) (h0 : 0 ≤ p) (hp : s.co = 0 → p ≤ B.length) (h : RI B s) : RI B (rFail s c p) := by
  unfold rFail
  by_cases h1 : s.co = 0
  · rw [if_pos ⟨h1, hc⟩]; exact ⟨h.1, .inr ⟨hc, h0, hp h1⟩⟩
  · rw [if_neg (fun x => h1 x.1)]; exact h
theorem po0 (h : RI B s) (hc : s.co = 0) : s.po = 0 := by
  rcases h.2 with h | h
  · exact h.2
  · exact absurd hc h.1
theorem rUint_ri (h : RI B s) : RI B (rUint B s n).2 := by
  unfold rUint
  by_cases h1 : s.co = 0
  · rw [if_pos h1]
    by_cases h2 : B.length < s.k + n
    · rw [if_pos h2]; exact ⟨h.1, .inr ⟨eight _ _, by dsimp only; omega, Int.le_refl _⟩⟩
    · rw [if_neg h2]; exact ⟨by dsimp only; omega, .inl ⟨rfl, (po0 h h1 : s.po = 0)⟩⟩
  · rw [if_neg h1]; exact h
theorem rBytes_ri (h : RI B s) : RI B (rBytes B s n).2 := by
  unfold rBytes
  by_cases h1 : s.co = 0
  · rw [if_pos h1]
    by_cases h2 : B.length < s.k + n
    · rw [if_pos h2]; exact ⟨h.1, .inr ⟨eight _ _, by dsimp only; omega, Int.le_refl _⟩⟩
    · rw [if_neg h2]; exact ⟨by dsimp only; omega, .inl ⟨rfl, (po0 h h1 : s.po = 0)⟩⟩
  · rw [if_neg h1]; exact h
theorem rLen_ri (h : RI B s) : RI B (rLen B s).2 := by
  unfold rLen
  split
  · exact rFail_ri (by decide) (by omega) (fun _ => by have := h.1; omega) (rUint_ri h)
  · exact rUint_ri h
theorem kindF_ri {kk : Int} {a : Nat} (ha : a ≤ B.length) (h : RI B s) : RI B (kindF s kk a) := by
  unfold kindF
  split
  · exact rFail_ri (by decide) (by omega) (fun _ => by omega) h
  · exact h
theorem extraF_ri (h : RI B s) : RI B (extraF B s) := by
  unfold extraF
  split
  · exact rFail_ri (by decide) (by omega) (fun _ => by have := h.1; omega) h
  · exact h
theorem rExp_ri {D : List Int} {code : Int} (hc : code ≠ 0) (h : RI B s) : RI B (rExp B s D code).2 := by
  unfold rExp
  by_cases h1 : s.co = 0
  · rw [if_pos h1]
    by_cases h2 : (B.drop s.k).take D.length = D
    · rw [if_pos h2]
      have h3 := congrArg List.length h2
      rw [List.length_take, List.length_drop] at h3
      have := h.1
      exact ⟨by dsimp only; omega, .inl ⟨rfl, (po0 h h1 : s.po = 0)⟩⟩
    · rw [if_neg h2]
      by_cases h3 : D.take (B.length - s.k) = B.drop s.k
      · rw [if_pos h3]; exact ⟨h.1, .inr ⟨eight _ _, by dsimp only; omega, Int.le_refl _⟩⟩
      · rw [if_neg h3]; exact rFail_ri hc (by omega) (fun _ => by have := h.1; omega) h
  · rw [if_neg h1]; exact h
theorem rCmd_ri (h : RI B s) : RI B (rCmd B s).2 := by
  have h2 := rLen_ri (kindF_ri (kk := (rUint B s 1).1) (a := s.k) h.1 (rUint_ri (n := 1) h))
  unfold rCmd
  dsimp only
  split
  · exact rLen_ri (rLen_ri h2)
  · exact rBytes_ri (rLen_ri h2)
theorem rIter_ri (h : RI B s) : ∀ i, RI B (rIter B s i).2
  | 0 => h
  | i + 1 => by
    by_cases h1 : (rIter B s i).2.co = 0
    · rw [rIter_succ_ok h1]; exact rCmd_ri (rIter_ri h i)
    · rw [rIter_succ_no h1]; exact rIter_ri h i
end
theorem rVers_ri (B : List Int) (v : Int) : RI B (versF (rUint B (rExp B ⟨0, 0, 0⟩ magicB 9).2 1).2 v) := by
  have h0 : RI B ⟨0, 0, 0⟩ := ⟨Nat.zero_le _, .inl ⟨rfl, rfl⟩⟩
  have h2 := rUint_ri (n := 1) (rExp_ri (D := magicB) (code := 9) (by decide) h0)
  unfold versF
  split
  · rename_i hv
    refine rFail_ri (by decide) (by decide) (fun hc => ?_) h2
    obtain ⟨a, b, _⟩ := rUint_back hc
    obtain ⟨_, _, e⟩ := rExp_back (by decide) a
    rw [e] at b
    have : magicB.length = 4 := rfl
    rw [this] at b
    dsimp only at b
    omega
  · exact h2
theorem rDec_ri (B : List Int) : RI B (rDec B).s := by
  have h3 := rVers_ri B
  unfold rDec
  dsimp only
  exact extraF_ri (rIter_ri (rUint_ri (rBytes_ri (rBytes_ri (rLen_ri (rLen_ri (h3 _)))))) _)
end Go.Proofs.Ytclmgfcdnokaiaa
/-
  The reference of layer 6: Fail, Uint.
-/
namespace Go.Proofs.Ytclmgfcdnokaiaa
set_option linter.unusedVariables false
set_option linter.unusedSimpArgs false
open Go Go.RowKit
theorem agg5 : (isAgg 5).run Try.prog = fun w => .ok false w := isAgg_no Try.underlying5 rfl
theorem enters31 : Enters Try.prog 31 := ⟨_, Try.func31, by kernel_rfl, by kernel_rfl⟩
instance : Fld Try.prog 67 0 0 := ⟨⟨_, _, _, Try.underlying67, rfl, size28, rfl⟩⟩
instance : Fld Try.prog 67 1 1 := ⟨⟨_, _, _, Try.underlying67, rfl, size3, rfl⟩⟩
instance : Fld Try.prog 67 2 2 := ⟨⟨_, _, _, Try.underlying67, rfl, size3, rfl⟩⟩
instance : Fld Try.prog 67 3 3 := ⟨⟨_, _, _, Try.underlying67, rfl, size3, rfl⟩⟩
set_option maxRecDepth 100000 in
set_option maxHeartbeats 400000 in
theorem rfail_dead (g : Nat) (A : Option Addr) (m c k : Nat) (co po d n : Int) (hco : co ≠ 0) (w : World) (hl : Ent.lies ⟨g, 67, rdC A m c k co po, rdN⟩ w)  : Calls Try.prog 31 #[.pointer (some ⟨g, 0, none⟩), .int .i64 d, .int .i64 n] w fun e w' => e = .returned (.tuple #[]) ∧ St w [] w' := by
  refine calls_from (args := [.pointer (some ⟨g, 0, none⟩), .int .i64 d, .int .i64 n]) Try.func31 rfl Try.ntmps31 (by simp) ?_
  refine TC.pr [0, 1, 2] ?_
  refine TC.heap (H' := [⟨g, 67, [Value.slice A m c, Value.int .i64 (k : Int), Value.int .i64 co, Value.int .i64 po], 4⟩]) (fun w hs => hs.take hl ne_nil) ?_
  iterate 3 refine gx ?_
  refine TL.gets (Wants.none rfl) rfl (Gets.nilCheck rfl rfl) ?_
  iterate 2 refine gx ?_
  refine TL.gets (Wants.none rfl) rfl (Gets.isFalse (Gets.eql rfl rfl rfl) hco) ?_
  iterate 6 refine gx ?_
  refine TC.pr [0, 1, 2, 14] ?_
  refine TC.no rfl ?_
  refine gx ?_
  exact TE.end0 rfl (fun w hs => ⟨rfl, (hs.same hl rfl)⟩)

set_option maxRecDepth 100000 in
set_option maxHeartbeats 400000 in
theorem rfail_set (g : Nat) (A : Option Addr) (m c k : Nat) (po d n : Int) (hd : d ≠ 0) (w : World) (hl : Ent.lies ⟨g, 67, rdC A m c k 0 po, rdN⟩ w)  : Calls Try.prog 31 #[.pointer (some ⟨g, 0, none⟩), .int .i64 d, .int .i64 n] w fun e w' => e = .returned (.tuple #[]) ∧ St w [⟨g, 67, rdC A m c k d n, rdN⟩] w' := by
  refine calls_from (args := [.pointer (some ⟨g, 0, none⟩), .int .i64 d, .int .i64 n]) Try.func31 rfl Try.ntmps31 (by simp) ?_
  refine TC.pr [0, 1, 2] ?_
  refine TC.heap (H' := [⟨g, 67, [Value.slice A m c, Value.int .i64 (k : Int), Value.int .i64 0, Value.int .i64 po], 4⟩]) (fun w hs => hs.take hl ne_nil) ?_
  iterate 3 refine gx ?_
  refine TL.gets (Wants.none rfl) rfl (Gets.nilCheck rfl rfl) ?_
  iterate 2 refine gx ?_
  refine TL.gets (Wants.none rfl) rfl (Gets.isTrue (Gets.eql rfl rfl rfl) rfl) ?_
  iterate 2 refine gx ?_
  refine TL.gets (Wants.yes rfl rfl rfl) rfl (Gets.isTrue (Gets.neq rfl rfl rfl) hd) ?_
  iterate 3 refine gx ?_
  refine TC.pr [0, 1, 2, 14] ?_
  refine TC.yes rfl ?_
  iterate 4 refine gx ?_
  refine TL.gets (Wants.none rfl) rfl (Gets.nilCheck rfl rfl) ?_
  refine gx ?_
  refine TL.store1 (Wants.none rfl) rfl rfl size3 rfl rfl rfl (i := 0) rfl rfl (by simp [] <;> omega) (cs' := [Value.slice A m c, Value.int .i64 (k : Int), Value.int .i64 d, Value.int .i64 po]) (rfl) (H' := [⟨g, 67, [Value.slice A m c, Value.int .i64 (k : Int), Value.int .i64 d, Value.int .i64 po], 4⟩]) rfl ?_
  iterate 5 refine gx ?_
  refine TL.gets (Wants.none rfl) rfl (Gets.nilCheck rfl rfl) ?_
  refine gx ?_
  refine TL.store1 (Wants.none rfl) rfl rfl size3 rfl rfl rfl (i := 0) rfl rfl (by simp [] <;> omega) (cs' := [Value.slice A m c, Value.int .i64 (k : Int), Value.int .i64 d, Value.int .i64 n]) (rfl) (H' := [⟨g, 67, [Value.slice A m c, Value.int .i64 (k : Int), Value.int .i64 d, Value.int .i64 n], 4⟩]) rfl ?_
  refine gx ?_
  exact TE.end0 rfl (fun w hs => ⟨rfl, hs⟩)

theorem rfail_s (g : Nat) (A : Option Addr) (m c : Nat) (s : RS) (d n : Int) (hd : d ≠ 0) (w : World) (hl : Ent.lies ⟨g, 67, rdC A m c s.k s.co s.po, rdN⟩ w) : Calls Try.prog 31 #[.pointer (some ⟨g, 0, none⟩), .int .i64 d, .int .i64 n] w fun e w' => e = .returned (.tuple #[]) ∧ St w [⟨g, 67, rdC A m c (rFail s d n).k (rFail s d n).co (rFail s d n).po, rdN⟩] w' := by
  obtain ⟨k, co, po⟩ := s
  unfold rFail
  by_cases h : co = 0
  · subst h
    rw [if_pos ⟨rfl, hd⟩]
    exact rfail_set g A m c k po d n hd w hl
  · rw [if_neg (fun x => h x.1)]
    exact (rfail_dead g A m c k co po d n h w hl).mono fun e w' ⟨he, hw⟩ => ⟨he, hw.take hl ne_nil⟩

set_option maxRecDepth 100000 in
set_option maxHeartbeats 400000 in
theorem ruint_dead (g : Nat) (A : Option Addr) (m c k : Nat) (co po n : Int) (hco : co ≠ 0) (w : World) (hl : Ent.lies ⟨g, 67, rdC A m c k co po, rdN⟩ w)  : Calls Try.prog 30 #[.pointer (some ⟨g, 0, none⟩), .int .i64 n] w fun e w' => e = .returned (.int .u64 0) ∧ St w [] w' := by
  refine calls_from (args := [.pointer (some ⟨g, 0, none⟩), .int .i64 n]) Try.func30 rfl Try.ntmps30 (by simp) ?_
  refine TC.pr [0, 1] ?_
  refine TC.heap (H' := [⟨g, 67, [Value.slice A m c, Value.int .i64 (k : Int), Value.int .i64 co, Value.int .i64 po], 4⟩]) (fun w hs => hs.take hl ne_nil) ?_
  iterate 9 refine gx ?_
  refine TL.gets (Wants.none rfl) rfl (Gets.nilCheck rfl rfl) ?_
  iterate 2 refine gx ?_
  refine TL.gets (Wants.none rfl) rfl (Gets.isTrue (Gets.neq rfl rfl rfl) hco) ?_
  iterate 2 refine gx ?_
  refine TC.yes rfl ?_
  iterate 7 refine gx ?_
  exact TE.ret1 rfl rfl (fun w hs => ⟨rfl, (hs.same hl rfl)⟩)

set_option maxRecDepth 100000 in
set_option maxHeartbeats 400000 in
theorem ruint_short (g : Nat) (A : Option Addr) (m c k : Nat) (n : Nat) (po : Int) (hn : 1 ≤ n ∧ n ≤ 8) (hkn : m < k + n) (w : World) (hl : Ent.lies ⟨g, 67, rdC A m c k 0 po, rdN⟩ w) (hk : k ≤ m) (hmc : m ≤ c) (hcm : c ≤ 9223372036854775807)  : Calls Try.prog 30 #[.pointer (some ⟨g, 0, none⟩), .int .i64 (n : Int)] w fun e w' => e = .returned (.int .u64 0) ∧ St w [⟨g, 67, rdC A m c k 8 (m : Int), rdN⟩] w' := by
  refine calls_from (args := [.pointer (some ⟨g, 0, none⟩), .int .i64 (n : Int)]) Try.func30 rfl Try.ntmps30 (by simp) ?_
  refine TC.pr [0, 1] ?_
  refine TC.heap (H' := [⟨g, 67, [Value.slice A m c, Value.int .i64 (k : Int), Value.int .i64 0, Value.int .i64 po], 4⟩]) (fun w hs => hs.take hl ne_nil) ?_
  iterate 9 refine gx ?_
  refine TL.gets (Wants.none rfl) rfl (Gets.nilCheck rfl rfl) ?_
  iterate 2 refine gx ?_
  refine TL.gets (Wants.none rfl) rfl (Gets.isFalse (Gets.neq rfl rfl rfl) (fun h => h rfl)) ?_
  iterate 2 refine gx ?_
  refine TC.no rfl ?_
  iterate 6 refine gx ?_
  refine TL.gets (Wants.none rfl) rfl (Gets.isFalse (Gets.lss rfl rfl rfl) (by omega)) ?_
  iterate 2 refine gx ?_
  refine TL.gets (Wants.yes rfl rfl rfl) rfl (Gets.isFalse (Gets.gtr rfl rfl rfl) (by omega)) ?_
  iterate 3 refine gx ?_
  refine TC.pr [0, 1, 4, 17] ?_
  refine TC.no rfl ?_
  iterate 4 refine gx ?_
  refine TC.mix (by kernel_rfl) [0, 0, 0, 1, 0, 0, 0, 0, 1, 0, 0, 0] rfl (by kernel_rfl) ?_
  refine gx ?_
  refine TM.free (Wants.none rfl) rfl (fun _ => Gets.nilCheck rfl rfl) ?_
  iterate 4 refine gx ?_
  refine TM.free (Wants.none rfl) rfl (fun _ => Gets.nilCheck rfl rfl) ?_
  iterate 2 refine gx ?_
  refine TM.free (Wants.none rfl) rfl (fun _ => Gets.sub rfl rfl rfl (r := ((m : Int) - (k : Int))) (w64 (by omega) (by omega))) ?_
  refine gx ?_
  refine TM.free (Wants.none rfl) rfl (fun _ => Gets.isTrue (Gets.lss rfl rfl rfl) (by omega)) ?_
  iterate 2 refine gx ?_
  refine TC.pr [0, 1, 4, 35] ?_
  refine TC.yes rfl ?_
  iterate 4 refine gx ?_
  refine TL.gets (Wants.none rfl) rfl (Gets.nilCheck rfl rfl) ?_
  iterate 3 refine gx ?_
  refine TL.call (ι := Unit) (V := fun _ => .tuple #[]) (R := fun _ => True) (H' := fun _ => [⟨g, 67, [Value.slice A m c, Value.int .i64 (k : Int), Value.int .i64 8, Value.int .i64 (m : Int)], 4⟩]) (Wants.none rfl) rfl enters31 rfl rfl (fun w hs => (rfail_set g A m c k po 8 (m : Int) (by decide) w (hs.has (⟨g, 67, [Value.slice A m c, Value.int .i64 (k : Int), Value.int .i64 0, Value.int .i64 po], 4⟩) (by simp))).mono fun e w' ⟨he, hw⟩ => ⟨(), he, trivial, St.turn (i := 0) (e := ⟨g, 67, [Value.slice A m c, Value.int .i64 (k : Int), Value.int .i64 8, Value.int .i64 (m : Int)], 4⟩) hs rfl rfl hw⟩) (fun _ _ => ?_)
  iterate 2 refine gx ?_
  refine TC.pr [0, 1, 4] ?_
  iterate 7 refine gx ?_
  exact TE.ret1 rfl rfl (fun w hs => ⟨rfl, hs⟩)

theorem valB_lt {B : List Int} {i : Nat} (hB : Bytes B) (hi : i ≤ 7) : 0 ≤ valB (B.take i) ∧ valB (B.take i) ≤ 72057594037927935 := by
  obtain ⟨v, h1, h2⟩ := valB_nat (hB.take i)
  have h3 : (B.take i).length ≤ 7 := by rw [List.length_take]; omega
  have h4 : (256 : Nat) ^ (B.take i).length ≤ 256 ^ 7 := Nat.pow_le_pow_right (by decide) h3
  have h5 : (256 : Nat) ^ 7 = 72057594037927936 := by decide
  omega
theorem valB_next {B : List Int} {k i : Nat} (h : k + i < B.length) : 256 * valB ((B.drop k).take i) + B.getD (k + i) 0 = valB ((B.drop k).take (i + 1)) := by
  have h1 : i < (B.drop k).length := by rw [List.length_drop]; omega
  have h2 : (B.drop k).getD i 0 = B.getD (k + i) 0 := by simp [List.getD_eq_getElem?_getD]
  rw [take_snoc h1, valB_snoc, h2]

set_option maxRecDepth 100000 in
set_option maxHeartbeats 1000000 in
theorem ruint_okS (g : Nat) (b off : Nat) (m c k : Nat) (n : Nat) (po : Int) (hn : 1 ≤ n ∧ n ≤ 8) (hkn : k + n ≤ m) (B : List Int) (hBB : Bytes B) (hBm : B.length = m) (w : World) (hb : b < w.heap.size) (hbg : b ≠ g) (hr : RowI w b off m .u8 B) (hl : Ent.lies ⟨g, 67, rdC (some ⟨b, off, none⟩) m c k 0 po, rdN⟩ w) (hk : k ≤ m) (hmc : m ≤ c) (hcm : c ≤ 9223372036854775807)  : Calls Try.prog 30 #[.pointer (some ⟨g, 0, none⟩), .int .i64 (n : Int)] w fun e w' => e = .returned (.int .u64 (valB ((B.drop k).take (n)))) ∧ St w [⟨g, 67, rdC (some ⟨b, off, none⟩) m c (k + n) 0 po, rdN⟩] w' := by
  refine calls_from (args := [.pointer (some ⟨g, 0, none⟩), .int .i64 (n : Int)]) Try.func30 rfl Try.ntmps30 (by simp) ?_
  refine TC.pr [0, 1] ?_
  refine TC.heap (H' := [⟨g, 67, [Value.slice (some ⟨b, off, none⟩) m c, Value.int .i64 (k : Int), Value.int .i64 0, Value.int .i64 po], 4⟩]) (fun w hs => hs.take hl ne_nil) ?_
  iterate 9 refine gx ?_
  refine TL.gets (Wants.none rfl) rfl (Gets.nilCheck rfl rfl) ?_
  iterate 2 refine gx ?_
  refine TL.gets (Wants.none rfl) rfl (Gets.isFalse (Gets.neq rfl rfl rfl) (fun h => h rfl)) ?_
  iterate 2 refine gx ?_
  refine TC.no rfl ?_
  iterate 6 refine gx ?_
  refine TL.gets (Wants.none rfl) rfl (Gets.isFalse (Gets.lss rfl rfl rfl) (by omega)) ?_
  iterate 2 refine gx ?_
  refine TL.gets (Wants.yes rfl rfl rfl) rfl (Gets.isFalse (Gets.gtr rfl rfl rfl) (by omega)) ?_
  iterate 3 refine gx ?_
  refine TC.pr [0, 1, 4, 17] ?_
  refine TC.no rfl ?_
  iterate 4 refine gx ?_
  refine TC.mix (by kernel_rfl) [0, 0, 0, 1, 0, 0, 0, 0, 1, 0, 0, 0] rfl (by kernel_rfl) ?_
  refine gx ?_
  refine TM.free (Wants.none rfl) rfl (fun _ => Gets.nilCheck rfl rfl) ?_
  iterate 4 refine gx ?_
  refine TM.free (Wants.none rfl) rfl (fun _ => Gets.nilCheck rfl rfl) ?_
  iterate 2 refine gx ?_
  refine TM.free (Wants.none rfl) rfl (fun _ => Gets.sub rfl rfl rfl (r := ((m : Int) - (k : Int))) (w64 (by omega) (by omega))) ?_
  refine gx ?_
  refine TM.free (Wants.none rfl) rfl (fun _ => Gets.isFalse (Gets.lss rfl rfl rfl) (by omega)) ?_
  iterate 2 refine gx ?_
  refine TC.pr [0, 1, 4, 35] ?_
  refine TC.no rfl ?_
  iterate 14 refine gx ?_
  refine TC.loop (ι := Nat) (fun i => [(0, .pointer (some ⟨g, 0, none⟩)), (1, .int .i64 (n : Int)), (5, .int .u64 (valB ((B.drop k).take (i)))), (6, .int .i64 (i : Int))]) (fun i => [⟨g, 67, [Value.slice (some ⟨b, off, none⟩) m c, Value.int .i64 (((k + i) : Nat) : Int), Value.int .i64 0, Value.int .i64 po], 4⟩]) (fun i => n - i) (fun i => i ≤ n) 0 (Nat.zero_le _) (Sub.cons (i := 0) rfl (Sub.int (i := 1) rfl (by first | omega | rfl) (Sub.int (i := 5) rfl (by rw [List.take_zero]; rfl) (Sub.int (i := 6) rfl (by first | omega | rfl) (Sub.nil))))) (fun w h => h) (fun i hC0 => ?_)
  iterate 8 refine gx ?_
  refine TC.split rfl (fun hq3 => ?_) (fun hq3 => ?_)
  · have hvb : 0 ≤ (valB ((B.drop k).take (i))) ∧ (valB ((B.drop k).take (i))) ≤ 72057594037927935 := valB_lt (hBB.drop k) (by omega)
    have hbd := hBB.get (k + i)
    have hst := valB_next (B := B) (k := k) (i := i) (by omega)
    iterate 5 refine gx ?_
    refine TC.mix (by kernel_rfl) [0, 0, 0, 0, 0, 1, 0, 0, 0, 1, 0, 1, 1, 0, 0] rfl (by kernel_rfl) ?_
    refine gx ?_
    refine TM.free (Wants.none rfl) rfl (fun _ => Gets.mul rfl rfl rfl (r := (256 * (valB ((B.drop k).take (i))))) (wu64 (by omega) (by omega))) ?_
    refine gx ?_
    refine TM.free (Wants.none rfl) rfl (fun _ => Gets.nilCheck rfl rfl) ?_
    iterate 3 refine gx ?_
    refine TM.free (Wants.none rfl) rfl (fun _ => Gets.nilCheck rfl rfl) ?_
    iterate 2 refine gx ?_
    refine TM.free (Wants.none rfl) rfl (fun _ => Gets.idxSlice rfl Try.underlying28 size5 rfl rfl (i := (k + i)) (by omega) (by omega) (off' := (off + k + i)) (by omega)) ?_
    refine TM.gets (Wants.none rfl) rfl (Gets.load1 rfl agg5 rfl (At.rowI hr (i := (k + i)) (by omega) (by omega) hb (ne_cons (by show g ≠ b; omega) ne_nil))) ?_
    refine TM.gets (Wants.none rfl) rfl (Gets.conv rfl Try.underlying5 Try.underlying51 rfl (r := (B.getD (k + i) 0)) (wu64 rfl (by omega))) ?_
    refine TM.free (Wants.none rfl) rfl (fun _ => Gets.add rfl rfl rfl (r := (256 * (valB ((B.drop k).take (i))) + (B.getD (k + i) 0))) (wu64 (by omega) (by omega))) ?_
    iterate 3 refine gx ?_
    refine TC.pr [0, 1, 5, 6] ?_
    iterate 2 refine gx ?_
    refine TL.gets (Wants.none rfl) rfl (Gets.nilCheck rfl rfl) ?_
    iterate 2 refine gx ?_
    refine TL.gets (Wants.none rfl) rfl (Gets.add rfl rfl rfl (r := ((k : Int) + (i : Int) + 1)) (w64 (by omega) (by omega))) ?_
    refine TL.gets (Wants.none rfl) rfl (Gets.nilCheck rfl rfl) ?_
    refine gx ?_
    refine TL.store1 (Wants.none rfl) rfl rfl size3 rfl rfl rfl (i := 0) rfl rfl (by simp [] <;> omega) (cs' := [Value.slice (some ⟨b, off, none⟩) m c, Value.int .i64 ((k : Int) + (i : Int) + 1), Value.int .i64 0, Value.int .i64 po]) (rfl) (H' := [⟨g, 67, [Value.slice (some ⟨b, off, none⟩) m c, Value.int .i64 ((k : Int) + (i : Int) + 1), Value.int .i64 0, Value.int .i64 po], 4⟩]) rfl ?_
    iterate 3 refine gx ?_
    refine TC.pr [0, 1, 5, 6] ?_
    iterate 2 refine gx ?_
    refine TL.gets (Wants.none rfl) rfl (Gets.add rfl rfl rfl (r := ((i : Int) + 1)) (w64 (by omega) (by omega))) ?_
    iterate 2 refine gx ?_
    exact TE.back (i + 1) (by omega) (by omega) (Sub.cons (i := 0) rfl (Sub.int (i := 1) rfl (by first | omega | rfl) (Sub.int (i := 5) rfl hst (Sub.int (i := 6) rfl (by first | omega | rfl) (Sub.nil))))) (fun w h => h)
  · obtain rfl : n = i := by omega
    iterate 12 refine gx ?_
    exact TE.ret1 rfl rfl (fun w hs => ⟨rfl, hs⟩)

theorem ruint_s (g : Nat) (A : Option Addr) (m c : Nat) (s : RS) (n : Nat) (hn : 1 ≤ n ∧ n ≤ 8) (w : World) (hl : Ent.lies ⟨g, 67, rdC A m c s.k s.co s.po, rdN⟩ w) (hk : s.k ≤ m) (hmc : m ≤ c) (hcm : c ≤ 9223372036854775807) (B : List Int) (hX : SrcX w [g] A m .u8 B) (hBB : Bytes B) : Calls Try.prog 30 #[.pointer (some ⟨g, 0, none⟩), .int .i64 (n : Int)] w fun e w' => e = .returned (.int .u64 (rUint B s n).1) ∧ St w [⟨g, 67, rdC A m c (rUint B s n).2.k (rUint B s n).2.co (rUint B s n).2.po, rdN⟩] w' := by
  have hBm := hX.1
  obtain ⟨k, co, po⟩ := s
  unfold rUint
  by_cases h : co = 0
  · subst h
    rw [if_pos rfl]
    by_cases h2 : B.length < k + n
    · rw [if_pos h2]
      have := ruint_short g A m c k n po hn (by omega) w hl hk hmc hcm
      rw [← hBm] at this ⊢
      exact this
    · rw [if_neg h2]
      obtain ⟨b, off, rfl, hb, hbX, hr⟩ := hX.2.resolve_left (by omega)
      exact ruint_okS g b off m c k n po hn (by omega) B hBB hBm w hb (hbX g (by simp)) hr hl hk hmc hcm
  · rw [if_neg h]
    exact (ruint_dead g A m c k co po n h w hl).mono fun e w' ⟨he, hw⟩ => ⟨he, hw.take hl ne_nil⟩
theorem rUint_val {B : List Int} (hB : Bytes B) (s : RS) {n : Nat} (hn : n ≤ 8) : 0 ≤ (rUint B s n).1 ∧ (rUint B s n).1 ≤ 18446744073709551615 := by
  unfold rUint
  split
  · split
    · exact ⟨Int.le_refl _, show (0 : Int) ≤ 18446744073709551615 by decide⟩
    · exact valB_bd ((hB.drop _).take _) (by rw [List.length_take]; omega)
  · exact ⟨Int.le_refl _, show (0 : Int) ≤ 18446744073709551615 by decide⟩
theorem rLen_val {B : List Int} (hB : Bytes B) (s : RS) : 0 ≤ (rLen B s).1 ∧ (rLen B s).1 ≤ 4611686018427387903 := by
  have h := rUint_val hB s (n := 8) (Nat.le_refl _)
  unfold rLen
  split
  · exact ⟨Int.le_refl _, show (0 : Int) ≤ 4611686018427387903 by decide⟩
  · exact ⟨h.1, by omega⟩
end Go.Proofs.Ytclmgfcdnokaiaa
namespace Go.Proofs.Ytclmgfcdnokaiaa
set_option linter.unusedVariables false
set_option linter.unusedSimpArgs false
open Go Go.RowKit
theorem enters30 : Enters Try.prog 30 := ⟨_, Try.func30, by kernel_rfl, by kernel_rfl⟩
theorem rLen_big {B : List Int} {s : RS} {x : Int × RS} (h : rUint B s 8 = x) (h1 : 4611686018427387903 < x.1) : rLen B s = (0, rFail x.2 2 s.k) := by
  unfold rLen; rw [h, if_pos h1]
theorem rLen_is {B : List Int} {s : RS} {x : Int × RS} (h : rUint B s 8 = x) (h1 : ¬ 4611686018427387903 < x.1) : rLen B s = x := by
  unfold rLen; rw [h, if_neg h1]

set_option maxRecDepth 100000 in
set_option maxHeartbeats 400000 in
theorem rlen_s (g : Nat) (A : Option Addr) (m c : Nat) (s : RS) (w : World) (hl : Ent.lies ⟨g, 67, rdC A m c s.k s.co s.po, rdN⟩ w) (hk : s.k ≤ m) (hmc : m ≤ c) (hcm : c ≤ 9223372036854775807) (B : List Int) (hX : SrcX w [g] A m .u8 B) (hBB : Bytes B) (hri : RI B s)  : Calls Try.prog 32 #[.pointer (some ⟨g, 0, none⟩)] w fun e w' => e = .returned (.int .i64 (rLen B s).1) ∧ St w [⟨g, 67, rdC A m c (rLen B s).2.k (rLen B s).2.co (rLen B s).2.po, rdN⟩] w' := by
  have hBm := hX.1
  refine calls_from (args := [.pointer (some ⟨g, 0, none⟩)]) Try.func32 rfl Try.ntmps32 (by simp) ?_
  refine TC.pr [0] ?_
  refine TC.heap (H' := [⟨g, 67, [Value.slice A m c, Value.int .i64 (s.k : Int), Value.int .i64 s.co, Value.int .i64 s.po], 4⟩]) (fun w hs => hs.take hl ne_nil) ?_
  iterate 8 refine gx ?_
  refine TL.gets (Wants.none rfl) rfl (Gets.nilCheck rfl rfl) ?_
  iterate 8 refine gx ?_
  refine TL.call (ι := Unit) (V := fun _ => .int .u64 ((rUint B s 8).1)) (R := fun _ => True) (H' := fun _ => [⟨g, 67, [Value.slice A m c, Value.int .i64 ((rUint B s 8).2.k : Int), Value.int .i64 ((rUint B s 8).2.co), Value.int .i64 ((rUint B s 8).2.po)], 4⟩]) (Wants.none rfl) rfl enters30 rfl rfl (fun w hs => (ruint_s g A m c s 8 (by omega) w (hs.has (⟨g, 67, [Value.slice A m c, Value.int .i64 (s.k : Int), Value.int .i64 s.co, Value.int .i64 s.po], 4⟩) (by simp)) (by omega) (by omega) (by omega) B (hX.at_ hs (fun b hb hbX => (ne_cons (fun h => hbX g (by simp) h.symm) ne_nil))) hBB).mono fun e w' ⟨he, hw⟩ => ⟨(), he, trivial, St.turn (i := 0) (e := ⟨g, 67, [Value.slice A m c, Value.int .i64 ((rUint B s 8).2.k : Int), Value.int .i64 ((rUint B s 8).2.co), Value.int .i64 ((rUint B s 8).2.po)], 4⟩) hs rfl rfl hw⟩) (fun _ _ => ?_)
  have hvx := rUint_val hBB s (n := 8) (by omega)
  have hrix := rUint_ri (n := 8) hri
  generalize hx : rUint B s 8 = x at hvx hrix  ⊢
  have hkx : x.2.k ≤ m := by have := hrix.1; omega
  skip
  iterate 3 refine gx ?_
  refine TC.pr [0, 2, 3, 4] ?_
  iterate 4 refine gx ?_
  by_cases c1 : 4611686018427387903 < x.1
  · refine TL.gets (Wants.none rfl) rfl (Gets.isTrue (Gets.gtr rfl rfl rfl) c1) ?_
    iterate 2 refine gx ?_
    refine TC.yes rfl ?_
    iterate 4 refine gx ?_
    refine TL.call (ι := Unit) (V := fun _ => .tuple #[]) (R := fun _ => True) (H' := fun _ => [⟨g, 67, [Value.slice A m c, Value.int .i64 ((rFail x.2 2 (s.k : Int)).k : Int), Value.int .i64 ((rFail x.2 2 (s.k : Int)).co), Value.int .i64 ((rFail x.2 2 (s.k : Int)).po)], 4⟩]) (Wants.none rfl) rfl enters31 rfl rfl (fun w hs => (rfail_s g A m c x.2 2 (s.k : Int) (by decide) w (hs.has (⟨g, 67, [Value.slice A m c, Value.int .i64 (x.2.k : Int), Value.int .i64 x.2.co, Value.int .i64 x.2.po], 4⟩) (by simp))).mono fun e w' ⟨he, hw⟩ => ⟨(), he, trivial, St.turn (i := 0) (e := ⟨g, 67, [Value.slice A m c, Value.int .i64 ((rFail x.2 2 (s.k : Int)).k : Int), Value.int .i64 ((rFail x.2 2 (s.k : Int)).co), Value.int .i64 ((rFail x.2 2 (s.k : Int)).po)], 4⟩) hs rfl rfl hw⟩) (fun _ _ => ?_)
    iterate 2 refine gx ?_
    refine TC.pr [2, 4] ?_
    iterate 7 refine gx ?_
    have e := rLen_big hx c1
    rw [e]
    exact TE.ret1 rfl rfl (fun w hs => ⟨rfl, hs⟩)
  · refine TL.gets (Wants.none rfl) rfl (Gets.isFalse (Gets.gtr rfl rfl rfl) c1) ?_
    iterate 2 refine gx ?_
    refine TC.no rfl ?_
    iterate 5 refine gx ?_
    refine TL.gets (Wants.none rfl) rfl (Gets.conv rfl Try.underlying51 Try.underlying3 rfl (r := x.1) (w64 rfl (by omega))) ?_
    iterate 4 refine gx ?_
    have e := rLen_is hx c1
    rw [e]
    exact TE.ret1 rfl rfl (fun w hs => ⟨rfl, hs⟩)

set_option maxRecDepth 100000 in
set_option maxHeartbeats 400000 in
theorem rbytes_dead (g : Nat) (A : Option Addr) (m c k : Nat) (co po n : Int) (hco : co ≠ 0) (w : World) (hl : Ent.lies ⟨g, 67, rdC A m c k co po, rdN⟩ w)  : Calls Try.prog 33 #[.pointer (some ⟨g, 0, none⟩), .int .i64 n] w fun e w' => e = .returned (.slice none 0 0) ∧ St w [] w' := by
  refine calls_from (args := [.pointer (some ⟨g, 0, none⟩), .int .i64 n]) Try.func33 rfl Try.ntmps33 (by simp) ?_
  refine TC.pr [0, 1] ?_
  refine TC.heap (H' := [⟨g, 67, [Value.slice A m c, Value.int .i64 (k : Int), Value.int .i64 co, Value.int .i64 po], 4⟩]) (fun w hs => hs.take hl ne_nil) ?_
  iterate 9 refine gx ?_
  refine TL.gets (Wants.none rfl) rfl (Gets.nilCheck rfl rfl) ?_
  iterate 2 refine gx ?_
  refine TL.gets (Wants.none rfl) rfl (Gets.isTrue (Gets.neq rfl rfl rfl) hco) ?_
  iterate 2 refine gx ?_
  refine TC.yes rfl ?_
  iterate 7 refine gx ?_
  exact TE.ret1 rfl rfl (fun w hs => ⟨rfl, (hs.same hl rfl)⟩)

set_option maxRecDepth 100000 in
set_option maxHeartbeats 400000 in
theorem rbytes_short (g : Nat) (A : Option Addr) (m c k : Nat) (n : Nat) (po : Int) (hkn : m < k + n) (w : World) (hl : Ent.lies ⟨g, 67, rdC A m c k 0 po, rdN⟩ w) (hk : k ≤ m) (hmc : m ≤ c) (hcm : c ≤ 9223372036854775807)  : Calls Try.prog 33 #[.pointer (some ⟨g, 0, none⟩), .int .i64 (n : Int)] w fun e w' => e = .returned (.slice none 0 0) ∧ St w [⟨g, 67, rdC A m c k 8 (m : Int), rdN⟩] w' := by
  refine calls_from (args := [.pointer (some ⟨g, 0, none⟩), .int .i64 (n : Int)]) Try.func33 rfl Try.ntmps33 (by simp) ?_
  refine TC.pr [0, 1] ?_
  refine TC.heap (H' := [⟨g, 67, [Value.slice A m c, Value.int .i64 (k : Int), Value.int .i64 0, Value.int .i64 po], 4⟩]) (fun w hs => hs.take hl ne_nil) ?_
  iterate 9 refine gx ?_
  refine TL.gets (Wants.none rfl) rfl (Gets.nilCheck rfl rfl) ?_
  iterate 2 refine gx ?_
  refine TL.gets (Wants.none rfl) rfl (Gets.isFalse (Gets.neq rfl rfl rfl) (fun h => h rfl)) ?_
  iterate 2 refine gx ?_
  refine TC.no rfl ?_
  iterate 6 refine gx ?_
  refine TL.gets (Wants.none rfl) rfl (Gets.isFalse (Gets.lss rfl rfl rfl) (by omega)) ?_
  iterate 2 refine gx ?_
  refine TC.pr [0, 1, 4, 12] ?_
  refine TC.no rfl ?_
  iterate 4 refine gx ?_
  refine TC.mix (by kernel_rfl) [0, 0, 0, 1, 0, 0, 0, 0, 1, 0, 0, 0] rfl (by kernel_rfl) ?_
  refine gx ?_
  refine TM.free (Wants.none rfl) rfl (fun _ => Gets.nilCheck rfl rfl) ?_
  iterate 4 refine gx ?_
  refine TM.free (Wants.none rfl) rfl (fun _ => Gets.nilCheck rfl rfl) ?_
  iterate 2 refine gx ?_
  refine TM.free (Wants.none rfl) rfl (fun _ => Gets.sub rfl rfl rfl (r := ((m : Int) - (k : Int))) (w64 (by omega) (by omega))) ?_
  refine gx ?_
  refine TM.free (Wants.none rfl) rfl (fun _ => Gets.isTrue (Gets.lss rfl rfl rfl) (by omega)) ?_
  iterate 2 refine gx ?_
  refine TC.pr [0, 1, 4, 30] ?_
  refine TC.yes rfl ?_
  iterate 4 refine gx ?_
  refine TL.gets (Wants.none rfl) rfl (Gets.nilCheck rfl rfl) ?_
  iterate 3 refine gx ?_
  refine TL.call (ι := Unit) (V := fun _ => .tuple #[]) (R := fun _ => True) (H' := fun _ => [⟨g, 67, [Value.slice A m c, Value.int .i64 (k : Int), Value.int .i64 8, Value.int .i64 (m : Int)], 4⟩]) (Wants.none rfl) rfl enters31 rfl rfl (fun w hs => (rfail_set g A m c k po 8 (m : Int) (by decide) w (hs.has (⟨g, 67, [Value.slice A m c, Value.int .i64 (k : Int), Value.int .i64 0, Value.int .i64 po], 4⟩) (by simp))).mono fun e w' ⟨he, hw⟩ => ⟨(), he, trivial, St.turn (i := 0) (e := ⟨g, 67, [Value.slice A m c, Value.int .i64 (k : Int), Value.int .i64 8, Value.int .i64 (m : Int)], 4⟩) hs rfl rfl hw⟩) (fun _ _ => ?_)
  iterate 2 refine gx ?_
  refine TC.pr [0, 1, 4] ?_
  iterate 7 refine gx ?_
  exact TE.ret1 rfl rfl (fun w hs => ⟨rfl, hs⟩)

set_option maxRecDepth 100000 in
set_option maxHeartbeats 400000 in
theorem rbytes_ok (g : Nat) (A : Option Addr) (m c k : Nat) (n : Nat) (po : Int) (hkn : k + n ≤ m) (w : World) (hl : Ent.lies ⟨g, 67, rdC A m c k 0 po, rdN⟩ w) (hk : k ≤ m) (hmc : m ≤ c) (hcm : c ≤ 9223372036854775807)  : Calls Try.prog 33 #[.pointer (some ⟨g, 0, none⟩), .int .i64 (n : Int)] w fun e w' => e = .returned (.slice (cutA A c k 1) n (c - k)) ∧ St w [⟨g, 67, rdC A m c (k + n) 0 po, rdN⟩] w' := by
  refine calls_from (args := [.pointer (some ⟨g, 0, none⟩), .int .i64 (n : Int)]) Try.func33 rfl Try.ntmps33 (by simp) ?_
  refine TC.pr [0, 1] ?_
  refine TC.heap (H' := [⟨g, 67, [Value.slice A m c, Value.int .i64 (k : Int), Value.int .i64 0, Value.int .i64 po], 4⟩]) (fun w hs => hs.take hl ne_nil) ?_
  iterate 9 refine gx ?_
  refine TL.gets (Wants.none rfl) rfl (Gets.nilCheck rfl rfl) ?_
  iterate 2 refine gx ?_
  refine TL.gets (Wants.none rfl) rfl (Gets.isFalse (Gets.neq rfl rfl rfl) (fun h => h rfl)) ?_
  iterate 2 refine gx ?_
  refine TC.no rfl ?_
  iterate 6 refine gx ?_
  refine TL.gets (Wants.none rfl) rfl (Gets.isFalse (Gets.lss rfl rfl rfl) (by omega)) ?_
  iterate 2 refine gx ?_
  refine TC.pr [0, 1, 4, 12] ?_
  refine TC.no rfl ?_
  iterate 4 refine gx ?_
  refine TC.mix (by kernel_rfl) [0, 0, 0, 1, 0, 0, 0, 0, 1, 0, 0, 0] rfl (by kernel_rfl) ?_
  refine gx ?_
  refine TM.free (Wants.none rfl) rfl (fun _ => Gets.nilCheck rfl rfl) ?_
  iterate 4 refine gx ?_
  refine TM.free (Wants.none rfl) rfl (fun _ => Gets.nilCheck rfl rfl) ?_
  iterate 2 refine gx ?_
  refine TM.free (Wants.none rfl) rfl (fun _ => Gets.sub rfl rfl rfl (r := ((m : Int) - (k : Int))) (w64 (by omega) (by omega))) ?_
  refine gx ?_
  refine TM.free (Wants.none rfl) rfl (fun _ => Gets.isFalse (Gets.lss rfl rfl rfl) (by omega)) ?_
  iterate 2 refine gx ?_
  refine TC.pr [0, 1, 4, 30] ?_
  refine TC.no rfl ?_
  iterate 3 refine gx ?_
  refine TC.mix (by kernel_rfl) [0, 0, 0, 1, 0, 0, 0, 1, 0, 0, 0, 1, 0, 0, 0, 0] rfl (by kernel_rfl) ?_
  refine gx ?_
  refine TM.free (Wants.none rfl) rfl (fun _ => Gets.nilCheck rfl rfl) ?_
  iterate 3 refine gx ?_
  refine TM.free (Wants.none rfl) rfl (fun _ => Gets.nilCheck rfl rfl) ?_
  iterate 3 refine gx ?_
  refine TM.free (Wants.none rfl) rfl (fun _ => Gets.nilCheck rfl rfl) ?_
  iterate 3 refine gx ?_
  refine TM.free (Wants.none rfl) rfl (fun _ => Gets.add rfl rfl rfl (r := ((k : Int) + (n : Int))) (w64 (by omega) (by omega))) ?_
  refine TM.free (Wants.none rfl) rfl (fun _ => Gets.sliceS rfl Try.underlying28 size5 rfl (bnd.at_ (l := k) rfl (by omega)) (bnd.at_ (l := (k + n)) rfl (by omega)) (by omega) (by omega) rfl (ln := n) (cp := (c - k)) (by omega) (by omega)) ?_
  iterate 3 refine gx ?_
  refine TC.pr [0, 1, 4, 5] ?_
  iterate 4 refine gx ?_
  refine TL.gets (Wants.none rfl) rfl (Gets.nilCheck rfl rfl) ?_
  iterate 3 refine gx ?_
  refine TL.gets (Wants.none rfl) rfl (Gets.add rfl rfl rfl (r := ((k : Int) + (n : Int))) (w64 (by omega) (by omega))) ?_
  refine TL.gets (Wants.none rfl) rfl (Gets.nilCheck rfl rfl) ?_
  refine gx ?_
  refine TL.store1 (Wants.none rfl) rfl rfl size3 rfl rfl rfl (i := 0) rfl rfl (by simp [] <;> omega) (cs' := [Value.slice A m c, Value.int .i64 ((k : Int) + (n : Int)), Value.int .i64 0, Value.int .i64 po]) (rfl) (H' := [⟨g, 67, [Value.slice A m c, Value.int .i64 ((k : Int) + (n : Int)), Value.int .i64 0, Value.int .i64 po], 4⟩]) rfl ?_
  iterate 2 refine gx ?_
  refine TC.pr [4, 5] ?_
  iterate 7 refine gx ?_
  exact TE.ret1 rfl rfl (fun w hs => ⟨rfl, hs⟩)

/-- A part of the bytes, or nothing. -/
def Seg (A : Option Addr) (m c : Nat) (B : List Int) (A' : Option Addr) (c' : Nat) (D : List Int) : Prop := (A' = none ∧ c' = 0 ∧ D = []) ∨ ∃ k, k + D.length ≤ m ∧ A' = cutA A c k 1 ∧ c' = c - k ∧ D = (B.drop k).take D.length
theorem Seg.src {A A' : Option Addr} {m c c' : Nat} {B D : List Int} {w : World} {X : List Nat} (h : Seg A m c B A' c' D) (hX : SrcX w X A m .u8 B) (hmc : m ≤ c) : SrcX w X A' D.length .u8 D := by
  rcases h with ⟨rfl, rfl, rfl⟩ | ⟨k, h1, rfl, rfl, h2⟩
  · exact ⟨rfl, .inl rfl⟩
  · have := (hX.drop (l := k) (by omega) hmc).head (n := D.length) (by omega)
    rw [← h2] at this; exact this
theorem Seg.cap {A A' : Option Addr} {m c c' : Nat} {B D : List Int} (h : Seg A m c B A' c' D) (hmc : m ≤ c) : D.length ≤ c' ∧ c' ≤ c ∧ D.length ≤ m := by
  rcases h with ⟨rfl, rfl, rfl⟩ | ⟨k, h1, rfl, rfl, h2⟩
  · exact ⟨Nat.le_refl _, Nat.zero_le _, Nat.zero_le _⟩
  · omega
theorem rbytes_s (g : Nat) (A : Option Addr) (m c : Nat) (s : RS) (n : Int) (hn : 0 ≤ n) (w : World) (hl : Ent.lies ⟨g, 67, rdC A m c s.k s.co s.po, rdN⟩ w) (hk : s.k ≤ m) (hmc : m ≤ c) (hcm : c ≤ 9223372036854775807) (B : List Int) (hBm : B.length = m) : Calls Try.prog 33 #[.pointer (some ⟨g, 0, none⟩), .int .i64 n] w fun e w' => ∃ (A' : Option Addr) (c' : Nat), e = .returned (.slice A' (rBytes B s n.toNat).1.length c') ∧ Seg A m c B A' c' (rBytes B s n.toNat).1 ∧ St w [⟨g, 67, rdC A m c (rBytes B s n.toNat).2.k (rBytes B s n.toNat).2.co (rBytes B s n.toNat).2.po, rdN⟩] w' := by
  obtain ⟨q, rfl⟩ := Int.eq_ofNat_of_zero_le hn
  rw [Int.toNat_natCast]
  obtain ⟨k, co, po⟩ := s
  dsimp only at hk hl
  unfold rBytes
  by_cases h : co = 0
  · subst h
    rw [if_pos rfl]
    by_cases h2 : B.length < k + q
    · rw [if_pos h2]
      refine (rbytes_short g A m c k q po (by omega) w hl hk hmc hcm).mono fun e w' ⟨he, hw⟩ => ⟨none, 0, he, .inl ⟨rfl, rfl, rfl⟩, ?_⟩
      rw [← hBm] at hw ⊢; exact hw
    · rw [if_neg h2]
      have hln : ((B.drop k).take q).length = q := by rw [List.length_take, List.length_drop]; omega
      dsimp only
      rw [hln]
      refine (rbytes_ok g A m c k q po (by omega) w hl hk hmc hcm).mono fun e w' ⟨he, hw⟩ => ⟨(cutA A c k 1), c - k, he, .inr ⟨k, by omega, rfl, rfl, by rw [hln]⟩, hw⟩
  · rw [if_neg h]
    exact (rbytes_dead g A m c k co po q h w hl).mono fun e w' ⟨he, hw⟩ => ⟨none, 0, he, .inl ⟨rfl, rfl, rfl⟩, hw.take hl ne_nil⟩
theorem rUint_val1 {B : List Int} (hB : Bytes B) (s : RS) : 0 ≤ (rUint B s 1).1 ∧ (rUint B s 1).1 ≤ 255 := by
  unfold rUint
  split
  · split
    · exact ⟨Int.le_refl _, show (0 : Int) ≤ 255 by decide⟩
    · obtain ⟨v, h1, h2⟩ := valB_nat ((hB.drop s.k).take 1)
      have h3 : ((B.drop s.k).take 1).length ≤ 1 := by rw [List.length_take]; omega
      have h4 : (256 : Nat) ^ ((B.drop s.k).take 1).length ≤ 256 ^ 1 := Nat.pow_le_pow_right (by decide) h3
      dsimp only
      omega
  · exact ⟨Int.le_refl _, show (0 : Int) ≤ 255 by decide⟩
theorem rUint_val4 {B : List Int} (hB : Bytes B) (s : RS) : 0 ≤ (rUint B s 4).1 ∧ (rUint B s 4).1 ≤ 4294967295 := by
  unfold rUint
  split
  · split
    · exact ⟨Int.le_refl _, show (0 : Int) ≤ 4294967295 by decide⟩
    · obtain ⟨v, h1, h2⟩ := valB_nat ((hB.drop s.k).take 4)
      have h3 : ((B.drop s.k).take 4).length ≤ 4 := by rw [List.length_take]; omega
      have h4 : (256 : Nat) ^ ((B.drop s.k).take 4).length ≤ 256 ^ 4 := Nat.pow_le_pow_right (by decide) h3
      have h5 : (256 : Nat) ^ 4 = 4294967296 := by decide
      dsimp only
      omega
  · exact ⟨Int.le_refl _, show (0 : Int) ≤ 4294967295 by decide⟩
end Go.Proofs.Ytclmgfcdnokaiaa
