/-
  A region that draws its order, with operations that change what the region or the call has made: kind 0 reads nothing that is changed or made, kind 3 makes blocks, kind 7 reads or changes what is made.
-/
import Derived.Test.YtdllgfkcakhoeaaStr
namespace Go.Proofs.Ytdllgfkcakhoeaa
set_option linter.unusedVariables false
set_option linter.unusedSimpArgs false
set_option linter.unusedVariables false
open Go Go.RowKit
section
variable {P : Program} {ops : Array Oper} {md : Region.Mode} {w0 : World} {HB : List Ent}
def compatT (i j : Nat) : Bool :=
  match j with
  | 0 => Nat.beq i 0
  | 3 => Nat.beq i 0 || Nat.beq i 3 || Nat.beq i 7
  | 7 => Nat.beq i 0
  | _ => false
/-- i may stand before j. -/
def pairOKT (md : Region.Mode) (ops : Array Oper) (ks ms : List Nat) (i j : Nat) : Bool :=
  !Nat.beq i j &&
  ((ms.getD j 0).testBit i || (match ops[i]? with
    | some oi => (match ops[j]? with | some oj => oi.apart ops oj && compatT (ks.getD i 2) (ks.getD j 2) | none => true)
    | none => true)) &&
  (match ops[i]? with | some oi => oi.after.all (fun e => !Region.binds md e || !Nat.beq e.on j) | none => true)
def mixOKt (md : Region.Mode) (ops : Array Oper) (ks p : List Nat) : Bool :=
  Region.noSelect ops && Nat.beq p.length ops.size && ((List.range ops.size).all fun q => p.any (Nat.beq q)) &&
  (let ms := masks md ops
   p.all (fun i => decide (i < ops.size) && (match ops[i]? with | some oi => oi.after.all (fun e => !Region.binds md e || (!Nat.beq e.on i && decide (e.on < ops.size))) | none => true)) &&
   pairsOK (pairOKT md ops ks ms) p)
def PairT (md : Region.Mode) (ops : Array Oper) (ks : List Nat) (i j : Nat) : Prop :=
  i ≠ j ∧ (∀ oi oj, ops[i]? = some oi → ops[j]? = some oj → Before md ops j i ∨ (oi.apart ops oj = true ∧ compatT (ks.getD i 2) (ks.getD j 2) = true)) ∧
  ∀ oi, ops[i]? = some oi → ∀ e ∈ oi.after, Region.binds md e = true → e.on ≠ j
theorem pairOKT_spec {ks : List Nat} {i j : Nat} (h : pairOKT md ops ks (masks md ops) i j = true) : PairT md ops ks i j := by
  unfold pairOKT at h
  simp only [Bool.and_eq_true, Bool.or_eq_true, Bool.not_eq_true'] at h
  obtain ⟨⟨h1, h2⟩, h3⟩ := h
  refine ⟨nbeq_ne h1, fun oi oj hi hj => ?_, fun oi hi e he hb => ?_⟩
  · rcases h2 with h2 | h2
    · exact .inl (masks_spec h2)
    · rw [hi, hj] at h2
      simp only [Bool.and_eq_true] at h2
      exact .inr h2
  · rw [hi] at h3
    simp only [Array.all_eq_true_iff_forall_mem, Bool.or_eq_true, Bool.not_eq_true'] at h3
    exact nbeq_ne ((h3 e he).resolve_left (by simp [hb]))
theorem mixOKt_spec {ks p : List Nat} (h : mixOKt md ops ks p = true) : Region.noSelect ops = true ∧ p.length = ops.size ∧ (∀ q, q < ops.size → q ∈ p) ∧
    (∀ i ∈ p, i < ops.size ∧ ∀ oi, ops[i]? = some oi → ∀ e ∈ oi.after, Region.binds md e = true → e.on ≠ i ∧ e.on < ops.size) ∧ p.Pairwise (PairT md ops ks) := by
  unfold mixOKt at h
  simp only [Bool.and_eq_true, List.all_eq_true, decide_eq_true_eq] at h
  obtain ⟨⟨⟨h1, h2⟩, h7⟩, h3, h4⟩ := h
  refine ⟨h1, Nat.eq_of_beq_eq_true h2, fun q hq => ?_, fun i hi => ⟨(h3 i hi).1, fun oi hoi e he hb => ?_⟩, (pairsOK_spec h4).imp pairOKT_spec⟩
  · obtain ⟨r, hr, hqr⟩ := List.any_eq_true.1 (h7 q (List.mem_range.2 hq))
    rw [Nat.eq_of_beq_eq_true hqr]; exact hr
  have h5 := (h3 i hi).2
  rw [hoi] at h5
  simp only [Array.all_eq_true_iff_forall_mem, Bool.or_eq_true, Bool.and_eq_true, Bool.not_eq_true', decide_eq_true_eq] at h5
  have h6 := (h5 e he).resolve_left (by simp [hb])
  exact ⟨nbeq_ne h6.1, h6.2⟩

/-- The operation changes what has been made: among X0 and Y it puts E in Y's place. -/
def ChangesL (P : Program) (ops : Array Oper) (w0 : World) (HB X0 Z : List Ent) (o : Oper) (a : Act) (R : Value → List Ent → Prop) (w : World) : Prop :=
  ((∃ v E w', (execOp a.eval o).run P w = .ok (.value v) w' ∧ R v E ∧ Fresh w0 E ∧ St w0 (HB ++ ((X0 ++ E) ++ Z)) w') ∨
    (∃ E w', o.dst = none ∧ (execOp a.eval o).run P w = .ok .skip w' ∧ R undef E ∧ Fresh w0 E ∧ St w0 (HB ++ ((X0 ++ E) ++ Z)) w') ∨
    (∃ f vs, (execOp a.eval o).run P w = .ok (.enter f vs) w ∧ Calls P f vs w fun e w'' => ∃ v E, e = .returned v ∧ R v E ∧ Fresh w0 E ∧ St w0 (HB ++ ((X0 ++ E) ++ Z)) w'')) ∧ Region.wanted o (yielded ops a.tmps) = true
theorem ChangesL.of_same {X0 Z : List Ent} {o : Oper} {a a' : Act} {w : World} {R : Value → List Ent → Prop} (h : ChangesL P ops w0 HB X0 Z o a R w) (he : execOp a'.eval o = execOp a.eval o)
    (hw : Region.wanted o (yielded ops a'.tmps) = Region.wanted o (yielded ops a.tmps)) : ChangesL P ops w0 HB X0 Z o a' R w := by
  unfold ChangesL at *; rw [he, hw]; exact h
theorem ChangesL.one {X0 Z : List Ent} {o : Oper} {a : Act} {w : World} {R : Value → List Ent → Prop} (h : ChangesL P ops w0 HB X0 Z o a R w) : ∃ v E w', R v E ∧ Fresh w0 E ∧ St w0 (HB ++ ((X0 ++ E) ++ Z)) w' := by
  rcases h.1 with ⟨v, E, w', _, h1, h2, h3⟩ | ⟨E, w', _, _, h1, h2, h3⟩ | ⟨f, vs, _, hc⟩
  · exact ⟨v, E, w', h1, h2, h3⟩
  · exact ⟨_, E, w', h1, h2, h3⟩
  · obtain ⟨e, w', fr, ⟨v, E, _, h1, h2, h3⟩, _⟩ := hc []
    exact ⟨v, E, w', h1, h2, h3⟩
theorem ChangesL.perm {X0 Z X0' Z' : List Ent} {o : Oper} {a : Act} {w : World} {R : Value → List Ent → Prop} (h : ChangesL P ops w0 HB X0 Z o a R w) (hp : ∀ E, ((X0 ++ E) ++ Z).Perm ((X0' ++ E) ++ Z')) : ChangesL P ops w0 HB X0' Z' o a R w := by
  refine ⟨?_, h.2⟩
  rcases h.1 with ⟨v, E, w', h0, h1, h2, h3⟩ | ⟨E, w', hd, h0, h1, h2, h3⟩ | ⟨f, vs, h0, hc⟩
  · exact .inl ⟨v, E, w', h0, h1, h2, h3.perm (List.Perm.append_left HB (hp E))⟩
  · exact .inr (.inl ⟨E, w', hd, h0, h1, h2, h3.perm (List.Perm.append_left HB (hp E))⟩)
  · refine .inr (.inr ⟨f, vs, h0, hc.mono ?_⟩)
    rintro e w' ⟨v, E, he, h1, h2, h3⟩
    exact ⟨v, E, he, h1, h2, h3.perm (List.Perm.append_left HB (hp E))⟩
def MixT (P : Program) (ops : Array Oper) (w0 : World) (HB : List Ent) (K : Nat → Nat) (RR : Nat → Value → List Ent → Prop) (T : Act → World → Prop) : List Nat → Act → List Ent → Prop
  | [], a, X => ∀ w, St w0 (HB ++ X) w → T a w
  | i :: is, a, X => ∃ o, ops[i]? = some o ∧ (
      (K i = 0 ∧ ∃ v, Val P ops w0 HB 0 [] o v a ∧ MixT P ops w0 HB K RR T is (a.put o.dst v) X) ∨
      (K i = 3 ∧ (∀ Z w, Fresh w0 Z → St w0 (HB ++ Z) w → MakesL P ops o a (RR i) w) ∧ ∀ v E, Fresh w0 E → RR i v E → MixT P ops w0 HB K RR T is (a.put o.dst v) (X ++ E)) ∨
      (K i = 7 ∧ ∃ X0 Y, X.Perm (X0 ++ Y) ∧ (∀ Z w, Fresh w0 Z → St w0 (HB ++ ((X0 ++ Y) ++ Z)) w → ChangesL P ops w0 HB X0 Z o a (RR i) w) ∧ ∀ v E, Fresh w0 E → RR i v E → MixT P ops w0 HB K RR T is (a.put o.dst v) (X0 ++ E)))
theorem MixT.perm {K : Nat → Nat} {RR : Nat → Value → List Ent → Prop} {T : Act → World → Prop} : ∀ (is : List Nat) (a : Act) (X X' : List Ent), X.Perm X' → MixT P ops w0 HB K RR T is a X → MixT P ops w0 HB K RR T is a X'
  | [], a, X, X', hp, h => fun w hs => h w (hs.perm (List.Perm.append_left HB hp.symm))
  | i :: is, a, X, X', hp, h => by
    obtain ⟨o, ho, h⟩ := h
    refine ⟨o, ho, ?_⟩
    rcases h with ⟨h1, v, h2, h3⟩ | ⟨h1, h2, h3⟩ | ⟨h1, X0, Y, hXY, h2, h3⟩
    · exact .inl ⟨h1, v, h2, MixT.perm is _ X X' hp h3⟩
    · exact .inr (.inl ⟨h1, h2, fun v E hE hR => MixT.perm is _ _ _ (List.Perm.append_right E hp) (h3 v E hE hR)⟩)
    · exact .inr (.inr ⟨h1, X0, Y, hp.symm.trans hXY, h2, h3⟩)
theorem compatT_0 {i : Nat} (h : compatT i 0 = true) : i = 0 := Nat.eq_of_beq_eq_true h
theorem compatT_7 {i : Nat} (h : compatT i 7 = true) : i = 0 := Nat.eq_of_beq_eq_true h
theorem MixT.first0 {K : Nat → Nat} {RR : Nat → Value → List Ent → Prop} {T : Act → World → Prop} (hsel : ∀ (j : Nat) (o : Oper) cs b, ops[j]? = some o → o.op ≠ .select cs b) {j : Nat} {oj : Oper} (hj : ops[j]? = some oj) (hk : K j = 0) (post : List Nat) :
    ∀ (pre : List Nat) (a : Act) (X : List Ent), (∀ i oi, i ∈ pre → ops[i]? = some oi → oi.apart ops oj = true ∧ compatT (K i) (K j) = true) → MixT P ops w0 HB K RR T (pre ++ j :: post) a X →
      ∃ v, Val P ops w0 HB 0 [] oj v a ∧ MixT P ops w0 HB K RR T (pre ++ post) (a.put oj.dst v) X
  | [], a, X, _, h => by
    obtain ⟨o, ho, h⟩ := h
    rw [hj] at ho; cases ho
    rcases h with ⟨_, v, h2, h3⟩ | ⟨h1, _⟩ | ⟨h1, _⟩
    · exact ⟨v, h2, h3⟩
    · omega
    · omega
  | i :: pre, a, X, hap, h => by
    obtain ⟨oi, hi, h⟩ := h
    obtain ⟨hap1, hcomp⟩ := hap i oi List.mem_cons_self hi
    obtain ⟨h1, h2, h3⟩ := Oper.apart_spec hap1
    have hap' := fun k ok hk => hap k ok (List.mem_cons_of_mem _ hk)
    rw [hk] at hcomp
    have hc := compatT_0 hcomp
    rcases h with ⟨hki, vi, hf, hs⟩ | ⟨hki, _⟩ | ⟨hki, _⟩
    · obtain ⟨vj, hfj, hsj⟩ := MixT.first0 hsel hj hk post pre (a.put oi.dst vi) X hap' hs
      exact ⟨vj, hfj.of_same (execOp_put oj (fun cs b => hsel j oj cs b hj) a oi.dst vi h1).symm (wanted_put oj a oi.dst vi h1).symm, oi, hi,
        .inl ⟨hki, vi, hf.of_same (execOp_put oi (fun cs b => hsel i oi cs b hi) a oj.dst vj h3) (wanted_put oi a oj.dst vj h3), by rw [← Act.put_comm a vi vj h2]; exact hsj⟩⟩
    · omega
    · omega
theorem MixT.first7 {K : Nat → Nat} {RR : Nat → Value → List Ent → Prop} {T : Act → World → Prop} (hsel : ∀ (j : Nat) (o : Oper) cs b, ops[j]? = some o → o.op ≠ .select cs b) {j : Nat} {oj : Oper} (hj : ops[j]? = some oj) (hk : K j = 7) (post : List Nat) :
    ∀ (pre : List Nat) (a : Act) (X : List Ent), (∀ i oi, i ∈ pre → ops[i]? = some oi → oi.apart ops oj = true ∧ compatT (K i) (K j) = true) → MixT P ops w0 HB K RR T (pre ++ j :: post) a X →
      ∃ X0 Y, X.Perm (X0 ++ Y) ∧ (∀ Z w, Fresh w0 Z → St w0 (HB ++ ((X0 ++ Y) ++ Z)) w → ChangesL P ops w0 HB X0 Z oj a (RR j) w) ∧ ∀ v E, Fresh w0 E → RR j v E → MixT P ops w0 HB K RR T (pre ++ post) (a.put oj.dst v) (X0 ++ E)
  | [], a, X, _, h => by
    obtain ⟨o, ho, h⟩ := h
    rw [hj] at ho; cases ho
    rcases h with ⟨h1, _⟩ | ⟨h1, _⟩ | ⟨_, h2⟩
    · omega
    · omega
    · exact h2
  | i :: pre, a, X, hap, h => by
    obtain ⟨oi, hi, h⟩ := h
    obtain ⟨hap1, hcomp⟩ := hap i oi List.mem_cons_self hi
    obtain ⟨h1, h2, h3⟩ := Oper.apart_spec hap1
    have hap' := fun k ok hk => hap k ok (List.mem_cons_of_mem _ hk)
    rw [hk] at hcomp
    have hc := compatT_7 hcomp
    rcases h with ⟨hki, vi, hf, hs⟩ | ⟨hki, _⟩ | ⟨hki, _⟩
    · obtain ⟨X0, Y, hp, hch, hr⟩ := MixT.first7 hsel hj hk post pre (a.put oi.dst vi) X hap' hs
      exact ⟨X0, Y, hp, fun Z w hZ hst => (hch Z w hZ hst).of_same (execOp_put oj (fun cs b => hsel j oj cs b hj) a oi.dst vi h1).symm (wanted_put oj a oi.dst vi h1).symm, fun v E hE hR => ⟨oi, hi,
        .inl ⟨hki, vi, hf.of_same (execOp_put oi (fun cs b => hsel i oi cs b hi) a oj.dst v h3) (wanted_put oi a oj.dst v h3), by rw [← Act.put_comm a vi v h2]; exact hr v E hE hR⟩⟩⟩
    · omega
    · omega
theorem MixT.first3 {K : Nat → Nat} {RR : Nat → Value → List Ent → Prop} {T : Act → World → Prop} (hsel : ∀ (j : Nat) (o : Oper) cs b, ops[j]? = some o → o.op ≠ .select cs b) {j : Nat} {oj : Oper} (hj : ops[j]? = some oj) (hk : K j = 3) (post : List Nat) :
    ∀ (pre : List Nat) (a : Act) (X : List Ent), (∀ i oi, i ∈ pre → ops[i]? = some oi → oi.apart ops oj = true ∧ compatT (K i) (K j) = true) → MixT P ops w0 HB K RR T (pre ++ j :: post) a X →
      ((∃ Z w, Fresh w0 (X ++ Z) ∧ St w0 (HB ++ (X ++ Z)) w) → ∀ Z w, Fresh w0 Z → St w0 (HB ++ Z) w → MakesL P ops oj a (RR j) w) ∧
        ∀ v E, Fresh w0 E → RR j v E → MixT P ops w0 HB K RR T (pre ++ post) (a.put oj.dst v) (X ++ E)
  | [], a, X, _, h => by
    obtain ⟨o, ho, h⟩ := h
    rw [hj] at ho; cases ho
    rcases h with ⟨h1, _⟩ | ⟨_, h2, h3⟩ | ⟨h1, _⟩
    · omega
    · exact ⟨fun _ => h2, h3⟩
    · omega
  | i :: pre, a, X, hap, h => by
    obtain ⟨oi, hi, h⟩ := h
    obtain ⟨hap1, hcomp⟩ := hap i oi List.mem_cons_self hi
    obtain ⟨h1, h2, h3⟩ := Oper.apart_spec hap1
    have hap' := fun k ok hk => hap k ok (List.mem_cons_of_mem _ hk)
    have ej := fun v => (execOp_put oj (fun cs b => hsel j oj cs b hj) a oi.dst v h1).symm
    have wj := fun v => (wanted_put oj a oi.dst v h1).symm
    have ei := fun v => execOp_put oi (fun cs b => hsel i oi cs b hi) a oj.dst v h3
    have wi := fun v => wanted_put oi a oj.dst v h3
    rcases h with ⟨hki, vi, hf, hs⟩ | ⟨hki, hm, hs⟩ | ⟨hki, X0, Y, hp, hch, hs⟩
    · obtain ⟨hmj, hsj⟩ := MixT.first3 hsel hj hk post pre (a.put oi.dst vi) X hap' hs
      refine ⟨fun hex Z w hZ hst => (hmj hex Z w hZ hst).of_same (ej vi) (wj vi), fun v E hE hR => ⟨oi, hi, .inl ⟨hki, vi, ?_, ?_⟩⟩⟩
      · exact hf.of_same (ei v) (wi v)
      · rw [← Act.put_comm a vi v h2]; exact hsj v E hE hR
    · have rec_ := fun v E (hE : Fresh w0 E) (hR : RR i v E) => MixT.first3 hsel hj hk post pre (a.put oi.dst v) (X ++ E) hap' (hs v E hE hR)
      refine ⟨fun hex Z w hZ hst => ?_, fun v E hE hR => ⟨oi, hi, .inr (.inl ⟨hki, fun Z w hZ hst => (hm Z w hZ hst).of_same (ei v) (wi v), fun vi Ei hEi hRi => ?_⟩)⟩⟩
      · obtain ⟨Z1, w1, hZ1, hs1⟩ := hex
        obtain ⟨vi, Ei, w', hRi, hEi, hst'⟩ := (hm (X ++ Z1) w1 hZ1 hs1).one
        have hEi0 : Fresh w0 Ei := fun e he => Nat.le_trans hs1.size (hEi e he)
        have hall := st_call hs1 hst' hEi
        have hex' : ∃ Z w, Fresh w0 ((X ++ Ei) ++ Z) ∧ St w0 (HB ++ ((X ++ Ei) ++ Z)) w := by
          refine ⟨Z1, w', fun e he => ?_, hall.perm ?_⟩
          · simp only [List.append_assoc, List.mem_append] at he
            rcases he with he | he | he
            · exact hZ1 e (List.mem_append.2 (.inl he))
            · exact hEi0 e he
            · exact hZ1 e (List.mem_append.2 (.inr he))
          · simp only [List.append_assoc]
            exact List.Perm.append_left HB (List.Perm.append_left X List.perm_append_comm)
        exact ((rec_ vi Ei hEi0 hRi).1 hex' Z w hZ hst).of_same (ej vi) (wj vi)
      · have := (rec_ vi Ei hEi hRi).2 v E hE hR
        rw [Act.put_comm a vi v h2] at this
        refine MixT.perm _ _ _ _ ?_ this
        rw [List.append_assoc, List.append_assoc]
        exact List.Perm.append_left X List.perm_append_comm
    · have rec_ := fun v E (hE : Fresh w0 E) (hR : RR i v E) => MixT.first3 hsel hj hk post pre (a.put oi.dst v) (X0 ++ E) hap' (hs v E hE hR)
      refine ⟨fun hex Z w hZ hst => ?_, fun v E hE hR => ⟨oi, hi, .inr (.inr ⟨hki, X0 ++ E, Y, ?_, fun Z w hZ hst => ?_, fun vi Ei hEi hRi => ?_⟩)⟩⟩
      · obtain ⟨Z1, w1, hZ1, hs1⟩ := hex
        have hZ1' : Fresh w0 Z1 := fun e he => hZ1 e (List.mem_append.2 (.inr he))
        obtain ⟨vi, Ei, w', hRi, hEi, hst'⟩ := (hch Z1 w1 hZ1' (hs1.perm (List.Perm.append_left HB (List.Perm.append_right Z1 hp)))).one
        have hX0 : Fresh w0 X0 := fun e he => hZ1 e (List.mem_append.2 (.inl (hp.mem_iff.2 (List.mem_append.2 (.inl he)))))
        exact ((rec_ vi Ei hEi hRi).1 ⟨Z1, w', (hX0.app hEi).app hZ1', hst'⟩ Z w hZ hst).of_same (ej vi) (wj vi)
      · refine (List.Perm.append_right E hp).trans ?_
        rw [List.append_assoc, List.append_assoc]
        exact List.Perm.append_left X0 List.perm_append_comm
      · have hc := hch (E ++ Z) w (hE.app hZ) (hst.perm (List.Perm.append_left HB (by
          simp only [List.append_assoc]
          refine List.Perm.append_left X0 ?_
          rw [← List.append_assoc, ← List.append_assoc]
          exact List.Perm.append_right Z List.perm_append_comm)))
        refine (hc.of_same (ei v) (wi v)).perm fun F => ?_
        simp only [List.append_assoc]
        refine List.Perm.append_left X0 ?_
        rw [← List.append_assoc, ← List.append_assoc]
        exact List.Perm.append_right Z List.perm_append_comm
      · have := (rec_ vi Ei hEi hRi).2 v E hE hR
        rw [Act.put_comm a vi v h2] at this
        refine MixT.perm _ _ _ _ ?_ this
        rw [List.append_assoc, List.append_assoc]
        exact List.Perm.append_left X0 List.perm_append_comm
theorem wpAny_of_mixT {Q : Exit → Act → World → Prop} {RR : Nat → Value → List Ent → Prop} {ks p : List Nat} (hks : ∀ i ∈ p, ks.getD i 2 = 0 ∨ ks.getD i 2 = 3 ∨ ks.getD i 2 = 7) (hns : Region.noSelect ops = true) (hself : ∀ i ∈ p, i < ops.size ∧ ∀ oi, ops[i]? = some oi → ∀ e ∈ oi.after, Region.binds md e = true → e.on ≠ i ∧ e.on < ops.size) :
    ∀ (n : Nat) (is : List Nat) (listed : Array Bool) (a : Act) (w : World) (X : List Ent), is.length = n → is.Pairwise (PairT md ops ks) → (∀ i ∈ is, i ∈ p) → Lists ops.size md ops is listed → MixT P ops w0 HB (ks.getD · 2) RR (Q .normal) is a X → Fresh w0 X → St w0 (HB ++ X) w →
      wpAny P md ops Q n listed a w := by
  have hsel := Region.noSelect_spec hns
  intro n
  induction n with
  | zero =>
    intro is listed a w X hlen _ _ hl hs hX hS
    obtain rfl : is = [] := List.length_eq_zero_iff.1 hlen
    refine wpAny_done ?_ (hs w hS) 0
    rw [List.eq_nil_iff_forall_not_mem]
    intro j hj
    obtain ⟨hjun, oj, hoj, _⟩ := mem_ready.1 hj
    have hjs : j < ops.size := (Array.getElem?_eq_some_iff.1 hoj).1
    have := (hl.2.1 j hjs).1 hjun
    simp at this
    omega
  | succ n ih =>
    intro is listed a w X hlen hpw hlt hl hs hX hS
    have hnd : is.Nodup := hpw.imp (fun h => h.1)
    refine ⟨fun hnone => ?_, fun j hj => ?_⟩
    · exfalso
      obtain ⟨i, is', rfl⟩ : ∃ i is', is = i :: is' := by
        cases is with
        | nil => simp at hlen
        | cons i is' => exact ⟨i, is', rfl⟩
      obtain ⟨him, hafter⟩ := hself i (hlt i List.mem_cons_self)
      have hi : ops[i]? = some ops[i] := Array.getElem?_eq_getElem him
      have hmem : i ∈ Region.ready md ops listed := by
        rw [mem_ready]
        refine ⟨(hl.2.1 i him).2 (.inl List.mem_cons_self), _, hi, fun e he hb => ?_⟩
        obtain ⟨hne, hon⟩ := hafter _ hi e he hb
        rw [getD_false_of (by rw [hl.1]; exact hon), hl.2.1 e.on hon]
        rintro (h | h)
        · rcases List.mem_cons.1 h with h | h
          · exact hne h
          · exact ((List.pairwise_cons.1 hpw).1 _ h).2.2 _ hi e he hb rfl
        · omega
      rw [hnone] at hmem
      cases hmem
    · obtain ⟨hjun, oj, hoj, hall⟩ := mem_ready.1 hj
      have hjs : j < ops.size := (Array.getElem?_eq_some_iff.1 hoj).1
      have hnw : ∀ i ∈ is, ¬ Before md ops j i := fun i hi hw => by
        have h1 := hw listed hl.2.2 (fun o ho' e he hb => by rw [hoj] at ho'; cases ho'; exact hall e he hb)
        have him := (hself i (hlt i hi)).1
        exact (getD_false_of (by rw [hl.1]; omega)).1 h1 ((hl.2.1 i him).2 (.inl hi))
      have hjin : j ∈ is := by
        rcases (hl.2.1 j hjs).1 hjun with h | h
        · exact h
        · omega
      obtain ⟨pre, post, rfl⟩ := List.append_of_mem hjin
      have hap : ∀ i oi, i ∈ pre → ops[i]? = some oi → oi.apart ops oj = true ∧ compatT (ks.getD i 2) (ks.getD j 2) = true := fun i oi hi hoi => by
        have hij := (List.pairwise_append.1 hpw).2.2 i hi j List.mem_cons_self
        rcases hij.2.1 oi oj hoi hoj with hw | hap
        · exact absurd hw (hnw i (by simp [hi]))
        · exact hap
      have hsub : (pre ++ post).Sublist (pre ++ j :: post) := List.Sublist.append_left (List.sublist_cons_self _ _) _
      have next := fun a' w' X' => ih (pre ++ post) (listed.setIfInBounds j true) a' w' X' (by simp at hlen ⊢; omega) (hpw.sublist hsub) (fun i hi => hlt i (hsub.subset hi)) (hl.next rfl hnd hjs (Nat.le_refl _) hj)
      rcases hks j (hlt j hjin) with hk | hk | hk
      · obtain ⟨vj, hf, hs'⟩ := MixT.first0 (K := (ks.getD · 2)) hsel hoj hk post pre a X hap hs
        have hfix : Fixed P ops (St w0 (HB ++ X)) oj vj a := by
          have := hf X hX
          rw [if_pos rfl] at this; exact this
        exact hfix.wpOp hoj hS fun w' hS' => next _ w' X hs' hX hS'
      · obtain ⟨hf, hs'⟩ := MixT.first3 (K := (ks.getD · 2)) hsel hoj hk post pre a X hap hs
        have hmk : MakesL P ops oj a (RR j) w := hf ⟨[], w, by rw [List.append_nil]; exact hX, by rw [List.append_nil]; exact hS⟩ X w hX hS
        obtain ⟨hr, hw⟩ := hmk
        unfold Go.wpOp
        simp only [hoj, hw, if_true, Oper.wp]
        refine .inl ?_
        have go : ∀ v E w', RR j v E → Fresh w E → St w E w' → wpAny P md ops Q n (listed.setIfInBounds j true) (a.put oj.dst v) w' := fun v E w' hR hE hw' => by
          have hE0 : Fresh w0 E := fun e he => Nat.le_trans hS.size (hE e he)
          refine next _ w' _ (hs' v E hE0 hR) (hX.app hE0) ?_
          rw [← List.append_assoc]
          exact st_call hS hw' hE
        rcases hr with ⟨v, E, w', hr, hR, hE, hw'⟩ | ⟨f, vs, hr, hc⟩
        · rw [hr]; exact go v E w' hR hE hw'
        · rw [hr]
          refine hc.mono ?_
          rintro e w'' ⟨v, E, rfl, hR, hE, hw'⟩
          exact go v E w'' hR hE hw'
      · obtain ⟨X0, Y, hp, hch, hs'⟩ := MixT.first7 (K := (ks.getD · 2)) hsel hoj hk post pre a X hap hs
        have hX0 : Fresh w0 X0 := fun e he => hX e (hp.mem_iff.2 (List.mem_append.2 (.inl he)))
        obtain ⟨hr, hw⟩ := hch [] w Fresh.nil (by rw [List.append_nil]; exact hS.perm (List.Perm.append_left HB hp))
        unfold Go.wpOp
        simp only [hoj, hw, if_true, Oper.wp]
        refine .inl ?_
        rcases hr with ⟨v, E, w', hr, hR, hE, hst⟩ | ⟨E, w', hd, hr, hR, hE, hst⟩ | ⟨f, vs, hr, hc⟩
        · rw [hr]
          rw [List.append_nil] at hst
          exact next _ w' _ (hs' v E hE hR) (hX0.app hE) hst
        · rw [hr]
          rw [List.append_nil] at hst
          have := next _ w' _ (hs' _ E hE hR) (hX0.app hE) hst
          simpa [Oper.upon_skip, hd, Act.put] using this
        · rw [hr]
          refine hc.mono ?_
          rintro e w'' ⟨v, E, rfl, hR, hE, hst⟩
          rw [List.append_nil] at hst
          exact next _ w'' _ (hs' v E hE hR) (hX0.app hE) hst
def MixMT (P : Program) (ops : Array Oper) (w0 : World) (HB : List Ent) (T : Act → World → Prop) : List Nat → List (Value → List Ent → Prop) → List Oper → Act → List Ent → Prop
  | [], [], [], a, X => ∀ w, St w0 (HB ++ X) w → T a w
  | k :: ks, r :: rs, o :: rest, a, X => (k = 0 ∧ ∃ v, Val P ops w0 HB 0 [] o v a ∧ MixMT P ops w0 HB T ks rs rest (a.put o.dst v) X) ∨
      (k = 3 ∧ (∀ Z w, Fresh w0 Z → St w0 (HB ++ Z) w → MakesL P ops o a r w) ∧ ∀ v E, Fresh w0 E → r v E → MixMT P ops w0 HB T ks rs rest (a.put o.dst v) (X ++ E)) ∨
      (k = 7 ∧ ∃ X0 Y, X.Perm (X0 ++ Y) ∧ (∀ Z w, Fresh w0 Z → St w0 (HB ++ ((X0 ++ Y) ++ Z)) w → ChangesL P ops w0 HB X0 Z o a r w) ∧ ∀ v E, Fresh w0 E → r v E → MixMT P ops w0 HB T ks rs rest (a.put o.dst v) (X0 ++ E))
  | _, _, _, _, _ => False
theorem MixMT.seqp {T : Act → World → Prop} {l : List Oper} {ks : List Nat} {rs : List (Value → List Ent → Prop)} : ∀ (p : List Nat) (a : Act) (X : List Ent), (∀ i ∈ p, i < l.length) → MixMT P l.toArray w0 HB T (pickK ks p) (pickRL rs p) (pickO l p) a X →
    MixT P l.toArray w0 HB (ks.getD · 2) (rs.getD · (fun _ _ => False)) T p a X
  | [], _, _, _, h => h
  | i :: is, a, X, hp, h => by
    have hlt := hp i List.mem_cons_self
    have hi : l[i]? = some l[i] := List.getElem?_eq_getElem hlt
    unfold pickO pickK pickRL at h
    rw [hi] at h
    have rec_ : ∀ a X, MixMT P l.toArray w0 HB T (pickK ks is) (pickRL rs is) (pickO l is) a X → MixT P l.toArray w0 HB (ks.getD · 2) (rs.getD · (fun _ _ => False)) T is a X := fun a X h => MixMT.seqp is a X (fun j hj => hp j (List.mem_cons_of_mem _ hj)) h
    refine ⟨l[i], by rw [List.getElem?_toArray]; exact hi, ?_⟩
    rcases h with ⟨h1, v, h2, h3⟩ | ⟨h1, h2, h3⟩ | ⟨h1, X0, Y, hq, h2, h3⟩
    · exact .inl ⟨h1, v, h2, rec_ _ _ h3⟩
    · exact .inr (.inl ⟨h1, h2, fun v E hE hR => rec_ _ _ (h3 v E hE hR)⟩)
    · exact .inr (.inr ⟨h1, X0, Y, hq, h2, fun v E hE hR => rec_ _ _ (h3 v E hE hR)⟩)
def kindsOKT (ks p : List Nat) : Bool := p.all fun i => Nat.beq (ks.getD i 2) 0 || (Nat.beq (ks.getD i 2) 3 || Nat.beq (ks.getD i 2) 7)
theorem kindsOKT_spec {ks p : List Nat} (h : kindsOKT ks p = true) : ∀ i ∈ p, ks.getD i 2 = 0 ∨ ks.getD i 2 = 3 ∨ ks.getD i 2 = 7 := fun i hi => by
  unfold kindsOKT at h
  have := List.all_eq_true.1 h i hi
  simp only [Bool.or_eq_true] at this
  rcases this with h1 | h1 | h1
  · exact .inl (Nat.eq_of_beq_eq_true h1)
  · exact .inr (.inl (Nat.eq_of_beq_eq_true h1))
  · exact .inr (.inr (Nat.eq_of_beq_eq_true h1))
theorem wp_mixT {md0 : Md} {Q : Exit → Act → World → Prop} {id : Nat} {l : List Oper} {a : Act} {w : World} {X : List Ent} (hmix : P.follows .mixedOrders = true) (ks p : List Nat) (rs : List (Value → List Ent → Prop)) (hks : kindsOKT ks p = true) (ho : mixOKt .any l.toArray ks p = true)
    (hX : Fresh w0 X) (hS : St w0 (HB ++ X) w.drew) (h : MixMT P l.toArray w0 HB (Q .normal) (pickK ks p) (pickRL rs p) (pickO l p) a X) (hok : OkR md0 l.toArray Q) : wpn md0 P (Code.region id l.toArray true) Q a w := by
  refine wpnFrom_start hok hmix ?_
  intro listed hl
  have hsz : l.toArray.size = l.length := by simp
  obtain ⟨hns, hlen, hall, hself, hpw⟩ := mixOKt_spec ho
  have := wpAny_of_mixT (P := P) (Q := Q) (ks := ks) (kindsOKT_spec hks) hns hself l.length p listed a w.drew X (hlen.trans hsz) hpw (fun i hi => hi)
    ⟨hl.1, fun q hq => by
      rw [hl.2.1 q hq]
      have := hall q hq
      simp [this], hl.2.2⟩ (MixMT.seqp p a X (fun i hi => by rw [← hsz]; exact (hself i hi).1) h) hX hS
  rw [hsz, Nat.sub_zero]
  exact this
end
section
variable {P : Program} {ops : Array Oper} {Q : Exit → Act → World → Prop} {n : Sz} {w0 : World} {L L' : List (Nat × Value)} {HB X D : List Ent}
variable {o : Oper} {rest : List Oper} {v u : Value} {x y z : Operand} {k m j : Nat} {t t' e : TypeId} {ks : List Nat} {kd : IntKind} {r : Value → List Ent → Prop} {rs : List (Value → List Ent → Prop)}
def TT (P : Program) (ops : Array Oper) (Q : Exit → Act → World → Prop) (n : Sz) (w0 : World) (HB : List Ent) (ks : List Nat) (rs : List (Value → List Ent → Prop)) (rest : List Oper) (L : List (Nat × Value)) (X : List Ent) : Prop :=
  ∀ a, Fr n L a → MixMT P ops w0 HB (Q .normal) ks rs rest a X
theorem TC.mixT {id : Nat} {l : List Oper} {H : List Ent} (HB X : List Ent) (hmix : P.follows .mixedOrders = true) (ks p : List Nat) (rs : List (Value → List Ent → Prop)) (hks : kindsOKT ks p = true) (ho : mixOKt .any l.toArray ks p = true) (hp : H.Perm (HB ++ X)) (hX : Fresh w0 X)
    (h : TT P l.toArray Q n w0 HB (pickK ks p) (pickRL rs p) (pickO l p) L X) (hok : OkR n.md l.toArray Q := by exact trivial) : TC P Q n w0 (.region id l.toArray true) L H :=
  fun a w hf hs => wp_mixT hmix ks p rs hks ho hX (hs.perm hp).drew (h a hf) hok
theorem TT.nil (h : TE Q .normal n w0 L (HB ++ X)) : TT P ops Q n w0 HB [] [] [] L X := fun a hf w hs => h a w hf hs
theorem TT.free (hg : Wants n ops L o) (hi : inside n o.dst = true) (h : ∀ Z, Fresh w0 Z → Gets P n w0 o L (HB ++ Z) v) (hr : TT P ops Q n w0 HB ks rs rest (put L o.dst v) X) : TT P ops Q n w0 HB (0 :: ks) (r :: rs) (o :: rest) L X :=
  fun a hf => .inl ⟨rfl, v, fun Z hZ => .inl ⟨hg a hf, fun w hS => by rw [if_pos rfl] at hS ⊢; rw [h Z hZ a w hf hS]; exact ⟨rfl, hS⟩⟩, hr _ (hf.put o.dst v hi)⟩
theorem TT.pass {j d : Nat} {b c : Bool} (h : o.guard = some (j, c)) (hj : (ops[j]?).bind (·.dst) = some d) (hd : look L d = some (.bool b)) (hi : inside n o.dst = true) (hb : b = !c) (hr : TT P ops Q n w0 HB ks rs rest (put L o.dst undef) X) : TT P ops Q n w0 HB (0 :: ks) (r :: rs) (o :: rest) L X :=
  fun a hf => .inl ⟨rfl, undef, fun Z _ => .inr ⟨by subst hb; simp [Region.wanted, h, guard_val hf hj hd], rfl⟩, hr _ (hf.put o.dst undef hi)⟩
theorem TT.passU {j d : Nat} {b : Bool} (h : o.guard = some (j, b)) (hj : (ops[j]?).bind (·.dst) = some d) (hd : look L d = some undef) (hi : inside n o.dst = true) (hr : TT P ops Q n w0 HB ks rs rest (put L o.dst undef) X) : TT P ops Q n w0 HB (0 :: ks) (r :: rs) (o :: rest) L X :=
  fun a hf => .inl ⟨rfl, undef, fun Z _ => .inr ⟨by simp [Region.wanted, h, guard_undef hf hj hd], rfl⟩, hr _ (hf.put o.dst undef hi)⟩
/-- A call that leaves all known blocks. -/
theorem TT.call0 {f : FuncId} {xs : List Operand} {ts : Array TypeId} {vs : List Value} (hg : Wants n ops L o) (hi : inside n o.dst = true) (h : Enters P f)
    (ho : o.op = .call { callee := .value (.func f), args := xs.toArray, argTypes := ts }) (hx : evs L xs = some vs)
    (hc : ∀ Z w, Fresh w0 Z → St w0 (HB ++ Z) w → Calls P f vs.toArray w fun e w' => e = .returned v ∧ St w [] w')
    (hr : TT P ops Q n w0 HB ks rs rest (put L o.dst v) X) : TT P ops Q n w0 HB (0 :: ks) (r :: rs) (o :: rest) L X :=
  fun a hf => .inl ⟨rfl, v, fun Z hZ => .inl ⟨hg a hf, fun w hS => by
    rw [if_pos rfl] at hS
    rw [run_enter h ho hf hx]
    exact (hc Z w hZ hS).mono fun e w' ⟨he, hw⟩ => ⟨he, by rw [if_pos rfl]; exact hS.call' hw⟩⟩, hr _ (hf.put o.dst v hi)⟩
/-- A call that makes blocks. -/
theorem TT.call {ι : Type} {f : FuncId} {xs : List Operand} {ts : Array TypeId} {vs : List Value} {V : ι → Value} {R : ι → Prop} {E : ι → List Ent} (hg : Wants n ops L o) (hi : inside n o.dst = true) (h : Enters P f)
    (ho : o.op = .call { callee := .value (.func f), args := xs.toArray, argTypes := ts }) (hx : evs L xs = some vs)
    (hc : ∀ Z w, Fresh w0 Z → St w0 (HB ++ Z) w → Calls P f vs.toArray w fun e w' => ∃ i, e = .returned (V i) ∧ R i ∧ Fresh w (E i) ∧ St w (E i) w')
    (hr : ∀ i, R i → Fresh w0 (E i) → TT P ops Q n w0 HB ks rs rest (put L o.dst (V i)) (X ++ E i)) : TT P ops Q n w0 HB (3 :: ks) ((fun v e => ∃ i, R i ∧ v = V i ∧ e = E i) :: rs) (o :: rest) L X :=
  fun a hf => .inr (.inl ⟨rfl, fun Z w hZ hs => ⟨.inr ⟨f, vs.toArray, run_enter h ho hf hx, (hc Z w hZ hs).mono fun e w' ⟨i, he, hR, hE, hs'⟩ => ⟨V i, E i, he, ⟨i, hR, rfl, rfl⟩, hE, hs'⟩⟩, hg a hf⟩,
    fun v e hE ⟨i, hR, h1, h2⟩ => by subst h1; subst h2; exact hr i hR hE _ (hf.put o.dst _ hi)⟩)
theorem TT.buildSlice {len s : Nat} {ps : List (Nat × Operand)} {vs : List (Nat × Value)} {cells : Array Value} {cs : List Value} {zv : Value} (hg : Wants n ops L o) (hi : inside n o.dst = true) (ho : o.op = .buildSlice t len ps.toArray)
    (h1 : P.underlying t = some (.slice e)) (hsz : (P.info? e).map (·.size) = some s) (hz : (P.info? e).bind (·.zero) = some zv) (hv : operVals L ps = some vs) (hlen : len * s ≤ 2 ^ 24) (hpos : (len * s = 0) = False)
    {tot : Nat} (hfill : Instr.fill (fun i => some (i * s, s)) ((Array.range (len * s)).map (zv.cells[· % zv.cells.size]!)) vs = some cells) (hcs : cells.toList = cs) (htot : cs.length = tot)
    (hr : ∀ g, w0.heap.size ≤ g → TT P ops Q n w0 HB ks rs rest (put L o.dst (.slice (some ⟨g, 0, none⟩) len len)) (X ++ [⟨g, e, cs, tot⟩])) :
    TT P ops Q n w0 HB (3 :: ks) ((fun v d => ∃ g, v = .slice (some ⟨g, 0, none⟩) len len ∧ d = [⟨g, e, cs, tot⟩]) :: rs) (o :: rest) L X :=
  fun a hf => .inr (.inl ⟨rfl, fun Z w hZ hs => by
    have hrun : (execOp a.eval o).run P w = .ok (.value (.slice (some ⟨w.heap.size, 0, none⟩) len len)) (w.alloc (.cells cells e)) := by
      have hm := operVals_eval hf hv
      have hm2 : (ps.map fun (x : Nat × Operand) => match x with | (i, x) => (i, a.eval x)) = vs := hm
      simp only [execOp, ho]
      refine run_value ?_
      simp only [Instr.buildSlice, Sem.run_bind, run_under h1, Result.andThen_ok, run_size hsz, List.map_toArray, hm2]
      rw [if_neg (by omega), if_neg (by simp [hpos])]
      simp only [Sem.run_bind, run_zero hz, Result.andThen_ok, Sem.run_pure, hfill]
      simp [newRow, newObj, Sem.run_bind, Sem.run]
    subst htot
    exact ⟨.inl ⟨_, _, _, hrun, ⟨_, rfl, rfl⟩, fresh_one (Nat.le_refl _), (St.refl w).alloc e cs cells hcs⟩, hg a hf⟩,
    fun v d hE ⟨g, h2, h3⟩ => by subst h2; subst h3; exact hr g (fresh_head hE) _ (hf.put o.dst _ hi)⟩)
theorem TT.emptySlice {s : Nat} (hg : Wants n ops L o) (hi : inside n o.dst = true) (ho : o.op = .buildSlice t 0 #[]) (h1 : P.underlying t = some (.slice e)) (hsz : (P.info? e).map (·.size) = some s)
    (hr : ∀ g, w0.heap.size ≤ g → TT P ops Q n w0 HB ks rs rest (put L o.dst (.slice (some ⟨g, 0, none⟩) 0 0)) (X ++ [⟨g, e, [], 0⟩])) :
    TT P ops Q n w0 HB (3 :: ks) ((fun v d => ∃ g, v = .slice (some ⟨g, 0, none⟩) 0 0 ∧ d = [⟨g, e, [], 0⟩]) :: rs) (o :: rest) L X :=
  fun a hf => .inr (.inl ⟨rfl, fun Z w hZ hs => by
    have hrun : (execOp a.eval o).run P w = .ok (.value (.slice (some ⟨w.heap.size, 0, none⟩) 0 0)) (w.alloc (.cells #[] e)) := by
      simp only [execOp, ho]
      refine run_value ?_
      have hr0 : Array.range 0 = #[] := rfl
      simp [Instr.buildSlice, Sem.run_bind, run_under h1, run_size hsz, Instr.fill, newRow, newObj, Sem.run, hr0]
    exact ⟨.inl ⟨_, _, _, hrun, ⟨_, rfl, rfl⟩, fresh_one (Nat.le_refl _), (St.refl w).alloc e [] #[] rfl⟩, hg a hf⟩,
    fun v d hE ⟨g, h2, h3⟩ => by subst h2; subst h3; exact hr g (fresh_head hE) _ (hf.put o.dst _ hi)⟩)
/-- A value is read out of what is made. -/
theorem TT.reads (hg : Wants n ops L o) (hi : inside n o.dst = true) (hX : Fresh w0 X) (h : ∀ Z, Fresh w0 Z → Gets P n w0 o L (HB ++ (X ++ Z)) v) (hr : TT P ops Q n w0 HB ks rs rest (put L o.dst v) X) :
    TT P ops Q n w0 HB (7 :: ks) ((fun u d => u = v ∧ d = []) :: rs) (o :: rest) L X :=
  fun a hf => .inr (.inr ⟨rfl, X, [], by rw [List.append_nil], fun Z w hZ hs => by
    rw [List.append_nil] at hs
    exact ⟨.inl ⟨v, [], w, h Z hZ a w hf hs, ⟨rfl, rfl⟩, Fresh.nil, by rw [List.append_nil]; exact hs⟩, hg a hf⟩, fun u d _ ⟨h1, h2⟩ => by subst h1; subst h2; rw [List.append_nil]; exact hr _ (hf.put o.dst _ hi)⟩)
/-- A call that reads what is made. -/
theorem TT.callR {f : FuncId} {xs : List Operand} {ts : Array TypeId} {vs : List Value} (hg : Wants n ops L o) (hi : inside n o.dst = true) (h : Enters P f)
    (ho : o.op = .call { callee := .value (.func f), args := xs.toArray, argTypes := ts }) (hx : evs L xs = some vs)
    (hc : ∀ Z w, Fresh w0 Z → St w0 (HB ++ (X ++ Z)) w → Calls P f vs.toArray w fun e w' => e = .returned v ∧ St w [] w')
    (hr : TT P ops Q n w0 HB ks rs rest (put L o.dst v) X) : TT P ops Q n w0 HB (7 :: ks) ((fun u d => u = v ∧ d = []) :: rs) (o :: rest) L X :=
  fun a hf => .inr (.inr ⟨rfl, X, [], by rw [List.append_nil], fun Z w hZ hs => by
    rw [List.append_nil] at hs
    exact ⟨.inr (.inr ⟨f, vs.toArray, run_enter h ho hf hx, (hc Z w hZ hs).mono fun e w' ⟨he, hw⟩ => ⟨v, [], he, ⟨rfl, rfl⟩, Fresh.nil, by rw [List.append_nil]; exact hs.call' hw⟩⟩), hg a hf⟩, fun u d _ ⟨h1, h2⟩ => by subst h1; subst h2; rw [List.append_nil]; exact hr _ (hf.put o.dst _ hi)⟩)
end
end Go.Proofs.Ytdllgfkcakhoeaa
