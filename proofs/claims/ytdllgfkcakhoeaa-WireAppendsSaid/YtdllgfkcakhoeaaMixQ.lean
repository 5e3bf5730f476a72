/-
  A region that draws its order: operations that read nothing that is made, operations (calls among them) that read what is made, and operations that make one block each.
-/
import Derived.Test.YtdllgfkcakhoeaaMem2
import Derived.Test.YtdllgfkcakhoeaaMix
namespace Go.Proofs.Ytdllgfkcakhoeaa
set_option linter.unusedVariables false
set_option linter.unusedSimpArgs false
set_option linter.unusedVariables false
open Go Go.RowKit
theorem st_call {w0 w w' : World} {H He : List Ent} (h : St w0 H w) (h2 : St w He w') (hN : ∀ e ∈ He, w.heap.size ≤ e.g) : St w0 (H ++ He) w' := by
  have hne : ∀ e ∈ H, ∀ d ∈ He, d.g ≠ e.g := fun e he d hd hc => by
    have h3 := (h.has e he).lt
    have h4 := hN d hd
    omega
  refine ⟨h2.os.trans h.os, h2.tape.trans h.tape, h2.output.trans h.output, Nat.le_trans h.size h2.size, ?_, ?_, ?_⟩
  · intro e he
    rcases List.mem_append.1 he with he | he
    · exact (h.has e he).of_block (h2.old _ (h.has e he).lt (hne e he))
    · exact h2.has e he
  · intro b hb hnb
    rw [h2.old b (Nat.lt_of_lt_of_le hb h.size) (fun e he => hnb e (by simp [he]))]
    exact h.old b hb (fun e he => hnb e (by simp [he]))
  · rw [List.pairwise_append]
    exact ⟨h.apart, h2.apart, fun e he d hd hc => hne e he d hd hc.symm⟩
theorem St.perm {w0 w : World} {H H' : List Ent} (h : St w0 H w) (hp : H.Perm H') : St w0 H' w :=
  ⟨h.os, h.tape, h.output, h.size, fun e he => h.has e (hp.mem_iff.2 he), fun b hb hne => h.old b hb (fun e he => hne e (hp.mem_iff.1 he)), h.apart.perm hp (fun h => h.symm)⟩
theorem St_perm {w0 : World} {H H' : List Ent} (hp : H.Perm H') : St w0 H = St w0 H' := funext fun w => propext ⟨fun h => h.perm hp, fun h => h.perm hp.symm⟩
section
variable {P : Program} {ops : Array Oper} {md : Region.Mode} {w0 : World} {HB : List Ent}
def compatQ (i j : Nat) : Bool := Nat.beq i 0 || (Nat.beq j 0 && !Nat.beq i 3) || (Nat.beq i 1 && Nat.beq j 1) || (Nat.beq i 1 && Nat.beq j 3) || (Nat.beq i 3 && Nat.beq j 3)
def pairsOK (f : Nat → Nat → Bool) : List Nat → Bool
  | [] => true
  | i :: is => is.all (f i) && pairsOK f is
theorem pairsOK_spec {f : Nat → Nat → Bool} : ∀ {is : List Nat}, pairsOK f is = true → is.Pairwise (fun i j => f i j = true)
  | [], _ => .nil
  | i :: is, h => by
    unfold pairsOK at h
    simp only [Bool.and_eq_true, List.all_eq_true] at h
    exact .cons h.1 (pairsOK_spec h.2)
/-- i may stand before j. -/
def pairOK (md : Region.Mode) (ops : Array Oper) (ks ms : List Nat) (i j : Nat) : Bool :=
  !Nat.beq i j &&
  ((ms.getD j 0).testBit i || (match ops[i]? with
    | some oi => (match ops[j]? with | some oj => oi.apart ops oj && compatQ (ks.getD i 2) (ks.getD j 2) | none => true)
    | none => true)) &&
  (match ops[i]? with | some oi => oi.after.all (fun e => !Region.binds md e || !Nat.beq e.on j) | none => true)
def mixOKp (md : Region.Mode) (ops : Array Oper) (ks p : List Nat) : Bool :=
  Region.noSelect ops && Nat.beq p.length ops.size && ((List.range ops.size).all fun q => p.any (Nat.beq q)) &&
  (let ms := masks md ops
   p.all (fun i => decide (i < ops.size) && (match ops[i]? with | some oi => oi.after.all (fun e => !Region.binds md e || (!Nat.beq e.on i && decide (e.on < ops.size))) | none => true)) &&
   pairsOK (pairOK md ops ks ms) p)
def PairP (md : Region.Mode) (ops : Array Oper) (ks : List Nat) (i j : Nat) : Prop :=
  i ≠ j ∧ (∀ oi oj, ops[i]? = some oi → ops[j]? = some oj → Before md ops j i ∨ (oi.apart ops oj = true ∧ compatQ (ks.getD i 2) (ks.getD j 2) = true)) ∧
  ∀ oi, ops[i]? = some oi → ∀ e ∈ oi.after, Region.binds md e = true → e.on ≠ j
theorem nbeq_ne {a b : Nat} (h : Nat.beq a b = false) : a ≠ b := fun e => by
  subst e
  rw [Nat.beq_refl] at h
  cases h
theorem pairOK_spec {ks : List Nat} {i j : Nat} (h : pairOK md ops ks (masks md ops) i j = true) : PairP md ops ks i j := by
  unfold pairOK at h
  simp only [Bool.and_eq_true, Bool.or_eq_true, Bool.not_eq_true'] at h
  obtain ⟨⟨h1, h2⟩, h3⟩ := h
  refine ⟨nbeq_ne h1, fun oi oj hi hj => ?_, fun oi hi e he hb => ?_⟩
  · rcases h2 with h2 | h2
    · exact .inl (masks_spec h2)
    · rw [hi, hj] at h2
      simp only [Bool.and_eq_true] at h2
      exact .inr h2
  · rw [hi] at h3
    simp only [Array.all_eq_true_iff_forall_mem, Bool.or_eq_true, Bool.not_eq_true'] at h3
    exact nbeq_ne ((h3 e he).resolve_left (by simp [hb]))
theorem mixOKp_spec {ks p : List Nat} (h : mixOKp md ops ks p = true) : Region.noSelect ops = true ∧ p.length = ops.size ∧ (∀ q, q < ops.size → q ∈ p) ∧
    (∀ i ∈ p, i < ops.size ∧ ∀ oi, ops[i]? = some oi → ∀ e ∈ oi.after, Region.binds md e = true → e.on ≠ i ∧ e.on < ops.size) ∧ p.Pairwise (PairP md ops ks) := by
  unfold mixOKp at h
  simp only [Bool.and_eq_true, List.all_eq_true, decide_eq_true_eq] at h
  obtain ⟨⟨⟨h1, h2⟩, h7⟩, h3, h4⟩ := h
  refine ⟨h1, Nat.eq_of_beq_eq_true h2, fun q hq => ?_, fun i hi => ⟨(h3 i hi).1, fun oi hoi e he hb => ?_⟩, (pairsOK_spec h4).imp pairOK_spec⟩
  · obtain ⟨r, hr, hqr⟩ := List.any_eq_true.1 (h7 q (List.mem_range.2 hq))
    rw [Nat.eq_of_beq_eq_true hqr]; exact hr
  have h5 := (h3 i hi).2
  rw [hoi] at h5
  simp only [Array.all_eq_true_iff_forall_mem, Bool.or_eq_true, Bool.and_eq_true, Bool.not_eq_true', decide_eq_true_eq] at h5
  have h6 := (h5 e he).resolve_left (by simp [hb])
  exact ⟨nbeq_ne h6.1, h6.2⟩
/-- The operations in the chosen order. -/
def pickO (l : List Oper) : List Nat → List Oper
  | [] => []
  | i :: is => match l[i]? with
    | some o => o :: pickO l is
    | none => pickO l is
def pickK (ks : List Nat) : List Nat → List Nat
  | [] => []
  | i :: is => ks.getD i 2 :: pickK ks is

def Fresh (w0 : World) (Z : List Ent) : Prop := ∀ e ∈ Z, w0.heap.size ≤ e.g
theorem Fresh.nil : Fresh w0 [] := fun e he => by cases he
theorem Fresh.cons {e : Ent} {Z : List Ent} (h : w0.heap.size ≤ e.g) (hz : Fresh w0 Z) : Fresh w0 (e :: Z) := fun d hd => by
  rcases List.mem_cons.1 hd with rfl | hd
  · exact h
  · exact hz d hd
theorem Fresh.snoc {e : Ent} {Z : List Ent} (h : w0.heap.size ≤ e.g) (hz : Fresh w0 Z) : Fresh w0 (Z ++ [e]) := fun d hd => by
  rcases List.mem_append.1 hd with hd | hd
  · exact hz d hd
  · rw [List.mem_singleton.1 hd]; exact h
/-- The operation's value, whatever else has been made: kind 0, of whatever has been made; kind 1, once X has been made. -/
def Val (P : Program) (ops : Array Oper) (w0 : World) (HB : List Ent) (k : Nat) (X : List Ent) (o : Oper) (v : Value) (a : Act) : Prop :=
  ∀ Z, Fresh w0 Z → Fixed P ops (St w0 (HB ++ (if k = 0 then Z else X ++ Z))) o v a
theorem Val.of_same {k : Nat} {X : List Ent} {o : Oper} {v : Value} {a a' : Act} (h : Val P ops w0 HB k X o v a) (he : execOp a'.eval o = execOp a.eval o)
    (hw : Region.wanted o (yielded ops a'.tmps) = Region.wanted o (yielded ops a.tmps)) : Val P ops w0 HB k X o v a' := fun Z hZ => (h Z hZ).of_same he hw
theorem Val.perm {k : Nat} {X X' : List Ent} {o : Oper} {v : Value} {a : Act} (h : Val P ops w0 HB k X o v a) (hp : X.Perm X') : Val P ops w0 HB k X' o v a := fun Z hZ => by
  have := h Z hZ
  by_cases hk : k = 0
  · rw [if_pos hk] at this ⊢; exact this
  · rw [if_neg hk] at this ⊢
    rw [St_perm (H' := HB ++ (X ++ Z)) (List.Perm.append_left HB (List.Perm.append_right Z hp.symm))]
    exact this
theorem Val.more {k : Nat} {X : List Ent} {e : Ent} {o : Oper} {v : Value} {a : Act} (h : Val P ops w0 HB k X o v a) (he : w0.heap.size ≤ e.g) : Val P ops w0 HB k (X ++ [e]) o v a := fun Z hZ => by
  by_cases hk : k = 0
  · have := h Z hZ
    rw [if_pos hk] at this ⊢; exact this
  · have := h (e :: Z) (Fresh.cons he hZ)
    rw [if_neg hk] at this ⊢
    rw [List.append_assoc]
    exact this
theorem Val.now {k : Nat} {X : List Ent} {o : Oper} {v : Value} {a : Act} (h : Val P ops w0 HB k X o v a) (hX : Fresh w0 X) : Fixed P ops (St w0 (HB ++ X)) o v a := by
  by_cases hk : k = 0
  · have := h X hX
    rw [if_pos hk] at this; exact this
  · have := h [] Fresh.nil
    rw [if_neg hk, List.append_nil] at this; exact this
/-- The operation makes one block. -/
def Makes (P : Program) (ops : Array Oper) (o : Oper) (a : Act) (R : Value → Ent → Prop) (w : World) : Prop :=
  ((∃ v E w', (execOp a.eval o).run P w = .ok (.value v) w' ∧ R v E ∧ w.heap.size ≤ E.g ∧ St w [E] w') ∨
    (∃ f vs, (execOp a.eval o).run P w = .ok (.enter f vs) w ∧ Calls P f vs w fun e w'' => ∃ v E, e = .returned v ∧ R v E ∧ w.heap.size ≤ E.g ∧ St w [E] w'')) ∧ Region.wanted o (yielded ops a.tmps) = true
theorem Makes.of_same {o : Oper} {a a' : Act} {w : World} {R : Value → Ent → Prop} (h : Makes P ops o a R w) (he : execOp a'.eval o = execOp a.eval o)
    (hw : Region.wanted o (yielded ops a'.tmps) = Region.wanted o (yielded ops a.tmps)) : Makes P ops o a' R w := by
  unfold Makes at *; rw [he, hw]; exact h
theorem Makes.one {o : Oper} {a : Act} {w : World} {R : Value → Ent → Prop} (h : Makes P ops o a R w) : ∃ v E, R v E ∧ w.heap.size ≤ E.g := by
  rcases h.1 with ⟨v, E, w', _, h1, h2, _⟩ | ⟨f, vs, _, hc⟩
  · exact ⟨v, E, h1, h2⟩
  · obtain ⟨e, w', fr, ⟨v, E, _, h1, h2, _⟩, _⟩ := hc []
    exact ⟨v, E, h1, h2⟩
def MixQ (P : Program) (ops : Array Oper) (w0 : World) (HB : List Ent) (K : Nat → Nat) (RR : Nat → Value → Ent → Prop) (T : Act → World → Prop) : List Nat → Act → List Ent → Prop
  | [], a, X => ∀ w, St w0 (HB ++ X) w → T a w
  | i :: is, a, X => ∃ o, ops[i]? = some o ∧ ((K i ≠ 3 ∧ ∃ v, Val P ops w0 HB (K i) X o v a ∧ MixQ P ops w0 HB K RR T is (a.put o.dst v) X) ∨
      (K i = 3 ∧ (∀ Z w, Fresh w0 Z → St w0 (HB ++ Z) w → Makes P ops o a (RR i) w) ∧ ∀ v E, w0.heap.size ≤ E.g → RR i v E → MixQ P ops w0 HB K RR T is (a.put o.dst v) (X ++ [E])))
theorem MixQ.perm {K : Nat → Nat} {RR : Nat → Value → Ent → Prop} {T : Act → World → Prop} : ∀ (is : List Nat) (a : Act) (X X' : List Ent), X.Perm X' → MixQ P ops w0 HB K RR T is a X → MixQ P ops w0 HB K RR T is a X'
  | [], a, X, X', hp, h => fun w hs => h w (hs.perm (List.Perm.append_left HB hp.symm))
  | i :: is, a, X, X', hp, h => by
    obtain ⟨o, ho, h⟩ := h
    refine ⟨o, ho, ?_⟩
    rcases h with ⟨h1, v, h2, h3⟩ | ⟨h1, h2, h3⟩
    · exact .inl ⟨h1, v, h2.perm hp, MixQ.perm is _ X X' hp h3⟩
    · exact .inr ⟨h1, h2, fun v E hE hR => MixQ.perm is _ _ _ (List.Perm.append_right [E] hp) (h3 v E hE hR)⟩
theorem compatQ_3 {i : Nat} (h : compatQ i 3 = true) : i = 0 ∨ i = 1 ∨ i = 3 := by
  unfold compatQ at h
  simp at h
  omega
theorem compatQ_n {i j : Nat} (h : compatQ i j = true) (hj : j ≠ 3) : i ≠ 3 := by
  intro hi
  subst hi
  unfold compatQ at h
  simp at h
  exact hj h
theorem MixQ.first {K : Nat → Nat} {RR : Nat → Value → Ent → Prop} {T : Act → World → Prop} (hsel : ∀ (j : Nat) (o : Oper) cs b, ops[j]? = some o → o.op ≠ .select cs b) {j : Nat} {oj : Oper} (hj : ops[j]? = some oj) (hj3 : K j ≠ 3) (post : List Nat) :
    ∀ (pre : List Nat) (a : Act) (X : List Ent), (∀ i oi, i ∈ pre → ops[i]? = some oi → oi.apart ops oj = true ∧ compatQ (K i) (K j) = true) → MixQ P ops w0 HB K RR T (pre ++ j :: post) a X →
      ∃ vj, Val P ops w0 HB (K j) X oj vj a ∧ MixQ P ops w0 HB K RR T (pre ++ post) (a.put oj.dst vj) X
  | [], a, X, _, h => by
    obtain ⟨o, ho, h⟩ := h
    rw [hj] at ho; cases ho
    obtain ⟨_, v, hf, hs⟩ := h.resolve_right (fun h => hj3 h.1)
    exact ⟨v, hf, hs⟩
  | i :: pre, a, X, hap, h => by
    obtain ⟨oi, hi, h⟩ := h
    obtain ⟨hap1, hcomp⟩ := hap i oi List.mem_cons_self hi
    have hi3 : K i ≠ 3 := compatQ_n hcomp hj3
    obtain ⟨_, vi, hf, hs⟩ := h.resolve_right (fun h => hi3 h.1)
    obtain ⟨vj, hfj, hsj⟩ := MixQ.first hsel hj hj3 post pre (a.put oi.dst vi) X (fun k ok hk => hap k ok (List.mem_cons_of_mem _ hk)) hs
    obtain ⟨h1, h2, h3⟩ := Oper.apart_spec hap1
    have ej := execOp_put oj (fun cs b => hsel j oj cs b hj) a oi.dst vi h1
    have wj := wanted_put oj a oi.dst vi h1
    have ei := execOp_put oi (fun cs b => hsel i oi cs b hi) a oj.dst vj h3
    have wi := wanted_put oi a oj.dst vj h3
    have hcm := Act.put_comm a vi vj h2
    exact ⟨vj, hfj.of_same ej.symm wj.symm, oi, hi, .inl ⟨hi3, vi, hf.of_same ei wi, by rw [← hcm]; exact hsj⟩⟩
theorem MixQ.first3 {K : Nat → Nat} {RR : Nat → Value → Ent → Prop} {T : Act → World → Prop} (hsel : ∀ (j : Nat) (o : Oper) cs b, ops[j]? = some o → o.op ≠ .select cs b) {j : Nat} {oj : Oper} (hj : ops[j]? = some oj) (hj3 : K j = 3) (post : List Nat) :
    ∀ (pre : List Nat) (a : Act) (X : List Ent), (∀ i oi, i ∈ pre → ops[i]? = some oi → oi.apart ops oj = true ∧ compatQ (K i) (K j) = true) → MixQ P ops w0 HB K RR T (pre ++ j :: post) a X →
      (∀ Z w, Fresh w0 Z → St w0 (HB ++ Z) w → Makes P ops oj a (RR j) w) ∧ ∀ v E, w0.heap.size ≤ E.g → RR j v E → MixQ P ops w0 HB K RR T (pre ++ post) (a.put oj.dst v) (X ++ [E])
  | [], a, X, _, h => by
    obtain ⟨o, ho, h⟩ := h
    rw [hj] at ho; cases ho
    exact (h.resolve_left (fun h => h.1 hj3)).2
  | i :: pre, a, X, hap, h => by
    obtain ⟨oi, hi, h⟩ := h
    obtain ⟨hap1, hcomp⟩ := hap i oi List.mem_cons_self hi
    obtain ⟨h1, h2, h3⟩ := Oper.apart_spec hap1
    rw [hj3] at hcomp
    rcases h with ⟨hi3, vi, hf, hs⟩ | ⟨hi3, hm, hs⟩
    · obtain ⟨hmj, hsj⟩ := MixQ.first3 hsel hj hj3 post pre (a.put oi.dst vi) X (fun k ok hk => hap k ok (List.mem_cons_of_mem _ hk)) hs
      have ej := execOp_put oj (fun cs b => hsel j oj cs b hj) a oi.dst vi h1
      have wj := wanted_put oj a oi.dst vi h1
      refine ⟨fun Z w hZ hw => (hmj Z w hZ hw).of_same ej.symm wj.symm, fun v E hE hR => ⟨oi, hi, .inl ⟨hi3, vi, ?_, ?_⟩⟩⟩
      · exact (hf.of_same (execOp_put oi (fun cs b => hsel i oi cs b hi) a oj.dst v h3) (wanted_put oi a oj.dst v h3)).more hE
      · rw [← Act.put_comm a vi v h2]; exact hsj v E hE hR
    · have rec_ := fun vi Ei hEi hRi => MixQ.first3 hsel hj hj3 post pre (a.put oi.dst vi) (X ++ [Ei]) (fun k ok hk => hap k ok (List.mem_cons_of_mem _ hk)) (hs vi Ei hEi hRi)
      refine ⟨fun Z w hZ hw => ?_, fun v E hE hR => ⟨oi, hi, .inr ⟨hi3, fun Z w hZ hw => ?_, fun vi Ei hEi hRi => ?_⟩⟩⟩
      · obtain ⟨vi, Ei, hRi, hEi⟩ := (hm Z w hZ hw).one
        have hEi' : w0.heap.size ≤ Ei.g := Nat.le_trans hw.size hEi
        exact ((rec_ vi Ei hEi' hRi).1 Z w hZ hw).of_same (execOp_put oj (fun cs b => hsel j oj cs b hj) a oi.dst vi h1).symm (wanted_put oj a oi.dst vi h1).symm
      · exact (hm Z w hZ hw).of_same (execOp_put oi (fun cs b => hsel i oi cs b hi) a oj.dst v h3) (wanted_put oi a oj.dst v h3)
      · have := (rec_ vi Ei hEi hRi).2 v E hE hR
        rw [Act.put_comm a vi v h2] at this
        refine MixQ.perm _ _ _ _ ?_ this
        rw [List.append_assoc, List.append_assoc]
        exact List.Perm.append_left X (List.Perm.swap E Ei [])
theorem wpAny_of_mixQ {Q : Exit → Act → World → Prop} {RR : Nat → Value → Ent → Prop} {ks p : List Nat} (hns : Region.noSelect ops = true) (hself : ∀ i ∈ p, i < ops.size ∧ ∀ oi, ops[i]? = some oi → ∀ e ∈ oi.after, Region.binds md e = true → e.on ≠ i ∧ e.on < ops.size) :
    ∀ (n : Nat) (is : List Nat) (listed : Array Bool) (a : Act) (w : World) (X : List Ent), is.length = n → is.Pairwise (PairP md ops ks) → (∀ i ∈ is, i ∈ p) → Lists ops.size md ops is listed → MixQ P ops w0 HB (ks.getD · 2) RR (Q .normal) is a X → Fresh w0 X → St w0 (HB ++ X) w →
      wpAny P md ops Q n listed a w := by
  have hsel := Region.noSelect_spec hns
  intro n
  induction n with
  | zero =>
    intro is listed a w X hlen _ _ hl hs hX hS
    obtain rfl : is = [] := List.length_eq_zero_iff.1 hlen
    refine wpAny_done ?_ (hs w hS) 0
    rw [List.eq_nil_iff_forall_not_mem]
    intro j hj
    obtain ⟨hjun, oj, hoj, _⟩ := mem_ready.1 hj
    have hjs : j < ops.size := (Array.getElem?_eq_some_iff.1 hoj).1
    have := (hl.2.1 j hjs).1 hjun
    simp at this
    omega
  | succ n ih =>
    intro is listed a w X hlen hpw hlt hl hs hX hS
    have hnd : is.Nodup := hpw.imp (fun h => h.1)
    refine ⟨fun hnone => ?_, fun j hj => ?_⟩
    · exfalso
      obtain ⟨i, is', rfl⟩ : ∃ i is', is = i :: is' := by
        cases is with
        | nil => simp at hlen
        | cons i is' => exact ⟨i, is', rfl⟩
      obtain ⟨him, hafter⟩ := hself i (hlt i List.mem_cons_self)
      have hi : ops[i]? = some ops[i] := Array.getElem?_eq_getElem him
      have hmem : i ∈ Region.ready md ops listed := by
        rw [mem_ready]
        refine ⟨(hl.2.1 i him).2 (.inl List.mem_cons_self), _, hi, fun e he hb => ?_⟩
        obtain ⟨hne, hon⟩ := hafter _ hi e he hb
        rw [getD_false_of (by rw [hl.1]; exact hon), hl.2.1 e.on hon]
        rintro (h | h)
        · rcases List.mem_cons.1 h with h | h
          · exact hne h
          · exact ((List.pairwise_cons.1 hpw).1 _ h).2.2 _ hi e he hb rfl
        · omega
      rw [hnone] at hmem
      cases hmem
    · obtain ⟨hjun, oj, hoj, hall⟩ := mem_ready.1 hj
      have hjs : j < ops.size := (Array.getElem?_eq_some_iff.1 hoj).1
      have hnw : ∀ i ∈ is, ¬ Before md ops j i := fun i hi hw => by
        have h1 := hw listed hl.2.2 (fun o ho' e he hb => by rw [hoj] at ho'; cases ho'; exact hall e he hb)
        have him := (hself i (hlt i hi)).1
        exact (getD_false_of (by rw [hl.1]; omega)).1 h1 ((hl.2.1 i him).2 (.inl hi))
      have hjin : j ∈ is := by
        rcases (hl.2.1 j hjs).1 hjun with h | h
        · exact h
        · omega
      obtain ⟨pre, post, rfl⟩ := List.append_of_mem hjin
      have hap : ∀ i oi, i ∈ pre → ops[i]? = some oi → oi.apart ops oj = true ∧ compatQ (ks.getD i 2) (ks.getD j 2) = true := fun i oi hi hoi => by
        have hij := (List.pairwise_append.1 hpw).2.2 i hi j List.mem_cons_self
        rcases hij.2.1 oi oj hoi hoj with hw | hap
        · exact absurd hw (hnw i (by simp [hi]))
        · exact hap
      have hsub : (pre ++ post).Sublist (pre ++ j :: post) := List.Sublist.append_left (List.sublist_cons_self _ _) _
      by_cases hk3 : ks.getD j 2 = 3
      · obtain ⟨hf, hs'⟩ := MixQ.first3 (K := (ks.getD · 2)) hsel hoj hk3 post pre a X hap hs
        obtain ⟨hr, hw⟩ := hf X w hX hS
        unfold Go.wpOp
        simp only [hoj, hw, if_true, Oper.wp]
        refine .inl ?_
        have go : ∀ v E w', RR j v E → w.heap.size ≤ E.g → St w [E] w' → wpAny P md ops Q n (listed.setIfInBounds j true) (a.put oj.dst v) w' := fun v E w' hR hE hw' =>
          ih (pre ++ post) _ _ w' (X ++ [E]) (by simp at hlen ⊢; omega) (hpw.sublist hsub) (fun i hi => hlt i (hsub.subset hi)) (hl.next rfl hnd hjs (Nat.le_refl _) hj) (hs' v E (Nat.le_trans hS.size hE) hR) (Fresh.snoc (Nat.le_trans hS.size hE) hX)
            (by rw [← List.append_assoc]; exact st_call hS hw' (fun d hd => by rw [List.mem_singleton.1 hd]; exact hE))
        rcases hr with ⟨v, E, w', hr, hR, hE, hw'⟩ | ⟨f, vs, hr, hc⟩
        · rw [hr]; exact go v E w' hR hE hw'
        · rw [hr]
          refine hc.mono ?_
          rintro e w'' ⟨v, E, rfl, hR, hE, hw'⟩
          exact go v E w'' hR hE hw'
      · obtain ⟨vj, hf, hs'⟩ := MixQ.first (K := (ks.getD · 2)) hsel hoj hk3 post pre a X hap hs
        refine (hf.now hX).wpOp hoj hS fun w' hS' => ?_
        exact ih (pre ++ post) _ _ w' X (by simp at hlen ⊢; omega) (hpw.sublist hsub) (fun i hi => hlt i (hsub.subset hi)) (hl.next rfl hnd hjs (Nat.le_refl _) hj) hs' hX hS'
def pickR (rs : List (Value → Ent → Prop)) : List Nat → List (Value → Ent → Prop)
  | [] => []
  | i :: is => rs.getD i (fun _ _ => False) :: pickR rs is
def MixMQ (P : Program) (ops : Array Oper) (w0 : World) (HB : List Ent) (T : Act → World → Prop) : List Nat → List (Value → Ent → Prop) → List Oper → Act → List Ent → Prop
  | [], [], [], a, X => ∀ w, St w0 (HB ++ X) w → T a w
  | k :: ks, r :: rs, o :: rest, a, X => (k ≠ 3 ∧ ∃ v, Val P ops w0 HB k X o v a ∧ MixMQ P ops w0 HB T ks rs rest (a.put o.dst v) X) ∨
      (k = 3 ∧ (∀ Z w, Fresh w0 Z → St w0 (HB ++ Z) w → Makes P ops o a r w) ∧ ∀ v E, w0.heap.size ≤ E.g → r v E → MixMQ P ops w0 HB T ks rs rest (a.put o.dst v) (X ++ [E]))
  | _, _, _, _, _ => False
theorem MixMQ.seqp {T : Act → World → Prop} {l : List Oper} {ks : List Nat} {rs : List (Value → Ent → Prop)} : ∀ (p : List Nat) (a : Act) (X : List Ent), (∀ i ∈ p, i < l.length) → MixMQ P l.toArray w0 HB T (pickK ks p) (pickR rs p) (pickO l p) a X →
    MixQ P l.toArray w0 HB (ks.getD · 2) (rs.getD · (fun _ _ => False)) T p a X
  | [], _, _, _, h => h
  | i :: is, a, X, hp, h => by
    have hlt := hp i List.mem_cons_self
    have hi : l[i]? = some l[i] := List.getElem?_eq_getElem hlt
    unfold pickO pickK pickR at h
    rw [hi] at h
    have rec_ : ∀ a X, MixMQ P l.toArray w0 HB T (pickK ks is) (pickR rs is) (pickO l is) a X → MixQ P l.toArray w0 HB (ks.getD · 2) (rs.getD · (fun _ _ => False)) T is a X := fun a X h => MixMQ.seqp is a X (fun j hj => hp j (List.mem_cons_of_mem _ hj)) h
    refine ⟨l[i], by rw [List.getElem?_toArray]; exact hi, ?_⟩
    rcases h with ⟨h1, v, h2, h3⟩ | ⟨h1, h2, h3⟩
    · exact .inl ⟨h1, v, h2, rec_ _ _ h3⟩
    · exact .inr ⟨h1, h2, fun v E hE hR => rec_ _ _ (h3 v E hE hR)⟩
theorem wp_mixQ {md0 : Md} {Q : Exit → Act → World → Prop} {id : Nat} {l : List Oper} {a : Act} {w : World} (hmix : P.follows .mixedOrders = true) (ks p : List Nat) (rs : List (Value → Ent → Prop)) (ho : mixOKp .any l.toArray ks p = true)
    (hS : St w0 HB w.drew) (h : MixMQ P l.toArray w0 HB (Q .normal) (pickK ks p) (pickR rs p) (pickO l p) a []) (hok : OkR md0 l.toArray Q) : wpn md0 P (Code.region id l.toArray true) Q a w := by
  refine wpnFrom_start hok hmix ?_
  intro listed hl
  have hsz : l.toArray.size = l.length := by simp
  obtain ⟨hns, hlen, hall, hself, hpw⟩ := mixOKp_spec ho
  have := wpAny_of_mixQ (P := P) (Q := Q) (ks := ks) hns hself l.length p listed a w.drew [] (hlen.trans hsz) hpw (fun i hi => hi)
    ⟨hl.1, fun q hq => by
      rw [hl.2.1 q hq]
      have := hall q hq
      simp [this], hl.2.2⟩ (MixMQ.seqp p a [] (fun i hi => by rw [← hsz]; exact (hself i hi).1) h) Fresh.nil (by rw [List.append_nil]; exact hS)
  rw [hsz, Nat.sub_zero]
  exact this
end
section
variable {P : Program} {ops : Array Oper} {Q : Exit → Act → World → Prop} {n : Sz} {w0 : World} {L L' : List (Nat × Value)} {HB X : List Ent}
variable {o : Oper} {rest : List Oper} {v u : Value} {x y z : Operand} {k m j : Nat} {t t' e : TypeId} {ks : List Nat} {kd : IntKind} {r : Value → Ent → Prop} {rs : List (Value → Ent → Prop)}
def TQ (P : Program) (ops : Array Oper) (Q : Exit → Act → World → Prop) (n : Sz) (w0 : World) (HB : List Ent) (ks : List Nat) (rs : List (Value → Ent → Prop)) (rest : List Oper) (L : List (Nat × Value)) (X : List Ent) : Prop :=
  ∀ a, Fr n L a → MixMQ P ops w0 HB (Q .normal) ks rs rest a X
theorem TC.mixQ {id : Nat} {l : List Oper} (hmix : P.follows .mixedOrders = true) (ks p : List Nat) (rs : List (Value → Ent → Prop)) (ho : mixOKp .any l.toArray ks p = true) (h : TQ P l.toArray Q n w0 HB (pickK ks p) (pickR rs p) (pickO l p) L []) (hok : OkR n.md l.toArray Q := by exact trivial) : TC P Q n w0 (.region id l.toArray true) L HB :=
  fun a w hf hs => wp_mixQ hmix ks p rs ho hs.drew (h a hf) hok
theorem TQ.nil (h : TE Q .normal n w0 L (HB ++ X)) : TQ P ops Q n w0 HB [] [] [] L X := fun a hf w hs => h a w hf hs
theorem TQ.free (hg : Wants n ops L o) (hi : inside n o.dst = true) (h : ∀ w0, Gets P n w0 o L [] v) (hr : TQ P ops Q n w0 HB ks rs rest (put L o.dst v) X) : TQ P ops Q n w0 HB (0 :: ks) (r :: rs) (o :: rest) L X :=
  fun a hf => .inl ⟨by decide, v, fun Z _ => .inl ⟨hg a hf, fun w hS => by rw [h w a w hf (St.refl w)]; exact ⟨rfl, hS⟩⟩, hr _ (hf.put o.dst v hi)⟩
theorem TQ.stay (hg : Wants n ops L o) (hi : inside n o.dst = true) (h : ∀ Z, Fresh w0 Z → Gets P n w0 o L (HB ++ Z) v) (hr : TQ P ops Q n w0 HB ks rs rest (put L o.dst v) X) : TQ P ops Q n w0 HB (0 :: ks) (r :: rs) (o :: rest) L X :=
  fun a hf => .inl ⟨by decide, v, fun Z hZ => .inl ⟨hg a hf, fun w hS => by rw [if_pos rfl] at hS ⊢; rw [h Z hZ a w hf hS]; exact ⟨rfl, hS⟩⟩, hr _ (hf.put o.dst v hi)⟩
theorem TQ.pass {j d : Nat} {b c : Bool} (h : o.guard = some (j, c)) (hj : (ops[j]?).bind (·.dst) = some d) (hd : look L d = some (.bool b)) (hi : inside n o.dst = true) (hb : b = !c) (hr : TQ P ops Q n w0 HB ks rs rest (put L o.dst undef) X) : TQ P ops Q n w0 HB (0 :: ks) (r :: rs) (o :: rest) L X :=
  fun a hf => .inl ⟨by decide, undef, fun Z _ => .inr ⟨by subst hb; simp [Region.wanted, h, guard_val hf hj hd], rfl⟩, hr _ (hf.put o.dst undef hi)⟩
theorem TQ.gets (hg : Wants n ops L o) (hi : inside n o.dst = true) (h : ∀ Z, Fresh w0 Z → Gets P n w0 o L (HB ++ (X ++ Z)) v) (hr : TQ P ops Q n w0 HB ks rs rest (put L o.dst v) X) : TQ P ops Q n w0 HB (1 :: ks) (r :: rs) (o :: rest) L X :=
  fun a hf => .inl ⟨by decide, v, fun Z hZ => .inl ⟨hg a hf, fun w hS => by rw [if_neg (by decide)] at hS ⊢; rw [h Z hZ a w hf hS]; exact ⟨rfl, hS⟩⟩, hr _ (hf.put o.dst v hi)⟩
/-- A call that ends with one value and leaves all known blocks. -/
theorem TQ.call0 {f : FuncId} {xs : List Operand} {ts : Array TypeId} {vs : List Value} (hg : Wants n ops L o) (hi : inside n o.dst = true) (h : Enters P f)
    (ho : o.op = .call { callee := .value (.func f), args := xs.toArray, argTypes := ts }) (hx : evs L xs = some vs)
    (hc : ∀ Z w, Fresh w0 Z → St w0 (HB ++ (X ++ Z)) w → Calls P f vs.toArray w fun e w' => e = .returned v ∧ St w [] w')
    (hr : TQ P ops Q n w0 HB ks rs rest (put L o.dst v) X) : TQ P ops Q n w0 HB (1 :: ks) (r :: rs) (o :: rest) L X :=
  fun a hf => .inl ⟨by decide, v, fun Z hZ => .inl ⟨hg a hf, fun w hS => by
    rw [if_neg (by decide)] at hS
    rw [run_enter h ho hf hx]
    exact (hc Z w hZ hS).mono fun e w' ⟨he, hw⟩ => ⟨he, by rw [if_neg (by decide)]; exact hS.call' hw⟩⟩, hr _ (hf.put o.dst v hi)⟩
/-- A call that makes one block. -/
theorem TQ.call {ι : Type} {f : FuncId} {xs : List Operand} {ts : Array TypeId} {vs : List Value} {V : ι → Value} {R : ι → Prop} {E : ι → Ent} (hg : Wants n ops L o) (hi : inside n o.dst = true) (h : Enters P f)
    (ho : o.op = .call { callee := .value (.func f), args := xs.toArray, argTypes := ts }) (hx : evs L xs = some vs)
    (hc : ∀ Z w, Fresh w0 Z → St w0 (HB ++ Z) w → Calls P f vs.toArray w fun e w' => ∃ i, e = .returned (V i) ∧ R i ∧ w.heap.size ≤ (E i).g ∧ St w [E i] w')
    (hr : ∀ i, R i → w0.heap.size ≤ (E i).g → TQ P ops Q n w0 HB ks rs rest (put L o.dst (V i)) (X ++ [E i])) : TQ P ops Q n w0 HB (3 :: ks) ((fun v e => ∃ i, R i ∧ v = V i ∧ e = E i) :: rs) (o :: rest) L X :=
  fun a hf => .inr ⟨rfl, fun Z w hZ hs => ⟨.inr ⟨f, vs.toArray, run_enter h ho hf hx, (hc Z w hZ hs).mono fun e w' ⟨i, he, hR, hE, hs'⟩ => ⟨V i, E i, he, ⟨i, hR, rfl, rfl⟩, hE, hs'⟩⟩, hg a hf⟩,
    fun v e hE ⟨i, hR, h1, h2⟩ => by subst h1; subst h2; exact hr i hR hE _ (hf.put o.dst _ hi)⟩
/-- A slice of known values, made anew. -/
theorem TQ.buildSlice {len s : Nat} {ps : List (Nat × Operand)} {vs : List (Nat × Value)} {cells : Array Value} {cs : List Value} {zv : Value} (hg : Wants n ops L o) (hi : inside n o.dst = true) (ho : o.op = .buildSlice t len ps.toArray)
    (h1 : P.underlying t = some (.slice e)) (hsz : (P.info? e).map (·.size) = some s) (hz : (P.info? e).bind (·.zero) = some zv) (hv : operVals L ps = some vs) (hlen : len * s ≤ 2 ^ 24) (hpos : (len * s = 0) = False)
    {tot : Nat} (hfill : Instr.fill (fun i => some (i * s, s)) ((Array.range (len * s)).map (zv.cells[· % zv.cells.size]!)) vs = some cells) (hcs : cells.toList = cs) (htot : cs.length = tot)
    (hr : ∀ g, w0.heap.size ≤ g → TQ P ops Q n w0 HB ks rs rest (put L o.dst (.slice (some ⟨g, 0, none⟩) len len)) (X ++ [⟨g, e, cs, tot⟩])) :
    TQ P ops Q n w0 HB (3 :: ks) ((fun v d => ∃ g, v = .slice (some ⟨g, 0, none⟩) len len ∧ d = ⟨g, e, cs, tot⟩) :: rs) (o :: rest) L X :=
  fun a hf => .inr ⟨rfl, fun Z w hZ hs => by
    have hrun : (execOp a.eval o).run P w = .ok (.value (.slice (some ⟨w.heap.size, 0, none⟩) len len)) (w.alloc (.cells cells e)) := by
      have hm := operVals_eval hf hv
      have hm2 : (ps.map fun (x : Nat × Operand) => match x with | (i, x) => (i, a.eval x)) = vs := hm
      simp only [execOp, ho]
      refine run_value ?_
      simp only [Instr.buildSlice, Sem.run_bind, run_under h1, Result.andThen_ok, run_size hsz, List.map_toArray, hm2]
      rw [if_neg (by omega), if_neg (by simp [hpos])]
      simp only [Sem.run_bind, run_zero hz, Result.andThen_ok, Sem.run_pure, hfill]
      simp [newRow, newObj, Sem.run_bind, Sem.run]
    subst htot
    exact ⟨.inl ⟨_, _, _, hrun, ⟨_, rfl, rfl⟩, Nat.le_refl _, (St.refl w).alloc e cs cells hcs⟩, hg a hf⟩,
    fun v d hE ⟨g, h2, h3⟩ => by subst h2; subst h3; exact hr g hE _ (hf.put o.dst _ hi)⟩
end
end Go.Proofs.Ytdllgfkcakhoeaa
