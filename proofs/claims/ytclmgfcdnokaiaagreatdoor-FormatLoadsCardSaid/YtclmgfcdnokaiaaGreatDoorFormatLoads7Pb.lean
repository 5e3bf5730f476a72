/-
 Contract of package sha: Write.
-/
import Derived.Test.YtclmgfcdnokaiaaGreatDoorFormatLoads7Pa
import Derived.Test.YtclmgfcdnokaiaaGreatDoorProg
import Derived.RangeFuncNested
import Derived.RangeFuncLeaves
import Derived.Below
/-
 A region that draws its order, with operations that make memory and others that read what stays as it is all along.
-/
namespace Go.Proofs.YtclmgfcdnokaiaaGreatDoor
set_option maxRecDepth 100000
set_option maxHeartbeats 2000000
open Go.Value (int slice)
set_option linter.unusedVariables false
set_option linter.unusedSimpArgs false
open Go Go.RowKit
section
variable {P : Program} {ops : Array Oper} {md : Region.Mode}
def compatB (i j : Nat) : Bool := (compat3 i j && !Nat.beq i 7 && !Nat.beq j 7 && !Nat.beq i 8 && !Nat.beq j 8) || (Nat.beq i 0 && Nat.beq j 8)
def pairsOK9 (f : Nat → Nat → Bool) : List Nat → Bool
 | [] => true
 | i :: is => is.all (f i) && pairsOK9 f is
theorem pairsOK_spec9 {f : Nat → Nat → Bool} : ∀ {is : List Nat}, pairsOK9 f is = true → is.Pairwise (fun i j => f i j = true)
 | [], _ => .nil
 | i :: is, h => by
  unfold pairsOK9 at h
  simp only [Bool.and_eq_true, List.all_eq_true] at h
  exact .cons h.1 (pairsOK_spec9 h.2)
def pairOK9 (md : Region.Mode) (ops : Array Oper) (ks ms : List Nat) (i j : Nat) : Bool :=
 !Nat.beq i j &&
 ((ms.getD j 0).testBit i || (match ops[i]? with
  | some oi => (match ops[j]? with | some oj => oi.apart ops oj && compatB (ks.getD i 2) (ks.getD j 2) | none => true)
  | none => true)) &&
 (match ops[i]? with | some oi => oi.after.all (fun e => !Region.binds md e || !Nat.beq e.on j) | none => true)
def mixOKp9 (md : Region.Mode) (ops : Array Oper) (ks p : List Nat) : Bool :=
 Region.noSelect ops && Nat.beq p.length ops.size && ((List.range ops.size).all fun q => p.any (Nat.beq q)) &&
 (let ms := masks md ops
  p.all (fun i => decide (i < ops.size) && (match ops[i]? with | some oi => oi.after.all (fun e => !Region.binds md e || (!Nat.beq e.on i && decide (e.on < ops.size))) | none => true)) &&
  pairsOK9 (pairOK9 md ops ks ms) p)
def PairP9 (md : Region.Mode) (ops : Array Oper) (ks : List Nat) (i j : Nat) : Prop :=
 i ≠ j ∧ (∀ oi oj, ops[i]? = some oi → ops[j]? = some oj → Before md ops j i ∨ (oi.apart ops oj = true ∧ compatB (ks.getD i 2) (ks.getD j 2) = true)) ∧
 ∀ oi, ops[i]? = some oi → ∀ e ∈ oi.after, Region.binds md e = true → e.on ≠ j
theorem nbeq_ne9 {a b : Nat} (h : Nat.beq a b = false) : a ≠ b := fun e => by
 subst e
 rw [Nat.beq_refl] at h
 cases h
theorem pairOK_spec9 {ks : List Nat} {i j : Nat} (h : pairOK9 md ops ks (masks md ops) i j = true) : PairP9 md ops ks i j := by
 unfold pairOK9 at h
 simp only [Bool.and_eq_true, Bool.or_eq_true, Bool.not_eq_true'] at h
 obtain ⟨⟨h1, h2⟩, h3⟩ := h
 refine ⟨nbeq_ne9 h1, fun oi oj hi hj => ?_, fun oi hi e he hb => ?_⟩
 ·rcases h2 with h2 | h2
  ·exact .inl (masks_spec h2)
  ·rw [hi, hj] at h2
   simp only [Bool.and_eq_true] at h2
   exact .inr h2
 ·rw [hi] at h3
  simp only [Array.all_eq_true_iff_forall_mem, Bool.or_eq_true, Bool.not_eq_true'] at h3
  exact nbeq_ne9 ((h3 e he).resolve_left (by simp [hb]))
theorem mixOKp_spec9 {ks p : List Nat} (h : mixOKp9 md ops ks p = true) : Region.noSelect ops = true ∧ p.length = ops.size ∧ (∀ q, q < ops.size → q ∈ p) ∧
  (∀ i ∈ p, i < ops.size ∧ ∀ oi, ops[i]? = some oi → ∀ e ∈ oi.after, Region.binds md e = true → e.on ≠ i ∧ e.on < ops.size) ∧ p.Pairwise (PairP9 md ops ks) := by
 unfold mixOKp9 at h
 simp only [Bool.and_eq_true, List.all_eq_true, decide_eq_true_eq] at h
 obtain ⟨⟨⟨h1, h2⟩, h7⟩, h3, h4⟩ := h
 refine ⟨h1, Nat.eq_of_beq_eq_true h2, fun q hq => ?_, fun i hi => ⟨(h3 i hi).1, fun oi hoi e he hb => ?_⟩, (pairsOK_spec9 h4).imp pairOK_spec9⟩
 ·obtain ⟨r, hr, hqr⟩ := List.any_eq_true.1 (h7 q (List.mem_range.2 hq))
  rw [Nat.eq_of_beq_eq_true hqr]; exact hr
 have h5 := (h3 i hi).2
 rw [hoi] at h5
 simp only [Array.all_eq_true_iff_forall_mem, Bool.or_eq_true, Bool.and_eq_true, Bool.not_eq_true', decide_eq_true_eq] at h5
 have h6 := (h5 e he).resolve_left (by simp [hb])
 exact ⟨nbeq_ne9 h6.1, h6.2⟩
def pickO9 (l : List Oper) : List Nat → List Oper
 | [] => []
 | i :: is => match l[i]? with
  | some o => o :: pickO9 l is
  | none => pickO9 l is
def pickK9 (ks : List Nat) : List Nat → List Nat
 | [] => []
 | i :: is => ks.getD i 2 :: pickK9 ks is
def StepB (P : Program) (ops : Array Oper) (B : World → Prop) (kind : Nat) (o : Oper) (v : Value) (a : Act) (S S' : World → Prop) : Prop :=
 match kind with
 | 0 => (∀ S0, (∀ w, S0 w → B w) → Fixed P ops S0 o v a) ∧ S' = S
 | _ => Fixed P ops S o v a ∧ S' = S
theorem StepB.of_same {B : World → Prop} {kind : Nat} {o : Oper} {v : Value} {a a' : Act} {S S' : World → Prop} (h : StepB P ops B kind o v a S S') (he : execOp a'.eval o = execOp a.eval o)
  (hw : Region.wanted o (yielded ops a'.tmps) = Region.wanted o (yielded ops a.tmps)) : StepB P ops B kind o v a' S S' := by
 unfold StepB at *
 split at h
 ·exact ⟨fun S0 h0 => (h.1 S0 h0).of_same he hw, h.2⟩
 ·exact ⟨h.1.of_same he hw, h.2⟩
theorem StepB.eq {B : World → Prop} {kind : Nat} {o : Oper} {v : Value} {a : Act} {S S' : World → Prop} (h : StepB P ops B kind o v a S S') : S' = S := by
 unfold StepB at h
 split at h <;> exact h.2
theorem StepB.wpOp {B : World → Prop} {kind i : Nat} {o : Oper} {v : Value} {a : Act} {S S' : World → Prop} (hi : ops[i]? = some o) (h : StepB P ops B kind o v a S S') (hB : ∀ w, S w → B w) {Q : Exit → Act → World → Prop}
  {K : Act → World → Prop} {w : World} (hS : S w) (hK : ∀ w', S' w' → K (a.put o.dst v) w') : wpOp P ops Q i K a w := by
 unfold StepB at h
 split at h
 ·obtain ⟨h, rfl⟩ := h; exact (h S' hB).wpOp hi hS hK
 ·obtain ⟨h, rfl⟩ := h; exact h.wpOp hi hS hK
def LastP (P : Program) (ops : Array Oper) (o : Oper) (a : Act) (S S' : World → Prop) : Prop :=
 o.dst = none ∧ ∀ w, S w → (∃ w', (execOp a.eval o).run P w = .ok .skip w' ∧ S' w') ∧ Region.wanted o (yielded ops a.tmps) = true
def MixSeqB (P : Program) (ops : Array Oper) (B : World → Prop) (K : Nat → Nat) (T : Act → World → Prop) : List Nat → Act → (World → Prop) → Prop
 | [], a, S => ∀ w, S w → T a w
 | i :: is, a, S => ∃ o, ops[i]? = some o ∧ ((K i ≠ 3 ∧ K i ≠ 7 ∧ K i ≠ 8 ∧ ∃ v S', StepB P ops B (K i) o v a S S' ∧ MixSeqB P ops B K T is (a.put o.dst v) S') ∨
   (K i = 3 ∧ ∃ R, Many P ops o a S R ∧ ∀ v S', R v S' → (∀ w, S' w → B w) ∧ MixSeqB P ops B K T is (a.put o.dst v) S') ∨
   (K i = 7 ∧ ∃ S', LastP P ops o a S S' ∧ (is ≠ [] → ∀ w, S' w → B w) ∧ MixSeqB P ops B K T is a S') ∨
   (K i = 8 ∧ ∃ S', LastP P ops o a S S' ∧ (∀ w, S' w → B w) ∧ MixSeqB P ops B K T is a S'))
theorem compatB3 {i j : Nat} (h : compatB i j = true) : (compat3 i j = true ∧ i ≠ 7 ∧ j ≠ 7 ∧ i ≠ 8 ∧ j ≠ 8) ∨ (i = 0 ∧ j = 8) := by
 unfold compatB at h
 simp only [Bool.or_eq_true, Bool.and_eq_true, Bool.not_eq_true'] at h
 rcases h with h | h
 ·exact .inl ⟨h.1.1.1.1, (fun e => by rw [e] at h; cases h.1.1.1.2), (fun e => by rw [e] at h; cases h.1.1.2), (fun e => by rw [e] at h; cases h.1.2), (fun e => by rw [e] at h; cases h.2)⟩
 ·exact .inr ⟨Nat.eq_of_beq_eq_true h.1, Nat.eq_of_beq_eq_true h.2⟩
theorem MixSeqB.first {B : World → Prop} {K : Nat → Nat} {T : Act → World → Prop} (hsel : ∀ (j : Nat) (o : Oper) cs b, ops[j]? = some o → o.op ≠ .select cs b) {j : Nat} {oj : Oper} (hj : ops[j]? = some oj) (hj3 : K j ≠ 3) (hj7 : K j ≠ 7) (hj8 : K j ≠ 8) (post : List Nat) :
  ∀ (pre : List Nat) (a : Act) (S : World → Prop), (∀ i oi, i ∈ pre → ops[i]? = some oi → oi.apart ops oj = true ∧ compatB (K i) (K j) = true) → MixSeqB P ops B K T (pre ++ j :: post) a S →
   ∃ vj S', StepB P ops B (K j) oj vj a S S' ∧ MixSeqB P ops B K T (pre ++ post) (a.put oj.dst vj) S'
 | [], a, S, _, h => by
  obtain ⟨o, ho, h⟩ := h
  rw [hj] at ho; cases ho
  rcases h with ⟨_, _, _, v, S', hf, hs⟩ | h | h | h
  ·exact ⟨v, S', hf, hs⟩
  ·exact absurd h.1 hj3
  ·exact absurd h.1 hj7
  ·exact absurd h.1 hj8
 | i :: pre, a, S, hap, h => by
  obtain ⟨oi, hi, h⟩ := h
  obtain ⟨hap1, hcomp0⟩ := hap i oi List.mem_cons_self hi
  obtain ⟨hcomp, hi7, _, hi8, _⟩ := (compatB3 hcomp0).resolve_right (fun h => hj8 h.2)
  have hi3 : K i ≠ 3 := by
   intro hc
   unfold compat3 at hcomp
   rw [hc] at hcomp
   simp at hcomp
  rcases h with ⟨_, _, _, vi, Si, hf, hs⟩ | h | h | h
  ·obtain rfl := hf.eq
   obtain ⟨vj, Sj, hfj, hsj⟩ := MixSeqB.first hsel hj hj3 hj7 hj8 post pre (a.put oi.dst vi) Si (fun k ok hk => hap k ok (List.mem_cons_of_mem _ hk)) hs
   obtain rfl := hfj.eq
   obtain ⟨h1, h2, h3⟩ := Oper.apart_spec hap1
   have ej := execOp_put oj (fun cs b => hsel j oj cs b hj) a oi.dst vi h1
   have wj := wanted_put oj a oi.dst vi h1
   have ei := execOp_put oi (fun cs b => hsel i oi cs b hi) a oj.dst vj h3
   have wi := wanted_put oi a oj.dst vj h3
   have hcm := Act.put_comm a vi vj h2
   exact ⟨vj, _, hfj.of_same ej.symm wj.symm, oi, hi, .inl ⟨hi3, hi7, hi8, vi, _, hf.of_same ei wi, by rw [← hcm]; exact hsj⟩⟩
  ·exact absurd h.1 hi3
  ·exact absurd h.1 hi7
  ·exact absurd h.1 hi8
theorem MixSeqB.first3 {B : World → Prop} {K : Nat → Nat} {T : Act → World → Prop} (hsel : ∀ (j : Nat) (o : Oper) cs b, ops[j]? = some o → o.op ≠ .select cs b) {j : Nat} {oj : Oper} (hj : ops[j]? = some oj) (hj3 : K j = 3) (post : List Nat) :
  ∀ (pre : List Nat) (a : Act) (S : World → Prop), (∀ i oi, i ∈ pre → ops[i]? = some oi → oi.apart ops oj = true ∧ compatB (K i) (K j) = true) → MixSeqB P ops B K T (pre ++ j :: post) a S →
   ∃ R, Many P ops oj a S R ∧ ∀ v S', R v S' → (∀ w, S' w → B w) ∧ MixSeqB P ops B K T (pre ++ post) (a.put oj.dst v) S'
 | [], a, S, _, h => by
  obtain ⟨o, ho, h⟩ := h
  rw [hj] at ho; cases ho
  rcases h with h | h | h | h
  ·exact absurd hj3 h.1
  ·exact h.2
  ·have := h.1; omega
  ·have := h.1; omega
 | i :: pre, a, S, hap, h => by
  obtain ⟨oi, hi, h⟩ := h
  obtain ⟨hap1, hcomp0⟩ := hap i oi List.mem_cons_self hi
  obtain ⟨hcomp, hi7, _, hi8, _⟩ := (compatB3 hcomp0).resolve_right (fun h => by have := h.2; omega)
  have hk : K i = 0 := by
   unfold compat3 at hcomp
   rw [hj3] at hcomp
   simp at hcomp
   exact hcomp
  rcases h with ⟨hi3, _, _, vi, Si, hf, hs⟩ | h | h | h
  ·obtain rfl := hf.eq
   obtain ⟨R, hfj, hsj⟩ := MixSeqB.first3 hsel hj hj3 post pre (a.put oi.dst vi) Si (fun k ok hk => hap k ok (List.mem_cons_of_mem _ hk)) hs
   obtain ⟨h1, h2, h3⟩ := Oper.apart_spec hap1
   have ej := execOp_put oj (fun cs b => hsel j oj cs b hj) a oi.dst vi h1
   have wj := wanted_put oj a oi.dst vi h1
   rw [hk] at hf
   obtain ⟨hfree, _⟩ := hf
   refine ⟨R, hfj.of_same ej.symm wj.symm, fun v S' hR => ⟨(hsj v S' hR).1, oi, hi, .inl ⟨hi3, hi7, hi8, vi, S', ?_, ?_⟩⟩⟩
   ·have ei := execOp_put oi (fun cs b => hsel i oi cs b hi) a oj.dst v h3
    have wi := wanted_put oi a oj.dst v h3
    rw [hk]
    exact ⟨fun S0 h0 => (hfree S0 h0).of_same ei wi, rfl⟩
   ·rw [← Act.put_comm a vi v h2]; exact (hsj v S' hR).2
  ·have := h.1; omega
  ·have := h.1; omega
  ·have := h.1; omega
theorem LastP.of_same {o : Oper} {a a' : Act} {S S' : World → Prop} (h : LastP P ops o a S S') (he : execOp a'.eval o = execOp a.eval o)
  (hw : Region.wanted o (yielded ops a'.tmps) = Region.wanted o (yielded ops a.tmps)) : LastP P ops o a' S S' := by
 unfold LastP at *; rw [he, hw]; exact h
theorem MixSeqB.first8 {B : World → Prop} {K : Nat → Nat} {T : Act → World → Prop} (hsel : ∀ (j : Nat) (o : Oper) cs b, ops[j]? = some o → o.op ≠ .select cs b) {j : Nat} {oj : Oper} (hj : ops[j]? = some oj) (hj8 : K j = 8) (post : List Nat) :
  ∀ (pre : List Nat) (a : Act) (S : World → Prop), (∀ i oi, i ∈ pre → ops[i]? = some oi → oi.apart ops oj = true ∧ compatB (K i) (K j) = true) → MixSeqB P ops B K T (pre ++ j :: post) a S →
   ∃ S', LastP P ops oj a S S' ∧ (∀ w, S' w → B w) ∧ MixSeqB P ops B K T (pre ++ post) a S'
 | [], a, S, _, h => by
  obtain ⟨o, ho, h⟩ := h
  rw [hj] at ho; cases ho
  rcases h with h | h | h | h
  ·exact absurd hj8 h.2.2.1
  ·have := h.1; omega
  ·have := h.1; omega
  ·exact h.2
 | i :: pre, a, S, hap, h => by
  obtain ⟨oi, hi, h⟩ := h
  obtain ⟨hap1, hcomp0⟩ := hap i oi List.mem_cons_self hi
  have hk : K i = 0 := by
   rcases compatB3 hcomp0 with h | h
   ·exact absurd hj8 h.2.2.2.2
   ·exact h.1
  rcases h with ⟨hi3, hi7, hi8, vi, Si, hf, hs⟩ | h | h | h
  ·obtain rfl := hf.eq
   obtain ⟨S', hfj, hB', hsj⟩ := MixSeqB.first8 hsel hj hj8 post pre (a.put oi.dst vi) Si (fun k ok hk => hap k ok (List.mem_cons_of_mem _ hk)) hs
   obtain ⟨h1, h2, h3⟩ := Oper.apart_spec hap1
   have ej := execOp_put oj (fun cs b => hsel j oj cs b hj) a oi.dst vi h1
   have wj := wanted_put oj a oi.dst vi h1
   rw [hk] at hf
   obtain ⟨hfree, _⟩ := hf
   exact ⟨S', hfj.of_same ej.symm wj.symm, hB', oi, hi, .inl ⟨hi3, hi7, hi8, vi, S', by rw [hk]; exact ⟨hfree, rfl⟩, hsj⟩⟩
  ·have := h.1; omega
  ·have := h.1; omega
  ·have := h.1; omega
theorem wpAny_end {Q : Exit → Act → World → Prop} {listed : Array Bool} {a : Act} {w : World} (hl : Lists ops.size md ops [] listed) (h : Q .normal a w) : wpAny P md ops Q 0 listed a w := by
 refine wpAny_done ?_ h 0
 rw [List.eq_nil_iff_forall_not_mem]
 intro j hj
 obtain ⟨hjun, oj, hoj, _⟩ := mem_ready.1 hj
 have hjs : j < ops.size := (Array.getElem?_eq_some_iff.1 hoj).1
 have := (hl.2.1 j hjs).1 hjun
 simp at this
 omega
theorem wpAny_of_mixB {Q : Exit → Act → World → Prop} {B : World → Prop} {ks p : List Nat} (hns : Region.noSelect ops = true) (hself : ∀ i ∈ p, i < ops.size ∧ ∀ oi, ops[i]? = some oi → ∀ e ∈ oi.after, Region.binds md e = true → e.on ≠ i ∧ e.on < ops.size) :
  ∀ (n : Nat) (is : List Nat) (listed : Array Bool) (a : Act) (w : World) (S : World → Prop), is.length = n → is.Pairwise (PairP9 md ops ks) → (∀ i ∈ is, i ∈ p) → Lists ops.size md ops is listed → MixSeqB P ops B (ks.getD · 2) (Q .normal) is a S → (∀ w, S w → B w) → S w →
   wpAny P md ops Q n listed a w := by
 have hsel := Region.noSelect_spec hns
 intro n
 induction n with
 | zero =>
  intro is listed a w S hlen _ _ hl hs hB hS
  obtain rfl : is = [] := List.length_eq_zero_iff.1 hlen
  exact wpAny_end hl (hs w hS)
 | succ n ih =>
  intro is listed a w S hlen hpw hlt hl hs hB hS
  have hnd : is.Nodup := hpw.imp (fun h => h.1)
  refine ⟨fun hnone => ?_, fun j hj => ?_⟩
  ·exfalso
   obtain ⟨i, is', rfl⟩ : ∃ i is', is = i :: is' := by
    cases is with
    | nil => simp at hlen
    | cons i is' => exact ⟨i, is', rfl⟩
   obtain ⟨him, hafter⟩ := hself i (hlt i List.mem_cons_self)
   have hi : ops[i]? = some ops[i] := Array.getElem?_eq_getElem him
   have hmem : i ∈ Region.ready md ops listed := by
    rw [mem_ready]
    refine ⟨(hl.2.1 i him).2 (.inl List.mem_cons_self), _, hi, fun e he hb => ?_⟩
    obtain ⟨hne, hon⟩ := hafter _ hi e he hb
    rw [getD_false_of (by rw [hl.1]; exact hon), hl.2.1 e.on hon]
    rintro (h | h)
    ·rcases List.mem_cons.1 h with h | h
     ·exact hne h
     ·exact ((List.pairwise_cons.1 hpw).1 _ h).2.2 _ hi e he hb rfl
    ·omega
   rw [hnone] at hmem
   cases hmem
  ·obtain ⟨hjun, oj, hoj, hall⟩ := mem_ready.1 hj
   have hjs : j < ops.size := (Array.getElem?_eq_some_iff.1 hoj).1
   have hnw : ∀ i ∈ is, ¬ Before md ops j i := fun i hi hw => by
    have h1 := hw listed hl.2.2 (fun o ho' e he hb => by rw [hoj] at ho'; cases ho'; exact hall e he hb)
    have him := (hself i (hlt i hi)).1
    exact (getD_false_of (by rw [hl.1]; omega)).1 h1 ((hl.2.1 i him).2 (.inl hi))
   have hjin : j ∈ is := by
    rcases (hl.2.1 j hjs).1 hjun with h | h
    ·exact h
    ·omega
   obtain ⟨pre, post, rfl⟩ := List.append_of_mem hjin
   have hap : ∀ i oi, i ∈ pre → ops[i]? = some oi → oi.apart ops oj = true ∧ compatB (ks.getD i 2) (ks.getD j 2) = true := fun i oi hi hoi => by
    have hij := (List.pairwise_append.1 hpw).2.2 i hi j List.mem_cons_self
    rcases hij.2.1 oi oj hoi hoj with hw | hap
    ·exact absurd hw (hnw i (by simp [hi]))
    ·exact hap
   have hsub : (pre ++ post).Sublist (pre ++ j :: post) := List.Sublist.append_left (List.sublist_cons_self _ _) _
   by_cases hk7 : ks.getD j 2 = 7
   ·obtain rfl : pre = [] := by
     cases pre with
     | nil => rfl
     | cons i pre =>
      have him := (hself i (hlt i (by simp))).1
      have hcc := (hap i ops[i] List.mem_cons_self (Array.getElem?_eq_getElem him)).2
      rcases compatB3 hcc with h | h
      ·exact absurd hk7 h.2.2.1
      ·have := h.2; omega
    obtain ⟨o, ho, hseq⟩ := hs
    rw [hoj] at ho; cases ho
    rcases hseq with h | h | ⟨_, S', hl7, hB', hT⟩ | h
    ·exact absurd hk7 h.2.1
    ·have h3 : ks.getD j 2 = 3 := h.1
     omega
    ·obtain ⟨hd, hlast⟩ := hl7
     obtain ⟨⟨w', hr, hS'⟩, hw⟩ := hlast w hS
     unfold Go.wpOp
     simp only [hoj, hw, if_true, Oper.wp]
     refine .inl ?_
     rw [hr]
     refine (show wpAny P md ops Q n (listed.setIfInBounds j true) (a.put oj.dst undef) w' from ?_)
     rw [hd]
     by_cases hpo : post = []
     ·subst hpo
      have hn0 : n = 0 := by simp at hlen; omega
      subst hn0
      exact wpAny_end (a := a) (hl.next (pre := []) (post := []) rfl hnd hjs (Nat.le_refl _) hj) (hT w' hS')
     ·exact ih ([] ++ post) _ _ w' S' (by simp at hlen ⊢; omega) (hpw.sublist hsub) (fun i hi => hlt i (hsub.subset hi)) (hl.next rfl hnd hjs (Nat.le_refl _) hj) hT (hB' hpo) hS'
    ·have h8 : ks.getD j 2 = 8 := h.1
     omega
   by_cases hk8 : ks.getD j 2 = 8
   ·obtain ⟨S', ⟨hd, hlast⟩, hB', hs'⟩ := MixSeqB.first8 (K := (ks.getD · 2)) hsel hoj hk8 post pre a S hap hs
    obtain ⟨⟨w', hr, hS'⟩, hw⟩ := hlast w hS
    unfold Go.wpOp
    simp only [hoj, hw, if_true, Oper.wp]
    refine .inl ?_
    rw [hr]
    refine (show wpAny P md ops Q n (listed.setIfInBounds j true) (a.put oj.dst undef) w' from ?_)
    rw [hd]
    exact ih (pre ++ post) _ _ w' S' (by simp at hlen ⊢; omega) (hpw.sublist hsub) (fun i hi => hlt i (hsub.subset hi)) (hl.next rfl hnd hjs (Nat.le_refl _) hj) hs' hB' hS'
   by_cases hk3 : ks.getD j 2 = 3
   ·obtain ⟨R, hf, hs'⟩ := MixSeqB.first3 (K := (ks.getD · 2)) hsel hoj hk3 post pre a S hap hs
    obtain ⟨hr, hw⟩ := hf w hS
    unfold Go.wpOp
    simp only [hoj, hw, if_true, Oper.wp]
    refine .inl ?_
    have go : ∀ v S' w', R v S' → S' w' → wpAny P md ops Q n (listed.setIfInBounds j true) (a.put oj.dst v) w' := fun v S' w' hR hS' =>
     ih (pre ++ post) _ _ w' S' (by simp at hlen ⊢; omega) (hpw.sublist hsub) (fun i hi => hlt i (hsub.subset hi)) (hl.next rfl hnd hjs (Nat.le_refl _) hj) (hs' v S' hR).2 (hs' v S' hR).1 hS'
    rcases hr with ⟨v, w', S', hr, hR, hS'⟩ | ⟨f, vs, w', hr, hc⟩
    ·rw [hr]; exact go v S' w' hR hS'
    ·rw [hr]
     refine hc.mono ?_
     rintro e w'' ⟨v, S', rfl, hR, hS'⟩
     exact go v S' w'' hR hS'
   ·obtain ⟨vj, S', hf, hs'⟩ := MixSeqB.first (K := (ks.getD · 2)) hsel hoj hk3 hk7 hk8 post pre a S hap hs
    have hB' : ∀ w, S' w → B w := by rw [hf.eq]; exact hB
    refine hf.wpOp hoj hB hS fun w' hS' => ?_
    exact ih (pre ++ post) _ _ w' S' (by simp at hlen ⊢; omega) (hpw.sublist hsub) (fun i hi => hlt i (hsub.subset hi)) (hl.next rfl hnd hjs (Nat.le_refl _) hj) hs' hB' hS'
def MixMB (P : Program) (ops : Array Oper) (B : World → Prop) (T : Act → World → Prop) : List Nat → List Oper → Act → (World → Prop) → Prop
 | [], [], a, S => ∀ w, S w → T a w
 | k :: ks, o :: rest, a, S => (k ≠ 3 ∧ k ≠ 7 ∧ k ≠ 8 ∧ ∃ v S', StepB P ops B k o v a S S' ∧ MixMB P ops B T ks rest (a.put o.dst v) S') ∨ (k = 3 ∧ ∃ R, Many P ops o a S R ∧ ∀ v S', R v S' → (∀ w, S' w → B w) ∧ MixMB P ops B T ks rest (a.put o.dst v) S') ∨
   (k = 7 ∧ ∃ S', LastP P ops o a S S' ∧ (ks ≠ [] → ∀ w, S' w → B w) ∧ MixMB P ops B T ks rest a S') ∨
   (k = 8 ∧ ∃ S', LastP P ops o a S S' ∧ (∀ w, S' w → B w) ∧ MixMB P ops B T ks rest a S')
 | _, _, _, _ => False
theorem MixMB.seqp {B : World → Prop} {T : Act → World → Prop} {l : List Oper} {ks : List Nat} : ∀ (p : List Nat) (a : Act) (S : World → Prop), (∀ i ∈ p, i < l.length) → MixMB P l.toArray B T (pickK9 ks p) (pickO9 l p) a S → MixSeqB P l.toArray B (ks.getD · 2) T p a S
 | [], _, _, _, h => h
 | i :: is, a, S, hp, h => by
  have hlt := hp i List.mem_cons_self
  have hi : l[i]? = some l[i] := List.getElem?_eq_getElem hlt
  unfold pickO9 pickK9 at h
  rw [hi] at h
  have rec_ : ∀ a S, MixMB P l.toArray B T (pickK9 ks is) (pickO9 l is) a S → MixSeqB P l.toArray B (ks.getD · 2) T is a S := fun a S h => MixMB.seqp is a S (fun j hj => hp j (List.mem_cons_of_mem _ hj)) h
  refine ⟨l[i], by rw [List.getElem?_toArray]; exact hi, ?_⟩
  rcases h with ⟨h1, h7, h8, v, S', h2, h3⟩ | ⟨h1, R, h2, h3⟩ | ⟨h1, S', h2, h3, h4⟩ | ⟨h1, S', h2, h3, h4⟩
  ·exact .inl ⟨h1, h7, h8, v, S', h2, rec_ _ _ h3⟩
  ·exact .inr (.inl ⟨h1, R, h2, fun v S' hR => ⟨(h3 v S' hR).1, rec_ _ _ (h3 v S' hR).2⟩⟩)
  ·refine .inr (.inr (.inl ⟨h1, S', h2, fun hne => h3 ?_, rec_ _ _ h4⟩))
   cases is with
   | nil => exact absurd rfl hne
   | cons j is => unfold pickK9; exact List.cons_ne_nil _ _
  ·exact .inr (.inr (.inr ⟨h1, S', h2, h3, rec_ _ _ h4⟩))
theorem wp_mixB {Q : Exit → Act → World → Prop} {id : Nat} {l : List Oper} {a : Act} {w : World} {S B : World → Prop} (hmix : P.follows .mixedOrders = true) (ks p : List Nat) (ho : mixOKp9 .any l.toArray ks p = true)
  (hB : ∀ w, S w → B w) (hS : S w.drew) (h : MixMB P l.toArray B (Q .normal) (pickK9 ks p) (pickO9 l p) a S) : (Code.region id l.toArray true).wp P Q a w := by
 refine wpFrom_start hmix ?_
 intro listed hl
 have hsz : l.toArray.size = l.length := by simp
 obtain ⟨hns, hlen, hall, hself, hpw⟩ := mixOKp_spec9 ho
 have := wpAny_of_mixB (P := P) (Q := Q) (ks := ks) hns hself l.length p listed a w.drew S (hlen.trans hsz) hpw (fun i hi => hi)
  ⟨hl.1, fun q hq => by
   rw [hl.2.1 q hq]
   have := hall q hq
   simp [this], hl.2.2⟩ (MixMB.seqp p a S (fun i hi => by rw [← hsz]; exact (hself i hi).1) h) hB hS
 rw [hsz, Nat.sub_zero]
 exact this
end
section
variable {P : Program} {ops : Array Oper} {Q : Exit → Act → World → Prop} {n : Sz} {w0 : World} {L L' : List (Nat × Value)} {HB H : List Ent}
variable {o : Oper} {rest : List Oper} {v u : Value} {x y z : Operand} {k m j : Nat} {t t' e : TypeId} {ks : List Nat} {kd : IntKind}
def Stays (w0 : World) (HB : List Ent) (w : World) : Prop := ∃ H', St w0 (HB ++ H') w
def TP (P : Program) (ops : Array Oper) (Q : Exit → Act → World → Prop) (n : Sz) (w0 : World) (HB : List Ent) (ks : List Nat) (rest : List Oper) (L : List (Nat × Value)) (H : List Ent) : Prop :=
 ∀ a, Fr n L a → MixMB P ops (Stays w0 HB) (Q .normal) ks rest a (St w0 (HB ++ H))
theorem TC.mixB {id : Nat} {l : List Oper} (hmix : P.follows .mixedOrders = true) (ks p : List Nat) (ho : mixOKp9 .any l.toArray ks p = true) (h : TP P l.toArray Q n w0 HB (pickK9 ks p) (pickO9 l p) L H) (hmd : n.md = .plain := by rfl) : TC P Q n w0 (.region id l.toArray true) L (HB ++ H) :=
 fun a w hf hs => by rw [hmd]; exact wp_mixB hmix ks p ho (fun w h => ⟨H, h⟩) hs.drew (h a hf)
theorem TP.nil (h : TE Q .normal n w0 L (HB ++ H)) : TP P ops Q n w0 HB [] [] L H := fun a hf w hs => h a w hf hs
theorem TP.free (hg : Wants n ops L o) (hi : inside n o.dst = true) (h : ∀ w0, Gets P n w0 o L [] v) (hr : TP P ops Q n w0 HB ks rest (put L o.dst v) H) : TP P ops Q n w0 HB (0 :: ks) (o :: rest) L H :=
 fun a hf => .inl ⟨by decide, by decide, by decide, v, St w0 (HB ++ H), ⟨fun S0 _ => .inl ⟨hg a hf, fun w hS => by rw [h w a w hf (St.refl w)]; exact ⟨rfl, hS⟩⟩, rfl⟩, hr _ (hf.put o.dst v hi)⟩
abbrev qz := @TP.free
theorem TP.stay (hg : Wants n ops L o) (hi : inside n o.dst = true) (h : ∀ H', Gets P n w0 o L (HB ++ H') v) (hr : TP P ops Q n w0 HB ks rest (put L o.dst v) H) : TP P ops Q n w0 HB (0 :: ks) (o :: rest) L H :=
 fun a hf => .inl ⟨by decide, by decide, by decide, v, St w0 (HB ++ H), ⟨fun S0 h0 => .inl ⟨hg a hf, fun w hS => by
  obtain ⟨H', hs⟩ := h0 w hS
  rw [h H' a w hf hs]; exact ⟨rfl, hS⟩⟩, rfl⟩, hr _ (hf.put o.dst v hi)⟩
abbrev zO := @TP.stay
theorem TP.call {ι : Type} {f : FuncId} {xs : List Operand} {ts : Array TypeId} {vs : List Value} {V : ι → Value} {R : ι → Prop} {H' : ι → List Ent} (hg : Wants n ops L o) (hi : inside n o.dst = true) (h : Enters P f)
  (ho : o.op = .call { callee := .value (.func f), args := xs.toArray, argTypes := ts }) (hx : evs L xs = some vs)
  (hc : ∀ w, St w0 (HB ++ H) w → Calls P f vs.toArray w fun e w' => ∃ i, e = .returned (V i) ∧ R i ∧ St w0 (HB ++ H' i) w')
  (hr : ∀ i, R i → TP P ops Q n w0 HB ks rest (put L o.dst (V i)) (H' i)) : TP P ops Q n w0 HB (3 :: ks) (o :: rest) L H :=
 fun a hf => .inr <| .inl ⟨rfl, fun v S' => ∃ i, R i ∧ v = V i ∧ S' = St w0 (HB ++ H' i), fun w hs =>
  ⟨.inr ⟨f, vs.toArray, w, run_enter h ho hf hx, (hc w hs).mono fun e w' ⟨i, he, hR, hs'⟩ => ⟨V i, _, he, ⟨i, hR, rfl, rfl⟩, hs'⟩⟩, hg a hf⟩,
  fun v S' ⟨i, hR, h1, h2⟩ => by subst h1; subst h2; exact ⟨fun w hw => ⟨H' i, hw⟩, hr i hR _ (hf.put o.dst _ hi)⟩⟩
abbrev zW := @TP.call
theorem calls_over {f : FuncId} {fn : Func} {c : Code} {args : List Value} {w : World} {R : Ending → World → Prop} {N : Nat} (hf : P.funcs[f]? = some fn) (hb : fn.body = some c) (hN : fn.ntmps = N) (hl : args.length ≤ N) (hs : St w0 H w)
  (h : TC P (bodyPost P fn R) ⟨N, [], .plain⟩ w0 c (args.zipIdx.map fun x => (x.2, x.1)) H) : Calls P f args.toArray w R := by
 subst hN
 refine calls_of_wp hf hb (h _ w ⟨rfl, by simp; omega, ?_⟩ hs)
 intro i v hi
 have key : ∀ (l : List Value) (k : Nat), look ((l.zipIdx k).map fun x => (x.2, x.1)) i = some v → k ≤ i ∧ l[i - k]? = some v := by
  intro l
  induction l with
  | nil => intro k h; simp [look] at h
  | cons c l ih =>
   intro k h
   simp only [List.zipIdx_cons, List.map_cons, look] at h
   cases hb : Nat.beq i k with
   | true => rw [hb] at h; have := Nat.eq_of_beq_eq_true hb; subst this; simp at h; simp [h]
   | false =>
    rw [hb] at h
    obtain ⟨h1, h2⟩ := ih (k + 1) h
    refine ⟨by omega, ?_⟩
    rw [show i - k = (i - (k + 1)) + 1 by omega]
    simpa using h2
 obtain ⟨_, h2⟩ := key args 0 hi
 have hlt : i < args.length := (List.getElem?_eq_some_iff.1 h2).1
 simp only [Nat.sub_zero] at h2
 have h3 : args[i] = v := by rw [List.getElem?_eq_getElem hlt] at h2; exact Option.some.inj h2
 simp [Array.getElem?_append, hlt, h3]
end
/-
 Two arrays of numbers, compared.
-/
section
variable {P : Program} {ops : Array Oper} {Q : Exit → Act → World → Prop} {n : Sz} {w0 : World} {L L' : List (Nat × Value)} {H : List Ent}
variable {o : Oper} {rest : List Oper} {v u : Value} {x y z : Operand} {k m j : Nat} {t t' e : TypeId} {ks : List Nat} {kd : IntKind} {p q : Int}
theorem eqIn_int2 (d : Nat) (h1 : P.underlying e = some (.int kd)) (a b : Int) (w : World) : (Op.equalIn (d + 1) e (.int kd a) (.int kd b)).run P w = .ok (a == b) w := by
 simp [Op.equalIn, Sem.run_bind, run_under h1]
theorem all_eq {W V : List Int} {len : Nat} (hW : W.length = len) (hV : V.length = len) : (List.range' 0 len).all (fun i => W.getD i 0 == V.getD i 0) = decide (W = V) := by
 by_cases h : W = V
 ·subst h
  rw [decide_eq_true rfl]
  exact List.all_eq_true.2 fun i _ => by simp
 ·rw [decide_eq_false h]
  refine Bool.eq_false_iff.2 fun ha => h ?_
  refine list_of_getD (hW.trans hV.symm) fun i hi => ?_
  have := List.all_eq_true.1 ha i (List.mem_range'_1.2 ⟨by omega, by omega⟩)
  simpa using this
theorem eqIn_arr2 (d : Nat) {len : Nat} {W V : List Int} (h1 : P.underlying t = some (.array len e)) (h2 : P.underlying e = some (.int kd)) (hsz : (P.info? e).map (·.size) = some 1) (hW : W.length = len) (hV : V.length = len) (w : World) :
  (Op.equalIn (d + 1 + 1) t (.agg (W.map (int kd)).toArray) (.agg (V.map (int kd)).toArray)).run P w = .ok (decide (W = V)) w := by
 have hag := isAgg_no h2 rfl
 unfold Op.equalIn
 simp only [Sem.run_bind, run_under h1, Result.andThen_ok, run_size hsz]
 simp only [Std.Legacy.Range.forIn_eq_forIn_range', Std.Legacy.Range.size, Nat.sub_zero, Nat.add_one_sub_one, Nat.div_one]
 have key : ∀ (l : List Nat), (∀ i ∈ l, i < len) → ((forIn l ((none, ()) : Option Bool × Unit) fun i r => do
   if !(← Op.equalIn (d + 1) e (← part e (W.map (int kd)).toArray (i * 1)) (← part e (V.map (int kd)).toArray (i * 1))) then
    pure (ForInStep.done (some false, ()))
   else pure (ForInStep.yield (none, ()))) : Sem (Option Bool × Unit)).run P w = .ok (if l.all (fun i => W.getD i 0 == V.getD i 0) then (none, ()) else (some false, ())) w := by
  intro l
  induction l with
  | nil => intro _; rfl
  | cons i l ih =>
   intro hi
   have hil : i < W.length := by rw [hW]; exact hi i (by simp)
   have hiv : i < V.length := by rw [hV]; exact hi i (by simp)
   have hp := run_part1 (P := P) (e := e) (cs := (W.map (int kd)).toArray) (i := i * 1) (v := .int kd (W.getD i 0)) hag (by simp [hil]) w
   have hq := run_part1 (P := P) (e := e) (cs := (V.map (int kd)).toArray) (i := i * 1) (v := .int kd (V.getD i 0)) hag (by simp [hiv]) w
   simp only [List.forIn_cons, Sem.run_bind, hp, hq, Result.andThen_ok, eqIn_int2 d h2, List.all_cons]
   by_cases hb : W.getD i 0 = V.getD i 0
   ·have hb2 : (W.getD i 0 == V.getD i 0) = true := by simpa using hb
    simp only [hb2, Bool.not_true, Bool.false_eq_true, if_false, Sem.run_pure, Result.andThen_ok, Bool.true_and]
    exact ih fun j hj => hi j (by simp [hj])
   ·have hb2 : (W.getD i 0 == V.getD i 0) = false := by simpa using hb
    simp only [hb2, Bool.not_false, if_true, Sem.run_pure, Result.andThen_ok, Bool.false_and, Bool.false_eq_true, if_false]
 rw [key (List.range' 0 len) (fun i hi => by have := List.mem_range'_1.1 hi; omega), all_eq hW hV]
 by_cases h : W = V
 ·rw [decide_eq_true h]; rfl
 ·rw [decide_eq_false h]; rfl
theorem Gets.arrEq {len : Nat} {W V : List Int} (ho : o.op = .binOp .eql t x y t') (h1 : P.underlying t = some (.array len e)) (h2 : P.underlying e = some (.int kd)) (hsz : (P.info? e).map (·.size) = some 1) (hgt : P.eqGuardType P.depth t = false)
  (hx : ev L x = some (.agg (W.map (int kd)).toArray)) (hy : ev L y = some (.agg (V.map (int kd)).toArray)) (hW : W.length = len) (hV : V.length = len) : Gets P n w0 o L H (.bool (decide (W = V))) := fun a w hf hs => by
 simp only [execOp, ho, hf.eval hx, hf.eval hy]
 refine run_value ?_
 have h3 := eqIn_arr2 (P := P) 9998 h1 h2 hsz hW hV w
 have h4 : ∀ c d : Value, Op.equal t c d = Op.equalIn (9998 + 1 + 1) t c d := fun _ _ => rfl
 simp only [Sem.run_bind, run_noGuard hgt, Result.andThen_ok, binOp, h4]
 generalize Op.equalIn (9998 + 1 + 1) t (.agg (W.map (int kd)).toArray) (.agg (V.map (int kd)).toArray) = s at *
 simp [h3]
end
theorem seg_mid {A B C : List Value} {a : Nat} (ha : A.length = a) : ((A ++ (B ++ C)).drop a).take B.length = B := by subst ha; simp
/-
 Steps that need no word: what an operation gets is found by its form.
-/
class Sli (P : Program) (t : TypeId) (e : outParam TypeId) : Prop where
 h : P.underlying t = some (.slice e)
class Siz (P : Program) (t : TypeId) (s : outParam Nat) : Prop where
 h : (P.info? t).map (·.size) = some s
class AgY (P : Program) (t : TypeId) : Prop where
 h : (isAgg t).run P = fun w => .ok true w
class AgN (P : Program) (t : TypeId) : Prop where
 h : (isAgg t).run P = fun w => .ok false w
class Fld (P : Program) (t : TypeId) (f : Nat) (k : outParam Nat) : Prop where
 h : ∃ fields fl s, P.underlying t = some (.struct fields) ∧ fields[f]? = some fl ∧ (P.info? fl.type).map (·.size) = some (s + 1) ∧ fl.offset = k
class Zer (P : Program) (t : TypeId) (cs : outParam (List Value)) : Prop where
 h : ∃ zv, (P.info? t).bind (·.zero) = some zv ∧ zv.cells.toList = cs
inductive SelI : List Nat → List (Nat × Value) → List (Nat × Value) → Prop
 | nil {L : List (Nat × Value)} : SelI [] L []
 | cons {k : Nat} {ks : List Nat} {L : List (Nat × Value)} {v : Value} {L' : List (Nat × Value)} (h : look L k = some v) (hr : SelI ks L L') : SelI (k :: ks) L ((k, v) :: L')
inductive SetI : List Ent → Nat → Ent → List Ent → Prop
 | zero {a : Ent} {l : List Ent} {e : Ent} : SetI (a :: l) 0 e (e :: l)
 | succ {a : Ent} {l : List Ent} {i : Nat} {e : Ent} {l' : List Ent} (h : SetI l i e l') : SetI (a :: l) (i + 1) e (a :: l')
section
variable {P : Program} {ops : Array Oper} {Q : Exit → Act → World → Prop} {n : Sz} {w0 : World} {L L' : List (Nat × Value)} {H H' : List Ent}
variable {o : Oper} {rest : List Oper} {v u : Value} {x y z : Operand} {k m j : Nat} {t t' e : TypeId} {kd : IntKind} {p q : Int}
theorem Gets.fa0 {f b : Nat} [F : Fld P t f k] (ho : o.op = .fieldAddr t x f) (hx : ev L x = some (.pointer (some ⟨b, 0, none⟩))) : Gets P n w0 o L H (.pointer (some ⟨b, k, none⟩)) := by
 obtain ⟨fields, fl, s, h1, h2, h3, h4⟩ := F.h
 exact zE ho h1 h2 h3 hx (by omega)
theorem dl66 {a b s : Value} {H1 H2 : List Int} {kd : IntKind} (h1 : H1.length = 32) (h2 : H2.length = 32) : ([a, b] ++ (H1.map (int kd) ++ (H2.map (int kd) ++ [s])))[66]? = some s :=
 app_right (a := 2) (i := 64) rfl (app_right (a := 32) (i := 32) (ints_len h1) (app_right (a := 32) (i := 0) (ints_len h2) rfl))
theorem Gets.loadD {b off s : Nat} {vs : List Value} (ho : o.op = .load t x) (hag : (isAgg t).run P = fun w => .ok true w) (hsz : (P.info? t).map (·.size) = some s) (hx : ev L x = some (.pointer (some ⟨b, off, none⟩))) (hc : Row w0 H b off vs) (hl : vs.length = s) : Gets P n w0 o L H (.agg vs.toArray) := qg ho hag hsz hx hl hc
theorem dlLen {a b s : Value} {H1 H2 : List Int} {kd : IntKind} (h1 : H1.length = 32) (h2 : H2.length = 32) : ([a, b] ++ (H1.map (int kd) ++ (H2.map (int kd) ++ [s]))).length = 67 := by simp [h1, h2]
def Stp (P : Program) (ops : Array Oper) (n : Sz) (w0 : World) (o : Oper) (L : List (Nat × Value)) (H : List Ent) (v : Value) : Prop :=
 inside n o.dst = true ∧ ((Wants n ops L o ∧ Gets P n w0 o L H v) ∨ (v = undef ∧ ∀ a, Fr n L a → Region.wanted o (yielded ops a.tmps) = false))
theorem Stp.ps {d : Nat} {b c : Bool} (h : o.guard = some (j, c)) (hj : (ops[j]?).bind (·.dst) = some d) (hd : look L d = some (.bool b)) (hi : inside n o.dst = true) (hb : b = !c) : Stp P ops n w0 o L H undef :=
 ⟨hi, .inr ⟨rfl, fun a hf => by subst hb; simp [Region.wanted, h, guard_val hf hj hd]⟩⟩
theorem Stp.pu {d : Nat} {c : Bool} (h : o.guard = some (j, c)) (hj : (ops[j]?).bind (·.dst) = some d) (hd : look L d = some undef) (hi : inside n o.dst = true) : Stp P ops n w0 o L H undef :=
 ⟨hi, .inr ⟨rfl, fun a hf => by simp [Region.wanted, h, guard_undef hf hj hd]⟩⟩
theorem TL.stp (h : Stp P ops n w0 o L H v) (hr : TL P ops Q n w0 rest (put L o.dst v) H) : TL P ops Q n w0 (o :: rest) L H := by
 obtain ⟨hi, ⟨hg, hgt⟩ | ⟨rfl, hw⟩⟩ := h
 ·exact qB hg hi hgt hr
 ·exact fun a w hf hs => wpL_pass (hw a hf) (hr _ _ (hf.put o.dst undef hi) hs)
theorem Gets.au (h : Gets P n w0 o L H v := by
  first
  | exact qp rfl rfl
  | exact zf rfl rfl
  | exact Gets.fa0 rfl rfl
  | exact qS rfl AgN.h rfl (by first | exact qZ (i := 0) rfl rfl rfl | exact qZ (i := 1) rfl rfl rfl | exact qZ (i := 2) rfl rfl rfl | exact qZ (i := 3) rfl rfl rfl | exact qZ (i := 4) rfl rfl rfl | exact qZ (i := 5) rfl rfl rfl | exact qZ (i := 0) rfl rfl (dl66 (by assumption) (by assumption)) | exact qZ (i := 1) rfl rfl (dl66 (by assumption) (by assumption)) | exact qZ (i := 2) rfl rfl (dl66 (by assumption) (by assumption)) | exact qZ (i := 3) rfl rfl (dl66 (by assumption) (by assumption)))
  | exact qg rfl AgY.h Siz.h rfl rfl (by first | exact qQ (i := 0) rfl rfl rfl | exact qQ (i := 1) rfl rfl rfl | exact qQ (i := 2) rfl rfl rfl | exact qQ (i := 3) rfl rfl rfl | exact qQ (i := 4) rfl rfl rfl | exact qQ (i := 5) rfl rfl rfl)
  | exact Gets.loadD rfl AgY.h Siz.h rfl (by first | exact qQ (i := 0) rfl rfl rfl | exact qQ (i := 1) rfl rfl rfl | exact qQ (i := 2) rfl rfl rfl | exact qQ (i := 3) rfl rfl rfl) (dlLen (by assumption) (by assumption))
  | exact Gets.pickT rfl rfl rfl
  | exact Gets.pickF rfl rfl rfl
  | exact Gets.notP rfl rfl
  | exact Gets.not rfl rfl
  | exact zC rfl rfl rfl
  | exact qo rfl rfl rfl
  | exact qs rfl rfl rfl
  | exact Gets.leq rfl rfl rfl
  | exact zJ rfl rfl rfl
  | exact zb rfl rfl rfl
  | exact Gets.lenSlice rfl Sli.h rfl
  | exact Gets.extract rfl rfl rfl) : Gets P n w0 o L H v := h
theorem Wants.au (h : Wants n ops L o := by first | exact qA rfl | exact qJ rfl rfl rfl) : Wants n ops L o := h
theorem SelI.sub {ks : List Nat} (h : SelI ks L L') : Sub L' L := by
 induction h with
 | nil => exact qN
 | cons h _ ih => exact qI h ih
theorem TC.pr {c : Code} (ks : List Nat) (hr : TC P Q n w0 c L' H) (h : SelI ks L L' := by repeat (first | exact SelI.nil | exact rfl | apply SelI.cons)) : TC P Q n w0 c L H := TC.sub h.sub hr
abbrev qC := @TC.pr
theorem SetI.eq {e : Ent} {i : Nat} (h : SetI H i e H') : H.set i e = H' := by
 induction h with
 | zero => rfl
 | succ _ ih => rw [List.set_cons_succ, ih]
theorem ones_all {vs : List Value} (h : vs.all (·.oneCell') = true) : ∀ u ∈ vs, u.oneCell' = true := fun u hu => List.all_eq_true.1 h u hu
theorem TL.bxA {cs : List Value} {tot : Nat} (hr : ∀ g, w0.heap.size ≤ g → TL P ops Q n w0 rest (put L o.dst (.pointer (some ⟨g, 0, none⟩))) (⟨g, t, cs, tot⟩ :: H)) (hg : Wants n ops L o := by exact qA rfl) (hi : inside n o.dst = true := by rfl) (ho : o.op = .box t x := by rfl) (hx : ev L x = some (.agg cs.toArray) := by rfl)
  (htot : cs.length = tot := by rfl) : TL P ops Q n w0 (o :: rest) L H := zQ hg hi ho hx (by simp [Value.cells]) htot hr
abbrev qv := @TL.bxA
theorem TL.bx1 (hr : ∀ g, w0.heap.size ≤ g → TL P ops Q n w0 rest (put L o.dst (.pointer (some ⟨g, 0, none⟩))) (⟨g, t, [v], 1⟩ :: H)) (hg : Wants n ops L o := by exact qA rfl) (hi : inside n o.dst = true := by rfl) (ho : o.op = .box t x := by rfl) (hx : ev L x = some v := by rfl)
  (hv : v.cells = #[v] := by rfl) : TL P ops Q n w0 (o :: rest) L H := zQ hg hi ho hx (by rw [hv]) rfl hr
theorem TL.al {cs : List Value} {tot : Nat} [Z : Zer P t cs] (hr : ∀ g, w0.heap.size ≤ g → TL P ops Q n w0 rest (put L o.dst (.pointer (some ⟨g, 0, none⟩))) (⟨g, t, cs, tot⟩ :: H)) (hg : Wants n ops L o := by exact qA rfl) (hi : inside n o.dst = true := by rfl) (ho : o.op = .alloc t := by rfl)
  (htot : cs.length = tot := by rfl) : TL P ops Q n w0 (o :: rest) L H := by
 obtain ⟨zv, h1, h2⟩ := Z.h
 exact zB hg hi ho h1 h2 htot hr
abbrev qc := @TL.al
theorem TL.sW {g s : Nat} {ent : Ent} {vs : List Value} (i : Nat) [hsz : Siz P t s] (ho : o.op = .store t x y) (hd : o.dst = none) (hx : ev L x = some (.pointer (some ⟨g, 0, none⟩))) (hi : H[i]? = some ent) (he : ent.g = g) (hy : ev L y = some (.agg vs.toArray)) (hl : vs.length = s) (h1 : vs.all (·.oneCell') = true) (hoff : ent.cs.length = s)
  (hH : SetI H i ⟨ent.g, ent.t, vs, ent.tot⟩ H') (hg : Wants n ops L o) (hr : TL P ops Q n w0 rest L H') : TL P ops Q n w0 (o :: rest) L H := qn hg hd ho hsz.h hx hy hl (ones_all h1) hi he hoff hH.eq hr
theorem TE.thenm {m : Md} {y : Code} {Q' : Exit → Act → World → Prop} (hm : n.md = m) (h : TC P Q n w0 y L H) : TE (Exit.then (wpn m P y Q) Q') .normal n w0 L H := by subst hm; exact TE.then h
theorem gx {A B : Prop} (b : B) (h : B → A := by
  first
  | with_reducible exact TL.nil
  | with_reducible exact TC.regionL
  | with_reducible exact TC.seq
  | with_reducible exact TC.block
  | with_reducible exact TC.skip
  | with_reducible exact TC.ret
  | with_reducible exact TC.exit
  | with_reducible exact TE.thenm (by with_unfolding_all exact rfl)
  | with_reducible exact TE.thenR
  | with_reducible exact TE.thenX
  | with_reducible exact TE.blockN
  | with_reducible exact TE.blockR
  | with_reducible exact TE.blockX
  | exact qB Wants.au rfl Gets.au
  | exact TL.stp (Stp.ps rfl rfl rfl rfl rfl)
  | exact TL.stp (Stp.pu rfl rfl rfl rfl)
  | exact TL.sW 0 rfl rfl rfl rfl rfl rfl rfl rfl rfl (by repeat (first | exact SetI.zero | apply SetI.succ)) Wants.au
  | exact TL.sW 1 rfl rfl rfl rfl rfl rfl rfl rfl rfl (by repeat (first | exact SetI.zero | apply SetI.succ)) Wants.au
  | exact TL.sW 2 rfl rfl rfl rfl rfl rfl rfl rfl rfl (by repeat (first | exact SetI.zero | apply SetI.succ)) Wants.au
  | exact TL.sW 3 rfl rfl rfl rfl rfl rfl rfl rfl rfl (by repeat (first | exact SetI.zero | apply SetI.succ)) Wants.au
  | exact TL.sW 4 rfl rfl rfl rfl rfl rfl rfl rfl rfl (by repeat (first | exact SetI.zero | apply SetI.succ)) Wants.au
  | exact TL.sW 5 rfl rfl rfl rfl rfl rfl rfl rfl rfl (by repeat (first | exact SetI.zero | apply SetI.succ)) Wants.au
  | exact TM.nil
  | exact TR.nil
  | exact qG Wants.au rfl (fun _ => Gets.au)
  | exact qk Wants.au rfl Gets.au
  | exact zK Wants.au rfl (fun _ => Gets.au)
  | exact TR.gets Wants.au rfl (fun _ _ => Gets.au)) : A := h b
inductive Own_ (w0 : World) : List Ent → Prop
 | nil : Own_ w0 []
 | cons {e : Ent} {H : List Ent} (h : w0.heap.size ≤ e.g) (hr : Own_ w0 H) : Own_ w0 (e :: H)
theorem St.dp {w : World} (hs : St w0 H w) (h : Own_ w0 H := by repeat (first | exact Own_.nil | assumption | apply Own_.cons)) : St w0 [] w := by
 induction h with
 | nil => exact hs
 | cons h _ ih => exact ih (hs.drop h)
end
/-
 Contracts of package sha: words, the schedule and the mixing of a block.
-/
theorem agg127 : (isAgg 127).run Tryz.prog = fun w => .ok false w := isAgg_no Tryz.underlying127 rfl
theorem agg172 : (isAgg 172).run Tryz.prog = fun w => .ok true w := isAgg_yes Tryz.underlying172 rfl
theorem agg5 : (isAgg 5).run Tryz.prog = fun w => .ok false w := isAgg_no Tryz.underlying5 rfl
theorem enters122 : Enters Tryz.prog 122 := ⟨_, Tryz.func122, by kernel_rfl, by kernel_rfl⟩
theorem enters123 : Enters Tryz.prog 123 := ⟨_, Tryz.func123, by kernel_rfl, by kernel_rfl⟩
theorem enters134 : Enters Tryz.prog 134 := ⟨_, Tryz.func134, by kernel_rfl, by kernel_rfl⟩
theorem size127 : (Tryz.prog.info? 127).map (·.size) = some 1 := by kernel_rfl
theorem size172 : (Tryz.prog.info? 172).map (·.size) = some 64 := by kernel_rfl
theorem size5 : (Tryz.prog.info? 5).map (·.size) = some 1 := by kernel_rfl
theorem zero172 : (Tryz.prog.info? 172).bind (·.zero) = some (.agg #[.int .u32 0, .int .u32 0, .int .u32 0, .int .u32 0, .int .u32 0, .int .u32 0, .int .u32 0, .int .u32 0, .int .u32 0, .int .u32 0, .int .u32 0, .int .u32 0, .int .u32 0, .int .u32 0, .int .u32 0, .int .u32 0, .int .u32 0, .int .u32 0, .int .u32 0, .int .u32 0, .int .u32 0, .int .u32 0, .int .u32 0, .int .u32 0, .int .u32 0, .int .u32 0, .int .u32 0, .int .u32 0, .int .u32 0, .int .u32 0, .int .u32 0, .int .u32 0, .int .u32 0, .int .u32 0, .int .u32 0, .int .u32 0, .int .u32 0, .int .u32 0, .int .u32 0, .int .u32 0, .int .u32 0, .int .u32 0, .int .u32 0, .int .u32 0, .int .u32 0, .int .u32 0, .int .u32 0, .int .u32 0, .int .u32 0, .int .u32 0, .int .u32 0, .int .u32 0, .int .u32 0, .int .u32 0, .int .u32 0, .int .u32 0, .int .u32 0, .int .u32 0, .int .u32 0, .int .u32 0, .int .u32 0, .int .u32 0, .int .u32 0, .int .u32 0]) := by kernel_rfl
def rotr (x : Int) (n : Nat) : Int := orI .u32 (shlI .u32 x (32 - n)) (shrI .u32 x n)
theorem wrap_neg (m : Nat) (h1 : 1 ≤ m) (h2 : m ≤ 31) : IntKind.u64.wrap (-(m : Int)) = 18446744073709551616 - m := by
 simp [IntKind.wrap, IntKind.bits, IntKind.signed]; omega
theorem and_neg (m : Nat) (h1 : 1 ≤ m) (h2 : m ≤ 31) : andI .u64 (18446744073709551616 - (m : Int)) 31 = 32 - m := by
 have : ∀ k : Fin 32, 1 ≤ k.val → andI .u64 (18446744073709551616 - (k.val : Int)) 31 = 32 - (k.val : Int) := by decide +kernel
 exact this ⟨m, by omega⟩ h1
theorem rotl_eq (x : Int) (m : Nat) (h1 : 1 ≤ m) (h2 : m ≤ 31) : Ending.returned (.int .u32 (orI .u32 (shlI .u32 x (32 - (m : Int))) (shrI .u32 x (m : Int)))) = .returned (.int .u32 (rotr x m)) := rfl
theorem rotl_c (x : Int) (m : Nat) (w : World) (h1 : 1 ≤ m) (h2 : m ≤ 31) : Calls Tryz.prog 134 #[.int .u32 x, .int .i64 (-(m : Int))] w fun e w' => e = .returned (.int .u32 (rotr x m)) ∧ St w [] w' := by
 refine qL (args := [.int .u32 x, .int .i64 (-(m : Int))]) Tryz.func134 rfl Tryz.ntmps134 (by simp) ?_
 refine qC [0, 1] ?_
 iterate 8 refine gx ?_
 refine qB (qA rfl) rfl (qt rfl Tryz.underlying3 Tryz.underlying99 rfl (r := (18446744073709551616 - (m : Int))) (wrap_neg m (by omega) (by omega))) ?_
 refine qB (qA rfl) rfl (za rfl rfl rfl (r := (32 - (m : Int))) (and_neg m (by omega) (by omega))) ?_
 iterate 7 refine gx ?_
 refine qB (qA rfl) rfl (Gets.shl rfl rfl rfl (by omega) (r := (shlI .u32 x (32 - (m : Int)))) rfl) ?_
 iterate 2 refine gx ?_
 refine qB (qA rfl) rfl (zH rfl rfl rfl (r := (m : Int)) (wu64 (by omega) (by omega))) ?_
 refine qB (qA rfl) rfl (zN rfl rfl rfl (by omega) (r := (shrI .u32 x (m : Int))) rfl) ?_
 refine qB (qA rfl) rfl (Gets.or rfl rfl rfl (r := (orI .u32 (shlI .u32 x (32 - (m : Int))) (shrI .u32 x (m : Int)))) rfl) ?_
 iterate 4 refine gx ?_
 exact qK rfl rfl (fun w hs => ⟨rotl_eq x m h1 h2, hs⟩)
attribute [irreducible] rotr
theorem right_c (x : Int) (m : Nat) (w : World) (h1 : 1 ≤ m) (h2 : m ≤ 31) : Calls Tryz.prog 123 #[.int .u32 x, .int .i64 (m : Int)] w fun e w' => e = .returned (.int .u32 (rotr x m)) ∧ St w [] w' := by
 refine qL (args := [.int .u32 x, .int .i64 (m : Int)]) Tryz.func123 rfl Tryz.ntmps123 (by simp) ?_
 refine qC [0, 1] ?_
 iterate 9 refine gx ?_
 refine qB (qA rfl) rfl (Gets.neg rfl rfl (r := (-(m : Int))) (w64 (by omega) (by omega))) ?_
 refine qM (qA rfl) rfl enters134 rfl rfl (v := .int .u32 (rotr x m)) (fun w hs => rotl_c x m w h1 h2) ?_
 iterate 4 refine gx ?_
 exact qK rfl rfl (fun w hs => ⟨rfl, hs⟩)
def wordAt (B : List Int) (t : Nat) : Int := orI .u32 (orI .u32 (orI .u32 (shlI .u32 (IntKind.u32.wrap (B.getD (4 * t) 0)) 24) (shlI .u32 (IntKind.u32.wrap (B.getD (4 * t + 1) 0)) 16)) (shlI .u32 (IntKind.u32.wrap (B.getD (4 * t + 2) 0)) 8)) (IntKind.u32.wrap (B.getD (4 * t + 3) 0))
def w16 (B : List Int) : Nat → List Int
 | 0 => List.replicate 64 0
 | k + 1 => (w16 B k).set k (wordAt B k)
def sig0 (x : Int) : Int := xorI .u32 (xorI .u32 (rotr x 7) (rotr x 18)) (shrI .u32 x 3)
def sig1 (x : Int) : Int := xorI .u32 (xorI .u32 (rotr x 17) (rotr x 19)) (shrI .u32 x 10)
def sch (V : List Int) : Nat → List Int
 | 0 => V
 | j + 1 => (sch V j).set (j + 16) (addW .u32 (addW .u32 (addW .u32 (sig1 ((sch V j).getD (j + 14) 0)) ((sch V j).getD (j + 9) 0)) (sig0 ((sch V j).getD (j + 1) 0))) ((sch V j).getD j 0))
theorem w16_len (B : List Int) : ∀ k, (w16 B k).length = 64
 | 0 => by simp [w16]
 | k + 1 => by simp [w16, w16_len B k]
theorem sch_len {V : List Int} (h : V.length = 64) : ∀ j, (sch V j).length = 64
 | 0 => h
 | j + 1 => by simp [sch, sch_len h j]
def sched (B : List Int) : List Int := sch (w16 B 16) 48
theorem sched_len (B : List Int) : (sched B).length = 64 := sch_len (w16_len B 16) 48
theorem schedule_c (B : List Int) (b off cap : Nat) (w : World) (hb : b < w.heap.size) (hB : RowI w b off 64 .u8 B) (hcap : 64 ≤ cap) : Calls Tryz.prog 122 #[.slice (some ⟨b, off, none⟩) 64 cap] w fun e w' => e = .returned (.agg ((sched B).map (int .u32)).toArray) ∧ St w [] w' := by
 refine qL (args := [.slice (some ⟨b, off, none⟩) 64 cap]) Tryz.func122 rfl Tryz.ntmps122 (by simp) ?_
 refine qC [0] ?_
 iterate 2 refine gx ?_
 refine zB (qA rfl) rfl rfl zero172 (cs := (List.replicate 64 0).map (int .u32)) rfl (tot := 64) (by simp) (fun g1 hg1 => ?_)
 iterate 4 refine gx ?_
 refine zB (qA rfl) rfl rfl zero172 (cs := (List.replicate 64 0).map (int .u32)) rfl (tot := 64) (by simp) (fun g2 hg2 => ?_)
 iterate 9 refine gx ?_
 refine qr (ι := Nat) (fun k => [(0, .slice (some ⟨b, off, none⟩) 64 cap), (2, .pointer (some ⟨g1, 0, none⟩)), (3, .pointer (some ⟨g2, 0, none⟩)), (11, .int .i64 (k : Int))]) (fun k => [⟨g2, 172, (w16 B k).map (int .u32), 64⟩, ⟨g1, 172, (List.replicate 64 0).map (int .u32), 64⟩]) (fun k => 16 - k) (fun k => k ≤ 16) 0 (by omega) (qT (i := 0) rfl rfl (by first | omega | (dsimp only; omega) | rfl) (by first | omega | (dsimp only; omega) | rfl) (qI (i := 2) rfl (qI (i := 3) rfl (qH (i := 11) rfl (by first | omega | rfl) (qN))))) (fun w h => h) (fun k hC0 => ?_)
 iterate 6 refine gx ?_
 refine qX rfl (fun h0 => ?_) (fun h0 => ?_)
 ·iterate 14 refine gx ?_
  refine qB (qA rfl) rfl (zY rfl rfl rfl (r := (4 * (k : Int))) (w64 (by omega) (by omega))) ?_
  refine gx ?_
  refine qB (qA rfl) rfl (zY rfl rfl rfl (r := (4 * (k : Int))) (w64 (by omega) (by omega))) ?_
  refine qB (qA rfl) rfl (qR rfl rfl rfl (r := (4 * (k : Int) + 4)) (w64 (by omega) (by omega))) ?_
  refine qB (qA rfl) rfl (zP rfl Tryz.underlying22 size5 rfl (bnd.at_ (l := (4 * k)) rfl (by omega)) (bnd.at_ (l := (4 * k + 4)) rfl (by omega)) (by omega) (by omega) (A' := some ⟨b, (off + 4 * k), none⟩) (cut_is (by omega) (by omega)) (ln := 4) (cp := (cap - 4 * k)) (by omega) (by omega)) ?_
  iterate 3 refine gx ?_
  refine qC [0, 2, 3, 4, 5, 11] ?_
  refine qy (by kernel_rfl) [0, 0, 0, 1, 1, 0, 0, 0, 1, 1, 0, 0, 0, 0, 1, 1, 0, 0, 0, 0, 1, 1, 0, 0, 2] rfl (by kernel_rfl) ?_
  iterate 2 refine gx ?_
  refine qG (qA rfl) rfl (fun _ => ql rfl Tryz.underlying22 size5 rfl rfl (i := 0) (by rfl) (by omega) (off' := (off + 4 * k)) (by omega)) ?_
  refine qk (qA rfl) rfl (qS rfl agg5 rfl (At.rowI hB (i := (4 * k)) (by omega) (by omega) hb (qE (by show g2 ≠ b; omega) (qE (by show g1 ≠ b; omega) qF)))) ?_
  refine qk (qA rfl) rfl (qt rfl Tryz.underlying5 Tryz.underlying127 rfl (r := (IntKind.u32.wrap (B.getD (4 * k) 0))) rfl) ?_
  refine qG (qA rfl) rfl (fun _ => Gets.shl rfl rfl rfl (by omega) (r := (shlI .u32 (IntKind.u32.wrap (B.getD (4 * k) 0)) 24)) rfl) ?_
  refine gx ?_
  refine qG (qA rfl) rfl (fun _ => ql rfl Tryz.underlying22 size5 rfl rfl (i := 1) (by rfl) (by omega) (off' := (off + 4 * k + 1)) (by omega)) ?_
  refine qk (qA rfl) rfl (qS rfl agg5 rfl (At.rowI hB (i := (4 * k + 1)) (by omega) (by omega) hb (qE (by show g2 ≠ b; omega) (qE (by show g1 ≠ b; omega) qF)))) ?_
  refine qk (qA rfl) rfl (qt rfl Tryz.underlying5 Tryz.underlying127 rfl (r := (IntKind.u32.wrap (B.getD (4 * k + 1) 0))) rfl) ?_
  refine qG (qA rfl) rfl (fun _ => Gets.shl rfl rfl rfl (by omega) (r := (shlI .u32 (IntKind.u32.wrap (B.getD (4 * k + 1) 0)) 16)) rfl) ?_
  refine qG (qA rfl) rfl (fun _ => Gets.or rfl rfl rfl (r := (orI .u32 (shlI .u32 (IntKind.u32.wrap (B.getD (4 * k) 0)) 24) (shlI .u32 (IntKind.u32.wrap (B.getD (4 * k + 1) 0)) 16))) rfl) ?_
  refine gx ?_
  refine qG (qA rfl) rfl (fun _ => ql rfl Tryz.underlying22 size5 rfl rfl (i := 2) (by rfl) (by omega) (off' := (off + 4 * k + 2)) (by omega)) ?_
  refine qk (qA rfl) rfl (qS rfl agg5 rfl (At.rowI hB (i := (4 * k + 2)) (by omega) (by omega) hb (qE (by show g2 ≠ b; omega) (qE (by show g1 ≠ b; omega) qF)))) ?_
  refine qk (qA rfl) rfl (qt rfl Tryz.underlying5 Tryz.underlying127 rfl (r := (IntKind.u32.wrap (B.getD (4 * k + 2) 0))) rfl) ?_
  refine qG (qA rfl) rfl (fun _ => Gets.shl rfl rfl rfl (by omega) (r := (shlI .u32 (IntKind.u32.wrap (B.getD (4 * k + 2) 0)) 8)) rfl) ?_
  refine qG (qA rfl) rfl (fun _ => Gets.or rfl rfl rfl (r := (orI .u32 (orI .u32 (shlI .u32 (IntKind.u32.wrap (B.getD (4 * k) 0)) 24) (shlI .u32 (IntKind.u32.wrap (B.getD (4 * k + 1) 0)) 16)) (shlI .u32 (IntKind.u32.wrap (B.getD (4 * k + 2) 0)) 8))) rfl) ?_
  refine gx ?_
  refine qG (qA rfl) rfl (fun _ => ql rfl Tryz.underlying22 size5 rfl rfl (i := 3) (by rfl) (by omega) (off' := (off + 4 * k + 3)) (by omega)) ?_
  refine qk (qA rfl) rfl (qS rfl agg5 rfl (At.rowI hB (i := (4 * k + 3)) (by omega) (by omega) hb (qE (by show g2 ≠ b; omega) (qE (by show g1 ≠ b; omega) qF)))) ?_
  refine qk (qA rfl) rfl (qt rfl Tryz.underlying5 Tryz.underlying127 rfl (r := (IntKind.u32.wrap (B.getD (4 * k + 3) 0))) rfl) ?_
  refine qG (qA rfl) rfl (fun _ => Gets.or rfl rfl rfl (r := (orI .u32 (orI .u32 (orI .u32 (shlI .u32 (IntKind.u32.wrap (B.getD (4 * k) 0)) 24) (shlI .u32 (IntKind.u32.wrap (B.getD (4 * k + 1) 0)) 16)) (shlI .u32 (IntKind.u32.wrap (B.getD (4 * k + 2) 0)) 8)) (IntKind.u32.wrap (B.getD (4 * k + 3) 0)))) rfl) ?_
  refine qG (qA rfl) rfl (fun _ => qq rfl Tryz.underlying172 size127 rfl rfl (i := k) (by omega) (by omega) (off' := k) (by omega)) ?_
  refine TM.store1 (qA rfl) rfl rfl size127 rfl rfl rfl (i := 0) rfl rfl (by simp [(w16_len B k)] <;> omega) (cs' := ((w16 B k).set k (orI .u32 (orI .u32 (orI .u32 (shlI .u32 (IntKind.u32.wrap (B.getD (4 * k) 0)) 24) (shlI .u32 (IntKind.u32.wrap (B.getD (4 * k + 1) 0)) 16)) (shlI .u32 (IntKind.u32.wrap (B.getD (4 * k + 2) 0)) 8)) (IntKind.u32.wrap (B.getD (4 * k + 3) 0)))).map (int .u32)) (ints_set) (H' := [⟨g2, 172, ((w16 B k).set k (orI .u32 (orI .u32 (orI .u32 (shlI .u32 (IntKind.u32.wrap (B.getD (4 * k) 0)) 24) (shlI .u32 (IntKind.u32.wrap (B.getD (4 * k + 1) 0)) 16)) (shlI .u32 (IntKind.u32.wrap (B.getD (4 * k + 2) 0)) 8)) (IntKind.u32.wrap (B.getD (4 * k + 3) 0)))).map (int .u32), 64⟩, ⟨g1, 172, (List.replicate 64 0).map (int .u32), 64⟩]) rfl ?_
  iterate 3 refine gx ?_
  refine qC [0, 2, 3, 11] ?_
  refine gx ?_
  refine qB (qA rfl) rfl (qR rfl rfl rfl (r := ((k : Int) + 1)) (w64 (by omega) (by omega))) ?_
  iterate 2 refine gx ?_
  exact qj (k + 1) (by omega) (by omega) (qT (i := 0) rfl rfl (by first | omega | (dsimp only; omega) | rfl) (by first | omega | (dsimp only; omega) | rfl) (qI (i := 2) rfl (qI (i := 3) rfl (qH (i := 11) rfl (by first | omega | rfl) (qN))))) (fun w h => h)
 ·obtain rfl : k = 16 := by omega
  iterate 12 refine gx ?_
  refine qr (ι := Nat) (fun j => [(2, .pointer (some ⟨g1, 0, none⟩)), (3, .pointer (some ⟨g2, 0, none⟩)), (6, .int .i64 ((j : Int) + 16))]) (fun j => [⟨g2, 172, (sch (w16 B 16) j).map (int .u32), 64⟩, ⟨g1, 172, (List.replicate 64 0).map (int .u32), 64⟩]) (fun j => 48 - j) (fun j => j ≤ 48) 0 (by omega) (qI (i := 2) rfl (qI (i := 3) rfl (qH (i := 6) rfl (by first | omega | rfl) (qN)))) (fun w h => h) (fun j hC1 => ?_)
  iterate 7 refine gx ?_
  refine qX rfl (fun h1 => ?_) (fun h1 => ?_)
  ·iterate 5 refine gx ?_
   refine qy (by kernel_rfl) [0, 0, 0, 1, 0, 0, 0, 1, 0, 0] rfl (by kernel_rfl) ?_
   refine gx ?_
   refine qG (qA rfl) rfl (fun _ => zH rfl rfl rfl (r := ((j : Int) + 1)) (w64 (by omega) (by omega))) ?_
   refine qG (qA rfl) rfl (fun _ => qq rfl Tryz.underlying172 size127 rfl rfl (i := (j + 1)) (by omega) (by omega) (off' := (j + 1)) (by omega)) ?_
   refine qk (qA rfl) rfl (qS rfl agg127 rfl (qZ (i := 0) (ent := ⟨g2, 172, (sch (w16 B 16) j).map (int .u32), 64⟩) (off := (j + 1)) rfl rfl (by have := qf (kd := .u32) (W := sch (w16 B 16) j) (i := (j + 1)) (by rw [(sch_len (w16_len B 16) j)]; omega); (first | exact this | (refine Eq.trans ?_ this; congr 1; omega))))) ?_
   refine gx ?_
   refine qG (qA rfl) rfl (fun _ => zH rfl rfl rfl (r := ((j : Int) + 14)) (w64 (by omega) (by omega))) ?_
   refine qG (qA rfl) rfl (fun _ => qq rfl Tryz.underlying172 size127 rfl rfl (i := (j + 14)) (by omega) (by omega) (off' := (j + 14)) (by omega)) ?_
   refine qk (qA rfl) rfl (qS rfl agg127 rfl (qZ (i := 0) (ent := ⟨g2, 172, (sch (w16 B 16) j).map (int .u32), 64⟩) (off := (j + 14)) rfl rfl (by have := qf (kd := .u32) (W := sch (w16 B 16) j) (i := (j + 14)) (by rw [(sch_len (w16_len B 16) j)]; omega); (first | exact this | (refine Eq.trans ?_ this; congr 1; omega))))) ?_
   iterate 4 refine gx ?_
   refine qC [2, 3, 6, 7, 8] ?_
   iterate 3 refine gx ?_
   refine qM (qA rfl) rfl enters123 rfl rfl (v := .int .u32 (rotr ((sch (w16 B 16) j).getD (j + 1) 0) 7)) (fun w hs => right_c ((sch (w16 B 16) j).getD (j + 1) 0) 7 w (by omega) (by omega)) ?_
   refine gx ?_
   refine qM (qA rfl) rfl enters123 rfl rfl (v := .int .u32 (rotr ((sch (w16 B 16) j).getD (j + 1) 0) 18)) (fun w hs => right_c ((sch (w16 B 16) j).getD (j + 1) 0) 18 w (by omega) (by omega)) ?_
   refine qB (qA rfl) rfl (zR rfl rfl rfl (r := (xorI .u32 (rotr ((sch (w16 B 16) j).getD (j + 1) 0) 7) (rotr ((sch (w16 B 16) j).getD (j + 1) 0) 18))) rfl) ?_
   refine gx ?_
   refine qB (qA rfl) rfl (zN rfl rfl rfl (by omega) (r := (shrI .u32 ((sch (w16 B 16) j).getD (j + 1) 0) 3)) rfl) ?_
   refine qB (qA rfl) rfl (zR rfl rfl rfl (r := (xorI .u32 (xorI .u32 (rotr ((sch (w16 B 16) j).getD (j + 1) 0) 7) (rotr ((sch (w16 B 16) j).getD (j + 1) 0) 18)) (shrI .u32 ((sch (w16 B 16) j).getD (j + 1) 0) 3))) rfl) ?_
   iterate 3 refine gx ?_
   refine qC [2, 3, 6, 8, 9] ?_
   iterate 3 refine gx ?_
   refine qM (qA rfl) rfl enters123 rfl rfl (v := .int .u32 (rotr ((sch (w16 B 16) j).getD (j + 14) 0) 17)) (fun w hs => right_c ((sch (w16 B 16) j).getD (j + 14) 0) 17 w (by omega) (by omega)) ?_
   refine gx ?_
   refine qM (qA rfl) rfl enters123 rfl rfl (v := .int .u32 (rotr ((sch (w16 B 16) j).getD (j + 14) 0) 19)) (fun w hs => right_c ((sch (w16 B 16) j).getD (j + 14) 0) 19 w (by omega) (by omega)) ?_
   refine qB (qA rfl) rfl (zR rfl rfl rfl (r := (xorI .u32 (rotr ((sch (w16 B 16) j).getD (j + 14) 0) 17) (rotr ((sch (w16 B 16) j).getD (j + 14) 0) 19))) rfl) ?_
   refine gx ?_
   refine qB (qA rfl) rfl (zN rfl rfl rfl (by omega) (r := (shrI .u32 ((sch (w16 B 16) j).getD (j + 14) 0) 10)) rfl) ?_
   refine qB (qA rfl) rfl (zR rfl rfl rfl (r := (xorI .u32 (xorI .u32 (rotr ((sch (w16 B 16) j).getD (j + 14) 0) 17) (rotr ((sch (w16 B 16) j).getD (j + 14) 0) 19)) (shrI .u32 ((sch (w16 B 16) j).getD (j + 14) 0) 10))) rfl) ?_
   iterate 3 refine gx ?_
   refine qC [2, 3, 6, 9, 10] ?_
   refine qy (by kernel_rfl) [0, 0, 0, 0, 0, 1, 0, 0, 0, 0, 0, 0, 1, 0, 0, 2] rfl (by kernel_rfl) ?_
   iterate 3 refine gx ?_
   refine qG (qA rfl) rfl (fun _ => zH rfl rfl rfl (r := ((j : Int) + 9)) (w64 (by omega) (by omega))) ?_
   refine qG (qA rfl) rfl (fun _ => qq rfl Tryz.underlying172 size127 rfl rfl (i := (j + 9)) (by omega) (by omega) (off' := (j + 9)) (by omega)) ?_
   refine qk (qA rfl) rfl (qS rfl agg127 rfl (qZ (i := 0) (ent := ⟨g2, 172, (sch (w16 B 16) j).map (int .u32), 64⟩) (off := (j + 9)) rfl rfl (by have := qf (kd := .u32) (W := sch (w16 B 16) j) (i := (j + 9)) (by rw [(sch_len (w16_len B 16) j)]; omega); (first | exact this | (refine Eq.trans ?_ this; congr 1; omega))))) ?_
   refine qG (qA rfl) rfl (fun _ => zG rfl rfl rfl) ?_
   refine gx ?_
   refine qG (qA rfl) rfl (fun _ => zG rfl rfl rfl) ?_
   refine gx ?_
   refine qG (qA rfl) rfl (fun _ => zH rfl rfl rfl (r := (j : Int)) (w64 (by omega) (by omega))) ?_
   refine qG (qA rfl) rfl (fun _ => qq rfl Tryz.underlying172 size127 rfl rfl (i := j) (by omega) (by omega) (off' := j) (by omega)) ?_
   refine qk (qA rfl) rfl (qS rfl agg127 rfl (qZ (i := 0) (ent := ⟨g2, 172, (sch (w16 B 16) j).map (int .u32), 64⟩) (off := j) rfl rfl (by have := qf (kd := .u32) (W := sch (w16 B 16) j) (i := j) (by rw [(sch_len (w16_len B 16) j)]; omega); (first | exact this | (refine Eq.trans ?_ this; congr 1; omega))))) ?_
   refine qG (qA rfl) rfl (fun _ => zG rfl rfl rfl) ?_
   refine qG (qA rfl) rfl (fun _ => qq rfl Tryz.underlying172 size127 rfl rfl (i := (j + 16)) (by omega) (by omega) (off' := (j + 16)) (by omega)) ?_
   refine TM.store1 (qA rfl) rfl rfl size127 rfl rfl rfl (i := 0) rfl rfl (by simp [(sch_len (w16_len B 16) j)] <;> omega) (cs' := ((sch (w16 B 16) j).set (j + 16) (addW .u32 (addW .u32 (addW .u32 (xorI .u32 (xorI .u32 (rotr ((sch (w16 B 16) j).getD (j + 14) 0) 17) (rotr ((sch (w16 B 16) j).getD (j + 14) 0) 19)) (shrI .u32 ((sch (w16 B 16) j).getD (j + 14) 0) 10)) ((sch (w16 B 16) j).getD (j + 9) 0)) (xorI .u32 (xorI .u32 (rotr ((sch (w16 B 16) j).getD (j + 1) 0) 7) (rotr ((sch (w16 B 16) j).getD (j + 1) 0) 18)) (shrI .u32 ((sch (w16 B 16) j).getD (j + 1) 0) 3))) ((sch (w16 B 16) j).getD j 0))).map (int .u32)) (ints_set) (H' := [⟨g2, 172, ((sch (w16 B 16) j).set (j + 16) (addW .u32 (addW .u32 (addW .u32 (xorI .u32 (xorI .u32 (rotr ((sch (w16 B 16) j).getD (j + 14) 0) 17) (rotr ((sch (w16 B 16) j).getD (j + 14) 0) 19)) (shrI .u32 ((sch (w16 B 16) j).getD (j + 14) 0) 10)) ((sch (w16 B 16) j).getD (j + 9) 0)) (xorI .u32 (xorI .u32 (rotr ((sch (w16 B 16) j).getD (j + 1) 0) 7) (rotr ((sch (w16 B 16) j).getD (j + 1) 0) 18)) (shrI .u32 ((sch (w16 B 16) j).getD (j + 1) 0) 3))) ((sch (w16 B 16) j).getD j 0))).map (int .u32), 64⟩, ⟨g1, 172, (List.replicate 64 0).map (int .u32), 64⟩]) rfl ?_
   iterate 3 refine gx ?_
   refine qC [2, 3, 6] ?_
   iterate 2 refine gx ?_
   refine qB (qA rfl) rfl (qR rfl rfl rfl (r := ((j : Int) + 17)) (w64 (by omega) (by omega))) ?_
   iterate 2 refine gx ?_
   exact qj (j + 1) (by omega) (by omega) (qI (i := 2) rfl (qI (i := 3) rfl (qH (i := 6) rfl (by first | omega | rfl) (qN)))) (fun w h => h)
  ·obtain rfl : j = 48 := by omega
   have hWl := sched_len B
   have hWs : sched B = sch (w16 B 16) 48 := by unfold sched; with_reducible rfl
   rw [hWs] at hWl
   generalize hW : sch (w16 B 16) 48 = W at hWl hWs ⊢
   iterate 7 refine gx ?_
   refine qB (qA rfl) rfl (qg rfl agg172 size172 rfl (vs := W.map (int .u32)) (by simp [hWl]) (qQ (i := 0) (ent := ⟨g2, 172, W.map (int .u32), 64⟩) rfl rfl rfl)) ?_
   refine qn (qA rfl) rfl rfl size172 rfl (vs := W.map (int .u32)) rfl (by simp [hWl]) qb (i := 1) (ent := ⟨g1, 172, (List.replicate 64 0).map (int .u32), 64⟩) rfl rfl (by simp []) (H' := [⟨g2, 172, W.map (int .u32), 64⟩, ⟨g1, 172, W.map (int .u32), 64⟩]) rfl ?_
   iterate 3 refine gx ?_
   exact qu rfl agg172 size172 rfl (vs := W.map (int .u32)) (by simp [hWl]) (qQ (i := 1) (ent := ⟨g1, 172, W.map (int .u32), 64⟩) rfl rfl rfl) (fun w hs => ⟨by rw [hWs], hs.dp⟩)
attribute [irreducible] sched wordAt sig0 sig1
def KT : List Int := [1116352408, 1899447441, 3049323471, 3921009573, 961987163, 1508970993, 2453635748, 2870763221, 3624381080, 310598401, 607225278, 1426881987, 1925078388, 2162078206, 2614888103, 3248222580, 3835390401, 4022224774, 264347078, 604807628, 770255983, 1249150122, 1555081692, 1996064986, 2554220882, 2821834349, 2952996808, 3210313671, 3336571891, 3584528711, 113926993, 338241895, 666307205, 773529912, 1294757372, 1396182291, 1695183700, 1986661051, 2177026350, 2456956037, 2730485921, 2820302411, 3259730800, 3345764771, 3516065817, 3600352804, 4094571909, 275423344, 430227734, 506948616, 659060556, 883997877, 958139571, 1322822218, 1537002063, 1747873779, 1955562222, 2024104815, 2227730452, 2361852424, 2428436474, 2756734187, 3204031479, 3329325298]
def IV : List Int := [1779033703, 3144134277, 1013904242, 2773480762, 1359893119, 2600822924, 528734635, 1541459225]
def big1 (x : Int) : Int := xorI .u32 (xorI .u32 (rotr x 6) (rotr x 11)) (rotr x 25)
def big0 (x : Int) : Int := xorI .u32 (xorI .u32 (rotr x 2) (rotr x 13)) (rotr x 22)
def chI (e f g : Int) : Int := xorI .u32 (andI .u32 e f) (andI .u32 (cplI .u32 e) g)
def majI (a b c : Int) : Int := xorI .u32 (xorI .u32 (andI .u32 a b) (andI .u32 a c)) (andI .u32 b c)
def t1I (V : List Int) (k w : Int) : Int := addW .u32 (addW .u32 (addW .u32 (addW .u32 (V.getD 7 0) (big1 (V.getD 4 0))) (chI (V.getD 4 0) (V.getD 5 0) (V.getD 6 0))) k) w
def t2I (V : List Int) : Int := addW .u32 (big0 (V.getD 0 0)) (majI (V.getD 0 0) (V.getD 1 0) (V.getD 2 0))
def stepV (V : List Int) (k w : Int) : List Int := [addW .u32 (t1I V k w) (t2I V), V.getD 0 0, V.getD 1 0, V.getD 2 0, addW .u32 (V.getD 3 0) (t1I V k w), V.getD 4 0, V.getD 5 0, V.getD 6 0]
def rounds (V W : List Int) : Nat → List Int
 | 0 => V
 | k + 1 => stepV (rounds V W k) (KT.getD k 0) (W.getD k 0)
def addAll (st V : List Int) : Nat → List Int
 | 0 => st
 | i + 1 => (addAll st V i).set i (addW .u32 ((addAll st V i).getD i 0) (V.getD i 0))
theorem addAll_len {st V : List Int} (h : st.length = 8) : ∀ j, (addAll st V j).length = 8
 | 0 => h
 | j + 1 => by simp [addAll, addAll_len h j]
def mixS (st B : List Int) : List Int := addAll st (rounds st (sched B) 64) 8
theorem mixS_len {st B : List Int} (h : st.length = 8) : (mixS st B).length = 8 := addAll_len h 8
attribute [irreducible] mixS
theorem RowI.keep {w w' : World} {b off n : Nat} {kd : IntKind} {B : List Int} (h : RowI w b off n kd B) (hs : St w [] w') (hb : b < w.heap.size) : RowI w' b off n kd B := fun j hj =>
 (hs.old_cell (ad := ⟨b, off + j, none⟩) hb qF).trans (h j hj)
theorem mix_end {w0 w : World} {e1 e2 : Ent} {g : Nat} (hs : St w0 [e2, e1] w) (h1 : g < w0.heap.size) (hg : w0.heap.size ≤ e1.g) : St w0 [e2] w := hs.erase (i := 1) rfl hg
theorem mix_c (st B : List Int) (tl : List Value) (g t tot b off cap : Nat) (w : World) (hst : st.length = 8) (hl : Ent.lies ⟨g, t, st.map (int .u32) ++ (tl), tot⟩ w) (hb : b < w.heap.size) (hB : RowI w b off 64 .u8 B) (hcap : 64 ≤ cap) (h1 : 1 < w.heap.size) (hg1 : g ≠ 1) (hK : RowI w 1 0 64 .u32 KT) : Calls Tryz.prog 111 #[.pointer (some ⟨g, 0, none⟩), .slice (some ⟨b, off, none⟩) 64 cap] w fun e w' => e = .returned (.tuple #[]) ∧ St w [⟨g, t, (mixS st B).map (int .u32) ++ (tl), tot⟩] w' := by
 have hg : g < w.heap.size := hl.lt
 refine qL (args := [.pointer (some ⟨g, 0, none⟩), .slice (some ⟨b, off, none⟩) 64 cap]) Tryz.func111 rfl Tryz.ntmps111 (by simp) ?_
 refine qC [0, 1] ?_
 iterate 3 refine gx ?_
 refine qM (qA rfl) rfl enters122 rfl rfl (v := .agg ((sched B).map (int .u32)).toArray) (fun w hs => schedule_c B b off cap _ (Nat.lt_of_lt_of_le hb hs.size) (hB.keep hs hb) hcap) ?_
 refine zB (qA rfl) rfl rfl zero172 (cs := (List.replicate 64 0).map (int .u32)) rfl (tot := 64) (by simp) (fun g1 hg1 => ?_)
 refine qn (qA rfl) rfl rfl size172 rfl (vs := (sched B).map (int .u32)) rfl (by simp [(sched_len B)]) qb (i := 0) (ent := ⟨g1, 172, (List.replicate 64 0).map (int .u32), 64⟩) rfl rfl (by simp []) (H' := [⟨g1, 172, (sched B).map (int .u32), 64⟩]) rfl ?_
 iterate 3 refine gx ?_
 refine qe (H' := [⟨g, t, st.map (int .u32) ++ (tl), tot⟩, ⟨g1, 172, (sched B).map (int .u32), 64⟩]) (fun w hs => hs.take hl (qE (by show g1 ≠ g; omega) qF)) ?_
 refine qy (by kernel_rfl) [0, 0, 0, 1, 0, 0, 0, 1, 0, 0, 0, 1, 0, 0, 0, 1, 0, 0, 0, 1, 0, 0, 0, 1, 0, 0, 0, 1, 0, 0, 0, 1, 0, 0, 0, 0, 0, 0, 0, 0] rfl (by kernel_rfl) ?_
 refine gx ?_
 refine qG (qA rfl) rfl (fun _ => qO rfl rfl) ?_
 refine qG (qA rfl) rfl (fun _ => qq rfl Tryz.underlying129 size127 rfl rfl (i := 0) (by rfl) (by omega) (off' := 0) (by omega)) ?_
 refine qk (qA rfl) rfl (qS rfl agg127 rfl (qZ (i := 0) (ent := ⟨g, t, st.map (int .u32) ++ (tl), tot⟩) (off := 0) rfl rfl (by exact app_left (i := 0) (B := tl) (qf (kd := .u32) (W := st) (i := 0) (by rw [hst]; omega))))) ?_
 refine gx ?_
 refine qG (qA rfl) rfl (fun _ => qO rfl rfl) ?_
 refine qG (qA rfl) rfl (fun _ => qq rfl Tryz.underlying129 size127 rfl rfl (i := 1) (by rfl) (by omega) (off' := 1) (by omega)) ?_
 refine qk (qA rfl) rfl (qS rfl agg127 rfl (qZ (i := 0) (ent := ⟨g, t, st.map (int .u32) ++ (tl), tot⟩) (off := 1) rfl rfl (by exact app_left (i := 1) (B := tl) (qf (kd := .u32) (W := st) (i := 1) (by rw [hst]; omega))))) ?_
 refine gx ?_
 refine qG (qA rfl) rfl (fun _ => qO rfl rfl) ?_
 refine qG (qA rfl) rfl (fun _ => qq rfl Tryz.underlying129 size127 rfl rfl (i := 2) (by rfl) (by omega) (off' := 2) (by omega)) ?_
 refine qk (qA rfl) rfl (qS rfl agg127 rfl (qZ (i := 0) (ent := ⟨g, t, st.map (int .u32) ++ (tl), tot⟩) (off := 2) rfl rfl (by exact app_left (i := 2) (B := tl) (qf (kd := .u32) (W := st) (i := 2) (by rw [hst]; omega))))) ?_
 refine gx ?_
 refine qG (qA rfl) rfl (fun _ => qO rfl rfl) ?_
 refine qG (qA rfl) rfl (fun _ => qq rfl Tryz.underlying129 size127 rfl rfl (i := 3) (by rfl) (by omega) (off' := 3) (by omega)) ?_
 refine qk (qA rfl) rfl (qS rfl agg127 rfl (qZ (i := 0) (ent := ⟨g, t, st.map (int .u32) ++ (tl), tot⟩) (off := 3) rfl rfl (by exact app_left (i := 3) (B := tl) (qf (kd := .u32) (W := st) (i := 3) (by rw [hst]; omega))))) ?_
 refine gx ?_
 refine qG (qA rfl) rfl (fun _ => qO rfl rfl) ?_
 refine qG (qA rfl) rfl (fun _ => qq rfl Tryz.underlying129 size127 rfl rfl (i := 4) (by rfl) (by omega) (off' := 4) (by omega)) ?_
 refine qk (qA rfl) rfl (qS rfl agg127 rfl (qZ (i := 0) (ent := ⟨g, t, st.map (int .u32) ++ (tl), tot⟩) (off := 4) rfl rfl (by exact app_left (i := 4) (B := tl) (qf (kd := .u32) (W := st) (i := 4) (by rw [hst]; omega))))) ?_
 refine gx ?_
 refine qG (qA rfl) rfl (fun _ => qO rfl rfl) ?_
 refine qG (qA rfl) rfl (fun _ => qq rfl Tryz.underlying129 size127 rfl rfl (i := 5) (by rfl) (by omega) (off' := 5) (by omega)) ?_
 refine qk (qA rfl) rfl (qS rfl agg127 rfl (qZ (i := 0) (ent := ⟨g, t, st.map (int .u32) ++ (tl), tot⟩) (off := 5) rfl rfl (by exact app_left (i := 5) (B := tl) (qf (kd := .u32) (W := st) (i := 5) (by rw [hst]; omega))))) ?_
 refine gx ?_
 refine qG (qA rfl) rfl (fun _ => qO rfl rfl) ?_
 refine qG (qA rfl) rfl (fun _ => qq rfl Tryz.underlying129 size127 rfl rfl (i := 6) (by rfl) (by omega) (off' := 6) (by omega)) ?_
 refine qk (qA rfl) rfl (qS rfl agg127 rfl (qZ (i := 0) (ent := ⟨g, t, st.map (int .u32) ++ (tl), tot⟩) (off := 6) rfl rfl (by exact app_left (i := 6) (B := tl) (qf (kd := .u32) (W := st) (i := 6) (by rw [hst]; omega))))) ?_
 refine gx ?_
 refine qG (qA rfl) rfl (fun _ => qO rfl rfl) ?_
 refine qG (qA rfl) rfl (fun _ => qq rfl Tryz.underlying129 size127 rfl rfl (i := 7) (by rfl) (by omega) (off' := 7) (by omega)) ?_
 refine qk (qA rfl) rfl (qS rfl agg127 rfl (qZ (i := 0) (ent := ⟨g, t, st.map (int .u32) ++ (tl), tot⟩) (off := 7) rfl rfl (by exact app_left (i := 7) (B := tl) (qf (kd := .u32) (W := st) (i := 7) (by rw [hst]; omega))))) ?_
 iterate 10 refine gx ?_
 refine qC [0, 4, 5, 6, 7, 8, 9, 10, 11, 12] ?_
 iterate 3 refine gx ?_
 refine qB (qA rfl) rfl (qg rfl agg172 size172 rfl (vs := (sched B).map (int .u32)) (by simp [(sched_len B)]) (qQ (i := 1) (ent := ⟨g1, 172, (sched B).map (int .u32), 64⟩) rfl rfl rfl)) ?_
 iterate 3 refine gx ?_
 refine qC [0, 5, 6, 7, 8, 9, 10, 11, 12, 51, 52] ?_
 refine gx ?_
 refine qr (ι := Nat) (fun k => [(0, .pointer (some ⟨g, 0, none⟩)), (51, .agg ((sched B).map (int .u32)).toArray), (52, .int .i64 (k : Int)), (5, .int .u32 ((rounds st (sched B) k).getD 0 0)), (6, .int .u32 ((rounds st (sched B) k).getD 1 0)), (7, .int .u32 ((rounds st (sched B) k).getD 2 0)), (8, .int .u32 ((rounds st (sched B) k).getD 3 0)), (9, .int .u32 ((rounds st (sched B) k).getD 4 0)), (10, .int .u32 ((rounds st (sched B) k).getD 5 0)), (11, .int .u32 ((rounds st (sched B) k).getD 6 0)), (12, .int .u32 ((rounds st (sched B) k).getD 7 0))]) (fun k => [⟨g, t, st.map (int .u32) ++ (tl), tot⟩, ⟨g1, 172, (sched B).map (int .u32), 64⟩]) (fun k => 64 - k) (fun k => k ≤ 64) 0 (by omega) (qI (i := 0) rfl (qI (i := 51) rfl (qH (i := 52) rfl (by first | omega | rfl) (qH (i := 5) rfl (by first | rfl | omega) (qH (i := 6) rfl (by first | rfl | omega) (qH (i := 7) rfl (by first | rfl | omega) (qH (i := 8) rfl (by first | rfl | omega) (qH (i := 9) rfl (by first | rfl | omega) (qH (i := 10) rfl (by first | rfl | omega) (qH (i := 11) rfl (by first | rfl | omega) (qH (i := 12) rfl (by first | rfl | omega) (qN)))))))))))) (fun w h => h) (fun k hC0 => ?_)
 iterate 5 refine gx ?_
 refine qC [0, 5, 6, 7, 8, 9, 10, 11, 12, 51, 52, 53] ?_
 refine gx ?_
 refine qX rfl (fun h0 => ?_) (fun h0 => ?_)
 ·iterate 2 refine gx ?_
  refine qC [0, 5, 6, 7, 8, 9, 10, 11, 12, 51, 52] ?_
  iterate 5 refine gx ?_
  refine qB (qA rfl) rfl (Gets.index1 rfl Tryz.underlying172 agg127 size127 rfl rfl (i := k) (by omega) (by omega) (arr_get (qf (kd := .u32) (W := sched B) (i := k) (by rw [(sched_len B)]; omega)))) ?_
  iterate 4 refine gx ?_
  refine qC [0, 5, 6, 7, 8, 9, 10, 11, 12, 13, 14, 51, 52] ?_
  refine gx ?_
  refine qy (by kernel_rfl) [0, 0, 1, 0, 1, 0, 0, 1, 0, 0, 0, 0, 0, 0, 0, 0, 0, 0, 0, 0, 0, 1, 0, 0, 0, 0] rfl (by kernel_rfl) ?_
  iterate 2 refine gx ?_
  refine zM (qA rfl) rfl enters123 rfl rfl (v := .int .u32 (rotr ((rounds st (sched B) k).getD 4 0) 6)) (fun w hs => right_c ((rounds st (sched B) k).getD 4 0) 6 w (by omega) (by omega)) ?_
  refine gx ?_
  refine zM (qA rfl) rfl enters123 rfl rfl (v := .int .u32 (rotr ((rounds st (sched B) k).getD 4 0) 11)) (fun w hs => right_c ((rounds st (sched B) k).getD 4 0) 11 w (by omega) (by omega)) ?_
  refine qG (qA rfl) rfl (fun _ => zR rfl rfl rfl (r := (xorI .u32 (rotr ((rounds st (sched B) k).getD 4 0) 6) (rotr ((rounds st (sched B) k).getD 4 0) 11))) rfl) ?_
  refine gx ?_
  refine zM (qA rfl) rfl enters123 rfl rfl (v := .int .u32 (rotr ((rounds st (sched B) k).getD 4 0) 25)) (fun w hs => right_c ((rounds st (sched B) k).getD 4 0) 25 w (by omega) (by omega)) ?_
  refine qG (qA rfl) rfl (fun _ => zR rfl rfl rfl (r := (xorI .u32 (xorI .u32 (rotr ((rounds st (sched B) k).getD 4 0) 6) (rotr ((rounds st (sched B) k).getD 4 0) 11)) (rotr ((rounds st (sched B) k).getD 4 0) 25))) rfl) ?_
  refine qG (qA rfl) rfl (fun _ => zG rfl rfl rfl) ?_
  iterate 2 refine gx ?_
  refine qG (qA rfl) rfl (fun _ => za rfl rfl rfl (r := (andI .u32 ((rounds st (sched B) k).getD 4 0) ((rounds st (sched B) k).getD 5 0))) rfl) ?_
  refine gx ?_
  refine qG (qA rfl) rfl (fun _ => Gets.cplU rfl rfl) ?_
  refine gx ?_
  refine qG (qA rfl) rfl (fun _ => za rfl rfl rfl (r := (andI .u32 (cplI .u32 ((rounds st (sched B) k).getD 4 0)) ((rounds st (sched B) k).getD 6 0))) rfl) ?_
  refine qG (qA rfl) rfl (fun _ => zR rfl rfl rfl (r := (xorI .u32 (andI .u32 ((rounds st (sched B) k).getD 4 0) ((rounds st (sched B) k).getD 5 0)) (andI .u32 (cplI .u32 ((rounds st (sched B) k).getD 4 0)) ((rounds st (sched B) k).getD 6 0)))) rfl) ?_
  refine qG (qA rfl) rfl (fun _ => zG rfl rfl rfl) ?_
  refine gx ?_
  refine qG (qA rfl) rfl (fun _ => qq rfl Tryz.underlying172 size127 rfl rfl (i := k) (by omega) (by omega) (off' := k) (by omega)) ?_
  refine qk (qA rfl) rfl (qS rfl agg127 rfl (At.rowI hK (i := k) (by omega) (by omega) h1 (qE (by show g ≠ 1; omega) (qE (by show g1 ≠ 1; omega) qF)))) ?_
  refine qG (qA rfl) rfl (fun _ => zG rfl rfl rfl) ?_
  refine gx ?_
  refine qG (qA rfl) rfl (fun _ => zG rfl rfl rfl) ?_
  iterate 3 refine gx ?_
  refine qC [0, 5, 6, 7, 8, 9, 10, 11, 12, 15, 51, 52] ?_
  iterate 3 refine gx ?_
  refine qM (qA rfl) rfl enters123 rfl rfl (v := .int .u32 (rotr ((rounds st (sched B) k).getD 0 0) 2)) (fun w hs => right_c ((rounds st (sched B) k).getD 0 0) 2 w (by omega) (by omega)) ?_
  refine gx ?_
  refine qM (qA rfl) rfl enters123 rfl rfl (v := .int .u32 (rotr ((rounds st (sched B) k).getD 0 0) 13)) (fun w hs => right_c ((rounds st (sched B) k).getD 0 0) 13 w (by omega) (by omega)) ?_
  refine qB (qA rfl) rfl (zR rfl rfl rfl (r := (xorI .u32 (rotr ((rounds st (sched B) k).getD 0 0) 2) (rotr ((rounds st (sched B) k).getD 0 0) 13))) rfl) ?_
  refine gx ?_
  refine qM (qA rfl) rfl enters123 rfl rfl (v := .int .u32 (rotr ((rounds st (sched B) k).getD 0 0) 22)) (fun w hs => right_c ((rounds st (sched B) k).getD 0 0) 22 w (by omega) (by omega)) ?_
  refine qB (qA rfl) rfl (zR rfl rfl rfl (r := (xorI .u32 (xorI .u32 (rotr ((rounds st (sched B) k).getD 0 0) 2) (rotr ((rounds st (sched B) k).getD 0 0) 13)) (rotr ((rounds st (sched B) k).getD 0 0) 22))) rfl) ?_
  iterate 2 refine gx ?_
  refine qB (qA rfl) rfl (za rfl rfl rfl (r := (andI .u32 ((rounds st (sched B) k).getD 0 0) ((rounds st (sched B) k).getD 1 0))) rfl) ?_
  iterate 2 refine gx ?_
  refine qB (qA rfl) rfl (za rfl rfl rfl (r := (andI .u32 ((rounds st (sched B) k).getD 0 0) ((rounds st (sched B) k).getD 2 0))) rfl) ?_
  refine qB (qA rfl) rfl (zR rfl rfl rfl (r := (xorI .u32 (andI .u32 ((rounds st (sched B) k).getD 0 0) ((rounds st (sched B) k).getD 1 0)) (andI .u32 ((rounds st (sched B) k).getD 0 0) ((rounds st (sched B) k).getD 2 0)))) rfl) ?_
  iterate 2 refine gx ?_
  refine qB (qA rfl) rfl (za rfl rfl rfl (r := (andI .u32 ((rounds st (sched B) k).getD 1 0) ((rounds st (sched B) k).getD 2 0))) rfl) ?_
  refine qB (qA rfl) rfl (zR rfl rfl rfl (r := (xorI .u32 (xorI .u32 (andI .u32 ((rounds st (sched B) k).getD 0 0) ((rounds st (sched B) k).getD 1 0)) (andI .u32 ((rounds st (sched B) k).getD 0 0) ((rounds st (sched B) k).getD 2 0))) (andI .u32 ((rounds st (sched B) k).getD 1 0) ((rounds st (sched B) k).getD 2 0)))) rfl) ?_
  refine qB (qA rfl) rfl (zG rfl rfl rfl) ?_
  iterate 3 refine gx ?_
  refine qC [0, 5, 6, 7, 8, 9, 10, 11, 12, 15, 16, 51, 52] ?_
  iterate 6 refine gx ?_
  refine qB (qA rfl) rfl (zG rfl rfl rfl) ?_
  iterate 5 refine gx ?_
  refine qB (qA rfl) rfl (zG rfl rfl rfl) ?_
  iterate 11 refine gx ?_
  refine qC [0, 5, 6, 7, 8, 9, 10, 11, 12, 51, 52] ?_
  refine gx ?_
  refine qB (qA rfl) rfl (qR rfl rfl rfl (r := ((k : Int) + 1)) (w64 (by omega) (by omega))) ?_
  iterate 2 refine gx ?_
  exact qj (k + 1) (by omega) (by omega) (qI (i := 0) rfl (qI (i := 51) rfl (qH (i := 52) rfl (by first | omega | rfl) (qH (i := 5) rfl (by first | rfl | omega) (qH (i := 6) rfl (by first | rfl | omega) (qH (i := 7) rfl (by first | rfl | omega) (qH (i := 8) rfl (by first | rfl | omega) (qH (i := 9) rfl (by first | rfl | omega) (qH (i := 10) rfl (by first | rfl | omega) (qH (i := 11) rfl (by first | rfl | omega) (qH (i := 12) rfl (by first | rfl | omega) (qN)))))))))))) (fun w h => h)
 ·obtain rfl : k = 64 := by omega
  generalize hV : rounds st (sched B) 64 = V
  iterate 5 refine gx ?_
  refine qC [0, 5, 6, 7, 8, 9, 10, 11, 12] ?_
  refine gx ?_
  refine qy (by kernel_rfl) [0, 0, 0, 1, 0, 0, 0, 0, 2] rfl (by kernel_rfl) ?_
  refine gx ?_
  refine qG (qA rfl) rfl (fun _ => qO rfl rfl) ?_
  refine qG (qA rfl) rfl (fun _ => qq rfl Tryz.underlying129 size127 rfl rfl (i := 0) (by rfl) (by omega) (off' := 0) (by omega)) ?_
  refine qk (qA rfl) rfl (qS rfl agg127 rfl (qZ (i := 0) (ent := ⟨g, t, st.map (int .u32) ++ (tl), tot⟩) (off := 0) rfl rfl (by exact app_left (i := 0) (B := tl) (qf (kd := .u32) (W := st) (i := 0) (by rw [hst]; omega))))) ?_
  refine gx ?_
  refine qG (qA rfl) rfl (fun _ => zG rfl rfl rfl) ?_
  refine qG (qA rfl) rfl (fun _ => qO rfl rfl) ?_
  refine qG (qA rfl) rfl (fun _ => qq rfl Tryz.underlying129 size127 rfl rfl (i := 0) (by rfl) (by omega) (off' := 0) (by omega)) ?_
  refine TM.store1 (qA rfl) rfl rfl size127 rfl rfl rfl (i := 0) rfl rfl (by simp [hst] <;> omega) (cs' := (addAll st V 1).map (int .u32) ++ (tl)) (set_left (by simp [hst]) (ints_set)) (H' := [⟨g, t, (addAll st V 1).map (int .u32) ++ (tl), tot⟩, ⟨g1, 172, (sched B).map (int .u32), 64⟩]) rfl ?_
  iterate 2 refine gx ?_
  refine qC [0, 6, 7, 8, 9, 10, 11, 12] ?_
  refine gx ?_
  refine qy (by kernel_rfl) [0, 0, 0, 1, 0, 0, 0, 0, 2] rfl (by kernel_rfl) ?_
  refine gx ?_
  refine qG (qA rfl) rfl (fun _ => qO rfl rfl) ?_
  refine qG (qA rfl) rfl (fun _ => qq rfl Tryz.underlying129 size127 rfl rfl (i := 1) (by rfl) (by omega) (off' := 1) (by omega)) ?_
  refine qk (qA rfl) rfl (qS rfl agg127 rfl (qZ (i := 0) (ent := ⟨g, t, (addAll st V 1).map (int .u32) ++ (tl), tot⟩) (off := 1) rfl rfl (by exact app_left (i := 1) (B := tl) (qf (kd := .u32) (W := (addAll st V 1)) (i := 1) (by rw [(addAll_len hst 1)]; omega))))) ?_
  refine gx ?_
  refine qG (qA rfl) rfl (fun _ => zG rfl rfl rfl) ?_
  refine qG (qA rfl) rfl (fun _ => qO rfl rfl) ?_
  refine qG (qA rfl) rfl (fun _ => qq rfl Tryz.underlying129 size127 rfl rfl (i := 1) (by rfl) (by omega) (off' := 1) (by omega)) ?_
  refine TM.store1 (qA rfl) rfl rfl size127 rfl rfl rfl (i := 0) rfl rfl (by simp [(addAll_len hst 1)] <;> omega) (cs' := (addAll st V 2).map (int .u32) ++ (tl)) (set_left (by simp [(addAll_len hst 1)]) (ints_set)) (H' := [⟨g, t, (addAll st V 2).map (int .u32) ++ (tl), tot⟩, ⟨g1, 172, (sched B).map (int .u32), 64⟩]) rfl ?_
  iterate 2 refine gx ?_
  refine qC [0, 7, 8, 9, 10, 11, 12] ?_
  refine gx ?_
  refine qy (by kernel_rfl) [0, 0, 0, 1, 0, 0, 0, 0, 2] rfl (by kernel_rfl) ?_
  refine gx ?_
  refine qG (qA rfl) rfl (fun _ => qO rfl rfl) ?_
  refine qG (qA rfl) rfl (fun _ => qq rfl Tryz.underlying129 size127 rfl rfl (i := 2) (by rfl) (by omega) (off' := 2) (by omega)) ?_
  refine qk (qA rfl) rfl (qS rfl agg127 rfl (qZ (i := 0) (ent := ⟨g, t, (addAll st V 2).map (int .u32) ++ (tl), tot⟩) (off := 2) rfl rfl (by exact app_left (i := 2) (B := tl) (qf (kd := .u32) (W := (addAll st V 2)) (i := 2) (by rw [(addAll_len hst 2)]; omega))))) ?_
  refine gx ?_
  refine qG (qA rfl) rfl (fun _ => zG rfl rfl rfl) ?_
  refine qG (qA rfl) rfl (fun _ => qO rfl rfl) ?_
  refine qG (qA rfl) rfl (fun _ => qq rfl Tryz.underlying129 size127 rfl rfl (i := 2) (by rfl) (by omega) (off' := 2) (by omega)) ?_
  refine TM.store1 (qA rfl) rfl rfl size127 rfl rfl rfl (i := 0) rfl rfl (by simp [(addAll_len hst 2)] <;> omega) (cs' := (addAll st V 3).map (int .u32) ++ (tl)) (set_left (by simp [(addAll_len hst 2)]) (ints_set)) (H' := [⟨g, t, (addAll st V 3).map (int .u32) ++ (tl), tot⟩, ⟨g1, 172, (sched B).map (int .u32), 64⟩]) rfl ?_
  iterate 2 refine gx ?_
  refine qC [0, 8, 9, 10, 11, 12] ?_
  refine gx ?_
  refine qy (by kernel_rfl) [0, 0, 0, 1, 0, 0, 0, 0, 2] rfl (by kernel_rfl) ?_
  refine gx ?_
  refine qG (qA rfl) rfl (fun _ => qO rfl rfl) ?_
  refine qG (qA rfl) rfl (fun _ => qq rfl Tryz.underlying129 size127 rfl rfl (i := 3) (by rfl) (by omega) (off' := 3) (by omega)) ?_
  refine qk (qA rfl) rfl (qS rfl agg127 rfl (qZ (i := 0) (ent := ⟨g, t, (addAll st V 3).map (int .u32) ++ (tl), tot⟩) (off := 3) rfl rfl (by exact app_left (i := 3) (B := tl) (qf (kd := .u32) (W := (addAll st V 3)) (i := 3) (by rw [(addAll_len hst 3)]; omega))))) ?_
  refine gx ?_
  refine qG (qA rfl) rfl (fun _ => zG rfl rfl rfl) ?_
  refine qG (qA rfl) rfl (fun _ => qO rfl rfl) ?_
  refine qG (qA rfl) rfl (fun _ => qq rfl Tryz.underlying129 size127 rfl rfl (i := 3) (by rfl) (by omega) (off' := 3) (by omega)) ?_
  refine TM.store1 (qA rfl) rfl rfl size127 rfl rfl rfl (i := 0) rfl rfl (by simp [(addAll_len hst 3)] <;> omega) (cs' := (addAll st V 4).map (int .u32) ++ (tl)) (set_left (by simp [(addAll_len hst 3)]) (ints_set)) (H' := [⟨g, t, (addAll st V 4).map (int .u32) ++ (tl), tot⟩, ⟨g1, 172, (sched B).map (int .u32), 64⟩]) rfl ?_
  iterate 2 refine gx ?_
  refine qC [0, 9, 10, 11, 12] ?_
  refine gx ?_
  refine qy (by kernel_rfl) [0, 0, 0, 1, 0, 0, 0, 0, 2] rfl (by kernel_rfl) ?_
  refine gx ?_
  refine qG (qA rfl) rfl (fun _ => qO rfl rfl) ?_
  refine qG (qA rfl) rfl (fun _ => qq rfl Tryz.underlying129 size127 rfl rfl (i := 4) (by rfl) (by omega) (off' := 4) (by omega)) ?_
  refine qk (qA rfl) rfl (qS rfl agg127 rfl (qZ (i := 0) (ent := ⟨g, t, (addAll st V 4).map (int .u32) ++ (tl), tot⟩) (off := 4) rfl rfl (by exact app_left (i := 4) (B := tl) (qf (kd := .u32) (W := (addAll st V 4)) (i := 4) (by rw [(addAll_len hst 4)]; omega))))) ?_
  refine gx ?_
  refine qG (qA rfl) rfl (fun _ => zG rfl rfl rfl) ?_
  refine qG (qA rfl) rfl (fun _ => qO rfl rfl) ?_
  refine qG (qA rfl) rfl (fun _ => qq rfl Tryz.underlying129 size127 rfl rfl (i := 4) (by rfl) (by omega) (off' := 4) (by omega)) ?_
  refine TM.store1 (qA rfl) rfl rfl size127 rfl rfl rfl (i := 0) rfl rfl (by simp [(addAll_len hst 4)] <;> omega) (cs' := (addAll st V 5).map (int .u32) ++ (tl)) (set_left (by simp [(addAll_len hst 4)]) (ints_set)) (H' := [⟨g, t, (addAll st V 5).map (int .u32) ++ (tl), tot⟩, ⟨g1, 172, (sched B).map (int .u32), 64⟩]) rfl ?_
  iterate 2 refine gx ?_
  refine qC [0, 10, 11, 12] ?_
  refine gx ?_
  refine qy (by kernel_rfl) [0, 0, 0, 1, 0, 0, 0, 0, 2] rfl (by kernel_rfl) ?_
  refine gx ?_
  refine qG (qA rfl) rfl (fun _ => qO rfl rfl) ?_
  refine qG (qA rfl) rfl (fun _ => qq rfl Tryz.underlying129 size127 rfl rfl (i := 5) (by rfl) (by omega) (off' := 5) (by omega)) ?_
  refine qk (qA rfl) rfl (qS rfl agg127 rfl (qZ (i := 0) (ent := ⟨g, t, (addAll st V 5).map (int .u32) ++ (tl), tot⟩) (off := 5) rfl rfl (by exact app_left (i := 5) (B := tl) (qf (kd := .u32) (W := (addAll st V 5)) (i := 5) (by rw [(addAll_len hst 5)]; omega))))) ?_
  refine gx ?_
  refine qG (qA rfl) rfl (fun _ => zG rfl rfl rfl) ?_
  refine qG (qA rfl) rfl (fun _ => qO rfl rfl) ?_
  refine qG (qA rfl) rfl (fun _ => qq rfl Tryz.underlying129 size127 rfl rfl (i := 5) (by rfl) (by omega) (off' := 5) (by omega)) ?_
  refine TM.store1 (qA rfl) rfl rfl size127 rfl rfl rfl (i := 0) rfl rfl (by simp [(addAll_len hst 5)] <;> omega) (cs' := (addAll st V 6).map (int .u32) ++ (tl)) (set_left (by simp [(addAll_len hst 5)]) (ints_set)) (H' := [⟨g, t, (addAll st V 6).map (int .u32) ++ (tl), tot⟩, ⟨g1, 172, (sched B).map (int .u32), 64⟩]) rfl ?_
  iterate 2 refine gx ?_
  refine qC [0, 11, 12] ?_
  refine gx ?_
  refine qy (by kernel_rfl) [0, 0, 0, 1, 0, 0, 0, 0, 2] rfl (by kernel_rfl) ?_
  refine gx ?_
  refine qG (qA rfl) rfl (fun _ => qO rfl rfl) ?_
  refine qG (qA rfl) rfl (fun _ => qq rfl Tryz.underlying129 size127 rfl rfl (i := 6) (by rfl) (by omega) (off' := 6) (by omega)) ?_
  refine qk (qA rfl) rfl (qS rfl agg127 rfl (qZ (i := 0) (ent := ⟨g, t, (addAll st V 6).map (int .u32) ++ (tl), tot⟩) (off := 6) rfl rfl (by exact app_left (i := 6) (B := tl) (qf (kd := .u32) (W := (addAll st V 6)) (i := 6) (by rw [(addAll_len hst 6)]; omega))))) ?_
  refine gx ?_
  refine qG (qA rfl) rfl (fun _ => zG rfl rfl rfl) ?_
  refine qG (qA rfl) rfl (fun _ => qO rfl rfl) ?_
  refine qG (qA rfl) rfl (fun _ => qq rfl Tryz.underlying129 size127 rfl rfl (i := 6) (by rfl) (by omega) (off' := 6) (by omega)) ?_
  refine TM.store1 (qA rfl) rfl rfl size127 rfl rfl rfl (i := 0) rfl rfl (by simp [(addAll_len hst 6)] <;> omega) (cs' := (addAll st V 7).map (int .u32) ++ (tl)) (set_left (by simp [(addAll_len hst 6)]) (ints_set)) (H' := [⟨g, t, (addAll st V 7).map (int .u32) ++ (tl), tot⟩, ⟨g1, 172, (sched B).map (int .u32), 64⟩]) rfl ?_
  iterate 2 refine gx ?_
  refine qC [0, 12] ?_
  refine qy (by kernel_rfl) [0, 0, 0, 1, 0, 0, 0, 0, 2] rfl (by kernel_rfl) ?_
  refine gx ?_
  refine qG (qA rfl) rfl (fun _ => qO rfl rfl) ?_
  refine qG (qA rfl) rfl (fun _ => qq rfl Tryz.underlying129 size127 rfl rfl (i := 7) (by rfl) (by omega) (off' := 7) (by omega)) ?_
  refine qk (qA rfl) rfl (qS rfl agg127 rfl (qZ (i := 0) (ent := ⟨g, t, (addAll st V 7).map (int .u32) ++ (tl), tot⟩) (off := 7) rfl rfl (by exact app_left (i := 7) (B := tl) (qf (kd := .u32) (W := (addAll st V 7)) (i := 7) (by rw [(addAll_len hst 7)]; omega))))) ?_
  refine gx ?_
  refine qG (qA rfl) rfl (fun _ => zG rfl rfl rfl) ?_
  refine qG (qA rfl) rfl (fun _ => qO rfl rfl) ?_
  refine qG (qA rfl) rfl (fun _ => qq rfl Tryz.underlying129 size127 rfl rfl (i := 7) (by rfl) (by omega) (off' := 7) (by omega)) ?_
  refine TM.store1 (qA rfl) rfl rfl size127 rfl rfl rfl (i := 0) rfl rfl (by simp [(addAll_len hst 7)] <;> omega) (cs' := (addAll st V 8).map (int .u32) ++ (tl)) (set_left (by simp [(addAll_len hst 7)]) (ints_set)) (H' := [⟨g, t, (addAll st V 8).map (int .u32) ++ (tl), tot⟩, ⟨g1, 172, (sched B).map (int .u32), 64⟩]) rfl ?_
  refine gx ?_
  exact TE.end0 rfl (fun w hs => ⟨rfl, by unfold mixS; rw [hV]; exact mix_end hs (by assumption) (by assumption)⟩)
/-
 The tables that start-up lays.
-/
open Go Go.RowKit Go.ChangeShapes Go.WideShapes Go.ChangeAt Go.Joins Go.Deep
theorem g0n : Tryz.prog.globalNamed "graft/sha.squareRoots" = some 0 := by kernel_rfl
theorem g1n : Tryz.prog.globalNamed "graft/sha.cubeRoots" = some 1 := by kernel_rfl
theorem t0n : (Tryz.prog.globals[0]?).map (·.type) = some 128 := by kernel_rfl
theorem t1n : (Tryz.prog.globals[1]?).map (·.type) = some 172 := by kernel_rfl
theorem c0n : Tryz.prog.cellsOf 128 = 8 := by kernel_rfl
theorem c1n : Tryz.prog.cellsOf 172 = 64 := by kernel_rfl
theorem c2n : Tryz.prog.cellsOf 127 = 1 := by kernel_rfl
theorem dIV : (Rows.laid_graft_sha_squareRoots : DataW Unit) = .agg (IV.map fun x => .lit (.int .u32 x)) := by kernel_rfl
theorem dKT : (Rows.laid_graft_sha_cubeRoots : DataW Unit) = .agg (KT.map fun x => .lit (.int .u32 x)) := by kernel_rfl
theorem rowI_of_var {W : World} {nm : String} {g n : Nat} {cs : Array Value} {T : List Int} (hg : Tryz.prog.globalNamed nm = some g) (hv : W.var? Tryz.prog nm = some cs) (hc : cs.toList = T.map (int .u32)) (hn : T.length = n) : RowI W g 0 n .u32 T := fun j hj => by
 rw [Nat.zero_add, World.var?_cell hg hv j, ← Array.getElem?_toList, hc]
 exact qf (by omega)
theorem of_laid {W : World} (h : laidMetH Tryz.prog [("graft/sha.squareRoots", Rows.laid_graft_sha_squareRoots), ("graft/sha.cubeRoots", Rows.laid_graft_sha_cubeRoots)] W) : 1 < W.heap.size ∧ RowI W 0 0 8 .u32 IV ∧ RowI W 1 0 64 .u32 KT := by
 rw [MakeChecks.laidMetH_plain _ _ _ (by kernel_rfl)] at h
 obtain ⟨ps, ⟨g0, t0, cs0, f0, p0, q0, hg0, ht0, hv0, hd0, ⟨g1, t1, cs1, f1, p1, q1, hg1, ht1, hv1, hd1, _, _⟩, _⟩, _, _⟩ := h
 obtain rfl := Option.some.inj (g0n.symm.trans hg0)
 obtain rfl := Option.some.inj (g1n.symm.trans hg1)
 obtain rfl := Option.some.inj (t0n.symm.trans ht0)
 obtain rfl := Option.some.inj (t1n.symm.trans ht1)
 rw [dIV] at hd0
 rw [dKT] at hd1
 have r0 := rowI_of_var g0n hv0 (cells_of_table Tryz.underlying128 Tryz.underlying127 c2n c0n hd0) (n := 8) rfl
 have r1 := rowI_of_var g1n hv1 (cells_of_table Tryz.underlying172 Tryz.underlying127 c2n c1n hd1) (n := 64) rfl
 exact ⟨World.block_lt_of_cell? W _ (r1 0 (by omega)), r0, r1⟩
theorem door_met (os : Os) (args : Array Value) : laidMetH Tryz.prog [("graft/sha.squareRoots", Rows.laid_graft_sha_squareRoots), ("graft/sha.cubeRoots", Rows.laid_graft_sha_cubeRoots)] ((World.doorLaid Tryz.prog 100 os).forCall (fun _ _ => 0) ⟨#[], args, []⟩).memory :=
 laidMetH_of_parts3 (fuel := 8) (laidMet_of_run' 8 (by kernel_rfl) (by kernel_rfl)) (by kernel_rfl) (by kernel_rfl)
/-
 A region that draws its order, with operations that change what the region or the call has made: kind 0 reads nothing that is changed or made, kind 3 makes blocks, kind 7 reads or changes what is made.
-/
section
variable {P : Program} {ops : Array Oper} {md : Region.Mode} {w0 : World} {HB : List Ent}
end
section
variable {P : Program} {ops : Array Oper} {Q : Exit → Act → World → Prop} {n : Sz} {w0 : World} {L L' : List (Nat × Value)} {HB X D : List Ent}
variable {o : Oper} {rest : List Oper} {v u : Value} {x y z : Operand} {k m j : Nat} {t t' e : TypeId} {ks : List Nat} {kd : IntKind} {r : Value → List Ent → Prop} {rs : List (Value → List Ent → Prop)}
end
/-
 A slice of the call's own whose elements have several cells each: 'append' onto it, in the text's order and in a region that draws its order.
-/
section
variable {P : Program} {ops : Array Oper} {Q : Exit → Act → World → Prop} {n : Sz} {w0 : World} {L L' : List (Nat × Value)} {H HB X X0 : List Ent}
variable {o : Oper} {rest : List Oper} {v u : Value} {x y z : Operand} {k m j : Nat} {t t' e : TypeId} {ks : List Nat} {kd : IntKind} {r : Value → List Ent → Prop} {rs : List (Value → List Ent → Prop)}
def OwnS (N : Nat) (t : TypeId) (s : Nat) (v : Value) (n : Nat) (cs : List Value) (He : List Ent) : Prop :=
 cs.length = n * s ∧ ((v = .slice none 0 0 ∧ n = 0 ∧ He = []) ∨ ∃ g cap, v = .slice (some ⟨g, 0, none⟩) n cap ∧ He = [⟨g, t, cs, cap * s⟩] ∧ N ≤ g ∧ n ≤ cap ∧ cap ≤ maxLen)
theorem OwnS.nil (N : Nat) (t : TypeId) (s : Nat) : OwnS N t s (.slice none 0 0) 0 [] [] := ⟨by simp, .inl ⟨rfl, rfl, rfl⟩⟩
theorem OwnS.mono {N N' s nn : Nat} {cs : List Value} {He : List Ent} (h : OwnS N' t s v nn cs He) (hN : N ≤ N') : OwnS N t s v nn cs He := by
 refine ⟨h.1, ?_⟩
 rcases h.2 with h | ⟨g, cap, h1, h2, h3, h4⟩
 ·exact .inl h
 ·exact .inr ⟨g, cap, h1, h2, Nat.le_trans hN h3, h4⟩
theorem OwnS.new {N s nn : Nat} {cs : List Value} {He : List Ent} (h : OwnS N t s v nn cs He) : ∀ e ∈ He, N ≤ e.g := by
 rcases h.2 with ⟨_, _, rfl⟩ | ⟨g, cap, _, rfl, hN, _⟩
 ·intro e he; cases he
 ·intro e he; rw [List.mem_singleton.1 he]; exact hN
theorem OwnS.form {N s nn : Nat} {cs : List Value} {He : List Ent} (h : OwnS N t s v nn cs He) : ∃ A c, v = .slice A nn c ∧ nn ≤ c ∧ c ≤ 9223372036854775807 := by
 rcases h.2 with ⟨rfl, rfl, rfl⟩ | ⟨g, cap, rfl, rfl, hN, hc, hm⟩
 ·exact ⟨none, 0, rfl, Nat.le_refl _, by omega⟩
 ·exact ⟨_, cap, rfl, hc, by unfold maxLen at hm; omega⟩
theorem OwnS.row {w : World} {N s nn : Nat} {cs : List Value} {He : List Ent} (h : OwnS N t s v nn cs He) (hs : ∀ e ∈ He, e.lies w) : w.ownsRow N t s v nn cs := by
 refine ⟨h.1, ?_⟩
 rcases h.2 with ⟨rfl, rfl, rfl⟩ | ⟨g, cap, rfl, rfl, hN, hc, hm⟩
 ·exact .inl ⟨rfl, rfl⟩
 ·obtain ⟨cur, h1, h2, h3⟩ := hs _ (List.mem_singleton.2 rfl)
  refine .inr ⟨g, cap, cur, rfl, hN, h1, hc, hm, h2, ?_⟩
  rw [← h.1]
  apply List.ext_getElem?
  intro i
  simp only [List.getElem?_take]
  by_cases hi : i < cs.length
  ·rw [if_pos hi]
   have := h3 i _ (List.getElem?_eq_getElem hi)
   rw [List.getElem?_eq_getElem hi, Array.getElem?_toList]; exact this
  ·rw [if_neg hi, List.getElem?_eq_none (by omega)]
theorem ownS_of_row {w : World} {N s nn : Nat} {cs : List Value} (h : w.ownsRow N t s v nn cs) : ∃ He, OwnS N t s v nn cs He ∧ (He = [] ∨ ∃ e, He = [e] ∧ e.lies w ∧ N ≤ e.g ∧ v.ownBlock = some e.g) := by
 rcases h.2 with ⟨rfl, rfl⟩ | ⟨g, cap, cur, rfl, hN, h1, hc, hm, hsz, ht⟩
 ·exact ⟨[], ⟨h.1, .inl ⟨rfl, rfl, rfl⟩⟩, .inl rfl⟩
 ·refine ⟨[⟨g, t, cs, cap * s⟩], ⟨h.1, .inr ⟨g, cap, rfl, rfl, hN, hc, hm⟩⟩, .inr ⟨_, rfl, ⟨cur, h1, hsz, ?_⟩, hN, rfl⟩⟩
  intro i u hu
  have hi : i < cs.length := (List.getElem?_eq_some_iff.1 hu).1
  have h2 : (cur.toList.take (nn * s))[i]? = some u := by rw [ht]; exact hu
  rw [← h.1] at h2
  simpa [List.getElem?_take, hi] using h2
def SrcV (w : World) (As : Option Addr) (m : Nat) (news : List Value) : Prop := (As = none ∧ m = 0) ∨ ∃ a, As = some a ∧ ∀ j u, news[j]? = some u → w.cell? (a.add j) = some u
theorem run_append_none {w : World} {s nn bytes sc : Nat} {N : Nat} {cs : List Value} {He : List Ent} {zv : Value} {ty : TypeId} (h1 : P.underlying t = some (.slice e)) (hz : (P.info? e).map (fun i => (i.zero, i.size, i.bytes)) = some (some zv, s, bytes)) (h : OwnS N e s v nn cs He) :
  (Builtin.append_ #[t, t] ty #[v, .slice none 0 sc]).run P w = .ok v w := by
 obtain ⟨i, hi1, hi2⟩ := Option.map_eq_some_iff.1 hz
 rcases h.2 with ⟨rfl, rfl, rfl⟩ | ⟨g, cap, rfl, rfl, hN, hc, hm⟩
 ·simp [Builtin.append_, Sem.run_bind, run_under h1, sizeOf, typeInfo, hi1, Builtin.firstCells, Builtin.lenOf]
 ·simp [Builtin.append_, Sem.run_bind, run_under h1, sizeOf, typeInfo, hi1, Builtin.firstCells, Builtin.lenOf, storeCells, hc]
theorem run_appendS {w : World} {As : Option Addr} {s nn m sc bytes N : Nat} {cs news : List Value} {He : List Ent} {zv : Value} {ty : TypeId} (h1 : P.underlying t = some (.slice e)) (hz : (P.info? e).map (fun i => (i.zero, i.size, i.bytes)) = some (some zv, s, bytes)) (hzc : zv.cells.size = s) (hs0 : 0 < s)
  (hown : OwnS N e s v nn cs He) (hs : St w0 (H ++ He) w) (hN : N ≤ w0.heap.size) (hN2 : w0.heap.size ≤ N) (hl : news.length = m * s) (hsrc : SrcV w As m news) (h1c : ∀ u ∈ news, u.oneCell' = true) (h63 : nn + m ≤ maxLen) (hbytes : (nn + m) * bytes ≤ 140737488355328) (hsc : As = none → sc = sc) :
  ∃ v' w' He', (Builtin.append_ #[t, t] ty #[v, .slice As m sc]).run P w = .ok v' w' ∧ OwnS N e s v' (nn + m) (cs ++ news) He' ∧ St w0 (H ++ He') w' := by
 obtain rfl : N = w0.heap.size := by omega
 rcases hsrc with ⟨rfl, rfl⟩ | ⟨a, rfl, hcells⟩
 ·have hn : news = [] := List.length_eq_zero_iff.1 (by rw [hl]; simp)
  subst hn
  exact ⟨v, w, He, run_append_none h1 hz hown, by rw [List.append_nil, Nat.add_zero]; exact hown, hs⟩
 ·obtain ⟨i, hi1, hi2⟩ := Option.map_eq_some_iff.1 hz
  simp only [Prod.mk.injEq] at hi2
  obtain ⟨hz1, hz2, hz3⟩ := hi2
  have hrow := hown.row (w := w) hs.right
  obtain ⟨v', w', hrun, hrow', hgrown, hblk0, h6⟩ := run_append_own_at (P := P) w w0.heap.size t ty e i zv s bytes h1 hi1 hz1 hz2 hz3 hzc hs0 v nn cs hrow a m sc news hl hcells h1c h63 hbytes hs.size
  obtain ⟨He', hown', hHe⟩ := ownS_of_row hrow'
  refine ⟨v', w', He', hrun, hown', St.regrow hs hgrown ?_ ?_ ?_ ?_⟩
  ·rcases hown.2 with ⟨rfl, _, rfl⟩ | ⟨g, cap, rfl, rfl, _⟩
   ·simp
   ·simp [Value.ownBlock]
  ·rcases hown.2 with ⟨rfl, _, rfl⟩ | ⟨g, cap, rfl, rfl, hN, _⟩
   ·simp [Value.ownBlock]
   ·simp only [Value.ownBlock]; rintro b hb; cases hb; exact hN
  ·rcases hown.2 with ⟨rfl, _, rfl⟩ | ⟨g, cap, rfl, rfl, hN, _⟩
   ·simp [Value.ownBlock]
   ·intro c hc heq
    simp only [Value.ownBlock, Option.some.injEq] at heq
    exact (List.pairwise_append.1 hs.apart).2.2 c hc _ (List.mem_singleton.2 rfl) heq
  ·rcases hHe with h | ⟨d, h, hd, hdN, hdv⟩
   ·exact .inl h
   ·refine .inr ⟨d, h, hd, hdN, ?_⟩
    rcases h6 with hb | hb
    ·left; rw [← hdv, hb]
    ·right; have := Option.some.inj (hb.symm.trans hdv); omega
theorem TL.appendS {As : Option Addr} {s nn sc bytes : Nat} {cs news : List Value} {He : List Ent} {zv : Value} (hg : Wants n ops L o) (hi' : inside n o.dst = true) (ho : o.op = .call { callee := .builtin .append, args := #[x, y], argTypes := #[t, t] })
  (h1 : P.underlying t = some (.slice e)) (hz : (P.info? e).map (fun i => (i.zero, i.size, i.bytes)) = some (some zv, s, bytes)) (hzc : zv.cells.size = s) (hs0 : 0 < s)
  (hx : ev L x = some v) (hy : ev L y = some (.slice As m sc)) (hown : OwnS w0.heap.size e s v nn cs He) (hl : news.length = m * s) (hsrc : ∀ w, St w0 (H ++ He) w → SrcV w As m news) (h1c : ∀ u ∈ news, u.oneCell' = true)
  (h63 : nn + m ≤ maxLen) (hbytes : (nn + m) * bytes ≤ 140737488355328)
  (hr : ∀ v' He', OwnS w0.heap.size e s v' (nn + m) (cs ++ news) He' → TL P ops Q n w0 rest (put L o.dst v') (H ++ He')) : TL P ops Q n w0 (o :: rest) L (H ++ He) :=
 fun a w hf hs => wpL_wants hg.nd (hg a hf) fun K hK => by
  obtain ⟨v', w', He', hrun, hown', hst⟩ := run_appendS (P := P) (t := t) (ty := o.type) (sc := sc) h1 hz hzc hs0 hown hs (Nat.le_refl _) (Nat.le_refl _) hl (hsrc w hs) h1c h63 hbytes (fun _ => rfl)
  have hrun' : (execOp a.eval o).run P w = .ok (.value v') w' := by
   simp only [execOp, ho, resolve, invoke, builtin, Sem.run_bind, Sem.run_pure, Result.andThen_ok, List.map_toArray, List.map_cons, List.map_nil, hf.eval hx, hf.eval hy, hrun]
  unfold Oper.wp; rw [hrun']
  exact hK _ _ (hr v' He' hown' _ _ (hf.put o.dst _ hi') hst)
end
theorem lies_srcV {w : World} {g t tot m : Nat} {cs : List Value} (h : Ent.lies ⟨g, t, cs, tot⟩ w) : SrcV w (some ⟨g, 0, none⟩) m cs := .inr ⟨_, rfl, fun j u hu => by
 rw [addr_add, Nat.zero_add]; exact h.cell hu⟩
/-
 Fields: numbers with sizes; what they are written as.
-/
structure FV where
 x : Int
 n : Int
def NumF (f : FV) : Prop := (0 ≤ f.x ∧ f.x ≤ 18446744073709551615) ∧ (-9223372036854775808 ≤ f.n ∧ f.n ≤ 9223372036854775807)
def NumsF (Fs : List FV) : Prop := ∀ (i : Nat) (f : FV), Fs[i]? = some f → NumF f
def cellsF (f : FV) : List Value := [.int .u64 f.x, .int .i64 f.n]
def RowsF (w : World) (b off : Nat) (Fs : List FV) : Prop := ∀ (i : Nat) (x : FV), Fs[i]? = some x → ∀ j u, (cellsF x)[j]? = some u → w.cell? ⟨b, off + 2 * i + j, none⟩ = some u
def SrcF (w : World) (A : Option Addr) (m : Nat) (Fs : List FV) : Prop := Fs.length = m ∧ (m = 0 ∨ ∃ b off, A = some ⟨b, off, none⟩ ∧ b < w.heap.size ∧ RowsF w b off Fs)
theorem SrcF.at_ {w0 w : World} {H : List Ent} {A : Option Addr} {m : Nat} {Fs : List FV} (h : SrcF w0 A m Fs) (hs : St w0 H w) (hH : ∀ b, b < w0.heap.size → ∀ e ∈ H, e.g ≠ b) : SrcF w A m Fs := by
 refine ⟨h.1, ?_⟩
 rcases h.2 with h | ⟨b, off, hA, hb, hr⟩
 ·exact .inl h
 ·refine .inr ⟨b, off, hA, Nat.lt_of_lt_of_le hb hs.size, fun i x hx j u hu => ?_⟩
  rw [hs.old_cell (ad := ⟨b, _, none⟩) hb (hH b hb)]
  exact hr i x hx j u hu
theorem SrcF.some_ {w : World} {A : Option Addr} {m i : Nat} {Fs : List FV} (h : SrcF w A m Fs) (hi : i < m) : ∃ b off, A = some ⟨b, off, none⟩ ∧ b < w.heap.size ∧ RowsF w b off Fs := h.2.resolve_left (by omega)
theorem SrcF.get {w : World} {A : Option Addr} {m i : Nat} {Fs : List FV} (h : SrcF w A m Fs) (hi : i < m) : ∃ x, Fs[i]? = some x := ⟨_, List.getElem?_eq_getElem (by rw [h.1]; exact hi)⟩
def flatF (Fs : List FV) : List Value := Fs.flatMap cellsF
theorem cellsF_len (x : FV) : (cellsF x).length = 2 := rfl
theorem flatF_app (Fs Es : List FV) : flatF (Fs ++ Es) = flatF Fs ++ flatF Es := by unfold flatF; rw [List.flatMap_append]
theorem flatF_one (x : FV) : flatF [x] = cellsF x := by unfold flatF; simp
theorem flatF_get : ∀ {Fs : List FV} {i : Nat} {x : FV} {j : Nat} {u : Value}, Fs[i]? = some x → (cellsF x)[j]? = some u → (flatF Fs)[2 * i + j]? = some u
 | [], i, x, j, u, h, _ => by simp at h
 | y :: l, 0, x, j, u, h, hu => by
  simp at h; subst h
  have hj : j < 2 := by have := (List.getElem?_eq_some_iff.1 hu).1; rw [cellsF_len] at this; exact this
  show (flatF ([y] ++ l))[2 * 0 + j]? = some u
  rw [flatF_app, flatF_one, List.getElem?_append_left (by rw [cellsF_len]; omega), Nat.mul_zero, Nat.zero_add]; exact hu
 | y :: l, i + 1, x, j, u, h, hu => by
  simp at h
  show (flatF ([y] ++ l))[2 * (i + 1) + j]? = some u
  rw [flatF_app, flatF_one, List.getElem?_append_right (by rw [cellsF_len]; omega), cellsF_len]
  have := flatF_get (Fs := l) h hu
  rw [← this]; congr 1; omega
theorem calls_yes {Pr : Program} {f : FuncId} {args : Array Value} {w : World} {p : Prop} [Decidable p] (hp : p) (h : Calls Pr f args w fun e w' => e = .returned (.bool (decide p)) ∧ St w [] w') : Calls Pr f args w fun e w' => e = .returned (.bool true) ∧ St w [] w' := by
 rw [decide_eq_true hp] at h; exact h
structure WF where
 i : Nat
 v1 : Value
 H1 : List Ent
 v2 : Value
 W : List Int
 H2 : List Ent
def fitV (x n : Int) : Prop := 1 ≤ n ∧ n ≤ 8 ∧ (n = 8 ∨ shrI .u64 x (8 * n) = 0)
instance (x n : Int) : Decidable (fitV x n) := by unfold fitV; infer_instance
def beP (x n : Int) (k : Nat) : List Int := (List.range k).map fun (i : Nat) => IntKind.u8.wrap (shrI .u64 x (8 * n - 8 * (i : Int) - 8))
def beV (x n : Int) : List Int := beP x n n.toNat
theorem beP_len (x n : Int) (k : Nat) : (beP x n k).length = k := by simp [beP]
theorem beP_zero (x n : Int) : beP x n 0 = [] := rfl
theorem beP_succ (x n : Int) (k : Nat) : beP x n (k + 1) = beP x n k ++ [IntKind.u8.wrap (shrI .u64 x (8 * n - 8 * (k : Int) - 8))] := by
 unfold beP; rw [List.range_succ, List.map_append]; rfl
theorem beV_len (x n : Int) : (beV x n).length = n.toNat := beP_len x n _
structure WN where
 k : Nat
 v : Value
 He : List Ent
def encF : List FV → List Int
 | [] => []
 | f :: l => beV f.x f.n ++ encF l
def fitAll (Fs : List FV) : Prop := ∀ f ∈ Fs, fitV f.x f.n
theorem encF_app (Fs Gs : List FV) : encF (Fs ++ Gs) = encF Fs ++ encF Gs := by
 induction Fs with
 | nil => rfl
 | cons f l ih => simp [encF, ih]
theorem encF_one (f : FV) : encF [f] = beV f.x f.n := by simp [encF]
theorem take_one {α : Type} {Fs : List α} {i : Nat} {f : α} (h : Fs[i]? = some f) : Fs.take (i + 1) = Fs.take i ++ [f] := by rw [List.take_add_one, h, Option.toList_some]
theorem encF_take {Fs : List FV} {i : Nat} {f : FV} (h : Fs[i]? = some f) : encF (Fs.take (i + 1)) = encF (Fs.take i) ++ beV f.x f.n := by
 rw [List.take_add_one, h, Option.toList_some, encF_app, encF_one]
theorem encF_le {Fs : List FV} (h : fitAll Fs) : (encF Fs).length ≤ 8 * Fs.length := by
 induction Fs with
 | nil => simp [encF]
 | cons f l ih =>
  have h1 := h f List.mem_cons_self
  have h2 := ih (fun g hg => h g (List.mem_cons_of_mem _ hg))
  unfold fitV at h1
  simp only [encF, List.length_append, beV_len, List.length_cons]; omega
def fitAllB (Fs : List FV) : Bool := Fs.all fun f => decide (fitV f.x f.n)
theorem fitAllB_iff (Fs : List FV) : fitAllB Fs = true ↔ fitAll Fs := by
 unfold fitAllB fitAll; rw [List.all_eq_true]; simp
instance (Fs : List FV) : Decidable (fitAll Fs) := decidable_of_iff _ (fitAllB_iff Fs)
theorem fitAll_nil : fitAll [] := fun f hf => by cases hf
theorem fitAll_take {Fs : List FV} {i : Nat} {f : FV} (h : Fs[i]? = some f) : fitAll (Fs.take (i + 1)) ↔ fitAll (Fs.take i) ∧ fitV f.x f.n := by
 unfold fitAll
 rw [List.take_add_one, h, Option.toList_some]
 constructor
 ·intro H; exact ⟨fun g hg => H g (List.mem_append_left _ hg), H f (List.mem_append_right _ (List.mem_singleton.2 rfl))⟩
 ·rintro ⟨h1, h2⟩ g hg
  rcases List.mem_append.1 hg with hg | hg
  ·exact h1 g hg
  ·rw [List.mem_singleton.1 hg]; exact h2
/-
 A number that is written and read back.
-/
def valB (B : List Int) : Int := B.foldl (fun a b => 256 * a + b) 0
theorem valB_snoc (B : List Int) (b : Int) : valB (B ++ [b]) = 256 * valB B + b := by unfold valB; rw [List.foldl_append]; rfl
theorem shr_nat {x q : Nat} (hq : q ≤ 64) : shrI .u64 (x : Int) (q : Int) = ((x / 2 ^ q : Nat) : Int) := by
 have hm : min q IntKind.u64.bits = q := Nat.min_eq_left hq
 unfold shrI
 rw [Int.toNat_natCast, hm, Int.fdiv_eq_ediv_of_nonneg _ (Int.le_of_lt (Int.pow_pos (by decide))), Int.natCast_ediv, Int.natCast_pow]; rfl
theorem wrap8_nat (y : Nat) : IntKind.u8.wrap (y : Int) = ((y % 256 : Nat) : Int) := by
 simp [IntKind.wrap, IntKind.signed, IntKind.bits]
theorem val_be {x n : Nat} (hn : n ≤ 8) : ∀ k, k ≤ n → valB (beP (x : Int) (n : Int) k) = ((x / 2 ^ (8 * n - 8 * k) % 256 ^ k : Nat) : Int)
 | 0, _ => by simp [beP, valB, Nat.mod_one]
 | k + 1, hk => by
  have ih := val_be (x := x) hn k (by omega)
  rw [beP_succ, valB_snoc, ih]
  have hq : (8 * (n : Int) - 8 * (k : Int) - 8) = ((8 * n - 8 * (k + 1) : Nat) : Int) := by omega
  rw [hq, shr_nat (by omega), wrap8_nat]
  have h1 : x / 2 ^ (8 * n - 8 * k) = x / 2 ^ (8 * n - 8 * (k + 1)) / 256 := by
   rw [Nat.div_div_eq_div_mul, show (256 : Nat) = 2 ^ 8 by rfl, ← Nat.pow_add, show 8 * n - 8 * (k + 1) + 8 = 8 * n - 8 * k by omega]
  rw [h1, show (256 : Nat) ^ (k + 1) = 256 * 256 ^ k by rw [Nat.pow_succ, Nat.mul_comm], Nat.mod_mul]
  generalize x / 2 ^ (8 * n - 8 * (k + 1)) = y
  generalize y / 256 % 256 ^ k = z
  omega
theorem val_beV {x n : Int} (hx : 0 ≤ x ∧ x ≤ 18446744073709551615) (hf : fitV x n) : valB (beV x n) = x := by
 obtain ⟨h1, h2, h3⟩ := hf
 obtain ⟨y, rfl⟩ := Int.eq_ofNat_of_zero_le hx.1
 obtain ⟨m, rfl⟩ := Int.eq_ofNat_of_zero_le (show 0 ≤ n by omega)
 unfold beV
 rw [Int.toNat_natCast, val_be (by omega) m (Nat.le_refl _), Nat.sub_self, Nat.pow_zero, Nat.div_one]
 congr 1
 apply Nat.mod_eq_of_lt
 rw [show (256 : Nat) = 2 ^ 8 by rfl, ← Nat.pow_mul]
 rcases h3 with h3 | h3
 ·have : m = 8 := by omega
  subst this
  omega
 ·rw [show (8 * (m : Int)) = ((8 * m : Nat) : Int) by omega, shr_nat (by omega)] at h3
  have h4 : y / 2 ^ (8 * m) = 0 := by omega
  exact (Nat.div_eq_zero_iff_lt (Nat.pow_pos (by omega))).1 h4
/-
 A slice of structs is made.
-/
variable {P : Program} {ops : Array Oper} {Q : Exit → Act → World → Prop} {n : Sz} {w0 : World} {L L' : List (Nat × Value)} {H : List Ent}
variable {o : Oper} {rest : List Oper} {v u : Value} {x y z : Operand} {k m j : Nat} {t t' e : TypeId} {kd kd' : IntKind} {p q r : Int}
theorem rep_get {zs : List Value} {s : Nat} (hs : zs.length = s) : ∀ (c i : Nat), i < c * s → (List.replicate c zs).flatten[i]? = zs[i % s]?
 | 0, i, h => by omega
 | c + 1, i, h => by
  have hs0 : 0 < s := by
   rcases Nat.eq_zero_or_pos s with h0 | h0
   ·subst h0; simp at h
   ·exact h0
  rw [List.replicate_succ, List.flatten_cons]
  by_cases hi : i < s
  ·rw [List.getElem?_append_left (by omega), Nat.mod_eq_of_lt hi]
  ·rw [List.getElem?_append_right (by omega), hs, rep_get hs c (i - s) (by rw [Nat.succ_mul] at h; omega), ← Nat.mod_eq_sub_mod (by omega)]
theorem rep_len {zs : List Value} {s : Nat} (hs : zs.length = s) (c : Nat) : (List.replicate c zs).flatten.length = c * s := by
 induction c with
 | zero => simp
 | succ c ih => rw [List.replicate_succ, List.flatten_cons, List.length_append, ih, hs, Nat.succ_mul]; omega
theorem madeCellsS {zs : List Value} {s : Nat} (hs : zs.length = s) (h0 : 0 < s) (c : Nat) : ((Array.range (c * s)).map (fun i => zs.toArray[i % s]!)).toList = (List.replicate c zs).flatten := by
 apply List.ext_getElem?
 intro i
 by_cases h : i < c * s
 ·rw [rep_get hs c i h]
  have hm : i % s < zs.length := by rw [hs]; exact Nat.mod_lt _ h0
  simp only [Array.toList_map, List.getElem?_map]
  rw [Array.toList_range, List.getElem?_range h]
  rw [List.getElem?_eq_getElem hm]
  simp [hm]
 ·rw [List.getElem?_eq_none (by simp; omega), List.getElem?_eq_none (by rw [rep_len hs]; omega)]
theorem TL.makeSliceS {zv : Value} {zs : List Value} {ln cp bytes s : Nat} (hg : Wants n ops L o) (hi : inside n o.dst = true) (ho : o.op = .makeSlice t x y) (h1 : P.underlying t = some (.slice e))
  (hz : (P.info? e).map (fun i => (i.zero, i.size, i.bytes)) = some (some zv, s, bytes)) (hzc : zv.cells = zs.toArray) (hzl : zs.length = s) (hs0 : 0 < s)
  (hx : ev L x = some (.int kd p)) (hy : ev L y = some (.int kd' q)) (hp : p = (ln : Int)) (hq : q = (cp : Int)) (hle : ln ≤ cp) (hcp : cp ≤ 9223372036854775807) (hb : cp * bytes ≤ 281474976710656)
  {cs : List Value} {tot : Nat} (hcs : (List.replicate cp zs).flatten = cs) (htot : cp * s = tot)
  (hr : ∀ g, w0.heap.size ≤ g → TL P ops Q n w0 rest (put L o.dst (.slice (some ⟨g, 0, none⟩) ln cp)) (⟨g, e, cs, tot⟩ :: H)) : TL P ops Q n w0 (o :: rest) L H :=
 fun a w hf hs => wpL_wants hg.nd (hg a hf) fun K hK => by
  obtain ⟨i, hi1, hi2⟩ := Option.map_eq_some_iff.1 hz
  simp only [Prod.mk.injEq] at hi2
  obtain ⟨hz1, hz2, hz3⟩ := hi2
  subst hp; subst hq; subst hcs; subst htot
  have hrun : ∃ arr : Array Value, arr.toList = (List.replicate cp zs).flatten ∧ (execOp a.eval o).run P w = .ok (.value (.slice (some ⟨w.heap.size, 0, none⟩) ln cp)) (w.alloc (.cells arr e)) := by
   have hlw : IntKind.i64.wrap (ln : Int) = ln := IntWalk.i64_in _ (by omega)
   have hcw : IntKind.i64.wrap (cp : Int) = cp := IntWalk.i64_in _ (by omega)
   have hbytes : ¬ ((i.bytes : Int) * (cp : Int) > 2 ^ 48) := by
    rw [hz3]
    have : (bytes : Int) * (cp : Int) = ((cp * bytes : Nat) : Int) := by rw [Nat.mul_comm]; simp
    rw [this]; omega
   have hroom : ∀ (b : Nat) (ww : World), (askRoom b).run P ww = .ok () ww := by
    intro b ww
    unfold askRoom
    split <;> rfl
   have hsz : zv.cells.size = s := by rw [hzc]; simpa using hzl
   by_cases h0 : cp = 0
   ·subst h0
    obtain rfl : ln = 0 := by omega
    refine ⟨#[], by simp, ?_⟩
    simp only [execOp, ho, hf.eval hx, hf.eval hy]
    refine run_value ?_
    have hw0 : IntKind.i64.wrap 0 = 0 := by decide
    have hr0 : Array.range 0 = #[] := rfl
    simp [hr0, Instr.makeSlice, Sem.run_bind, run_under h1, asInt, asIntOf, run_info hi1, hw0, hroom, sizeOf, hz2, newRow, newObj, Sem.run]
   ·refine ⟨(Array.range (cp * s)).map (fun i => zs.toArray[i % s]!), madeCellsS hzl hs0 cp, ?_⟩
    simp only [execOp, ho, hf.eval hx, hf.eval hy]
    refine run_value ?_
    have hns : ¬ (cp * s = 0) := fun hc => by rcases Nat.mul_eq_zero.1 hc with h | h <;> omega
    simp [Instr.makeSlice, Sem.run_bind, run_under h1, asInt, asIntOf, run_info hi1, hlw, hcw, hbytes, hroom, sizeOf, hz2, zeroValue, hz1, hzc, hzl, newRow, newObj, Sem.run, hns]
    have e1 : ¬ (cp : Int) < 0 := by omega
    have e2 : ¬ (ln : Int) < 0 := by omega
    have e3 : ¬ (cp : Int) < (ln : Int) := by omega
    have e4 : ¬ ((2 : Int) ^ 48 < (i.bytes : Int) * (cp : Int)) := hbytes
    have e5 : ¬ s = 0 := by omega
    simp [e2, e3, h0, e5, hzc, hzl]
    simp at e4
    try omega
  obtain ⟨arr, ha, hrun⟩ := hrun
  unfold Oper.wp; rw [hrun]
  have hst := hs.alloc e _ arr ha
  rw [rep_len hzl] at hst
  exact hK _ _ (hr _ hs.size _ _ (hf.put o.dst _ hi) hst)
section
variable {HB X D : List Ent} {ks : List Nat} {r' : Value → List Ent → Prop} {rs : List (Value → List Ent → Prop)}
end
/-
 A range over a function whose iterator keeps state of its own in cells: the iterator's contract, and one law for the statement.
-/
structure Beside (lo hi : Nat) (A B : World) : Prop where
 os : B.os = A.os
 tape : B.tape = A.tape
 output : B.output = A.output
 size : A.heap.size ≤ B.heap.size
 block : ∀ k, k < A.heap.size → ¬ (lo ≤ k ∧ k < hi) → B.heap[k]? = A.heap[k]?
theorem Beside.mono {lo hi lo' hi' : Nat} {A B : World} (h : Beside lo hi A B) (h1 : lo' ≤ lo) (h2 : hi ≤ hi') : Beside lo' hi' A B :=
 ⟨h.os, h.tape, h.output, h.size, fun k hk hn => h.block k hk (fun hc => hn ⟨Nat.le_trans h1 hc.1, Nat.lt_of_lt_of_le hc.2 h2⟩)⟩
theorem Beside.alloc (lo hi : Nat) (A : World) (o : Obj) : Beside lo hi A (A.alloc o) := ⟨rfl, rfl, rfl, by simp, fun k hk _ => Below.heap_alloc A o k hk⟩
theorem Beside.putObj {lo hi : Nat} (A : World) (r : Nat) (o : Obj) (h1 : lo ≤ r) (h2 : r < hi) : Beside lo hi A (A.putObj r o) :=
 ⟨rfl, rfl, rfl, by simp, fun k _ hn => World.putObj_heap_other (fun e => hn (by rw [e]; exact ⟨h1, h2⟩))⟩
structure Keeps (Ks : Nat → Prop) (A B : World) : Prop where
 size : A.heap.size ≤ B.heap.size
 block : ∀ k, Ks k → k < A.heap.size → B.heap[k]? = A.heap[k]?
theorem Keeps.trans {Ks : Nat → Prop} {A B C : World} (h : Keeps Ks A B) (k : Keeps Ks B C) : Keeps Ks A C :=
 ⟨Nat.le_trans h.size k.size, fun i hi hl => (k.block i hi (Nat.lt_of_lt_of_le hl h.size)).trans (h.block i hi hl)⟩
theorem Keeps.mono {Ks Ks' : Nat → Prop} {A B : World} (h : Keeps Ks A B) (hs : ∀ k, Ks' k → Ks k) : Keeps Ks' A B := ⟨h.size, fun k hk => h.block k (hs k hk)⟩
theorem Keeps.putObj {Ks : Nat → Prop} (A : World) (r : Nat) (o : Obj) (h : ¬ Ks r) : Keeps Ks A (A.putObj r o) :=
 ⟨by simp, fun k hk _ => World.putObj_heap_other (fun e => h (by rw [← e]; exact hk))⟩
def IterC (F : Fence) (n : Nat) (P : Program) (g : Nat) (lb : Array Value) (encs : Nat → Array Value) (N c : Nat) (Cap : Nat → Prop) (w0 : World) : Prop :=
 ∀ (l : Nat) (J Jx : Nat → World → Prop) (W : World), Below w0.heap.size w0 W →
  (∀ s A B, J s A → Beside W.heap.size (W.heap.size + c) A B → J s B) →
  (∀ s A B, Jx s A → Beside W.heap.size (W.heap.size + c) A B → Jx s B) →
  (∀ i W1, i < N → J i W1 → W.heap.size + c ≤ W1.heap.size → YieldAt F (n - 1) P l (encs i) W1 fun e W' =>
   (e = .returned (.bool true) ∧ J (i + 1) W' ∧ Keeps (fun k => (W.heap.size ≤ k ∧ k < W.heap.size + c) ∨ Cap k) W1 W') ∨ (e = .returned (.bool false) ∧ Jx (i + 1) W' ∧ W1.heap.size ≤ W'.heap.size)) →
  J 0 W →
  CallsIn F n P g (#[.func (.yield l) #[] #[]] ++ lb) W fun e W' => (∃ v, e = .returned v) ∧ (J N W' ∨ ∃ i, i < N ∧ Jx (i + 1) W')
def itPost (Ks : Nat → Prop) (I : Nat → World → Prop) (Ix : Code → Nat → World → Prop) (i : Nat) (W : World) : Exit → Act → World → Prop
 | .normal, _, W' => Keeps Ks W W' ∧ I i W'
 | .ret, _, W' => Keeps Ks W W' ∧ Ix .ret i W'
 | .exit id, _, W' => Keeps Ks W W' ∧ Ix (.exit id) i W'
 | .goto t, _, W' => Keeps Ks W W' ∧ Ix (.goto t) i W'
 | .panic _, _, _ => False
 | .outgrown, _, _ => False
variable {F : Fence} {n : Nat} {P : Program}
theorem wpIn_rangeFunc_it {g : Operand} {ps : Array Tmp} {assign body : Code} {Q : Exit → Act → World → Prop} {a : Act} {w : World}
  (hro : F.round = none) (h1 : 1 ≤ n) {gf : Nat} {lb : Array Value} (hg : a.eval g = .func (.func gf) #[] lb) (hFg : F.fn gf) (eg : ∀ args w, (callFunc gf args).run P w = .ok (.enter gf args) w)
  {encs : Nat → Array Value} {N c : Nat} {Cap : Nat → Prop} {w0 : World} (hseq : IterC F (n - 1) P gf lb encs N c Cap w0)
  (hb0 : Below w0.heap.size w0 w) (hcap : ∀ k, Cap k → k < w.heap.size) (hps : ∀ i, (encs i).size = ps.size)
  (I : Nat → World → Prop) (Ix : Code → Nat → World → Prop) (Ax : Nat → Act → World → Prop)
  (hI : ∀ s A B, I s A → Beside w.heap.size (w.heap.size + 2 + c) A B → I s B)
  (hIx : ∀ j s A B, Ix j s A → Beside w.heap.size (w.heap.size + 2 + c) A B → Ix j s B)
  (hAx : ∀ s a A B, Ax s a A → Beside w.heap.size (w.heap.size + 2 + c) A B → Ax s a B)
  (h0 : I 0 w)
  (hassign : ∀ (l i : Nat) (W : World), i < N → I i W → w.heap.size + 2 + c ≤ W.heap.size → assign.wpIn (F.inRound l) (n - 1 - 1) P
   (Exit.then (fun a₁ W₁ => Ax i a₁ W₁ ∧ Keeps (fun k => (w.heap.size ≤ k ∧ k < w.heap.size + 2 + c) ∨ Cap k) W W₁) (fun _ _ _ => False))
   { tmps := (ps.zip (encs i)).foldl (fun t (p, v) => t.setIfInBounds p v) a.tmps, defers := [] } W)
  (hbody : ∀ (l i : Nat) (a₁ : Act) (W : World), i < N → Ax i a₁ W → w.heap.size + 2 + c ≤ W.heap.size →
   body.wpIn (F.inRound l) (n - 1 - 1) P (itPost (fun k => (w.heap.size ≤ k ∧ k < w.heap.size + 2 + c) ∨ Cap k) I Ix (i + 1) W) a₁ W)
  (hdone : ∀ (W : World), I N W → W.heap[w.heap.size]? = some (.deferred (some [])) → Q .normal { a with defers := { target := .collected w.heap.size, args := #[] } :: a.defers } W)
  (hstop : ∀ (j : Code) (i : Nat) (W : World), i < N → Ix j (i + 1) W → W.heap[w.heap.size]? = some (.deferred (some [])) → j.wpIn F n P Q { a with defers := { target := .collected w.heap.size, args := #[] } :: a.defers } W) :
  (Code.rangeFunc g ps assign body).wpIn F n P Q a w := by
 refine wpIn_rangeFunc ?_
 intro fn hfn
 rw [hro]
 obtain ⟨rec, hrec⟩ : ∃ rec : LoopState → Option Code → Loop, rec = fun st pe => { state := st, pending := pe, fn, tmps := a.tmps, params := ps, assign, body, defers := w.heap.size } := ⟨_, rfl⟩
 obtain ⟨W1, hW1⟩ : ∃ W1, (w.alloc (.deferred (some []))).alloc (.loop (rec .ready none)) = W1 := ⟨_, rfl⟩
 have hsz : W1.heap.size = w.heap.size + 2 := by rw [← hW1]; simp
 have hL1 : W1.heap[w.heap.size + 1]? = some (.loop (rec .ready none)) := by
  rw [← hW1]; have := World.alloc_heap_new (w.alloc (.deferred (some []))) (.loop (rec .ready none)); rwa [World.size_alloc] at this
 have hK1 : W1.heap[w.heap.size]? = some (.deferred (some [])) := by
  rw [← hW1]; exact (Below.heap_alloc _ _ _ (by simp)).trans (World.alloc_heap_new w _)
 have hI1 : I 0 W1 := by rw [← hW1]; exact hI _ _ _ (hI _ _ _ h0 (Beside.alloc _ _ _ _)) (Beside.alloc _ _ _ _)
 have hb1 : Below w0.heap.size w0 W1 := by
  rw [← hW1]; exact hb0.trans ((((Below.refl _ w).alloc (Nat.le_refl _) _).alloc (by simp) _).mono hb0.size)
 refine ⟨w.heap.size + 1, [{ target := .collected w.heap.size, args := #[] }], W1, { target := .fn (.func gf) lb, args := #[.func (.yield (w.heap.size + 1)) #[] #[]] }, W1, gf,
  #[.func (.yield (w.heap.size + 1)) #[] #[]] ++ lb, W1, ?_, ?_, ?_, ?_, fun _ => h1, ?_⟩
 ·rw [← hW1, hrec]; exact run_enterLoop_outer _ _ _ _ _
 ·simp only [resolve, hg]
  simp [go_sem]
 ·intro f' hf'; simp [Target.leads] at hf'; subst hf'; exact hFg
 ·simp [invoke, go_sem, eg]
 ·have inM : ∀ {A B : World}, Beside W1.heap.size (W1.heap.size + c) A B → Beside w.heap.size (w.heap.size + 2 + c) A B := fun h => h.mono (by omega) (by omega)
  refine (hseq (w.heap.size + 1)
   (fun i W => I i W ∧ W.heap[w.heap.size + 1]? = some (.loop (rec .ready none)) ∧ W.heap[w.heap.size]? = some (.deferred (some [])))
   (fun i W => ∃ j, Ix j i W ∧ W.heap[w.heap.size + 1]? = some (.loop (rec .done (some j))) ∧ W.heap[w.heap.size]? = some (.deferred (some [])))
   W1 hb1
   (fun s A B hs hg' => by
    have l1 := (Array.getElem?_eq_some_iff.1 hs.2.1).1
    exact ⟨hI s A B hs.1 (inM hg'), (hg'.block _ l1 (by omega)).trans hs.2.1, (hg'.block _ (by omega) (by omega)).trans hs.2.2⟩)
   (fun s A B hs hg' => by
    obtain ⟨j, hj, hl, hk⟩ := hs
    have l1 := (Array.getElem?_eq_some_iff.1 hl).1
    exact ⟨j, hIx j s A B hj (inM hg'), (hg'.block _ l1 (by omega)).trans hl, (hg'.block _ (by omega) (by omega)).trans hk⟩)
   ?_ ⟨hI1, hL1, hK1⟩).mono ?_
  ·-- one round
   rintro i W hiN ⟨hi, hl, hk⟩ hWs
   have hlt : w.heap.size + 1 < W.heap.size := (Array.getElem?_eq_some_iff.1 hl).1
   have hy := run_yield (P := P) (args := encs i) hl (by rw [hrec]; exact hps i)
   rw [hrec] at hy
   refine ⟨fn, _, assign, body, hy, roundIn_of_wpIn hfn (wpIn_mono (hassign (w.heap.size + 1) i W hiN hi (by omega)) ?_)⟩
   intro e1 a1 W2 hp1
   cases e1 with
   | normal =>
    obtain ⟨hax, hkp⟩ := hp1
    have hl2 : W2.heap[w.heap.size + 1]? = some (.loop (rec .ready none)) := (hkp.block _ (.inl ⟨by omega, by omega⟩) hlt).trans hl
    have hk2 : W2.heap[w.heap.size]? = some (.deferred (some [])) := (hkp.block _ (.inl ⟨by omega, by omega⟩) (by omega)).trans hk
    have hlt2 : w.heap.size + 1 < W2.heap.size := (Array.getElem?_eq_some_iff.1 hl2).1
    refine ⟨_, run_beginRound hl2 (by rw [hrec]), ?_⟩
    obtain ⟨W3, hW3⟩ : ∃ W3, W2.putObj (w.heap.size + 1) (.loop { rec .ready none with state := .busy }) = W3 := ⟨_, rfl⟩
    rw [hW3]
    have hl3 : W3.heap[w.heap.size + 1]? = some (.loop { rec .ready none with state := .busy }) := by rw [← hW3]; exact World.putObj_heap_same hlt2
    have hk3 : W3.heap[w.heap.size]? = some (.deferred (some [])) := by rw [← hW3]; exact (World.putObj_heap_other (by omega)).trans hk2
    have hax3 : Ax i a1 W3 := by rw [← hW3]; exact hAx _ _ _ _ hax (Beside.putObj _ _ _ (by omega) (by omega))
    have hs3 : W3.heap.size = W2.heap.size := by rw [← hW3]; simp
    have hke3 : Keeps (fun k => (W1.heap.size ≤ k ∧ k < W1.heap.size + c) ∨ Cap k) W W3 := by
     have hput : Keeps (fun k => (W1.heap.size ≤ k ∧ k < W1.heap.size + c) ∨ Cap k) W2 W3 := by
      rw [← hW3]
      refine Keeps.putObj _ _ _ ?_
      rintro (hk | hk)
      ·omega
      ·have := hcap _ hk; omega
     refine (hkp.mono ?_).trans hput
     rintro k (hk | hk)
     ·exact .inl ⟨by omega, by omega⟩
     ·exact .inr hk
    refine wpIn_mono (hbody _ i a1 W3 hiN hax3 (by have := hkp.size; omega)) ?_
    have fin : ∀ (jump : Option Code) (W4 : World), Keeps (fun k => (w.heap.size ≤ k ∧ k < w.heap.size + 2 + c) ∨ Cap k) W3 W4 →
      (Instr.endRound (w.heap.size + 1) jump).run P W4 = .ok (.bool jump.isNone) (W4.putObj (w.heap.size + 1) (.loop (rec (if jump.isNone then .ready else .done) jump))) ∧
      W4.heap.size ≤ (W4.putObj (w.heap.size + 1) (.loop (rec (if jump.isNone then .ready else .done) jump))).heap.size ∧
      (W4.putObj (w.heap.size + 1) (.loop (rec (if jump.isNone then .ready else .done) jump))).heap[w.heap.size + 1]? = some (.loop (rec (if jump.isNone then .ready else .done) jump)) ∧
      (W4.putObj (w.heap.size + 1) (.loop (rec (if jump.isNone then .ready else .done) jump))).heap[w.heap.size]? = some (.deferred (some [])) := fun jump W4 hk4 => by
     have hl4 : W4.heap[w.heap.size + 1]? = some (.loop { rec .ready none with state := .busy }) := (hk4.block _ (.inl ⟨by omega, by omega⟩) (by omega)).trans hl3
     have := run_endRound (P := P) jump hl4
     rw [hrec] at this ⊢
     exact ⟨this, by simp, World.putObj_heap_same (Array.getElem?_eq_some_iff.1 hl4).1, (World.putObj_heap_other (by omega)).trans ((hk4.block _ (.inl ⟨by omega, by omega⟩) (by omega)).trans hk3)⟩
    have size4 : ∀ (jump : Option Code) (W4 : World), Keeps (fun k => (w.heap.size ≤ k ∧ k < w.heap.size + 2 + c) ∨ Cap k) W3 W4 →
      W.heap.size ≤ (W4.putObj (w.heap.size + 1) (.loop (rec (if jump.isNone then .ready else .done) jump))).heap.size := fun jump W4 hk4 => by
     have h1 := hkp.size
     have h2 := hk4.size
     have h3 := (fin jump W4 hk4).2.1
     omega
    rintro e a3 W4 hp
    cases e with
    | normal =>
     obtain ⟨hk4, hi4⟩ := hp
     obtain ⟨hr, _, hl5, hk5⟩ := fin none W4 hk4
     refine ⟨_, _, hr, .inl ⟨rfl, ⟨hI _ _ _ hi4 (Beside.putObj _ _ _ (by omega) (by omega)), hl5, hk5⟩, (hke3.trans (hk4.mono ?_)).trans (Keeps.putObj _ _ _ ?_)⟩⟩
     ·rintro k (hk | hk)
      ·exact .inl ⟨by omega, by omega⟩
      ·exact .inr hk
     ·rintro (hk | hk)
      ·omega
      ·have := hcap _ hk; omega
    | ret =>
     obtain ⟨hk4, hi4⟩ := hp
     obtain ⟨hr, _, hl5, hk5⟩ := fin (some .ret) W4 hk4
     exact ⟨_, _, hr, .inr ⟨rfl, ⟨.ret, hIx _ _ _ _ hi4 (Beside.putObj _ _ _ (by omega) (by omega)), hl5, hk5⟩, size4 (some .ret) W4 hk4⟩⟩
    | exit id =>
     obtain ⟨hk4, hi4⟩ := hp
     obtain ⟨hr, _, hl5, hk5⟩ := fin (some (.exit id)) W4 hk4
     exact ⟨_, _, hr, .inr ⟨rfl, ⟨.exit id, hIx _ _ _ _ hi4 (Beside.putObj _ _ _ (by omega) (by omega)), hl5, hk5⟩, size4 (some (.exit id)) W4 hk4⟩⟩
    | goto t =>
     obtain ⟨hk4, hi4⟩ := hp
     obtain ⟨hr, _, hl5, hk5⟩ := fin (some (.goto t)) W4 hk4
     exact ⟨_, _, hr, .inr ⟨rfl, ⟨.goto t, hIx _ _ _ _ hi4 (Beside.putObj _ _ _ (by omega) (by omega)), hl5, hk5⟩, size4 (some (.goto t)) W4 hk4⟩⟩
    | panic ch => exact hp.elim
    | outgrown => exact hp.elim
   | _ => exact hp1.elim
  ·-- behind the iterator
   rintro e W2 ⟨⟨v, rfl⟩, (⟨hi, hl, hk⟩ | ⟨i, hiN, j, hj, hl, hk⟩)⟩
   ·exact ⟨none, _, by have := run_endLoop (P := P) hl (by rw [hrec]; simp); rw [hrec] at this; exact this, hdone _ (hI _ _ _ hi (Beside.putObj _ _ _ (by omega) (by omega))) ((World.putObj_heap_other (by omega)).trans hk)⟩
   ·exact ⟨some j, _, by have := run_endLoop (P := P) hl (by rw [hrec]; simp); rw [hrec] at this; exact this, hstop j i _ hiN (hIx _ _ _ _ hj (Beside.putObj _ _ _ (by omega) (by omega))) ((World.putObj_heap_other (by omega)).trans hk)⟩
/-
 Ranges over functions, and iterators, in the engine's terms.
-/
section
variable {P : Program} {ops : Array Oper} {Q : Exit → Act → World → Prop} {n : Sz} {w0 v W w : World} {L L' : List (Nat × Value)} {H A B HC X : List Ent} {o : Oper} {rest : List Oper} {ex : Exit}
theorem St.self (h : St w0 H w) : St w H w := ⟨rfl, rfl, rfl, Nat.le_refl _, h.has, fun _ _ _ => rfl, h.apart⟩
theorem St.self1 (h : St w0 (A ++ B) w) : St w A w := ⟨rfl, rfl, rfl, Nat.le_refl _, fun e he => h.has e (List.mem_append.2 (.inl he)), fun _ _ _ => rfl, (List.pairwise_append.1 h.apart).1⟩
theorem St.over (h : St w0 (A ++ HC) v) (k : St v B w) (h1 : ∀ e ∈ B, ∀ d ∈ HC, e.g ≠ d.g) (h2 : ∀ d ∈ A, w0.heap.size ≤ d.g ∨ ∃ e ∈ B, e.g = d.g) : St w0 (B ++ HC) w := by
 refine ⟨k.os.trans h.os, k.tape.trans h.tape, k.output.trans h.output, Nat.le_trans h.size k.size, ?_, ?_, ?_⟩
 ·intro e he
  rcases List.mem_append.1 he with he | he
  ·exact k.has e he
  ·have hl := h.has e (List.mem_append.2 (.inr he))
   exact hl.of_block (k.old _ hl.lt (fun d hd => h1 d hd e he))
 ·intro b hb hneb
  have hbv := Nat.lt_of_lt_of_le hb h.size
  refine (k.old b hbv (fun e he => hneb e (List.mem_append.2 (.inl he)))).trans (h.old b hb ?_)
  intro d hd
  rcases List.mem_append.1 hd with hd | hd
  ·rcases h2 d hd with h2 | ⟨e, he, heg⟩
   ·omega
   ·rw [← heg]; exact hneb e (List.mem_append.2 (.inl he))
  ·exact hneb d (List.mem_append.2 (.inr hd))
 ·rw [List.pairwise_append]
  exact ⟨k.apart, (List.pairwise_append.1 h.apart).2.1, fun e he d hd => h1 e he d hd⟩
theorem St.dropAll : ∀ (X : List Ent), St w0 (X ++ H) w → (∀ e ∈ X, w0.heap.size ≤ e.g) → St w0 H w
 | [], h, _ => h
 | e :: X, h, hx => St.dropAll X (h.drop (hx e List.mem_cons_self)) fun d hd => hx d (List.mem_cons_of_mem _ hd)
theorem St.besides {lo hi : Nat} (h : St w0 H v) (hb : Beside lo hi v w) (h1 : ∀ e ∈ H, e.g < lo ∨ hi ≤ e.g) (h2 : w0.heap.size ≤ lo) : St w0 H w :=
 ⟨hb.os.trans h.os, hb.tape.trans h.tape, hb.output.trans h.output, Nat.le_trans h.size hb.size,
  fun e he => (h.has e he).of_block (hb.block _ (h.has e he).lt (fun hc => by have := h1 e he; omega)),
  fun b hlt hne => (hb.block b (Nat.lt_of_lt_of_le hlt h.size) (fun hc => by omega)).trans (h.old b hlt hne), h.apart⟩
theorem gs_mem {Hi H0 : List Ent} (hgs : Hi.map (·.g) = H0.map (·.g)) : ∀ e ∈ Hi, ∃ d ∈ H0, d.g = e.g := fun e he => by
 have : e.g ∈ H0.map (·.g) := by rw [← hgs]; exact List.mem_map_of_mem he
 obtain ⟨d, hd, h⟩ := List.mem_map.1 this
 exact ⟨d, hd, h⟩
theorem wpIn_num {F : Fence} (hF : F.depth = none) {m m' : Nat} {c : Code} {a : Act} (h : c.wpIn F m P Q a w) : c.wpIn F m' P Q a w := fun b k cs h1 h2 _ =>
 h b k cs h1 h2 (fun d hd => by rw [hF] at hd; cases hd)
def mark (D : Nat) : Deferred := { target := .collected D, args := #[] }
def AxP (v : World) (La : Nat → List (Nat × Value)) (Ha : Nat → List Ent) (Hi : List Ent) (n : Sz) : Act → World → Prop := fun a W => ∃ y, v.heap.size ≤ y ∧ y ≤ W.heap.size ∧ Fr n (La y) a ∧ St v (Ha y ++ Hi) W
def RoundQ (y : Nat) (v : World) (C1 : Prop) (H1 : List Ent) (Cr : Prop) (Hr : List Ent) (idb : Nat) (Cb : Prop) (Hb : List Ent) : Exit → Act → World → Prop
 | .normal, _, W => C1 ∧ ∃ X, (∀ e ∈ X, y ≤ e.g) ∧ St v (X ++ H1) W
 | .ret, _, W => Cr ∧ ∃ X, (∀ e ∈ X, y ≤ e.g) ∧ St v (X ++ Hr) W
 | .exit id, _, W => id = idb ∧ Cb ∧ ∃ X, (∀ e ∈ X, y ≤ e.g) ∧ St v (X ++ Hb) W
 | _, _, _ => False
structure MarkAt (w0 W : World) (D : Nat) (gs : List Nat) : Prop where
 new : w0.heap.size ≤ D
 here : W.heap[D]? = some (.deferred (some []))
 ne : ∀ x ∈ gs, x ≠ D
theorem TE.ax {La : Nat → List (Nat × Value)} {Ha : Nat → List Ent} {Hi : List Ent} (y : Nat) (hy : v.heap.size ≤ y) (hy2 : ∀ w, St v H w → y ≤ w.heap.size) (hs : Sub (La y) L) (hH : ∀ w, St v H w → St v (Ha y ++ Hi) w) :
  TE (Exit.then (AxP v La Ha Hi n) (fun _ _ _ => False)) .normal n v L H := fun a w hf hst => ⟨y, hy, hy2 w hst, hf.sub hs, hH w hst⟩
theorem TE.roundN {y : Nat} {C1 Cr Cb : Prop} {H1 Hr Hb : List Ent} {idb : Nat} (hC : C1) (X : List Ent) (hX : ∀ e ∈ X, y ≤ e.g) (hH : ∀ w, St v H w → St v (X ++ H1) w) : TE (RoundQ y v C1 H1 Cr Hr idb Cb Hb) .normal n v L H := fun a w _ hs => ⟨hC, X, hX, hH w hs⟩
theorem TE.roundR {y : Nat} {C1 Cr Cb : Prop} {H1 Hr Hb : List Ent} {idb : Nat} (hC : Cr) (X : List Ent) (hX : ∀ e ∈ X, y ≤ e.g) (hH : ∀ w, St v H w → St v (X ++ Hr) w) : TE (RoundQ y v C1 H1 Cr Hr idb Cb Hb) .ret n v L H := fun a w _ hs => ⟨hC, X, hX, hH w hs⟩
theorem TE.roundB {y : Nat} {C1 Cr Cb : Prop} {H1 Hr Hb : List Ent} {idb : Nat} (hC : Cb) (X : List Ent) (hX : ∀ e ∈ X, y ≤ e.g) (hH : ∀ w, St v H w → St v (X ++ Hb) w) : TE (RoundQ y v C1 H1 Cr Hr idb Cb Hb) (.exit idb) n v L H := fun a w _ hs => ⟨rfl, hC, X, hX, hH w hs⟩
theorem TC.range {g : Operand} {p : Tmp} {assign body : Code} {gf : FuncId} {lb : List Value} {V : Nat → Value} {N c : Nat} {Cap : Nat → Prop}
  (hmd : n.md = .plain) (hds : n.ds = []) (hp : inside n (some p) = true) (hg : ev L g = some (.func (.func gf) #[] lb.toArray)) (hent : Enters P gf)
  (hit : ∀ w, St w0 H w → IterC Fence.wide 2 P gf lb.toArray (fun i => #[V i]) N c Cap w)
  (C : Nat → Prop) (Hi : Nat → List Ent) (HC : List Ent) (La : Nat → Nat → List (Nat × Value)) (Ha : Nat → Nat → List Ent)
  (Cr : Nat → Prop) (Hr : Nat → List Ent) (idb : Nat) (Cb : Nat → Prop) (Hb : Nat → List Ent)
  (hC0 : C 0) (h0 : ∀ w, St w0 H w → St w0 (Hi 0 ++ HC) w)
  (hgs : ∀ i, (Hi i).map (·.g) = (Hi 0).map (·.g)) (hgr : ∀ i, (Hr i).map (·.g) = (Hi 0).map (·.g)) (hgb : ∀ i, (Hb i).map (·.g) = (Hi 0).map (·.g))
  (hcap : ∀ w, St w0 H w → ∀ k, Cap k → k < w.heap.size ∧ ∀ e ∈ Hi 0, e.g ≠ k)
  (hHa : ∀ i y, ∀ e ∈ Ha i y, y ≤ e.g)
  (hassign : ∀ l i v, i < N → C i → St w0 (Hi i ++ HC) v → TC P (Exit.then (AxP v (La i) (Ha i) (Hi i) ⟨n.size, [], .inn (some l)⟩) (fun _ _ _ => False)) ⟨n.size, [], .inn (some l)⟩ v assign ((p, V i) :: L) (Hi i))
  (hbody : ∀ l i y v, i < N → C i → w0.heap.size ≤ y → y ≤ v.heap.size → St w0 (Ha i y ++ (Hi i ++ HC)) v →
   TC P (RoundQ y v (C (i + 1)) (Hi (i + 1)) (Cr (i + 1)) (Hr (i + 1)) idb (Cb (i + 1)) (Hb (i + 1))) ⟨n.size, [], .inn (some l)⟩ v body (La i y) (Ha i y ++ Hi i))
  (hdone : ∀ D W, C N → St w0 (Hi N ++ HC) W → MarkAt w0 W D ((Hi 0 ++ HC).map (·.g)) → TE Q .normal ⟨n.size, [mark D], .plain⟩ W L (Hi N ++ HC))
  (hret : ∀ D W i, i < N → Cr (i + 1) → St w0 (Hr (i + 1) ++ HC) W → MarkAt w0 W D ((Hi 0 ++ HC).map (·.g)) → TE Q .ret ⟨n.size, [mark D], .plain⟩ W L (Hr (i + 1) ++ HC))
  (hbrk : ∀ D W i, i < N → Cb (i + 1) → St w0 (Hb (i + 1) ++ HC) W → MarkAt w0 W D ((Hi 0 ++ HC).map (·.g)) → TE Q (.exit idb) ⟨n.size, [mark D], .plain⟩ W L (Hb (i + 1) ++ HC)) :
  TC P Q n w0 (.rangeFunc g #[p] assign body) L H := by
 intro a w hf hs
 have hall := h0 w hs
 have hltI : ∀ e ∈ Hi 0, e.g < w.heap.size := fun e he => (hall.has e (List.mem_append.2 (.inl he))).lt
 have hltC : ∀ e ∈ HC, e.g < w.heap.size := fun e he => (hall.has e (List.mem_append.2 (.inr he))).lt
 have ltG : ∀ {Hx : List Ent}, Hx.map (·.g) = (Hi 0).map (·.g) → ∀ e ∈ Hx, e.g < w.heap.size := fun hx e he => by
  obtain ⟨d, hd, h⟩ := gs_mem hx e he
  rw [← h]; exact hltI d hd
 have capG : ∀ {Hx : List Ent}, Hx.map (·.g) = (Hi 0).map (·.g) → ∀ k, Cap k → ∀ e ∈ Hx, e.g ≠ k := fun hx k hk e he => by
  obtain ⟨d, hd, h⟩ := gs_mem hx e he
  rw [← h]; exact (hcap w hs k hk).2 d hd
 have apG : ∀ {Hx : List Ent}, Hx.map (·.g) = (Hi 0).map (·.g) → ∀ e ∈ Hx, ∀ d ∈ HC, e.g ≠ d.g := fun hx e he d hd => by
  obtain ⟨e', he', h⟩ := gs_mem hx e he
  rw [← h]; exact (List.pairwise_append.1 hall.apart).2.2 e' he' d hd
 have hsz := hs.size
 rw [hmd]
 have fin : ∀ {W : World}, W.heap[w.heap.size]? = some (.deferred (some [])) → MarkAt w0 W w.heap.size ((Hi 0 ++ HC).map (·.g)) := fun hD => ⟨hsz, hD, fun x hx => by
  obtain ⟨e, he, rfl⟩ := List.mem_map.1 hx
  rcases List.mem_append.1 he with he | he
  ·have := hltI e he; omega
  ·have := hltC e he; omega⟩
 have frM : ∀ D, Fr ⟨n.size, [mark D], .plain⟩ L { a with defers := { target := .collected D, args := #[] } :: a.defers } := fun D => ⟨by show _ :: a.defers = _; rw [hf.1, hds]; rfl, hf.2⟩
 refine wpIn_wide.1 (wpIn_rangeFunc_it (F := Fence.wide) (n := 3) (w0 := w) rfl (by omega) (gf := gf) (lb := lb.toArray) (hf.eval hg) trivial (fun args w => run_call hent args w) (hit w hs) (Below.refl _ _) (fun k hk => (hcap w hs k hk).1) (fun _ => rfl)
  (fun i W => C i ∧ St w0 (Hi i ++ HC) W)
  (fun j i W => match j with
   | .ret => Cr i ∧ St w0 (Hr i ++ HC) W
   | .exit id => id = idb ∧ Cb i ∧ St w0 (Hb i ++ HC) W
   | _ => False)
  (fun i a W => ∃ y, w.heap.size + 2 + c ≤ y ∧ y ≤ W.heap.size ∧ Fr ⟨n.size, [], .plain⟩ (La i y) a ∧ C i ∧ St w0 (Ha i y ++ (Hi i ++ HC)) W)
  ?hI ?hIx ?hAx ⟨hC0, hall⟩ ?assign ?body ?done ?stop)
 case hI =>
  rintro i A B ⟨h1, h2⟩ hb
  refine ⟨h1, h2.besides hb (fun e he => ?_) hsz⟩
  rcases List.mem_append.1 he with he | he
  ·exact .inl (ltG (hgs i) e he)
  ·exact .inl (hltC e he)
 case hIx =>
  rintro j i A B h hb
  have step : ∀ {Hx : List Ent}, Hx.map (·.g) = (Hi 0).map (·.g) → St w0 (Hx ++ HC) A → St w0 (Hx ++ HC) B := fun hx h2 => h2.besides hb (fun e he => by
   rcases List.mem_append.1 he with he | he
   ·exact .inl (ltG hx e he)
   ·exact .inl (hltC e he)) hsz
  cases j with
  | ret => exact ⟨h.1, step (hgr i) h.2⟩
  | exit id => exact ⟨h.1, h.2.1, step (hgb i) h.2.2⟩
  | _ => exact h.elim
 case hAx =>
  rintro i a' A B ⟨y, hy, hyA, hfr, hC, h2⟩ hb
  refine ⟨y, hy, Nat.le_trans hyA hb.size, hfr, hC, h2.besides hb (fun e he => ?_) hsz⟩
  rcases List.mem_append.1 he with he | he
  ·exact .inr (Nat.le_trans hy (hHa i y e he))
  ·rcases List.mem_append.1 he with he | he
   ·exact .inl (ltG (hgs i) e he)
   ·exact .inl (hltC e he)
 case assign =>
  rintro l i W hiN ⟨hC, hSt⟩ hWs
  have hfr : Fr ⟨n.size, [], .inn (some l)⟩ ((p, V i) :: L) { tmps := ((#[p] : Array Tmp).zip #[V i]).foldl (fun t (p, v) => t.setIfInBounds p v) a.tmps, defers := [] } := by
   have h := hf.put (some p) (V i) hp
   refine ⟨rfl, ?_, ?_⟩
   ·simpa [Act.put] using h.2.1
   ·have h3 := h.2.2
    unfold Proofs.YtclmgfcdnokaiaaGreatDoor.put at h3
    simpa [Act.put] using h3
  have h := hassign l i W hiN hC hSt _ W hfr hSt.self1
  refine wpIn_mono (wpIn_num (F := Fence.wide.inRound l) rfl (m := 2) h) ?_
  intro e a1 W1 hq
  cases e with
  | normal =>
   obtain ⟨y, hy, hyW, hfr1, hst⟩ := hq
   refine ⟨⟨y, by omega, hyW, ⟨hfr1.1, hfr1.2⟩, hC, ?_⟩, hst.size, ?_⟩
   ·have := St.over hSt hst (fun e he d hd => by
     rcases List.mem_append.1 he with he | he
     ·have h1 := hHa i y e he
      have h2 := hltC d hd
      omega
     ·exact apG (hgs i) e he d hd) (fun d hd => .inr ⟨d, List.mem_append.2 (.inr hd), rfl⟩)
    rw [List.append_assoc] at this
    exact this
   ·intro k hk hkW
    refine hst.old k hkW fun e he => ?_
    rcases List.mem_append.1 he with he | he
    ·have h1 := hHa i y e he
     omega
    ·rcases hk with hk | hk
     ·have := ltG (hgs i) e he; omega
     ·exact capG (hgs i) k hk e he
  | _ => exact hq.elim
 case body =>
  rintro l i a1 W hiN ⟨y, hy, hyW, hfr, hC, hSt⟩ hWs
  have hSt' : St w0 ((Ha i y ++ Hi i) ++ HC) W := by rw [List.append_assoc]; exact hSt
  have h := hbody l i y W hiN hC (by omega) hyW hSt a1 W ⟨hfr.1, hfr.2⟩ hSt'.self1
  refine wpIn_mono (wpIn_num (F := Fence.wide.inRound l) rfl (m := 2) h) ?_
  have keep : ∀ {Hx X : List Ent} {W' : World}, Hx.map (·.g) = (Hi 0).map (·.g) → (∀ e ∈ X, y ≤ e.g) → St W (X ++ Hx) W' →
    Keeps (fun k => (w.heap.size ≤ k ∧ k < w.heap.size + 2 + c) ∨ Cap k) W W' ∧ St w0 (Hx ++ HC) W' := fun {Hx X W'} hx hX hst => by
   refine ⟨⟨hst.size, fun k hk hkW => hst.old k hkW fun e he => ?_⟩, ?_⟩
   ·rcases List.mem_append.1 he with he | he
    ·have h1 := hX e he
     rcases hk with hk | hk
     ·omega
     ·have := (hcap w hs k hk).1; omega
    ·rcases hk with hk | hk
     ·have := ltG hx e he; omega
     ·exact capG hx k hk e he
   ·have := St.over hSt' hst (fun e he d hd => by
     rcases List.mem_append.1 he with he | he
     ·have h1 := hX e he
      have h2 := hltC d hd
      omega
     ·exact apG hx e he d hd) (fun d hd => by
     rcases List.mem_append.1 hd with hd | hd
     ·have := hHa i y d hd
      exact .inl (by omega)
     ·have hdm : d.g ∈ Hx.map (·.g) := by rw [hx, ← hgs i]; exact List.mem_map_of_mem hd
      obtain ⟨e, he, h⟩ := List.mem_map.1 hdm
      exact .inr ⟨e, List.mem_append.2 (.inr he), h⟩)
    rw [List.append_assoc] at this
    exact St.dropAll X this fun e he => by have := hX e he; omega
  intro e a2 W2 hq
  cases e with
  | normal =>
   obtain ⟨h1, X, hX, h2⟩ := hq
   have ⟨k1, k2⟩ := keep (hgs (i + 1)) hX h2
   exact ⟨k1, h1, k2⟩
  | ret =>
   obtain ⟨h1, X, hX, h2⟩ := hq
   have ⟨k1, k2⟩ := keep (hgr (i + 1)) hX h2
   exact ⟨k1, h1, k2⟩
  | exit id =>
   obtain ⟨h0, h1, X, hX, h2⟩ := hq
   have ⟨k1, k2⟩ := keep (hgb (i + 1)) hX h2
   exact ⟨k1, h0, h1, k2⟩
  | _ => exact hq.elim
 case done =>
  rintro W ⟨h1, h2⟩ hD
  exact hdone _ W h1 h2 (fin hD) _ W (frM _) h2.self
 case stop =>
  rintro j i W hiN h hD
  cases j with
  | ret => exact wpIn_ret (hret _ W i hiN h.1 h.2 (fin hD) _ W (frM _) h.2.self)
  | exit id =>
   obtain ⟨rfl, h1, h2⟩ := h
   exact wpIn_exit (hbrk _ W i hiN h1 h2 (fin hD) _ W (frM _) h2.self)
  | _ => exact h.elim
theorem calls_fromM {f : FuncId} {fn : Func} {c : Code} {args : List Value} {R : Ending → World → Prop} {N : Nat} (hf : P.funcs[f]? = some fn) (hb : fn.body = some c) (hN : fn.ntmps = N) (hl : args.length ≤ N)
  (h : TC P (bodyPostM Fence.wide 2 P fn R) ⟨N, [], .plain⟩ w c (args.zipIdx.map fun x => (x.2, x.1)) []) : Calls P f args.toArray w R := by
 subst hN
 exact callsIn_wide.1 (callsIn_of_wp_marks (n := 2) hf hb trivial (wpIn_wide.2 (h _ w (fr_args hl) (St.refl w))) rfl)
theorem callsIn_from {f : FuncId} {fn : Func} {c : Code} {args : List Value} {R : Ending → World → Prop} {N : Nat} (hf : P.funcs[f]? = some fn) (hb : fn.body = some c) (hN : fn.ntmps = N) (hl : args.length ≤ N)
  (h : TC P (bodyPost P fn R) ⟨N, [], .inn none⟩ w c (args.zipIdx.map fun x => (x.2, x.1)) []) : CallsIn Fence.wide 2 P f args.toArray w R := by
 subst hN
 exact callsIn_of_wp hf hb trivial (h _ w (fr_args hl) (St.refl w)) rfl
theorem TE.markR {fn : Func} {R : Ending → World → Prop} {D : Nat} {H0 H : List Ent} {gs : List Nat} (hm : MarkAt w0 W D gs) (hW : St w0 H0 W) (hgs : ∀ e ∈ H0, w0.heap.size ≤ e.g) (hov : ∀ e ∈ H, W.heap.size ≤ e.g ∨ e.g ∈ gs)
  (h : TE (bodyPost P fn R) ex ⟨n.size, [], .plain⟩ w0 L H) (hex : ex = .ret ∨ ex = .normal) : TE (bodyPostM Fence.wide 2 P fn R) ex ⟨n.size, [mark D], .plain⟩ W L H := by
 intro a w hf hs
 have hDW : D < W.heap.size := (Array.getElem?_eq_some_iff.1 hm.here).1
 have hne : ∀ e ∈ H, e.g ≠ D := fun e he => by
  rcases hov e he with h1 | h1
  ·omega
  ·exact hm.ne _ h1
 have hD : w.heap[D]? = some (.deferred (some [])) := (hs.old D hDW hne).trans hm.here
 have h1 : St w0 H w := by
  have := St.over (A := H0) (HC := []) (by rw [List.append_nil]; exact hW) hs (fun _ _ d hd => by cases hd) (fun d hd => .inl (hgs d hd))
  rwa [List.append_nil] at this
 have h2 : St w0 H (w.putObj D (.deferred none)) := ⟨h1.os, h1.tape, h1.output, by simpa using h1.size, fun e he => (h1.has e he).of_block (World.putObj_heap_other (hne e he)),
  fun b hb hneb => (World.putObj_heap_other (by have := hm.new; omega)).trans (h1.old b hb hneb), h1.apart⟩
 have h3 := h { a with defers := [] } _ ⟨rfl, hf.2⟩ h2
 have key : LeavesInM Fence.wide 2 P fn a.tmps R a.defers .returning w := by
  rw [hf.1]
  refine ⟨by simp, .inl ⟨D, _, rfl, run_takeDeferred hD, ?_⟩⟩
  rcases hex with rfl | rfl
  ·exact h3.2
  ·exact h3.2
 rcases hex with rfl | rfl
 ·exact key
 ·exact key
theorem TL.yield {l t : Nat} {xs : List Operand} {vs : List Value} {ts : Array TypeId} {T U : World → Prop} (hmd : n.md = .inn none) (hg : Wants n ops L o) (hi : inside n o.dst = true)
  (ho : o.op = .call { callee := .value (.tmp t), args := xs.toArray, argTypes := ts }) (ht : look L t = some (.func (.yield l) #[] #[])) (hx : evs L xs = some vs)
  (hy : ∀ w, St w0 H w → YieldAt Fence.wide 1 P l vs.toArray w fun e w' => (e = .returned (.bool true) ∧ T w') ∨ (e = .returned (.bool false) ∧ U w'))
  (h1 : ∀ v, T v → TL P ops Q n v rest (put L o.dst (.bool true)) []) (h2 : ∀ v, U v → TL P ops Q n v rest (put L o.dst (.bool false)) []) : TL P ops Q n w0 (o :: rest) L H := by
 intro a w hf hs
 obtain ⟨fn, tmps, assign, body, hyl, hr⟩ := hy w hs
 have h1' : ∀ v, T v → wpL n.md P ops Q rest (a.put o.dst (.bool true)) v := fun v hv => h1 v hv _ v (hf.put o.dst _ hi) (St.refl v)
 have h2' : ∀ v, U v → wpL n.md P ops Q rest (a.put o.dst (.bool false)) v := fun v hv => h2 v hv _ v (hf.put o.dst _ hi) (St.refl v)
 rw [hmd] at h1' h2' ⊢
 have hm := hf.evals hx
 have hev : a.eval (.tmp t) = .func (.yield l) #[] #[] := hf.eval (x := .tmp t) ht
 have hrun : (execOp a.eval o).run P w = .ok (.round l fn tmps assign body) w := by
  simp only [execOp, ho, resolve, hev, Deferred.ofValue, Sem.run_bind, Sem.run_pure, Result.andThen_ok, List.map_toArray, hm, invoke]
  simpa using hyl
 refine wpListIn_step fun K hK => ?_
 rw [if_pos (hg a hf)]
 refine ⟨fun _ _ => trivial, ?_⟩
 have hsem : (o.semAt (wideAt none).round a.eval).run P w = .ok (.round l fn tmps assign body) w := hrun
 rw [hsem]
 refine ⟨fun hd => by simp [wideAt, Fence.wide] at hd, ?_⟩
 refine RoundIn.mono (R := fun e w' => (e = .returned (.bool true) ∧ T w') ∨ (e = .returned (.bool false) ∧ U w')) ?_ ?_
 ·exact hr
 ·rintro e w' (⟨rfl, hT⟩ | ⟨rfl, hU⟩)
  ·exact hK _ _ (h1' w' hT)
  ·exact hK _ _ (h2' w' hU)
def BackW {ι : Type} (n : Sz) (Wi : ι → World) (Li : ι → List (Nat × Value)) (Hi : ι → List Ent) (μ : ι → Nat) (C : ι → Prop) (m : Nat) (a : Act) (w : World) : Prop :=
 ∃ i, μ i < m ∧ C i ∧ Fr n (Li i) a ∧ St (Wi i) (Hi i) w
theorem TE.backW {ι : Type} {Wi : ι → World} {Li : ι → List (Nat × Value)} {Hi : ι → List Ent} {μ : ι → Nat} {C : ι → Prop} {m : Nat} (i : ι) (hμ : μ i < m) (hC : C i) (hs : Sub (Li i) L) (hH : ∀ w, St w0 H w → St (Wi i) (Hi i) w) :
  TE (Exit.then (BackW n Wi Li Hi μ C m) Q) .normal n w0 L H := fun a w hf hst => ⟨i, hμ, hC, hf.sub hs, hH w hst⟩
theorem TC.loopW {ι : Type} (Wi : ι → World) (Li : ι → List (Nat × Value)) (Hi : ι → List Ent) (μ : ι → Nat) (C : ι → Prop) (i0 : ι) {c : Code} (hC : C i0) (hs : Sub (Li i0) L) (hH : ∀ w, St w0 H w → St (Wi i0) (Hi i0) w)
  (round : ∀ i, C i → TC P (Exit.then (BackW n Wi Li Hi μ C (μ i)) Q) n (Wi i) c (Li i) (Hi i)) : TC P Q n w0 (.loop c) L H := by
 intro a w hf hst
 let p : Act → World → Nat → Prop := fun a w m => ∃ i, μ i = m ∧ C i ∧ Fr n (Li i) a ∧ St (Wi i) (Hi i) w
 let M : Act → World → Nat := fun a w => leastOf (p a w)
 have hM : ∀ a w i, C i → Fr n (Li i) a → St (Wi i) (Hi i) w → M a w ≤ μ i := fun a w i h1 h2 h3 => (leastOf_spec (p := p a w) ⟨i, rfl, h1, h2, h3⟩).2 _ ⟨i, rfl, h1, h2, h3⟩
 refine wpn_loop (fun a w => ∃ i, C i ∧ Fr n (Li i) a ∧ St (Wi i) (Hi i) w) M ⟨i0, hC, hf.sub hs, hH w hst⟩ ?_
 rintro a w ⟨i, h1, h2, h3⟩
 obtain ⟨i', e', c', f', s'⟩ := (leastOf_spec (p := p a w) ⟨i, rfl, h1, h2, h3⟩).1
 have hMe : M a w = μ i' := e'.symm
 refine wpn_mono (round i' c' a w f' s') ?_
 intro e a2 w2 hq
 cases e with
 | normal =>
  obtain ⟨j, hj, hCj, hfj, hsj⟩ := hq
  refine ⟨⟨j, hCj, hfj, hsj⟩, ?_⟩
  have := hM a2 w2 j hCj hfj hsj
  omega
 | _ => exact hq
theorem run_enterF {f : FuncId} {t : Nat} {lb : List Value} {xs : List Operand} {ts : Array TypeId} {vs : List Value} {a : Act} {w : World} (h : Enters P f) (ho : o.op = .call { callee := .value (.tmp t), args := xs.toArray, argTypes := ts }) (hf : Fr n L a)
  (ht : look L t = some (.func (.func f) #[] lb.toArray)) (hx : evs L xs = some vs) : (execOp a.eval o).run P w = .ok (.enter f (vs ++ lb).toArray) w := by
 have hm := hf.evals hx
 have hev : a.eval (.tmp t) = .func (.func f) #[] lb.toArray := hf.eval (x := .tmp t) ht
 simp only [execOp, ho, resolve, hev, Deferred.ofValue, Sem.run_bind, Sem.run_pure, Result.andThen_ok, List.map_toArray, hm, invoke]
 simp [run_call h]
theorem TL.callF {ι : Type} {f : FuncId} {t : Nat} {lb : List Value} {xs : List Operand} {ts : Array TypeId} {vs : List Value} {V : ι → Value} {R : ι → Prop} {H' : ι → List Ent} (hg : Wants n ops L o) (hi : inside n o.dst = true) (h : Enters P f)
  (ho : o.op = .call { callee := .value (.tmp t), args := xs.toArray, argTypes := ts }) (ht : look L t = some (.func (.func f) #[] lb.toArray)) (hx : evs L xs = some vs)
  (hc : ∀ w, St w0 H w → Calls P f (vs ++ lb).toArray w fun e w' => ∃ i, e = .returned (V i) ∧ R i ∧ St w0 (H' i) w')
  (hr : ∀ i, R i → TL P ops Q n w0 rest (put L o.dst (V i)) (H' i)) : TL P ops Q n w0 (o :: rest) L H :=
 fun a w hf hs => wpL_wants hg.nd (hg a hf) fun K hK => by
  unfold Oper.wp; rw [run_enterF h ho hf ht hx]
  refine (hc w hs).mono ?_
  rintro e w' ⟨i, rfl, hR, hs'⟩
  exact hK _ _ (hr i hR _ _ (hf.put o.dst _ hi) hs')
theorem TL.call0F {f : FuncId} {t : Nat} {lb : List Value} {xs : List Operand} {ts : Array TypeId} {vs : List Value} {u : Value} (hg : Wants n ops L o) (hi : inside n o.dst = true) (h : Enters P f)
  (ho : o.op = .call { callee := .value (.tmp t), args := xs.toArray, argTypes := ts }) (ht : look L t = some (.func (.func f) #[] lb.toArray)) (hx : evs L xs = some vs)
  (hc : ∀ w, St w0 H w → Calls P f (vs ++ lb).toArray w fun e w' => e = .returned u ∧ St w [] w')
  (hr : TL P ops Q n w0 rest (put L o.dst u) H) : TL P ops Q n w0 (o :: rest) L H :=
 TL.callF (ι := Unit) (V := fun _ => u) (R := fun _ => True) (H' := fun _ => H) hg hi h ho ht hx (fun w hs => (hc w hs).mono fun e w' ⟨he, hw⟩ => ⟨(), he, trivial, hs.call' hw⟩) fun _ _ => hr
theorem Gets.makeFunc {fn : Fn} {xs ys : List Operand} {us vs : List Value} (ho : o.op = .makeFunc fn xs.toArray ys.toArray) (hx : evs L xs = some us) (hy : evs L ys = some vs) : Gets P n w0 o L H (.func fn us.toArray vs.toArray) := fun a w hf hs => by
 have h1 := hf.evals hx
 have h2 := hf.evals hy
 simp only [execOp, ho, List.map_toArray, h1, h2]
 rfl
abbrev zg := @Gets.makeFunc
end
/-
 The reader: its block, its bytes, what its calls leave.
-/
theorem St.turns {w0 w w' : World} {H F H' E : List Ent} (h : St w0 (H ++ F) w) (hb : St w (H' ++ E) w') (hg : H'.map Ent.g = H.map Ent.g) (hE : ∀ e ∈ E, w.heap.size ≤ e.g) : St w0 (H' ++ (E ++ F)) w' := by
 have hmem : ∀ d ∈ H', ∃ d' ∈ H, d'.g = d.g := fun d hd => by
  have : d.g ∈ H.map Ent.g := hg ▸ List.mem_map_of_mem hd
  obtain ⟨d', h1, h2⟩ := List.mem_map.1 this
  exact ⟨d', h1, h2⟩
 have hmem2 : ∀ d ∈ H, ∃ d' ∈ H', d'.g = d.g := fun d hd => by
  have : d.g ∈ H'.map Ent.g := hg ▸ List.mem_map_of_mem hd
  obtain ⟨d', h1, h2⟩ := List.mem_map.1 this
  exact ⟨d', h1, h2⟩
 obtain ⟨a1, a2, a3⟩ := List.pairwise_append.1 h.apart
 obtain ⟨b1, b2, b3⟩ := List.pairwise_append.1 hb.apart
 have hF : ∀ f ∈ F, ∀ d ∈ H' ++ E, d.g ≠ f.g := fun f hf d hd => by
  have hlt := (h.has f (List.mem_append_right _ hf)).lt
  rcases List.mem_append.1 hd with hd | hd
  ·obtain ⟨d', h1, h2⟩ := hmem d hd
   rw [← h2]; exact a3 d' h1 f hf
  ·have := hE d hd; omega
 refine ⟨hb.os.trans h.os, hb.tape.trans h.tape, hb.output.trans h.output, Nat.le_trans h.size hb.size, ?_, ?_, ?_⟩
 ·intro e he
  rcases List.mem_append.1 he with he | he
  ·exact hb.has e (List.mem_append_left _ he)
  ·rcases List.mem_append.1 he with he | he
   ·exact hb.has e (List.mem_append_right _ he)
   ·have hl := h.has e (List.mem_append_right _ he)
    exact hl.of_block (hb.old _ hl.lt (hF e he))
 ·intro b hlt hne
  refine (hb.old b (Nat.lt_of_lt_of_le hlt h.size) fun d hd => ?_).trans (h.old b hlt fun d hd => ?_)
  ·rcases List.mem_append.1 hd with hd | hd
   ·exact hne d (List.mem_append_left _ hd)
   ·exact hne d (List.mem_append_right _ (List.mem_append_left _ hd))
  ·rcases List.mem_append.1 hd with hd | hd
   ·obtain ⟨d', h1, h2⟩ := hmem2 d hd
    rw [← h2]; exact hne d' (List.mem_append_left _ h1)
   ·exact hne d (List.mem_append_right _ (List.mem_append_right _ hd))
 ·rw [List.pairwise_append]
  refine ⟨b1, ?_, ?_⟩
  ·rw [List.pairwise_append]
   exact ⟨b2, a2, fun d hd f hf => hF f hf d (List.mem_append_right _ hd)⟩
  ·intro d hd f hf
   rcases List.mem_append.1 hf with hf | hf
   ·exact b3 d hd f hf
   ·exact hF f hf d (List.mem_append_left _ hd)
theorem perm_erase {α : Type} {a : α} : ∀ {l : List α} {i : Nat}, l[i]? = some a → (a :: l.eraseIdx i).Perm l
 | [], i, h => by simp at h
 | b :: l, 0, h => by simp at h; subst h; exact List.Perm.refl _
 | b :: l, i + 1, h => by
  simp at h
  exact (List.Perm.swap _ _ _).trans ((perm_erase (l := l) h).cons b)
theorem perm_set {α : Type} {e : α} : ∀ {l : List α} {i : Nat}, i < l.length → (l.set i e).Perm (e :: l.eraseIdx i)
 | [], i, h => by simp at h
 | b :: l, 0, h => List.Perm.refl _
 | b :: l, i + 1, h => ((perm_set (l := l) (by simpa using h)).cons b).trans (List.Perm.swap _ _ _)
theorem St.turnE {w0 w w' : World} {H E : List Ent} {i : Nat} {d e : Ent} (h : St w0 H w) (hi : H[i]? = some d) (hg : e.g = d.g) (hb : St w (e :: E) w') (hE : ∀ x ∈ E, w.heap.size ≤ x.g) : St w0 (H.set i e ++ E) w' := by
 obtain ⟨hlt, hd⟩ := List.getElem?_eq_some_iff.1 hi
 have h1 : (d :: H.eraseIdx i).Perm H := perm_erase hi
 have h2 : (H.set i e).Perm (e :: H.eraseIdx i) := perm_set hlt
 have h3 := St.turns (H := [d]) (F := H.eraseIdx i) (H' := [e]) (E := E) (h.perm h1.symm) hb (by simp [hg]) hE
 refine h3.perm ?_
 have h4 : ([e] ++ (E ++ H.eraseIdx i)).Perm ([e] ++ (H.eraseIdx i ++ E)) := List.Perm.append_left _ List.perm_append_comm
 refine h4.trans ?_
 rw [← List.append_assoc]
 exact List.Perm.append_right _ h2.symm
theorem St.assoc3 {w0 w : World} {X Y Z : List Ent} (h : St w0 ((X ++ Y) ++ Z) w) : St w0 (X ++ (Y ++ Z)) w := by rw [List.append_assoc] at h; exact h
theorem St.same {w w' : World} {e : Ent} (h : St w [e] w') (hl : e.lies w) (hn : e.cs.length = e.tot) : St w [] w' := by
 have key : ∀ {u : World}, e.lies u → u.heap[e.g]? = some (.cells e.cs.toArray e.t (0, 0)) := fun {u} hu => by
  obtain ⟨cur, h1, h2, h3⟩ := hu
  rw [h1]
  have : cur = e.cs.toArray := by
   apply Array.ext_getElem?
   intro i
   by_cases hi : i < e.cs.length
   ·rw [h3 i _ (List.getElem?_eq_getElem hi)]; simp [hi]
   ·rw [Array.getElem?_eq_none (by omega)]; simp; omega
  rw [this]
 refine ⟨h.os, h.tape, h.output, h.size, by simp, fun b hb _ => ?_, .nil⟩
 by_cases hbg : b = e.g
 ·subst hbg
  rw [key (h.has e (by simp)), key hl]
 ·exact h.old b hb (fun d hd => by rw [List.mem_singleton.1 hd]; exact fun x => hbg x.symm)
theorem St.blank {w0 w : World} {g t tot : Nat} {cs : List Value} {H : List Ent} (h : St w0 (⟨g, t, cs, tot⟩ :: H) w) : St w0 (⟨g, t, [], tot⟩ :: H) w := by
 refine ⟨h.os, h.tape, h.output, h.size, fun e he => ?_, fun b hb hne => h.old b hb fun e he => ?_, ?_⟩
 ·rcases List.mem_cons.1 he with rfl | he
  ·obtain ⟨cur, h1, h2, h3⟩ := h.has ⟨g, t, cs, tot⟩ List.mem_cons_self
   exact ⟨cur, h1, h2, fun j u hu => by simp at hu⟩
  ·exact h.has e (List.mem_cons_of_mem _ he)
 ·rcases List.mem_cons.1 he with rfl | he
  ·exact hne ⟨g, t, [], tot⟩ List.mem_cons_self
  ·exact hne e (List.mem_cons_of_mem _ he)
 ·have := List.pairwise_cons.1 h.apart
  exact .cons this.1 this.2
def SrcX (w : World) (X : List Nat) (A : Option Addr) (m : Nat) (kd : IntKind) (B : List Int) : Prop := B.length = m ∧ (m = 0 ∨ ∃ b off, A = some ⟨b, off, none⟩ ∧ b < w.heap.size ∧ (∀ x ∈ X, b ≠ x) ∧ RowI w b off m kd B)
section
variable {w0 w : World} {g m : Nat} {A : Option Addr} {kd : IntKind} {B : List Int} {H : List Ent} {X Y : List Nat}
theorem SrcX.at_ (h : SrcX w0 X A m kd B) (hs : St w0 H w) (hH : ∀ b, b < w0.heap.size → (∀ x ∈ X, b ≠ x) → ∀ e ∈ H, e.g ≠ b) : SrcX w X A m kd B := by
 obtain ⟨h1, h2⟩ := h
 refine ⟨h1, ?_⟩
 rcases h2 with h2 | ⟨b, off, hA, hb, hne, hr⟩
 ·exact .inl h2
 ·exact .inr ⟨b, off, hA, Nat.lt_of_lt_of_le hb hs.size, hne, fun j hj => (hs.old_cell (ad := ⟨b, off + j, none⟩) hb (hH b hb hne)).trans (hr j hj)⟩
theorem SrcX.src (h : SrcX w X A m kd B) : Src w A m kd B := by
 obtain ⟨h1, h2⟩ := h
 refine ⟨h1, ?_⟩
 rcases h2 with h2 | ⟨b, off, hA, hb, hne, hr⟩
 ·exact .inl h2
 ·exact .inr ⟨b, off, hA, hb, hr⟩
theorem SrcX.sub (h : SrcX w X A m kd B) (hY : ∀ y ∈ Y, y ∈ X) : SrcX w Y A m kd B := by
 obtain ⟨h1, h2⟩ := h
 refine ⟨h1, ?_⟩
 rcases h2 with h2 | ⟨b, off, hA, hb, hne, hr⟩
 ·exact .inl h2
 ·exact .inr ⟨b, off, hA, hb, fun y hy => hne y (hY y hy), hr⟩
theorem SrcX.more (h : SrcX w X A m kd B) (hg : w.heap.size ≤ g) : SrcX w (g :: X) A m kd B := by
 obtain ⟨h1, h2⟩ := h
 refine ⟨h1, ?_⟩
 rcases h2 with h2 | ⟨b, off, hA, hb, hne, hr⟩
 ·exact .inl h2
 ·refine .inr ⟨b, off, hA, hb, fun x hx => ?_, hr⟩
  rcases List.mem_cons.1 hx with rfl | hx
  ·omega
  ·exact hne x hx
theorem SrcX.head (h : SrcX w X A m kd B) {n : Nat} (hl : n ≤ m) : SrcX w X A n kd (B.take n) := by
 obtain ⟨h1, h2⟩ := h
 refine ⟨by simp; omega, ?_⟩
 rcases h2 with h2 | ⟨b, off, hA, hb, hne, hr⟩
 ·exact .inl (by omega)
 ·refine .inr ⟨b, off, hA, hb, hne, fun j hj => ?_⟩
  rw [hr j (by omega)]
  simp [List.getD_eq_getElem?_getD, List.getElem?_take, hj]
theorem SrcX.drop {c l : Nat} (h : SrcX w X A m kd B) (hl : l ≤ m) (hc : m ≤ c) : SrcX w X (cutA A c l 1) (m - l) kd (B.drop l) := by
 obtain ⟨h1, h2⟩ := h
 refine ⟨by simp [h1], ?_⟩
 rcases h2 with h2 | ⟨b, off, hA, hb, hne, hr⟩
 ·exact .inl (by omega)
 ·by_cases hlm : l = m
  ·exact .inl (by omega)
  ·subst hA
   refine .inr ⟨b, off + l, by rw [cut_is (o' := off + l) (by omega) (by omega)], hb, hne, fun j hj => ?_⟩
   have := hr (l + j) (by omega)
   rw [← Nat.add_assoc] at this
   rw [this]
   simp [List.getD_eq_getElem?_getD, List.getElem?_drop]
theorem Src.toX (h : Src w A m kd B) (hne : ∀ b off, A = some ⟨b, off, none⟩ → ∀ x ∈ X, b ≠ x) : SrcX w X A m kd B := by
 obtain ⟨h1, h2⟩ := h
 refine ⟨h1, ?_⟩
 rcases h2 with h2 | ⟨b, off, hA, hb, hr⟩
 ·exact .inl h2
 ·exact .inr ⟨b, off, hA, hb, hne b off hA, hr⟩
theorem Src.toX0 (h : Src w A m kd B) : SrcX w [] A m kd B := h.toX (fun _ _ _ x hx => by cases hx)
theorem Own.srcX {N t c : Nat} {He : List Ent} (h : Own N t kd (.slice A m c) B He) (hs : ∀ e ∈ He, e.lies w) (hne : ∀ e ∈ He, ∀ x ∈ X, e.g ≠ x) : SrcX w X A m kd B := by
 refine Src.toX (h.srcOf hs) fun b off hA => ?_
 rcases h with ⟨h1, _⟩ | ⟨g', cap, h1, h2, _⟩
 ·cases h1; cases hA
 ·cases h1; cases hA
  exact hne _ (by rw [h2]; exact List.mem_singleton.2 rfl)
theorem St.beside {F : List Ent} {d : Ent} (h : St w0 (H ++ F) w) (hd : d ∈ H) : ∀ e ∈ F, e.g ≠ d.g := fun e he => ((List.pairwise_append.1 h.apart).2.2 d hd e he).symm
theorem calls_no {Pr : Program} {f : FuncId} {args : Array Value} {w : World} {p : Prop} [Decidable p] (hp : ¬ p) (h : Calls Pr f args w fun e w' => e = .returned (.bool (decide p)) ∧ St w [] w') : Calls Pr f args w fun e w' => e = .returned (.bool false) ∧ St w [] w' := by
 rw [decide_eq_false hp] at h; exact h
theorem TP.call0 {P : Program} {ops : Array Oper} {Q : Exit → Act → World → Prop} {n : Sz} {L : List (Nat × Value)} {HB : List Ent} {ks : List Nat} {o : Oper} {rest : List Oper} {f : FuncId} {xs : List Operand} {ts : Array TypeId} {vs : List Value} {v : Value} (hg : Wants n ops L o) (hi : inside n o.dst = true) (h : Enters P f)
  (ho : o.op = .call { callee := .value (.func f), args := xs.toArray, argTypes := ts }) (hx : evs L xs = some vs)
  (hc : ∀ w, St w0 (HB ++ H) w → Calls P f vs.toArray w fun e w' => e = .returned v ∧ St w [] w')
  (hr : TP P ops Q n w0 HB ks rest (put L o.dst v) H) : TP P ops Q n w0 HB (3 :: ks) (o :: rest) L H :=
 zW (ι := Unit) (V := fun _ => v) (R := fun _ => True) (H' := fun _ => H) hg hi h ho hx (fun w hs => (hc w hs).mono fun e w' ⟨he, hw⟩ => ⟨(), he, trivial, hs.call' hw⟩) fun _ _ => hr
end
def rdC (A : Option Addr) (m c k : Nat) (co po : Int) : List Value := [.slice A m c, .int .i64 (k : Int), .int .i64 co, .int .i64 po]
def rdN : Nat := 4
theorem valB_natR : ∀ {B : List Int}, Bytes B → ∃ v : Nat, valB B.reverse = (v : Int) ∧ v < 256 ^ B.length
 | [], _ => ⟨0, rfl, by simp⟩
 | b :: l, h => by
  obtain ⟨v, h1, h2⟩ := valB_natR (B := l) (fun x hx => h x (List.mem_cons_of_mem _ hx))
  have hb := h b List.mem_cons_self
  obtain ⟨c, rfl⟩ := Int.eq_ofNat_of_zero_le hb.1
  refine ⟨256 * v + c, by rw [List.reverse_cons, valB_snoc, h1]; omega, ?_⟩
  rw [List.length_cons, Nat.pow_succ]
  omega
theorem valB_nat {B : List Int} (h : Bytes B) : ∃ v : Nat, valB B = (v : Int) ∧ v < 256 ^ B.length := by
 have := valB_natR (B := B.reverse) (fun x hx => h x (List.mem_reverse.1 hx))
 rw [List.reverse_reverse, List.length_reverse] at this; exact this
theorem valB_bd {B : List Int} (h : Bytes B) (hl : B.length ≤ 8) : 0 ≤ valB B ∧ valB B ≤ 18446744073709551615 := by
 obtain ⟨v, h1, h2⟩ := valB_nat h
 have : (256 : Nat) ^ B.length ≤ 256 ^ 8 := Nat.pow_le_pow_right (by decide) hl
 have h3 : (256 : Nat) ^ 8 = 18446744073709551616 := by decide
 omega
theorem wrap64_nat {y : Nat} (h : y < 18446744073709551616) : IntKind.u64.wrap (y : Int) = (y : Int) := by
 simp [IntKind.wrap, IntKind.signed, IntKind.bits]; omega
theorem shl_or {a b : Nat} (ha : a < 72057594037927936) (hb : b < 256) : orI .u64 (shlI .u64 (a : Int) 8) (b : Int) = ((256 * a + b : Nat) : Int) := by
 have h1 : shlI .u64 (a : Int) 8 = ((a * 256 : Nat) : Int) := by
  unfold shlI
  have : ((a : Int) * 2 ^ min (Int.toNat 8) IntKind.u64.bits) = ((a * 256 : Nat) : Int) := by
   rw [show min (Int.toNat 8) IntKind.u64.bits = 8 from rfl]; omega
  rw [this, wrap64_nat (by omega)]
 rw [h1]
 unfold orI
 have h3 : a * 256 ||| b = 256 * a + b := by
  have := Nat.shiftLeft_add_eq_or_of_lt (i := 8) (b := b) hb a
  rw [Nat.shiftLeft_eq] at this
  rw [show a * 256 = a * 2 ^ 8 by rfl, ← this]; omega
 have h4 : ((BitVec.ofInt 64 ((a * 256 : Nat) : Int) ||| BitVec.ofInt 64 (b : Int)).toNat) = 256 * a + b := by
  rw [BitVec.ofInt_natCast, BitVec.ofInt_natCast, BitVec.toNat_or, BitVec.toNat_ofNat, BitVec.toNat_ofNat, Nat.mod_eq_of_lt (by omega), Nat.mod_eq_of_lt (by omega), h3]
 show IntKind.u64.wrap (((BitVec.ofInt 64 ((a * 256 : Nat) : Int) ||| BitVec.ofInt 64 (b : Int)).toNat : Nat) : Int) = _
 rw [h4, wrap64_nat (by omega)]
theorem valB_step {D : List Int} {i : Nat} (hB : Bytes D) (hi : i < D.length) (h8 : D.length ≤ 8) : orI .u64 (shlI .u64 (valB (D.take i)) 8) (D.getD i 0) = valB (D.take (i + 1)) := by
 obtain ⟨v, h1, h2⟩ := valB_nat (hB.take i)
 have hl : (D.take i).length = i := by simp; omega
 rw [hl] at h2
 have h3 : (256 : Nat) ^ i ≤ 256 ^ 7 := Nat.pow_le_pow_right (by decide) (by omega)
 have h4 : (256 : Nat) ^ 7 = 72057594037927936 := by decide
 have hb := hB.get i
 obtain ⟨b, hb2⟩ := Int.eq_ofNat_of_zero_le hb.1
 rw [take_snoc hi, valB_snoc, h1, hb2, shl_or (by omega) (by omega)]; omega
def lenB (x : Nat) : Nat := if x = 0 then 0 else Nat.log2 x + 1
def lenI (x : Int) : Int := (lenB x.toNat : Int)
theorem lenB_le {x q : Nat} : lenB x ≤ q ↔ x < 2 ^ q := by
 unfold lenB
 by_cases h : x = 0
 ·subst h; simp [Nat.pow_pos]
 ·rw [if_neg h, ← Nat.log2_lt h]; omega
theorem lenB_shr {x y s : Nat} (h : 2 ^ s ≤ x) (hy : y = x / 2 ^ s) : lenB x = lenB y + s := by
 have h2 : 0 < 2 ^ s := Nat.pow_pos (by decide)
 apply Nat.le_antisymm
 ·rw [lenB_le, Nat.pow_add]
  have h1 : y < 2 ^ lenB y := lenB_le.1 (Nat.le_refl _)
  subst hy
  exact (Nat.div_lt_iff_lt_mul h2).1 h1
 ·have h1 : x < 2 ^ lenB x := lenB_le.1 (Nat.le_refl _)
  have hs : s ≤ lenB x := by
   apply Nat.le_of_not_lt
   intro hlt
   have := Nat.pow_le_pow_right (n := 2) (by decide) (Nat.le_of_lt hlt)
   omega
  have h3 : lenB y ≤ lenB x - s := by
   rw [lenB_le]
   subst hy
   rw [Nat.div_lt_iff_lt_mul h2, ← Nat.pow_add, Nat.sub_add_cancel hs]; exact h1
  omega
theorem len_fit {x n : Int} (hx : 0 ≤ x ∧ x ≤ 18446744073709551615) (hn : 1 ≤ n ∧ n ≤ 8) : 8 * n < lenI x ↔ ¬ fitV x n := by
 obtain ⟨y, rfl⟩ := Int.eq_ofNat_of_zero_le hx.1
 obtain ⟨k, rfl⟩ := Int.eq_ofNat_of_zero_le (show 0 ≤ n by omega)
 unfold lenI fitV
 rw [Int.toNat_natCast]
 have h1 : (8 * (k : Int)) = ((8 * k : Nat) : Int) := by omega
 rw [h1, shr_nat (by omega)]
 have h2 := lenB_le (x := y) (q := 8 * k)
 have h3 : y / 2 ^ (8 * k) = 0 ↔ y < 2 ^ (8 * k) := Nat.div_eq_zero_iff_lt (Nat.pow_pos (by decide))
 have h4 : k = 8 → y < 2 ^ (8 * k) := fun h => by subst h; omega
 constructor
 ·rintro h ⟨h5, h6, h7⟩
  have h8 : ¬ y < 2 ^ (8 * k) := fun h9 => by have := h2.2 h9; omega
  rcases h7 with h7 | h7
  ·exact h8 (h4 (by omega))
  ·exact h8 (h3.1 (by omega))
 ·intro h
  apply Int.lt_of_not_ge
  intro hge
  have h9 := h2.1 (by omega)
  exact h ⟨by omega, by omega, .inr (by have := h3.2 h9; omega)⟩
/-
 Mathematics of deltas, no program in it: targets that do not overlap and cover an interval: the smallest gap, sums of lengths, the sorted order.
-/
def hasB (p : Int × Int) (x : Int) : Prop := p.1 ≤ x ∧ x < p.1 + p.2
instance (p : Int × Int) (x : Int) : Decidable (hasB p x) := by unfold hasB; infer_instance
def okT (a N : Int) (p : Int × Int) : Prop := a ≤ p.1 ∧ 1 ≤ p.2 ∧ p.1 + p.2 ≤ N
def apartT (p q : Int × Int) : Prop := p.1 + p.2 ≤ q.1 ∨ q.1 + q.2 ≤ p.1
theorem apartT.symm {p q : Int × Int} (h : apartT p q) : apartT q p := Or.symm h
def tidyT (a N : Int) (l : List (Int × Int)) : Prop := (∀ p ∈ l, okT a N p) ∧ l.Pairwise apartT
def coverT (a N : Int) (l : List (Int × Int)) : Prop := ∀ x, a ≤ x → x < N → ∃ p ∈ l, hasB p x
def freeT (l : List (Int × Int)) (x : Int) : Prop := ∀ p ∈ l, ¬ hasB p x
def candT (l : List (Int × Int)) (c : Int) : Prop := c = 0 ∨ ∃ p ∈ l, c = p.1 + p.2
theorem cand_below {l : List (Int × Int)} {x : Int} (hx : freeT l x) : ∀ (n : Nat) (c : Int), candT l c → 0 ≤ c → c ≤ x → x - c ≤ n → ∃ g, candT l g ∧ freeT l g ∧ c ≤ g ∧ g ≤ x
 | n, c, hc, h0, h1, h2 => by
  by_cases hf : freeT l c
  ·exact ⟨c, hc, hf, by omega, h1⟩
  ·obtain ⟨p, hp, hb⟩ : ∃ p ∈ l, hasB p c := by
    apply Classical.byContradiction
    intro hno
    exact hf fun p hp hb => hno ⟨p, hp, hb⟩
   have hxp := hx p hp
   unfold hasB at hb hxp
   match n, h2 with
   | 0, h2 => exfalso; omega
   | n + 1, h2 =>
    obtain ⟨g, hg1, hg2, hg3, hg4⟩ := cand_below hx n (p.1 + p.2) (.inr ⟨p, hp, rfl⟩) (by omega) (by omega) (by omega)
    exact ⟨g, hg1, hg2, by omega, hg4⟩
theorem cand_of_free {l : List (Int × Int)} {x : Int} (h0 : 0 ≤ x) (hx : freeT l x) : ∃ g, candT l g ∧ freeT l g ∧ 0 ≤ g ∧ g ≤ x := by
 obtain ⟨g, h1, h2, h3, h4⟩ := cand_below hx x.toNat 0 (.inl rfl) (by omega) h0 (by omega)
 exact ⟨g, h1, h2, h3, h4⟩
def leastT (N : Int) (l : List (Int × Int)) (g : Int) : Prop := 0 ≤ g ∧ g < N ∧ freeT l g ∧ ∀ x, 0 ≤ x → x < g → ¬ freeT l x
theorem leastT_unique {N g h : Int} {l : List (Int × Int)} (hg : leastT N l g) (hh : leastT N l h) : g = h := by
 obtain ⟨g1, g2, g3, g4⟩ := hg
 obtain ⟨h1, h2, h3, h4⟩ := hh
 have a : ¬ h < g := fun c => g4 h h1 c h3
 have b : ¬ g < h := fun c => h4 g g1 c g3
 omega
theorem leastT_of_cand {N g : Int} {l : List (Int × Int)} (h0 : 0 ≤ g) (hN : g < N) (hf : freeT l g) (hm : ∀ c, candT l c → 0 ≤ c → c < N → freeT l c → g ≤ c) : leastT N l g := by
 refine ⟨h0, hN, hf, fun x hx hxg hfx => ?_⟩
 obtain ⟨c, h1, h2, h3, h4⟩ := cand_of_free hx hfx
 have := hm c h1 h3 (by omega) h2
 omega
theorem cover_of_cand {N : Int} {l : List (Int × Int)} (hm : ∀ c, candT l c → 0 ≤ c → c < N → ¬ freeT l c) : coverT 0 N l := fun x hx hxN => by
 apply Classical.byContradiction
 intro hno
 obtain ⟨c, h1, h2, h3, h4⟩ := cand_of_free (l := l) hx (fun p hp hb => hno ⟨p, hp, hb⟩)
 exact hm c h1 h3 (by omega) h2
def sumT (l : List (Int × Int)) : Int := (l.map (·.2)).sum
theorem coverT.perm {a N : Int} {l r : List (Int × Int)} (h : coverT a N l) (hp : l.Perm r) : coverT a N r := fun x h1 h2 => by
 obtain ⟨p, hl, hb⟩ := h x h1 h2
 exact ⟨p, hp.mem_iff.1 hl, hb⟩
theorem freeT.perm {l r : List (Int × Int)} {x : Int} (h : freeT l x) (hp : l.Perm r) : freeT r x := fun p hr => h p (hp.mem_iff.2 hr)
section
variable {α : Type} (key : α → Int)
end
/-
 Contracts of package sha: the digest of a state, the end of a message.
-/
theorem agg129 : (isAgg 129).run Tryz.prog = fun w => .ok true w := isAgg_yes Tryz.underlying129 rfl
theorem agg24 : (isAgg 24).run Tryz.prog = fun w => .ok true w := isAgg_yes Tryz.underlying24 rfl
theorem mk5 : (Tryz.prog.info? 5).map (fun i => (i.zero, i.size, i.bytes)) = some (some (.int .u8 0), 1, 1) := by kernel_rfl
theorem size129 : (Tryz.prog.info? 129).map (·.size) = some 8 := by kernel_rfl
theorem size24 : (Tryz.prog.info? 24).map (·.size) = some 32 := by kernel_rfl
theorem zero24 : (Tryz.prog.info? 24).bind (·.zero) = some (.agg #[.int .u8 0, .int .u8 0, .int .u8 0, .int .u8 0, .int .u8 0, .int .u8 0, .int .u8 0, .int .u8 0, .int .u8 0, .int .u8 0, .int .u8 0, .int .u8 0, .int .u8 0, .int .u8 0, .int .u8 0, .int .u8 0, .int .u8 0, .int .u8 0, .int .u8 0, .int .u8 0, .int .u8 0, .int .u8 0, .int .u8 0, .int .u8 0, .int .u8 0, .int .u8 0, .int .u8 0, .int .u8 0, .int .u8 0, .int .u8 0, .int .u8 0, .int .u8 0]) := by kernel_rfl
theorem zero5 : (Tryz.prog.info? 5).bind (·.zero) = some (.int .u8 0) := by kernel_rfl
def digB (st : List Int) : Nat → List Int
 | 0 => List.replicate 32 0
 | k + 1 => ((((digB st k).set (4 * k) (IntKind.u8.wrap (shrI .u32 (st.getD k 0) 24))).set (4 * k + 1) (IntKind.u8.wrap (shrI .u32 (st.getD k 0) 16))).set (4 * k + 2) (IntKind.u8.wrap (shrI .u32 (st.getD k 0) 8))).set (4 * k + 3) (IntKind.u8.wrap (st.getD k 0))
theorem digB_len (st : List Int) : ∀ k, (digB st k).length = 32
 | 0 => by simp [digB]
 | k + 1 => by simp [digB, digB_len st k]
theorem digest_c (st : List Int) (tl : List Value) (g t tot : Nat) (w : World) (hst : st.length = 8) (hl : Ent.lies ⟨g, t, st.map (int .u32) ++ (tl), tot⟩ w) : Calls Tryz.prog 82 #[.pointer (some ⟨g, 0, none⟩)] w fun e w' => e = .returned (.agg ((digB st 8).map (int .u8)).toArray) ∧ St w [] w' := by
 have hg : g < w.heap.size := hl.lt
 refine qL (args := [.pointer (some ⟨g, 0, none⟩)]) Tryz.func82 rfl Tryz.ntmps82 (by simp) ?_
 refine qC [0] ?_
 iterate 2 refine gx ?_
 refine zB (qA rfl) rfl rfl zero24 (cs := (List.replicate 32 0).map (int .u8)) rfl (tot := 32) (by simp) (fun g1 hg1 => ?_)
 iterate 4 refine gx ?_
 refine zB (qA rfl) rfl rfl zero24 (cs := (List.replicate 32 0).map (int .u8)) rfl (tot := 32) (by simp) (fun g2 hg2 => ?_)
 iterate 6 refine gx ?_
 refine qB (qA rfl) rfl (qO rfl rfl) ?_
 refine qB (qA rfl) rfl (qg rfl agg129 size129 rfl (vs := st.map (int .u32)) (by simp [hst]) (zS (lies_row hl) hg (qE (by show g2 ≠ g; omega) (qE (by show g1 ≠ g; omega) qF)))) ?_
 iterate 4 refine gx ?_
 refine qr (ι := Nat) (fun k => [(2, .pointer (some ⟨g1, 0, none⟩)), (3, .pointer (some ⟨g2, 0, none⟩)), (8, .agg (st.map (int .u32)).toArray), (9, .int .i64 (k : Int))]) (fun k => [⟨g2, 24, (digB st k).map (int .u8), 32⟩, ⟨g1, 24, (List.replicate 32 0).map (int .u8), 32⟩]) (fun k => 8 - k) (fun k => k ≤ 8) 0 (by omega) (qI (i := 2) rfl (qI (i := 3) rfl (qI (i := 8) rfl (qH (i := 9) rfl (by first | omega | rfl) (qN))))) (fun w h => h) (fun k hC0 => ?_)
 iterate 6 refine gx ?_
 refine qX rfl (fun h0 => ?_) (fun h0 => ?_)
 ·iterate 7 refine gx ?_
  refine qB (qA rfl) rfl (Gets.index1 rfl Tryz.underlying129 agg127 size127 rfl rfl (i := k) (by omega) (by omega) (arr_get (qf (kd := .u32) (W := st) (i := k) (by rw [hst]; omega)))) ?_
  iterate 4 refine gx ?_
  refine qC [2, 3, 4, 5, 8, 9] ?_
  iterate 2 refine gx ?_
  refine qB (qA rfl) rfl (zY rfl rfl rfl (r := (4 * (k : Int))) (w64 (by omega) (by omega))) ?_
  refine gx ?_
  refine qB (qA rfl) rfl (zY rfl rfl rfl (r := (4 * (k : Int))) (w64 (by omega) (by omega))) ?_
  refine qB (qA rfl) rfl (qR rfl rfl rfl (r := (4 * (k : Int) + 1)) (w64 (by omega) (by omega))) ?_
  refine gx ?_
  refine qB (qA rfl) rfl (zY rfl rfl rfl (r := (4 * (k : Int))) (w64 (by omega) (by omega))) ?_
  refine qB (qA rfl) rfl (qR rfl rfl rfl (r := (4 * (k : Int) + 2)) (w64 (by omega) (by omega))) ?_
  refine gx ?_
  refine qB (qA rfl) rfl (zY rfl rfl rfl (r := (4 * (k : Int))) (w64 (by omega) (by omega))) ?_
  refine qB (qA rfl) rfl (qR rfl rfl rfl (r := (4 * (k : Int) + 3)) (w64 (by omega) (by omega))) ?_
  refine gx ?_
  refine qB (qA rfl) rfl (zN rfl rfl rfl (by omega) (r := (shrI .u32 (st.getD k 0) 24)) rfl) ?_
  refine qB (qA rfl) rfl (qt rfl Tryz.underlying127 Tryz.underlying5 rfl (r := (IntKind.u8.wrap (shrI .u32 (st.getD k 0) 24))) rfl) ?_
  refine gx ?_
  refine qB (qA rfl) rfl (zN rfl rfl rfl (by omega) (r := (shrI .u32 (st.getD k 0) 16)) rfl) ?_
  refine qB (qA rfl) rfl (qt rfl Tryz.underlying127 Tryz.underlying5 rfl (r := (IntKind.u8.wrap (shrI .u32 (st.getD k 0) 16))) rfl) ?_
  refine gx ?_
  refine qB (qA rfl) rfl (zN rfl rfl rfl (by omega) (r := (shrI .u32 (st.getD k 0) 8)) rfl) ?_
  refine qB (qA rfl) rfl (qt rfl Tryz.underlying127 Tryz.underlying5 rfl (r := (IntKind.u8.wrap (shrI .u32 (st.getD k 0) 8))) rfl) ?_
  refine gx ?_
  refine qB (qA rfl) rfl (qt rfl Tryz.underlying127 Tryz.underlying5 rfl (r := (IntKind.u8.wrap (st.getD k 0))) rfl) ?_
  refine qB (qA rfl) rfl (qq rfl Tryz.underlying24 size5 rfl rfl (i := (4 * k)) (by omega) (by omega) (off' := (4 * k)) (by omega)) ?_
  refine qw (qA rfl) rfl rfl size5 rfl rfl rfl (i := 0) rfl rfl (by simp [(digB_len st k)] <;> omega) (cs' := ((digB st k).set (4 * k) (IntKind.u8.wrap (shrI .u32 (st.getD k 0) 24))).map (int .u8)) (ints_set) (H' := [⟨g2, 24, ((digB st k).set (4 * k) (IntKind.u8.wrap (shrI .u32 (st.getD k 0) 24))).map (int .u8), 32⟩, ⟨g1, 24, (List.replicate 32 0).map (int .u8), 32⟩]) rfl ?_
  refine qB (qA rfl) rfl (qq rfl Tryz.underlying24 size5 rfl rfl (i := (4 * k + 1)) (by omega) (by omega) (off' := (4 * k + 1)) (by omega)) ?_
  refine qw (qA rfl) rfl rfl size5 rfl rfl rfl (i := 0) rfl rfl (by simp [(digB_len st k)] <;> omega) (cs' := (((digB st k).set (4 * k) (IntKind.u8.wrap (shrI .u32 (st.getD k 0) 24))).set (4 * k + 1) (IntKind.u8.wrap (shrI .u32 (st.getD k 0) 16))).map (int .u8)) (ints_set) (H' := [⟨g2, 24, (((digB st k).set (4 * k) (IntKind.u8.wrap (shrI .u32 (st.getD k 0) 24))).set (4 * k + 1) (IntKind.u8.wrap (shrI .u32 (st.getD k 0) 16))).map (int .u8), 32⟩, ⟨g1, 24, (List.replicate 32 0).map (int .u8), 32⟩]) rfl ?_
  refine qB (qA rfl) rfl (qq rfl Tryz.underlying24 size5 rfl rfl (i := (4 * k + 2)) (by omega) (by omega) (off' := (4 * k + 2)) (by omega)) ?_
  refine qw (qA rfl) rfl rfl size5 rfl rfl rfl (i := 0) rfl rfl (by simp [(digB_len st k)] <;> omega) (cs' := ((((digB st k).set (4 * k) (IntKind.u8.wrap (shrI .u32 (st.getD k 0) 24))).set (4 * k + 1) (IntKind.u8.wrap (shrI .u32 (st.getD k 0) 16))).set (4 * k + 2) (IntKind.u8.wrap (shrI .u32 (st.getD k 0) 8))).map (int .u8)) (ints_set) (H' := [⟨g2, 24, ((((digB st k).set (4 * k) (IntKind.u8.wrap (shrI .u32 (st.getD k 0) 24))).set (4 * k + 1) (IntKind.u8.wrap (shrI .u32 (st.getD k 0) 16))).set (4 * k + 2) (IntKind.u8.wrap (shrI .u32 (st.getD k 0) 8))).map (int .u8), 32⟩, ⟨g1, 24, (List.replicate 32 0).map (int .u8), 32⟩]) rfl ?_
  refine qB (qA rfl) rfl (qq rfl Tryz.underlying24 size5 rfl rfl (i := (4 * k + 3)) (by omega) (by omega) (off' := (4 * k + 3)) (by omega)) ?_
  refine qw (qA rfl) rfl rfl size5 rfl rfl rfl (i := 0) rfl rfl (by simp [(digB_len st k)] <;> omega) (cs' := (((((digB st k).set (4 * k) (IntKind.u8.wrap (shrI .u32 (st.getD k 0) 24))).set (4 * k + 1) (IntKind.u8.wrap (shrI .u32 (st.getD k 0) 16))).set (4 * k + 2) (IntKind.u8.wrap (shrI .u32 (st.getD k 0) 8))).set (4 * k + 3) (IntKind.u8.wrap (st.getD k 0))).map (int .u8)) (ints_set) (H' := [⟨g2, 24, (((((digB st k).set (4 * k) (IntKind.u8.wrap (shrI .u32 (st.getD k 0) 24))).set (4 * k + 1) (IntKind.u8.wrap (shrI .u32 (st.getD k 0) 16))).set (4 * k + 2) (IntKind.u8.wrap (shrI .u32 (st.getD k 0) 8))).set (4 * k + 3) (IntKind.u8.wrap (st.getD k 0))).map (int .u8), 32⟩, ⟨g1, 24, (List.replicate 32 0).map (int .u8), 32⟩]) rfl ?_
  iterate 3 refine gx ?_
  refine qC [2, 3, 8, 9] ?_
  refine gx ?_
  refine qB (qA rfl) rfl (qR rfl rfl rfl (r := ((k : Int) + 1)) (w64 (by omega) (by omega))) ?_
  iterate 2 refine gx ?_
  exact qj (k + 1) (by omega) (by omega) (qI (i := 2) rfl (qI (i := 3) rfl (qI (i := 8) rfl (qH (i := 9) rfl (by first | omega | rfl) (qN))))) (fun w h => h)
 ·obtain rfl : k = 8 := by omega
  have Dl := digB_len st 8
  generalize hD : digB st 8 = D at Dl ⊢
  iterate 7 refine gx ?_
  refine qB (qA rfl) rfl (qg rfl agg24 size24 rfl (vs := D.map (int .u8)) (by simp [Dl]) (qQ (i := 0) (ent := ⟨g2, 24, D.map (int .u8), 32⟩) rfl rfl rfl)) ?_
  refine qn (qA rfl) rfl rfl size24 rfl (vs := D.map (int .u8)) rfl (by simp [Dl]) qb (i := 1) (ent := ⟨g1, 24, (List.replicate 32 0).map (int .u8), 32⟩) rfl rfl (by simp []) (H' := [⟨g2, 24, D.map (int .u8), 32⟩, ⟨g1, 24, D.map (int .u8), 32⟩]) rfl ?_
  iterate 3 refine gx ?_
  exact qu rfl agg24 size24 rfl (vs := D.map (int .u8)) (by simp [Dl]) (qQ (i := 1) (ent := ⟨g1, 24, D.map (int .u8), 32⟩) rfl rfl rfl) (fun w hs => ⟨rfl, hs.dp⟩)
def zerosN (n : Nat) : Nat := (119 - n % 64) % 64
def endB (n : Nat) : Nat → List Int
 | 0 => (List.replicate (zerosN n + 9) 0).set 0 128
 | k + 1 => (endB n k).set (zerosN n + k + 1) (IntKind.u8.wrap (shrI .u64 (mulW .u64 n 8) (56 - 8 * k)))
theorem endB_len (n : Nat) : ∀ k, (endB n k).length = zerosN n + 9
 | 0 => by simp [endB]
 | k + 1 => by simp [endB, endB_len n k]
theorem zerosN_int (n : Nat) : (119 - (n : Int) % 64) % 64 = zerosN n := by unfold zerosN; omega
theorem zerosN_lt (n : Nat) : zerosN n < 64 := by unfold zerosN; omega
theorem ending_c (n : Nat) (w : World) (hn : n ≤ 4611686018427387903) : Calls Tryz.prog 81 #[.int .i64 (n : Int)] w fun e w' => ∃ g, e = .returned (.slice (some ⟨g, 0, none⟩) (zerosN n + 9) (zerosN n + 9)) ∧ w.heap.size ≤ g ∧ St w [⟨g, 5, (endB n 8).map (int .u8), zerosN n + 9⟩] w' := by
 have hz := zerosN_lt n
 refine qL (args := [.int .i64 (n : Int)]) Tryz.func81 rfl Tryz.ntmps81 (by simp) ?_
 refine qC [0] ?_
 iterate 8 refine gx ?_
 refine qB (qA rfl) rfl (Gets.rem rfl rfl rfl (by omega) (r := ((n : Int) % 64)) (tmod_pos (by omega) rfl)) ?_
 refine qB (qA rfl) rfl (zH rfl rfl rfl (r := (119 - ((n : Int) % 64))) (w64 (by omega) (by omega))) ?_
 refine qB (qA rfl) rfl (Gets.rem rfl rfl rfl (by omega) (r := (zerosN n : Int)) (tmod_pos (by omega) (zerosN_int n))) ?_
 iterate 6 refine gx ?_
 refine qB (qA rfl) rfl (qR rfl rfl rfl (r := ((zerosN n : Int) + 1)) (w64 (by omega) (by omega))) ?_
 refine gx ?_
 refine qB (qA rfl) rfl (qR rfl rfl rfl (r := ((zerosN n : Int) + 1)) (w64 (by omega) (by omega))) ?_
 refine qB (qA rfl) rfl (qR rfl rfl rfl (r := ((zerosN n : Int) + 9)) (w64 (by omega) (by omega))) ?_
 refine TL.makeSlice1 (qA rfl) rfl rfl Tryz.underlying22 mk5 rfl rfl rfl (ln := ((zerosN n) + 1)) (cp := ((zerosN n) + 9)) (by omega) (by omega) (by omega) (by omega) (by omega) (fun g1 hg1 => ?_)
 rw [show List.replicate ((zerosN n) + 9) (.int .u8 0) = (List.replicate ((zerosN n) + 9) 0).map (int .u8) from (List.map_replicate ..).symm]
 iterate 3 refine gx ?_
 refine qC [0, 2, 4] ?_
 iterate 3 refine gx ?_
 refine qB (qA rfl) rfl (ql rfl Tryz.underlying22 size5 rfl rfl (i := 0) (by rfl) (by omega) (off' := 0) (by omega)) ?_
 refine qw (qA rfl) rfl rfl size5 rfl rfl rfl (i := 0) rfl rfl (by simp [] <;> omega) (cs' := (endB n 0).map (int .u8)) (ints_set) (H' := [⟨g1, 5, (endB n 0).map (int .u8), ((zerosN n) + 9)⟩]) rfl ?_
 iterate 5 refine gx ?_
 refine qB (qA rfl) rfl (qt rfl Tryz.underlying3 Tryz.underlying37 rfl (r := (n : Int)) (wu64 rfl (by omega))) ?_
 refine qB (qA rfl) rfl (Gets.mulU rfl rfl rfl) ?_
 iterate 3 refine gx ?_
 refine qC [2, 4, 5] ?_
 iterate 7 refine gx ?_
 refine qr (ι := Nat) (fun k => [(4, .slice (some ⟨g1, 0, none⟩) ((zerosN n) + k + 1) ((zerosN n) + 9)), (5, .int .u64 (mulW .u64 (n : Int) 8)), (6, .int .i64 (56 - 8 * (k : Int)))]) (fun k => [⟨g1, 5, (endB n k).map (int .u8), (zerosN n + 9)⟩]) (fun k => 8 - k) (fun k => k ≤ 8) 0 (by omega) (qT (i := 4) rfl rfl (by first | omega | (dsimp only; omega) | rfl) (by first | omega | (dsimp only; omega) | rfl) (qH (i := 5) rfl (by first | rfl | omega) (qH (i := 6) rfl (by first | omega | rfl) (qN)))) (fun w h => h) (fun k hC0 => ?_)
 iterate 7 refine gx ?_
 refine qX rfl (fun h0 => ?_) (fun h0 => ?_)
 ·iterate 8 refine gx ?_
  refine qB (qA rfl) rfl (zN rfl rfl rfl (by omega) (r := (shrI .u64 (mulW .u64 (n : Int) 8) (56 - 8 * (k : Int)))) rfl) ?_
  refine qB (qA rfl) rfl (qt rfl Tryz.underlying37 Tryz.underlying5 rfl (r := (IntKind.u8.wrap (shrI .u64 (mulW .u64 (n : Int) 8) (56 - 8 * (k : Int))))) rfl) ?_
  refine zc (qA rfl) rfl rfl Tryz.underlying22 size5 zero5 rfl (by decide) (by decide) (cells := #[.int .u8 (IntKind.u8.wrap (shrI .u64 (mulW .u64 (n : Int) 8) (56 - 8 * (k : Int))))]) (tot := 1) (by kernel_rfl) (cs := [.int .u8 (IntKind.u8.wrap (shrI .u64 (mulW .u64 (n : Int) 8) (56 - 8 * (k : Int))))]) rfl rfl (fun g2 hg2 => ?_)
  refine TL.append1 (qA rfl) rfl rfl Tryz.underlying22 size5 rfl rfl (i := 1) (j := 0) rfl rfl rfl rfl rfl (by omega) (by simp [(endB_len n k)] <;> omega) (cs' := ((endB n k).set ((zerosN n) + k + 1) (IntKind.u8.wrap (shrI .u64 (mulW .u64 (n : Int) 8) (56 - 8 * (k : Int))))).map (int .u8)) (ints_set) (H' := [⟨g2, 5, [int .u8 (IntKind.u8.wrap (shrI .u64 (mulW .u64 (n : Int) 8) (56 - 8 * (k : Int))))], 1⟩, ⟨g1, 5, ((endB n k).set ((zerosN n) + k + 1) (IntKind.u8.wrap (shrI .u64 (mulW .u64 (n : Int) 8) (56 - 8 * (k : Int))))).map (int .u8), (zerosN n + 9)⟩]) rfl (ln' := ((zerosN n) + k + 2)) (by omega) ?_
  iterate 4 refine gx ?_
  refine qC [4, 5, 6] ?_
  iterate 2 refine gx ?_
  refine qB (qA rfl) rfl (zH rfl rfl rfl (r := (48 - 8 * (k : Int))) (w64 (by omega) (by omega))) ?_
  iterate 2 refine gx ?_
  exact qj (k + 1) (by omega) (by omega) (qT (i := 4) rfl rfl (by first | omega | (dsimp only; omega) | rfl) (by first | omega | (dsimp only; omega) | rfl) (qH (i := 5) rfl (by first | rfl | omega) (qH (i := 6) rfl (by first | omega | rfl) (qN)))) (fun w h => h.drop (by assumption))
 ·obtain rfl : k = 8 := by omega
  have El := endB_len n 8
  generalize hE : endB n 8 = E at El ⊢
  iterate 12 refine gx ?_
  exact qK rfl rfl (fun w hs => ⟨g1, rfl, hg1, hs⟩)
/-
 Contracts of package sha: the message by its blocks; New, Len, Clone.
-/
theorem agg128 : (isAgg 128).run Tryz.prog = fun w => .ok true w := isAgg_yes Tryz.underlying128 rfl
theorem size128 : (Tryz.prog.info? 128).map (·.size) = some 8 := by kernel_rfl
def blk (M : List Int) (i : Nat) : List Int := (M.drop (64 * i)).take 64
def cmp (M : List Int) : Nat → List Int
 | 0 => IV
 | i + 1 => mixS (cmp M i) (blk M i)
theorem cmp_succ (M : List Int) (i : Nat) : cmp M (i + 1) = mixS (cmp M i) (blk M i) := rfl
theorem cmp_len (M : List Int) : ∀ i, (cmp M i).length = 8
 | 0 => rfl
 | i + 1 => mixS_len (cmp_len M i)
theorem blk_app (M P : List Int) (i : Nat) (h : 64 * i + 64 ≤ M.length) : blk (M ++ P) i = blk M i := by
 unfold blk
 rw [List.drop_append_of_le_length (by omega), List.take_append_of_le_length (by simp; omega)]
theorem cmp_app (M P : List Int) : ∀ i, 64 * i ≤ M.length → cmp (M ++ P) i = cmp M i
 | 0, _ => rfl
 | i + 1, h => by unfold cmp; rw [cmp_app M P i (by omega), blk_app M P i (by omega)]
theorem blk_get (M : List Int) (i j : Nat) (h : j < 64) : (blk M i).getD j 0 = M.getD (64 * i + j) 0 := by
 unfold blk; simp [List.getD_eq_getElem?_getD, List.getElem?_take, h]
theorem app_get1 (M P : List Int) (j : Nat) (h : j < M.length) : (M ++ P).getD j 0 = M.getD j 0 := by
 simp [List.getD_eq_getElem?_getD, List.getElem?_append, h]
theorem app_get2 (M P : List Int) (j : Nat) (h : M.length ≤ j) : (M ++ P).getD j 0 = P.getD (j - M.length) 0 := by
 simp [List.getD_eq_getElem?_getD, List.getElem?_append, show ¬ j < M.length by omega]
theorem drop_get (P : List Int) (q j : Nat) : (P.drop q).getD j 0 = P.getD (q + j) 0 := by simp [List.getD_eq_getElem?_getD]
theorem take_get (P : List Int) (q j : Nat) (h : j < q) : (P.take q).getD j 0 = P.getD j 0 := by simp [List.getD_eq_getElem?_getD, List.getElem?_take, h]
theorem IV_len : IV.length = 8 := rfl
def HashOK (M st rs : List Int) : Prop := st = cmp M (M.length / 64) ∧ rs.length = 64 ∧ ∀ j, j < M.length % 64 → rs.getD j 0 = M.getD (64 * (M.length / 64) + j) 0
theorem HashOK.len {M st rs : List Int} (h : HashOK M st rs) : st.length = 8 := by rw [h.1]; exact cmp_len ..
theorem HashOK.rlen {M st rs : List Int} (h : HashOK M st rs) : rs.length = 64 := h.2.1
theorem hash_nil : HashOK [] IV (List.replicate 64 0) := ⟨rfl, by simp, fun j hj => by simp at hj⟩
def splice (rs : List Int) (o : Nat) (X : List Int) : List Int := rs.take o ++ X ++ rs.drop (o + X.length)
theorem splice_len {rs X : List Int} {o : Nat} (h : o + X.length ≤ rs.length) : (splice rs o X).length = rs.length := by unfold splice; simp; omega
theorem splice_get {rs X : List Int} {o j : Nat} (h : o + X.length ≤ rs.length) : (splice rs o X).getD j 0 = if j < o then rs.getD j 0 else if j < o + X.length then X.getD (j - o) 0 else rs.getD j 0 := by
 unfold splice
 have ho : (rs.take o).length = o := by simp; omega
 by_cases h1 : j < o
 ·rw [if_pos h1, List.append_assoc, app_get1 _ _ _ (by omega), take_get _ _ _ h1]
 ·rw [if_neg h1]
  by_cases h2 : j < o + X.length
  ·rw [if_pos h2, app_get1 _ _ _ (by simp; omega), app_get2 _ _ _ (by omega), ho]
  ·rw [if_neg h2, app_get2 _ _ _ (by simp; omega), drop_get]
   congr 1
   simp; omega
theorem hash_short {M P st rs : List Int} (h : HashOK M st rs) (hm : M.length % 64 + P.length < 64) : HashOK (M ++ P) st (splice rs (M.length % 64) P) := by
 obtain ⟨h1, h2, h3⟩ := h
 have hd : (M ++ P).length / 64 = M.length / 64 := by simp; omega
 refine ⟨by rw [hd, cmp_app _ _ _ (by omega)]; exact h1, by rw [splice_len (by omega)]; exact h2, fun j hj => ?_⟩
 rw [hd, splice_get (by omega)]
 have hj2 : j < M.length % 64 + P.length := by simp at hj; omega
 by_cases h4 : j < M.length % 64
 ·rw [if_pos h4, h3 j h4, app_get1 _ _ _ (by omega)]
 ·rw [if_neg h4, if_pos hj2, app_get2 _ _ _ (by omega)]
  congr 1; omega
theorem hash_full {M P st rs : List Int} (h : HashOK M st rs) {c : Nat} (hk : 0 < M.length % 64) (hc : M.length % 64 + c = 64) (hcp : c ≤ P.length) : st = cmp (M ++ P) (M.length / 64) ∧ ∀ j, j < 64 → (splice rs (M.length % 64) (P.take c)).getD j 0 = (blk (M ++ P) (M.length / 64)).getD j 0 := by
 obtain ⟨h1, h2, h3⟩ := h
 have hl : (P.take c).length = c := by simp; omega
 refine ⟨by rw [cmp_app _ _ _ (by omega)]; exact h1, fun j hj => ?_⟩
 rw [blk_get _ _ _ hj, splice_get (by omega), hl]
 by_cases h4 : j < M.length % 64
 ·rw [if_pos h4, h3 j h4, app_get1 _ _ _ (by omega)]
 ·rw [if_neg h4, if_pos (by omega), app_get2 _ _ _ (by omega), take_get _ _ _ (by omega)]
  congr 1; omega
theorem blk_drop {M P : List Int} {q j : Nat} (hq : (M.length + q) % 64 = 0) (hj : j < 64) : (P.drop q).getD j 0 = (blk (M ++ P) ((M.length + q) / 64)).getD j 0 := by
 rw [blk_get _ _ _ hj, drop_get, app_get2 _ _ _ (by omega)]; congr 1; omega
theorem hash_end {M P rs : List Int} {q : Nat} (hq : (M.length + q) % 64 = 0) (hqm : q ≤ P.length) (hl : P.length - q < 64) (hr : rs.length = 64) : HashOK (M ++ P) (cmp (M ++ P) ((M.length + q) / 64)) (splice rs 0 (P.drop q)) := by
 have hd : (M ++ P).length / 64 = (M.length + q) / 64 := by simp; omega
 have hl2 : (P.drop q).length = P.length - q := by simp
 refine ⟨by rw [hd], by rw [splice_len (by omega)]; exact hr, fun j hj => ?_⟩
 have hj2 : j < P.length - q := by simp at hj; omega
 rw [hd, splice_get (by omega), if_neg (by omega), if_pos (by omega), Nat.sub_zero, drop_get, app_get2 _ _ _ (by omega)]
 congr 1; omega
attribute [irreducible] cmp splice HashOK
theorem rowI_row {w : World} {b off n : Nat} {kd : IntKind} {B : List Int} (hn : B.length = n) (h : RowI w b off n kd B) (j : Nat) (u : Value) (hu : (B.map (int kd))[j]? = some u) : w.cell? ⟨b, off + j, none⟩ = some u := by
 simp only [List.getElem?_map] at hu
 by_cases hj : j < B.length
 ·rw [h j (by omega)]; simpa [hj] using hu
 ·simp [hj] at hu
theorem new_c (w : World) (h0 : 0 < w.heap.size) (hIV : RowI w 0 0 8 .u32 IV) : Calls Tryz.prog 46 #[] w fun e w' => ∃ g, e = .returned (.pointer (some ⟨g, 0, none⟩)) ∧ w.heap.size ≤ g ∧ St w [⟨g, 132, IV.map (int .u32) ++ ((List.replicate 64 0).map (int .u8) ++ ([int .i64 0])), 73⟩] w' := by
 refine qL (args := []) Tryz.func46 rfl Tryz.ntmps46 (by simp) ?_
 refine qC [] ?_
 iterate 7 refine gx ?_
 refine qB (qA rfl) rfl (qg rfl agg128 size128 rfl (vs := IV.map (int .u32)) rfl (zS (rowI_row rfl hIV) h0 qF)) ?_
 refine qB (qA rfl) rfl (qm rfl (vs := [(0, .agg (IV.map (int .u32)).toArray)]) rfl (fun w => by kernel_rfl) (v := .agg (IV.map (int .u32) ++ ((List.replicate 64 0).map (int .u8) ++ ([int .i64 0]))).toArray)) ?_
 refine zQ (qA rfl) rfl rfl rfl (cs := IV.map (int .u32) ++ ((List.replicate 64 0).map (int .u8) ++ ([int .i64 0]))) (by simp [Value.cells]) (tot := 73) (by simp [IV_len]) (fun g1 hg1 => ?_)
 iterate 4 refine gx ?_
 exact qK rfl rfl (fun w hs => ⟨g1, rfl, hg1, hs⟩)
/-
 Contract of package sha: take.
-/
theorem agg3 : (isAgg 3).run Tryz.prog = fun w => .ok false w := isAgg_no Tryz.underlying3 rfl
theorem enters111 : Enters Tryz.prog 111 := ⟨_, Tryz.func111, by kernel_rfl, by kernel_rfl⟩
theorem size130 : (Tryz.prog.info? 130).map (·.size) = some 64 := by kernel_rfl
theorem size3 : (Tryz.prog.info? 3).map (·.size) = some 1 := by kernel_rfl
instance : Fld Tryz.prog 132 1 8 := ⟨⟨_, _, _, Tryz.underlying132, rfl, size130, rfl⟩⟩
instance : Fld Tryz.prog 132 2 72 := ⟨⟨_, _, _, Tryz.underlying132, rfl, size3, rfl⟩⟩
instance : Sli Tryz.prog 22 5 := ⟨Tryz.underlying22⟩
structure TI where
 q : Nat
 A : Option Addr
 c : Nat
theorem splice_is {A T : List Value} {rs P : List Int} {o q f : Nat} (hf : f = 8 + o) (ha : A.length = 8) (hq : q ≤ P.length) (ho : o + q ≤ rs.length) :
  (A ++ (rs.map (int .u8) ++ T)).take f ++ (P.take q).map (int .u8) ++ (A ++ (rs.map (int .u8) ++ T)).drop (f + q) = A ++ ((splice rs o (P.take q)).map (int .u8) ++ T) := by
 subst hf
 have hl : (P.take q).length = q := by simp; omega
 rw [splice_mid ha ho]
 unfold splice
 rw [hl]
theorem splice_lenq {rs P : List Int} {o q : Nat} (h : rs.length = 64) (hq : q ≤ P.length) (ho : o + q ≤ 64) : (splice rs o (P.take q)).length = 64 := by
 have hl : (P.take q).length = q := by simp; omega
 rw [splice_len (by omega), h]
theorem take_short {M P st rs : List Int} {n m o q : Nat} (hk : HashOK M st rs) (hM : M.length = n) (ho : o = n % 64) (hq : q = min m (64 - o)) (hm : P.length = m) (hlt : (o : Int) + q < 64) : HashOK (M ++ P) st (splice rs o (P.take q)) := by
 subst hM
 have hqm : q = m := by omega
 rw [List.take_of_length_le (by omega), ho]
 exact hash_short hk (by omega)
theorem take_full {M P st rs : List Int} {n m o q : Nat} (hk : HashOK M st rs) (hM : M.length = n) (ho : o = n % 64) (hq : q = min m (64 - o)) (hm : P.length = m) (h0 : (0 : Int) < o) (hlt : ¬ (o : Int) + q < 64) :
  mixS st (blk (M ++ P) (n / 64)) = cmp (M ++ P) ((n + q) / 64) ∧ ∀ j, j < 64 → (splice rs o (P.take q)).getD j 0 = (blk (M ++ P) (n / 64)).getD j 0 := by
 subst hM
 obtain ⟨h1, h2⟩ := hash_full (P := P) (c := q) hk (by omega) (by omega) (by omega)
 refine ⟨?_, by rw [ho]; exact h2⟩
 have : (M.length + q) / 64 = M.length / 64 + 1 := by omega
 rw [this, h1, cmp_succ]
theorem take_round {M P : List Int} {n k : Nat} : mixS (cmp (M ++ P) ((n + k) / 64)) (blk (M ++ P) ((n + k) / 64)) = cmp (M ++ P) ((n + (k + 64)) / 64) := by
 have : (n + (k + 64)) / 64 = (n + k) / 64 + 1 := by omega
 rw [this, cmp_succ]
theorem take_end {M P rs : List Int} {n m k : Nat} (hM : M.length = n) (hm : P.length = m) (hC1 : (n + k) % 64 = 0) (hC2 : k ≤ m) (hlt : ¬ (64 : Int) ≤ ((m - k : Nat) : Int)) (hr : rs.length = 64) : HashOK (M ++ P) (cmp (M ++ P) ((n + k) / 64)) (splice rs 0 ((P.drop k).take (m - k))) := by
 subst hM; subst hm
 rw [List.take_of_length_le (by simp)]
 exact hash_end hC1 hC2 (by omega) hr
theorem hash_st {M P st rs : List Int} {n : Nat} (hk : HashOK M st rs) (hM : M.length = n) : st = cmp (M ++ P) ((n + 0) / 64) := by
 subst hM; rw [Nat.add_zero, cmp_app _ _ _ (by omega)]
 unfold HashOK at hk; exact hk.1
theorem ne_of_ne {w : World} {e : Ent} {g : Nat} (hg : e.g = g) : ∀ b, b < w.heap.size → b ≠ g → ∀ d ∈ [e], d.g ≠ b := by
 intro b _ hne d hd
 simp only [List.mem_singleton] at hd
 subst hd
 rw [hg]; exact fun h => hne h.symm
theorem next_src {w : World} {g m k d : Nat} {A : Option Addr} {P : List Int} (h : SrcN w g A (m - k) .u8 (P.drop k)) (h1 : 64 ≤ m - k) (h2 : m - k ≤ d) : SrcN w g (cutA A d 64 1) (m - (k + 64)) .u8 (P.drop (k + 64)) := by
 have := h.drop (l := 64) h1 h2
 rw [List.drop_drop] at this
 rwa [show m - k - 64 = m - (k + 64) by omega] at this
theorem fst_src {w : World} {g m c q : Nat} {A : Option Addr} {P : List Int} (h : SrcN w g A m .u8 P) (h1 : q ≤ m) (h2 : m ≤ c) : SrcN w g (cutA A c q 1) (m - q) .u8 (P.drop q) := h.drop h1 h2
theorem take_c (M P st rs : List Int) (n g : Nat) (A : Option Addr) (m c : Nat) (w : World) (hk : HashOK M st rs) (hM : M.length = n) (hst : st.length = 8) (hrs : rs.length = 64) (hl : Ent.lies ⟨g, 132, st.map (int .u32) ++ (rs.map (int .u8) ++ ([int .i64 (n : Int)])), 73⟩ w) (hsrc : SrcN w g A m .u8 P) (hmc : m ≤ c) (hn : n + m ≤ 4611686018427387903) (hb1 : 1 < w.heap.size) (hg1 : g ≠ 1) (hK : RowI w 1 0 64 .u32 KT) : Calls Tryz.prog 80 #[.pointer (some ⟨g, 0, none⟩), .slice A m c] w fun e w' => e = .returned (.tuple #[]) ∧ ∃ st' rs', HashOK (M ++ P) st' rs' ∧ St w [⟨g, 132, (st').map (int .u32) ++ ((rs').map (int .u8) ++ ([int .i64 ((n : Int) + (m : Int))])), 73⟩] w' := by
 have hg : g < w.heap.size := hl.lt
 obtain ⟨o, ho⟩ : ∃ o, o = n % 64 := ⟨_, rfl⟩
 refine qL (args := [.pointer (some ⟨g, 0, none⟩), .slice A m c]) Tryz.func80 rfl Tryz.ntmps80 (by simp) ?_
 refine qC [0, 1] ?_
 refine qe (H' := [⟨g, 132, st.map (int .u32) ++ (rs.map (int .u8) ++ ([int .i64 (n : Int)])), 73⟩]) (fun w hs => hs.take hl qF) ?_
 iterate 3 refine gx ?_
 refine qB (qA rfl) rfl (qO rfl rfl) ?_
 refine gx ?_
 refine qB (qA rfl) rfl (qS rfl agg3 rfl (qZ (i := 0) (ent := ⟨g, 132, st.map (int .u32) ++ (rs.map (int .u8) ++ ([int .i64 (n : Int)])), 73⟩) (off := 72) rfl rfl (by exact app_right (a := 8) (i := 64) (ints_len hst) (app_right (a := 64) (i := 0) (ints_len hrs) (rfl))))) ?_
 refine qB (qA rfl) rfl (Gets.rem rfl rfl rfl (by omega) (r := (o : Int)) (tmod_pos (by omega) (by omega))) ?_
 iterate 6 refine gx ?_
 refine qB (qA rfl) rfl (qO rfl rfl) ?_
 refine gx ?_
 refine qB (qA rfl) rfl (qS rfl agg3 rfl (qZ (i := 0) (ent := ⟨g, 132, st.map (int .u32) ++ (rs.map (int .u8) ++ ([int .i64 (n : Int)])), 73⟩) (off := 72) rfl rfl (by exact app_right (a := 8) (i := 64) (ints_len hst) (app_right (a := 64) (i := 0) (ints_len hrs) (rfl))))) ?_
 iterate 2 refine gx ?_
 refine qB (qA rfl) rfl (qR rfl rfl rfl (r := ((n : Int) + (m : Int))) (w64 (by omega) (by omega))) ?_
 refine qB (qA rfl) rfl (qO rfl rfl) ?_
 refine gx ?_
 refine qw (qA rfl) rfl rfl size3 rfl rfl rfl (i := 0) rfl rfl (by simp [hst, hrs] <;> omega) (cs' := st.map (int .u32) ++ (rs.map (int .u8) ++ ([int .i64 ((n : Int) + (m : Int))]))) (set_right (a := 8) (i := 64) (ints_len hst) (set_right (a := 64) (i := 0) (ints_len hrs) (rfl))) (H' := [⟨g, 132, st.map (int .u32) ++ (rs.map (int .u8) ++ ([int .i64 ((n : Int) + (m : Int))])), 73⟩]) rfl ?_
 iterate 2 refine gx ?_
 refine qC [0, 1, 4] ?_
 iterate 7 refine gx ?_
 refine qX rfl (fun h0 => ?_) (fun h0 => ?_)
 ·iterate 3 refine gx ?_
  refine qB (qA rfl) rfl (qO rfl rfl) ?_
  iterate 2 refine gx ?_
  refine qB (qA rfl) rfl (Gets.sliceA rfl Tryz.underlying130 size5 rfl (bnd.at_ (l := o) rfl (by omega)) bnd.dflt (by omega) (by omega) (A' := some ⟨g, (o + 8), none⟩) (cut_is (by omega) (by omega)) (ln := (64 - o)) (cp := (64 - o)) (by omega) (by omega)) ?_
  refine gx ?_
  obtain ⟨q, hq⟩ : ∃ q, q = min m (64 - o) := ⟨_, rfl⟩
  have hr1 : (splice rs o (P.take q)).length = 64 := splice_lenq hrs (by have := hsrc.1; omega) (by omega)
  refine TL.copy (qA rfl) rfl rfl Tryz.underlying22 size5 rfl rfl (i := 0) (ent := ⟨g, 132, st.map (int .u32) ++ (rs.map (int .u8) ++ ([int .i64 ((n : Int) + (m : Int))])), 73⟩) rfl rfl (by simp [hst, hrs] <;> omega) (kd := .u8) (B := P) (fun w hs => (hsrc.src hs (ne_of_ne rfl))) (c := q) (by omega) (cs' := st.map (int .u32) ++ ((splice rs o (P.take q)).map (int .u8) ++ ([int .i64 ((n : Int) + (m : Int))]))) (splice_is (rs := rs) (P := P) (o := o) (q := q) (by omega) (ints_len hst) (by have := hsrc.1; omega) (by rw [hrs]; omega)) (H' := [⟨g, 132, st.map (int .u32) ++ ((splice rs o (P.take q)).map (int .u8) ++ ([int .i64 ((n : Int) + (m : Int))])), 73⟩]) rfl ?_
  iterate 3 refine gx ?_
  refine qC [0, 1, 4, 5] ?_
  iterate 5 refine gx ?_
  refine qB (qA rfl) rfl (qR rfl rfl rfl (r := ((o : Int) + (q : Int))) (w64 (by omega) (by omega))) ?_
  iterate 3 refine gx ?_
  refine qX rfl (fun h1 => ?_) (fun h1 => ?_)
  ·iterate 3 refine gx ?_
   exact TE.ret0 rfl (fun w hs => ⟨rfl, _, _, take_short hk hM ho hq hsrc.1 h1, hs⟩)
  ·iterate 3 refine gx ?_
   refine TC.draw (by kernel_rfl) ?_
   refine TF.seqL 7 (by kernel_rfl) ?_
   refine TS.gets (qA rfl) rfl (qp rfl rfl) ?_
   refine TS.gets (qA rfl) rfl (qO rfl rfl) ?_
   refine TS.gets (qA rfl) rfl (zE rfl Tryz.underlying132 rfl size129 rfl (off' := 0) (by first | rfl | omega)) ?_
   refine TS.gets (qA rfl) rfl (qp rfl rfl) ?_
   refine TS.gets (qA rfl) rfl (qO rfl rfl) ?_
   refine TS.gets (qA rfl) rfl (zE rfl Tryz.underlying132 rfl size130 rfl (off' := 8) (by first | rfl | omega)) ?_
   refine TS.gets (qA rfl) rfl (Gets.sliceA rfl Tryz.underlying130 size5 rfl bnd.dflt bnd.dflt (by omega) (by omega) (cutA_zero _ _ _) (ln := 64) (cp := 64) (by omega) (by omega)) ?_
   refine TS.done ?_
   refine TF.tailL (by kernel_rfl) ?_
   have hfull := take_full hk hM ho hq hsrc.1 h0 h1
   refine qY (ι := Unit) (V := fun _ => .tuple #[]) (R := fun _ => True) (H' := fun _ => [⟨g, 132, (cmp (M ++ P) ((n + q) / 64)).map (int .u32) ++ ((splice rs o (P.take q)).map (int .u8) ++ ([int .i64 ((n : Int) + (m : Int))])), 73⟩]) (qA rfl) rfl enters111 rfl rfl (fun w hs => (mix_c st (blk (M ++ P) (n / 64)) ((splice rs o (P.take q)).map (int .u8) ++ ([int .i64 ((n : Int) + (m : Int))])) g 132 73 g 8 64 w hst (hs.has (⟨g, 132, st.map (int .u32) ++ ((splice rs o (P.take q)).map (int .u8) ++ ([int .i64 ((n : Int) + (m : Int))])), 73⟩) (List.mem_singleton.2 rfl)) (hs.has (⟨g, 132, st.map (int .u32) ++ ((splice rs o (P.take q)).map (int .u8) ++ ([int .i64 ((n : Int) + (m : Int))])), 73⟩) (List.mem_singleton.2 rfl)).lt (fun j hj => by rw [← hfull.2 j hj]; exact (hs.has (⟨g, 132, st.map (int .u32) ++ ((splice rs o (P.take q)).map (int .u8) ++ ([int .i64 ((n : Int) + (m : Int))])), 73⟩) (List.mem_singleton.2 rfl)).cell (app_right (a := 8) (ints_len hst) (app_left (qf (kd := .u8) (by rw [hr1]; omega))))) (by omega) (Nat.lt_of_lt_of_le hb1 hs.size) hg1 (hK.keepH hs hb1 (qE (by show g ≠ 1; exact hg1) qF))).mono fun e w' ⟨he, hw⟩ => ⟨(), he, trivial, by rw [hfull.1] at hw; exact hs.turn (i := 0) rfl rfl hw⟩) (fun _ _ => ?_)
   iterate 2 refine gx ?_
   refine qC [0, 1, 5] ?_
   iterate 3 refine gx ?_
   refine qB (qA rfl) rfl (zP rfl Tryz.underlying22 size5 rfl (bnd.at_ (l := q) rfl (by omega)) bnd.dflt (by omega) (by omega) rfl (ln := (m - q)) (cp := (c - q)) (by omega) (by omega)) ?_
   iterate 5 refine gx ?_
   refine qr (ι := TI) (fun x => [(0, .pointer (some ⟨g, 0, none⟩)), (1, .slice x.A (m - x.q) x.c)]) (fun x => [⟨g, 132, (cmp (M ++ P) ((n + x.q) / 64)).map (int .u32) ++ ((splice rs o (P.take q)).map (int .u8) ++ ([int .i64 ((n : Int) + (m : Int))])), 73⟩]) (fun x => m - x.q) (fun x => (n + x.q) % 64 = 0 ∧ x.q ≤ m ∧ SrcN w g x.A (m - x.q) .u8 (P.drop x.q) ∧ m - x.q ≤ x.c) (⟨q, cutA A c q 1, c - q⟩ : TI) ⟨by show (n + q) % 64 = 0; omega, by show q ≤ m; omega, fst_src hsrc (by omega) hmc, by show m - q ≤ c - q; omega⟩ (qI (i := 0) rfl (qT (i := 1) rfl (by first | rfl | (congr 2; omega)) (by first | omega | (dsimp only; omega) | rfl) (by first | omega | (dsimp only; omega) | rfl) (qN))) (fun w h => h) (fun x hC0 => ?_)
   obtain ⟨k, E, d⟩ := x
   obtain ⟨hC1, hC2, hC3, hC4⟩ := hC0
   dsimp only at hC1 hC2 hC3 hC4 ⊢
   iterate 8 refine gx ?_
   refine qX rfl (fun h2 => ?_) (fun h2 => ?_)
   ·obtain ⟨b, off, hE, hb, hbg, hrow⟩ := hC3.2.resolve_left (by omega)
    subst hE
    iterate 4 refine gx ?_
    refine TC.draw (by kernel_rfl) ?_
    refine TF.seqL 5 (by kernel_rfl) ?_
    refine TS.gets (qA rfl) rfl (qp rfl rfl) ?_
    refine TS.gets (qA rfl) rfl (qO rfl rfl) ?_
    refine TS.gets (qA rfl) rfl (zE rfl Tryz.underlying132 rfl size129 rfl (off' := 0) (by first | rfl | omega)) ?_
    refine TS.gets (qA rfl) rfl (qp rfl rfl) ?_
    refine TS.gets (qA rfl) rfl (zP rfl Tryz.underlying22 size5 rfl bnd.dflt (bnd.at_ (l := 64) rfl rfl) (by omega) (by omega) (cutA_zero _ _ _) (ln := 64) (cp := d) (by omega) (by omega)) ?_
    refine TS.done ?_
    refine TF.tailL (by kernel_rfl) ?_
    refine qY (ι := Unit) (V := fun _ => .tuple #[]) (R := fun _ => True) (H' := fun _ => [⟨g, 132, (cmp (M ++ P) ((n + (k + 64)) / 64)).map (int .u32) ++ ((splice rs o (P.take q)).map (int .u8) ++ ([int .i64 ((n : Int) + (m : Int))])), 73⟩]) (qA rfl) rfl enters111 rfl rfl (fun w hs => (mix_c (cmp (M ++ P) ((n + k) / 64)) (blk (M ++ P) ((n + k) / 64)) ((splice rs o (P.take q)).map (int .u8) ++ ([int .i64 ((n : Int) + (m : Int))])) g 132 73 b off d w (cmp_len _ _) (hs.has (⟨g, 132, (cmp (M ++ P) ((n + k) / 64)).map (int .u32) ++ ((splice rs o (P.take q)).map (int .u8) ++ ([int .i64 ((n : Int) + (m : Int))])), 73⟩) (List.mem_singleton.2 rfl)) (Nat.lt_of_lt_of_le hb hs.size) (fun j hj => ((hs.old_cell (ad := ⟨b, off + j, none⟩) hb (ne_of_ne rfl b hb hbg)).trans (hrow j (by omega))).trans (by rw [blk_drop (M := M) (P := P) (q := k) (by omega) hj]; simp only [hM])) (by omega) (Nat.lt_of_lt_of_le hb1 hs.size) hg1 (hK.keepH hs hb1 (qE (by show g ≠ 1; exact hg1) qF))).mono fun e w' ⟨he, hw⟩ => ⟨(), he, trivial, by rw [take_round] at hw; exact hs.turn (i := 0) rfl rfl hw⟩) (fun _ _ => ?_)
    iterate 2 refine gx ?_
    refine qC [0, 1] ?_
    iterate 2 refine gx ?_
    refine qB (qA rfl) rfl (zP rfl Tryz.underlying22 size5 rfl (bnd.at_ (l := 64) rfl rfl) bnd.dflt (by omega) (by omega) rfl (ln := (m - k - 64)) (cp := (d - 64)) (by omega) (by omega)) ?_
    iterate 3 refine gx ?_
    exact qj (⟨k + 64, cutA (some ⟨b, off, none⟩) d 64 1, d - 64⟩ : TI) (by show m - (k + 64) < m - k; omega) ⟨by show (n + (k + 64)) % 64 = 0; omega, by show k + 64 ≤ m; omega, next_src hC3 (by omega) (by omega), by show m - (k + 64) ≤ d - 64; omega⟩ (qI (i := 0) rfl (qT (i := 1) rfl (by first | rfl | (congr 2; omega)) (by first | omega | (dsimp only; omega) | rfl) (by first | omega | (dsimp only; omega) | rfl) (qN))) (fun w h => h)
   ·iterate 7 refine gx ?_
    refine qB (qA rfl) rfl (qO rfl rfl) ?_
    refine gx ?_
    refine qB (qA rfl) rfl (Gets.sliceA rfl Tryz.underlying130 size5 rfl bnd.dflt bnd.dflt (by omega) (by omega) (cutA_zero _ _ _) (ln := 64) (cp := 64) (by omega) (by omega)) ?_
    refine gx ?_
    have hr2 : (splice (splice rs o (P.take q)) 0 ((P.drop k).take (m - k))).length = 64 := splice_lenq hr1 (by simp [hsrc.1]) (by omega)
    refine TL.copy (qA rfl) rfl rfl Tryz.underlying22 size5 rfl rfl (i := 0) (ent := ⟨g, 132, (cmp (M ++ P) ((n + k) / 64)).map (int .u32) ++ ((splice rs o (P.take q)).map (int .u8) ++ ([int .i64 ((n : Int) + (m : Int))])), 73⟩) rfl rfl (by simp [(cmp_len _ _), hr1] <;> omega) (kd := .u8) (B := (P.drop k)) (fun w hs => (hC3.src hs (ne_of_ne rfl))) (c := (m - k)) (by omega) (cs' := (cmp (M ++ P) ((n + k) / 64)).map (int .u32) ++ ((splice (splice rs o (P.take q)) 0 ((P.drop k).take (m - k))).map (int .u8) ++ ([int .i64 ((n : Int) + (m : Int))]))) (splice_is (rs := (splice rs o (P.take q))) (P := (P.drop k)) (o := 0) (q := (m - k)) (by omega) (ints_len (cmp_len _ _)) (by simp [hsrc.1]) (by rw [hr1]; omega)) (H' := [⟨g, 132, (cmp (M ++ P) ((n + k) / 64)).map (int .u32) ++ ((splice (splice rs o (P.take q)) 0 ((P.drop k).take (m - k))).map (int .u8) ++ ([int .i64 ((n : Int) + (m : Int))])), 73⟩]) rfl ?_
    refine gx ?_
    exact TE.end0 rfl (fun w hs => ⟨rfl, _, _, take_end hM hsrc.1 hC1 hC2 (by assumption) hr1, hs⟩)
 ·iterate 4 refine gx ?_
  refine qr (ι := TI) (fun x => [(0, .pointer (some ⟨g, 0, none⟩)), (1, .slice x.A (m - x.q) x.c)]) (fun x => [⟨g, 132, (cmp (M ++ P) ((n + x.q) / 64)).map (int .u32) ++ (rs.map (int .u8) ++ ([int .i64 ((n : Int) + (m : Int))])), 73⟩]) (fun x => m - x.q) (fun x => (n + x.q) % 64 = 0 ∧ x.q ≤ m ∧ SrcN w g x.A (m - x.q) .u8 (P.drop x.q) ∧ m - x.q ≤ x.c) (⟨0, A, c⟩ : TI) ⟨by show (n + 0) % 64 = 0; omega, by show 0 ≤ m; omega, by show SrcN w g A (m - 0) .u8 (P.drop 0); simpa using hsrc, by show m - 0 ≤ c; omega⟩ (qI (i := 0) rfl (qT (i := 1) rfl (by first | rfl | (congr 2; omega)) (by first | omega | (dsimp only; omega) | rfl) (by first | omega | (dsimp only; omega) | rfl) (qN))) (fun w h => by show St _ [⟨g, _, List.map _ (cmp (M ++ P) ((n + 0) / 64)) ++ _, _⟩] w; rw [← hash_st hk hM]; exact h) (fun x hC1 => ?_)
  obtain ⟨k, E, d⟩ := x
  obtain ⟨hC1, hC2, hC3, hC4⟩ := hC1
  dsimp only at hC1 hC2 hC3 hC4 ⊢
  iterate 8 refine gx ?_
  refine qX rfl (fun h3 => ?_) (fun h3 => ?_)
  ·obtain ⟨b, off, hE, hb, hbg, hrow⟩ := hC3.2.resolve_left (by omega)
   subst hE
   iterate 4 refine gx ?_
   refine TC.draw (by kernel_rfl) ?_
   refine TF.seqL 5 (by kernel_rfl) ?_
   refine TS.gets (qA rfl) rfl (qp rfl rfl) ?_
   refine TS.gets (qA rfl) rfl (qO rfl rfl) ?_
   refine TS.gets (qA rfl) rfl (zE rfl Tryz.underlying132 rfl size129 rfl (off' := 0) (by first | rfl | omega)) ?_
   refine TS.gets (qA rfl) rfl (qp rfl rfl) ?_
   refine TS.gets (qA rfl) rfl (zP rfl Tryz.underlying22 size5 rfl bnd.dflt (bnd.at_ (l := 64) rfl rfl) (by omega) (by omega) (cutA_zero _ _ _) (ln := 64) (cp := d) (by omega) (by omega)) ?_
   refine TS.done ?_
   refine TF.tailL (by kernel_rfl) ?_
   refine qY (ι := Unit) (V := fun _ => .tuple #[]) (R := fun _ => True) (H' := fun _ => [⟨g, 132, (cmp (M ++ P) ((n + (k + 64)) / 64)).map (int .u32) ++ (rs.map (int .u8) ++ ([int .i64 ((n : Int) + (m : Int))])), 73⟩]) (qA rfl) rfl enters111 rfl rfl (fun w hs => (mix_c (cmp (M ++ P) ((n + k) / 64)) (blk (M ++ P) ((n + k) / 64)) (rs.map (int .u8) ++ ([int .i64 ((n : Int) + (m : Int))])) g 132 73 b off d w (cmp_len _ _) (hs.has (⟨g, 132, (cmp (M ++ P) ((n + k) / 64)).map (int .u32) ++ (rs.map (int .u8) ++ ([int .i64 ((n : Int) + (m : Int))])), 73⟩) (List.mem_singleton.2 rfl)) (Nat.lt_of_lt_of_le hb hs.size) (fun j hj => ((hs.old_cell (ad := ⟨b, off + j, none⟩) hb (ne_of_ne rfl b hb hbg)).trans (hrow j (by omega))).trans (by rw [blk_drop (M := M) (P := P) (q := k) (by omega) hj]; simp only [hM])) (by omega) (Nat.lt_of_lt_of_le hb1 hs.size) hg1 (hK.keepH hs hb1 (qE (by show g ≠ 1; exact hg1) qF))).mono fun e w' ⟨he, hw⟩ => ⟨(), he, trivial, by rw [take_round] at hw; exact hs.turn (i := 0) rfl rfl hw⟩) (fun _ _ => ?_)
   iterate 2 refine gx ?_
   refine qC [0, 1] ?_
   iterate 2 refine gx ?_
   refine qB (qA rfl) rfl (zP rfl Tryz.underlying22 size5 rfl (bnd.at_ (l := 64) rfl rfl) bnd.dflt (by omega) (by omega) rfl (ln := (m - k - 64)) (cp := (d - 64)) (by omega) (by omega)) ?_
   iterate 3 refine gx ?_
   exact qj (⟨k + 64, cutA (some ⟨b, off, none⟩) d 64 1, d - 64⟩ : TI) (by show m - (k + 64) < m - k; omega) ⟨by show (n + (k + 64)) % 64 = 0; omega, by show k + 64 ≤ m; omega, next_src hC3 (by omega) (by omega), by show m - (k + 64) ≤ d - 64; omega⟩ (qI (i := 0) rfl (qT (i := 1) rfl (by first | rfl | (congr 2; omega)) (by first | omega | (dsimp only; omega) | rfl) (by first | omega | (dsimp only; omega) | rfl) (qN))) (fun w h => h)
  ·iterate 7 refine gx ?_
   refine qB (qA rfl) rfl (qO rfl rfl) ?_
   refine gx ?_
   refine qB (qA rfl) rfl (Gets.sliceA rfl Tryz.underlying130 size5 rfl bnd.dflt bnd.dflt (by omega) (by omega) (cutA_zero _ _ _) (ln := 64) (cp := 64) (by omega) (by omega)) ?_
   refine gx ?_
   have hr3 : (splice rs 0 ((P.drop k).take (m - k))).length = 64 := splice_lenq hrs (by simp [hsrc.1]) (by omega)
   refine TL.copy (qA rfl) rfl rfl Tryz.underlying22 size5 rfl rfl (i := 0) (ent := ⟨g, 132, (cmp (M ++ P) ((n + k) / 64)).map (int .u32) ++ (rs.map (int .u8) ++ ([int .i64 ((n : Int) + (m : Int))])), 73⟩) rfl rfl (by simp [(cmp_len _ _), hrs] <;> omega) (kd := .u8) (B := (P.drop k)) (fun w hs => (hC3.src hs (ne_of_ne rfl))) (c := (m - k)) (by omega) (cs' := (cmp (M ++ P) ((n + k) / 64)).map (int .u32) ++ ((splice rs 0 ((P.drop k).take (m - k))).map (int .u8) ++ ([int .i64 ((n : Int) + (m : Int))]))) (splice_is (rs := rs) (P := (P.drop k)) (o := 0) (q := (m - k)) (by omega) (ints_len (cmp_len _ _)) (by simp [hsrc.1]) (by rw [hrs]; omega)) (H' := [⟨g, 132, (cmp (M ++ P) ((n + k) / 64)).map (int .u32) ++ ((splice rs 0 ((P.drop k).take (m - k))).map (int .u8) ++ ([int .i64 ((n : Int) + (m : Int))])), 73⟩]) rfl ?_
   refine gx ?_
   exact TE.end0 rfl (fun w hs => ⟨rfl, _, _, take_end hM hsrc.1 hC1 hC2 (by assumption) hrs, hs⟩)
theorem agg22 : (isAgg 22).run Tryz.prog = fun w => .ok false w := isAgg_no Tryz.underlying22 rfl
theorem enters80 : Enters Tryz.prog 80 := ⟨_, Tryz.func80, by kernel_rfl, by kernel_rfl⟩
theorem size22 : (Tryz.prog.info? 22).map (·.size) = some 1 := by kernel_rfl
instance : Sli Tryz.prog 48 22 := ⟨Tryz.underlying48⟩
theorem take_m (M P st rs : List Int) (g : Nat) (A : Option Addr) (m c : Nat) (w : World) (hk : HashOK M st rs) (hl : Ent.lies ⟨g, 132, st.map (int .u32) ++ (rs.map (int .u8) ++ ([int .i64 M.length])), 73⟩ w) (hsrc : SrcN w g A m .u8 P) (hmc : m ≤ c) (hn : M.length + m ≤ 4611686018427387903) (hb1 : 1 < w.heap.size) (hg1 : g ≠ 1) (hK : RowI w 1 0 64 .u32 KT) :
  Calls Tryz.prog 80 #[.pointer (some ⟨g, 0, none⟩), .slice A m c] w fun e w' => e = .returned (.tuple #[]) ∧ ∃ st' rs', HashOK (M ++ P) st' rs' ∧ St w [⟨g, 132, (st').map (int .u32) ++ ((rs').map (int .u8) ++ ([int .i64 ((M ++ P).length)])), 73⟩] w' :=
 (take_c M P st rs M.length g A m c w hk rfl hk.len hk.rlen hl hsrc hmc hn hb1 hg1 hK).mono fun e w' ⟨he, st', rs', h1, h2⟩ => ⟨he, st', rs', h1, by
  have : (((M ++ P).length : Nat) : Int) = (M.length : Int) + (m : Int) := by simp [hsrc.1]
  rw [this]; exact h2⟩
theorem SrcN.keep {w w' : World} {H : List Ent} {g m : Nat} {A : Option Addr} {kd : IntKind} {B : List Int} (h : SrcN w g A m kd B) (hs : St w H w') (hH : ∀ b, b < w.heap.size → b ≠ g → ∀ e ∈ H, e.g ≠ b) : SrcN w' g A m kd B := by
 obtain ⟨h1, h2⟩ := h
 refine ⟨h1, ?_⟩
 rcases h2 with h2 | ⟨b, off, hA, hb, hne, hr⟩
 ·exact .inl h2
 ·exact .inr ⟨b, off, hA, Nat.lt_of_lt_of_le hb hs.size, hne, fun j hj => (hs.old_cell (ad := ⟨b, off + j, none⟩) hb (hH b hb hne)).trans (hr j hj)⟩
def PartsN (w : World) (g : Nat) (A : Option Addr) (m : Nat) (Ps : List (List Int)) : Prop :=
 Ps.length = m ∧ (m = 0 ∨ ∃ b off, A = some ⟨b, off, none⟩ ∧ b < w.heap.size ∧ b ≠ g ∧ ∀ i, i < m → ∃ Ai mi ci, w.cell? ⟨b, off + i, none⟩ = some (.slice Ai mi ci) ∧ SrcN w g Ai mi .u8 (Ps.getD i []) ∧ mi ≤ ci)
theorem flat_le {Ps : List (List Int)} {i : Nat} (h : i < Ps.length) : (Ps.take i).flatten.length + (Ps.getD i []).length ≤ Ps.flatten.length := by
 have h1 := flat_succ h []
 simp only [List.nil_append] at h1
 have h2 : (Ps.take (i + 1)).flatten.length + (Ps.drop (i + 1)).flatten.length = Ps.flatten.length := by rw [← List.length_append, ← List.flatten_append, List.take_append_drop]
 rw [h1, List.length_append] at h2
 omega
structure WI where
 i : Nat
 st : List Int
 rs : List Int
theorem write_end {w0 w : World} {M st rs : List Int} {Ps : List (List Int)} {g m t tot : Nat} {A : Option Addr} (hP : PartsN w0 g A m Ps) (hk : HashOK (M ++ (Ps.take m).flatten) st rs) (hs : St w0 [⟨g, t, st.map (int .u32) ++ (rs.map (int .u8) ++ [int .i64 ((M ++ (Ps.take m).flatten).length : Int)]), tot⟩] w) :
  Ending.returned (.int .i64 (((M ++ (Ps.take m).flatten).length : Int) - (M.length : Int))) = .returned (.int .i64 (Ps.flatten.length : Int)) ∧ ∃ st' rs', HashOK (M ++ Ps.flatten) st' rs' ∧ St w0 [⟨g, t, st'.map (int .u32) ++ (rs'.map (int .u8) ++ [int .i64 ((M ++ Ps.flatten).length : Int)]), tot⟩] w := by
 have : Ps.take m = Ps := List.take_of_length_le (by have := hP.1; omega)
 rw [this] at hk hs ⊢
 refine ⟨?_, st, rs, hk, hs⟩
 congr 2
 simp only [List.length_append]
 omega
theorem write_c (M st rs : List Int) (Ps : List (List Int)) (g : Nat) (A : Option Addr) (m c : Nat) (w : World) (hk : HashOK M st rs) (hst : st.length = 8) (hrs : rs.length = 64) (hl : Ent.lies ⟨g, 132, st.map (int .u32) ++ (rs.map (int .u8) ++ ([int .i64 (M.length : Int)])), 73⟩ w) (hP : PartsN w g A m Ps) (hmc : m ≤ c) (hcm : c ≤ 9223372036854775807) (hn : M.length + Ps.flatten.length ≤ 4611686018427387903) (hb1 : 1 < w.heap.size) (hg1 : g ≠ 1) (hK : RowI w 1 0 64 .u32 KT) : Calls Tryz.prog 47 #[.pointer (some ⟨g, 0, none⟩), .slice A m c] w fun e w' => e = .returned (.int .i64 (Ps.flatten.length : Int)) ∧ ∃ st' rs', HashOK (M ++ Ps.flatten) st' rs' ∧ St w [⟨g, 132, (st').map (int .u32) ++ ((rs').map (int .u8) ++ ([int .i64 ((M ++ Ps.flatten).length : Int)])), 73⟩] w' := by
 have hg : g < w.heap.size := hl.lt
 refine qL (args := [.pointer (some ⟨g, 0, none⟩), .slice A m c]) Tryz.func47 rfl Tryz.ntmps47 (by simp) ?_
 refine qC [0, 1] ?_
 refine qe (H' := [⟨g, 132, st.map (int .u32) ++ (rs.map (int .u8) ++ ([int .i64 (M.length : Int)])), 73⟩]) (fun w hs => hs.take hl qF) ?_
 iterate 9 refine gx ?_
 refine qB (qA rfl) rfl (Gets.ptrNil rfl Tryz.underlying87 rfl rfl) ?_
 iterate 2 refine gx ?_
 refine qW rfl ?_
 iterate 5 refine gx ?_
 refine qB (qA rfl) rfl (qO rfl rfl) ?_
 refine gx ?_
 refine qB (qA rfl) rfl (qS rfl agg3 rfl (qZ (i := 0) (ent := ⟨g, 132, st.map (int .u32) ++ (rs.map (int .u8) ++ ([int .i64 (M.length : Int)])), 73⟩) (off := 72) rfl rfl (by exact app_right (a := 8) (i := 64) (ints_len hst) (app_right (a := 64) (i := 0) (ints_len hrs) (rfl))))) ?_
 iterate 3 refine gx ?_
 refine qC [0, 1, 4, 5] ?_
 iterate 9 refine gx ?_
 refine qr (ι := WI) (fun x => [(0, .pointer (some ⟨g, 0, none⟩)), (5, .int .i64 (M.length : Int)), (14, .slice A m c), (15, .int .i64 (m : Int)), (16, .int .i64 (x.i : Int))]) (fun x => [⟨g, 132, x.st.map (int .u32) ++ (x.rs.map (int .u8) ++ ([int .i64 ((M ++ (Ps.take x.i).flatten).length : Int)])), 73⟩]) (fun x => m - x.i) (fun x => x.i ≤ m ∧ HashOK (M ++ (Ps.take x.i).flatten) x.st x.rs) (⟨0, st, rs⟩ : WI) ⟨Nat.zero_le _, by simpa using hk⟩ (qI (i := 0) rfl (qH (i := 5) rfl (by first | rfl | omega) (qT (i := 14) rfl rfl (by first | omega | (dsimp only; omega) | rfl) (by first | omega | (dsimp only; omega) | rfl) (qH (i := 15) rfl (by first | omega | rfl) (qH (i := 16) rfl (by first | omega | rfl) (qN)))))) (fun w h => by simpa using h) (fun x hC0 => ?_)
 obtain ⟨i, st1, rs1⟩ := x
 obtain ⟨hC1, hC2⟩ := hC0
 dsimp only at hC1 hC2 ⊢
 have hstx := hC2.len
 have hrsx := hC2.rlen
 iterate 6 refine gx ?_
 refine qX rfl (fun h1 => ?_) (fun h1 => ?_)
 ·obtain ⟨b, off, hE, hb, hbg, hcells⟩ := hP.2.resolve_left (by omega)
  subst hE
  obtain ⟨Ai, mi, ci, hci, hSi, hmi⟩ := hcells i (by omega)
  have hoff : off + i = (off + i) := rfl
  iterate 6 refine gx ?_
  refine qB (qA rfl) rfl (ql rfl Tryz.underlying48 size22 rfl rfl (i := i) (by omega) (by omega) (off' := (off + i)) (by omega)) ?_
  refine qB (qA rfl) rfl (qS rfl agg22 rfl (At.old (hoff ▸ hci) hb (qE (by show g ≠ b; exact fun h => hbg h.symm) qF))) ?_
  iterate 3 refine gx ?_
  refine qC [0, 5, 7, 14, 15, 16] ?_
  iterate 3 refine gx ?_
  refine qY (ι := List Int × List Int) (V := fun s => .tuple #[]) (R := fun s => HashOK (M ++ (Ps.take i).flatten ++ Ps.getD i []) s.1 s.2) (H' := fun s => [⟨g, 132, s.1.map (int .u32) ++ (s.2.map (int .u8) ++ ([int .i64 ((M ++ (Ps.take i).flatten ++ Ps.getD i []).length : Int)])), 73⟩]) (qA rfl) rfl enters80 rfl rfl (fun w hs => (take_m (M ++ (Ps.take i).flatten) (Ps.getD i []) st1 rs1 g Ai mi ci w hC2 (hs.has (⟨g, 132, st1.map (int .u32) ++ (rs1.map (int .u8) ++ ([int .i64 ((M ++ (Ps.take i).flatten).length : Int)])), 73⟩) (List.mem_singleton.2 rfl)) (hSi.keep hs (ne_of_ne rfl)) hmi (by have := flat_le (i := i) (Ps := Ps) (by have := hP.1; omega); have := hSi.1; simp only [List.length_append]; omega) (Nat.lt_of_lt_of_le hb1 hs.size) hg1 (hK.keepH hs hb1 (qE (by show g ≠ 1; exact hg1) qF))).mono fun e w' ⟨he, st', rs', h1, h2⟩ => ⟨(st', rs'), he, h1, hs.turn (i := 0) rfl rfl h2⟩) (fun s hs2 => ?_)
  iterate 3 refine gx ?_
  refine qC [0, 5, 14, 15, 16] ?_
  refine gx ?_
  refine qB (qA rfl) rfl (qR rfl rfl rfl (r := ((i : Int) + 1)) (w64 (by omega) (by omega))) ?_
  iterate 2 refine gx ?_
  exact qj (⟨i + 1, s.1, s.2⟩ : WI) (by show m - (i + 1) < m - i; omega) ⟨by show i + 1 ≤ m; omega, by show HashOK (M ++ (Ps.take (i + 1)).flatten) s.1 s.2; rw [flat_succ (by have := hP.1; omega)]; exact hs2⟩ (qI (i := 0) rfl (qH (i := 5) rfl (by first | rfl | omega) (qT (i := 14) rfl (by first | rfl | (congr 2; omega)) (by first | omega | (dsimp only; omega) | rfl) (by first | omega | (dsimp only; omega) | rfl) (qH (i := 15) rfl (by first | omega | rfl) (qH (i := 16) rfl (by first | omega | rfl) (qN)))))) (fun w h => by show St _ [⟨g, _, _ ++ (_ ++ [int .i64 ((M ++ (Ps.take (i + 1)).flatten).length : Int)]), _⟩] w; rw [flat_succ (by have := hP.1; omega)]; exact h)
 ·obtain rfl : m = i := by omega
  have hlen : (M ++ (Ps.take m).flatten).length = M.length + Ps.flatten.length := by rw [List.take_of_length_le (by have := hP.1; omega), List.length_append]
  iterate 8 refine gx ?_
  refine qB (qA rfl) rfl (qO rfl rfl) ?_
  refine gx ?_
  refine qB (qA rfl) rfl (qS rfl agg3 rfl (qZ (i := 0) (ent := ⟨g, 132, st1.map (int .u32) ++ (rs1.map (int .u8) ++ ([int .i64 ((M ++ (Ps.take m).flatten).length : Int)])), 73⟩) (off := 72) rfl rfl (by exact app_right (a := 8) (i := 64) (ints_len hstx) (app_right (a := 64) (i := 0) (ints_len hrsx) (rfl))))) ?_
  refine gx ?_
  refine qB (qA rfl) rfl (zH rfl rfl rfl (r := (((M ++ (Ps.take m).flatten).length : Int) - (M.length : Int))) (w64 (by omega) (by omega))) ?_
  iterate 4 refine gx ?_
  exact qK rfl rfl (fun w hs => write_end hP hC2 hs)
end Go.Proofs.YtclmgfcdnokaiaaGreatDoor
