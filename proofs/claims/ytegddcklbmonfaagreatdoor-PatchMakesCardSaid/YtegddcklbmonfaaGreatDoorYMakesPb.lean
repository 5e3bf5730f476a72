/-
 The reference: roots by bisection.
-/
import Derived.Test.YtegddcklbmonfaaGreatDoorYMakesPa
import Derived.Test.YtegddcklbmonfaaGreatDoorProg
import Derived.SizedLaws
import Derived.Below
/-
 A region that draws its order, with operations that make memory and others that read what stays as it is all along.
-/
namespace Go.Proofs.YtegddcklbmonfaaGreatDoor
set_option maxRecDepth 100000
set_option maxHeartbeats 2000000
open Go.Value (int slice)
set_option linter.unusedVariables false
set_option linter.unusedSimpArgs false
open Go Go.RowKit
section
variable {P : Program} {ops : Array Oper} {md : Region.Mode}
def compatB (i j : Nat) : Bool := (compat3 i j && !Nat.beq i 7 && !Nat.beq j 7 && !Nat.beq i 8 && !Nat.beq j 8) || (Nat.beq i 0 && Nat.beq j 8)
def pairsOK9 (f : Nat → Nat → Bool) : List Nat → Bool
 | [] => true
 | i :: is => is.all (f i) && pairsOK9 f is
theorem pairsOK_spec9 {f : Nat → Nat → Bool} : ∀ {is : List Nat}, pairsOK9 f is = true → is.Pairwise (fun i j => f i j = true)
 | [], _ => .nil
 | i :: is, h => by
  unfold pairsOK9 at h
  simp only [Bool.and_eq_true, List.all_eq_true] at h
  exact .cons h.1 (pairsOK_spec9 h.2)
def pairOK9 (md : Region.Mode) (ops : Array Oper) (ks ms : List Nat) (i j : Nat) : Bool :=
 !Nat.beq i j &&
 ((ms.getD j 0).testBit i || (match ops[i]? with
  | some oi => (match ops[j]? with | some oj => oi.apart ops oj && compatB (ks.getD i 2) (ks.getD j 2) | none => true)
  | none => true)) &&
 (match ops[i]? with | some oi => oi.after.all (fun e => !Region.binds md e || !Nat.beq e.on j) | none => true)
def mixOKp9 (md : Region.Mode) (ops : Array Oper) (ks p : List Nat) : Bool :=
 Region.noSelect ops && Nat.beq p.length ops.size && ((List.range ops.size).all fun q => p.any (Nat.beq q)) &&
 (let ms := masks md ops
  p.all (fun i => decide (i < ops.size) && (match ops[i]? with | some oi => oi.after.all (fun e => !Region.binds md e || (!Nat.beq e.on i && decide (e.on < ops.size))) | none => true)) &&
  pairsOK9 (pairOK9 md ops ks ms) p)
def PairP9 (md : Region.Mode) (ops : Array Oper) (ks : List Nat) (i j : Nat) : Prop :=
 i ≠ j ∧ (∀ oi oj, ops[i]? = some oi → ops[j]? = some oj → Before md ops j i ∨ (oi.apart ops oj = true ∧ compatB (ks.getD i 2) (ks.getD j 2) = true)) ∧
 ∀ oi, ops[i]? = some oi → ∀ e ∈ oi.after, Region.binds md e = true → e.on ≠ j
theorem nbeq_ne9 {a b : Nat} (h : Nat.beq a b = false) : a ≠ b := fun e => by
 subst e
 rw [Nat.beq_refl] at h
 cases h
theorem pairOK_spec9 {ks : List Nat} {i j : Nat} (h : pairOK9 md ops ks (masks md ops) i j = true) : PairP9 md ops ks i j := by
 unfold pairOK9 at h
 simp only [Bool.and_eq_true, Bool.or_eq_true, Bool.not_eq_true'] at h
 obtain ⟨⟨h1, h2⟩, h3⟩ := h
 refine ⟨nbeq_ne9 h1, fun oi oj hi hj => ?_, fun oi hi e he hb => ?_⟩
 ·rcases h2 with h2 | h2
  ·exact .inl (masks_spec h2)
  ·rw [hi, hj] at h2
   simp only [Bool.and_eq_true] at h2
   exact .inr h2
 ·rw [hi] at h3
  simp only [Array.all_eq_true_iff_forall_mem, Bool.or_eq_true, Bool.not_eq_true'] at h3
  exact nbeq_ne9 ((h3 e he).resolve_left (by simp [hb]))
theorem mixOKp_spec9 {ks p : List Nat} (h : mixOKp9 md ops ks p = true) : Region.noSelect ops = true ∧ p.length = ops.size ∧ (∀ q, q < ops.size → q ∈ p) ∧
  (∀ i ∈ p, i < ops.size ∧ ∀ oi, ops[i]? = some oi → ∀ e ∈ oi.after, Region.binds md e = true → e.on ≠ i ∧ e.on < ops.size) ∧ p.Pairwise (PairP9 md ops ks) := by
 unfold mixOKp9 at h
 simp only [Bool.and_eq_true, List.all_eq_true, decide_eq_true_eq] at h
 obtain ⟨⟨⟨h1, h2⟩, h7⟩, h3, h4⟩ := h
 refine ⟨h1, Nat.eq_of_beq_eq_true h2, fun q hq => ?_, fun i hi => ⟨(h3 i hi).1, fun oi hoi e he hb => ?_⟩, (pairsOK_spec9 h4).imp pairOK_spec9⟩
 ·obtain ⟨r, hr, hqr⟩ := List.any_eq_true.1 (h7 q (List.mem_range.2 hq))
  rw [Nat.eq_of_beq_eq_true hqr]; exact hr
 have h5 := (h3 i hi).2
 rw [hoi] at h5
 simp only [Array.all_eq_true_iff_forall_mem, Bool.or_eq_true, Bool.and_eq_true, Bool.not_eq_true', decide_eq_true_eq] at h5
 have h6 := (h5 e he).resolve_left (by simp [hb])
 exact ⟨nbeq_ne9 h6.1, h6.2⟩
def pickO9 (l : List Oper) : List Nat → List Oper
 | [] => []
 | i :: is => match l[i]? with
  | some o => o :: pickO9 l is
  | none => pickO9 l is
def pickK9 (ks : List Nat) : List Nat → List Nat
 | [] => []
 | i :: is => ks.getD i 2 :: pickK9 ks is
def StepB (P : Program) (ops : Array Oper) (B : World → Prop) (kind : Nat) (o : Oper) (v : Value) (a : Act) (S S' : World → Prop) : Prop :=
 match kind with
 | 0 => (∀ S0, (∀ w, S0 w → B w) → Fixed P ops S0 o v a) ∧ S' = S
 | _ => Fixed P ops S o v a ∧ S' = S
theorem StepB.of_same {B : World → Prop} {kind : Nat} {o : Oper} {v : Value} {a a' : Act} {S S' : World → Prop} (h : StepB P ops B kind o v a S S') (he : execOp a'.eval o = execOp a.eval o)
  (hw : Region.wanted o (yielded ops a'.tmps) = Region.wanted o (yielded ops a.tmps)) : StepB P ops B kind o v a' S S' := by
 unfold StepB at *
 split at h
 ·exact ⟨fun S0 h0 => (h.1 S0 h0).of_same he hw, h.2⟩
 ·exact ⟨h.1.of_same he hw, h.2⟩
theorem StepB.eq {B : World → Prop} {kind : Nat} {o : Oper} {v : Value} {a : Act} {S S' : World → Prop} (h : StepB P ops B kind o v a S S') : S' = S := by
 unfold StepB at h
 split at h <;> exact h.2
theorem StepB.wpOp {B : World → Prop} {kind i : Nat} {o : Oper} {v : Value} {a : Act} {S S' : World → Prop} (hi : ops[i]? = some o) (h : StepB P ops B kind o v a S S') (hB : ∀ w, S w → B w) {Q : Exit → Act → World → Prop}
  {K : Act → World → Prop} {w : World} (hS : S w) (hK : ∀ w', S' w' → K (a.put o.dst v) w') : wpOp P ops Q i K a w := by
 unfold StepB at h
 split at h
 ·obtain ⟨h, rfl⟩ := h; exact (h S' hB).wpOp hi hS hK
 ·obtain ⟨h, rfl⟩ := h; exact h.wpOp hi hS hK
def LastP (P : Program) (ops : Array Oper) (o : Oper) (a : Act) (S S' : World → Prop) : Prop :=
 o.dst = none ∧ ∀ w, S w → (∃ w', (execOp a.eval o).run P w = .ok .skip w' ∧ S' w') ∧ Region.wanted o (yielded ops a.tmps) = true
def MixSeqB (P : Program) (ops : Array Oper) (B : World → Prop) (K : Nat → Nat) (T : Act → World → Prop) : List Nat → Act → (World → Prop) → Prop
 | [], a, S => ∀ w, S w → T a w
 | i :: is, a, S => ∃ o, ops[i]? = some o ∧ ((K i ≠ 3 ∧ K i ≠ 7 ∧ K i ≠ 8 ∧ ∃ v S', StepB P ops B (K i) o v a S S' ∧ MixSeqB P ops B K T is (a.put o.dst v) S') ∨
   (K i = 3 ∧ ∃ R, Many P ops o a S R ∧ ∀ v S', R v S' → (∀ w, S' w → B w) ∧ MixSeqB P ops B K T is (a.put o.dst v) S') ∨
   (K i = 7 ∧ ∃ S', LastP P ops o a S S' ∧ (is ≠ [] → ∀ w, S' w → B w) ∧ MixSeqB P ops B K T is a S') ∨
   (K i = 8 ∧ ∃ S', LastP P ops o a S S' ∧ (∀ w, S' w → B w) ∧ MixSeqB P ops B K T is a S'))
theorem compatB3 {i j : Nat} (h : compatB i j = true) : (compat3 i j = true ∧ i ≠ 7 ∧ j ≠ 7 ∧ i ≠ 8 ∧ j ≠ 8) ∨ (i = 0 ∧ j = 8) := by
 unfold compatB at h
 simp only [Bool.or_eq_true, Bool.and_eq_true, Bool.not_eq_true'] at h
 rcases h with h | h
 ·exact .inl ⟨h.1.1.1.1, (fun e => by rw [e] at h; cases h.1.1.1.2), (fun e => by rw [e] at h; cases h.1.1.2), (fun e => by rw [e] at h; cases h.1.2), (fun e => by rw [e] at h; cases h.2)⟩
 ·exact .inr ⟨Nat.eq_of_beq_eq_true h.1, Nat.eq_of_beq_eq_true h.2⟩
theorem MixSeqB.first {B : World → Prop} {K : Nat → Nat} {T : Act → World → Prop} (hsel : ∀ (j : Nat) (o : Oper) cs b, ops[j]? = some o → o.op ≠ .select cs b) {j : Nat} {oj : Oper} (hj : ops[j]? = some oj) (hj3 : K j ≠ 3) (hj7 : K j ≠ 7) (hj8 : K j ≠ 8) (post : List Nat) :
  ∀ (pre : List Nat) (a : Act) (S : World → Prop), (∀ i oi, i ∈ pre → ops[i]? = some oi → oi.apart ops oj = true ∧ compatB (K i) (K j) = true) → MixSeqB P ops B K T (pre ++ j :: post) a S →
   ∃ vj S', StepB P ops B (K j) oj vj a S S' ∧ MixSeqB P ops B K T (pre ++ post) (a.put oj.dst vj) S'
 | [], a, S, _, h => by
  obtain ⟨o, ho, h⟩ := h
  rw [hj] at ho; cases ho
  rcases h with ⟨_, _, _, v, S', hf, hs⟩ | h | h | h
  ·exact ⟨v, S', hf, hs⟩
  ·exact absurd h.1 hj3
  ·exact absurd h.1 hj7
  ·exact absurd h.1 hj8
 | i :: pre, a, S, hap, h => by
  obtain ⟨oi, hi, h⟩ := h
  obtain ⟨hap1, hcomp0⟩ := hap i oi List.mem_cons_self hi
  obtain ⟨hcomp, hi7, _, hi8, _⟩ := (compatB3 hcomp0).resolve_right (fun h => hj8 h.2)
  have hi3 : K i ≠ 3 := by
   intro hc
   unfold compat3 at hcomp
   rw [hc] at hcomp
   simp at hcomp
  rcases h with ⟨_, _, _, vi, Si, hf, hs⟩ | h | h | h
  ·obtain rfl := hf.eq
   obtain ⟨vj, Sj, hfj, hsj⟩ := MixSeqB.first hsel hj hj3 hj7 hj8 post pre (a.put oi.dst vi) Si (fun k ok hk => hap k ok (List.mem_cons_of_mem _ hk)) hs
   obtain rfl := hfj.eq
   obtain ⟨h1, h2, h3⟩ := Oper.apart_spec hap1
   have ej := execOp_put oj (fun cs b => hsel j oj cs b hj) a oi.dst vi h1
   have wj := wanted_put oj a oi.dst vi h1
   have ei := execOp_put oi (fun cs b => hsel i oi cs b hi) a oj.dst vj h3
   have wi := wanted_put oi a oj.dst vj h3
   have hcm := Act.put_comm a vi vj h2
   exact ⟨vj, _, hfj.of_same ej.symm wj.symm, oi, hi, .inl ⟨hi3, hi7, hi8, vi, _, hf.of_same ei wi, by rw [← hcm]; exact hsj⟩⟩
  ·exact absurd h.1 hi3
  ·exact absurd h.1 hi7
  ·exact absurd h.1 hi8
theorem MixSeqB.first3 {B : World → Prop} {K : Nat → Nat} {T : Act → World → Prop} (hsel : ∀ (j : Nat) (o : Oper) cs b, ops[j]? = some o → o.op ≠ .select cs b) {j : Nat} {oj : Oper} (hj : ops[j]? = some oj) (hj3 : K j = 3) (post : List Nat) :
  ∀ (pre : List Nat) (a : Act) (S : World → Prop), (∀ i oi, i ∈ pre → ops[i]? = some oi → oi.apart ops oj = true ∧ compatB (K i) (K j) = true) → MixSeqB P ops B K T (pre ++ j :: post) a S →
   ∃ R, Many P ops oj a S R ∧ ∀ v S', R v S' → (∀ w, S' w → B w) ∧ MixSeqB P ops B K T (pre ++ post) (a.put oj.dst v) S'
 | [], a, S, _, h => by
  obtain ⟨o, ho, h⟩ := h
  rw [hj] at ho; cases ho
  rcases h with h | h | h | h
  ·exact absurd hj3 h.1
  ·exact h.2
  ·have := h.1; omega
  ·have := h.1; omega
 | i :: pre, a, S, hap, h => by
  obtain ⟨oi, hi, h⟩ := h
  obtain ⟨hap1, hcomp0⟩ := hap i oi List.mem_cons_self hi
  obtain ⟨hcomp, hi7, _, hi8, _⟩ := (compatB3 hcomp0).resolve_right (fun h => by have := h.2; omega)
  have hk : K i = 0 := by
   unfold compat3 at hcomp
   rw [hj3] at hcomp
   simp at hcomp
   exact hcomp
  rcases h with ⟨hi3, _, _, vi, Si, hf, hs⟩ | h | h | h
  ·obtain rfl := hf.eq
   obtain ⟨R, hfj, hsj⟩ := MixSeqB.first3 hsel hj hj3 post pre (a.put oi.dst vi) Si (fun k ok hk => hap k ok (List.mem_cons_of_mem _ hk)) hs
   obtain ⟨h1, h2, h3⟩ := Oper.apart_spec hap1
   have ej := execOp_put oj (fun cs b => hsel j oj cs b hj) a oi.dst vi h1
   have wj := wanted_put oj a oi.dst vi h1
   rw [hk] at hf
   obtain ⟨hfree, _⟩ := hf
   refine ⟨R, hfj.of_same ej.symm wj.symm, fun v S' hR => ⟨(hsj v S' hR).1, oi, hi, .inl ⟨hi3, hi7, hi8, vi, S', ?_, ?_⟩⟩⟩
   ·have ei := execOp_put oi (fun cs b => hsel i oi cs b hi) a oj.dst v h3
    have wi := wanted_put oi a oj.dst v h3
    rw [hk]
    exact ⟨fun S0 h0 => (hfree S0 h0).of_same ei wi, rfl⟩
   ·rw [← Act.put_comm a vi v h2]; exact (hsj v S' hR).2
  ·have := h.1; omega
  ·have := h.1; omega
  ·have := h.1; omega
theorem LastP.of_same {o : Oper} {a a' : Act} {S S' : World → Prop} (h : LastP P ops o a S S') (he : execOp a'.eval o = execOp a.eval o)
  (hw : Region.wanted o (yielded ops a'.tmps) = Region.wanted o (yielded ops a.tmps)) : LastP P ops o a' S S' := by
 unfold LastP at *; rw [he, hw]; exact h
theorem MixSeqB.first8 {B : World → Prop} {K : Nat → Nat} {T : Act → World → Prop} (hsel : ∀ (j : Nat) (o : Oper) cs b, ops[j]? = some o → o.op ≠ .select cs b) {j : Nat} {oj : Oper} (hj : ops[j]? = some oj) (hj8 : K j = 8) (post : List Nat) :
  ∀ (pre : List Nat) (a : Act) (S : World → Prop), (∀ i oi, i ∈ pre → ops[i]? = some oi → oi.apart ops oj = true ∧ compatB (K i) (K j) = true) → MixSeqB P ops B K T (pre ++ j :: post) a S →
   ∃ S', LastP P ops oj a S S' ∧ (∀ w, S' w → B w) ∧ MixSeqB P ops B K T (pre ++ post) a S'
 | [], a, S, _, h => by
  obtain ⟨o, ho, h⟩ := h
  rw [hj] at ho; cases ho
  rcases h with h | h | h | h
  ·exact absurd hj8 h.2.2.1
  ·have := h.1; omega
  ·have := h.1; omega
  ·exact h.2
 | i :: pre, a, S, hap, h => by
  obtain ⟨oi, hi, h⟩ := h
  obtain ⟨hap1, hcomp0⟩ := hap i oi List.mem_cons_self hi
  have hk : K i = 0 := by
   rcases compatB3 hcomp0 with h | h
   ·exact absurd hj8 h.2.2.2.2
   ·exact h.1
  rcases h with ⟨hi3, hi7, hi8, vi, Si, hf, hs⟩ | h | h | h
  ·obtain rfl := hf.eq
   obtain ⟨S', hfj, hB', hsj⟩ := MixSeqB.first8 hsel hj hj8 post pre (a.put oi.dst vi) Si (fun k ok hk => hap k ok (List.mem_cons_of_mem _ hk)) hs
   obtain ⟨h1, h2, h3⟩ := Oper.apart_spec hap1
   have ej := execOp_put oj (fun cs b => hsel j oj cs b hj) a oi.dst vi h1
   have wj := wanted_put oj a oi.dst vi h1
   rw [hk] at hf
   obtain ⟨hfree, _⟩ := hf
   exact ⟨S', hfj.of_same ej.symm wj.symm, hB', oi, hi, .inl ⟨hi3, hi7, hi8, vi, S', by rw [hk]; exact ⟨hfree, rfl⟩, hsj⟩⟩
  ·have := h.1; omega
  ·have := h.1; omega
  ·have := h.1; omega
theorem wpAny_end {Q : Exit → Act → World → Prop} {listed : Array Bool} {a : Act} {w : World} (hl : Lists ops.size md ops [] listed) (h : Q .normal a w) : wpAny P md ops Q 0 listed a w := by
 refine wpAny_done ?_ h 0
 rw [List.eq_nil_iff_forall_not_mem]
 intro j hj
 obtain ⟨hjun, oj, hoj, _⟩ := mem_ready.1 hj
 have hjs : j < ops.size := (Array.getElem?_eq_some_iff.1 hoj).1
 have := (hl.2.1 j hjs).1 hjun
 simp at this
 omega
theorem wpAny_of_mixB {Q : Exit → Act → World → Prop} {B : World → Prop} {ks p : List Nat} (hns : Region.noSelect ops = true) (hself : ∀ i ∈ p, i < ops.size ∧ ∀ oi, ops[i]? = some oi → ∀ e ∈ oi.after, Region.binds md e = true → e.on ≠ i ∧ e.on < ops.size) :
  ∀ (n : Nat) (is : List Nat) (listed : Array Bool) (a : Act) (w : World) (S : World → Prop), is.length = n → is.Pairwise (PairP9 md ops ks) → (∀ i ∈ is, i ∈ p) → Lists ops.size md ops is listed → MixSeqB P ops B (ks.getD · 2) (Q .normal) is a S → (∀ w, S w → B w) → S w →
   wpAny P md ops Q n listed a w := by
 have hsel := Region.noSelect_spec hns
 intro n
 induction n with
 | zero =>
  intro is listed a w S hlen _ _ hl hs hB hS
  obtain rfl : is = [] := List.length_eq_zero_iff.1 hlen
  exact wpAny_end hl (hs w hS)
 | succ n ih =>
  intro is listed a w S hlen hpw hlt hl hs hB hS
  have hnd : is.Nodup := hpw.imp (fun h => h.1)
  refine ⟨fun hnone => ?_, fun j hj => ?_⟩
  ·exfalso
   obtain ⟨i, is', rfl⟩ : ∃ i is', is = i :: is' := by
    cases is with
    | nil => simp at hlen
    | cons i is' => exact ⟨i, is', rfl⟩
   obtain ⟨him, hafter⟩ := hself i (hlt i List.mem_cons_self)
   have hi : ops[i]? = some ops[i] := Array.getElem?_eq_getElem him
   have hmem : i ∈ Region.ready md ops listed := by
    rw [mem_ready]
    refine ⟨(hl.2.1 i him).2 (.inl List.mem_cons_self), _, hi, fun e he hb => ?_⟩
    obtain ⟨hne, hon⟩ := hafter _ hi e he hb
    rw [getD_false_of (by rw [hl.1]; exact hon), hl.2.1 e.on hon]
    rintro (h | h)
    ·rcases List.mem_cons.1 h with h | h
     ·exact hne h
     ·exact ((List.pairwise_cons.1 hpw).1 _ h).2.2 _ hi e he hb rfl
    ·omega
   rw [hnone] at hmem
   cases hmem
  ·obtain ⟨hjun, oj, hoj, hall⟩ := mem_ready.1 hj
   have hjs : j < ops.size := (Array.getElem?_eq_some_iff.1 hoj).1
   have hnw : ∀ i ∈ is, ¬ Before md ops j i := fun i hi hw => by
    have h1 := hw listed hl.2.2 (fun o ho' e he hb => by rw [hoj] at ho'; cases ho'; exact hall e he hb)
    have him := (hself i (hlt i hi)).1
    exact (getD_false_of (by rw [hl.1]; omega)).1 h1 ((hl.2.1 i him).2 (.inl hi))
   have hjin : j ∈ is := by
    rcases (hl.2.1 j hjs).1 hjun with h | h
    ·exact h
    ·omega
   obtain ⟨pre, post, rfl⟩ := List.append_of_mem hjin
   have hap : ∀ i oi, i ∈ pre → ops[i]? = some oi → oi.apart ops oj = true ∧ compatB (ks.getD i 2) (ks.getD j 2) = true := fun i oi hi hoi => by
    have hij := (List.pairwise_append.1 hpw).2.2 i hi j List.mem_cons_self
    rcases hij.2.1 oi oj hoi hoj with hw | hap
    ·exact absurd hw (hnw i (by simp [hi]))
    ·exact hap
   have hsub : (pre ++ post).Sublist (pre ++ j :: post) := List.Sublist.append_left (List.sublist_cons_self _ _) _
   by_cases hk7 : ks.getD j 2 = 7
   ·obtain rfl : pre = [] := by
     cases pre with
     | nil => rfl
     | cons i pre =>
      have him := (hself i (hlt i (by simp))).1
      have hcc := (hap i ops[i] List.mem_cons_self (Array.getElem?_eq_getElem him)).2
      rcases compatB3 hcc with h | h
      ·exact absurd hk7 h.2.2.1
      ·have := h.2; omega
    obtain ⟨o, ho, hseq⟩ := hs
    rw [hoj] at ho; cases ho
    rcases hseq with h | h | ⟨_, S', hl7, hB', hT⟩ | h
    ·exact absurd hk7 h.2.1
    ·have h3 : ks.getD j 2 = 3 := h.1
     omega
    ·obtain ⟨hd, hlast⟩ := hl7
     obtain ⟨⟨w', hr, hS'⟩, hw⟩ := hlast w hS
     unfold Go.wpOp
     simp only [hoj, hw, if_true, Oper.wp]
     refine .inl ?_
     rw [hr]
     refine (show wpAny P md ops Q n (listed.setIfInBounds j true) (a.put oj.dst undef) w' from ?_)
     rw [hd]
     by_cases hpo : post = []
     ·subst hpo
      have hn0 : n = 0 := by simp at hlen; omega
      subst hn0
      exact wpAny_end (a := a) (hl.next (pre := []) (post := []) rfl hnd hjs (Nat.le_refl _) hj) (hT w' hS')
     ·exact ih ([] ++ post) _ _ w' S' (by simp at hlen ⊢; omega) (hpw.sublist hsub) (fun i hi => hlt i (hsub.subset hi)) (hl.next rfl hnd hjs (Nat.le_refl _) hj) hT (hB' hpo) hS'
    ·have h8 : ks.getD j 2 = 8 := h.1
     omega
   by_cases hk8 : ks.getD j 2 = 8
   ·obtain ⟨S', ⟨hd, hlast⟩, hB', hs'⟩ := MixSeqB.first8 (K := (ks.getD · 2)) hsel hoj hk8 post pre a S hap hs
    obtain ⟨⟨w', hr, hS'⟩, hw⟩ := hlast w hS
    unfold Go.wpOp
    simp only [hoj, hw, if_true, Oper.wp]
    refine .inl ?_
    rw [hr]
    refine (show wpAny P md ops Q n (listed.setIfInBounds j true) (a.put oj.dst undef) w' from ?_)
    rw [hd]
    exact ih (pre ++ post) _ _ w' S' (by simp at hlen ⊢; omega) (hpw.sublist hsub) (fun i hi => hlt i (hsub.subset hi)) (hl.next rfl hnd hjs (Nat.le_refl _) hj) hs' hB' hS'
   by_cases hk3 : ks.getD j 2 = 3
   ·obtain ⟨R, hf, hs'⟩ := MixSeqB.first3 (K := (ks.getD · 2)) hsel hoj hk3 post pre a S hap hs
    obtain ⟨hr, hw⟩ := hf w hS
    unfold Go.wpOp
    simp only [hoj, hw, if_true, Oper.wp]
    refine .inl ?_
    have go : ∀ v S' w', R v S' → S' w' → wpAny P md ops Q n (listed.setIfInBounds j true) (a.put oj.dst v) w' := fun v S' w' hR hS' =>
     ih (pre ++ post) _ _ w' S' (by simp at hlen ⊢; omega) (hpw.sublist hsub) (fun i hi => hlt i (hsub.subset hi)) (hl.next rfl hnd hjs (Nat.le_refl _) hj) (hs' v S' hR).2 (hs' v S' hR).1 hS'
    rcases hr with ⟨v, w', S', hr, hR, hS'⟩ | ⟨f, vs, w', hr, hc⟩
    ·rw [hr]; exact go v S' w' hR hS'
    ·rw [hr]
     refine hc.mono ?_
     rintro e w'' ⟨v, S', rfl, hR, hS'⟩
     exact go v S' w'' hR hS'
   ·obtain ⟨vj, S', hf, hs'⟩ := MixSeqB.first (K := (ks.getD · 2)) hsel hoj hk3 hk7 hk8 post pre a S hap hs
    have hB' : ∀ w, S' w → B w := by rw [hf.eq]; exact hB
    refine hf.wpOp hoj hB hS fun w' hS' => ?_
    exact ih (pre ++ post) _ _ w' S' (by simp at hlen ⊢; omega) (hpw.sublist hsub) (fun i hi => hlt i (hsub.subset hi)) (hl.next rfl hnd hjs (Nat.le_refl _) hj) hs' hB' hS'
def MixMB (P : Program) (ops : Array Oper) (B : World → Prop) (T : Act → World → Prop) : List Nat → List Oper → Act → (World → Prop) → Prop
 | [], [], a, S => ∀ w, S w → T a w
 | k :: ks, o :: rest, a, S => (k ≠ 3 ∧ k ≠ 7 ∧ k ≠ 8 ∧ ∃ v S', StepB P ops B k o v a S S' ∧ MixMB P ops B T ks rest (a.put o.dst v) S') ∨ (k = 3 ∧ ∃ R, Many P ops o a S R ∧ ∀ v S', R v S' → (∀ w, S' w → B w) ∧ MixMB P ops B T ks rest (a.put o.dst v) S') ∨
   (k = 7 ∧ ∃ S', LastP P ops o a S S' ∧ (ks ≠ [] → ∀ w, S' w → B w) ∧ MixMB P ops B T ks rest a S') ∨
   (k = 8 ∧ ∃ S', LastP P ops o a S S' ∧ (∀ w, S' w → B w) ∧ MixMB P ops B T ks rest a S')
 | _, _, _, _ => False
theorem MixMB.seqp {B : World → Prop} {T : Act → World → Prop} {l : List Oper} {ks : List Nat} : ∀ (p : List Nat) (a : Act) (S : World → Prop), (∀ i ∈ p, i < l.length) → MixMB P l.toArray B T (pickK9 ks p) (pickO9 l p) a S → MixSeqB P l.toArray B (ks.getD · 2) T p a S
 | [], _, _, _, h => h
 | i :: is, a, S, hp, h => by
  have hlt := hp i List.mem_cons_self
  have hi : l[i]? = some l[i] := List.getElem?_eq_getElem hlt
  unfold pickO9 pickK9 at h
  rw [hi] at h
  have rec_ : ∀ a S, MixMB P l.toArray B T (pickK9 ks is) (pickO9 l is) a S → MixSeqB P l.toArray B (ks.getD · 2) T is a S := fun a S h => MixMB.seqp is a S (fun j hj => hp j (List.mem_cons_of_mem _ hj)) h
  refine ⟨l[i], by rw [List.getElem?_toArray]; exact hi, ?_⟩
  rcases h with ⟨h1, h7, h8, v, S', h2, h3⟩ | ⟨h1, R, h2, h3⟩ | ⟨h1, S', h2, h3, h4⟩ | ⟨h1, S', h2, h3, h4⟩
  ·exact .inl ⟨h1, h7, h8, v, S', h2, rec_ _ _ h3⟩
  ·exact .inr (.inl ⟨h1, R, h2, fun v S' hR => ⟨(h3 v S' hR).1, rec_ _ _ (h3 v S' hR).2⟩⟩)
  ·refine .inr (.inr (.inl ⟨h1, S', h2, fun hne => h3 ?_, rec_ _ _ h4⟩))
   cases is with
   | nil => exact absurd rfl hne
   | cons j is => unfold pickK9; exact List.cons_ne_nil _ _
  ·exact .inr (.inr (.inr ⟨h1, S', h2, h3, rec_ _ _ h4⟩))
theorem wp_mixB {Q : Exit → Act → World → Prop} {id : Nat} {l : List Oper} {a : Act} {w : World} {S B : World → Prop} (hmix : P.follows .mixedOrders = true) (ks p : List Nat) (ho : mixOKp9 .any l.toArray ks p = true)
  (hB : ∀ w, S w → B w) (hS : S w.drew) (h : MixMB P l.toArray B (Q .normal) (pickK9 ks p) (pickO9 l p) a S) : (Code.region id l.toArray true).wp P Q a w := by
 refine wpFrom_start hmix ?_
 intro listed hl
 have hsz : l.toArray.size = l.length := by simp
 obtain ⟨hns, hlen, hall, hself, hpw⟩ := mixOKp_spec9 ho
 have := wpAny_of_mixB (P := P) (Q := Q) (ks := ks) hns hself l.length p listed a w.drew S (hlen.trans hsz) hpw (fun i hi => hi)
  ⟨hl.1, fun q hq => by
   rw [hl.2.1 q hq]
   have := hall q hq
   simp [this], hl.2.2⟩ (MixMB.seqp p a S (fun i hi => by rw [← hsz]; exact (hself i hi).1) h) hB hS
 rw [hsz, Nat.sub_zero]
 exact this
end
section
variable {P : Program} {ops : Array Oper} {Q : Exit → Act → World → Prop} {n : Sz} {w0 : World} {L L' : List (Nat × Value)} {HB H : List Ent}
variable {o : Oper} {rest : List Oper} {v u : Value} {x y z : Operand} {k m j : Nat} {t t' e : TypeId} {ks : List Nat} {kd : IntKind}
def Stays (w0 : World) (HB : List Ent) (w : World) : Prop := ∃ H', St w0 (HB ++ H') w
def TP (P : Program) (ops : Array Oper) (Q : Exit → Act → World → Prop) (n : Sz) (w0 : World) (HB : List Ent) (ks : List Nat) (rest : List Oper) (L : List (Nat × Value)) (H : List Ent) : Prop :=
 ∀ a, Fr n L a → MixMB P ops (Stays w0 HB) (Q .normal) ks rest a (St w0 (HB ++ H))
theorem TC.mixB {id : Nat} {l : List Oper} (hmix : P.follows .mixedOrders = true) (ks p : List Nat) (ho : mixOKp9 .any l.toArray ks p = true) (h : TP P l.toArray Q n w0 HB (pickK9 ks p) (pickO9 l p) L H) (hmd : n.md = .plain := by rfl) : TC P Q n w0 (.region id l.toArray true) L (HB ++ H) :=
 fun a w hf hs => by rw [hmd]; exact wp_mixB hmix ks p ho (fun w h => ⟨H, h⟩) hs.drew (h a hf)
theorem TP.nil (h : TE Q .normal n w0 L (HB ++ H)) : TP P ops Q n w0 HB [] [] L H := fun a hf w hs => h a w hf hs
theorem TP.free (hg : Wants n ops L o) (hi : inside n o.dst = true) (h : ∀ w0, Gets P n w0 o L [] v) (hr : TP P ops Q n w0 HB ks rest (put L o.dst v) H) : TP P ops Q n w0 HB (0 :: ks) (o :: rest) L H :=
 fun a hf => .inl ⟨by decide, by decide, by decide, v, St w0 (HB ++ H), ⟨fun S0 _ => .inl ⟨hg a hf, fun w hS => by rw [h w a w hf (zE w)]; exact ⟨rfl, hS⟩⟩, rfl⟩, hr _ (hf.put o.dst v hi)⟩
abbrev qw := @TP.free
theorem TP.stay (hg : Wants n ops L o) (hi : inside n o.dst = true) (h : ∀ H', Gets P n w0 o L (HB ++ H') v) (hr : TP P ops Q n w0 HB ks rest (put L o.dst v) H) : TP P ops Q n w0 HB (0 :: ks) (o :: rest) L H :=
 fun a hf => .inl ⟨by decide, by decide, by decide, v, St w0 (HB ++ H), ⟨fun S0 h0 => .inl ⟨hg a hf, fun w hS => by
  obtain ⟨H', hs⟩ := h0 w hS
  rw [h H' a w hf hs]; exact ⟨rfl, hS⟩⟩, rfl⟩, hr _ (hf.put o.dst v hi)⟩
theorem TP.call {ι : Type} {f : FuncId} {xs : List Operand} {ts : Array TypeId} {vs : List Value} {V : ι → Value} {R : ι → Prop} {H' : ι → List Ent} (hg : Wants n ops L o) (hi : inside n o.dst = true) (h : Enters P f)
  (ho : o.op = .call { callee := .value (.func f), args := xs.toArray, argTypes := ts }) (hx : evs L xs = some vs)
  (hc : ∀ w, St w0 (HB ++ H) w → Calls P f vs.toArray w fun e w' => ∃ i, e = .returned (V i) ∧ R i ∧ St w0 (HB ++ H' i) w')
  (hr : ∀ i, R i → TP P ops Q n w0 HB ks rest (put L o.dst (V i)) (H' i)) : TP P ops Q n w0 HB (3 :: ks) (o :: rest) L H :=
 fun a hf => .inr <| .inl ⟨rfl, fun v S' => ∃ i, R i ∧ v = V i ∧ S' = St w0 (HB ++ H' i), fun w hs =>
  ⟨.inr ⟨f, vs.toArray, w, run_enter h ho hf hx, (hc w hs).mono fun e w' ⟨i, he, hR, hs'⟩ => ⟨V i, _, he, ⟨i, hR, rfl, rfl⟩, hs'⟩⟩, hg a hf⟩,
  fun v S' ⟨i, hR, h1, h2⟩ => by subst h1; subst h2; exact ⟨fun w hw => ⟨H' i, hw⟩, hr i hR _ (hf.put o.dst _ hi)⟩⟩
end
/-
 Two arrays of numbers, compared.
-/
section
variable {P : Program} {ops : Array Oper} {Q : Exit → Act → World → Prop} {n : Sz} {w0 : World} {L L' : List (Nat × Value)} {H : List Ent}
variable {o : Oper} {rest : List Oper} {v u : Value} {x y z : Operand} {k m j : Nat} {t t' e : TypeId} {ks : List Nat} {kd : IntKind} {p q : Int}
theorem eqIn_int2 (d : Nat) (h1 : P.underlying e = some (.int kd)) (a b : Int) (w : World) : (Op.equalIn (d + 1) e (.int kd a) (.int kd b)).run P w = .ok (a == b) w := by
 simp [Op.equalIn, Sem.run_bind, run_under h1]
theorem all_eq {W V : List Int} {len : Nat} (hW : W.length = len) (hV : V.length = len) : (List.range' 0 len).all (fun i => W.getD i 0 == V.getD i 0) = decide (W = V) := by
 by_cases h : W = V
 ·subst h
  rw [decide_eq_true rfl]
  exact List.all_eq_true.2 fun i _ => by simp
 ·rw [decide_eq_false h]
  refine Bool.eq_false_iff.2 fun ha => h ?_
  refine list_of_getD (hW.trans hV.symm) fun i hi => ?_
  have := List.all_eq_true.1 ha i (List.mem_range'_1.2 ⟨by omega, by omega⟩)
  simpa using this
theorem eqIn_arr2 (d : Nat) {len : Nat} {W V : List Int} (h1 : P.underlying t = some (.array len e)) (h2 : P.underlying e = some (.int kd)) (hsz : (P.info? e).map (·.size) = some 1) (hW : W.length = len) (hV : V.length = len) (w : World) :
  (Op.equalIn (d + 1 + 1) t (.agg (W.map (int kd)).toArray) (.agg (V.map (int kd)).toArray)).run P w = .ok (decide (W = V)) w := by
 have hag := isAgg_no h2 rfl
 unfold Op.equalIn
 simp only [Sem.run_bind, run_under h1, Result.andThen_ok, run_size hsz]
 simp only [Std.Legacy.Range.forIn_eq_forIn_range', Std.Legacy.Range.size, Nat.sub_zero, Nat.add_one_sub_one, Nat.div_one]
 have key : ∀ (l : List Nat), (∀ i ∈ l, i < len) → ((forIn l ((none, ()) : Option Bool × Unit) fun i r => do
   if !(← Op.equalIn (d + 1) e (← part e (W.map (int kd)).toArray (i * 1)) (← part e (V.map (int kd)).toArray (i * 1))) then
    pure (ForInStep.done (some false, ()))
   else pure (ForInStep.yield (none, ()))) : Sem (Option Bool × Unit)).run P w = .ok (if l.all (fun i => W.getD i 0 == V.getD i 0) then (none, ()) else (some false, ())) w := by
  intro l
  induction l with
  | nil => intro _; rfl
  | cons i l ih =>
   intro hi
   have hil : i < W.length := by rw [hW]; exact hi i (by simp)
   have hiv : i < V.length := by rw [hV]; exact hi i (by simp)
   have hp := run_part1 (P := P) (e := e) (cs := (W.map (int kd)).toArray) (i := i * 1) (v := .int kd (W.getD i 0)) hag (by simp [hil]) w
   have hq := run_part1 (P := P) (e := e) (cs := (V.map (int kd)).toArray) (i := i * 1) (v := .int kd (V.getD i 0)) hag (by simp [hiv]) w
   simp only [List.forIn_cons, Sem.run_bind, hp, hq, Result.andThen_ok, eqIn_int2 d h2, List.all_cons]
   by_cases hb : W.getD i 0 = V.getD i 0
   ·have hb2 : (W.getD i 0 == V.getD i 0) = true := by simpa using hb
    simp only [hb2, Bool.not_true, Bool.false_eq_true, if_false, Sem.run_pure, Result.andThen_ok, Bool.true_and]
    exact ih fun j hj => hi j (by simp [hj])
   ·have hb2 : (W.getD i 0 == V.getD i 0) = false := by simpa using hb
    simp only [hb2, Bool.not_false, if_true, Sem.run_pure, Result.andThen_ok, Bool.false_and, Bool.false_eq_true, if_false]
 rw [key (List.range' 0 len) (fun i hi => by have := List.mem_range'_1.1 hi; omega), all_eq hW hV]
 by_cases h : W = V
 ·rw [decide_eq_true h]; rfl
 ·rw [decide_eq_false h]; rfl
theorem Gets.arrEq {len : Nat} {W V : List Int} (ho : o.op = .binOp .eql t x y t') (h1 : P.underlying t = some (.array len e)) (h2 : P.underlying e = some (.int kd)) (hsz : (P.info? e).map (·.size) = some 1) (hgt : P.eqGuardType P.depth t = false)
  (hx : ev L x = some (.agg (W.map (int kd)).toArray)) (hy : ev L y = some (.agg (V.map (int kd)).toArray)) (hW : W.length = len) (hV : V.length = len) : Gets P n w0 o L H (.bool (decide (W = V))) := fun a w hf hs => by
 simp only [execOp, ho, hf.eval hx, hf.eval hy]
 refine run_value ?_
 have h3 := eqIn_arr2 (P := P) 9998 h1 h2 hsz hW hV w
 have h4 : ∀ c d : Value, Op.equal t c d = Op.equalIn (9998 + 1 + 1) t c d := fun _ _ => rfl
 simp only [Sem.run_bind, run_noGuard hgt, Result.andThen_ok, binOp, h4]
 generalize Op.equalIn (9998 + 1 + 1) t (.agg (W.map (int kd)).toArray) (.agg (V.map (int kd)).toArray) = s at *
 simp [h3]
end
theorem seg_mid {A B C : List Value} {a : Nat} (ha : A.length = a) : ((A ++ (B ++ C)).drop a).take B.length = B := by subst ha; simp
/-
 Steps that need no word: what an operation gets is found by its form.
-/
class Sli (P : Program) (t : TypeId) (e : outParam TypeId) : Prop where
 h : P.underlying t = some (.slice e)
class Siz (P : Program) (t : TypeId) (s : outParam Nat) : Prop where
 h : (P.info? t).map (·.size) = some s
class AgY (P : Program) (t : TypeId) : Prop where
 h : (isAgg t).run P = fun w => .ok true w
class AgN (P : Program) (t : TypeId) : Prop where
 h : (isAgg t).run P = fun w => .ok false w
class Fld (P : Program) (t : TypeId) (f : Nat) (k : outParam Nat) : Prop where
 h : ∃ fields fl s, P.underlying t = some (.struct fields) ∧ fields[f]? = some fl ∧ (P.info? fl.type).map (·.size) = some (s + 1) ∧ fl.offset = k
class Zer (P : Program) (t : TypeId) (cs : outParam (List Value)) : Prop where
 h : ∃ zv, (P.info? t).bind (·.zero) = some zv ∧ zv.cells.toList = cs
inductive SelI : List Nat → List (Nat × Value) → List (Nat × Value) → Prop
 | nil {L : List (Nat × Value)} : SelI [] L []
 | cons {k : Nat} {ks : List Nat} {L : List (Nat × Value)} {v : Value} {L' : List (Nat × Value)} (h : look L k = some v) (hr : SelI ks L L') : SelI (k :: ks) L ((k, v) :: L')
inductive SetI : List Ent → Nat → Ent → List Ent → Prop
 | zero {a : Ent} {l : List Ent} {e : Ent} : SetI (a :: l) 0 e (e :: l)
 | succ {a : Ent} {l : List Ent} {i : Nat} {e : Ent} {l' : List Ent} (h : SetI l i e l') : SetI (a :: l) (i + 1) e (a :: l')
section
variable {P : Program} {ops : Array Oper} {Q : Exit → Act → World → Prop} {n : Sz} {w0 : World} {L L' : List (Nat × Value)} {H H' : List Ent}
variable {o : Oper} {rest : List Oper} {v u : Value} {x y z : Operand} {k m j : Nat} {t t' e : TypeId} {kd : IntKind} {p q : Int}
theorem Gets.fa0 {f b : Nat} [F : Fld P t f k] (ho : o.op = .fieldAddr t x f) (hx : ev L x = some (.pointer (some ⟨b, 0, none⟩))) : Gets P n w0 o L H (.pointer (some ⟨b, k, none⟩)) := by
 obtain ⟨fields, fl, s, h1, h2, h3, h4⟩ := F.h
 exact zN ho h1 h2 h3 hx (by omega)
theorem dl66 {a b s : Value} {H1 H2 : List Int} {kd : IntKind} (h1 : H1.length = 32) (h2 : H2.length = 32) : ([a, b] ++ (H1.map (int kd) ++ (H2.map (int kd) ++ [s])))[66]? = some s :=
 app_right (a := 2) (i := 64) rfl (app_right (a := 32) (i := 32) (ints_len h1) (app_right (a := 32) (i := 0) (ints_len h2) rfl))
theorem Gets.loadD {b off s : Nat} {vs : List Value} (ho : o.op = .load t x) (hag : (isAgg t).run P = fun w => .ok true w) (hsz : (P.info? t).map (·.size) = some s) (hx : ev L x = some (.pointer (some ⟨b, off, none⟩))) (hc : Row w0 H b off vs) (hl : vs.length = s) : Gets P n w0 o L H (.agg vs.toArray) := qh ho hag hsz hx hl hc
theorem dlLen {a b s : Value} {H1 H2 : List Int} {kd : IntKind} (h1 : H1.length = 32) (h2 : H2.length = 32) : ([a, b] ++ (H1.map (int kd) ++ (H2.map (int kd) ++ [s]))).length = 67 := by simp [h1, h2]
def Stp (P : Program) (ops : Array Oper) (n : Sz) (w0 : World) (o : Oper) (L : List (Nat × Value)) (H : List Ent) (v : Value) : Prop :=
 inside n o.dst = true ∧ ((Wants n ops L o ∧ Gets P n w0 o L H v) ∨ (v = undef ∧ ∀ a, Fr n L a → Region.wanted o (yielded ops a.tmps) = false))
theorem Stp.ps {d : Nat} {b c : Bool} (h : o.guard = some (j, c)) (hj : (ops[j]?).bind (·.dst) = some d) (hd : look L d = some (.bool b)) (hi : inside n o.dst = true) (hb : b = !c) : Stp P ops n w0 o L H undef :=
 ⟨hi, .inr ⟨rfl, fun a hf => by subst hb; simp [Region.wanted, h, guard_val hf hj hd]⟩⟩
theorem Stp.pu {d : Nat} {c : Bool} (h : o.guard = some (j, c)) (hj : (ops[j]?).bind (·.dst) = some d) (hd : look L d = some undef) (hi : inside n o.dst = true) : Stp P ops n w0 o L H undef :=
 ⟨hi, .inr ⟨rfl, fun a hf => by simp [Region.wanted, h, guard_undef hf hj hd]⟩⟩
theorem TL.stp (h : Stp P ops n w0 o L H v) (hr : TL P ops Q n w0 rest (put L o.dst v) H) : TL P ops Q n w0 (o :: rest) L H := by
 obtain ⟨hi, ⟨hg, hgt⟩ | ⟨rfl, hw⟩⟩ := h
 ·exact qB hg hi hgt hr
 ·exact fun a w hf hs => wpL_pass (hw a hf) (hr _ _ (hf.put o.dst undef hi) hs)
theorem Gets.au (h : Gets P n w0 o L H v := by
  first
  | exact qV rfl rfl
  | exact Gets.assign rfl rfl
  | exact Gets.fa0 rfl rfl
  | exact qJ rfl AgN.h rfl (by first | exact qO (i := 0) rfl rfl rfl | exact qO (i := 1) rfl rfl rfl | exact qO (i := 2) rfl rfl rfl | exact qO (i := 3) rfl rfl rfl | exact qO (i := 4) rfl rfl rfl | exact qO (i := 5) rfl rfl rfl | exact qO (i := 0) rfl rfl (dl66 (by assumption) (by assumption)) | exact qO (i := 1) rfl rfl (dl66 (by assumption) (by assumption)) | exact qO (i := 2) rfl rfl (dl66 (by assumption) (by assumption)) | exact qO (i := 3) rfl rfl (dl66 (by assumption) (by assumption)))
  | exact qh rfl AgY.h Siz.h rfl rfl (by first | exact qZ (i := 0) rfl rfl rfl | exact qZ (i := 1) rfl rfl rfl | exact qZ (i := 2) rfl rfl rfl | exact qZ (i := 3) rfl rfl rfl | exact qZ (i := 4) rfl rfl rfl | exact qZ (i := 5) rfl rfl rfl)
  | exact Gets.loadD rfl AgY.h Siz.h rfl (by first | exact qZ (i := 0) rfl rfl rfl | exact qZ (i := 1) rfl rfl rfl | exact qZ (i := 2) rfl rfl rfl | exact qZ (i := 3) rfl rfl rfl) (dlLen (by assumption) (by assumption))
  | exact Gets.pickT rfl rfl rfl
  | exact Gets.pickF rfl rfl rfl
  | exact Gets.notP rfl rfl
  | exact Gets.not rfl rfl
  | exact Gets.lss rfl rfl rfl
  | exact qo rfl rfl rfl
  | exact Gets.neq rfl rfl rfl
  | exact Gets.leq rfl rfl rfl
  | exact Gets.gtr rfl rfl rfl
  | exact Gets.geq rfl rfl rfl
  | exact Gets.lenSlice rfl Sli.h rfl
  | exact Gets.extract rfl rfl rfl) : Gets P n w0 o L H v := h
theorem Wants.au (h : Wants n ops L o := by first | exact qA rfl | exact qM rfl rfl rfl) : Wants n ops L o := h
theorem SelI.sub {ks : List Nat} (h : SelI ks L L') : Sub L' L := by
 induction h with
 | nil => exact qK
 | cons h _ ih => exact qH h ih
theorem TC.pr {c : Code} (ks : List Nat) (hr : TC P Q n w0 c L' H) (h : SelI ks L L' := by repeat (first | exact SelI.nil | exact rfl | apply SelI.cons)) : TC P Q n w0 c L H := TC.sub h.sub hr
abbrev qC := @TC.pr
theorem SetI.eq {e : Ent} {i : Nat} (h : SetI H i e H') : H.set i e = H' := by
 induction h with
 | zero => rfl
 | succ _ ih => rw [List.set_cons_succ, ih]
theorem ones_all {vs : List Value} (h : vs.all (·.oneCell') = true) : ∀ u ∈ vs, u.oneCell' = true := fun u hu => List.all_eq_true.1 h u hu
theorem TL.bxA {cs : List Value} {tot : Nat} (hr : ∀ g, w0.heap.size ≤ g → TL P ops Q n w0 rest (put L o.dst (.pointer (some ⟨g, 0, none⟩))) (⟨g, t, cs, tot⟩ :: H)) (hg : Wants n ops L o := by exact qA rfl) (hi : inside n o.dst = true := by rfl) (ho : o.op = .box t x := by rfl) (hx : ev L x = some (.agg cs.toArray) := by rfl)
  (htot : cs.length = tot := by rfl) : TL P ops Q n w0 (o :: rest) L H := TL.box hg hi ho hx (by simp [Value.cells]) htot hr
abbrev qx := @TL.bxA
theorem TL.bx1 (hr : ∀ g, w0.heap.size ≤ g → TL P ops Q n w0 rest (put L o.dst (.pointer (some ⟨g, 0, none⟩))) (⟨g, t, [v], 1⟩ :: H)) (hg : Wants n ops L o := by exact qA rfl) (hi : inside n o.dst = true := by rfl) (ho : o.op = .box t x := by rfl) (hx : ev L x = some v := by rfl)
  (hv : v.cells = #[v] := by rfl) : TL P ops Q n w0 (o :: rest) L H := TL.box hg hi ho hx (by rw [hv]) rfl hr
theorem TL.al {cs : List Value} {tot : Nat} [Z : Zer P t cs] (hr : ∀ g, w0.heap.size ≤ g → TL P ops Q n w0 rest (put L o.dst (.pointer (some ⟨g, 0, none⟩))) (⟨g, t, cs, tot⟩ :: H)) (hg : Wants n ops L o := by exact qA rfl) (hi : inside n o.dst = true := by rfl) (ho : o.op = .alloc t := by rfl)
  (htot : cs.length = tot := by rfl) : TL P ops Q n w0 (o :: rest) L H := by
 obtain ⟨zv, h1, h2⟩ := Z.h
 exact zK hg hi ho h1 h2 htot hr
abbrev qb := @TL.al
theorem TL.sW {g s : Nat} {ent : Ent} {vs : List Value} (i : Nat) [hsz : Siz P t s] (ho : o.op = .store t x y) (hd : o.dst = none) (hx : ev L x = some (.pointer (some ⟨g, 0, none⟩))) (hi : H[i]? = some ent) (he : ent.g = g) (hy : ev L y = some (.agg vs.toArray)) (hl : vs.length = s) (h1 : vs.all (·.oneCell') = true) (hoff : ent.cs.length = s)
  (hH : SetI H i ⟨ent.g, ent.t, vs, ent.tot⟩ H') (hg : Wants n ops L o) (hr : TL P ops Q n w0 rest L H') : TL P ops Q n w0 (o :: rest) L H := qz hg hd ho hsz.h hx hy hl (ones_all h1) hi he hoff hH.eq hr
theorem TE.thenm {m : Md} {y : Code} {Q' : Exit → Act → World → Prop} (hm : n.md = m) (h : TC P Q n w0 y L H) : TE (Exit.then (wpn m P y Q) Q') .normal n w0 L H := by subst hm; exact TE.then h
theorem gx {A B : Prop} (b : B) (h : B → A := by
  first
  | with_reducible exact TL.nil
  | with_reducible exact TC.regionL
  | with_reducible exact TC.seq
  | with_reducible exact TC.block
  | with_reducible exact TC.skip
  | with_reducible exact TC.ret
  | with_reducible exact TC.exit
  | with_reducible exact TE.thenm (by with_unfolding_all exact rfl)
  | with_reducible exact TE.thenR
  | with_reducible exact TE.thenX
  | with_reducible exact TE.blockN
  | with_reducible exact TE.blockR
  | with_reducible exact TE.blockX
  | exact qB Wants.au rfl Gets.au
  | exact TL.stp (Stp.ps rfl rfl rfl rfl rfl)
  | exact TL.stp (Stp.pu rfl rfl rfl rfl)
  | exact TL.sW 0 rfl rfl rfl rfl rfl rfl rfl rfl rfl (by repeat (first | exact SetI.zero | apply SetI.succ)) Wants.au
  | exact TL.sW 1 rfl rfl rfl rfl rfl rfl rfl rfl rfl (by repeat (first | exact SetI.zero | apply SetI.succ)) Wants.au
  | exact TL.sW 2 rfl rfl rfl rfl rfl rfl rfl rfl rfl (by repeat (first | exact SetI.zero | apply SetI.succ)) Wants.au
  | exact TL.sW 3 rfl rfl rfl rfl rfl rfl rfl rfl rfl (by repeat (first | exact SetI.zero | apply SetI.succ)) Wants.au
  | exact TL.sW 4 rfl rfl rfl rfl rfl rfl rfl rfl rfl (by repeat (first | exact SetI.zero | apply SetI.succ)) Wants.au
  | exact TL.sW 5 rfl rfl rfl rfl rfl rfl rfl rfl rfl (by repeat (first | exact SetI.zero | apply SetI.succ)) Wants.au
  | exact TM.nil
  | exact TR.nil
  | exact qG Wants.au rfl (fun _ => Gets.au)
  | exact qX Wants.au rfl Gets.au
  | exact TR.free Wants.au rfl (fun _ => Gets.au)
  | exact TR.gets Wants.au rfl (fun _ _ => Gets.au)) : A := h b
inductive Own_ (w0 : World) : List Ent → Prop
 | nil : Own_ w0 []
 | cons {e : Ent} {H : List Ent} (h : w0.heap.size ≤ e.g) (hr : Own_ w0 H) : Own_ w0 (e :: H)
theorem St.dp {w : World} (hs : St w0 H w) (h : Own_ w0 H := by repeat (first | exact Own_.nil | assumption | apply Own_.cons)) : St w0 [] w := by
 induction h with
 | nil => exact hs
 | cons h _ ih => exact ih (hs.drop h)
end
/-
 Contracts of package sha: words, the schedule and the mixing of a block.
-/
theorem agg169 : (isAgg 169).run Tryz.prog = fun w => .ok true w := isAgg_yes Tryz.underlying169 rfl
theorem agg5 : (isAgg 5).run Tryz.prog = fun w => .ok false w := isAgg_no Tryz.underlying5 rfl
theorem agg96 : (isAgg 96).run Tryz.prog = fun w => .ok false w := isAgg_no Tryz.underlying96 rfl
theorem enters130 : Enters Tryz.prog 130 := ⟨_, Tryz.func130, by kernel_rfl, by kernel_rfl⟩
theorem enters131 : Enters Tryz.prog 131 := ⟨_, Tryz.func131, by kernel_rfl, by kernel_rfl⟩
theorem enters137 : Enters Tryz.prog 137 := ⟨_, Tryz.func137, by kernel_rfl, by kernel_rfl⟩
theorem size169 : (Tryz.prog.info? 169).map (·.size) = some 64 := by kernel_rfl
theorem size5 : (Tryz.prog.info? 5).map (·.size) = some 1 := by kernel_rfl
theorem size96 : (Tryz.prog.info? 96).map (·.size) = some 1 := by kernel_rfl
theorem zero169 : (Tryz.prog.info? 169).bind (·.zero) = some (.agg #[.int .u32 0, .int .u32 0, .int .u32 0, .int .u32 0, .int .u32 0, .int .u32 0, .int .u32 0, .int .u32 0, .int .u32 0, .int .u32 0, .int .u32 0, .int .u32 0, .int .u32 0, .int .u32 0, .int .u32 0, .int .u32 0, .int .u32 0, .int .u32 0, .int .u32 0, .int .u32 0, .int .u32 0, .int .u32 0, .int .u32 0, .int .u32 0, .int .u32 0, .int .u32 0, .int .u32 0, .int .u32 0, .int .u32 0, .int .u32 0, .int .u32 0, .int .u32 0, .int .u32 0, .int .u32 0, .int .u32 0, .int .u32 0, .int .u32 0, .int .u32 0, .int .u32 0, .int .u32 0, .int .u32 0, .int .u32 0, .int .u32 0, .int .u32 0, .int .u32 0, .int .u32 0, .int .u32 0, .int .u32 0, .int .u32 0, .int .u32 0, .int .u32 0, .int .u32 0, .int .u32 0, .int .u32 0, .int .u32 0, .int .u32 0, .int .u32 0, .int .u32 0, .int .u32 0, .int .u32 0, .int .u32 0, .int .u32 0, .int .u32 0, .int .u32 0]) := by kernel_rfl
def rotr (x : Int) (n : Nat) : Int := orI .u32 (shlI .u32 x (32 - n)) (shrI .u32 x n)
theorem wrap_neg (m : Nat) (h1 : 1 ≤ m) (h2 : m ≤ 31) : IntKind.u64.wrap (-(m : Int)) = 18446744073709551616 - m := by
 simp [IntKind.wrap, IntKind.bits, IntKind.signed]; omega
theorem and_neg (m : Nat) (h1 : 1 ≤ m) (h2 : m ≤ 31) : andI .u64 (18446744073709551616 - (m : Int)) 31 = 32 - m := by
 have : ∀ k : Fin 32, 1 ≤ k.val → andI .u64 (18446744073709551616 - (k.val : Int)) 31 = 32 - (k.val : Int) := by decide +kernel
 exact this ⟨m, by omega⟩ h1
theorem rotl_eq (x : Int) (m : Nat) (h1 : 1 ≤ m) (h2 : m ≤ 31) : Ending.returned (.int .u32 (orI .u32 (shlI .u32 x (32 - (m : Int))) (shrI .u32 x (m : Int)))) = .returned (.int .u32 (rotr x m)) := rfl
theorem rotl_c (x : Int) (m : Nat) (w : World) (h1 : 1 ≤ m) (h2 : m ≤ 31) : Calls Tryz.prog 137 #[.int .u32 x, .int .i64 (-(m : Int))] w fun e w' => e = .returned (.int .u32 (rotr x m)) ∧ St w [] w' := by
 refine qP (args := [.int .u32 x, .int .i64 (-(m : Int))]) Tryz.func137 rfl Tryz.ntmps137 (by simp) ?_
 refine qC [0, 1] ?_
 iterate 8 refine gx ?_
 refine qB (qA rfl) rfl (qv rfl Tryz.underlying3 Tryz.underlying126 rfl (r := (18446744073709551616 - (m : Int))) (wrap_neg m (by omega) (by omega))) ?_
 refine qB (qA rfl) rfl (zJ rfl rfl rfl (r := (32 - (m : Int))) (and_neg m (by omega) (by omega))) ?_
 iterate 7 refine gx ?_
 refine qB (qA rfl) rfl (Gets.shl rfl rfl rfl (by omega) (r := (shlI .u32 x (32 - (m : Int)))) rfl) ?_
 iterate 2 refine gx ?_
 refine qB (qA rfl) rfl (qu rfl rfl rfl (r := (m : Int)) (wu64 (by omega) (by omega))) ?_
 refine qB (qA rfl) rfl (zI rfl rfl rfl (by omega) (r := (shrI .u32 x (m : Int))) rfl) ?_
 refine qB (qA rfl) rfl (Gets.or rfl rfl rfl (r := (orI .u32 (shlI .u32 x (32 - (m : Int))) (shrI .u32 x (m : Int)))) rfl) ?_
 iterate 4 refine gx ?_
 exact qN rfl rfl (fun w hs => ⟨rotl_eq x m h1 h2, hs⟩)
attribute [irreducible] rotr
theorem right_c (x : Int) (m : Nat) (w : World) (h1 : 1 ≤ m) (h2 : m ≤ 31) : Calls Tryz.prog 131 #[.int .u32 x, .int .i64 (m : Int)] w fun e w' => e = .returned (.int .u32 (rotr x m)) ∧ St w [] w' := by
 refine qP (args := [.int .u32 x, .int .i64 (m : Int)]) Tryz.func131 rfl Tryz.ntmps131 (by simp) ?_
 refine qC [0, 1] ?_
 iterate 9 refine gx ?_
 refine qB (qA rfl) rfl (Gets.neg rfl rfl (r := (-(m : Int))) (w64 (by omega) (by omega))) ?_
 refine qR (qA rfl) rfl enters137 rfl rfl (v := .int .u32 (rotr x m)) (fun w hs => rotl_c x m w h1 h2) ?_
 iterate 4 refine gx ?_
 exact qN rfl rfl (fun w hs => ⟨rfl, hs⟩)
def wordAt (B : List Int) (t : Nat) : Int := orI .u32 (orI .u32 (orI .u32 (shlI .u32 (IntKind.u32.wrap (B.getD (4 * t) 0)) 24) (shlI .u32 (IntKind.u32.wrap (B.getD (4 * t + 1) 0)) 16)) (shlI .u32 (IntKind.u32.wrap (B.getD (4 * t + 2) 0)) 8)) (IntKind.u32.wrap (B.getD (4 * t + 3) 0))
def w16 (B : List Int) : Nat → List Int
 | 0 => List.replicate 64 0
 | k + 1 => (w16 B k).set k (wordAt B k)
def sig0 (x : Int) : Int := xorI .u32 (xorI .u32 (rotr x 7) (rotr x 18)) (shrI .u32 x 3)
def sig1 (x : Int) : Int := xorI .u32 (xorI .u32 (rotr x 17) (rotr x 19)) (shrI .u32 x 10)
def sch (V : List Int) : Nat → List Int
 | 0 => V
 | j + 1 => (sch V j).set (j + 16) (addW .u32 (addW .u32 (addW .u32 (sig1 ((sch V j).getD (j + 14) 0)) ((sch V j).getD (j + 9) 0)) (sig0 ((sch V j).getD (j + 1) 0))) ((sch V j).getD j 0))
theorem w16_len (B : List Int) : ∀ k, (w16 B k).length = 64
 | 0 => by simp [w16]
 | k + 1 => by simp [w16, w16_len B k]
theorem sch_len {V : List Int} (h : V.length = 64) : ∀ j, (sch V j).length = 64
 | 0 => h
 | j + 1 => by simp [sch, sch_len h j]
def sched (B : List Int) : List Int := sch (w16 B 16) 48
theorem sched_len (B : List Int) : (sched B).length = 64 := sch_len (w16_len B 16) 48
theorem schedule_c (B : List Int) (b off cap : Nat) (w : World) (hb : b < w.heap.size) (hB : RowI w b off 64 .u8 B) (hcap : 64 ≤ cap) : Calls Tryz.prog 130 #[.slice (some ⟨b, off, none⟩) 64 cap] w fun e w' => e = .returned (.agg ((sched B).map (int .u32)).toArray) ∧ St w [] w' := by
 refine qP (args := [.slice (some ⟨b, off, none⟩) 64 cap]) Tryz.func130 rfl Tryz.ntmps130 (by simp) ?_
 refine qC [0] ?_
 iterate 2 refine gx ?_
 refine zK (qA rfl) rfl rfl zero169 (cs := (List.replicate 64 0).map (int .u32)) rfl (tot := 64) (by simp) (fun g1 hg1 => ?_)
 iterate 4 refine gx ?_
 refine zK (qA rfl) rfl rfl zero169 (cs := (List.replicate 64 0).map (int .u32)) rfl (tot := 64) (by simp) (fun g2 hg2 => ?_)
 iterate 9 refine gx ?_
 refine qe (ι := Nat) (fun k => [(0, .slice (some ⟨b, off, none⟩) 64 cap), (2, .pointer (some ⟨g1, 0, none⟩)), (3, .pointer (some ⟨g2, 0, none⟩)), (11, .int .i64 (k : Int))]) (fun k => [⟨g2, 169, (w16 B k).map (int .u32), 64⟩, ⟨g1, 169, (List.replicate 64 0).map (int .u32), 64⟩]) (fun k => 16 - k) (fun k => k ≤ 16) 0 (by omega) (qL (i := 0) rfl rfl (by first | omega | (dsimp only; omega) | rfl) (by first | omega | (dsimp only; omega) | rfl) (qH (i := 2) rfl (qH (i := 3) rfl (qE (i := 11) rfl (by first | omega | rfl) (qK))))) (fun w h => h) (fun k hC0 => ?_)
 iterate 6 refine gx ?_
 refine qQ rfl (fun h0 => ?_) (fun h0 => ?_)
 ·iterate 14 refine gx ?_
  refine qB (qA rfl) rfl (Gets.mul rfl rfl rfl (r := (4 * (k : Int))) (w64 (by omega) (by omega))) ?_
  refine gx ?_
  refine qB (qA rfl) rfl (Gets.mul rfl rfl rfl (r := (4 * (k : Int))) (w64 (by omega) (by omega))) ?_
  refine qB (qA rfl) rfl (qU rfl rfl rfl (r := (4 * (k : Int) + 4)) (w64 (by omega) (by omega))) ?_
  refine qB (qA rfl) rfl (zG rfl Tryz.underlying22 size5 rfl (bnd.at_ (l := (4 * k)) rfl (by omega)) (bnd.at_ (l := (4 * k + 4)) rfl (by omega)) (by omega) (by omega) (A' := some ⟨b, (off + 4 * k), none⟩) (cut_is (by omega) (by omega)) (ln := 4) (cp := (cap - 4 * k)) (by omega) (by omega)) ?_
  iterate 3 refine gx ?_
  refine qC [0, 2, 3, 4, 5, 11] ?_
  refine qs (by kernel_rfl) [0, 0, 0, 1, 1, 0, 0, 0, 1, 1, 0, 0, 0, 0, 1, 1, 0, 0, 0, 0, 1, 1, 0, 0, 2] rfl (by kernel_rfl) ?_
  iterate 2 refine gx ?_
  refine qG (qA rfl) rfl (fun _ => qW rfl Tryz.underlying22 size5 rfl rfl (i := 0) (by rfl) (by omega) (off' := (off + 4 * k)) (by omega)) ?_
  refine qX (qA rfl) rfl (qJ rfl agg5 rfl (zA hB (i := (4 * k)) (by omega) (by omega) hb (qD (by show g2 ≠ b; omega) (qD (by show g1 ≠ b; omega) qF)))) ?_
  refine qX (qA rfl) rfl (qv rfl Tryz.underlying5 Tryz.underlying96 rfl (r := (IntKind.u32.wrap (B.getD (4 * k) 0))) rfl) ?_
  refine qG (qA rfl) rfl (fun _ => Gets.shl rfl rfl rfl (by omega) (r := (shlI .u32 (IntKind.u32.wrap (B.getD (4 * k) 0)) 24)) rfl) ?_
  refine gx ?_
  refine qG (qA rfl) rfl (fun _ => qW rfl Tryz.underlying22 size5 rfl rfl (i := 1) (by rfl) (by omega) (off' := (off + 4 * k + 1)) (by omega)) ?_
  refine qX (qA rfl) rfl (qJ rfl agg5 rfl (zA hB (i := (4 * k + 1)) (by omega) (by omega) hb (qD (by show g2 ≠ b; omega) (qD (by show g1 ≠ b; omega) qF)))) ?_
  refine qX (qA rfl) rfl (qv rfl Tryz.underlying5 Tryz.underlying96 rfl (r := (IntKind.u32.wrap (B.getD (4 * k + 1) 0))) rfl) ?_
  refine qG (qA rfl) rfl (fun _ => Gets.shl rfl rfl rfl (by omega) (r := (shlI .u32 (IntKind.u32.wrap (B.getD (4 * k + 1) 0)) 16)) rfl) ?_
  refine qG (qA rfl) rfl (fun _ => Gets.or rfl rfl rfl (r := (orI .u32 (shlI .u32 (IntKind.u32.wrap (B.getD (4 * k) 0)) 24) (shlI .u32 (IntKind.u32.wrap (B.getD (4 * k + 1) 0)) 16))) rfl) ?_
  refine gx ?_
  refine qG (qA rfl) rfl (fun _ => qW rfl Tryz.underlying22 size5 rfl rfl (i := 2) (by rfl) (by omega) (off' := (off + 4 * k + 2)) (by omega)) ?_
  refine qX (qA rfl) rfl (qJ rfl agg5 rfl (zA hB (i := (4 * k + 2)) (by omega) (by omega) hb (qD (by show g2 ≠ b; omega) (qD (by show g1 ≠ b; omega) qF)))) ?_
  refine qX (qA rfl) rfl (qv rfl Tryz.underlying5 Tryz.underlying96 rfl (r := (IntKind.u32.wrap (B.getD (4 * k + 2) 0))) rfl) ?_
  refine qG (qA rfl) rfl (fun _ => Gets.shl rfl rfl rfl (by omega) (r := (shlI .u32 (IntKind.u32.wrap (B.getD (4 * k + 2) 0)) 8)) rfl) ?_
  refine qG (qA rfl) rfl (fun _ => Gets.or rfl rfl rfl (r := (orI .u32 (orI .u32 (shlI .u32 (IntKind.u32.wrap (B.getD (4 * k) 0)) 24) (shlI .u32 (IntKind.u32.wrap (B.getD (4 * k + 1) 0)) 16)) (shlI .u32 (IntKind.u32.wrap (B.getD (4 * k + 2) 0)) 8))) rfl) ?_
  refine gx ?_
  refine qG (qA rfl) rfl (fun _ => qW rfl Tryz.underlying22 size5 rfl rfl (i := 3) (by rfl) (by omega) (off' := (off + 4 * k + 3)) (by omega)) ?_
  refine qX (qA rfl) rfl (qJ rfl agg5 rfl (zA hB (i := (4 * k + 3)) (by omega) (by omega) hb (qD (by show g2 ≠ b; omega) (qD (by show g1 ≠ b; omega) qF)))) ?_
  refine qX (qA rfl) rfl (qv rfl Tryz.underlying5 Tryz.underlying96 rfl (r := (IntKind.u32.wrap (B.getD (4 * k + 3) 0))) rfl) ?_
  refine qG (qA rfl) rfl (fun _ => Gets.or rfl rfl rfl (r := (orI .u32 (orI .u32 (orI .u32 (shlI .u32 (IntKind.u32.wrap (B.getD (4 * k) 0)) 24) (shlI .u32 (IntKind.u32.wrap (B.getD (4 * k + 1) 0)) 16)) (shlI .u32 (IntKind.u32.wrap (B.getD (4 * k + 2) 0)) 8)) (IntKind.u32.wrap (B.getD (4 * k + 3) 0)))) rfl) ?_
  refine qG (qA rfl) rfl (fun _ => qd rfl Tryz.underlying169 size96 rfl rfl (i := k) (by omega) (by omega) (off' := k) (by omega)) ?_
  refine TM.store1 (qA rfl) rfl rfl size96 rfl rfl rfl (i := 0) rfl rfl (by simp [(w16_len B k)] <;> omega) (cs' := ((w16 B k).set k (orI .u32 (orI .u32 (orI .u32 (shlI .u32 (IntKind.u32.wrap (B.getD (4 * k) 0)) 24) (shlI .u32 (IntKind.u32.wrap (B.getD (4 * k + 1) 0)) 16)) (shlI .u32 (IntKind.u32.wrap (B.getD (4 * k + 2) 0)) 8)) (IntKind.u32.wrap (B.getD (4 * k + 3) 0)))).map (int .u32)) (ints_set) (H' := [⟨g2, 169, ((w16 B k).set k (orI .u32 (orI .u32 (orI .u32 (shlI .u32 (IntKind.u32.wrap (B.getD (4 * k) 0)) 24) (shlI .u32 (IntKind.u32.wrap (B.getD (4 * k + 1) 0)) 16)) (shlI .u32 (IntKind.u32.wrap (B.getD (4 * k + 2) 0)) 8)) (IntKind.u32.wrap (B.getD (4 * k + 3) 0)))).map (int .u32), 64⟩, ⟨g1, 169, (List.replicate 64 0).map (int .u32), 64⟩]) rfl ?_
  iterate 3 refine gx ?_
  refine qC [0, 2, 3, 11] ?_
  refine gx ?_
  refine qB (qA rfl) rfl (qU rfl rfl rfl (r := ((k : Int) + 1)) (w64 (by omega) (by omega))) ?_
  iterate 2 refine gx ?_
  exact qc (k + 1) (by omega) (by omega) (qL (i := 0) rfl rfl (by first | omega | (dsimp only; omega) | rfl) (by first | omega | (dsimp only; omega) | rfl) (qH (i := 2) rfl (qH (i := 3) rfl (qE (i := 11) rfl (by first | omega | rfl) (qK))))) (fun w h => h)
 ·obtain rfl : k = 16 := by omega
  iterate 12 refine gx ?_
  refine qe (ι := Nat) (fun j => [(2, .pointer (some ⟨g1, 0, none⟩)), (3, .pointer (some ⟨g2, 0, none⟩)), (6, .int .i64 ((j : Int) + 16))]) (fun j => [⟨g2, 169, (sch (w16 B 16) j).map (int .u32), 64⟩, ⟨g1, 169, (List.replicate 64 0).map (int .u32), 64⟩]) (fun j => 48 - j) (fun j => j ≤ 48) 0 (by omega) (qH (i := 2) rfl (qH (i := 3) rfl (qE (i := 6) rfl (by first | omega | rfl) (qK)))) (fun w h => h) (fun j hC1 => ?_)
  iterate 7 refine gx ?_
  refine qQ rfl (fun h1 => ?_) (fun h1 => ?_)
  ·iterate 5 refine gx ?_
   refine qs (by kernel_rfl) [0, 0, 0, 1, 0, 0, 0, 1, 0, 0] rfl (by kernel_rfl) ?_
   refine gx ?_
   refine qG (qA rfl) rfl (fun _ => qu rfl rfl rfl (r := ((j : Int) + 1)) (w64 (by omega) (by omega))) ?_
   refine qG (qA rfl) rfl (fun _ => qd rfl Tryz.underlying169 size96 rfl rfl (i := (j + 1)) (by omega) (by omega) (off' := (j + 1)) (by omega)) ?_
   refine qX (qA rfl) rfl (qJ rfl agg96 rfl (qO (i := 0) (ent := ⟨g2, 169, (sch (w16 B 16) j).map (int .u32), 64⟩) (off := (j + 1)) rfl rfl (by have := qS (kd := .u32) (W := sch (w16 B 16) j) (i := (j + 1)) (by rw [(sch_len (w16_len B 16) j)]; omega); (first | exact this | (refine Eq.trans ?_ this; congr 1; omega))))) ?_
   refine gx ?_
   refine qG (qA rfl) rfl (fun _ => qu rfl rfl rfl (r := ((j : Int) + 14)) (w64 (by omega) (by omega))) ?_
   refine qG (qA rfl) rfl (fun _ => qd rfl Tryz.underlying169 size96 rfl rfl (i := (j + 14)) (by omega) (by omega) (off' := (j + 14)) (by omega)) ?_
   refine qX (qA rfl) rfl (qJ rfl agg96 rfl (qO (i := 0) (ent := ⟨g2, 169, (sch (w16 B 16) j).map (int .u32), 64⟩) (off := (j + 14)) rfl rfl (by have := qS (kd := .u32) (W := sch (w16 B 16) j) (i := (j + 14)) (by rw [(sch_len (w16_len B 16) j)]; omega); (first | exact this | (refine Eq.trans ?_ this; congr 1; omega))))) ?_
   iterate 4 refine gx ?_
   refine qC [2, 3, 6, 7, 8] ?_
   iterate 3 refine gx ?_
   refine qR (qA rfl) rfl enters131 rfl rfl (v := .int .u32 (rotr ((sch (w16 B 16) j).getD (j + 1) 0) 7)) (fun w hs => right_c ((sch (w16 B 16) j).getD (j + 1) 0) 7 w (by omega) (by omega)) ?_
   refine gx ?_
   refine qR (qA rfl) rfl enters131 rfl rfl (v := .int .u32 (rotr ((sch (w16 B 16) j).getD (j + 1) 0) 18)) (fun w hs => right_c ((sch (w16 B 16) j).getD (j + 1) 0) 18 w (by omega) (by omega)) ?_
   refine qB (qA rfl) rfl (zB rfl rfl rfl (r := (xorI .u32 (rotr ((sch (w16 B 16) j).getD (j + 1) 0) 7) (rotr ((sch (w16 B 16) j).getD (j + 1) 0) 18))) rfl) ?_
   refine gx ?_
   refine qB (qA rfl) rfl (zI rfl rfl rfl (by omega) (r := (shrI .u32 ((sch (w16 B 16) j).getD (j + 1) 0) 3)) rfl) ?_
   refine qB (qA rfl) rfl (zB rfl rfl rfl (r := (xorI .u32 (xorI .u32 (rotr ((sch (w16 B 16) j).getD (j + 1) 0) 7) (rotr ((sch (w16 B 16) j).getD (j + 1) 0) 18)) (shrI .u32 ((sch (w16 B 16) j).getD (j + 1) 0) 3))) rfl) ?_
   iterate 3 refine gx ?_
   refine qC [2, 3, 6, 8, 9] ?_
   iterate 3 refine gx ?_
   refine qR (qA rfl) rfl enters131 rfl rfl (v := .int .u32 (rotr ((sch (w16 B 16) j).getD (j + 14) 0) 17)) (fun w hs => right_c ((sch (w16 B 16) j).getD (j + 14) 0) 17 w (by omega) (by omega)) ?_
   refine gx ?_
   refine qR (qA rfl) rfl enters131 rfl rfl (v := .int .u32 (rotr ((sch (w16 B 16) j).getD (j + 14) 0) 19)) (fun w hs => right_c ((sch (w16 B 16) j).getD (j + 14) 0) 19 w (by omega) (by omega)) ?_
   refine qB (qA rfl) rfl (zB rfl rfl rfl (r := (xorI .u32 (rotr ((sch (w16 B 16) j).getD (j + 14) 0) 17) (rotr ((sch (w16 B 16) j).getD (j + 14) 0) 19))) rfl) ?_
   refine gx ?_
   refine qB (qA rfl) rfl (zI rfl rfl rfl (by omega) (r := (shrI .u32 ((sch (w16 B 16) j).getD (j + 14) 0) 10)) rfl) ?_
   refine qB (qA rfl) rfl (zB rfl rfl rfl (r := (xorI .u32 (xorI .u32 (rotr ((sch (w16 B 16) j).getD (j + 14) 0) 17) (rotr ((sch (w16 B 16) j).getD (j + 14) 0) 19)) (shrI .u32 ((sch (w16 B 16) j).getD (j + 14) 0) 10))) rfl) ?_
   iterate 3 refine gx ?_
   refine qC [2, 3, 6, 9, 10] ?_
   refine qs (by kernel_rfl) [0, 0, 0, 0, 0, 1, 0, 0, 0, 0, 0, 0, 1, 0, 0, 2] rfl (by kernel_rfl) ?_
   iterate 3 refine gx ?_
   refine qG (qA rfl) rfl (fun _ => qu rfl rfl rfl (r := ((j : Int) + 9)) (w64 (by omega) (by omega))) ?_
   refine qG (qA rfl) rfl (fun _ => qd rfl Tryz.underlying169 size96 rfl rfl (i := (j + 9)) (by omega) (by omega) (off' := (j + 9)) (by omega)) ?_
   refine qX (qA rfl) rfl (qJ rfl agg96 rfl (qO (i := 0) (ent := ⟨g2, 169, (sch (w16 B 16) j).map (int .u32), 64⟩) (off := (j + 9)) rfl rfl (by have := qS (kd := .u32) (W := sch (w16 B 16) j) (i := (j + 9)) (by rw [(sch_len (w16_len B 16) j)]; omega); (first | exact this | (refine Eq.trans ?_ this; congr 1; omega))))) ?_
   refine qG (qA rfl) rfl (fun _ => qj rfl rfl rfl) ?_
   refine gx ?_
   refine qG (qA rfl) rfl (fun _ => qj rfl rfl rfl) ?_
   refine gx ?_
   refine qG (qA rfl) rfl (fun _ => qu rfl rfl rfl (r := (j : Int)) (w64 (by omega) (by omega))) ?_
   refine qG (qA rfl) rfl (fun _ => qd rfl Tryz.underlying169 size96 rfl rfl (i := j) (by omega) (by omega) (off' := j) (by omega)) ?_
   refine qX (qA rfl) rfl (qJ rfl agg96 rfl (qO (i := 0) (ent := ⟨g2, 169, (sch (w16 B 16) j).map (int .u32), 64⟩) (off := j) rfl rfl (by have := qS (kd := .u32) (W := sch (w16 B 16) j) (i := j) (by rw [(sch_len (w16_len B 16) j)]; omega); (first | exact this | (refine Eq.trans ?_ this; congr 1; omega))))) ?_
   refine qG (qA rfl) rfl (fun _ => qj rfl rfl rfl) ?_
   refine qG (qA rfl) rfl (fun _ => qd rfl Tryz.underlying169 size96 rfl rfl (i := (j + 16)) (by omega) (by omega) (off' := (j + 16)) (by omega)) ?_
   refine TM.store1 (qA rfl) rfl rfl size96 rfl rfl rfl (i := 0) rfl rfl (by simp [(sch_len (w16_len B 16) j)] <;> omega) (cs' := ((sch (w16 B 16) j).set (j + 16) (addW .u32 (addW .u32 (addW .u32 (xorI .u32 (xorI .u32 (rotr ((sch (w16 B 16) j).getD (j + 14) 0) 17) (rotr ((sch (w16 B 16) j).getD (j + 14) 0) 19)) (shrI .u32 ((sch (w16 B 16) j).getD (j + 14) 0) 10)) ((sch (w16 B 16) j).getD (j + 9) 0)) (xorI .u32 (xorI .u32 (rotr ((sch (w16 B 16) j).getD (j + 1) 0) 7) (rotr ((sch (w16 B 16) j).getD (j + 1) 0) 18)) (shrI .u32 ((sch (w16 B 16) j).getD (j + 1) 0) 3))) ((sch (w16 B 16) j).getD j 0))).map (int .u32)) (ints_set) (H' := [⟨g2, 169, ((sch (w16 B 16) j).set (j + 16) (addW .u32 (addW .u32 (addW .u32 (xorI .u32 (xorI .u32 (rotr ((sch (w16 B 16) j).getD (j + 14) 0) 17) (rotr ((sch (w16 B 16) j).getD (j + 14) 0) 19)) (shrI .u32 ((sch (w16 B 16) j).getD (j + 14) 0) 10)) ((sch (w16 B 16) j).getD (j + 9) 0)) (xorI .u32 (xorI .u32 (rotr ((sch (w16 B 16) j).getD (j + 1) 0) 7) (rotr ((sch (w16 B 16) j).getD (j + 1) 0) 18)) (shrI .u32 ((sch (w16 B 16) j).getD (j + 1) 0) 3))) ((sch (w16 B 16) j).getD j 0))).map (int .u32), 64⟩, ⟨g1, 169, (List.replicate 64 0).map (int .u32), 64⟩]) rfl ?_
   iterate 3 refine gx ?_
   refine qC [2, 3, 6] ?_
   iterate 2 refine gx ?_
   refine qB (qA rfl) rfl (qU rfl rfl rfl (r := ((j : Int) + 17)) (w64 (by omega) (by omega))) ?_
   iterate 2 refine gx ?_
   exact qc (j + 1) (by omega) (by omega) (qH (i := 2) rfl (qH (i := 3) rfl (qE (i := 6) rfl (by first | omega | rfl) (qK)))) (fun w h => h)
  ·obtain rfl : j = 48 := by omega
   have hWl := sched_len B
   have hWs : sched B = sch (w16 B 16) 48 := by unfold sched; with_reducible rfl
   rw [hWs] at hWl
   generalize hW : sch (w16 B 16) 48 = W at hWl hWs ⊢
   iterate 7 refine gx ?_
   refine qB (qA rfl) rfl (qh rfl agg169 size169 rfl (vs := W.map (int .u32)) (by simp [hWl]) (qZ (i := 0) (ent := ⟨g2, 169, W.map (int .u32), 64⟩) rfl rfl rfl)) ?_
   refine qz (qA rfl) rfl rfl size169 rfl (vs := W.map (int .u32)) rfl (by simp [hWl]) qk (i := 1) (ent := ⟨g1, 169, (List.replicate 64 0).map (int .u32), 64⟩) rfl rfl (by simp []) (H' := [⟨g2, 169, W.map (int .u32), 64⟩, ⟨g1, 169, W.map (int .u32), 64⟩]) rfl ?_
   iterate 3 refine gx ?_
   exact qn rfl agg169 size169 rfl (vs := W.map (int .u32)) (by simp [hWl]) (qZ (i := 1) (ent := ⟨g1, 169, W.map (int .u32), 64⟩) rfl rfl rfl) (fun w hs => ⟨by rw [hWs], hs.dp⟩)
attribute [irreducible] sched wordAt sig0 sig1
def KT : List Int := [1116352408, 1899447441, 3049323471, 3921009573, 961987163, 1508970993, 2453635748, 2870763221, 3624381080, 310598401, 607225278, 1426881987, 1925078388, 2162078206, 2614888103, 3248222580, 3835390401, 4022224774, 264347078, 604807628, 770255983, 1249150122, 1555081692, 1996064986, 2554220882, 2821834349, 2952996808, 3210313671, 3336571891, 3584528711, 113926993, 338241895, 666307205, 773529912, 1294757372, 1396182291, 1695183700, 1986661051, 2177026350, 2456956037, 2730485921, 2820302411, 3259730800, 3345764771, 3516065817, 3600352804, 4094571909, 275423344, 430227734, 506948616, 659060556, 883997877, 958139571, 1322822218, 1537002063, 1747873779, 1955562222, 2024104815, 2227730452, 2361852424, 2428436474, 2756734187, 3204031479, 3329325298]
def IV : List Int := [1779033703, 3144134277, 1013904242, 2773480762, 1359893119, 2600822924, 528734635, 1541459225]
def big1 (x : Int) : Int := xorI .u32 (xorI .u32 (rotr x 6) (rotr x 11)) (rotr x 25)
def big0 (x : Int) : Int := xorI .u32 (xorI .u32 (rotr x 2) (rotr x 13)) (rotr x 22)
def chI (e f g : Int) : Int := xorI .u32 (andI .u32 e f) (andI .u32 (cplI .u32 e) g)
def majI (a b c : Int) : Int := xorI .u32 (xorI .u32 (andI .u32 a b) (andI .u32 a c)) (andI .u32 b c)
def t1I (V : List Int) (k w : Int) : Int := addW .u32 (addW .u32 (addW .u32 (addW .u32 (V.getD 7 0) (big1 (V.getD 4 0))) (chI (V.getD 4 0) (V.getD 5 0) (V.getD 6 0))) k) w
def t2I (V : List Int) : Int := addW .u32 (big0 (V.getD 0 0)) (majI (V.getD 0 0) (V.getD 1 0) (V.getD 2 0))
def stepV (V : List Int) (k w : Int) : List Int := [addW .u32 (t1I V k w) (t2I V), V.getD 0 0, V.getD 1 0, V.getD 2 0, addW .u32 (V.getD 3 0) (t1I V k w), V.getD 4 0, V.getD 5 0, V.getD 6 0]
def rounds (V W : List Int) : Nat → List Int
 | 0 => V
 | k + 1 => stepV (rounds V W k) (KT.getD k 0) (W.getD k 0)
def addAll (st V : List Int) : Nat → List Int
 | 0 => st
 | i + 1 => (addAll st V i).set i (addW .u32 ((addAll st V i).getD i 0) (V.getD i 0))
theorem addAll_len {st V : List Int} (h : st.length = 8) : ∀ j, (addAll st V j).length = 8
 | 0 => h
 | j + 1 => by simp [addAll, addAll_len h j]
def mixS (st B : List Int) : List Int := addAll st (rounds st (sched B) 64) 8
theorem mixS_len {st B : List Int} (h : st.length = 8) : (mixS st B).length = 8 := addAll_len h 8
attribute [irreducible] mixS
theorem RowI.keep {w w' : World} {b off n : Nat} {kd : IntKind} {B : List Int} (h : RowI w b off n kd B) (hs : St w [] w') (hb : b < w.heap.size) : RowI w' b off n kd B := fun j hj =>
 (hs.old_cell (ad := ⟨b, off + j, none⟩) hb qF).trans (h j hj)
theorem mix_end {w0 w : World} {e1 e2 : Ent} {g : Nat} (hs : St w0 [e2, e1] w) (h1 : g < w0.heap.size) (hg : w0.heap.size ≤ e1.g) : St w0 [e2] w := hs.erase (i := 1) rfl hg
theorem mix_c (st B : List Int) (tl : List Value) (g t tot b off cap : Nat) (w : World) (hst : st.length = 8) (hl : Ent.lies ⟨g, t, st.map (int .u32) ++ (tl), tot⟩ w) (hb : b < w.heap.size) (hB : RowI w b off 64 .u8 B) (hcap : 64 ≤ cap) (h1 : 2 < w.heap.size) (hg1 : g ≠ 2) (hK : RowI w 2 0 64 .u32 KT) : Calls Tryz.prog 113 #[.pointer (some ⟨g, 0, none⟩), .slice (some ⟨b, off, none⟩) 64 cap] w fun e w' => e = .returned (.tuple #[]) ∧ St w [⟨g, t, (mixS st B).map (int .u32) ++ (tl), tot⟩] w' := by
 have hg : g < w.heap.size := hl.lt
 refine qP (args := [.pointer (some ⟨g, 0, none⟩), .slice (some ⟨b, off, none⟩) 64 cap]) Tryz.func113 rfl Tryz.ntmps113 (by simp) ?_
 refine qC [0, 1] ?_
 iterate 3 refine gx ?_
 refine qR (qA rfl) rfl enters130 rfl rfl (v := .agg ((sched B).map (int .u32)).toArray) (fun w hs => schedule_c B b off cap _ (Nat.lt_of_lt_of_le hb hs.size) (hB.keep hs hb) hcap) ?_
 refine zK (qA rfl) rfl rfl zero169 (cs := (List.replicate 64 0).map (int .u32)) rfl (tot := 64) (by simp) (fun g1 hg1 => ?_)
 refine qz (qA rfl) rfl rfl size169 rfl (vs := (sched B).map (int .u32)) rfl (by simp [(sched_len B)]) qk (i := 0) (ent := ⟨g1, 169, (List.replicate 64 0).map (int .u32), 64⟩) rfl rfl (by simp []) (H' := [⟨g1, 169, (sched B).map (int .u32), 64⟩]) rfl ?_
 iterate 3 refine gx ?_
 refine TC.heap (H' := [⟨g, t, st.map (int .u32) ++ (tl), tot⟩, ⟨g1, 169, (sched B).map (int .u32), 64⟩]) (fun w hs => hs.take hl (qD (by show g1 ≠ g; omega) qF)) ?_
 refine qs (by kernel_rfl) [0, 0, 0, 1, 0, 0, 0, 1, 0, 0, 0, 1, 0, 0, 0, 1, 0, 0, 0, 1, 0, 0, 0, 1, 0, 0, 0, 1, 0, 0, 0, 1, 0, 0, 0, 0, 0, 0, 0, 0] rfl (by kernel_rfl) ?_
 refine gx ?_
 refine qG (qA rfl) rfl (fun _ => qf rfl rfl) ?_
 refine qG (qA rfl) rfl (fun _ => qd rfl Tryz.underlying138 size96 rfl rfl (i := 0) (by rfl) (by omega) (off' := 0) (by omega)) ?_
 refine qX (qA rfl) rfl (qJ rfl agg96 rfl (qO (i := 0) (ent := ⟨g, t, st.map (int .u32) ++ (tl), tot⟩) (off := 0) rfl rfl (by exact app_left (i := 0) (B := tl) (qS (kd := .u32) (W := st) (i := 0) (by rw [hst]; omega))))) ?_
 refine gx ?_
 refine qG (qA rfl) rfl (fun _ => qf rfl rfl) ?_
 refine qG (qA rfl) rfl (fun _ => qd rfl Tryz.underlying138 size96 rfl rfl (i := 1) (by rfl) (by omega) (off' := 1) (by omega)) ?_
 refine qX (qA rfl) rfl (qJ rfl agg96 rfl (qO (i := 0) (ent := ⟨g, t, st.map (int .u32) ++ (tl), tot⟩) (off := 1) rfl rfl (by exact app_left (i := 1) (B := tl) (qS (kd := .u32) (W := st) (i := 1) (by rw [hst]; omega))))) ?_
 refine gx ?_
 refine qG (qA rfl) rfl (fun _ => qf rfl rfl) ?_
 refine qG (qA rfl) rfl (fun _ => qd rfl Tryz.underlying138 size96 rfl rfl (i := 2) (by rfl) (by omega) (off' := 2) (by omega)) ?_
 refine qX (qA rfl) rfl (qJ rfl agg96 rfl (qO (i := 0) (ent := ⟨g, t, st.map (int .u32) ++ (tl), tot⟩) (off := 2) rfl rfl (by exact app_left (i := 2) (B := tl) (qS (kd := .u32) (W := st) (i := 2) (by rw [hst]; omega))))) ?_
 refine gx ?_
 refine qG (qA rfl) rfl (fun _ => qf rfl rfl) ?_
 refine qG (qA rfl) rfl (fun _ => qd rfl Tryz.underlying138 size96 rfl rfl (i := 3) (by rfl) (by omega) (off' := 3) (by omega)) ?_
 refine qX (qA rfl) rfl (qJ rfl agg96 rfl (qO (i := 0) (ent := ⟨g, t, st.map (int .u32) ++ (tl), tot⟩) (off := 3) rfl rfl (by exact app_left (i := 3) (B := tl) (qS (kd := .u32) (W := st) (i := 3) (by rw [hst]; omega))))) ?_
 refine gx ?_
 refine qG (qA rfl) rfl (fun _ => qf rfl rfl) ?_
 refine qG (qA rfl) rfl (fun _ => qd rfl Tryz.underlying138 size96 rfl rfl (i := 4) (by rfl) (by omega) (off' := 4) (by omega)) ?_
 refine qX (qA rfl) rfl (qJ rfl agg96 rfl (qO (i := 0) (ent := ⟨g, t, st.map (int .u32) ++ (tl), tot⟩) (off := 4) rfl rfl (by exact app_left (i := 4) (B := tl) (qS (kd := .u32) (W := st) (i := 4) (by rw [hst]; omega))))) ?_
 refine gx ?_
 refine qG (qA rfl) rfl (fun _ => qf rfl rfl) ?_
 refine qG (qA rfl) rfl (fun _ => qd rfl Tryz.underlying138 size96 rfl rfl (i := 5) (by rfl) (by omega) (off' := 5) (by omega)) ?_
 refine qX (qA rfl) rfl (qJ rfl agg96 rfl (qO (i := 0) (ent := ⟨g, t, st.map (int .u32) ++ (tl), tot⟩) (off := 5) rfl rfl (by exact app_left (i := 5) (B := tl) (qS (kd := .u32) (W := st) (i := 5) (by rw [hst]; omega))))) ?_
 refine gx ?_
 refine qG (qA rfl) rfl (fun _ => qf rfl rfl) ?_
 refine qG (qA rfl) rfl (fun _ => qd rfl Tryz.underlying138 size96 rfl rfl (i := 6) (by rfl) (by omega) (off' := 6) (by omega)) ?_
 refine qX (qA rfl) rfl (qJ rfl agg96 rfl (qO (i := 0) (ent := ⟨g, t, st.map (int .u32) ++ (tl), tot⟩) (off := 6) rfl rfl (by exact app_left (i := 6) (B := tl) (qS (kd := .u32) (W := st) (i := 6) (by rw [hst]; omega))))) ?_
 refine gx ?_
 refine qG (qA rfl) rfl (fun _ => qf rfl rfl) ?_
 refine qG (qA rfl) rfl (fun _ => qd rfl Tryz.underlying138 size96 rfl rfl (i := 7) (by rfl) (by omega) (off' := 7) (by omega)) ?_
 refine qX (qA rfl) rfl (qJ rfl agg96 rfl (qO (i := 0) (ent := ⟨g, t, st.map (int .u32) ++ (tl), tot⟩) (off := 7) rfl rfl (by exact app_left (i := 7) (B := tl) (qS (kd := .u32) (W := st) (i := 7) (by rw [hst]; omega))))) ?_
 iterate 10 refine gx ?_
 refine qC [0, 4, 5, 6, 7, 8, 9, 10, 11, 12] ?_
 iterate 3 refine gx ?_
 refine qB (qA rfl) rfl (qh rfl agg169 size169 rfl (vs := (sched B).map (int .u32)) (by simp [(sched_len B)]) (qZ (i := 1) (ent := ⟨g1, 169, (sched B).map (int .u32), 64⟩) rfl rfl rfl)) ?_
 iterate 3 refine gx ?_
 refine qC [0, 5, 6, 7, 8, 9, 10, 11, 12, 51, 52] ?_
 refine gx ?_
 refine qe (ι := Nat) (fun k => [(0, .pointer (some ⟨g, 0, none⟩)), (51, .agg ((sched B).map (int .u32)).toArray), (52, .int .i64 (k : Int)), (5, .int .u32 ((rounds st (sched B) k).getD 0 0)), (6, .int .u32 ((rounds st (sched B) k).getD 1 0)), (7, .int .u32 ((rounds st (sched B) k).getD 2 0)), (8, .int .u32 ((rounds st (sched B) k).getD 3 0)), (9, .int .u32 ((rounds st (sched B) k).getD 4 0)), (10, .int .u32 ((rounds st (sched B) k).getD 5 0)), (11, .int .u32 ((rounds st (sched B) k).getD 6 0)), (12, .int .u32 ((rounds st (sched B) k).getD 7 0))]) (fun k => [⟨g, t, st.map (int .u32) ++ (tl), tot⟩, ⟨g1, 169, (sched B).map (int .u32), 64⟩]) (fun k => 64 - k) (fun k => k ≤ 64) 0 (by omega) (qH (i := 0) rfl (qH (i := 51) rfl (qE (i := 52) rfl (by first | omega | rfl) (qE (i := 5) rfl (by first | rfl | omega) (qE (i := 6) rfl (by first | rfl | omega) (qE (i := 7) rfl (by first | rfl | omega) (qE (i := 8) rfl (by first | rfl | omega) (qE (i := 9) rfl (by first | rfl | omega) (qE (i := 10) rfl (by first | rfl | omega) (qE (i := 11) rfl (by first | rfl | omega) (qE (i := 12) rfl (by first | rfl | omega) (qK)))))))))))) (fun w h => h) (fun k hC0 => ?_)
 iterate 5 refine gx ?_
 refine qC [0, 5, 6, 7, 8, 9, 10, 11, 12, 51, 52, 53] ?_
 refine gx ?_
 refine qQ rfl (fun h0 => ?_) (fun h0 => ?_)
 ·iterate 2 refine gx ?_
  refine qC [0, 5, 6, 7, 8, 9, 10, 11, 12, 51, 52] ?_
  iterate 5 refine gx ?_
  refine qB (qA rfl) rfl (Gets.index1 rfl Tryz.underlying169 agg96 size96 rfl rfl (i := k) (by omega) (by omega) (arr_get (qS (kd := .u32) (W := sched B) (i := k) (by rw [(sched_len B)]; omega)))) ?_
  iterate 4 refine gx ?_
  refine qC [0, 5, 6, 7, 8, 9, 10, 11, 12, 13, 14, 51, 52] ?_
  refine gx ?_
  refine qs (by kernel_rfl) [0, 0, 1, 0, 1, 0, 0, 1, 0, 0, 0, 0, 0, 0, 0, 0, 0, 0, 0, 0, 0, 1, 0, 0, 0, 0] rfl (by kernel_rfl) ?_
  iterate 2 refine gx ?_
  refine TM.call0 (qA rfl) rfl enters131 rfl rfl (v := .int .u32 (rotr ((rounds st (sched B) k).getD 4 0) 6)) (fun w hs => right_c ((rounds st (sched B) k).getD 4 0) 6 w (by omega) (by omega)) ?_
  refine gx ?_
  refine TM.call0 (qA rfl) rfl enters131 rfl rfl (v := .int .u32 (rotr ((rounds st (sched B) k).getD 4 0) 11)) (fun w hs => right_c ((rounds st (sched B) k).getD 4 0) 11 w (by omega) (by omega)) ?_
  refine qG (qA rfl) rfl (fun _ => zB rfl rfl rfl (r := (xorI .u32 (rotr ((rounds st (sched B) k).getD 4 0) 6) (rotr ((rounds st (sched B) k).getD 4 0) 11))) rfl) ?_
  refine gx ?_
  refine TM.call0 (qA rfl) rfl enters131 rfl rfl (v := .int .u32 (rotr ((rounds st (sched B) k).getD 4 0) 25)) (fun w hs => right_c ((rounds st (sched B) k).getD 4 0) 25 w (by omega) (by omega)) ?_
  refine qG (qA rfl) rfl (fun _ => zB rfl rfl rfl (r := (xorI .u32 (xorI .u32 (rotr ((rounds st (sched B) k).getD 4 0) 6) (rotr ((rounds st (sched B) k).getD 4 0) 11)) (rotr ((rounds st (sched B) k).getD 4 0) 25))) rfl) ?_
  refine qG (qA rfl) rfl (fun _ => qj rfl rfl rfl) ?_
  iterate 2 refine gx ?_
  refine qG (qA rfl) rfl (fun _ => zJ rfl rfl rfl (r := (andI .u32 ((rounds st (sched B) k).getD 4 0) ((rounds st (sched B) k).getD 5 0))) rfl) ?_
  refine gx ?_
  refine qG (qA rfl) rfl (fun _ => Gets.cplU rfl rfl) ?_
  refine gx ?_
  refine qG (qA rfl) rfl (fun _ => zJ rfl rfl rfl (r := (andI .u32 (cplI .u32 ((rounds st (sched B) k).getD 4 0)) ((rounds st (sched B) k).getD 6 0))) rfl) ?_
  refine qG (qA rfl) rfl (fun _ => zB rfl rfl rfl (r := (xorI .u32 (andI .u32 ((rounds st (sched B) k).getD 4 0) ((rounds st (sched B) k).getD 5 0)) (andI .u32 (cplI .u32 ((rounds st (sched B) k).getD 4 0)) ((rounds st (sched B) k).getD 6 0)))) rfl) ?_
  refine qG (qA rfl) rfl (fun _ => qj rfl rfl rfl) ?_
  refine gx ?_
  refine qG (qA rfl) rfl (fun _ => qd rfl Tryz.underlying169 size96 rfl rfl (i := k) (by omega) (by omega) (off' := k) (by omega)) ?_
  refine qX (qA rfl) rfl (qJ rfl agg96 rfl (zA hK (i := k) (by omega) (by omega) h1 (qD (by show g ≠ 2; omega) (qD (by show g1 ≠ 2; omega) qF)))) ?_
  refine qG (qA rfl) rfl (fun _ => qj rfl rfl rfl) ?_
  refine gx ?_
  refine qG (qA rfl) rfl (fun _ => qj rfl rfl rfl) ?_
  iterate 3 refine gx ?_
  refine qC [0, 5, 6, 7, 8, 9, 10, 11, 12, 15, 51, 52] ?_
  iterate 3 refine gx ?_
  refine qR (qA rfl) rfl enters131 rfl rfl (v := .int .u32 (rotr ((rounds st (sched B) k).getD 0 0) 2)) (fun w hs => right_c ((rounds st (sched B) k).getD 0 0) 2 w (by omega) (by omega)) ?_
  refine gx ?_
  refine qR (qA rfl) rfl enters131 rfl rfl (v := .int .u32 (rotr ((rounds st (sched B) k).getD 0 0) 13)) (fun w hs => right_c ((rounds st (sched B) k).getD 0 0) 13 w (by omega) (by omega)) ?_
  refine qB (qA rfl) rfl (zB rfl rfl rfl (r := (xorI .u32 (rotr ((rounds st (sched B) k).getD 0 0) 2) (rotr ((rounds st (sched B) k).getD 0 0) 13))) rfl) ?_
  refine gx ?_
  refine qR (qA rfl) rfl enters131 rfl rfl (v := .int .u32 (rotr ((rounds st (sched B) k).getD 0 0) 22)) (fun w hs => right_c ((rounds st (sched B) k).getD 0 0) 22 w (by omega) (by omega)) ?_
  refine qB (qA rfl) rfl (zB rfl rfl rfl (r := (xorI .u32 (xorI .u32 (rotr ((rounds st (sched B) k).getD 0 0) 2) (rotr ((rounds st (sched B) k).getD 0 0) 13)) (rotr ((rounds st (sched B) k).getD 0 0) 22))) rfl) ?_
  iterate 2 refine gx ?_
  refine qB (qA rfl) rfl (zJ rfl rfl rfl (r := (andI .u32 ((rounds st (sched B) k).getD 0 0) ((rounds st (sched B) k).getD 1 0))) rfl) ?_
  iterate 2 refine gx ?_
  refine qB (qA rfl) rfl (zJ rfl rfl rfl (r := (andI .u32 ((rounds st (sched B) k).getD 0 0) ((rounds st (sched B) k).getD 2 0))) rfl) ?_
  refine qB (qA rfl) rfl (zB rfl rfl rfl (r := (xorI .u32 (andI .u32 ((rounds st (sched B) k).getD 0 0) ((rounds st (sched B) k).getD 1 0)) (andI .u32 ((rounds st (sched B) k).getD 0 0) ((rounds st (sched B) k).getD 2 0)))) rfl) ?_
  iterate 2 refine gx ?_
  refine qB (qA rfl) rfl (zJ rfl rfl rfl (r := (andI .u32 ((rounds st (sched B) k).getD 1 0) ((rounds st (sched B) k).getD 2 0))) rfl) ?_
  refine qB (qA rfl) rfl (zB rfl rfl rfl (r := (xorI .u32 (xorI .u32 (andI .u32 ((rounds st (sched B) k).getD 0 0) ((rounds st (sched B) k).getD 1 0)) (andI .u32 ((rounds st (sched B) k).getD 0 0) ((rounds st (sched B) k).getD 2 0))) (andI .u32 ((rounds st (sched B) k).getD 1 0) ((rounds st (sched B) k).getD 2 0)))) rfl) ?_
  refine qB (qA rfl) rfl (qj rfl rfl rfl) ?_
  iterate 3 refine gx ?_
  refine qC [0, 5, 6, 7, 8, 9, 10, 11, 12, 15, 16, 51, 52] ?_
  iterate 6 refine gx ?_
  refine qB (qA rfl) rfl (qj rfl rfl rfl) ?_
  iterate 5 refine gx ?_
  refine qB (qA rfl) rfl (qj rfl rfl rfl) ?_
  iterate 11 refine gx ?_
  refine qC [0, 5, 6, 7, 8, 9, 10, 11, 12, 51, 52] ?_
  refine gx ?_
  refine qB (qA rfl) rfl (qU rfl rfl rfl (r := ((k : Int) + 1)) (w64 (by omega) (by omega))) ?_
  iterate 2 refine gx ?_
  exact qc (k + 1) (by omega) (by omega) (qH (i := 0) rfl (qH (i := 51) rfl (qE (i := 52) rfl (by first | omega | rfl) (qE (i := 5) rfl (by first | rfl | omega) (qE (i := 6) rfl (by first | rfl | omega) (qE (i := 7) rfl (by first | rfl | omega) (qE (i := 8) rfl (by first | rfl | omega) (qE (i := 9) rfl (by first | rfl | omega) (qE (i := 10) rfl (by first | rfl | omega) (qE (i := 11) rfl (by first | rfl | omega) (qE (i := 12) rfl (by first | rfl | omega) (qK)))))))))))) (fun w h => h)
 ·obtain rfl : k = 64 := by omega
  generalize hV : rounds st (sched B) 64 = V
  iterate 5 refine gx ?_
  refine qC [0, 5, 6, 7, 8, 9, 10, 11, 12] ?_
  refine gx ?_
  refine qs (by kernel_rfl) [0, 0, 0, 1, 0, 0, 0, 0, 2] rfl (by kernel_rfl) ?_
  refine gx ?_
  refine qG (qA rfl) rfl (fun _ => qf rfl rfl) ?_
  refine qG (qA rfl) rfl (fun _ => qd rfl Tryz.underlying138 size96 rfl rfl (i := 0) (by rfl) (by omega) (off' := 0) (by omega)) ?_
  refine qX (qA rfl) rfl (qJ rfl agg96 rfl (qO (i := 0) (ent := ⟨g, t, st.map (int .u32) ++ (tl), tot⟩) (off := 0) rfl rfl (by exact app_left (i := 0) (B := tl) (qS (kd := .u32) (W := st) (i := 0) (by rw [hst]; omega))))) ?_
  refine gx ?_
  refine qG (qA rfl) rfl (fun _ => qj rfl rfl rfl) ?_
  refine qG (qA rfl) rfl (fun _ => qf rfl rfl) ?_
  refine qG (qA rfl) rfl (fun _ => qd rfl Tryz.underlying138 size96 rfl rfl (i := 0) (by rfl) (by omega) (off' := 0) (by omega)) ?_
  refine TM.store1 (qA rfl) rfl rfl size96 rfl rfl rfl (i := 0) rfl rfl (by simp [hst] <;> omega) (cs' := (addAll st V 1).map (int .u32) ++ (tl)) (set_left (by simp [hst]) (ints_set)) (H' := [⟨g, t, (addAll st V 1).map (int .u32) ++ (tl), tot⟩, ⟨g1, 169, (sched B).map (int .u32), 64⟩]) rfl ?_
  iterate 2 refine gx ?_
  refine qC [0, 6, 7, 8, 9, 10, 11, 12] ?_
  refine gx ?_
  refine qs (by kernel_rfl) [0, 0, 0, 1, 0, 0, 0, 0, 2] rfl (by kernel_rfl) ?_
  refine gx ?_
  refine qG (qA rfl) rfl (fun _ => qf rfl rfl) ?_
  refine qG (qA rfl) rfl (fun _ => qd rfl Tryz.underlying138 size96 rfl rfl (i := 1) (by rfl) (by omega) (off' := 1) (by omega)) ?_
  refine qX (qA rfl) rfl (qJ rfl agg96 rfl (qO (i := 0) (ent := ⟨g, t, (addAll st V 1).map (int .u32) ++ (tl), tot⟩) (off := 1) rfl rfl (by exact app_left (i := 1) (B := tl) (qS (kd := .u32) (W := (addAll st V 1)) (i := 1) (by rw [(addAll_len hst 1)]; omega))))) ?_
  refine gx ?_
  refine qG (qA rfl) rfl (fun _ => qj rfl rfl rfl) ?_
  refine qG (qA rfl) rfl (fun _ => qf rfl rfl) ?_
  refine qG (qA rfl) rfl (fun _ => qd rfl Tryz.underlying138 size96 rfl rfl (i := 1) (by rfl) (by omega) (off' := 1) (by omega)) ?_
  refine TM.store1 (qA rfl) rfl rfl size96 rfl rfl rfl (i := 0) rfl rfl (by simp [(addAll_len hst 1)] <;> omega) (cs' := (addAll st V 2).map (int .u32) ++ (tl)) (set_left (by simp [(addAll_len hst 1)]) (ints_set)) (H' := [⟨g, t, (addAll st V 2).map (int .u32) ++ (tl), tot⟩, ⟨g1, 169, (sched B).map (int .u32), 64⟩]) rfl ?_
  iterate 2 refine gx ?_
  refine qC [0, 7, 8, 9, 10, 11, 12] ?_
  refine gx ?_
  refine qs (by kernel_rfl) [0, 0, 0, 1, 0, 0, 0, 0, 2] rfl (by kernel_rfl) ?_
  refine gx ?_
  refine qG (qA rfl) rfl (fun _ => qf rfl rfl) ?_
  refine qG (qA rfl) rfl (fun _ => qd rfl Tryz.underlying138 size96 rfl rfl (i := 2) (by rfl) (by omega) (off' := 2) (by omega)) ?_
  refine qX (qA rfl) rfl (qJ rfl agg96 rfl (qO (i := 0) (ent := ⟨g, t, (addAll st V 2).map (int .u32) ++ (tl), tot⟩) (off := 2) rfl rfl (by exact app_left (i := 2) (B := tl) (qS (kd := .u32) (W := (addAll st V 2)) (i := 2) (by rw [(addAll_len hst 2)]; omega))))) ?_
  refine gx ?_
  refine qG (qA rfl) rfl (fun _ => qj rfl rfl rfl) ?_
  refine qG (qA rfl) rfl (fun _ => qf rfl rfl) ?_
  refine qG (qA rfl) rfl (fun _ => qd rfl Tryz.underlying138 size96 rfl rfl (i := 2) (by rfl) (by omega) (off' := 2) (by omega)) ?_
  refine TM.store1 (qA rfl) rfl rfl size96 rfl rfl rfl (i := 0) rfl rfl (by simp [(addAll_len hst 2)] <;> omega) (cs' := (addAll st V 3).map (int .u32) ++ (tl)) (set_left (by simp [(addAll_len hst 2)]) (ints_set)) (H' := [⟨g, t, (addAll st V 3).map (int .u32) ++ (tl), tot⟩, ⟨g1, 169, (sched B).map (int .u32), 64⟩]) rfl ?_
  iterate 2 refine gx ?_
  refine qC [0, 8, 9, 10, 11, 12] ?_
  refine gx ?_
  refine qs (by kernel_rfl) [0, 0, 0, 1, 0, 0, 0, 0, 2] rfl (by kernel_rfl) ?_
  refine gx ?_
  refine qG (qA rfl) rfl (fun _ => qf rfl rfl) ?_
  refine qG (qA rfl) rfl (fun _ => qd rfl Tryz.underlying138 size96 rfl rfl (i := 3) (by rfl) (by omega) (off' := 3) (by omega)) ?_
  refine qX (qA rfl) rfl (qJ rfl agg96 rfl (qO (i := 0) (ent := ⟨g, t, (addAll st V 3).map (int .u32) ++ (tl), tot⟩) (off := 3) rfl rfl (by exact app_left (i := 3) (B := tl) (qS (kd := .u32) (W := (addAll st V 3)) (i := 3) (by rw [(addAll_len hst 3)]; omega))))) ?_
  refine gx ?_
  refine qG (qA rfl) rfl (fun _ => qj rfl rfl rfl) ?_
  refine qG (qA rfl) rfl (fun _ => qf rfl rfl) ?_
  refine qG (qA rfl) rfl (fun _ => qd rfl Tryz.underlying138 size96 rfl rfl (i := 3) (by rfl) (by omega) (off' := 3) (by omega)) ?_
  refine TM.store1 (qA rfl) rfl rfl size96 rfl rfl rfl (i := 0) rfl rfl (by simp [(addAll_len hst 3)] <;> omega) (cs' := (addAll st V 4).map (int .u32) ++ (tl)) (set_left (by simp [(addAll_len hst 3)]) (ints_set)) (H' := [⟨g, t, (addAll st V 4).map (int .u32) ++ (tl), tot⟩, ⟨g1, 169, (sched B).map (int .u32), 64⟩]) rfl ?_
  iterate 2 refine gx ?_
  refine qC [0, 9, 10, 11, 12] ?_
  refine gx ?_
  refine qs (by kernel_rfl) [0, 0, 0, 1, 0, 0, 0, 0, 2] rfl (by kernel_rfl) ?_
  refine gx ?_
  refine qG (qA rfl) rfl (fun _ => qf rfl rfl) ?_
  refine qG (qA rfl) rfl (fun _ => qd rfl Tryz.underlying138 size96 rfl rfl (i := 4) (by rfl) (by omega) (off' := 4) (by omega)) ?_
  refine qX (qA rfl) rfl (qJ rfl agg96 rfl (qO (i := 0) (ent := ⟨g, t, (addAll st V 4).map (int .u32) ++ (tl), tot⟩) (off := 4) rfl rfl (by exact app_left (i := 4) (B := tl) (qS (kd := .u32) (W := (addAll st V 4)) (i := 4) (by rw [(addAll_len hst 4)]; omega))))) ?_
  refine gx ?_
  refine qG (qA rfl) rfl (fun _ => qj rfl rfl rfl) ?_
  refine qG (qA rfl) rfl (fun _ => qf rfl rfl) ?_
  refine qG (qA rfl) rfl (fun _ => qd rfl Tryz.underlying138 size96 rfl rfl (i := 4) (by rfl) (by omega) (off' := 4) (by omega)) ?_
  refine TM.store1 (qA rfl) rfl rfl size96 rfl rfl rfl (i := 0) rfl rfl (by simp [(addAll_len hst 4)] <;> omega) (cs' := (addAll st V 5).map (int .u32) ++ (tl)) (set_left (by simp [(addAll_len hst 4)]) (ints_set)) (H' := [⟨g, t, (addAll st V 5).map (int .u32) ++ (tl), tot⟩, ⟨g1, 169, (sched B).map (int .u32), 64⟩]) rfl ?_
  iterate 2 refine gx ?_
  refine qC [0, 10, 11, 12] ?_
  refine gx ?_
  refine qs (by kernel_rfl) [0, 0, 0, 1, 0, 0, 0, 0, 2] rfl (by kernel_rfl) ?_
  refine gx ?_
  refine qG (qA rfl) rfl (fun _ => qf rfl rfl) ?_
  refine qG (qA rfl) rfl (fun _ => qd rfl Tryz.underlying138 size96 rfl rfl (i := 5) (by rfl) (by omega) (off' := 5) (by omega)) ?_
  refine qX (qA rfl) rfl (qJ rfl agg96 rfl (qO (i := 0) (ent := ⟨g, t, (addAll st V 5).map (int .u32) ++ (tl), tot⟩) (off := 5) rfl rfl (by exact app_left (i := 5) (B := tl) (qS (kd := .u32) (W := (addAll st V 5)) (i := 5) (by rw [(addAll_len hst 5)]; omega))))) ?_
  refine gx ?_
  refine qG (qA rfl) rfl (fun _ => qj rfl rfl rfl) ?_
  refine qG (qA rfl) rfl (fun _ => qf rfl rfl) ?_
  refine qG (qA rfl) rfl (fun _ => qd rfl Tryz.underlying138 size96 rfl rfl (i := 5) (by rfl) (by omega) (off' := 5) (by omega)) ?_
  refine TM.store1 (qA rfl) rfl rfl size96 rfl rfl rfl (i := 0) rfl rfl (by simp [(addAll_len hst 5)] <;> omega) (cs' := (addAll st V 6).map (int .u32) ++ (tl)) (set_left (by simp [(addAll_len hst 5)]) (ints_set)) (H' := [⟨g, t, (addAll st V 6).map (int .u32) ++ (tl), tot⟩, ⟨g1, 169, (sched B).map (int .u32), 64⟩]) rfl ?_
  iterate 2 refine gx ?_
  refine qC [0, 11, 12] ?_
  refine gx ?_
  refine qs (by kernel_rfl) [0, 0, 0, 1, 0, 0, 0, 0, 2] rfl (by kernel_rfl) ?_
  refine gx ?_
  refine qG (qA rfl) rfl (fun _ => qf rfl rfl) ?_
  refine qG (qA rfl) rfl (fun _ => qd rfl Tryz.underlying138 size96 rfl rfl (i := 6) (by rfl) (by omega) (off' := 6) (by omega)) ?_
  refine qX (qA rfl) rfl (qJ rfl agg96 rfl (qO (i := 0) (ent := ⟨g, t, (addAll st V 6).map (int .u32) ++ (tl), tot⟩) (off := 6) rfl rfl (by exact app_left (i := 6) (B := tl) (qS (kd := .u32) (W := (addAll st V 6)) (i := 6) (by rw [(addAll_len hst 6)]; omega))))) ?_
  refine gx ?_
  refine qG (qA rfl) rfl (fun _ => qj rfl rfl rfl) ?_
  refine qG (qA rfl) rfl (fun _ => qf rfl rfl) ?_
  refine qG (qA rfl) rfl (fun _ => qd rfl Tryz.underlying138 size96 rfl rfl (i := 6) (by rfl) (by omega) (off' := 6) (by omega)) ?_
  refine TM.store1 (qA rfl) rfl rfl size96 rfl rfl rfl (i := 0) rfl rfl (by simp [(addAll_len hst 6)] <;> omega) (cs' := (addAll st V 7).map (int .u32) ++ (tl)) (set_left (by simp [(addAll_len hst 6)]) (ints_set)) (H' := [⟨g, t, (addAll st V 7).map (int .u32) ++ (tl), tot⟩, ⟨g1, 169, (sched B).map (int .u32), 64⟩]) rfl ?_
  iterate 2 refine gx ?_
  refine qC [0, 12] ?_
  refine qs (by kernel_rfl) [0, 0, 0, 1, 0, 0, 0, 0, 2] rfl (by kernel_rfl) ?_
  refine gx ?_
  refine qG (qA rfl) rfl (fun _ => qf rfl rfl) ?_
  refine qG (qA rfl) rfl (fun _ => qd rfl Tryz.underlying138 size96 rfl rfl (i := 7) (by rfl) (by omega) (off' := 7) (by omega)) ?_
  refine qX (qA rfl) rfl (qJ rfl agg96 rfl (qO (i := 0) (ent := ⟨g, t, (addAll st V 7).map (int .u32) ++ (tl), tot⟩) (off := 7) rfl rfl (by exact app_left (i := 7) (B := tl) (qS (kd := .u32) (W := (addAll st V 7)) (i := 7) (by rw [(addAll_len hst 7)]; omega))))) ?_
  refine gx ?_
  refine qG (qA rfl) rfl (fun _ => qj rfl rfl rfl) ?_
  refine qG (qA rfl) rfl (fun _ => qf rfl rfl) ?_
  refine qG (qA rfl) rfl (fun _ => qd rfl Tryz.underlying138 size96 rfl rfl (i := 7) (by rfl) (by omega) (off' := 7) (by omega)) ?_
  refine TM.store1 (qA rfl) rfl rfl size96 rfl rfl rfl (i := 0) rfl rfl (by simp [(addAll_len hst 7)] <;> omega) (cs' := (addAll st V 8).map (int .u32) ++ (tl)) (set_left (by simp [(addAll_len hst 7)]) (ints_set)) (H' := [⟨g, t, (addAll st V 8).map (int .u32) ++ (tl), tot⟩, ⟨g1, 169, (sched B).map (int .u32), 64⟩]) rfl ?_
  refine gx ?_
  exact TE.end0 rfl (fun w hs => ⟨rfl, by unfold mixS; rw [hV]; exact mix_end hs (by assumption) (by assumption)⟩)
/-
 The tables that start-up lays.
-/
open Go Go.RowKit Go.ChangeShapes Go.WideShapes Go.ChangeAt Go.Joins Go.Deep
theorem g0n : Tryz.prog.globalNamed "graft/sha.squareRoots" = some 0 := by kernel_rfl
theorem g1n : Tryz.prog.globalNamed "graft/sha.cubeRoots" = some 2 := by kernel_rfl
theorem t0n : (Tryz.prog.globals[0]?).map (·.type) = some 137 := by kernel_rfl
theorem t1n : (Tryz.prog.globals[2]?).map (·.type) = some 169 := by kernel_rfl
theorem c0n : Tryz.prog.cellsOf 137 = 8 := by kernel_rfl
theorem c1n : Tryz.prog.cellsOf 169 = 64 := by kernel_rfl
theorem c2n : Tryz.prog.cellsOf 96 = 1 := by kernel_rfl
theorem dIV : (Rows.laid_graft_sha_squareRoots : DataW Unit) = .agg (IV.map fun x => .lit (.int .u32 x)) := by kernel_rfl
theorem dKT : (Rows.laid_graft_sha_cubeRoots : DataW Unit) = .agg (KT.map fun x => .lit (.int .u32 x)) := by kernel_rfl
theorem rowI_of_var {W : World} {nm : String} {g n : Nat} {cs : Array Value} {T : List Int} (hg : Tryz.prog.globalNamed nm = some g) (hv : W.var? Tryz.prog nm = some cs) (hc : cs.toList = T.map (int .u32)) (hn : T.length = n) : RowI W g 0 n .u32 T := fun j hj => by
 rw [Nat.zero_add, World.var?_cell hg hv j, ← Array.getElem?_toList, hc]
 exact qS (by omega)
theorem of_laid {W : World} (h : laidMetH Tryz.prog [("graft/sha.squareRoots", Rows.laid_graft_sha_squareRoots), ("graft/sha.cubeRoots", Rows.laid_graft_sha_cubeRoots)] W) : 2 < W.heap.size ∧ RowI W 0 0 8 .u32 IV ∧ RowI W 2 0 64 .u32 KT := by
 rw [MakeChecks.laidMetH_plain _ _ _ (by kernel_rfl)] at h
 obtain ⟨ps, ⟨g0, t0, cs0, f0, p0, q0, hg0, ht0, hv0, hd0, ⟨g1, t1, cs1, f1, p1, q1, hg1, ht1, hv1, hd1, _, _⟩, _⟩, _, _⟩ := h
 obtain rfl := Option.some.inj (g0n.symm.trans hg0)
 obtain rfl := Option.some.inj (g1n.symm.trans hg1)
 obtain rfl := Option.some.inj (t0n.symm.trans ht0)
 obtain rfl := Option.some.inj (t1n.symm.trans ht1)
 rw [dIV] at hd0
 rw [dKT] at hd1
 have r0 := rowI_of_var g0n hv0 (cells_of_table Tryz.underlying137 Tryz.underlying96 c2n c0n hd0) (n := 8) rfl
 have r1 := rowI_of_var g1n hv1 (cells_of_table Tryz.underlying169 Tryz.underlying96 c2n c1n hd1) (n := 64) rfl
 exact ⟨World.block_lt_of_cell? W _ (r1 0 (by omega)), r0, r1⟩
theorem door_met (os : Os) (args : Array Value) : laidMetH Tryz.prog [("graft/sha.squareRoots", Rows.laid_graft_sha_squareRoots), ("graft/sha.cubeRoots", Rows.laid_graft_sha_cubeRoots)] ((World.doorLaid Tryz.prog 100 os).forCall (fun _ _ => 0) ⟨#[], args, []⟩).memory :=
 laidMetH_of_parts3 (fuel := 8) (laidMet_of_run' 8 (by kernel_rfl) (by kernel_rfl)) (by kernel_rfl) (by kernel_rfl)
/-
 A slice of slices of bytes that came in, with the bounds of its numbers.
-/
section
variable {H : Type} {enc : TypeId × Value → H} {P : Program} {W : World} {base fuel : Nat} {sp : Nat → Bool} {held : Bool} {t e : TypeId} {kd : IntKind}
end
/-
 Arguments opened: slices of numbers with their reach, slices of structs.
-/
set_option maxRecDepth 100000
/-
 Arguments opened: commands, extents, arrays of three numbers.
-/
/-
 Mathematics of deltas, no program in it: targets that do not overlap and cover an interval: the smallest gap, sums of lengths, the sorted order.
-/
def hasB (p : Int × Int) (x : Int) : Prop := p.1 ≤ x ∧ x < p.1 + p.2
instance (p : Int × Int) (x : Int) : Decidable (hasB p x) := by unfold hasB; infer_instance
def okT (a N : Int) (p : Int × Int) : Prop := a ≤ p.1 ∧ 1 ≤ p.2 ∧ p.1 + p.2 ≤ N
def apartT (p q : Int × Int) : Prop := p.1 + p.2 ≤ q.1 ∨ q.1 + q.2 ≤ p.1
theorem apartT.symm {p q : Int × Int} (h : apartT p q) : apartT q p := Or.symm h
def tidyT (a N : Int) (l : List (Int × Int)) : Prop := (∀ p ∈ l, okT a N p) ∧ l.Pairwise apartT
def coverT (a N : Int) (l : List (Int × Int)) : Prop := ∀ x, a ≤ x → x < N → ∃ p ∈ l, hasB p x
def freeT (l : List (Int × Int)) (x : Int) : Prop := ∀ p ∈ l, ¬ hasB p x
def leastT (N : Int) (l : List (Int × Int)) (g : Int) : Prop := 0 ≤ g ∧ g < N ∧ freeT l g ∧ ∀ x, 0 ≤ x → x < g → ¬ freeT l x
theorem leastT_unique {N g h : Int} {l : List (Int × Int)} (hg : leastT N l g) (hh : leastT N l h) : g = h := by
 obtain ⟨g1, g2, g3, g4⟩ := hg
 obtain ⟨h1, h2, h3, h4⟩ := hh
 have a : ¬ h < g := fun c => g4 h h1 c h3
 have b : ¬ g < h := fun c => h4 g g1 c g3
 omega
def sumT (l : List (Int × Int)) : Int := (l.map (·.2)).sum
theorem sumT_cons (p : Int × Int) (l : List (Int × Int)) : sumT (p :: l) = p.2 + sumT l := by simp [sumT]
theorem sumT_app (l r : List (Int × Int)) : sumT (l ++ r) = sumT l + sumT r := by simp [sumT]
theorem sumT_perm {l r : List (Int × Int)} (h : l.Perm r) : sumT l = sumT r := by
 induction h with
 | nil => rfl
 | cons p _ ih => rw [sumT_cons, sumT_cons, ih]
 | swap p q l => rw [sumT_cons, sumT_cons, sumT_cons, sumT_cons]; omega
 | trans _ _ ih1 ih2 => rw [ih1, ih2]
def chainT (a : Int) : List (Int × Int) → Prop
 | [] => True
 | p :: l => p.1 = a ∧ chainT (a + p.2) l
theorem chain_of_sorted {N : Int} : ∀ {l : List (Int × Int)} {a : Int}, a ≤ N → tidyT a N l → coverT a N l → l.Pairwise (fun p q => p.1 ≤ q.1) → chainT a l ∧ a + sumT l = N
 | [], a, haN, ht, hc, _ => by
  refine ⟨trivial, ?_⟩
  have : ¬ a < N := fun h => by
   obtain ⟨p, hp, _⟩ := hc a (Int.le_refl a) h
   cases hp
  simp [sumT]; omega
 | p :: l, a, haN, ht, hc, hs => by
  obtain ⟨hok, hap⟩ := ht
  have hp := hok p List.mem_cons_self
  unfold okT at hp
  obtain ⟨q, hq, hb⟩ := hc a (Int.le_refl a) (by omega)
  have hqok := hok q hq
  unfold okT at hqok
  unfold hasB at hb
  have hpa : p.1 = a := by
   rcases List.mem_cons.1 hq with rfl | hq
   ·omega
   ·have := (List.pairwise_cons.1 hs).1 q hq
    omega
  have hall := (List.pairwise_cons.1 hap).1
  have hrec := chain_of_sorted (N := N) (l := l) (a := a + p.2) (by omega) ⟨fun q hq => by
    have h1 := hok q (by simp [hq])
    have h2 := hall q hq
    have h3 := (List.pairwise_cons.1 hs).1 q hq
    unfold okT at h1 ⊢
    unfold apartT at h2
    omega, (List.pairwise_cons.1 hap).2⟩ (fun x hx hxN => by
    obtain ⟨q, hq, hb⟩ := hc x (by omega) hxN
    rcases List.mem_cons.1 hq with rfl | hq
    ·unfold hasB at hb; omega
    ·exact ⟨q, hq, hb⟩) (List.pairwise_cons.1 hs).2
  rw [sumT_cons]
  exact ⟨⟨hpa, hrec.1⟩, by omega⟩
theorem tidy_of_chain {N : Int} : ∀ {l : List (Int × Int)} {a : Int}, (∀ p ∈ l, 1 ≤ p.2) → chainT a l → a + sumT l = N → tidyT a N l ∧ coverT a N l ∧ l.Pairwise (fun p q => p.1 < q.1)
 | [], a, _, _, hs => ⟨⟨by simp, .nil⟩, fun x h1 h2 => by simp [sumT] at hs; omega, .nil⟩
 | p :: l, a, hl, hc, hs => by
  obtain ⟨hp, hc⟩ := hc
  rw [sumT_cons] at hs
  have h1 := hl p List.mem_cons_self
  obtain ⟨⟨r1, r2⟩, r3, r4⟩ := tidy_of_chain (N := N) (l := l) (a := a + p.2) (fun q hq => hl q (by simp [hq])) hc (by omega)
  have hge : 0 ≤ sumT l := by
   have : ∀ l : List (Int × Int), (∀ p ∈ l, 1 ≤ p.2) → 0 ≤ sumT l := fun l => by
    induction l with
    | nil => intro _; simp [sumT]
    | cons q l ih => intro h; rw [sumT_cons]; have := h q List.mem_cons_self; have := ih (fun p hp => h p (by simp [hp])); omega
   exact this l (fun q hq => hl q (by simp [hq]))
  refine ⟨⟨fun q hq => ?_, .cons (fun q hq => ?_) r2⟩, fun x hx hxN => ?_, .cons (fun q hq => ?_) r4⟩
  ·rcases List.mem_cons.1 hq with rfl | hq
   ·unfold okT; omega
   ·have := r1 q hq; unfold okT at this ⊢; omega
  ·have := r1 q hq; unfold okT at this; unfold apartT; omega
  ·by_cases hlt : x < a + p.2
   ·exact ⟨p, List.mem_cons_self, by unfold hasB; omega⟩
   ·obtain ⟨q, hq, hb⟩ := r3 x (by omega) hxN
    exact ⟨q, by simp [hq], hb⟩
  ·have := r1 q hq; unfold okT at this; omega
theorem tidyT.perm {a N : Int} {l r : List (Int × Int)} (h : tidyT a N l) (hp : l.Perm r) : tidyT a N r := ⟨fun p hr => h.1 p (hp.mem_iff.2 hr), h.2.perm hp apartT.symm⟩
theorem coverT.perm {a N : Int} {l r : List (Int × Int)} (h : coverT a N l) (hp : l.Perm r) : coverT a N r := fun x h1 h2 => by
 obtain ⟨p, hl, hb⟩ := h x h1 h2
 exact ⟨p, hp.mem_iff.1 hl, hb⟩
theorem freeT.perm {l r : List (Int × Int)} {x : Int} (h : freeT l x) (hp : l.Perm r) : freeT r x := fun p hr => h p (hp.mem_iff.2 hr)
theorem sum_of_cover {a N : Int} {l : List (Int × Int)} (haN : a ≤ N) (ht : tidyT a N l) (hc : coverT a N l) : a + sumT l = N := by
 let r := l.mergeSort (fun p q => decide (p.1 ≤ q.1))
 have hp : r.Perm l := List.mergeSort_perm l _
 have hs : r.Pairwise (fun p q => decide (p.1 ≤ q.1) = true) := List.pairwise_mergeSort (by intro a b c h1 h2; simp at h1 h2 ⊢; omega) (by intro a b; simp; omega) l
 have := (chain_of_sorted haN (ht.perm hp.symm) (hc.perm hp.symm) (hs.imp (by intro p q h; simpa using h))).2
 rw [← sumT_perm hp]; exact this
section
variable {α : Type} (key : α → Int)
end
/-
 Contracts of package sha: the digest of a state, the end of a message.
-/
theorem agg138 : (isAgg 138).run Tryz.prog = fun w => .ok true w := isAgg_yes Tryz.underlying138 rfl
theorem agg23 : (isAgg 23).run Tryz.prog = fun w => .ok true w := isAgg_yes Tryz.underlying23 rfl
theorem mk5 : (Tryz.prog.info? 5).map (fun i => (i.zero, i.size, i.bytes)) = some (some (.int .u8 0), 1, 1) := by kernel_rfl
theorem size138 : (Tryz.prog.info? 138).map (·.size) = some 8 := by kernel_rfl
theorem size23 : (Tryz.prog.info? 23).map (·.size) = some 32 := by kernel_rfl
theorem zero23 : (Tryz.prog.info? 23).bind (·.zero) = some (.agg #[.int .u8 0, .int .u8 0, .int .u8 0, .int .u8 0, .int .u8 0, .int .u8 0, .int .u8 0, .int .u8 0, .int .u8 0, .int .u8 0, .int .u8 0, .int .u8 0, .int .u8 0, .int .u8 0, .int .u8 0, .int .u8 0, .int .u8 0, .int .u8 0, .int .u8 0, .int .u8 0, .int .u8 0, .int .u8 0, .int .u8 0, .int .u8 0, .int .u8 0, .int .u8 0, .int .u8 0, .int .u8 0, .int .u8 0, .int .u8 0, .int .u8 0, .int .u8 0]) := by kernel_rfl
theorem zero5 : (Tryz.prog.info? 5).bind (·.zero) = some (.int .u8 0) := by kernel_rfl
def digB (st : List Int) : Nat → List Int
 | 0 => List.replicate 32 0
 | k + 1 => ((((digB st k).set (4 * k) (IntKind.u8.wrap (shrI .u32 (st.getD k 0) 24))).set (4 * k + 1) (IntKind.u8.wrap (shrI .u32 (st.getD k 0) 16))).set (4 * k + 2) (IntKind.u8.wrap (shrI .u32 (st.getD k 0) 8))).set (4 * k + 3) (IntKind.u8.wrap (st.getD k 0))
theorem digB_len (st : List Int) : ∀ k, (digB st k).length = 32
 | 0 => by simp [digB]
 | k + 1 => by simp [digB, digB_len st k]
theorem digest_c (st : List Int) (tl : List Value) (g t tot : Nat) (w : World) (hst : st.length = 8) (hl : Ent.lies ⟨g, t, st.map (int .u32) ++ (tl), tot⟩ w) : Calls Tryz.prog 96 #[.pointer (some ⟨g, 0, none⟩)] w fun e w' => e = .returned (.agg ((digB st 8).map (int .u8)).toArray) ∧ St w [] w' := by
 have hg : g < w.heap.size := hl.lt
 refine qP (args := [.pointer (some ⟨g, 0, none⟩)]) Tryz.func96 rfl Tryz.ntmps96 (by simp) ?_
 refine qC [0] ?_
 iterate 2 refine gx ?_
 refine zK (qA rfl) rfl rfl zero23 (cs := (List.replicate 32 0).map (int .u8)) rfl (tot := 32) (by simp) (fun g1 hg1 => ?_)
 iterate 4 refine gx ?_
 refine zK (qA rfl) rfl rfl zero23 (cs := (List.replicate 32 0).map (int .u8)) rfl (tot := 32) (by simp) (fun g2 hg2 => ?_)
 iterate 6 refine gx ?_
 refine qB (qA rfl) rfl (qf rfl rfl) ?_
 refine qB (qA rfl) rfl (qh rfl agg138 size138 rfl (vs := st.map (int .u32)) (by simp [hst]) (Row.old (lies_row hl) hg (qD (by show g2 ≠ g; omega) (qD (by show g1 ≠ g; omega) qF)))) ?_
 iterate 4 refine gx ?_
 refine qe (ι := Nat) (fun k => [(2, .pointer (some ⟨g1, 0, none⟩)), (3, .pointer (some ⟨g2, 0, none⟩)), (8, .agg (st.map (int .u32)).toArray), (9, .int .i64 (k : Int))]) (fun k => [⟨g2, 23, (digB st k).map (int .u8), 32⟩, ⟨g1, 23, (List.replicate 32 0).map (int .u8), 32⟩]) (fun k => 8 - k) (fun k => k ≤ 8) 0 (by omega) (qH (i := 2) rfl (qH (i := 3) rfl (qH (i := 8) rfl (qE (i := 9) rfl (by first | omega | rfl) (qK))))) (fun w h => h) (fun k hC0 => ?_)
 iterate 6 refine gx ?_
 refine qQ rfl (fun h0 => ?_) (fun h0 => ?_)
 ·iterate 7 refine gx ?_
  refine qB (qA rfl) rfl (Gets.index1 rfl Tryz.underlying138 agg96 size96 rfl rfl (i := k) (by omega) (by omega) (arr_get (qS (kd := .u32) (W := st) (i := k) (by rw [hst]; omega)))) ?_
  iterate 4 refine gx ?_
  refine qC [2, 3, 4, 5, 8, 9] ?_
  iterate 2 refine gx ?_
  refine qB (qA rfl) rfl (Gets.mul rfl rfl rfl (r := (4 * (k : Int))) (w64 (by omega) (by omega))) ?_
  refine gx ?_
  refine qB (qA rfl) rfl (Gets.mul rfl rfl rfl (r := (4 * (k : Int))) (w64 (by omega) (by omega))) ?_
  refine qB (qA rfl) rfl (qU rfl rfl rfl (r := (4 * (k : Int) + 1)) (w64 (by omega) (by omega))) ?_
  refine gx ?_
  refine qB (qA rfl) rfl (Gets.mul rfl rfl rfl (r := (4 * (k : Int))) (w64 (by omega) (by omega))) ?_
  refine qB (qA rfl) rfl (qU rfl rfl rfl (r := (4 * (k : Int) + 2)) (w64 (by omega) (by omega))) ?_
  refine gx ?_
  refine qB (qA rfl) rfl (Gets.mul rfl rfl rfl (r := (4 * (k : Int))) (w64 (by omega) (by omega))) ?_
  refine qB (qA rfl) rfl (qU rfl rfl rfl (r := (4 * (k : Int) + 3)) (w64 (by omega) (by omega))) ?_
  refine gx ?_
  refine qB (qA rfl) rfl (zI rfl rfl rfl (by omega) (r := (shrI .u32 (st.getD k 0) 24)) rfl) ?_
  refine qB (qA rfl) rfl (qv rfl Tryz.underlying96 Tryz.underlying5 rfl (r := (IntKind.u8.wrap (shrI .u32 (st.getD k 0) 24))) rfl) ?_
  refine gx ?_
  refine qB (qA rfl) rfl (zI rfl rfl rfl (by omega) (r := (shrI .u32 (st.getD k 0) 16)) rfl) ?_
  refine qB (qA rfl) rfl (qv rfl Tryz.underlying96 Tryz.underlying5 rfl (r := (IntKind.u8.wrap (shrI .u32 (st.getD k 0) 16))) rfl) ?_
  refine gx ?_
  refine qB (qA rfl) rfl (zI rfl rfl rfl (by omega) (r := (shrI .u32 (st.getD k 0) 8)) rfl) ?_
  refine qB (qA rfl) rfl (qv rfl Tryz.underlying96 Tryz.underlying5 rfl (r := (IntKind.u8.wrap (shrI .u32 (st.getD k 0) 8))) rfl) ?_
  refine gx ?_
  refine qB (qA rfl) rfl (qv rfl Tryz.underlying96 Tryz.underlying5 rfl (r := (IntKind.u8.wrap (st.getD k 0))) rfl) ?_
  refine qB (qA rfl) rfl (qd rfl Tryz.underlying23 size5 rfl rfl (i := (4 * k)) (by omega) (by omega) (off' := (4 * k)) (by omega)) ?_
  refine qy (qA rfl) rfl rfl size5 rfl rfl rfl (i := 0) rfl rfl (by simp [(digB_len st k)] <;> omega) (cs' := ((digB st k).set (4 * k) (IntKind.u8.wrap (shrI .u32 (st.getD k 0) 24))).map (int .u8)) (ints_set) (H' := [⟨g2, 23, ((digB st k).set (4 * k) (IntKind.u8.wrap (shrI .u32 (st.getD k 0) 24))).map (int .u8), 32⟩, ⟨g1, 23, (List.replicate 32 0).map (int .u8), 32⟩]) rfl ?_
  refine qB (qA rfl) rfl (qd rfl Tryz.underlying23 size5 rfl rfl (i := (4 * k + 1)) (by omega) (by omega) (off' := (4 * k + 1)) (by omega)) ?_
  refine qy (qA rfl) rfl rfl size5 rfl rfl rfl (i := 0) rfl rfl (by simp [(digB_len st k)] <;> omega) (cs' := (((digB st k).set (4 * k) (IntKind.u8.wrap (shrI .u32 (st.getD k 0) 24))).set (4 * k + 1) (IntKind.u8.wrap (shrI .u32 (st.getD k 0) 16))).map (int .u8)) (ints_set) (H' := [⟨g2, 23, (((digB st k).set (4 * k) (IntKind.u8.wrap (shrI .u32 (st.getD k 0) 24))).set (4 * k + 1) (IntKind.u8.wrap (shrI .u32 (st.getD k 0) 16))).map (int .u8), 32⟩, ⟨g1, 23, (List.replicate 32 0).map (int .u8), 32⟩]) rfl ?_
  refine qB (qA rfl) rfl (qd rfl Tryz.underlying23 size5 rfl rfl (i := (4 * k + 2)) (by omega) (by omega) (off' := (4 * k + 2)) (by omega)) ?_
  refine qy (qA rfl) rfl rfl size5 rfl rfl rfl (i := 0) rfl rfl (by simp [(digB_len st k)] <;> omega) (cs' := ((((digB st k).set (4 * k) (IntKind.u8.wrap (shrI .u32 (st.getD k 0) 24))).set (4 * k + 1) (IntKind.u8.wrap (shrI .u32 (st.getD k 0) 16))).set (4 * k + 2) (IntKind.u8.wrap (shrI .u32 (st.getD k 0) 8))).map (int .u8)) (ints_set) (H' := [⟨g2, 23, ((((digB st k).set (4 * k) (IntKind.u8.wrap (shrI .u32 (st.getD k 0) 24))).set (4 * k + 1) (IntKind.u8.wrap (shrI .u32 (st.getD k 0) 16))).set (4 * k + 2) (IntKind.u8.wrap (shrI .u32 (st.getD k 0) 8))).map (int .u8), 32⟩, ⟨g1, 23, (List.replicate 32 0).map (int .u8), 32⟩]) rfl ?_
  refine qB (qA rfl) rfl (qd rfl Tryz.underlying23 size5 rfl rfl (i := (4 * k + 3)) (by omega) (by omega) (off' := (4 * k + 3)) (by omega)) ?_
  refine qy (qA rfl) rfl rfl size5 rfl rfl rfl (i := 0) rfl rfl (by simp [(digB_len st k)] <;> omega) (cs' := (((((digB st k).set (4 * k) (IntKind.u8.wrap (shrI .u32 (st.getD k 0) 24))).set (4 * k + 1) (IntKind.u8.wrap (shrI .u32 (st.getD k 0) 16))).set (4 * k + 2) (IntKind.u8.wrap (shrI .u32 (st.getD k 0) 8))).set (4 * k + 3) (IntKind.u8.wrap (st.getD k 0))).map (int .u8)) (ints_set) (H' := [⟨g2, 23, (((((digB st k).set (4 * k) (IntKind.u8.wrap (shrI .u32 (st.getD k 0) 24))).set (4 * k + 1) (IntKind.u8.wrap (shrI .u32 (st.getD k 0) 16))).set (4 * k + 2) (IntKind.u8.wrap (shrI .u32 (st.getD k 0) 8))).set (4 * k + 3) (IntKind.u8.wrap (st.getD k 0))).map (int .u8), 32⟩, ⟨g1, 23, (List.replicate 32 0).map (int .u8), 32⟩]) rfl ?_
  iterate 3 refine gx ?_
  refine qC [2, 3, 8, 9] ?_
  refine gx ?_
  refine qB (qA rfl) rfl (qU rfl rfl rfl (r := ((k : Int) + 1)) (w64 (by omega) (by omega))) ?_
  iterate 2 refine gx ?_
  exact qc (k + 1) (by omega) (by omega) (qH (i := 2) rfl (qH (i := 3) rfl (qH (i := 8) rfl (qE (i := 9) rfl (by first | omega | rfl) (qK))))) (fun w h => h)
 ·obtain rfl : k = 8 := by omega
  have Dl := digB_len st 8
  generalize hD : digB st 8 = D at Dl ⊢
  iterate 7 refine gx ?_
  refine qB (qA rfl) rfl (qh rfl agg23 size23 rfl (vs := D.map (int .u8)) (by simp [Dl]) (qZ (i := 0) (ent := ⟨g2, 23, D.map (int .u8), 32⟩) rfl rfl rfl)) ?_
  refine qz (qA rfl) rfl rfl size23 rfl (vs := D.map (int .u8)) rfl (by simp [Dl]) qk (i := 1) (ent := ⟨g1, 23, (List.replicate 32 0).map (int .u8), 32⟩) rfl rfl (by simp []) (H' := [⟨g2, 23, D.map (int .u8), 32⟩, ⟨g1, 23, D.map (int .u8), 32⟩]) rfl ?_
  iterate 3 refine gx ?_
  exact qn rfl agg23 size23 rfl (vs := D.map (int .u8)) (by simp [Dl]) (qZ (i := 1) (ent := ⟨g1, 23, D.map (int .u8), 32⟩) rfl rfl rfl) (fun w hs => ⟨rfl, hs.dp⟩)
def zerosN (n : Nat) : Nat := (119 - n % 64) % 64
def endB (n : Nat) : Nat → List Int
 | 0 => (List.replicate (zerosN n + 9) 0).set 0 128
 | k + 1 => (endB n k).set (zerosN n + k + 1) (IntKind.u8.wrap (shrI .u64 (mulW .u64 n 8) (56 - 8 * k)))
theorem endB_len (n : Nat) : ∀ k, (endB n k).length = zerosN n + 9
 | 0 => by simp [endB]
 | k + 1 => by simp [endB, endB_len n k]
theorem zerosN_int (n : Nat) : (119 - (n : Int) % 64) % 64 = zerosN n := by unfold zerosN; omega
theorem zerosN_lt (n : Nat) : zerosN n < 64 := by unfold zerosN; omega
theorem ending_c (n : Nat) (w : World) (hn : n ≤ 4611686018427387903) : Calls Tryz.prog 95 #[.int .i64 (n : Int)] w fun e w' => ∃ g, e = .returned (.slice (some ⟨g, 0, none⟩) (zerosN n + 9) (zerosN n + 9)) ∧ w.heap.size ≤ g ∧ St w [⟨g, 5, (endB n 8).map (int .u8), zerosN n + 9⟩] w' := by
 have hz := zerosN_lt n
 refine qP (args := [.int .i64 (n : Int)]) Tryz.func95 rfl Tryz.ntmps95 (by simp) ?_
 refine qC [0] ?_
 iterate 8 refine gx ?_
 refine qB (qA rfl) rfl (Gets.rem rfl rfl rfl (by omega) (r := ((n : Int) % 64)) (tmod_pos (by omega) rfl)) ?_
 refine qB (qA rfl) rfl (qu rfl rfl rfl (r := (119 - ((n : Int) % 64))) (w64 (by omega) (by omega))) ?_
 refine qB (qA rfl) rfl (Gets.rem rfl rfl rfl (by omega) (r := (zerosN n : Int)) (tmod_pos (by omega) (zerosN_int n))) ?_
 iterate 6 refine gx ?_
 refine qB (qA rfl) rfl (qU rfl rfl rfl (r := ((zerosN n : Int) + 1)) (w64 (by omega) (by omega))) ?_
 refine gx ?_
 refine qB (qA rfl) rfl (qU rfl rfl rfl (r := ((zerosN n : Int) + 1)) (w64 (by omega) (by omega))) ?_
 refine qB (qA rfl) rfl (qU rfl rfl rfl (r := ((zerosN n : Int) + 9)) (w64 (by omega) (by omega))) ?_
 refine TL.makeSlice1 (qA rfl) rfl rfl Tryz.underlying22 mk5 rfl rfl rfl (ln := ((zerosN n) + 1)) (cp := ((zerosN n) + 9)) (by omega) (by omega) (by omega) (by omega) (by omega) (fun g1 hg1 => ?_)
 rw [show List.replicate ((zerosN n) + 9) (.int .u8 0) = (List.replicate ((zerosN n) + 9) 0).map (int .u8) from (List.map_replicate ..).symm]
 iterate 3 refine gx ?_
 refine qC [0, 2, 4] ?_
 iterate 3 refine gx ?_
 refine qB (qA rfl) rfl (qW rfl Tryz.underlying22 size5 rfl rfl (i := 0) (by rfl) (by omega) (off' := 0) (by omega)) ?_
 refine qy (qA rfl) rfl rfl size5 rfl rfl rfl (i := 0) rfl rfl (by simp [] <;> omega) (cs' := (endB n 0).map (int .u8)) (ints_set) (H' := [⟨g1, 5, (endB n 0).map (int .u8), ((zerosN n) + 9)⟩]) rfl ?_
 iterate 5 refine gx ?_
 refine qB (qA rfl) rfl (qv rfl Tryz.underlying3 Tryz.underlying73 rfl (r := (n : Int)) (wu64 rfl (by omega))) ?_
 refine qB (qA rfl) rfl (Gets.mulU rfl rfl rfl) ?_
 iterate 3 refine gx ?_
 refine qC [2, 4, 5] ?_
 iterate 7 refine gx ?_
 refine qe (ι := Nat) (fun k => [(4, .slice (some ⟨g1, 0, none⟩) ((zerosN n) + k + 1) ((zerosN n) + 9)), (5, .int .u64 (mulW .u64 (n : Int) 8)), (6, .int .i64 (56 - 8 * (k : Int)))]) (fun k => [⟨g1, 5, (endB n k).map (int .u8), (zerosN n + 9)⟩]) (fun k => 8 - k) (fun k => k ≤ 8) 0 (by omega) (qL (i := 4) rfl rfl (by first | omega | (dsimp only; omega) | rfl) (by first | omega | (dsimp only; omega) | rfl) (qE (i := 5) rfl (by first | rfl | omega) (qE (i := 6) rfl (by first | omega | rfl) (qK)))) (fun w h => h) (fun k hC0 => ?_)
 iterate 7 refine gx ?_
 refine qQ rfl (fun h0 => ?_) (fun h0 => ?_)
 ·iterate 8 refine gx ?_
  refine qB (qA rfl) rfl (zI rfl rfl rfl (by omega) (r := (shrI .u64 (mulW .u64 (n : Int) 8) (56 - 8 * (k : Int)))) rfl) ?_
  refine qB (qA rfl) rfl (qv rfl Tryz.underlying73 Tryz.underlying5 rfl (r := (IntKind.u8.wrap (shrI .u64 (mulW .u64 (n : Int) 8) (56 - 8 * (k : Int))))) rfl) ?_
  refine zF (qA rfl) rfl rfl Tryz.underlying22 size5 zero5 rfl (by decide) (by decide) (cells := #[.int .u8 (IntKind.u8.wrap (shrI .u64 (mulW .u64 (n : Int) 8) (56 - 8 * (k : Int))))]) (tot := 1) (by kernel_rfl) (cs := [.int .u8 (IntKind.u8.wrap (shrI .u64 (mulW .u64 (n : Int) 8) (56 - 8 * (k : Int))))]) rfl rfl (fun g2 hg2 => ?_)
  refine TL.append1 (qA rfl) rfl rfl Tryz.underlying22 size5 rfl rfl (i := 1) (j := 0) rfl rfl rfl rfl rfl (by omega) (by simp [(endB_len n k)] <;> omega) (cs' := ((endB n k).set ((zerosN n) + k + 1) (IntKind.u8.wrap (shrI .u64 (mulW .u64 (n : Int) 8) (56 - 8 * (k : Int))))).map (int .u8)) (ints_set) (H' := [⟨g2, 5, [int .u8 (IntKind.u8.wrap (shrI .u64 (mulW .u64 (n : Int) 8) (56 - 8 * (k : Int))))], 1⟩, ⟨g1, 5, ((endB n k).set ((zerosN n) + k + 1) (IntKind.u8.wrap (shrI .u64 (mulW .u64 (n : Int) 8) (56 - 8 * (k : Int))))).map (int .u8), (zerosN n + 9)⟩]) rfl (ln' := ((zerosN n) + k + 2)) (by omega) ?_
  iterate 4 refine gx ?_
  refine qC [4, 5, 6] ?_
  iterate 2 refine gx ?_
  refine qB (qA rfl) rfl (qu rfl rfl rfl (r := (48 - 8 * (k : Int))) (w64 (by omega) (by omega))) ?_
  iterate 2 refine gx ?_
  exact qc (k + 1) (by omega) (by omega) (qL (i := 4) rfl rfl (by first | omega | (dsimp only; omega) | rfl) (by first | omega | (dsimp only; omega) | rfl) (qE (i := 5) rfl (by first | rfl | omega) (qE (i := 6) rfl (by first | omega | rfl) (qK)))) (fun w h => h.drop (by assumption))
 ·obtain rfl : k = 8 := by omega
  have El := endB_len n 8
  generalize hE : endB n 8 = E at El ⊢
  iterate 12 refine gx ?_
  exact qN rfl rfl (fun w hs => ⟨g1, rfl, hg1, hs⟩)
/-
 Contracts of package sha: the message by its blocks; New, Len, Clone.
-/
theorem agg137 : (isAgg 137).run Tryz.prog = fun w => .ok true w := isAgg_yes Tryz.underlying137 rfl
theorem size137 : (Tryz.prog.info? 137).map (·.size) = some 8 := by kernel_rfl
def blk (M : List Int) (i : Nat) : List Int := (M.drop (64 * i)).take 64
def cmp (M : List Int) : Nat → List Int
 | 0 => IV
 | i + 1 => mixS (cmp M i) (blk M i)
theorem cmp_succ (M : List Int) (i : Nat) : cmp M (i + 1) = mixS (cmp M i) (blk M i) := rfl
theorem cmp_len (M : List Int) : ∀ i, (cmp M i).length = 8
 | 0 => rfl
 | i + 1 => mixS_len (cmp_len M i)
theorem blk_app (M P : List Int) (i : Nat) (h : 64 * i + 64 ≤ M.length) : blk (M ++ P) i = blk M i := by
 unfold blk
 rw [List.drop_append_of_le_length (by omega), List.take_append_of_le_length (by simp; omega)]
theorem cmp_app (M P : List Int) : ∀ i, 64 * i ≤ M.length → cmp (M ++ P) i = cmp M i
 | 0, _ => rfl
 | i + 1, h => by unfold cmp; rw [cmp_app M P i (by omega), blk_app M P i (by omega)]
theorem blk_get (M : List Int) (i j : Nat) (h : j < 64) : (blk M i).getD j 0 = M.getD (64 * i + j) 0 := by
 unfold blk; simp [List.getD_eq_getElem?_getD, List.getElem?_take, h]
theorem app_get1 (M P : List Int) (j : Nat) (h : j < M.length) : (M ++ P).getD j 0 = M.getD j 0 := by
 simp [List.getD_eq_getElem?_getD, List.getElem?_append, h]
theorem app_get2 (M P : List Int) (j : Nat) (h : M.length ≤ j) : (M ++ P).getD j 0 = P.getD (j - M.length) 0 := by
 simp [List.getD_eq_getElem?_getD, List.getElem?_append, show ¬ j < M.length by omega]
theorem drop_get (P : List Int) (q j : Nat) : (P.drop q).getD j 0 = P.getD (q + j) 0 := by simp [List.getD_eq_getElem?_getD]
theorem take_get (P : List Int) (q j : Nat) (h : j < q) : (P.take q).getD j 0 = P.getD j 0 := by simp [List.getD_eq_getElem?_getD, List.getElem?_take, h]
theorem IV_len : IV.length = 8 := rfl
def HashOK (M st rs : List Int) : Prop := st = cmp M (M.length / 64) ∧ rs.length = 64 ∧ ∀ j, j < M.length % 64 → rs.getD j 0 = M.getD (64 * (M.length / 64) + j) 0
theorem HashOK.len {M st rs : List Int} (h : HashOK M st rs) : st.length = 8 := by rw [h.1]; exact cmp_len ..
theorem HashOK.rlen {M st rs : List Int} (h : HashOK M st rs) : rs.length = 64 := h.2.1
theorem hash_nil : HashOK [] IV (List.replicate 64 0) := ⟨rfl, by simp, fun j hj => by simp at hj⟩
def splice (rs : List Int) (o : Nat) (X : List Int) : List Int := rs.take o ++ X ++ rs.drop (o + X.length)
theorem splice_len {rs X : List Int} {o : Nat} (h : o + X.length ≤ rs.length) : (splice rs o X).length = rs.length := by unfold splice; simp; omega
theorem splice_get {rs X : List Int} {o j : Nat} (h : o + X.length ≤ rs.length) : (splice rs o X).getD j 0 = if j < o then rs.getD j 0 else if j < o + X.length then X.getD (j - o) 0 else rs.getD j 0 := by
 unfold splice
 have ho : (rs.take o).length = o := by simp; omega
 by_cases h1 : j < o
 ·rw [if_pos h1, List.append_assoc, app_get1 _ _ _ (by omega), take_get _ _ _ h1]
 ·rw [if_neg h1]
  by_cases h2 : j < o + X.length
  ·rw [if_pos h2, app_get1 _ _ _ (by simp; omega), app_get2 _ _ _ (by omega), ho]
  ·rw [if_neg h2, app_get2 _ _ _ (by simp; omega), drop_get]
   congr 1
   simp; omega
theorem hash_short {M P st rs : List Int} (h : HashOK M st rs) (hm : M.length % 64 + P.length < 64) : HashOK (M ++ P) st (splice rs (M.length % 64) P) := by
 obtain ⟨h1, h2, h3⟩ := h
 have hd : (M ++ P).length / 64 = M.length / 64 := by simp; omega
 refine ⟨by rw [hd, cmp_app _ _ _ (by omega)]; exact h1, by rw [splice_len (by omega)]; exact h2, fun j hj => ?_⟩
 rw [hd, splice_get (by omega)]
 have hj2 : j < M.length % 64 + P.length := by simp at hj; omega
 by_cases h4 : j < M.length % 64
 ·rw [if_pos h4, h3 j h4, app_get1 _ _ _ (by omega)]
 ·rw [if_neg h4, if_pos hj2, app_get2 _ _ _ (by omega)]
  congr 1; omega
theorem hash_full {M P st rs : List Int} (h : HashOK M st rs) {c : Nat} (hk : 0 < M.length % 64) (hc : M.length % 64 + c = 64) (hcp : c ≤ P.length) : st = cmp (M ++ P) (M.length / 64) ∧ ∀ j, j < 64 → (splice rs (M.length % 64) (P.take c)).getD j 0 = (blk (M ++ P) (M.length / 64)).getD j 0 := by
 obtain ⟨h1, h2, h3⟩ := h
 have hl : (P.take c).length = c := by simp; omega
 refine ⟨by rw [cmp_app _ _ _ (by omega)]; exact h1, fun j hj => ?_⟩
 rw [blk_get _ _ _ hj, splice_get (by omega), hl]
 by_cases h4 : j < M.length % 64
 ·rw [if_pos h4, h3 j h4, app_get1 _ _ _ (by omega)]
 ·rw [if_neg h4, if_pos (by omega), app_get2 _ _ _ (by omega), take_get _ _ _ (by omega)]
  congr 1; omega
theorem blk_drop {M P : List Int} {q j : Nat} (hq : (M.length + q) % 64 = 0) (hj : j < 64) : (P.drop q).getD j 0 = (blk (M ++ P) ((M.length + q) / 64)).getD j 0 := by
 rw [blk_get _ _ _ hj, drop_get, app_get2 _ _ _ (by omega)]; congr 1; omega
theorem hash_end {M P rs : List Int} {q : Nat} (hq : (M.length + q) % 64 = 0) (hqm : q ≤ P.length) (hl : P.length - q < 64) (hr : rs.length = 64) : HashOK (M ++ P) (cmp (M ++ P) ((M.length + q) / 64)) (splice rs 0 (P.drop q)) := by
 have hd : (M ++ P).length / 64 = (M.length + q) / 64 := by simp; omega
 have hl2 : (P.drop q).length = P.length - q := by simp
 refine ⟨by rw [hd], by rw [splice_len (by omega)]; exact hr, fun j hj => ?_⟩
 have hj2 : j < P.length - q := by simp at hj; omega
 rw [hd, splice_get (by omega), if_neg (by omega), if_pos (by omega), Nat.sub_zero, drop_get, app_get2 _ _ _ (by omega)]
 congr 1; omega
attribute [irreducible] cmp splice HashOK
theorem rowI_row {w : World} {b off n : Nat} {kd : IntKind} {B : List Int} (hn : B.length = n) (h : RowI w b off n kd B) (j : Nat) (u : Value) (hu : (B.map (int kd))[j]? = some u) : w.cell? ⟨b, off + j, none⟩ = some u := by
 simp only [List.getElem?_map] at hu
 by_cases hj : j < B.length
 ·rw [h j (by omega)]; simpa [hj] using hu
 ·simp [hj] at hu
theorem new_c (w : World) (h0 : 0 < w.heap.size) (hIV : RowI w 0 0 8 .u32 IV) : Calls Tryz.prog 65 #[] w fun e w' => ∃ g, e = .returned (.pointer (some ⟨g, 0, none⟩)) ∧ w.heap.size ≤ g ∧ St w [⟨g, 141, IV.map (int .u32) ++ ((List.replicate 64 0).map (int .u8) ++ ([int .i64 0])), 73⟩] w' := by
 refine qP (args := []) Tryz.func65 rfl Tryz.ntmps65 (by simp) ?_
 refine qC [] ?_
 iterate 7 refine gx ?_
 refine qB (qA rfl) rfl (qh rfl agg137 size137 rfl (vs := IV.map (int .u32)) rfl (Row.old (rowI_row rfl hIV) h0 qF)) ?_
 refine qB (qA rfl) rfl (qm rfl (vs := [(0, .agg (IV.map (int .u32)).toArray)]) rfl (fun w => by kernel_rfl) (v := .agg (IV.map (int .u32) ++ ((List.replicate 64 0).map (int .u8) ++ ([int .i64 0]))).toArray)) ?_
 refine TL.box (qA rfl) rfl rfl rfl (cs := IV.map (int .u32) ++ ((List.replicate 64 0).map (int .u8) ++ ([int .i64 0]))) (by simp [Value.cells]) (tot := 73) (by simp [IV_len]) (fun g1 hg1 => ?_)
 iterate 4 refine gx ?_
 exact qN rfl rfl (fun w hs => ⟨g1, rfl, hg1, hs⟩)
/-
 Contract of package sha: take.
-/
theorem agg3 : (isAgg 3).run Tryz.prog = fun w => .ok false w := isAgg_no Tryz.underlying3 rfl
theorem enters113 : Enters Tryz.prog 113 := ⟨_, Tryz.func113, by kernel_rfl, by kernel_rfl⟩
theorem size139 : (Tryz.prog.info? 139).map (·.size) = some 64 := by kernel_rfl
theorem size3 : (Tryz.prog.info? 3).map (·.size) = some 1 := by kernel_rfl
instance : Fld Tryz.prog 141 1 8 := ⟨⟨_, _, _, Tryz.underlying141, rfl, size139, rfl⟩⟩
instance : Fld Tryz.prog 141 2 72 := ⟨⟨_, _, _, Tryz.underlying141, rfl, size3, rfl⟩⟩
instance : Sli Tryz.prog 22 5 := ⟨Tryz.underlying22⟩
structure TI where
 q : Nat
 A : Option Addr
 c : Nat
theorem splice_is {A T : List Value} {rs P : List Int} {o q f : Nat} (hf : f = 8 + o) (ha : A.length = 8) (hq : q ≤ P.length) (ho : o + q ≤ rs.length) :
  (A ++ (rs.map (int .u8) ++ T)).take f ++ (P.take q).map (int .u8) ++ (A ++ (rs.map (int .u8) ++ T)).drop (f + q) = A ++ ((splice rs o (P.take q)).map (int .u8) ++ T) := by
 subst hf
 have hl : (P.take q).length = q := by simp; omega
 rw [splice_mid ha ho]
 unfold splice
 rw [hl]
theorem splice_lenq {rs P : List Int} {o q : Nat} (h : rs.length = 64) (hq : q ≤ P.length) (ho : o + q ≤ 64) : (splice rs o (P.take q)).length = 64 := by
 have hl : (P.take q).length = q := by simp; omega
 rw [splice_len (by omega), h]
theorem take_short {M P st rs : List Int} {n m o q : Nat} (hk : HashOK M st rs) (hM : M.length = n) (ho : o = n % 64) (hq : q = min m (64 - o)) (hm : P.length = m) (hlt : (o : Int) + q < 64) : HashOK (M ++ P) st (splice rs o (P.take q)) := by
 subst hM
 have hqm : q = m := by omega
 rw [List.take_of_length_le (by omega), ho]
 exact hash_short hk (by omega)
theorem take_full {M P st rs : List Int} {n m o q : Nat} (hk : HashOK M st rs) (hM : M.length = n) (ho : o = n % 64) (hq : q = min m (64 - o)) (hm : P.length = m) (h0 : (0 : Int) < o) (hlt : ¬ (o : Int) + q < 64) :
  mixS st (blk (M ++ P) (n / 64)) = cmp (M ++ P) ((n + q) / 64) ∧ ∀ j, j < 64 → (splice rs o (P.take q)).getD j 0 = (blk (M ++ P) (n / 64)).getD j 0 := by
 subst hM
 obtain ⟨h1, h2⟩ := hash_full (P := P) (c := q) hk (by omega) (by omega) (by omega)
 refine ⟨?_, by rw [ho]; exact h2⟩
 have : (M.length + q) / 64 = M.length / 64 + 1 := by omega
 rw [this, h1, cmp_succ]
theorem take_round {M P : List Int} {n k : Nat} : mixS (cmp (M ++ P) ((n + k) / 64)) (blk (M ++ P) ((n + k) / 64)) = cmp (M ++ P) ((n + (k + 64)) / 64) := by
 have : (n + (k + 64)) / 64 = (n + k) / 64 + 1 := by omega
 rw [this, cmp_succ]
theorem take_end {M P rs : List Int} {n m k : Nat} (hM : M.length = n) (hm : P.length = m) (hC1 : (n + k) % 64 = 0) (hC2 : k ≤ m) (hlt : ¬ (64 : Int) ≤ ((m - k : Nat) : Int)) (hr : rs.length = 64) : HashOK (M ++ P) (cmp (M ++ P) ((n + k) / 64)) (splice rs 0 ((P.drop k).take (m - k))) := by
 subst hM; subst hm
 rw [List.take_of_length_le (by simp)]
 exact hash_end hC1 hC2 (by omega) hr
theorem hash_st {M P st rs : List Int} {n : Nat} (hk : HashOK M st rs) (hM : M.length = n) : st = cmp (M ++ P) ((n + 0) / 64) := by
 subst hM; rw [Nat.add_zero, cmp_app _ _ _ (by omega)]
 unfold HashOK at hk; exact hk.1
theorem ne_of_ne {w : World} {e : Ent} {g : Nat} (hg : e.g = g) : ∀ b, b < w.heap.size → b ≠ g → ∀ d ∈ [e], d.g ≠ b := by
 intro b _ hne d hd
 simp only [List.mem_singleton] at hd
 subst hd
 rw [hg]; exact fun h => hne h.symm
theorem next_src {w : World} {g m k d : Nat} {A : Option Addr} {P : List Int} (h : SrcN w g A (m - k) .u8 (P.drop k)) (h1 : 64 ≤ m - k) (h2 : m - k ≤ d) : SrcN w g (cutA A d 64 1) (m - (k + 64)) .u8 (P.drop (k + 64)) := by
 have := h.drop (l := 64) h1 h2
 rw [List.drop_drop] at this
 rwa [show m - k - 64 = m - (k + 64) by omega] at this
theorem fst_src {w : World} {g m c q : Nat} {A : Option Addr} {P : List Int} (h : SrcN w g A m .u8 P) (h1 : q ≤ m) (h2 : m ≤ c) : SrcN w g (cutA A c q 1) (m - q) .u8 (P.drop q) := h.drop h1 h2
theorem take_c (M P st rs : List Int) (n g : Nat) (A : Option Addr) (m c : Nat) (w : World) (hk : HashOK M st rs) (hM : M.length = n) (hst : st.length = 8) (hrs : rs.length = 64) (hl : Ent.lies ⟨g, 141, st.map (int .u32) ++ (rs.map (int .u8) ++ ([int .i64 (n : Int)])), 73⟩ w) (hsrc : SrcN w g A m .u8 P) (hmc : m ≤ c) (hn : n + m ≤ 4611686018427387903) (hb1 : 2 < w.heap.size) (hg1 : g ≠ 2) (hK : RowI w 2 0 64 .u32 KT) : Calls Tryz.prog 94 #[.pointer (some ⟨g, 0, none⟩), .slice A m c] w fun e w' => e = .returned (.tuple #[]) ∧ ∃ st' rs', HashOK (M ++ P) st' rs' ∧ St w [⟨g, 141, (st').map (int .u32) ++ ((rs').map (int .u8) ++ ([int .i64 ((n : Int) + (m : Int))])), 73⟩] w' := by
 have hg : g < w.heap.size := hl.lt
 obtain ⟨o, ho⟩ : ∃ o, o = n % 64 := ⟨_, rfl⟩
 refine qP (args := [.pointer (some ⟨g, 0, none⟩), .slice A m c]) Tryz.func94 rfl Tryz.ntmps94 (by simp) ?_
 refine qC [0, 1] ?_
 refine TC.heap (H' := [⟨g, 141, st.map (int .u32) ++ (rs.map (int .u8) ++ ([int .i64 (n : Int)])), 73⟩]) (fun w hs => hs.take hl qF) ?_
 iterate 3 refine gx ?_
 refine qB (qA rfl) rfl (qf rfl rfl) ?_
 refine gx ?_
 refine qB (qA rfl) rfl (qJ rfl agg3 rfl (qO (i := 0) (ent := ⟨g, 141, st.map (int .u32) ++ (rs.map (int .u8) ++ ([int .i64 (n : Int)])), 73⟩) (off := 72) rfl rfl (by exact app_right (a := 8) (i := 64) (ints_len hst) (app_right (a := 64) (i := 0) (ints_len hrs) (rfl))))) ?_
 refine qB (qA rfl) rfl (Gets.rem rfl rfl rfl (by omega) (r := (o : Int)) (tmod_pos (by omega) (by omega))) ?_
 iterate 6 refine gx ?_
 refine qB (qA rfl) rfl (qf rfl rfl) ?_
 refine gx ?_
 refine qB (qA rfl) rfl (qJ rfl agg3 rfl (qO (i := 0) (ent := ⟨g, 141, st.map (int .u32) ++ (rs.map (int .u8) ++ ([int .i64 (n : Int)])), 73⟩) (off := 72) rfl rfl (by exact app_right (a := 8) (i := 64) (ints_len hst) (app_right (a := 64) (i := 0) (ints_len hrs) (rfl))))) ?_
 iterate 2 refine gx ?_
 refine qB (qA rfl) rfl (qU rfl rfl rfl (r := ((n : Int) + (m : Int))) (w64 (by omega) (by omega))) ?_
 refine qB (qA rfl) rfl (qf rfl rfl) ?_
 refine gx ?_
 refine qy (qA rfl) rfl rfl size3 rfl rfl rfl (i := 0) rfl rfl (by simp [hst, hrs] <;> omega) (cs' := st.map (int .u32) ++ (rs.map (int .u8) ++ ([int .i64 ((n : Int) + (m : Int))]))) (set_right (a := 8) (i := 64) (ints_len hst) (set_right (a := 64) (i := 0) (ints_len hrs) (rfl))) (H' := [⟨g, 141, st.map (int .u32) ++ (rs.map (int .u8) ++ ([int .i64 ((n : Int) + (m : Int))])), 73⟩]) rfl ?_
 iterate 2 refine gx ?_
 refine qC [0, 1, 4] ?_
 iterate 7 refine gx ?_
 refine qQ rfl (fun h0 => ?_) (fun h0 => ?_)
 ·iterate 3 refine gx ?_
  refine qB (qA rfl) rfl (qf rfl rfl) ?_
  iterate 2 refine gx ?_
  refine qB (qA rfl) rfl (Gets.sliceA rfl Tryz.underlying139 size5 rfl (bnd.at_ (l := o) rfl (by omega)) bnd.dflt (by omega) (by omega) (A' := some ⟨g, (o + 8), none⟩) (cut_is (by omega) (by omega)) (ln := (64 - o)) (cp := (64 - o)) (by omega) (by omega)) ?_
  refine gx ?_
  obtain ⟨q, hq⟩ : ∃ q, q = min m (64 - o) := ⟨_, rfl⟩
  have hr1 : (splice rs o (P.take q)).length = 64 := splice_lenq hrs (by have := hsrc.1; omega) (by omega)
  refine TL.copy (qA rfl) rfl rfl Tryz.underlying22 size5 rfl rfl (i := 0) (ent := ⟨g, 141, st.map (int .u32) ++ (rs.map (int .u8) ++ ([int .i64 ((n : Int) + (m : Int))])), 73⟩) rfl rfl (by simp [hst, hrs] <;> omega) (kd := .u8) (B := P) (fun w hs => (hsrc.src hs (ne_of_ne rfl))) (c := q) (by omega) (cs' := st.map (int .u32) ++ ((splice rs o (P.take q)).map (int .u8) ++ ([int .i64 ((n : Int) + (m : Int))]))) (splice_is (rs := rs) (P := P) (o := o) (q := q) (by omega) (ints_len hst) (by have := hsrc.1; omega) (by rw [hrs]; omega)) (H' := [⟨g, 141, st.map (int .u32) ++ ((splice rs o (P.take q)).map (int .u8) ++ ([int .i64 ((n : Int) + (m : Int))])), 73⟩]) rfl ?_
  iterate 3 refine gx ?_
  refine qC [0, 1, 4, 5] ?_
  iterate 5 refine gx ?_
  refine qB (qA rfl) rfl (qU rfl rfl rfl (r := ((o : Int) + (q : Int))) (w64 (by omega) (by omega))) ?_
  iterate 3 refine gx ?_
  refine qQ rfl (fun h1 => ?_) (fun h1 => ?_)
  ·iterate 3 refine gx ?_
   exact TE.ret0 rfl (fun w hs => ⟨rfl, _, _, take_short hk hM ho hq hsrc.1 h1, hs⟩)
  ·iterate 3 refine gx ?_
   refine TC.draw (by kernel_rfl) ?_
   refine TF.seqL 7 (by kernel_rfl) ?_
   refine TS.gets (qA rfl) rfl (qV rfl rfl) ?_
   refine TS.gets (qA rfl) rfl (qf rfl rfl) ?_
   refine TS.gets (qA rfl) rfl (zN rfl Tryz.underlying141 rfl size138 rfl (off' := 0) (by first | rfl | omega)) ?_
   refine TS.gets (qA rfl) rfl (qV rfl rfl) ?_
   refine TS.gets (qA rfl) rfl (qf rfl rfl) ?_
   refine TS.gets (qA rfl) rfl (zN rfl Tryz.underlying141 rfl size139 rfl (off' := 8) (by first | rfl | omega)) ?_
   refine TS.gets (qA rfl) rfl (Gets.sliceA rfl Tryz.underlying139 size5 rfl bnd.dflt bnd.dflt (by omega) (by omega) (cutA_zero _ _ _) (ln := 64) (cp := 64) (by omega) (by omega)) ?_
   refine TS.done ?_
   refine TF.tailL (by kernel_rfl) ?_
   have hfull := take_full hk hM ho hq hsrc.1 h0 h1
   refine qr (ι := Unit) (V := fun _ => .tuple #[]) (R := fun _ => True) (H' := fun _ => [⟨g, 141, (cmp (M ++ P) ((n + q) / 64)).map (int .u32) ++ ((splice rs o (P.take q)).map (int .u8) ++ ([int .i64 ((n : Int) + (m : Int))])), 73⟩]) (qA rfl) rfl enters113 rfl rfl (fun w hs => (mix_c st (blk (M ++ P) (n / 64)) ((splice rs o (P.take q)).map (int .u8) ++ ([int .i64 ((n : Int) + (m : Int))])) g 141 73 g 8 64 w hst (hs.has (⟨g, 141, st.map (int .u32) ++ ((splice rs o (P.take q)).map (int .u8) ++ ([int .i64 ((n : Int) + (m : Int))])), 73⟩) (List.mem_singleton.2 rfl)) (hs.has (⟨g, 141, st.map (int .u32) ++ ((splice rs o (P.take q)).map (int .u8) ++ ([int .i64 ((n : Int) + (m : Int))])), 73⟩) (List.mem_singleton.2 rfl)).lt (fun j hj => by rw [← hfull.2 j hj]; exact (hs.has (⟨g, 141, st.map (int .u32) ++ ((splice rs o (P.take q)).map (int .u8) ++ ([int .i64 ((n : Int) + (m : Int))])), 73⟩) (List.mem_singleton.2 rfl)).cell (app_right (a := 8) (ints_len hst) (app_left (qS (kd := .u8) (by rw [hr1]; omega))))) (by omega) (Nat.lt_of_lt_of_le hb1 hs.size) hg1 (hK.keepH hs hb1 (qD (by show g ≠ 2; exact hg1) qF))).mono fun e w' ⟨he, hw⟩ => ⟨(), he, trivial, by rw [hfull.1] at hw; exact hs.turn (i := 0) rfl rfl hw⟩) (fun _ _ => ?_)
   iterate 2 refine gx ?_
   refine qC [0, 1, 5] ?_
   iterate 3 refine gx ?_
   refine qB (qA rfl) rfl (zG rfl Tryz.underlying22 size5 rfl (bnd.at_ (l := q) rfl (by omega)) bnd.dflt (by omega) (by omega) rfl (ln := (m - q)) (cp := (c - q)) (by omega) (by omega)) ?_
   iterate 5 refine gx ?_
   refine qe (ι := TI) (fun x => [(0, .pointer (some ⟨g, 0, none⟩)), (1, .slice x.A (m - x.q) x.c)]) (fun x => [⟨g, 141, (cmp (M ++ P) ((n + x.q) / 64)).map (int .u32) ++ ((splice rs o (P.take q)).map (int .u8) ++ ([int .i64 ((n : Int) + (m : Int))])), 73⟩]) (fun x => m - x.q) (fun x => (n + x.q) % 64 = 0 ∧ x.q ≤ m ∧ SrcN w g x.A (m - x.q) .u8 (P.drop x.q) ∧ m - x.q ≤ x.c) (⟨q, cutA A c q 1, c - q⟩ : TI) ⟨by show (n + q) % 64 = 0; omega, by show q ≤ m; omega, fst_src hsrc (by omega) hmc, by show m - q ≤ c - q; omega⟩ (qH (i := 0) rfl (qL (i := 1) rfl (by first | rfl | (congr 2; omega)) (by first | omega | (dsimp only; omega) | rfl) (by first | omega | (dsimp only; omega) | rfl) (qK))) (fun w h => h) (fun x hC0 => ?_)
   obtain ⟨k, E, d⟩ := x
   obtain ⟨hC1, hC2, hC3, hC4⟩ := hC0
   dsimp only at hC1 hC2 hC3 hC4 ⊢
   iterate 8 refine gx ?_
   refine qQ rfl (fun h2 => ?_) (fun h2 => ?_)
   ·obtain ⟨b, off, hE, hb, hbg, hrow⟩ := hC3.2.resolve_left (by omega)
    subst hE
    iterate 4 refine gx ?_
    refine TC.draw (by kernel_rfl) ?_
    refine TF.seqL 5 (by kernel_rfl) ?_
    refine TS.gets (qA rfl) rfl (qV rfl rfl) ?_
    refine TS.gets (qA rfl) rfl (qf rfl rfl) ?_
    refine TS.gets (qA rfl) rfl (zN rfl Tryz.underlying141 rfl size138 rfl (off' := 0) (by first | rfl | omega)) ?_
    refine TS.gets (qA rfl) rfl (qV rfl rfl) ?_
    refine TS.gets (qA rfl) rfl (zG rfl Tryz.underlying22 size5 rfl bnd.dflt (bnd.at_ (l := 64) rfl rfl) (by omega) (by omega) (cutA_zero _ _ _) (ln := 64) (cp := d) (by omega) (by omega)) ?_
    refine TS.done ?_
    refine TF.tailL (by kernel_rfl) ?_
    refine qr (ι := Unit) (V := fun _ => .tuple #[]) (R := fun _ => True) (H' := fun _ => [⟨g, 141, (cmp (M ++ P) ((n + (k + 64)) / 64)).map (int .u32) ++ ((splice rs o (P.take q)).map (int .u8) ++ ([int .i64 ((n : Int) + (m : Int))])), 73⟩]) (qA rfl) rfl enters113 rfl rfl (fun w hs => (mix_c (cmp (M ++ P) ((n + k) / 64)) (blk (M ++ P) ((n + k) / 64)) ((splice rs o (P.take q)).map (int .u8) ++ ([int .i64 ((n : Int) + (m : Int))])) g 141 73 b off d w (cmp_len _ _) (hs.has (⟨g, 141, (cmp (M ++ P) ((n + k) / 64)).map (int .u32) ++ ((splice rs o (P.take q)).map (int .u8) ++ ([int .i64 ((n : Int) + (m : Int))])), 73⟩) (List.mem_singleton.2 rfl)) (Nat.lt_of_lt_of_le hb hs.size) (fun j hj => ((hs.old_cell (ad := ⟨b, off + j, none⟩) hb (ne_of_ne rfl b hb hbg)).trans (hrow j (by omega))).trans (by rw [blk_drop (M := M) (P := P) (q := k) (by omega) hj]; simp only [hM])) (by omega) (Nat.lt_of_lt_of_le hb1 hs.size) hg1 (hK.keepH hs hb1 (qD (by show g ≠ 2; exact hg1) qF))).mono fun e w' ⟨he, hw⟩ => ⟨(), he, trivial, by rw [take_round] at hw; exact hs.turn (i := 0) rfl rfl hw⟩) (fun _ _ => ?_)
    iterate 2 refine gx ?_
    refine qC [0, 1] ?_
    iterate 2 refine gx ?_
    refine qB (qA rfl) rfl (zG rfl Tryz.underlying22 size5 rfl (bnd.at_ (l := 64) rfl rfl) bnd.dflt (by omega) (by omega) rfl (ln := (m - k - 64)) (cp := (d - 64)) (by omega) (by omega)) ?_
    iterate 3 refine gx ?_
    exact qc (⟨k + 64, cutA (some ⟨b, off, none⟩) d 64 1, d - 64⟩ : TI) (by show m - (k + 64) < m - k; omega) ⟨by show (n + (k + 64)) % 64 = 0; omega, by show k + 64 ≤ m; omega, next_src hC3 (by omega) (by omega), by show m - (k + 64) ≤ d - 64; omega⟩ (qH (i := 0) rfl (qL (i := 1) rfl (by first | rfl | (congr 2; omega)) (by first | omega | (dsimp only; omega) | rfl) (by first | omega | (dsimp only; omega) | rfl) (qK))) (fun w h => h)
   ·iterate 7 refine gx ?_
    refine qB (qA rfl) rfl (qf rfl rfl) ?_
    refine gx ?_
    refine qB (qA rfl) rfl (Gets.sliceA rfl Tryz.underlying139 size5 rfl bnd.dflt bnd.dflt (by omega) (by omega) (cutA_zero _ _ _) (ln := 64) (cp := 64) (by omega) (by omega)) ?_
    refine gx ?_
    have hr2 : (splice (splice rs o (P.take q)) 0 ((P.drop k).take (m - k))).length = 64 := splice_lenq hr1 (by simp [hsrc.1]) (by omega)
    refine TL.copy (qA rfl) rfl rfl Tryz.underlying22 size5 rfl rfl (i := 0) (ent := ⟨g, 141, (cmp (M ++ P) ((n + k) / 64)).map (int .u32) ++ ((splice rs o (P.take q)).map (int .u8) ++ ([int .i64 ((n : Int) + (m : Int))])), 73⟩) rfl rfl (by simp [(cmp_len _ _), hr1] <;> omega) (kd := .u8) (B := (P.drop k)) (fun w hs => (hC3.src hs (ne_of_ne rfl))) (c := (m - k)) (by omega) (cs' := (cmp (M ++ P) ((n + k) / 64)).map (int .u32) ++ ((splice (splice rs o (P.take q)) 0 ((P.drop k).take (m - k))).map (int .u8) ++ ([int .i64 ((n : Int) + (m : Int))]))) (splice_is (rs := (splice rs o (P.take q))) (P := (P.drop k)) (o := 0) (q := (m - k)) (by omega) (ints_len (cmp_len _ _)) (by simp [hsrc.1]) (by rw [hr1]; omega)) (H' := [⟨g, 141, (cmp (M ++ P) ((n + k) / 64)).map (int .u32) ++ ((splice (splice rs o (P.take q)) 0 ((P.drop k).take (m - k))).map (int .u8) ++ ([int .i64 ((n : Int) + (m : Int))])), 73⟩]) rfl ?_
    refine gx ?_
    exact TE.end0 rfl (fun w hs => ⟨rfl, _, _, take_end hM hsrc.1 hC1 hC2 (by assumption) hr1, hs⟩)
 ·iterate 4 refine gx ?_
  refine qe (ι := TI) (fun x => [(0, .pointer (some ⟨g, 0, none⟩)), (1, .slice x.A (m - x.q) x.c)]) (fun x => [⟨g, 141, (cmp (M ++ P) ((n + x.q) / 64)).map (int .u32) ++ (rs.map (int .u8) ++ ([int .i64 ((n : Int) + (m : Int))])), 73⟩]) (fun x => m - x.q) (fun x => (n + x.q) % 64 = 0 ∧ x.q ≤ m ∧ SrcN w g x.A (m - x.q) .u8 (P.drop x.q) ∧ m - x.q ≤ x.c) (⟨0, A, c⟩ : TI) ⟨by show (n + 0) % 64 = 0; omega, by show 0 ≤ m; omega, by show SrcN w g A (m - 0) .u8 (P.drop 0); simpa using hsrc, by show m - 0 ≤ c; omega⟩ (qH (i := 0) rfl (qL (i := 1) rfl (by first | rfl | (congr 2; omega)) (by first | omega | (dsimp only; omega) | rfl) (by first | omega | (dsimp only; omega) | rfl) (qK))) (fun w h => by show St _ [⟨g, _, List.map _ (cmp (M ++ P) ((n + 0) / 64)) ++ _, _⟩] w; rw [← hash_st hk hM]; exact h) (fun x hC1 => ?_)
  obtain ⟨k, E, d⟩ := x
  obtain ⟨hC1, hC2, hC3, hC4⟩ := hC1
  dsimp only at hC1 hC2 hC3 hC4 ⊢
  iterate 8 refine gx ?_
  refine qQ rfl (fun h3 => ?_) (fun h3 => ?_)
  ·obtain ⟨b, off, hE, hb, hbg, hrow⟩ := hC3.2.resolve_left (by omega)
   subst hE
   iterate 4 refine gx ?_
   refine TC.draw (by kernel_rfl) ?_
   refine TF.seqL 5 (by kernel_rfl) ?_
   refine TS.gets (qA rfl) rfl (qV rfl rfl) ?_
   refine TS.gets (qA rfl) rfl (qf rfl rfl) ?_
   refine TS.gets (qA rfl) rfl (zN rfl Tryz.underlying141 rfl size138 rfl (off' := 0) (by first | rfl | omega)) ?_
   refine TS.gets (qA rfl) rfl (qV rfl rfl) ?_
   refine TS.gets (qA rfl) rfl (zG rfl Tryz.underlying22 size5 rfl bnd.dflt (bnd.at_ (l := 64) rfl rfl) (by omega) (by omega) (cutA_zero _ _ _) (ln := 64) (cp := d) (by omega) (by omega)) ?_
   refine TS.done ?_
   refine TF.tailL (by kernel_rfl) ?_
   refine qr (ι := Unit) (V := fun _ => .tuple #[]) (R := fun _ => True) (H' := fun _ => [⟨g, 141, (cmp (M ++ P) ((n + (k + 64)) / 64)).map (int .u32) ++ (rs.map (int .u8) ++ ([int .i64 ((n : Int) + (m : Int))])), 73⟩]) (qA rfl) rfl enters113 rfl rfl (fun w hs => (mix_c (cmp (M ++ P) ((n + k) / 64)) (blk (M ++ P) ((n + k) / 64)) (rs.map (int .u8) ++ ([int .i64 ((n : Int) + (m : Int))])) g 141 73 b off d w (cmp_len _ _) (hs.has (⟨g, 141, (cmp (M ++ P) ((n + k) / 64)).map (int .u32) ++ (rs.map (int .u8) ++ ([int .i64 ((n : Int) + (m : Int))])), 73⟩) (List.mem_singleton.2 rfl)) (Nat.lt_of_lt_of_le hb hs.size) (fun j hj => ((hs.old_cell (ad := ⟨b, off + j, none⟩) hb (ne_of_ne rfl b hb hbg)).trans (hrow j (by omega))).trans (by rw [blk_drop (M := M) (P := P) (q := k) (by omega) hj]; simp only [hM])) (by omega) (Nat.lt_of_lt_of_le hb1 hs.size) hg1 (hK.keepH hs hb1 (qD (by show g ≠ 2; exact hg1) qF))).mono fun e w' ⟨he, hw⟩ => ⟨(), he, trivial, by rw [take_round] at hw; exact hs.turn (i := 0) rfl rfl hw⟩) (fun _ _ => ?_)
   iterate 2 refine gx ?_
   refine qC [0, 1] ?_
   iterate 2 refine gx ?_
   refine qB (qA rfl) rfl (zG rfl Tryz.underlying22 size5 rfl (bnd.at_ (l := 64) rfl rfl) bnd.dflt (by omega) (by omega) rfl (ln := (m - k - 64)) (cp := (d - 64)) (by omega) (by omega)) ?_
   iterate 3 refine gx ?_
   exact qc (⟨k + 64, cutA (some ⟨b, off, none⟩) d 64 1, d - 64⟩ : TI) (by show m - (k + 64) < m - k; omega) ⟨by show (n + (k + 64)) % 64 = 0; omega, by show k + 64 ≤ m; omega, next_src hC3 (by omega) (by omega), by show m - (k + 64) ≤ d - 64; omega⟩ (qH (i := 0) rfl (qL (i := 1) rfl (by first | rfl | (congr 2; omega)) (by first | omega | (dsimp only; omega) | rfl) (by first | omega | (dsimp only; omega) | rfl) (qK))) (fun w h => h)
  ·iterate 7 refine gx ?_
   refine qB (qA rfl) rfl (qf rfl rfl) ?_
   refine gx ?_
   refine qB (qA rfl) rfl (Gets.sliceA rfl Tryz.underlying139 size5 rfl bnd.dflt bnd.dflt (by omega) (by omega) (cutA_zero _ _ _) (ln := 64) (cp := 64) (by omega) (by omega)) ?_
   refine gx ?_
   have hr3 : (splice rs 0 ((P.drop k).take (m - k))).length = 64 := splice_lenq hrs (by simp [hsrc.1]) (by omega)
   refine TL.copy (qA rfl) rfl rfl Tryz.underlying22 size5 rfl rfl (i := 0) (ent := ⟨g, 141, (cmp (M ++ P) ((n + k) / 64)).map (int .u32) ++ (rs.map (int .u8) ++ ([int .i64 ((n : Int) + (m : Int))])), 73⟩) rfl rfl (by simp [(cmp_len _ _), hrs] <;> omega) (kd := .u8) (B := (P.drop k)) (fun w hs => (hC3.src hs (ne_of_ne rfl))) (c := (m - k)) (by omega) (cs' := (cmp (M ++ P) ((n + k) / 64)).map (int .u32) ++ ((splice rs 0 ((P.drop k).take (m - k))).map (int .u8) ++ ([int .i64 ((n : Int) + (m : Int))]))) (splice_is (rs := rs) (P := (P.drop k)) (o := 0) (q := (m - k)) (by omega) (ints_len (cmp_len _ _)) (by simp [hsrc.1]) (by rw [hrs]; omega)) (H' := [⟨g, 141, (cmp (M ++ P) ((n + k) / 64)).map (int .u32) ++ ((splice rs 0 ((P.drop k).take (m - k))).map (int .u8) ++ ([int .i64 ((n : Int) + (m : Int))])), 73⟩]) rfl ?_
   refine gx ?_
   exact TE.end0 rfl (fun w hs => ⟨rfl, _, _, take_end hM hsrc.1 hC1 hC2 (by assumption) hrs, hs⟩)
/-
 Contract of package sha: Write.
-/
theorem agg22 : (isAgg 22).run Tryz.prog = fun w => .ok false w := isAgg_no Tryz.underlying22 rfl
theorem enters94 : Enters Tryz.prog 94 := ⟨_, Tryz.func94, by kernel_rfl, by kernel_rfl⟩
theorem size22 : (Tryz.prog.info? 22).map (·.size) = some 1 := by kernel_rfl
instance : Sli Tryz.prog 65 22 := ⟨Tryz.underlying65⟩
theorem take_m (M P st rs : List Int) (g : Nat) (A : Option Addr) (m c : Nat) (w : World) (hk : HashOK M st rs) (hl : Ent.lies ⟨g, 141, st.map (int .u32) ++ (rs.map (int .u8) ++ ([int .i64 M.length])), 73⟩ w) (hsrc : SrcN w g A m .u8 P) (hmc : m ≤ c) (hn : M.length + m ≤ 4611686018427387903) (hb1 : 2 < w.heap.size) (hg1 : g ≠ 2) (hK : RowI w 2 0 64 .u32 KT) :
  Calls Tryz.prog 94 #[.pointer (some ⟨g, 0, none⟩), .slice A m c] w fun e w' => e = .returned (.tuple #[]) ∧ ∃ st' rs', HashOK (M ++ P) st' rs' ∧ St w [⟨g, 141, (st').map (int .u32) ++ ((rs').map (int .u8) ++ ([int .i64 ((M ++ P).length)])), 73⟩] w' :=
 (take_c M P st rs M.length g A m c w hk rfl hk.len hk.rlen hl hsrc hmc hn hb1 hg1 hK).mono fun e w' ⟨he, st', rs', h1, h2⟩ => ⟨he, st', rs', h1, by
  have : (((M ++ P).length : Nat) : Int) = (M.length : Int) + (m : Int) := by simp [hsrc.1]
  rw [this]; exact h2⟩
theorem SrcN.keep {w w' : World} {H : List Ent} {g m : Nat} {A : Option Addr} {kd : IntKind} {B : List Int} (h : SrcN w g A m kd B) (hs : St w H w') (hH : ∀ b, b < w.heap.size → b ≠ g → ∀ e ∈ H, e.g ≠ b) : SrcN w' g A m kd B := by
 obtain ⟨h1, h2⟩ := h
 refine ⟨h1, ?_⟩
 rcases h2 with h2 | ⟨b, off, hA, hb, hne, hr⟩
 ·exact .inl h2
 ·exact .inr ⟨b, off, hA, Nat.lt_of_lt_of_le hb hs.size, hne, fun j hj => (hs.old_cell (ad := ⟨b, off + j, none⟩) hb (hH b hb hne)).trans (hr j hj)⟩
def PartsN (w : World) (g : Nat) (A : Option Addr) (m : Nat) (Ps : List (List Int)) : Prop :=
 Ps.length = m ∧ (m = 0 ∨ ∃ b off, A = some ⟨b, off, none⟩ ∧ b < w.heap.size ∧ b ≠ g ∧ ∀ i, i < m → ∃ Ai mi ci, w.cell? ⟨b, off + i, none⟩ = some (.slice Ai mi ci) ∧ SrcN w g Ai mi .u8 (Ps.getD i []) ∧ mi ≤ ci)
theorem flat_le {Ps : List (List Int)} {i : Nat} (h : i < Ps.length) : (Ps.take i).flatten.length + (Ps.getD i []).length ≤ Ps.flatten.length := by
 have h1 := flat_succ h []
 simp only [List.nil_append] at h1
 have h2 : (Ps.take (i + 1)).flatten.length + (Ps.drop (i + 1)).flatten.length = Ps.flatten.length := by rw [← List.length_append, ← List.flatten_append, List.take_append_drop]
 rw [h1, List.length_append] at h2
 omega
structure WI where
 i : Nat
 st : List Int
 rs : List Int
theorem write_end {w0 w : World} {M st rs : List Int} {Ps : List (List Int)} {g m t tot : Nat} {A : Option Addr} (hP : PartsN w0 g A m Ps) (hk : HashOK (M ++ (Ps.take m).flatten) st rs) (hs : St w0 [⟨g, t, st.map (int .u32) ++ (rs.map (int .u8) ++ [int .i64 ((M ++ (Ps.take m).flatten).length : Int)]), tot⟩] w) :
  Ending.returned (.int .i64 (((M ++ (Ps.take m).flatten).length : Int) - (M.length : Int))) = .returned (.int .i64 (Ps.flatten.length : Int)) ∧ ∃ st' rs', HashOK (M ++ Ps.flatten) st' rs' ∧ St w0 [⟨g, t, st'.map (int .u32) ++ (rs'.map (int .u8) ++ [int .i64 ((M ++ Ps.flatten).length : Int)]), tot⟩] w := by
 have : Ps.take m = Ps := List.take_of_length_le (by have := hP.1; omega)
 rw [this] at hk hs ⊢
 refine ⟨?_, st, rs, hk, hs⟩
 congr 2
 simp only [List.length_append]
 omega
theorem write_c (M st rs : List Int) (Ps : List (List Int)) (g : Nat) (A : Option Addr) (m c : Nat) (w : World) (hk : HashOK M st rs) (hst : st.length = 8) (hrs : rs.length = 64) (hl : Ent.lies ⟨g, 141, st.map (int .u32) ++ (rs.map (int .u8) ++ ([int .i64 (M.length : Int)])), 73⟩ w) (hP : PartsN w g A m Ps) (hmc : m ≤ c) (hcm : c ≤ 9223372036854775807) (hn : M.length + Ps.flatten.length ≤ 4611686018427387903) (hb1 : 2 < w.heap.size) (hg1 : g ≠ 2) (hK : RowI w 2 0 64 .u32 KT) : Calls Tryz.prog 66 #[.pointer (some ⟨g, 0, none⟩), .slice A m c] w fun e w' => e = .returned (.int .i64 (Ps.flatten.length : Int)) ∧ ∃ st' rs', HashOK (M ++ Ps.flatten) st' rs' ∧ St w [⟨g, 141, (st').map (int .u32) ++ ((rs').map (int .u8) ++ ([int .i64 ((M ++ Ps.flatten).length : Int)])), 73⟩] w' := by
 have hg : g < w.heap.size := hl.lt
 refine qP (args := [.pointer (some ⟨g, 0, none⟩), .slice A m c]) Tryz.func66 rfl Tryz.ntmps66 (by simp) ?_
 refine qC [0, 1] ?_
 refine TC.heap (H' := [⟨g, 141, st.map (int .u32) ++ (rs.map (int .u8) ++ ([int .i64 (M.length : Int)])), 73⟩]) (fun w hs => hs.take hl qF) ?_
 iterate 9 refine gx ?_
 refine qB (qA rfl) rfl (Gets.ptrNil rfl Tryz.underlying103 rfl rfl) ?_
 iterate 2 refine gx ?_
 refine ql rfl ?_
 iterate 5 refine gx ?_
 refine qB (qA rfl) rfl (qf rfl rfl) ?_
 refine gx ?_
 refine qB (qA rfl) rfl (qJ rfl agg3 rfl (qO (i := 0) (ent := ⟨g, 141, st.map (int .u32) ++ (rs.map (int .u8) ++ ([int .i64 (M.length : Int)])), 73⟩) (off := 72) rfl rfl (by exact app_right (a := 8) (i := 64) (ints_len hst) (app_right (a := 64) (i := 0) (ints_len hrs) (rfl))))) ?_
 iterate 3 refine gx ?_
 refine qC [0, 1, 4, 5] ?_
 iterate 9 refine gx ?_
 refine qe (ι := WI) (fun x => [(0, .pointer (some ⟨g, 0, none⟩)), (5, .int .i64 (M.length : Int)), (14, .slice A m c), (15, .int .i64 (m : Int)), (16, .int .i64 (x.i : Int))]) (fun x => [⟨g, 141, x.st.map (int .u32) ++ (x.rs.map (int .u8) ++ ([int .i64 ((M ++ (Ps.take x.i).flatten).length : Int)])), 73⟩]) (fun x => m - x.i) (fun x => x.i ≤ m ∧ HashOK (M ++ (Ps.take x.i).flatten) x.st x.rs) (⟨0, st, rs⟩ : WI) ⟨Nat.zero_le _, by simpa using hk⟩ (qH (i := 0) rfl (qE (i := 5) rfl (by first | rfl | omega) (qL (i := 14) rfl rfl (by first | omega | (dsimp only; omega) | rfl) (by first | omega | (dsimp only; omega) | rfl) (qE (i := 15) rfl (by first | omega | rfl) (qE (i := 16) rfl (by first | omega | rfl) (qK)))))) (fun w h => by simpa using h) (fun x hC0 => ?_)
 obtain ⟨i, st1, rs1⟩ := x
 obtain ⟨hC1, hC2⟩ := hC0
 dsimp only at hC1 hC2 ⊢
 have hstx := hC2.len
 have hrsx := hC2.rlen
 iterate 6 refine gx ?_
 refine qQ rfl (fun h1 => ?_) (fun h1 => ?_)
 ·obtain ⟨b, off, hE, hb, hbg, hcells⟩ := hP.2.resolve_left (by omega)
  subst hE
  obtain ⟨Ai, mi, ci, hci, hSi, hmi⟩ := hcells i (by omega)
  have hoff : off + i = (off + i) := rfl
  iterate 6 refine gx ?_
  refine qB (qA rfl) rfl (qW rfl Tryz.underlying65 size22 rfl rfl (i := i) (by omega) (by omega) (off' := (off + i)) (by omega)) ?_
  refine qB (qA rfl) rfl (qJ rfl agg22 rfl (qp (hoff ▸ hci) hb (qD (by show g ≠ b; exact fun h => hbg h.symm) qF))) ?_
  iterate 3 refine gx ?_
  refine qC [0, 5, 7, 14, 15, 16] ?_
  iterate 3 refine gx ?_
  refine qr (ι := List Int × List Int) (V := fun s => .tuple #[]) (R := fun s => HashOK (M ++ (Ps.take i).flatten ++ Ps.getD i []) s.1 s.2) (H' := fun s => [⟨g, 141, s.1.map (int .u32) ++ (s.2.map (int .u8) ++ ([int .i64 ((M ++ (Ps.take i).flatten ++ Ps.getD i []).length : Int)])), 73⟩]) (qA rfl) rfl enters94 rfl rfl (fun w hs => (take_m (M ++ (Ps.take i).flatten) (Ps.getD i []) st1 rs1 g Ai mi ci w hC2 (hs.has (⟨g, 141, st1.map (int .u32) ++ (rs1.map (int .u8) ++ ([int .i64 ((M ++ (Ps.take i).flatten).length : Int)])), 73⟩) (List.mem_singleton.2 rfl)) (hSi.keep hs (ne_of_ne rfl)) hmi (by have := flat_le (i := i) (Ps := Ps) (by have := hP.1; omega); have := hSi.1; simp only [List.length_append]; omega) (Nat.lt_of_lt_of_le hb1 hs.size) hg1 (hK.keepH hs hb1 (qD (by show g ≠ 2; exact hg1) qF))).mono fun e w' ⟨he, st', rs', h1, h2⟩ => ⟨(st', rs'), he, h1, hs.turn (i := 0) rfl rfl h2⟩) (fun s hs2 => ?_)
  iterate 3 refine gx ?_
  refine qC [0, 5, 14, 15, 16] ?_
  refine gx ?_
  refine qB (qA rfl) rfl (qU rfl rfl rfl (r := ((i : Int) + 1)) (w64 (by omega) (by omega))) ?_
  iterate 2 refine gx ?_
  exact qc (⟨i + 1, s.1, s.2⟩ : WI) (by show m - (i + 1) < m - i; omega) ⟨by show i + 1 ≤ m; omega, by show HashOK (M ++ (Ps.take (i + 1)).flatten) s.1 s.2; rw [flat_succ (by have := hP.1; omega)]; exact hs2⟩ (qH (i := 0) rfl (qE (i := 5) rfl (by first | rfl | omega) (qL (i := 14) rfl (by first | rfl | (congr 2; omega)) (by first | omega | (dsimp only; omega) | rfl) (by first | omega | (dsimp only; omega) | rfl) (qE (i := 15) rfl (by first | omega | rfl) (qE (i := 16) rfl (by first | omega | rfl) (qK)))))) (fun w h => by show St _ [⟨g, _, _ ++ (_ ++ [int .i64 ((M ++ (Ps.take (i + 1)).flatten).length : Int)]), _⟩] w; rw [flat_succ (by have := hP.1; omega)]; exact h)
 ·obtain rfl : m = i := by omega
  have hlen : (M ++ (Ps.take m).flatten).length = M.length + Ps.flatten.length := by rw [List.take_of_length_le (by have := hP.1; omega), List.length_append]
  iterate 8 refine gx ?_
  refine qB (qA rfl) rfl (qf rfl rfl) ?_
  refine gx ?_
  refine qB (qA rfl) rfl (qJ rfl agg3 rfl (qO (i := 0) (ent := ⟨g, 141, st1.map (int .u32) ++ (rs1.map (int .u8) ++ ([int .i64 ((M ++ (Ps.take m).flatten).length : Int)])), 73⟩) (off := 72) rfl rfl (by exact app_right (a := 8) (i := 64) (ints_len hstx) (app_right (a := 64) (i := 0) (ints_len hrsx) (rfl))))) ?_
  refine gx ?_
  refine qB (qA rfl) rfl (qu rfl rfl rfl (r := (((M ++ (Ps.take m).flatten).length : Int) - (M.length : Int))) (w64 (by omega) (by omega))) ?_
  iterate 4 refine gx ?_
  exact qN rfl rfl (fun w hs => write_end hP hC2 hs)
/-
 Contracts of package sha: Sum, Of.
-/
theorem agg141 : (isAgg 141).run Tryz.prog = fun w => .ok true w := isAgg_yes Tryz.underlying141 rfl
theorem enters65 : Enters Tryz.prog 65 := ⟨_, Tryz.func65, by kernel_rfl, by kernel_rfl⟩
theorem enters66 : Enters Tryz.prog 66 := ⟨_, Tryz.func66, by kernel_rfl, by kernel_rfl⟩
theorem enters67 : Enters Tryz.prog 67 := ⟨_, Tryz.func67, by kernel_rfl, by kernel_rfl⟩
theorem enters95 : Enters Tryz.prog 95 := ⟨_, Tryz.func95, by kernel_rfl, by kernel_rfl⟩
theorem enters96 : Enters Tryz.prog 96 := ⟨_, Tryz.func96, by kernel_rfl, by kernel_rfl⟩
theorem size141 : (Tryz.prog.info? 141).map (·.size) = some 73 := by kernel_rfl
theorem zero141 : (Tryz.prog.info? 141).bind (·.zero) = some (.agg #[.int .u32 0, .int .u32 0, .int .u32 0, .int .u32 0, .int .u32 0, .int .u32 0, .int .u32 0, .int .u32 0, .int .u8 0, .int .u8 0, .int .u8 0, .int .u8 0, .int .u8 0, .int .u8 0, .int .u8 0, .int .u8 0, .int .u8 0, .int .u8 0, .int .u8 0, .int .u8 0, .int .u8 0, .int .u8 0, .int .u8 0, .int .u8 0, .int .u8 0, .int .u8 0, .int .u8 0, .int .u8 0, .int .u8 0, .int .u8 0, .int .u8 0, .int .u8 0, .int .u8 0, .int .u8 0, .int .u8 0, .int .u8 0, .int .u8 0, .int .u8 0, .int .u8 0, .int .u8 0, .int .u8 0, .int .u8 0, .int .u8 0, .int .u8 0, .int .u8 0, .int .u8 0, .int .u8 0, .int .u8 0, .int .u8 0, .int .u8 0, .int .u8 0, .int .u8 0, .int .u8 0, .int .u8 0, .int .u8 0, .int .u8 0, .int .u8 0, .int .u8 0, .int .u8 0, .int .u8 0, .int .u8 0, .int .u8 0, .int .u8 0, .int .u8 0, .int .u8 0, .int .u8 0, .int .u8 0, .int .u8 0, .int .u8 0, .int .u8 0, .int .u8 0, .int .u8 0, .int .i64 0]) := by kernel_rfl
instance : Fld Tryz.prog 141 0 0 := ⟨⟨_, _, _, Tryz.underlying141, rfl, size138, rfl⟩⟩
def shaM (M : List Int) : List Int := digB (cmp (M ++ endB M.length 8) ((M ++ endB M.length 8).length / 64)) 8
attribute [irreducible] shaM
theorem sha_of {M st rs : List Int} (h : HashOK (M ++ endB M.length 8) st rs) : digB st 8 = shaM M := by
 unfold shaM
 unfold HashOK at h
 rw [← h.1]
theorem shaM_len (M : List Int) : (shaM M).length = 32 := by unfold shaM; exact digB_len _ _
theorem srcN_ent {w : World} {g ge t tot m : Nat} {W : List Int} {kd : IntKind} (hl : Ent.lies ⟨ge, t, W.map (int kd), tot⟩ w) (hW : W.length = m) (hne : ge ≠ g) : SrcN w g (some ⟨ge, 0, none⟩) m kd W :=
 ⟨hW, .inr ⟨ge, 0, rfl, hl.lt, hne, fun j hj => by rw [Nat.zero_add]; exact hl.cell (qS (by omega))⟩⟩
theorem sum_c (M st rs : List Int) (g : Nat) (w : World) (hk : HashOK M st rs) (hst : st.length = 8) (hrs : rs.length = 64) (hl : Ent.lies ⟨g, 141, st.map (int .u32) ++ (rs.map (int .u8) ++ ([int .i64 (M.length : Int)])), 73⟩ w) (hn : M.length ≤ 4611686018427387000) (hb1 : 2 < w.heap.size) (hK : RowI w 2 0 64 .u32 KT) : Calls Tryz.prog 67 #[.pointer (some ⟨g, 0, none⟩)] w fun e w' => e = .returned (.agg ((shaM M).map (int .u8)).toArray) ∧ St w [] w' := by
 have hg : g < w.heap.size := hl.lt
 have hz := zerosN_lt M.length
 refine qP (args := [.pointer (some ⟨g, 0, none⟩)]) Tryz.func67 rfl Tryz.ntmps67 (by simp) ?_
 refine qC [0] ?_
 iterate 2 refine gx ?_
 refine zK (qA rfl) rfl rfl zero23 (cs := (List.replicate 32 0).map (int .u8)) rfl (tot := 32) (by simp) (fun g1 hg1 => ?_)
 iterate 6 refine gx ?_
 refine qB (qA rfl) rfl (Gets.ptrNil rfl Tryz.underlying103 rfl rfl) ?_
 iterate 2 refine gx ?_
 refine ql rfl ?_
 iterate 5 refine gx ?_
 refine qB (qA rfl) rfl (qf rfl rfl) ?_
 refine qB (qA rfl) rfl (qh rfl agg141 size141 rfl (vs := st.map (int .u32) ++ (rs.map (int .u8) ++ ([int .i64 (M.length : Int)]))) (by simp [hst, hrs]) (Row.old (fun j u hu => by rw [Nat.zero_add]; exact hl.cell hu) hg (qD (by show g1 ≠ g; omega) qF))) ?_
 refine zK (qA rfl) rfl rfl zero141 (cs := (List.replicate 8 0).map (int .u32) ++ ((List.replicate 64 0).map (int .u8) ++ ([int .i64 0]))) rfl (tot := 73) (by simp) (fun g2 hg2 => ?_)
 refine qz (qA rfl) rfl rfl size141 rfl (vs := st.map (int .u32) ++ (rs.map (int .u8) ++ ([int .i64 (M.length : Int)]))) rfl (by simp [hst, hrs]) (zH qk (zH qk (by simp [Value.oneCell']))) (i := 0) (ent := ⟨g2, 141, (List.replicate 8 0).map (int .u32) ++ ((List.replicate 64 0).map (int .u8) ++ ([int .i64 0])), 73⟩) rfl rfl (by simp []) (H' := [⟨g2, 141, st.map (int .u32) ++ (rs.map (int .u8) ++ ([int .i64 (M.length : Int)])), 73⟩, ⟨g1, 23, (List.replicate 32 0).map (int .u8), 32⟩]) rfl ?_
 iterate 5 refine gx ?_
 refine qB (qA rfl) rfl (qf rfl rfl) ?_
 refine gx ?_
 refine qB (qA rfl) rfl (qJ rfl agg3 rfl (qp (hl.cell (app_right (a := 8) (i := 64) (ints_len hst) (app_right (a := 64) (i := 0) (ints_len hrs) rfl))) hg (qD (by show g2 ≠ g; omega) (qD (by show g1 ≠ g; omega) qF)))) ?_
 refine qr (ι := Nat) (V := fun ge => .slice (some ⟨ge, 0, none⟩) ((zerosN M.length) + 9) ((zerosN M.length) + 9)) (R := fun ge => w.heap.size ≤ ge ∧ ge ≠ g2) (H' := fun ge => [⟨ge, 5, (endB M.length 8).map (int .u8), (zerosN M.length + 9)⟩, ⟨g2, 141, st.map (int .u32) ++ (rs.map (int .u8) ++ ([int .i64 (M.length : Int)])), 73⟩, ⟨g1, 23, (List.replicate 32 0).map (int .u8), 32⟩]) (qA rfl) rfl enters95 rfl rfl (fun w hs => (ending_c M.length w (by omega)).mono fun e w' ⟨g, he, hge, hw⟩ => ⟨g, he, ⟨Nat.le_trans hs.size hge, fun h => by have := (hs.has _ (List.mem_cons_self)).lt; have h2 : g2 < w.heap.size := this; omega⟩, hs.made hw hge⟩) (fun ge hge => ?_)
 refine qr (ι := List Int × List Int) (V := fun s => .tuple #[]) (R := fun s => HashOK (M ++ endB M.length 8) s.1 s.2) (H' := fun s => [⟨ge, 5, (endB M.length 8).map (int .u8), (zerosN M.length + 9)⟩, ⟨g2, 141, s.1.map (int .u32) ++ (s.2.map (int .u8) ++ ([int .i64 ((M ++ endB M.length 8).length : Int)])), 73⟩, ⟨g1, 23, (List.replicate 32 0).map (int .u8), 32⟩]) (qA rfl) rfl enters94 rfl rfl (fun w hs => (take_m M (endB M.length 8) st rs g2 (some ⟨ge, 0, none⟩) (zerosN M.length + 9) (zerosN M.length + 9) w hk (hs.has (⟨g2, 141, st.map (int .u32) ++ (rs.map (int .u8) ++ ([int .i64 (M.length : Int)])), 73⟩) (by simp)) (srcN_ent (hs.has (⟨ge, 5, (endB M.length 8).map (int .u8), (zerosN M.length + 9)⟩) (by simp)) (endB_len M.length 8) hge.2) (Nat.le_refl _) (by omega) (Nat.lt_of_lt_of_le hb1 hs.size) (by omega) (hK.keepH hs hb1 (qD (by show ge ≠ 2; omega) (qD (by show g2 ≠ 2; omega) (qD (by show g1 ≠ 2; omega) qF))))).mono fun e w' ⟨he, st', rs', h1, h2⟩ => ⟨(st', rs'), he, h1, hs.turn (i := 1) rfl rfl h2⟩) (fun s hs2 => ?_)
 have hx1 := hs2.len
 have hx2 := hs2.rlen
 iterate 2 refine gx ?_
 refine qC [2, 3] ?_
 iterate 3 refine gx ?_
 refine qR (qA rfl) rfl enters96 rfl rfl (v := .agg ((shaM M).map (int .u8)).toArray) (fun w hs => (digest_c s.1 (s.2.map (int .u8) ++ [int .i64 ((M ++ endB M.length 8).length : Int)]) g2 141 73 w hx1 (hs.has (⟨g2, 141, s.1.map (int .u32) ++ (s.2.map (int .u8) ++ ([int .i64 ((M ++ endB M.length 8).length : Int)])), 73⟩) (by simp))).mono fun e w' ⟨he, hw⟩ => ⟨by rw [sha_of hs2] at he; exact he, hw⟩) ?_
 refine qz (qA rfl) rfl rfl size23 rfl (vs := (shaM M).map (int .u8)) rfl (by simp [(shaM_len M)]) qk (i := 2) (ent := ⟨g1, 23, (List.replicate 32 0).map (int .u8), 32⟩) rfl rfl (by simp []) (H' := [⟨ge, 5, (endB M.length 8).map (int .u8), (zerosN M.length + 9)⟩, ⟨g2, 141, s.1.map (int .u32) ++ (s.2.map (int .u8) ++ ([int .i64 ((M ++ endB M.length 8).length : Int)])), 73⟩, ⟨g1, 23, (shaM M).map (int .u8), 32⟩]) rfl ?_
 iterate 3 refine gx ?_
 exact qn rfl agg23 size23 rfl (vs := (shaM M).map (int .u8)) (by simp [(shaM_len M)]) (qZ (i := 2) (ent := ⟨g1, 23, (shaM M).map (int .u8), 32⟩) rfl rfl rfl) (fun w hs => ⟨rfl, (((hs.drop (by first | assumption | exact hge.1)).drop (by first | assumption | exact hge.1)).drop (by first | assumption | exact hge.1))⟩)
theorem PartsO.keep' {w w' : World} {H : List Ent} {A : Option Addr} {m g : Nat} {Ps : List (List Int)} (h : PartsO w A m Ps) (hs : St w H w') (hg : ∀ b, b < w.heap.size → b ≠ g ∧ ∀ e ∈ H, e.g ≠ b) : PartsN w' g A m Ps := by
 obtain ⟨h1, h2⟩ := h
 refine ⟨h1, ?_⟩
 rcases h2 with h2 | ⟨b, off, hA, hb, hc⟩
 ·exact .inl h2
 ·refine .inr ⟨b, off, hA, Nat.lt_of_lt_of_le hb hs.size, (hg b hb).1, fun i hi => ?_⟩
  obtain ⟨Ai, mi, ci, k1, k2, k3⟩ := hc i hi
  refine ⟨Ai, mi, ci, (hs.old_cell (ad := ⟨b, off + i, none⟩) hb (hg b hb).2).trans k1, ?_, k3⟩
  obtain ⟨l1, l2⟩ := k2
  refine ⟨l1, ?_⟩
  rcases l2 with l2 | ⟨b', off', hA', hb', hr'⟩
  ·exact .inl l2
  ·exact .inr ⟨b', off', hA', Nat.lt_of_lt_of_le hb' hs.size, (hg b' hb').1, fun j hj => (hs.old_cell (ad := ⟨b', off' + j, none⟩) hb' (hg b' hb').2).trans (hr' j hj)⟩
theorem of_c (Ps : List (List Int)) (A : Option Addr) (m c : Nat) (w : World) (hP : PartsO w A m Ps) (hmc : m ≤ c) (hcm : c ≤ 9223372036854775807) (hn : Ps.flatten.length ≤ 4611686018427387000) (hb1 : 2 < w.heap.size) (hIV : RowI w 0 0 8 .u32 IV) (hK : RowI w 2 0 64 .u32 KT) : Calls Tryz.prog 36 #[.slice A m c] w fun e w' => e = .returned (.agg ((shaM Ps.flatten).map (int .u8)).toArray) ∧ St w [] w' := by
 refine qP (args := [.slice A m c]) Tryz.func36 rfl Tryz.ntmps36 (by simp) ?_
 refine qC [0] ?_
 iterate 2 refine gx ?_
 refine zK (qA rfl) rfl rfl zero23 (cs := (List.replicate 32 0).map (int .u8)) rfl (tot := 32) (by simp) (fun g1 hg1 => ?_)
 iterate 4 refine gx ?_
 refine qr (ι := Nat) (V := fun gn => .pointer (some ⟨gn, 0, none⟩)) (R := fun gn => w.heap.size ≤ gn) (H' := fun gn => [⟨gn, 141, IV.map (int .u32) ++ ((List.replicate 64 0).map (int .u8) ++ ([int .i64 0])), 73⟩, ⟨g1, 23, (List.replicate 32 0).map (int .u8), 32⟩]) (qA rfl) rfl enters65 rfl rfl (fun w hs => (new_c w (by have := hs.size; omega) (hIV.keepH hs (by omega) (qD (by show g1 ≠ 0; omega) qF))).mono fun e w' ⟨g, he, hge, hw⟩ => ⟨g, he, Nat.le_trans hs.size hge, hs.made hw hge⟩) (fun gn hgn => ?_)
 iterate 7 refine gx ?_
 refine qr (ι := List Int × List Int) (V := fun s => .int .i64 (Ps.flatten.length : Int)) (R := fun s => HashOK Ps.flatten s.1 s.2) (H' := fun s => [⟨gn, 141, s.1.map (int .u32) ++ (s.2.map (int .u8) ++ ([int .i64 (Ps.flatten.length : Int)])), 73⟩, ⟨g1, 23, (List.replicate 32 0).map (int .u8), 32⟩]) (qA rfl) rfl enters66 rfl rfl (fun w hs => (write_c [] IV (List.replicate 64 0) Ps gn A m c w hash_nil rfl (by simp) (hs.has (⟨gn, 141, IV.map (int .u32) ++ ((List.replicate 64 0).map (int .u8) ++ ([int .i64 0])), 73⟩) (by simp)) (hP.keep' hs (fun b hb => ⟨by omega, qD (by show gn ≠ b; omega) (qD (by show g1 ≠ b; omega) qF)⟩)) hmc hcm (by simp only [List.length_nil]; omega) (Nat.lt_of_lt_of_le hb1 hs.size) (by omega) (hK.keepH hs hb1 (qD (by show gn ≠ 2; omega) (qD (by show g1 ≠ 2; omega) qF)))).mono fun e w' ⟨he, st', rs', h1, h2⟩ => ⟨(st', rs'), he, by simpa using h1, by have h3 := hs.turn0 h2 rfl; simp only [List.nil_append] at h3; exact h3⟩) (fun s hs2 => ?_)
 have hx1 := hs2.len
 have hx2 := hs2.rlen
 iterate 5 refine gx ?_
 refine qR (qA rfl) rfl enters67 rfl rfl (v := .agg ((shaM Ps.flatten).map (int .u8)).toArray) (fun w hs => (sum_c Ps.flatten s.1 s.2 gn w hs2 hx1 hx2 (hs.has (⟨gn, 141, s.1.map (int .u32) ++ (s.2.map (int .u8) ++ ([int .i64 (Ps.flatten.length : Int)])), 73⟩) (by simp)) (by omega) (Nat.lt_of_lt_of_le hb1 hs.size) (hK.keepH hs hb1 (qD (by show gn ≠ 2; omega) (qD (by show g1 ≠ 2; omega) qF))))) ?_
 refine qz (qA rfl) rfl rfl size23 rfl (vs := (shaM Ps.flatten).map (int .u8)) rfl (by simp [(shaM_len Ps.flatten)]) qk (i := 1) (ent := ⟨g1, 23, (List.replicate 32 0).map (int .u8), 32⟩) rfl rfl (by simp []) (H' := [⟨gn, 141, s.1.map (int .u32) ++ (s.2.map (int .u8) ++ ([int .i64 (Ps.flatten.length : Int)])), 73⟩, ⟨g1, 23, (shaM Ps.flatten).map (int .u8), 32⟩]) rfl ?_
 iterate 3 refine gx ?_
 exact qn rfl agg23 size23 rfl (vs := (shaM Ps.flatten).map (int .u8)) (by simp [(shaM_len Ps.flatten)]) (qZ (i := 1) (ent := ⟨g1, 23, (shaM Ps.flatten).map (int .u8), 32⟩) rfl rfl rfl) (fun w hs => ⟨rfl, ((hs.drop (by assumption)).drop (by assumption))⟩)
/-
 Contracts of package sha: Format; of package strings: HasPrefix.
-/
/-
 The chapter's examples.
-/
/-
 ShaClones: the walk.
-/
theorem of_m (Ps : List (List Int)) (M : List Int) (hM : Ps.flatten = M) (A : Option Addr) (m c : Nat) (w : World) (hP : PartsO w A m Ps) (hmc : m ≤ c) (hcm : c ≤ 9223372036854775807) (hn : M.length ≤ 4611686018427387000) (hb1 : 2 < w.heap.size) (hIV : RowI w 0 0 8 .u32 IV) (hK : RowI w 2 0 64 .u32 KT) :
  Calls Tryz.prog 36 #[.slice A m c] w fun e w' => e = .returned (.agg ((shaM M).map (int .u8)).toArray) ∧ St w [] w' := by
 subst hM
 exact of_c Ps A m c w hP hmc hcm hn hb1 hIV hK
/-
 ShaNil: the walk.
-/
/-
 ShaParts: the walk.
-/
/-
 Digits; strings.IndexByte.
-/
/-
 Parse.
-/
/-
 The reference's Format and Right.
-/
/-
 ShaDigits: the walk.
-/
/-
 The reference: numbers of four words.
-/
theorem agg151 : (isAgg 151).run Tryz.prog = fun w => .ok true w := isAgg_yes Tryz.underlying151 rfl
theorem agg73 : (isAgg 73).run Tryz.prog = fun w => .ok false w := isAgg_no Tryz.underlying73 rfl
theorem size151 : (Tryz.prog.info? 151).map (·.size) = some 4 := by kernel_rfl
theorem size73 : (Tryz.prog.info? 73).map (·.size) = some 1 := by kernel_rfl
theorem zero151 : (Tryz.prog.info? 151).bind (·.zero) = some (.agg #[.int .u64 0, .int .u64 0, .int .u64 0, .int .u64 0]) := by kernel_rfl
instance : Zer Tryz.prog 151 [int .u64 0, int .u64 0, int .u64 0, int .u64 0] := ⟨⟨_, zero151, rfl⟩⟩
theorem or_comm32 (a b : Int) : orI .u32 a b = orI .u32 b a := by
 unfold orI
 rw [BitVec.or_comm]
def wscale (V : List Int) (q : Int) : Nat → List Int × Int
 | 0 => (List.replicate 4 0, 0)
 | k + 1 => ((wscale V q k).1.set k (andI .u64 (addW .u64 (mulW .u64 (V.getD k 0) q) (wscale V q k).2) 4294967295), shrI .u64 (addW .u64 (mulW .u64 (V.getD k 0) q) (wscale V q k).2) 32)
def wshift (V : List Int) : Nat → List Int × Int
 | 0 => (List.replicate 4 0, 0)
 | k + 1 => ((wshift V k).1.set k (andI .u64 (addW .u64 (shlI .u64 (V.getD k 0) 16) (wshift V k).2) 4294967295), shrI .u64 (addW .u64 (shlI .u64 (V.getD k 0) 16) (wshift V k).2) 32)
def wplus (V U : List Int) : Nat → List Int × Int
 | 0 => (List.replicate 4 0, 0)
 | k + 1 => ((wplus V U k).1.set k (andI .u64 (addW .u64 (addW .u64 (V.getD k 0) (U.getD k 0)) (wplus V U k).2) 4294967295), shrI .u64 (addW .u64 (addW .u64 (V.getD k 0) (U.getD k 0)) (wplus V U k).2) 32)
theorem wscale_len (V : List Int) (q : Int) : ∀ k, (wscale V q k).1.length = 4
 | 0 => by simp [wscale]
 | k + 1 => by simp [wscale, wscale_len V q k]
theorem wshift_len (V : List Int) : ∀ k, (wshift V k).1.length = 4
 | 0 => by simp [wshift]
 | k + 1 => by simp [wshift, wshift_len V k]
theorem wplus_len (V U : List Int) : ∀ k, (wplus V U k).1.length = 4
 | 0 => by simp [wplus]
 | k + 1 => by simp [wplus, wplus_len V U k]
theorem rrotate_c (x : Int) (m : Nat) (w : World) (h1 : 1 ≤ m) (h2 : m ≤ 31) : Calls Tryz.prog 85 #[.int .u32 x, .int .i64 (m : Int)] w fun e w' => e = .returned (.int .u32 (rotr x m)) ∧ St w [] w' := by
 refine qP (args := [.int .u32 x, .int .i64 (m : Int)]) Tryz.func85 rfl Tryz.ntmps85 (by simp) ?_
 refine qC [0, 1] ?_
 iterate 6 refine gx ?_
 refine qs (by kernel_rfl) [0, 0, 0, 0, 0, 0, 0, 0, 0] rfl (by kernel_rfl) ?_
 iterate 2 refine gx ?_
 refine qG (qA rfl) rfl (fun _ => zI rfl rfl rfl (by omega) (r := (shrI .u32 x (m : Int))) rfl) ?_
 iterate 2 refine gx ?_
 refine qG (qA rfl) rfl (fun _ => qu rfl rfl rfl (r := (32 - (m : Int))) (w64 (by omega) (by omega))) ?_
 refine qG (qA rfl) rfl (fun _ => Gets.shl rfl rfl rfl (by omega) (r := (shlI .u32 x (32 - (m : Int)))) rfl) ?_
 refine qG (qA rfl) rfl (fun _ => Gets.or rfl rfl rfl (r := (orI .u32 (shrI .u32 x (m : Int)) (shlI .u32 x (32 - (m : Int))))) rfl) ?_
 iterate 4 refine gx ?_
 exact qN rfl rfl (fun w hs => ⟨by rw [or_comm32]; exact rotl_eq x m h1 h2, hs⟩)
theorem wscale_c (V : List Int) (q : Int) (w : World) (hV : V.length = 4) : Calls Tryz.prog 128 #[.agg (V.map (int .u64)).toArray, .int .u64 q] w fun e w' => e = .returned (.agg ((wscale V q 4).1.map (int .u64)).toArray) ∧ St w [] w' := by
 refine qP (args := [.agg (V.map (int .u64)).toArray, .int .u64 q]) Tryz.func128 rfl Tryz.ntmps128 (by simp) ?_
 refine qC [0, 1] ?_
 iterate 2 refine gx ?_
 refine TL.box (qA rfl) rfl rfl rfl (cs := V.map (int .u64)) (by simp [Value.cells]) (tot := 4) (by simp [hV]) (fun g1 hg1 => ?_)
 refine qb (fun g2 hg2 => ?_)
 iterate 9 refine gx ?_
 refine qb (fun g3 hg3 => ?_)
 iterate 9 refine gx ?_
 refine qe (ι := Nat) (fun k => [(5, .int .u64 ((wscale V q k).2)), (6, .pointer (some ⟨g3, 0, none⟩)), (7, .int .i64 (k : Int)), (4, .pointer (some ⟨g2, 0, none⟩)), (2, .pointer (some ⟨g1, 0, none⟩)), (1, .int .u64 q)]) (fun k => [⟨g3, 151, ((wscale V q k).1).map (int .u64), 4⟩, ⟨g2, 151, [int .u64 0, int .u64 0, int .u64 0, int .u64 0], 4⟩, ⟨g1, 151, V.map (int .u64), 4⟩]) (fun k => 4 - k) (fun k => k ≤ 4) 0 (by omega) (qE (i := 5) rfl (by first | rfl | omega) (qH (i := 6) rfl (qE (i := 7) rfl (by first | omega | rfl) (qH (i := 4) rfl (qH (i := 2) rfl (qE (i := 1) rfl (by first | rfl | omega) (qK))))))) (fun w h => h) (fun k hC0 => ?_)
 iterate 7 refine gx ?_
 refine qQ rfl (fun h0 => ?_) (fun h0 => ?_)
 ·iterate 7 refine gx ?_
  refine qB (qA rfl) rfl (qd rfl Tryz.underlying151 size73 rfl rfl (i := k) (by omega) (by omega) (off' := k) (by omega)) ?_
  refine qB (qA rfl) rfl (qJ rfl agg73 rfl (qO (i := 2) (ent := ⟨g1, 151, V.map (int .u64), 4⟩) (off := k) rfl rfl (by have := qS (kd := .u64) (W := V) (i := k) (by rw [hV]; omega); (first | exact this | (refine Eq.trans ?_ this; congr 1; omega))))) ?_
  refine gx ?_
  refine qB (qA rfl) rfl (Gets.mulU rfl rfl rfl) ?_
  refine gx ?_
  refine qB (qA rfl) rfl (qj rfl rfl rfl) ?_
  iterate 3 refine gx ?_
  refine qC [1, 2, 4, 5, 6, 7, 8] ?_
  iterate 4 refine gx ?_
  refine qB (qA rfl) rfl (zJ rfl rfl rfl (r := (andI .u64 (addW .u64 (mulW .u64 (V.getD k 0) q) ((wscale V q k).2)) 4294967295)) rfl) ?_
  refine qB (qA rfl) rfl (qd rfl Tryz.underlying151 size73 rfl rfl (i := k) (by omega) (by omega) (off' := k) (by omega)) ?_
  refine qy (qA rfl) rfl rfl size73 rfl rfl rfl (i := 0) rfl rfl (by simp [(wscale_len V q k)] <;> omega) (cs' := (((wscale V q k).1).set k (andI .u64 (addW .u64 (mulW .u64 (V.getD k 0) q) ((wscale V q k).2)) 4294967295)).map (int .u64)) (ints_set) (H' := [⟨g3, 151, (((wscale V q k).1).set k (andI .u64 (addW .u64 (mulW .u64 (V.getD k 0) q) ((wscale V q k).2)) 4294967295)).map (int .u64), 4⟩, ⟨g2, 151, [int .u64 0, int .u64 0, int .u64 0, int .u64 0], 4⟩, ⟨g1, 151, V.map (int .u64), 4⟩]) rfl ?_
  iterate 2 refine gx ?_
  refine qC [1, 2, 4, 5, 6, 7, 8] ?_
  iterate 2 refine gx ?_
  refine qB (qA rfl) rfl (zI rfl rfl rfl (by omega) (r := (shrI .u64 (addW .u64 (mulW .u64 (V.getD k 0) q) ((wscale V q k).2)) 32)) rfl) ?_
  iterate 4 refine gx ?_
  refine qC [1, 2, 4, 5, 6, 7] ?_
  iterate 2 refine gx ?_
  refine qB (qA rfl) rfl (qU rfl rfl rfl (r := ((k : Int) + 1)) (w64 (by omega) (by omega))) ?_
  iterate 2 refine gx ?_
  exact qc (k + 1) (by omega) (by omega) (qE (i := 5) rfl (by first | rfl | omega) (qH (i := 6) rfl (qE (i := 7) rfl (by first | omega | rfl) (qH (i := 4) rfl (qH (i := 2) rfl (qE (i := 1) rfl (by first | rfl | omega) (qK))))))) (fun w h => h)
 ·obtain rfl : k = 4 := by omega
  have Dl := wscale_len V q 4
  generalize hD : wscale V q 4 = D at Dl ⊢
  iterate 7 refine gx ?_
  refine qB (qA rfl) rfl (qh rfl agg151 size151 rfl (vs := D.1.map (int .u64)) (by simp [Dl]) (qZ (i := 0) (ent := ⟨g3, 151, D.1.map (int .u64), 4⟩) rfl rfl rfl)) ?_
  refine qz (qA rfl) rfl rfl size151 rfl (vs := D.1.map (int .u64)) rfl (by simp [Dl]) qk (i := 1) (ent := ⟨g2, 151, [int .u64 0, int .u64 0, int .u64 0, int .u64 0], 4⟩) rfl rfl (by simp []) (H' := [⟨g3, 151, D.1.map (int .u64), 4⟩, ⟨g2, 151, D.1.map (int .u64), 4⟩, ⟨g1, 151, V.map (int .u64), 4⟩]) rfl ?_
  iterate 3 refine gx ?_
  exact qn rfl agg151 size151 rfl (vs := D.1.map (int .u64)) (by simp [Dl]) (qZ (i := 1) (ent := ⟨g2, 151, D.1.map (int .u64), 4⟩) rfl rfl rfl) (fun w hs => ⟨rfl, hs.dp⟩)
theorem wshift_c (V : List Int) (w : World) (hV : V.length = 4) : Calls Tryz.prog 129 #[.agg (V.map (int .u64)).toArray] w fun e w' => e = .returned (.agg ((wshift V 4).1.map (int .u64)).toArray) ∧ St w [] w' := by
 refine qP (args := [.agg (V.map (int .u64)).toArray]) Tryz.func129 rfl Tryz.ntmps129 (by simp) ?_
 refine qC [0] ?_
 iterate 2 refine gx ?_
 refine TL.box (qA rfl) rfl rfl rfl (cs := V.map (int .u64)) (by simp [Value.cells]) (tot := 4) (by simp [hV]) (fun g1 hg1 => ?_)
 refine qb (fun g2 hg2 => ?_)
 iterate 9 refine gx ?_
 refine qb (fun g3 hg3 => ?_)
 iterate 9 refine gx ?_
 refine qe (ι := Nat) (fun k => [(3, .int .u64 ((wshift V k).2)), (4, .pointer (some ⟨g3, 0, none⟩)), (5, .int .i64 (k : Int)), (2, .pointer (some ⟨g2, 0, none⟩)), (1, .pointer (some ⟨g1, 0, none⟩))]) (fun k => [⟨g3, 151, ((wshift V k).1).map (int .u64), 4⟩, ⟨g2, 151, [int .u64 0, int .u64 0, int .u64 0, int .u64 0], 4⟩, ⟨g1, 151, V.map (int .u64), 4⟩]) (fun k => 4 - k) (fun k => k ≤ 4) 0 (by omega) (qE (i := 3) rfl (by first | rfl | omega) (qH (i := 4) rfl (qE (i := 5) rfl (by first | omega | rfl) (qH (i := 2) rfl (qH (i := 1) rfl (qK)))))) (fun w h => h) (fun k hC0 => ?_)
 iterate 7 refine gx ?_
 refine qQ rfl (fun h0 => ?_) (fun h0 => ?_)
 ·iterate 7 refine gx ?_
  refine qB (qA rfl) rfl (qd rfl Tryz.underlying151 size73 rfl rfl (i := k) (by omega) (by omega) (off' := k) (by omega)) ?_
  refine qB (qA rfl) rfl (qJ rfl agg73 rfl (qO (i := 2) (ent := ⟨g1, 151, V.map (int .u64), 4⟩) (off := k) rfl rfl (by have := qS (kd := .u64) (W := V) (i := k) (by rw [hV]; omega); (first | exact this | (refine Eq.trans ?_ this; congr 1; omega))))) ?_
  refine qB (qA rfl) rfl (Gets.shl rfl rfl rfl (by omega) (r := (shlI .u64 (V.getD k 0) 16)) rfl) ?_
  refine gx ?_
  refine qB (qA rfl) rfl (qj rfl rfl rfl) ?_
  iterate 3 refine gx ?_
  refine qC [1, 2, 3, 4, 5, 6] ?_
  iterate 4 refine gx ?_
  refine qB (qA rfl) rfl (zJ rfl rfl rfl (r := (andI .u64 (addW .u64 (shlI .u64 (V.getD k 0) 16) ((wshift V k).2)) 4294967295)) rfl) ?_
  refine qB (qA rfl) rfl (qd rfl Tryz.underlying151 size73 rfl rfl (i := k) (by omega) (by omega) (off' := k) (by omega)) ?_
  refine qy (qA rfl) rfl rfl size73 rfl rfl rfl (i := 0) rfl rfl (by simp [(wshift_len V k)] <;> omega) (cs' := (((wshift V k).1).set k (andI .u64 (addW .u64 (shlI .u64 (V.getD k 0) 16) ((wshift V k).2)) 4294967295)).map (int .u64)) (ints_set) (H' := [⟨g3, 151, (((wshift V k).1).set k (andI .u64 (addW .u64 (shlI .u64 (V.getD k 0) 16) ((wshift V k).2)) 4294967295)).map (int .u64), 4⟩, ⟨g2, 151, [int .u64 0, int .u64 0, int .u64 0, int .u64 0], 4⟩, ⟨g1, 151, V.map (int .u64), 4⟩]) rfl ?_
  iterate 2 refine gx ?_
  refine qC [1, 2, 3, 4, 5, 6] ?_
  iterate 2 refine gx ?_
  refine qB (qA rfl) rfl (zI rfl rfl rfl (by omega) (r := (shrI .u64 (addW .u64 (shlI .u64 (V.getD k 0) 16) ((wshift V k).2)) 32)) rfl) ?_
  iterate 6 refine gx ?_
  refine qB (qA rfl) rfl (qU rfl rfl rfl (r := ((k : Int) + 1)) (w64 (by omega) (by omega))) ?_
  iterate 2 refine gx ?_
  exact qc (k + 1) (by omega) (by omega) (qE (i := 3) rfl (by first | rfl | omega) (qH (i := 4) rfl (qE (i := 5) rfl (by first | omega | rfl) (qH (i := 2) rfl (qH (i := 1) rfl (qK)))))) (fun w h => h)
 ·obtain rfl : k = 4 := by omega
  have Dl := wshift_len V 4
  generalize hD : wshift V 4 = D at Dl ⊢
  iterate 7 refine gx ?_
  refine qB (qA rfl) rfl (qh rfl agg151 size151 rfl (vs := D.1.map (int .u64)) (by simp [Dl]) (qZ (i := 0) (ent := ⟨g3, 151, D.1.map (int .u64), 4⟩) rfl rfl rfl)) ?_
  refine qz (qA rfl) rfl rfl size151 rfl (vs := D.1.map (int .u64)) rfl (by simp [Dl]) qk (i := 1) (ent := ⟨g2, 151, [int .u64 0, int .u64 0, int .u64 0, int .u64 0], 4⟩) rfl rfl (by simp []) (H' := [⟨g3, 151, D.1.map (int .u64), 4⟩, ⟨g2, 151, D.1.map (int .u64), 4⟩, ⟨g1, 151, V.map (int .u64), 4⟩]) rfl ?_
  iterate 3 refine gx ?_
  exact qn rfl agg151 size151 rfl (vs := D.1.map (int .u64)) (by simp [Dl]) (qZ (i := 1) (ent := ⟨g2, 151, D.1.map (int .u64), 4⟩) rfl rfl rfl) (fun w hs => ⟨rfl, hs.dp⟩)
theorem wplus_c (V U : List Int) (w : World) (hV : V.length = 4) (hU : U.length = 4) : Calls Tryz.prog 127 #[.agg (V.map (int .u64)).toArray, .agg (U.map (int .u64)).toArray] w fun e w' => e = .returned (.agg ((wplus V U 4).1.map (int .u64)).toArray) ∧ St w [] w' := by
 refine qP (args := [.agg (V.map (int .u64)).toArray, .agg (U.map (int .u64)).toArray]) Tryz.func127 rfl Tryz.ntmps127 (by simp) ?_
 refine qC [0, 1] ?_
 iterate 2 refine gx ?_
 refine TL.box (qA rfl) rfl rfl rfl (cs := V.map (int .u64)) (by simp [Value.cells]) (tot := 4) (by simp [hV]) (fun g1 hg1 => ?_)
 refine TL.box (qA rfl) rfl rfl rfl (cs := U.map (int .u64)) (by simp [Value.cells]) (tot := 4) (by simp [hU]) (fun g2 hg2 => ?_)
 refine qb (fun g3 hg3 => ?_)
 iterate 9 refine gx ?_
 refine qb (fun g4 hg4 => ?_)
 iterate 9 refine gx ?_
 refine qe (ι := Nat) (fun k => [(5, .int .u64 ((wplus V U k).2)), (6, .pointer (some ⟨g4, 0, none⟩)), (7, .int .i64 (k : Int)), (4, .pointer (some ⟨g3, 0, none⟩)), (2, .pointer (some ⟨g1, 0, none⟩)), (3, .pointer (some ⟨g2, 0, none⟩))]) (fun k => [⟨g4, 151, ((wplus V U k).1).map (int .u64), 4⟩, ⟨g3, 151, [int .u64 0, int .u64 0, int .u64 0, int .u64 0], 4⟩, ⟨g2, 151, U.map (int .u64), 4⟩, ⟨g1, 151, V.map (int .u64), 4⟩]) (fun k => 4 - k) (fun k => k ≤ 4) 0 (by omega) (qE (i := 5) rfl (by first | rfl | omega) (qH (i := 6) rfl (qE (i := 7) rfl (by first | omega | rfl) (qH (i := 4) rfl (qH (i := 2) rfl (qH (i := 3) rfl (qK))))))) (fun w h => h) (fun k hC0 => ?_)
 iterate 7 refine gx ?_
 refine qQ rfl (fun h0 => ?_) (fun h0 => ?_)
 ·iterate 5 refine gx ?_
  refine qs (by kernel_rfl) [0, 0, 1, 0, 0, 1, 0, 0, 0, 0] rfl (by kernel_rfl) ?_
  refine gx ?_
  refine qG (qA rfl) rfl (fun _ => qd rfl Tryz.underlying151 size73 rfl rfl (i := k) (by omega) (by omega) (off' := k) (by omega)) ?_
  refine qX (qA rfl) rfl (qJ rfl agg73 rfl (qO (i := 3) (ent := ⟨g1, 151, V.map (int .u64), 4⟩) (off := k) rfl rfl (by have := qS (kd := .u64) (W := V) (i := k) (by rw [hV]; omega); (first | exact this | (refine Eq.trans ?_ this; congr 1; omega))))) ?_
  refine gx ?_
  refine qG (qA rfl) rfl (fun _ => qd rfl Tryz.underlying151 size73 rfl rfl (i := k) (by omega) (by omega) (off' := k) (by omega)) ?_
  refine qX (qA rfl) rfl (qJ rfl agg73 rfl (qO (i := 2) (ent := ⟨g2, 151, U.map (int .u64), 4⟩) (off := k) rfl rfl (by have := qS (kd := .u64) (W := U) (i := k) (by rw [hU]; omega); (first | exact this | (refine Eq.trans ?_ this; congr 1; omega))))) ?_
  refine qG (qA rfl) rfl (fun _ => qj rfl rfl rfl) ?_
  refine gx ?_
  refine qG (qA rfl) rfl (fun _ => qj rfl rfl rfl) ?_
  iterate 3 refine gx ?_
  refine qC [2, 3, 4, 5, 6, 7, 8] ?_
  iterate 4 refine gx ?_
  refine qB (qA rfl) rfl (zJ rfl rfl rfl (r := (andI .u64 (addW .u64 (addW .u64 (V.getD k 0) (U.getD k 0)) ((wplus V U k).2)) 4294967295)) rfl) ?_
  refine qB (qA rfl) rfl (qd rfl Tryz.underlying151 size73 rfl rfl (i := k) (by omega) (by omega) (off' := k) (by omega)) ?_
  refine qy (qA rfl) rfl rfl size73 rfl rfl rfl (i := 0) rfl rfl (by simp [(wplus_len V U k)] <;> omega) (cs' := (((wplus V U k).1).set k (andI .u64 (addW .u64 (addW .u64 (V.getD k 0) (U.getD k 0)) ((wplus V U k).2)) 4294967295)).map (int .u64)) (ints_set) (H' := [⟨g4, 151, (((wplus V U k).1).set k (andI .u64 (addW .u64 (addW .u64 (V.getD k 0) (U.getD k 0)) ((wplus V U k).2)) 4294967295)).map (int .u64), 4⟩, ⟨g3, 151, [int .u64 0, int .u64 0, int .u64 0, int .u64 0], 4⟩, ⟨g2, 151, U.map (int .u64), 4⟩, ⟨g1, 151, V.map (int .u64), 4⟩]) rfl ?_
  iterate 2 refine gx ?_
  refine qC [2, 3, 4, 5, 6, 7, 8] ?_
  iterate 2 refine gx ?_
  refine qB (qA rfl) rfl (zI rfl rfl rfl (by omega) (r := (shrI .u64 (addW .u64 (addW .u64 (V.getD k 0) (U.getD k 0)) ((wplus V U k).2)) 32)) rfl) ?_
  iterate 4 refine gx ?_
  refine qC [2, 3, 4, 5, 6, 7] ?_
  iterate 2 refine gx ?_
  refine qB (qA rfl) rfl (qU rfl rfl rfl (r := ((k : Int) + 1)) (w64 (by omega) (by omega))) ?_
  iterate 2 refine gx ?_
  exact qc (k + 1) (by omega) (by omega) (qE (i := 5) rfl (by first | rfl | omega) (qH (i := 6) rfl (qE (i := 7) rfl (by first | omega | rfl) (qH (i := 4) rfl (qH (i := 2) rfl (qH (i := 3) rfl (qK))))))) (fun w h => h)
 ·obtain rfl : k = 4 := by omega
  have Dl := wplus_len V U 4
  generalize hD : wplus V U 4 = D at Dl ⊢
  iterate 7 refine gx ?_
  refine qB (qA rfl) rfl (qh rfl agg151 size151 rfl (vs := D.1.map (int .u64)) (by simp [Dl]) (qZ (i := 0) (ent := ⟨g4, 151, D.1.map (int .u64), 4⟩) rfl rfl rfl)) ?_
  refine qz (qA rfl) rfl rfl size151 rfl (vs := D.1.map (int .u64)) rfl (by simp [Dl]) qk (i := 1) (ent := ⟨g3, 151, [int .u64 0, int .u64 0, int .u64 0, int .u64 0], 4⟩) rfl rfl (by simp []) (H' := [⟨g4, 151, D.1.map (int .u64), 4⟩, ⟨g3, 151, D.1.map (int .u64), 4⟩, ⟨g2, 151, U.map (int .u64), 4⟩, ⟨g1, 151, V.map (int .u64), 4⟩]) rfl ?_
  iterate 3 refine gx ?_
  exact qn rfl agg151 size151 rfl (vs := D.1.map (int .u64)) (by simp [Dl]) (qZ (i := 1) (ent := ⟨g3, 151, D.1.map (int .u64), 4⟩) rfl rfl rfl) (fun w hs => ⟨rfl, hs.dp⟩)
attribute [irreducible] wscale wshift wplus
theorem enters110 : Enters Tryz.prog 110 := ⟨_, Tryz.func110, by kernel_rfl, by kernel_rfl⟩
theorem enters127 : Enters Tryz.prog 127 := ⟨_, Tryz.func127, by kernel_rfl, by kernel_rfl⟩
theorem enters128 : Enters Tryz.prog 128 := ⟨_, Tryz.func128, by kernel_rfl, by kernel_rfl⟩
theorem enters129 : Enters Tryz.prog 129 := ⟨_, Tryz.func129, by kernel_rfl, by kernel_rfl⟩
theorem enters86 : Enters Tryz.prog 86 := ⟨_, Tryz.func86, by kernel_rfl, by kernel_rfl⟩
theorem four_len (a b c d : Int) : ([a, b, c, d] : List Int).length = 4 := rfl
def wtimes (V : List Int) (q : Int) : List Int := (wplus (wscale V (andI .u64 q 65535) 4).1 (wshift (wscale V (shrI .u64 q 16) 4).1 4).1 4).1
theorem wtimes_len (V : List Int) (q : Int) : (wtimes V q).length = 4 := wplus_len _ _ 4
def lessF (A B : List Int) : Nat → Bool
 | 0 => true
 | k + 1 => if A.getD k 0 ≠ B.getD k 0 then decide (A.getD k 0 < B.getD k 0) else lessF A B k
def sqA (m : Int) : List Int := wtimes [andI .u64 m 4294967295, shrI .u64 m 32, 0, 0] m
theorem sqA_len (m : Int) : (sqA m).length = 4 := wtimes_len _ _
theorem wtimes_c (V : List Int) (q : Int) (w : World) (hV : V.length = 4) : Calls Tryz.prog 110 #[.agg (V.map (int .u64)).toArray, .int .u64 q] w fun e w' => e = .returned (.agg ((wtimes V q).map (int .u64)).toArray) ∧ St w [] w' := by
 refine qP (args := [.agg (V.map (int .u64)).toArray, .int .u64 q]) Tryz.func110 rfl Tryz.ntmps110 (by simp) ?_
 refine qC [0, 1] ?_
 iterate 2 refine gx ?_
 refine TL.box (qA rfl) rfl rfl rfl (cs := V.map (int .u64)) (by simp [Value.cells]) (tot := 4) (by simp [hV]) (fun g1 hg1 => ?_)
 refine qb (fun g2 hg2 => ?_)
 iterate 5 refine gx ?_
 refine qB (qA rfl) rfl (zJ rfl rfl rfl (r := (andI .u64 q 65535)) rfl) ?_
 iterate 6 refine gx ?_
 refine qB (qA rfl) rfl (zI rfl rfl rfl (by omega) (r := (shrI .u64 q 16)) rfl) ?_
 iterate 3 refine gx ?_
 refine qC [2, 4, 5, 6] ?_
 refine gx ?_
 refine TC.draw (by kernel_rfl) ?_
 refine TF.seqL 8 (by kernel_rfl) ?_
 refine TS.gets (qA rfl) rfl (qh rfl agg151 size151 rfl (vs := V.map (int .u64)) (by simp [hV]) (qZ (i := 1) (ent := ⟨g1, 151, V.map (int .u64), 4⟩) rfl rfl rfl)) ?_
 refine TS.gets (qA rfl) rfl (qV rfl rfl) ?_
 refine TS.call0 (qA rfl) rfl enters128 rfl rfl (v := .agg ((wscale V (andI .u64 q 65535) 4).1.map (int .u64)).toArray) (fun w hs => wscale_c V (andI .u64 q 65535) w hV) ?_
 refine TS.gets (qA rfl) rfl (qh rfl agg151 size151 rfl (vs := V.map (int .u64)) (by simp [hV]) (qZ (i := 1) (ent := ⟨g1, 151, V.map (int .u64), 4⟩) rfl rfl rfl)) ?_
 refine TS.gets (qA rfl) rfl (qV rfl rfl) ?_
 refine TS.call0 (qA rfl) rfl enters128 rfl rfl (v := .agg ((wscale V (shrI .u64 q 16) 4).1.map (int .u64)).toArray) (fun w hs => wscale_c V (shrI .u64 q 16) w hV) ?_
 refine TS.call0 (qA rfl) rfl enters129 rfl rfl (v := .agg ((wshift ((wscale V (shrI .u64 q 16) 4).1) 4).1.map (int .u64)).toArray) (fun w hs => wshift_c ((wscale V (shrI .u64 q 16) 4).1) w (wscale_len V (shrI .u64 q 16) 4)) ?_
 refine TS.call0 (qA rfl) rfl enters127 rfl rfl (v := .agg ((wplus ((wscale V (andI .u64 q 65535) 4).1) ((wshift ((wscale V (shrI .u64 q 16) 4).1) 4).1) 4).1.map (int .u64)).toArray) (fun w hs => wplus_c ((wscale V (andI .u64 q 65535) 4).1) ((wshift ((wscale V (shrI .u64 q 16) 4).1) 4).1) w (wscale_len V (andI .u64 q 65535) 4) (wshift_len ((wscale V (shrI .u64 q 16) 4).1) 4)) ?_
 refine TS.done ?_
 refine TF.tailL (by kernel_rfl) ?_
 refine qz (qA rfl) rfl rfl size151 rfl (vs := ((wplus ((wscale V (andI .u64 q 65535) 4).1) ((wshift ((wscale V (shrI .u64 q 16) 4).1) 4).1) 4).1).map (int .u64)) rfl (by simp [(wplus_len ((wscale V (andI .u64 q 65535) 4).1) ((wshift ((wscale V (shrI .u64 q 16) 4).1) 4).1) 4)]) qk (i := 0) (ent := ⟨g2, 151, [int .u64 0, int .u64 0, int .u64 0, int .u64 0], 4⟩) rfl rfl (by simp []) (H' := [⟨g2, 151, ((wplus ((wscale V (andI .u64 q 65535) 4).1) ((wshift ((wscale V (shrI .u64 q 16) 4).1) 4).1) 4).1).map (int .u64), 4⟩, ⟨g1, 151, V.map (int .u64), 4⟩]) rfl ?_
 iterate 3 refine gx ?_
 exact qn rfl agg151 size151 rfl (vs := ((wplus ((wscale V (andI .u64 q 65535) 4).1) ((wshift ((wscale V (shrI .u64 q 16) 4).1) 4).1) 4).1).map (int .u64)) (by simp [(wplus_len ((wscale V (andI .u64 q 65535) 4).1) ((wshift ((wscale V (shrI .u64 q 16) 4).1) 4).1) 4)]) (qZ (i := 0) (ent := ⟨g2, 151, ((wplus ((wscale V (andI .u64 q 65535) 4).1) ((wshift ((wscale V (shrI .u64 q 16) 4).1) 4).1) 4).1).map (int .u64), 4⟩) rfl rfl rfl) (fun w hs => ⟨rfl, hs.dp⟩)
attribute [irreducible] wtimes
theorem least2_c (m n : Int) (w : World) : Calls Tryz.prog 86 #[.int .u64 m, .int .u64 n, .bool false] w fun e w' => e = .returned (.bool (lessF (sqA m) ([0, 0, n, 0] : List Int) 4)) ∧ St w [] w' := by
 refine qP (args := [.int .u64 m, .int .u64 n, .bool false]) Tryz.func86 rfl Tryz.ntmps86 (by simp) ?_
 refine qC [0, 1, 2] ?_
 iterate 8 refine gx ?_
 refine qB (qA rfl) rfl (zJ rfl rfl rfl (r := (andI .u64 m 4294967295)) rfl) ?_
 refine gx ?_
 refine qB (qA rfl) rfl (zI rfl rfl rfl (by omega) (r := (shrI .u64 m 32)) rfl) ?_
 refine qB (qA rfl) rfl (qm rfl (vs := [(0, int .u64 (andI .u64 m 4294967295)), (1, int .u64 (shrI .u64 m 32)), (2, int .u64 0), (3, int .u64 0)]) rfl (fun w => by first | rfl | kernel_rfl) (v := .agg (([andI .u64 m 4294967295, shrI .u64 m 32, 0, 0] : List Int).map (int .u64)).toArray)) ?_
 refine gx ?_
 refine qR (qA rfl) rfl enters110 rfl rfl (v := .agg ((sqA m).map (int .u64)).toArray) (fun w hs => wtimes_c ([andI .u64 m 4294967295, shrI .u64 m 32, 0, 0] : List Int) m w (four_len _ _ _ _)) ?_
 refine qb (fun g1 hg1 => ?_)
 refine qz (qA rfl) rfl rfl size151 rfl (vs := (sqA m).map (int .u64)) rfl (by simp [(sqA_len m)]) qk (i := 0) (ent := ⟨g1, 151, [int .u64 0, int .u64 0, int .u64 0, int .u64 0], 4⟩) rfl rfl (by simp []) (H' := [⟨g1, 151, (sqA m).map (int .u64), 4⟩]) rfl ?_
 iterate 2 refine gx ?_
 refine qC [0, 1, 2, 6, 7] ?_
 iterate 3 refine gx ?_
 refine qB (qA rfl) rfl (qm rfl (vs := [(0, int .u64 0), (1, int .u64 0), (2, int .u64 n), (3, int .u64 0)]) rfl (fun w => by first | rfl | kernel_rfl) (v := .agg (([0, 0, n, 0] : List Int).map (int .u64)).toArray)) ?_
 refine qb (fun g2 hg2 => ?_)
 refine qz (qA rfl) rfl rfl size151 rfl (vs := ([0, 0, n, 0] : List Int).map (int .u64)) rfl (by simp [(four_len _ _ _ _)]) qk (i := 0) (ent := ⟨g2, 151, [int .u64 0, int .u64 0, int .u64 0, int .u64 0], 4⟩) rfl rfl (by simp []) (H' := [⟨g2, 151, ([0, 0, n, 0] : List Int).map (int .u64), 4⟩, ⟨g1, 151, (sqA m).map (int .u64), 4⟩]) rfl ?_
 iterate 8 refine gx ?_
 refine qC [0, 1, 6, 7, 8, 19] ?_
 refine ql rfl ?_
 iterate 9 refine gx ?_
 refine qe (ι := Nat) (fun k => [(7, .pointer (some ⟨g1, 0, none⟩)), (8, .pointer (some ⟨g2, 0, none⟩)), (9, .int .i64 ((k : Int) - 1))]) (fun k => [⟨g2, 151, ([0, 0, n, 0] : List Int).map (int .u64), 4⟩, ⟨g1, 151, (sqA m).map (int .u64), 4⟩]) (fun k => k) (fun k => k ≤ 4 ∧ lessF (sqA m) ([0, 0, n, 0] : List Int) 4 = lessF (sqA m) ([0, 0, n, 0] : List Int) k) 4 ⟨Nat.le_refl _, rfl⟩ (qH (i := 7) rfl (qH (i := 8) rfl (qE (i := 9) rfl (by first | omega | rfl) (qK)))) (fun w h => h) (fun k hC0 => ?_)
 iterate 7 refine gx ?_
 refine qQ rfl (fun hq0 => ?_) (fun hq0 => ?_)
 ·obtain ⟨j, rfl⟩ : ∃ j, k = j + 1 := ⟨k - 1, by omega⟩
  iterate 5 refine gx ?_
  refine qs (by kernel_rfl) [0, 0, 1, 0, 0, 1, 0] rfl (by kernel_rfl) ?_
  refine gx ?_
  refine qG (qA rfl) rfl (fun _ => qd rfl Tryz.underlying151 size73 rfl rfl (i := j) (by omega) (by omega) (off' := j) (by omega)) ?_
  refine qX (qA rfl) rfl (qJ rfl agg73 rfl (qO (i := 1) (ent := ⟨g1, 151, (sqA m).map (int .u64), 4⟩) (off := j) rfl rfl (by have := qS (kd := .u64) (W := (sqA m)) (i := j) (by rw [(sqA_len m)]; omega); (first | exact this | (refine Eq.trans ?_ this; congr 1; omega))))) ?_
  refine gx ?_
  refine qG (qA rfl) rfl (fun _ => qd rfl Tryz.underlying151 size73 rfl rfl (i := j) (by omega) (by omega) (off' := j) (by omega)) ?_
  refine qX (qA rfl) rfl (qJ rfl agg73 rfl (qO (i := 0) (ent := ⟨g2, 151, ([0, 0, n, 0] : List Int).map (int .u64), 4⟩) (off := j) rfl rfl (by have := qS (kd := .u64) (W := ([0, 0, n, 0] : List Int)) (i := j) (by rw [(four_len _ _ _ _)]; omega); (first | exact this | (refine Eq.trans ?_ this; congr 1; omega))))) ?_
  iterate 3 refine gx ?_
  refine qC [7, 8, 9, 35] ?_
  refine qQ rfl (fun hq1 => ?_) (fun hq1 => ?_)
  ·refine gx ?_
   refine qs (by kernel_rfl) [0, 0, 1, 0, 0, 1, 0, 0] rfl (by kernel_rfl) ?_
   refine gx ?_
   refine qG (qA rfl) rfl (fun _ => qd rfl Tryz.underlying151 size73 rfl rfl (i := j) (by omega) (by omega) (off' := j) (by omega)) ?_
   refine qX (qA rfl) rfl (qJ rfl agg73 rfl (qO (i := 1) (ent := ⟨g1, 151, (sqA m).map (int .u64), 4⟩) (off := j) rfl rfl (by have := qS (kd := .u64) (W := (sqA m)) (i := j) (by rw [(sqA_len m)]; omega); (first | exact this | (refine Eq.trans ?_ this; congr 1; omega))))) ?_
   refine gx ?_
   refine qG (qA rfl) rfl (fun _ => qd rfl Tryz.underlying151 size73 rfl rfl (i := j) (by omega) (by omega) (off' := j) (by omega)) ?_
   refine qX (qA rfl) rfl (qJ rfl agg73 rfl (qO (i := 0) (ent := ⟨g2, 151, ([0, 0, n, 0] : List Int).map (int .u64), 4⟩) (off := j) rfl rfl (by have := qS (kd := .u64) (W := ([0, 0, n, 0] : List Int)) (i := j) (by rw [(four_len _ _ _ _)]; omega); (first | exact this | (refine Eq.trans ?_ this; congr 1; omega))))) ?_
   iterate 10 refine gx ?_
   exact qN rfl rfl (fun w hs => ⟨by rw [hC0.2, lessF, if_pos hq1], hs.dp⟩)
  ·iterate 5 refine gx ?_
   refine qB (qA rfl) rfl (qu rfl rfl rfl (r := ((j : Int) - 1)) (w64 (by omega) (by omega))) ?_
   iterate 2 refine gx ?_
   exact qc j (by omega) ⟨by omega, by rw [hC0.2, lessF, if_neg hq1]⟩ (qH (i := 7) rfl (qH (i := 8) rfl (qE (i := 9) rfl (by first | omega | rfl) (qK)))) (fun w h => h)
 ·obtain rfl : k = 0 := by omega
  iterate 11 refine gx ?_
  exact qN rfl rfl (fun w hs => ⟨by rw [hC0.2]; rfl, hs.dp⟩)
theorem least3_c (m n : Int) (w : World) : Calls Tryz.prog 86 #[.int .u64 m, .int .u64 n, .bool true] w fun e w' => e = .returned (.bool (lessF (wtimes (sqA m) m) ([0, 0, 0, n] : List Int) 4)) ∧ St w [] w' := by
 refine qP (args := [.int .u64 m, .int .u64 n, .bool true]) Tryz.func86 rfl Tryz.ntmps86 (by simp) ?_
 refine qC [0, 1, 2] ?_
 iterate 8 refine gx ?_
 refine qB (qA rfl) rfl (zJ rfl rfl rfl (r := (andI .u64 m 4294967295)) rfl) ?_
 refine gx ?_
 refine qB (qA rfl) rfl (zI rfl rfl rfl (by omega) (r := (shrI .u64 m 32)) rfl) ?_
 refine qB (qA rfl) rfl (qm rfl (vs := [(0, int .u64 (andI .u64 m 4294967295)), (1, int .u64 (shrI .u64 m 32)), (2, int .u64 0), (3, int .u64 0)]) rfl (fun w => by first | rfl | kernel_rfl) (v := .agg (([andI .u64 m 4294967295, shrI .u64 m 32, 0, 0] : List Int).map (int .u64)).toArray)) ?_
 refine gx ?_
 refine qR (qA rfl) rfl enters110 rfl rfl (v := .agg ((sqA m).map (int .u64)).toArray) (fun w hs => wtimes_c ([andI .u64 m 4294967295, shrI .u64 m 32, 0, 0] : List Int) m w (four_len _ _ _ _)) ?_
 refine qb (fun g1 hg1 => ?_)
 refine qz (qA rfl) rfl rfl size151 rfl (vs := (sqA m).map (int .u64)) rfl (by simp [(sqA_len m)]) qk (i := 0) (ent := ⟨g1, 151, [int .u64 0, int .u64 0, int .u64 0, int .u64 0], 4⟩) rfl rfl (by simp []) (H' := [⟨g1, 151, (sqA m).map (int .u64), 4⟩]) rfl ?_
 iterate 2 refine gx ?_
 refine qC [0, 1, 2, 6, 7] ?_
 iterate 3 refine gx ?_
 refine qB (qA rfl) rfl (qm rfl (vs := [(0, int .u64 0), (1, int .u64 0), (2, int .u64 n), (3, int .u64 0)]) rfl (fun w => by first | rfl | kernel_rfl) (v := .agg (([0, 0, n, 0] : List Int).map (int .u64)).toArray)) ?_
 refine qb (fun g2 hg2 => ?_)
 refine qz (qA rfl) rfl rfl size151 rfl (vs := ([0, 0, n, 0] : List Int).map (int .u64)) rfl (by simp [(four_len _ _ _ _)]) qk (i := 0) (ent := ⟨g2, 151, [int .u64 0, int .u64 0, int .u64 0, int .u64 0], 4⟩) rfl rfl (by simp []) (H' := [⟨g2, 151, ([0, 0, n, 0] : List Int).map (int .u64), 4⟩, ⟨g1, 151, (sqA m).map (int .u64), 4⟩]) rfl ?_
 iterate 8 refine gx ?_
 refine qC [0, 1, 6, 7, 8, 19] ?_
 refine qq rfl ?_
 iterate 2 refine gx ?_
 refine qB (qA rfl) rfl (qh rfl agg151 size151 rfl (vs := (sqA m).map (int .u64)) (by simp [(sqA_len m)]) (qZ (i := 1) (ent := ⟨g1, 151, (sqA m).map (int .u64), 4⟩) rfl rfl rfl)) ?_
 refine gx ?_
 refine qR (qA rfl) rfl enters110 rfl rfl (v := .agg ((wtimes (sqA m) m).map (int .u64)).toArray) (fun w hs => wtimes_c (sqA m) m w (sqA_len m)) ?_
 refine qz (qA rfl) rfl rfl size151 rfl (vs := (wtimes (sqA m) m).map (int .u64)) rfl (by simp [(wtimes_len (sqA m) m)]) qk (i := 1) (ent := ⟨g1, 151, (sqA m).map (int .u64), 4⟩) rfl rfl (by simp [(sqA_len m)]) (H' := [⟨g2, 151, ([0, 0, n, 0] : List Int).map (int .u64), 4⟩, ⟨g1, 151, (wtimes (sqA m) m).map (int .u64), 4⟩]) rfl ?_
 iterate 2 refine gx ?_
 refine qC [1, 6, 7, 8] ?_
 iterate 2 refine gx ?_
 refine qB (qA rfl) rfl (qm rfl (vs := [(0, int .u64 0), (1, int .u64 0), (2, int .u64 0), (3, int .u64 n)]) rfl (fun w => by first | rfl | kernel_rfl) (v := .agg (([0, 0, 0, n] : List Int).map (int .u64)).toArray)) ?_
 refine qz (qA rfl) rfl rfl size151 rfl (vs := ([0, 0, 0, n] : List Int).map (int .u64)) rfl (by simp [(four_len _ _ _ _)]) qk (i := 0) (ent := ⟨g2, 151, ([0, 0, n, 0] : List Int).map (int .u64), 4⟩) rfl rfl (by simp [(four_len _ _ _ _)]) (H' := [⟨g2, 151, ([0, 0, 0, n] : List Int).map (int .u64), 4⟩, ⟨g1, 151, (wtimes (sqA m) m).map (int .u64), 4⟩]) rfl ?_
 iterate 9 refine gx ?_
 refine qe (ι := Nat) (fun k => [(7, .pointer (some ⟨g1, 0, none⟩)), (8, .pointer (some ⟨g2, 0, none⟩)), (9, .int .i64 ((k : Int) - 1))]) (fun k => [⟨g2, 151, ([0, 0, 0, n] : List Int).map (int .u64), 4⟩, ⟨g1, 151, (wtimes (sqA m) m).map (int .u64), 4⟩]) (fun k => k) (fun k => k ≤ 4 ∧ lessF (wtimes (sqA m) m) ([0, 0, 0, n] : List Int) 4 = lessF (wtimes (sqA m) m) ([0, 0, 0, n] : List Int) k) 4 ⟨Nat.le_refl _, rfl⟩ (qH (i := 7) rfl (qH (i := 8) rfl (qE (i := 9) rfl (by first | omega | rfl) (qK)))) (fun w h => h) (fun k hC0 => ?_)
 iterate 7 refine gx ?_
 refine qQ rfl (fun hq0 => ?_) (fun hq0 => ?_)
 ·obtain ⟨j, rfl⟩ : ∃ j, k = j + 1 := ⟨k - 1, by omega⟩
  iterate 5 refine gx ?_
  refine qs (by kernel_rfl) [0, 0, 1, 0, 0, 1, 0] rfl (by kernel_rfl) ?_
  refine gx ?_
  refine qG (qA rfl) rfl (fun _ => qd rfl Tryz.underlying151 size73 rfl rfl (i := j) (by omega) (by omega) (off' := j) (by omega)) ?_
  refine qX (qA rfl) rfl (qJ rfl agg73 rfl (qO (i := 1) (ent := ⟨g1, 151, (wtimes (sqA m) m).map (int .u64), 4⟩) (off := j) rfl rfl (by have := qS (kd := .u64) (W := (wtimes (sqA m) m)) (i := j) (by rw [(wtimes_len (sqA m) m)]; omega); (first | exact this | (refine Eq.trans ?_ this; congr 1; omega))))) ?_
  refine gx ?_
  refine qG (qA rfl) rfl (fun _ => qd rfl Tryz.underlying151 size73 rfl rfl (i := j) (by omega) (by omega) (off' := j) (by omega)) ?_
  refine qX (qA rfl) rfl (qJ rfl agg73 rfl (qO (i := 0) (ent := ⟨g2, 151, ([0, 0, 0, n] : List Int).map (int .u64), 4⟩) (off := j) rfl rfl (by have := qS (kd := .u64) (W := ([0, 0, 0, n] : List Int)) (i := j) (by rw [(four_len _ _ _ _)]; omega); (first | exact this | (refine Eq.trans ?_ this; congr 1; omega))))) ?_
  iterate 3 refine gx ?_
  refine qC [7, 8, 9, 35] ?_
  refine qQ rfl (fun hq1 => ?_) (fun hq1 => ?_)
  ·refine gx ?_
   refine qs (by kernel_rfl) [0, 0, 1, 0, 0, 1, 0, 0] rfl (by kernel_rfl) ?_
   refine gx ?_
   refine qG (qA rfl) rfl (fun _ => qd rfl Tryz.underlying151 size73 rfl rfl (i := j) (by omega) (by omega) (off' := j) (by omega)) ?_
   refine qX (qA rfl) rfl (qJ rfl agg73 rfl (qO (i := 1) (ent := ⟨g1, 151, (wtimes (sqA m) m).map (int .u64), 4⟩) (off := j) rfl rfl (by have := qS (kd := .u64) (W := (wtimes (sqA m) m)) (i := j) (by rw [(wtimes_len (sqA m) m)]; omega); (first | exact this | (refine Eq.trans ?_ this; congr 1; omega))))) ?_
   refine gx ?_
   refine qG (qA rfl) rfl (fun _ => qd rfl Tryz.underlying151 size73 rfl rfl (i := j) (by omega) (by omega) (off' := j) (by omega)) ?_
   refine qX (qA rfl) rfl (qJ rfl agg73 rfl (qO (i := 0) (ent := ⟨g2, 151, ([0, 0, 0, n] : List Int).map (int .u64), 4⟩) (off := j) rfl rfl (by have := qS (kd := .u64) (W := ([0, 0, 0, n] : List Int)) (i := j) (by rw [(four_len _ _ _ _)]; omega); (first | exact this | (refine Eq.trans ?_ this; congr 1; omega))))) ?_
   iterate 10 refine gx ?_
   exact qN rfl rfl (fun w hs => ⟨by rw [hC0.2, lessF, if_pos hq1], hs.dp⟩)
  ·iterate 5 refine gx ?_
   refine qB (qA rfl) rfl (qu rfl rfl rfl (r := ((j : Int) - 1)) (w64 (by omega) (by omega))) ?_
   iterate 2 refine gx ?_
   exact qc j (by omega) ⟨by omega, by rw [hC0.2, lessF, if_neg hq1]⟩ (qH (i := 7) rfl (qH (i := 8) rfl (qE (i := 9) rfl (by first | omega | rfl) (qK)))) (fun w h => h)
 ·obtain rfl : k = 0 := by omega
  iterate 11 refine gx ?_
  exact qN rfl rfl (fun w hs => ⟨by rw [hC0.2]; rfl, hs.dp⟩)
def lessM (m n : Int) : Bool → Bool
 | true => lessF (wtimes (sqA m) m) [0, 0, 0, n] 4
 | false => lessF (sqA m) [0, 0, n, 0] 4
def bis (n : Int) (c : Bool) : Nat → Int × Int
 | 0 => (0, if c then 34359738368 else 68719476736)
 | k + 1 => if 1 < (bis n c k).2 - (bis n c k).1 then (if lessM (((bis n c k).1 + (bis n c k).2) / 2) n c then (((bis n c k).1 + (bis n c k).2) / 2, (bis n c k).2) else ((bis n c k).1, ((bis n c k).1 + (bis n c k).2) / 2)) else bis n c k
theorem bis_stay {n : Int} {c : Bool} {k : Nat} (h : ¬ 1 < (bis n c k).2 - (bis n c k).1) : ∀ d, bis n c (k + d) = bis n c k
 | 0 => rfl
 | d + 1 => by
  have ih := bis_stay h d
  show (if 1 < (bis n c (k + d)).2 - (bis n c (k + d)).1 then _ else bis n c (k + d)) = _
  rw [ih, if_neg h]
theorem bis_end {n : Int} {c : Bool} {k : Nat} (h : ¬ 1 < (bis n c k).2 - (bis n c k).1) (h40 : ¬ 1 < (bis n c 40).2 - (bis n c 40).1) : bis n c k = bis n c 40 := by
 by_cases hk : k ≤ 40
 ·obtain ⟨d, hd⟩ := Nat.exists_eq_add_of_le hk
  rw [hd]; exact (bis_stay h d).symm
 ·obtain ⟨d, hd⟩ := Nat.exists_eq_add_of_le (show 40 ≤ k by omega)
  rw [hd]; exact bis_stay h40 d
attribute [irreducible] sqA lessF lessM
theorem leastM2_c (m n : Int) (w : World) : Calls Tryz.prog 86 #[.int .u64 m, .int .u64 n, .bool false] w fun e w' => e = .returned (.bool (lessM m n false)) ∧ St w [] w' := by
 have h := least2_c m n w
 rw [show lessM m n false = lessF (sqA m) [0, 0, n, 0] 4 by unfold lessM; rfl]
 exact h
theorem leastM3_c (m n : Int) (w : World) : Calls Tryz.prog 86 #[.int .u64 m, .int .u64 n, .bool true] w fun e w' => e = .returned (.bool (lessM m n true)) ∧ St w [] w' := by
 have h := least3_c m n w
 rw [show lessM m n true = lessF (wtimes (sqA m) m) [0, 0, 0, n] 4 by unfold lessM; rfl]
 exact h
theorem root2_c (n : Int) (w : World) (hfix : ¬ 1 < (bis n false 40).2 - (bis n false 40).1) : Calls Tryz.prog 60 #[.int .u64 n, .bool false] w fun e w' => e = .returned (.int .u32 (IntKind.u32.wrap (bis n false 40).1)) ∧ St w [] w' := by
 refine qP (args := [.int .u64 n, .bool false]) Tryz.func60 rfl Tryz.ntmps60 (by simp) ?_
 refine qC [0, 1] ?_
 iterate 21 refine gx ?_
 refine ql rfl ?_
 iterate 4 refine gx ?_
 refine qe (ι := Nat) (fun k => [(0, .int .u64 n), (1, .bool false), (5, .int .u64 ((bis n false k).1)), (6, .int .u64 ((bis n false k).2))]) (fun k => []) (fun k => ((bis n false k).2 - (bis n false k).1).toNat) (fun k => 0 ≤ (bis n false k).1 ∧ (bis n false k).1 < (bis n false k).2 ∧ (bis n false k).2 ≤ 68719476736) 0 ⟨by show (0 : Int) ≤ 0; omega, by show (0 : Int) < 68719476736; omega, by show (68719476736 : Int) ≤ 68719476736; omega⟩ (qE (i := 0) rfl (by first | rfl | omega) (qH (i := 1) rfl (qE (i := 5) rfl (by first | rfl | omega) (qE (i := 6) rfl (by first | rfl | omega) (qK))))) (fun w h => h) (fun k hC0 => ?_)
 iterate 5 refine gx ?_
 refine qB (qA rfl) rfl (qu rfl rfl rfl (r := (((bis n false k).2) - ((bis n false k).1))) (wu64 (by omega) (by omega))) ?_
 iterate 3 refine gx ?_
 refine qQ rfl (fun hq0 => ?_) (fun hq0 => ?_)
 ·iterate 7 refine gx ?_
  refine qB (qA rfl) rfl (qU rfl rfl rfl (r := (((bis n false k).1) + ((bis n false k).2))) (wu64 (by omega) (by omega))) ?_
  refine qB (qA rfl) rfl (Gets.quo rfl rfl rfl (by omega) (r := ((((bis n false k).1) + ((bis n false k).2)) / 2)) (tdiv_pos (by omega) (wu64 (by omega) (by omega)))) ?_
  iterate 3 refine gx ?_
  refine qC [0, 1, 5, 6, 7] ?_
  iterate 5 refine gx ?_
  refine qR (qA rfl) rfl enters86 rfl rfl (v := .bool (lessM ((((bis n false k).1) + ((bis n false k).2)) / 2) n false)) (fun w hs => leastM2_c ((((bis n false k).1) + ((bis n false k).2)) / 2) n w) ?_
  iterate 2 refine gx ?_
  refine qC [0, 1, 5, 6, 7, 20] ?_
  refine TC.splitB rfl (fun hq1 => ?_) (fun hq1 => ?_)
  ·iterate 5 refine gx ?_
   have e1 : bis n false (k + 1) = (if 1 < (bis n false k).2 - (bis n false k).1 then (if lessM (((bis n false k).1 + (bis n false k).2) / 2) n false then ((((bis n false k).1 + (bis n false k).2) / 2), (bis n false k).2) else ((bis n false k).1, (((bis n false k).1 + (bis n false k).2) / 2))) else bis n false k) := rfl
   rw [if_pos hq0, hq1] at e1
   simp only [if_true, Bool.false_eq_true, if_false] at e1
   have e2 := congrArg Prod.fst e1
   have e3 := congrArg Prod.snd e1
   dsimp only at e2 e3
   exact qc (k + 1) (by omega) ⟨by omega, by omega, by omega⟩ (qE (i := 0) rfl (by first | rfl | omega) (qH (i := 1) rfl (qE (i := 5) rfl (by first | rfl | omega) (qE (i := 6) rfl (by first | rfl | omega) (qK))))) (fun w h => h)
  ·iterate 5 refine gx ?_
   have e1 : bis n false (k + 1) = (if 1 < (bis n false k).2 - (bis n false k).1 then (if lessM (((bis n false k).1 + (bis n false k).2) / 2) n false then ((((bis n false k).1 + (bis n false k).2) / 2), (bis n false k).2) else ((bis n false k).1, (((bis n false k).1 + (bis n false k).2) / 2))) else bis n false k) := rfl
   rw [if_pos hq0, hq1] at e1
   simp only [if_true, Bool.false_eq_true, if_false] at e1
   have e2 := congrArg Prod.fst e1
   have e3 := congrArg Prod.snd e1
   dsimp only at e2 e3
   exact qc (k + 1) (by omega) ⟨by omega, by omega, by omega⟩ (qE (i := 0) rfl (by first | rfl | omega) (qH (i := 1) rfl (qE (i := 5) rfl (by first | rfl | omega) (qE (i := 6) rfl (by first | rfl | omega) (qK))))) (fun w h => h)
 ·have hend := bis_end hq0 hfix
  iterate 8 refine gx ?_
  refine qB (qA rfl) rfl (qv rfl Tryz.underlying73 Tryz.underlying96 rfl (r := (IntKind.u32.wrap ((bis n false k).1))) rfl) ?_
  iterate 4 refine gx ?_
  exact qN rfl rfl (fun w hs => ⟨by rw [hend], hs⟩)
theorem root3_c (n : Int) (w : World) (hfix : ¬ 1 < (bis n true 40).2 - (bis n true 40).1) : Calls Tryz.prog 60 #[.int .u64 n, .bool true] w fun e w' => e = .returned (.int .u32 (IntKind.u32.wrap (bis n true 40).1)) ∧ St w [] w' := by
 refine qP (args := [.int .u64 n, .bool true]) Tryz.func60 rfl Tryz.ntmps60 (by simp) ?_
 refine qC [0, 1] ?_
 iterate 21 refine gx ?_
 refine qq rfl ?_
 iterate 6 refine gx ?_
 refine qe (ι := Nat) (fun k => [(0, .int .u64 n), (1, .bool true), (5, .int .u64 ((bis n true k).1)), (6, .int .u64 ((bis n true k).2))]) (fun k => []) (fun k => ((bis n true k).2 - (bis n true k).1).toNat) (fun k => 0 ≤ (bis n true k).1 ∧ (bis n true k).1 < (bis n true k).2 ∧ (bis n true k).2 ≤ 68719476736) 0 ⟨by show (0 : Int) ≤ 0; omega, by show (0 : Int) < 34359738368; omega, by show (34359738368 : Int) ≤ 68719476736; omega⟩ (qE (i := 0) rfl (by first | rfl | omega) (qH (i := 1) rfl (qE (i := 5) rfl (by first | rfl | omega) (qE (i := 6) rfl (by first | rfl | omega) (qK))))) (fun w h => h) (fun k hC0 => ?_)
 iterate 5 refine gx ?_
 refine qB (qA rfl) rfl (qu rfl rfl rfl (r := (((bis n true k).2) - ((bis n true k).1))) (wu64 (by omega) (by omega))) ?_
 iterate 3 refine gx ?_
 refine qQ rfl (fun hq0 => ?_) (fun hq0 => ?_)
 ·iterate 7 refine gx ?_
  refine qB (qA rfl) rfl (qU rfl rfl rfl (r := (((bis n true k).1) + ((bis n true k).2))) (wu64 (by omega) (by omega))) ?_
  refine qB (qA rfl) rfl (Gets.quo rfl rfl rfl (by omega) (r := ((((bis n true k).1) + ((bis n true k).2)) / 2)) (tdiv_pos (by omega) (wu64 (by omega) (by omega)))) ?_
  iterate 3 refine gx ?_
  refine qC [0, 1, 5, 6, 7] ?_
  iterate 5 refine gx ?_
  refine qR (qA rfl) rfl enters86 rfl rfl (v := .bool (lessM ((((bis n true k).1) + ((bis n true k).2)) / 2) n true)) (fun w hs => leastM3_c ((((bis n true k).1) + ((bis n true k).2)) / 2) n w) ?_
  iterate 2 refine gx ?_
  refine qC [0, 1, 5, 6, 7, 20] ?_
  refine TC.splitB rfl (fun hq1 => ?_) (fun hq1 => ?_)
  ·iterate 5 refine gx ?_
   have e1 : bis n true (k + 1) = (if 1 < (bis n true k).2 - (bis n true k).1 then (if lessM (((bis n true k).1 + (bis n true k).2) / 2) n true then ((((bis n true k).1 + (bis n true k).2) / 2), (bis n true k).2) else ((bis n true k).1, (((bis n true k).1 + (bis n true k).2) / 2))) else bis n true k) := rfl
   rw [if_pos hq0, hq1] at e1
   simp only [if_true, Bool.false_eq_true, if_false] at e1
   have e2 := congrArg Prod.fst e1
   have e3 := congrArg Prod.snd e1
   dsimp only at e2 e3
   exact qc (k + 1) (by omega) ⟨by omega, by omega, by omega⟩ (qE (i := 0) rfl (by first | rfl | omega) (qH (i := 1) rfl (qE (i := 5) rfl (by first | rfl | omega) (qE (i := 6) rfl (by first | rfl | omega) (qK))))) (fun w h => h)
  ·iterate 5 refine gx ?_
   have e1 : bis n true (k + 1) = (if 1 < (bis n true k).2 - (bis n true k).1 then (if lessM (((bis n true k).1 + (bis n true k).2) / 2) n true then ((((bis n true k).1 + (bis n true k).2) / 2), (bis n true k).2) else ((bis n true k).1, (((bis n true k).1 + (bis n true k).2) / 2))) else bis n true k) := rfl
   rw [if_pos hq0, hq1] at e1
   simp only [if_true, Bool.false_eq_true, if_false] at e1
   have e2 := congrArg Prod.fst e1
   have e3 := congrArg Prod.snd e1
   dsimp only at e2 e3
   exact qc (k + 1) (by omega) ⟨by omega, by omega, by omega⟩ (qE (i := 0) rfl (by first | rfl | omega) (qH (i := 1) rfl (qE (i := 5) rfl (by first | rfl | omega) (qE (i := 6) rfl (by first | rfl | omega) (qK))))) (fun w h => h)
 ·have hend := bis_end hq0 hfix
  iterate 8 refine gx ?_
  refine qB (qA rfl) rfl (qv rfl Tryz.underlying73 Tryz.underlying96 rfl (r := (IntKind.u32.wrap ((bis n true k).1))) rfl) ?_
  iterate 4 refine gx ?_
  exact qN rfl rfl (fun w hs => ⟨by rw [hend], hs⟩)
end Go.Proofs.YtegddcklbmonfaaGreatDoor
