/-
  A region that draws its order, with operations that make memory and others that read what stays as it is all along.
-/
import Derived.Test.YtdllgfkcakhoeaaMixQ
import Derived.Test.YtdllgfkcakhoeaaMix3
namespace Go.Proofs.Ytdllgfkcakhoeaa
set_option linter.unusedVariables false
set_option linter.unusedSimpArgs false
set_option linter.unusedVariables false
open Go Go.RowKit
section
variable {P : Program} {ops : Array Oper} {md : Region.Mode}
def pairsOK9 (f : Nat → Nat → Bool) : List Nat → Bool
  | [] => true
  | i :: is => is.all (f i) && pairsOK9 f is
theorem pairsOK_spec9 {f : Nat → Nat → Bool} : ∀ {is : List Nat}, pairsOK9 f is = true → is.Pairwise (fun i j => f i j = true)
  | [], _ => .nil
  | i :: is, h => by
    unfold pairsOK9 at h
    simp only [Bool.and_eq_true, List.all_eq_true] at h
    exact .cons h.1 (pairsOK_spec9 h.2)
/-- i may stand before j. -/
def pairOK9 (md : Region.Mode) (ops : Array Oper) (ks ms : List Nat) (i j : Nat) : Bool :=
  !Nat.beq i j &&
  ((ms.getD j 0).testBit i || (match ops[i]? with
    | some oi => (match ops[j]? with | some oj => oi.apart ops oj && compat3 (ks.getD i 2) (ks.getD j 2) | none => true)
    | none => true)) &&
  (match ops[i]? with | some oi => oi.after.all (fun e => !Region.binds md e || !Nat.beq e.on j) | none => true)
def mixOKp9 (md : Region.Mode) (ops : Array Oper) (ks p : List Nat) : Bool :=
  Region.noSelect ops && Nat.beq p.length ops.size && ((List.range ops.size).all fun q => p.any (Nat.beq q)) &&
  (let ms := masks md ops
   p.all (fun i => decide (i < ops.size) && (match ops[i]? with | some oi => oi.after.all (fun e => !Region.binds md e || (!Nat.beq e.on i && decide (e.on < ops.size))) | none => true)) &&
   pairsOK9 (pairOK9 md ops ks ms) p)
def PairP9 (md : Region.Mode) (ops : Array Oper) (ks : List Nat) (i j : Nat) : Prop :=
  i ≠ j ∧ (∀ oi oj, ops[i]? = some oi → ops[j]? = some oj → Before md ops j i ∨ (oi.apart ops oj = true ∧ compat3 (ks.getD i 2) (ks.getD j 2) = true)) ∧
  ∀ oi, ops[i]? = some oi → ∀ e ∈ oi.after, Region.binds md e = true → e.on ≠ j
theorem nbeq_ne9 {a b : Nat} (h : Nat.beq a b = false) : a ≠ b := fun e => by
  subst e
  rw [Nat.beq_refl] at h
  cases h
theorem pairOK_spec9 {ks : List Nat} {i j : Nat} (h : pairOK9 md ops ks (masks md ops) i j = true) : PairP9 md ops ks i j := by
  unfold pairOK9 at h
  simp only [Bool.and_eq_true, Bool.or_eq_true, Bool.not_eq_true'] at h
  obtain ⟨⟨h1, h2⟩, h3⟩ := h
  refine ⟨nbeq_ne9 h1, fun oi oj hi hj => ?_, fun oi hi e he hb => ?_⟩
  · rcases h2 with h2 | h2
    · exact .inl (masks_spec h2)
    · rw [hi, hj] at h2
      simp only [Bool.and_eq_true] at h2
      exact .inr h2
  · rw [hi] at h3
    simp only [Array.all_eq_true_iff_forall_mem, Bool.or_eq_true, Bool.not_eq_true'] at h3
    exact nbeq_ne9 ((h3 e he).resolve_left (by simp [hb]))
theorem mixOKp_spec9 {ks p : List Nat} (h : mixOKp9 md ops ks p = true) : Region.noSelect ops = true ∧ p.length = ops.size ∧ (∀ q, q < ops.size → q ∈ p) ∧
    (∀ i ∈ p, i < ops.size ∧ ∀ oi, ops[i]? = some oi → ∀ e ∈ oi.after, Region.binds md e = true → e.on ≠ i ∧ e.on < ops.size) ∧ p.Pairwise (PairP9 md ops ks) := by
  unfold mixOKp9 at h
  simp only [Bool.and_eq_true, List.all_eq_true, decide_eq_true_eq] at h
  obtain ⟨⟨⟨h1, h2⟩, h7⟩, h3, h4⟩ := h
  refine ⟨h1, Nat.eq_of_beq_eq_true h2, fun q hq => ?_, fun i hi => ⟨(h3 i hi).1, fun oi hoi e he hb => ?_⟩, (pairsOK_spec9 h4).imp pairOK_spec9⟩
  · obtain ⟨r, hr, hqr⟩ := List.any_eq_true.1 (h7 q (List.mem_range.2 hq))
    rw [Nat.eq_of_beq_eq_true hqr]; exact hr
  have h5 := (h3 i hi).2
  rw [hoi] at h5
  simp only [Array.all_eq_true_iff_forall_mem, Bool.or_eq_true, Bool.and_eq_true, Bool.not_eq_true', decide_eq_true_eq] at h5
  have h6 := (h5 e he).resolve_left (by simp [hb])
  exact ⟨nbeq_ne9 h6.1, h6.2⟩
/-- The operations in the chosen order. -/
def pickO9 (l : List Oper) : List Nat → List Oper
  | [] => []
  | i :: is => match l[i]? with
    | some o => o :: pickO9 l is
    | none => pickO9 l is
def pickK9 (ks : List Nat) : List Nat → List Nat
  | [] => []
  | i :: is => ks.getD i 2 :: pickK9 ks is
/-- An operation's step; B holds all along; kind 0: it reads no more than B says. -/
def StepB (P : Program) (ops : Array Oper) (B : World → Prop) (kind : Nat) (o : Oper) (v : Value) (a : Act) (S S' : World → Prop) : Prop :=
  match kind with
  | 0 => (∀ S0, (∀ w, S0 w → B w) → Fixed P ops S0 o v a) ∧ S' = S
  | _ => Fixed P ops S o v a ∧ S' = S
theorem StepB.of_same {B : World → Prop} {kind : Nat} {o : Oper} {v : Value} {a a' : Act} {S S' : World → Prop} (h : StepB P ops B kind o v a S S') (he : execOp a'.eval o = execOp a.eval o)
    (hw : Region.wanted o (yielded ops a'.tmps) = Region.wanted o (yielded ops a.tmps)) : StepB P ops B kind o v a' S S' := by
  unfold StepB at *
  split at h
  · exact ⟨fun S0 h0 => (h.1 S0 h0).of_same he hw, h.2⟩
  · exact ⟨h.1.of_same he hw, h.2⟩
theorem StepB.eq {B : World → Prop} {kind : Nat} {o : Oper} {v : Value} {a : Act} {S S' : World → Prop} (h : StepB P ops B kind o v a S S') : S' = S := by
  unfold StepB at h
  split at h <;> exact h.2
theorem StepB.wpOp {B : World → Prop} {kind i : Nat} {o : Oper} {v : Value} {a : Act} {S S' : World → Prop} (hi : ops[i]? = some o) (h : StepB P ops B kind o v a S S') (hB : ∀ w, S w → B w) {Q : Exit → Act → World → Prop}
    {K : Act → World → Prop} {w : World} (hS : S w) (hK : ∀ w', S' w' → K (a.put o.dst v) w') : wpOp P ops Q i K a w := by
  unfold StepB at h
  split at h
  · obtain ⟨h, rfl⟩ := h; exact (h S' hB).wpOp hi hS hK
  · obtain ⟨h, rfl⟩ := h; exact h.wpOp hi hS hK
def MixSeqB (P : Program) (ops : Array Oper) (B : World → Prop) (K : Nat → Nat) (T : Act → World → Prop) : List Nat → Act → (World → Prop) → Prop
  | [], a, S => ∀ w, S w → T a w
  | i :: is, a, S => ∃ o, ops[i]? = some o ∧ ((K i ≠ 3 ∧ ∃ v S', StepB P ops B (K i) o v a S S' ∧ MixSeqB P ops B K T is (a.put o.dst v) S') ∨
      (K i = 3 ∧ ∃ R, Many P ops o a S R ∧ ∀ v S', R v S' → (∀ w, S' w → B w) ∧ MixSeqB P ops B K T is (a.put o.dst v) S'))
theorem MixSeqB.first {B : World → Prop} {K : Nat → Nat} {T : Act → World → Prop} (hsel : ∀ (j : Nat) (o : Oper) cs b, ops[j]? = some o → o.op ≠ .select cs b) {j : Nat} {oj : Oper} (hj : ops[j]? = some oj) (hj3 : K j ≠ 3) (post : List Nat) :
    ∀ (pre : List Nat) (a : Act) (S : World → Prop), (∀ i oi, i ∈ pre → ops[i]? = some oi → oi.apart ops oj = true ∧ compat3 (K i) (K j) = true) → MixSeqB P ops B K T (pre ++ j :: post) a S →
      ∃ vj S', StepB P ops B (K j) oj vj a S S' ∧ MixSeqB P ops B K T (pre ++ post) (a.put oj.dst vj) S'
  | [], a, S, _, h => by
    obtain ⟨o, ho, h⟩ := h
    rw [hj] at ho; cases ho
    obtain ⟨_, v, S', hf, hs⟩ := h.resolve_right (fun h => hj3 h.1)
    exact ⟨v, S', hf, hs⟩
  | i :: pre, a, S, hap, h => by
    obtain ⟨oi, hi, h⟩ := h
    obtain ⟨hap1, hcomp⟩ := hap i oi List.mem_cons_self hi
    have hi3 : K i ≠ 3 := by
      intro hc
      unfold compat3 at hcomp
      rw [hc] at hcomp
      simp at hcomp
    obtain ⟨_, vi, Si, hf, hs⟩ := h.resolve_right (fun h => hi3 h.1)
    obtain rfl := hf.eq
    obtain ⟨vj, Sj, hfj, hsj⟩ := MixSeqB.first hsel hj hj3 post pre (a.put oi.dst vi) Si (fun k ok hk => hap k ok (List.mem_cons_of_mem _ hk)) hs
    obtain rfl := hfj.eq
    obtain ⟨h1, h2, h3⟩ := Oper.apart_spec hap1
    have ej := execOp_put oj (fun cs b => hsel j oj cs b hj) a oi.dst vi h1
    have wj := wanted_put oj a oi.dst vi h1
    have ei := execOp_put oi (fun cs b => hsel i oi cs b hi) a oj.dst vj h3
    have wi := wanted_put oi a oj.dst vj h3
    have hcm := Act.put_comm a vi vj h2
    exact ⟨vj, _, hfj.of_same ej.symm wj.symm, oi, hi, .inl ⟨hi3, vi, _, hf.of_same ei wi, by rw [← hcm]; exact hsj⟩⟩
theorem MixSeqB.first3 {B : World → Prop} {K : Nat → Nat} {T : Act → World → Prop} (hsel : ∀ (j : Nat) (o : Oper) cs b, ops[j]? = some o → o.op ≠ .select cs b) {j : Nat} {oj : Oper} (hj : ops[j]? = some oj) (hj3 : K j = 3) (post : List Nat) :
    ∀ (pre : List Nat) (a : Act) (S : World → Prop), (∀ i oi, i ∈ pre → ops[i]? = some oi → oi.apart ops oj = true ∧ compat3 (K i) (K j) = true) → MixSeqB P ops B K T (pre ++ j :: post) a S →
      ∃ R, Many P ops oj a S R ∧ ∀ v S', R v S' → (∀ w, S' w → B w) ∧ MixSeqB P ops B K T (pre ++ post) (a.put oj.dst v) S'
  | [], a, S, _, h => by
    obtain ⟨o, ho, h⟩ := h
    rw [hj] at ho; cases ho
    exact (h.resolve_left (fun h => h.1 hj3)).2
  | i :: pre, a, S, hap, h => by
    obtain ⟨oi, hi, h⟩ := h
    obtain ⟨hap1, hcomp⟩ := hap i oi List.mem_cons_self hi
    have hk : K i = 0 := by
      unfold compat3 at hcomp
      rw [hj3] at hcomp
      simp at hcomp
      exact hcomp
    obtain ⟨hi3, vi, Si, hf, hs⟩ := h.resolve_right (fun h => by rw [hk] at h; cases h.1)
    obtain rfl := hf.eq
    obtain ⟨R, hfj, hsj⟩ := MixSeqB.first3 hsel hj hj3 post pre (a.put oi.dst vi) Si (fun k ok hk => hap k ok (List.mem_cons_of_mem _ hk)) hs
    obtain ⟨h1, h2, h3⟩ := Oper.apart_spec hap1
    have ej := execOp_put oj (fun cs b => hsel j oj cs b hj) a oi.dst vi h1
    have wj := wanted_put oj a oi.dst vi h1
    rw [hk] at hf
    obtain ⟨hfree, _⟩ := hf
    refine ⟨R, hfj.of_same ej.symm wj.symm, fun v S' hR => ⟨(hsj v S' hR).1, oi, hi, .inl ⟨hi3, vi, S', ?_, ?_⟩⟩⟩
    · have ei := execOp_put oi (fun cs b => hsel i oi cs b hi) a oj.dst v h3
      have wi := wanted_put oi a oj.dst v h3
      rw [hk]
      exact ⟨fun S0 h0 => (hfree S0 h0).of_same ei wi, rfl⟩
    · rw [← Act.put_comm a vi v h2]; exact (hsj v S' hR).2
theorem wpAny_of_mixB {Q : Exit → Act → World → Prop} {B : World → Prop} {ks p : List Nat} (hns : Region.noSelect ops = true) (hself : ∀ i ∈ p, i < ops.size ∧ ∀ oi, ops[i]? = some oi → ∀ e ∈ oi.after, Region.binds md e = true → e.on ≠ i ∧ e.on < ops.size) :
    ∀ (n : Nat) (is : List Nat) (listed : Array Bool) (a : Act) (w : World) (S : World → Prop), is.length = n → is.Pairwise (PairP9 md ops ks) → (∀ i ∈ is, i ∈ p) → Lists ops.size md ops is listed → MixSeqB P ops B (ks.getD · 2) (Q .normal) is a S → (∀ w, S w → B w) → S w →
      wpAny P md ops Q n listed a w := by
  have hsel := Region.noSelect_spec hns
  intro n
  induction n with
  | zero =>
    intro is listed a w S hlen _ _ hl hs hB hS
    obtain rfl : is = [] := List.length_eq_zero_iff.1 hlen
    refine wpAny_done ?_ (hs w hS) 0
    rw [List.eq_nil_iff_forall_not_mem]
    intro j hj
    obtain ⟨hjun, oj, hoj, _⟩ := mem_ready.1 hj
    have hjs : j < ops.size := (Array.getElem?_eq_some_iff.1 hoj).1
    have := (hl.2.1 j hjs).1 hjun
    simp at this
    omega
  | succ n ih =>
    intro is listed a w S hlen hpw hlt hl hs hB hS
    have hnd : is.Nodup := hpw.imp (fun h => h.1)
    refine ⟨fun hnone => ?_, fun j hj => ?_⟩
    · exfalso
      obtain ⟨i, is', rfl⟩ : ∃ i is', is = i :: is' := by
        cases is with
        | nil => simp at hlen
        | cons i is' => exact ⟨i, is', rfl⟩
      obtain ⟨him, hafter⟩ := hself i (hlt i List.mem_cons_self)
      have hi : ops[i]? = some ops[i] := Array.getElem?_eq_getElem him
      have hmem : i ∈ Region.ready md ops listed := by
        rw [mem_ready]
        refine ⟨(hl.2.1 i him).2 (.inl List.mem_cons_self), _, hi, fun e he hb => ?_⟩
        obtain ⟨hne, hon⟩ := hafter _ hi e he hb
        rw [getD_false_of (by rw [hl.1]; exact hon), hl.2.1 e.on hon]
        rintro (h | h)
        · rcases List.mem_cons.1 h with h | h
          · exact hne h
          · exact ((List.pairwise_cons.1 hpw).1 _ h).2.2 _ hi e he hb rfl
        · omega
      rw [hnone] at hmem
      cases hmem
    · obtain ⟨hjun, oj, hoj, hall⟩ := mem_ready.1 hj
      have hjs : j < ops.size := (Array.getElem?_eq_some_iff.1 hoj).1
      have hnw : ∀ i ∈ is, ¬ Before md ops j i := fun i hi hw => by
        have h1 := hw listed hl.2.2 (fun o ho' e he hb => by rw [hoj] at ho'; cases ho'; exact hall e he hb)
        have him := (hself i (hlt i hi)).1
        exact (getD_false_of (by rw [hl.1]; omega)).1 h1 ((hl.2.1 i him).2 (.inl hi))
      have hjin : j ∈ is := by
        rcases (hl.2.1 j hjs).1 hjun with h | h
        · exact h
        · omega
      obtain ⟨pre, post, rfl⟩ := List.append_of_mem hjin
      have hap : ∀ i oi, i ∈ pre → ops[i]? = some oi → oi.apart ops oj = true ∧ compat3 (ks.getD i 2) (ks.getD j 2) = true := fun i oi hi hoi => by
        have hij := (List.pairwise_append.1 hpw).2.2 i hi j List.mem_cons_self
        rcases hij.2.1 oi oj hoi hoj with hw | hap
        · exact absurd hw (hnw i (by simp [hi]))
        · exact hap
      have hsub : (pre ++ post).Sublist (pre ++ j :: post) := List.Sublist.append_left (List.sublist_cons_self _ _) _
      by_cases hk3 : ks.getD j 2 = 3
      · obtain ⟨R, hf, hs'⟩ := MixSeqB.first3 (K := (ks.getD · 2)) hsel hoj hk3 post pre a S hap hs
        obtain ⟨hr, hw⟩ := hf w hS
        unfold Go.wpOp
        simp only [hoj, hw, if_true, Oper.wp]
        refine .inl ?_
        have go : ∀ v S' w', R v S' → S' w' → wpAny P md ops Q n (listed.setIfInBounds j true) (a.put oj.dst v) w' := fun v S' w' hR hS' =>
          ih (pre ++ post) _ _ w' S' (by simp at hlen ⊢; omega) (hpw.sublist hsub) (fun i hi => hlt i (hsub.subset hi)) (hl.next rfl hnd hjs (Nat.le_refl _) hj) (hs' v S' hR).2 (hs' v S' hR).1 hS'
        rcases hr with ⟨v, w', S', hr, hR, hS'⟩ | ⟨f, vs, w', hr, hc⟩
        · rw [hr]; exact go v S' w' hR hS'
        · rw [hr]
          refine hc.mono ?_
          rintro e w'' ⟨v, S', rfl, hR, hS'⟩
          exact go v S' w'' hR hS'
      · obtain ⟨vj, S', hf, hs'⟩ := MixSeqB.first (K := (ks.getD · 2)) hsel hoj hk3 post pre a S hap hs
        have hB' : ∀ w, S' w → B w := by rw [hf.eq]; exact hB
        refine hf.wpOp hoj hB hS fun w' hS' => ?_
        exact ih (pre ++ post) _ _ w' S' (by simp at hlen ⊢; omega) (hpw.sublist hsub) (fun i hi => hlt i (hsub.subset hi)) (hl.next rfl hnd hjs (Nat.le_refl _) hj) hs' hB' hS'
def MixMB (P : Program) (ops : Array Oper) (B : World → Prop) (T : Act → World → Prop) : List Nat → List Oper → Act → (World → Prop) → Prop
  | [], [], a, S => ∀ w, S w → T a w
  | k :: ks, o :: rest, a, S => (k ≠ 3 ∧ ∃ v S', StepB P ops B k o v a S S' ∧ MixMB P ops B T ks rest (a.put o.dst v) S') ∨ (k = 3 ∧ ∃ R, Many P ops o a S R ∧ ∀ v S', R v S' → (∀ w, S' w → B w) ∧ MixMB P ops B T ks rest (a.put o.dst v) S')
  | _, _, _, _ => False
theorem MixMB.seqp {B : World → Prop} {T : Act → World → Prop} {l : List Oper} {ks : List Nat} : ∀ (p : List Nat) (a : Act) (S : World → Prop), (∀ i ∈ p, i < l.length) → MixMB P l.toArray B T (pickK9 ks p) (pickO9 l p) a S → MixSeqB P l.toArray B (ks.getD · 2) T p a S
  | [], _, _, _, h => h
  | i :: is, a, S, hp, h => by
    have hlt := hp i List.mem_cons_self
    have hi : l[i]? = some l[i] := List.getElem?_eq_getElem hlt
    unfold pickO9 pickK9 at h
    rw [hi] at h
    have rec_ : ∀ a S, MixMB P l.toArray B T (pickK9 ks is) (pickO9 l is) a S → MixSeqB P l.toArray B (ks.getD · 2) T is a S := fun a S h => MixMB.seqp is a S (fun j hj => hp j (List.mem_cons_of_mem _ hj)) h
    refine ⟨l[i], by rw [List.getElem?_toArray]; exact hi, ?_⟩
    rcases h with ⟨h1, v, S', h2, h3⟩ | ⟨h1, R, h2, h3⟩
    · exact .inl ⟨h1, v, S', h2, rec_ _ _ h3⟩
    · exact .inr ⟨h1, R, h2, fun v S' hR => ⟨(h3 v S' hR).1, rec_ _ _ (h3 v S' hR).2⟩⟩
theorem wp_mixB {Q : Exit → Act → World → Prop} {id : Nat} {l : List Oper} {a : Act} {w : World} {S B : World → Prop} (hmix : P.follows .mixedOrders = true) (ks p : List Nat) (ho : mixOKp9 .any l.toArray ks p = true)
    (hB : ∀ w, S w → B w) (hS : S w.drew) (h : MixMB P l.toArray B (Q .normal) (pickK9 ks p) (pickO9 l p) a S) : (Code.region id l.toArray true).wp P Q a w := by
  refine wpFrom_start hmix ?_
  intro listed hl
  have hsz : l.toArray.size = l.length := by simp
  obtain ⟨hns, hlen, hall, hself, hpw⟩ := mixOKp_spec9 ho
  have := wpAny_of_mixB (P := P) (Q := Q) (ks := ks) hns hself l.length p listed a w.drew S (hlen.trans hsz) hpw (fun i hi => hi)
    ⟨hl.1, fun q hq => by
      rw [hl.2.1 q hq]
      have := hall q hq
      simp [this], hl.2.2⟩ (MixMB.seqp p a S (fun i hi => by rw [← hsz]; exact (hself i hi).1) h) hB hS
  rw [hsz, Nat.sub_zero]
  exact this
end
section
variable {P : Program} {ops : Array Oper} {Q : Exit → Act → World → Prop} {n : Sz} {w0 : World} {L L' : List (Nat × Value)} {HB H : List Ent}
variable {o : Oper} {rest : List Oper} {v u : Value} {x y z : Operand} {k m j : Nat} {t t' e : TypeId} {ks : List Nat} {kd : IntKind}
/-- What stays: the blocks HB. -/
def Stays (w0 : World) (HB : List Ent) (w : World) : Prop := ∃ H', St w0 (HB ++ H') w
def TP (P : Program) (ops : Array Oper) (Q : Exit → Act → World → Prop) (n : Sz) (w0 : World) (HB : List Ent) (ks : List Nat) (rest : List Oper) (L : List (Nat × Value)) (H : List Ent) : Prop :=
  ∀ a, Fr n L a → MixMB P ops (Stays w0 HB) (Q .normal) ks rest a (St w0 (HB ++ H))
theorem TC.mixB {id : Nat} {l : List Oper} (hmix : P.follows .mixedOrders = true) (ks p : List Nat) (ho : mixOKp9 .any l.toArray ks p = true) (h : TP P l.toArray Q n w0 HB (pickK9 ks p) (pickO9 l p) L H) (hmd : n.md = .plain := by rfl) : TC P Q n w0 (.region id l.toArray true) L (HB ++ H) :=
  fun a w hf hs => by rw [hmd]; exact wp_mixB hmix ks p ho (fun w h => ⟨H, h⟩) hs.drew (h a hf)
theorem TP.nil (h : TE Q .normal n w0 L (HB ++ H)) : TP P ops Q n w0 HB [] [] L H := fun a hf w hs => h a w hf hs
theorem TP.free (hg : Wants n ops L o) (hi : inside n o.dst = true) (h : ∀ w0, Gets P n w0 o L [] v) (hr : TP P ops Q n w0 HB ks rest (put L o.dst v) H) : TP P ops Q n w0 HB (0 :: ks) (o :: rest) L H :=
  fun a hf => .inl ⟨by decide, v, St w0 (HB ++ H), ⟨fun S0 _ => .inl ⟨hg a hf, fun w hS => by rw [h w a w hf (St.refl w)]; exact ⟨rfl, hS⟩⟩, rfl⟩, hr _ (hf.put o.dst v hi)⟩
theorem TP.stay (hg : Wants n ops L o) (hi : inside n o.dst = true) (h : ∀ H', Gets P n w0 o L (HB ++ H') v) (hr : TP P ops Q n w0 HB ks rest (put L o.dst v) H) : TP P ops Q n w0 HB (0 :: ks) (o :: rest) L H :=
  fun a hf => .inl ⟨by decide, v, St w0 (HB ++ H), ⟨fun S0 h0 => .inl ⟨hg a hf, fun w hS => by
    obtain ⟨H', hs⟩ := h0 w hS
    rw [h H' a w hf hs]; exact ⟨rfl, hS⟩⟩, rfl⟩, hr _ (hf.put o.dst v hi)⟩
theorem TP.pass {j d : Nat} {b c : Bool} (h : o.guard = some (j, c)) (hj : (ops[j]?).bind (·.dst) = some d) (hd : look L d = some (.bool b)) (hi : inside n o.dst = true) (hb : b = !c) (hr : TP P ops Q n w0 HB ks rest (put L o.dst undef) H) : TP P ops Q n w0 HB (0 :: ks) (o :: rest) L H :=
  fun a hf => .inl ⟨by decide, undef, St w0 (HB ++ H), ⟨fun S0 _ => .inr ⟨by subst hb; simp [Region.wanted, h, guard_val hf hj hd], rfl⟩, rfl⟩, hr _ (hf.put o.dst undef hi)⟩
theorem TP.gets (hg : Wants n ops L o) (hi : inside n o.dst = true) (h : Gets P n w0 o L (HB ++ H) v) (hr : TP P ops Q n w0 HB ks rest (put L o.dst v) H) : TP P ops Q n w0 HB (1 :: ks) (o :: rest) L H :=
  fun a hf => .inl ⟨by decide, v, St w0 (HB ++ H), ⟨.inl ⟨hg a hf, fun w hS => by rw [h a w hf hS]; exact ⟨rfl, hS⟩⟩, rfl⟩, hr _ (hf.put o.dst v hi)⟩
/-- A call that ends with one of many values, each with what it leaves. -/
theorem TP.call {ι : Type} {f : FuncId} {xs : List Operand} {ts : Array TypeId} {vs : List Value} {V : ι → Value} {R : ι → Prop} {H' : ι → List Ent} (hg : Wants n ops L o) (hi : inside n o.dst = true) (h : Enters P f)
    (ho : o.op = .call { callee := .value (.func f), args := xs.toArray, argTypes := ts }) (hx : evs L xs = some vs)
    (hc : ∀ w, St w0 (HB ++ H) w → Calls P f vs.toArray w fun e w' => ∃ i, e = .returned (V i) ∧ R i ∧ St w0 (HB ++ H' i) w')
    (hr : ∀ i, R i → TP P ops Q n w0 HB ks rest (put L o.dst (V i)) (H' i)) : TP P ops Q n w0 HB (3 :: ks) (o :: rest) L H :=
  fun a hf => .inr ⟨rfl, fun v S' => ∃ i, R i ∧ v = V i ∧ S' = St w0 (HB ++ H' i), fun w hs =>
    ⟨.inr ⟨f, vs.toArray, w, run_enter h ho hf hx, (hc w hs).mono fun e w' ⟨i, he, hR, hs'⟩ => ⟨V i, _, he, ⟨i, hR, rfl, rfl⟩, hs'⟩⟩, hg a hf⟩,
    fun v S' ⟨i, hR, h1, h2⟩ => by subst h1; subst h2; exact ⟨fun w hw => ⟨H' i, hw⟩, hr i hR _ (hf.put o.dst _ hi)⟩⟩
/-- A function's contract, of a world in which some blocks are known already. -/
theorem calls_over {f : FuncId} {fn : Func} {c : Code} {args : List Value} {w : World} {R : Ending → World → Prop} {N : Nat} (hf : P.funcs[f]? = some fn) (hb : fn.body = some c) (hN : fn.ntmps = N) (hl : args.length ≤ N) (hs : St w0 H w)
    (h : TC P (bodyPost P fn R) ⟨N, [], .plain⟩ w0 c (args.zipIdx.map fun x => (x.2, x.1)) H) : Calls P f args.toArray w R := by
  subst hN
  refine calls_of_wp hf hb (h _ w ⟨rfl, by simp; omega, ?_⟩ hs)
  intro i v hi
  have key : ∀ (l : List Value) (k : Nat), look ((l.zipIdx k).map fun x => (x.2, x.1)) i = some v → k ≤ i ∧ l[i - k]? = some v := by
    intro l
    induction l with
    | nil => intro k h; simp [look] at h
    | cons c l ih =>
      intro k h
      simp only [List.zipIdx_cons, List.map_cons, look] at h
      cases hb : Nat.beq i k with
      | true => rw [hb] at h; have := Nat.eq_of_beq_eq_true hb; subst this; simp at h; simp [h]
      | false =>
        rw [hb] at h
        obtain ⟨h1, h2⟩ := ih (k + 1) h
        refine ⟨by omega, ?_⟩
        rw [show i - k = (i - (k + 1)) + 1 by omega]
        simpa using h2
  obtain ⟨_, h2⟩ := key args 0 hi
  have hlt : i < args.length := (List.getElem?_eq_some_iff.1 h2).1
  simp only [Nat.sub_zero] at h2
  have h3 : args[i] = v := by rw [List.getElem?_eq_getElem hlt] at h2; exact Option.some.inj h2
  simp [Array.getElem?_append, hlt, h3]
end
end Go.Proofs.Ytdllgfkcakhoeaa
