/-
  A region that draws its order, with operations that make memory: what is not bound to come behind such a one must be free of memory.
-/
import Derived.Test.YtdllgfkcakhoeaaMem2
import Derived.Test.YtdllgfkcakhoeaaMix
namespace Go.Proofs.Ytdllgfkcakhoeaa
set_option linter.unusedVariables false
set_option linter.unusedSimpArgs false
set_option linter.unusedVariables false
open Go Go.RowKit
section
variable {P : Program} {ops : Array Oper} {md : Region.Mode}
/-- The operation ends with one of many values, each with what it leaves. -/
def Many (P : Program) (ops : Array Oper) (o : Oper) (a : Act) (S : World → Prop) (R : Value → (World → Prop) → Prop) : Prop :=
  ∀ w, S w → ((∃ v w' S', (execOp a.eval o).run P w = .ok (.value v) w' ∧ R v S' ∧ S' w') ∨
    (∃ f vs w', (execOp a.eval o).run P w = .ok (.enter f vs) w' ∧ Calls P f vs w' fun e w'' => ∃ v S', e = .returned v ∧ R v S' ∧ S' w'')) ∧ Region.wanted o (yielded ops a.tmps) = true
theorem Many.of_same {o : Oper} {a a' : Act} {S : World → Prop} {R : Value → (World → Prop) → Prop} (h : Many P ops o a S R) (he : execOp a'.eval o = execOp a.eval o)
    (hw : Region.wanted o (yielded ops a'.tmps) = Region.wanted o (yielded ops a.tmps)) : Many P ops o a' S R := by
  unfold Many at *; rw [he, hw]; exact h
def compat3 (i j : Nat) : Bool := Nat.beq i 0 || (Nat.beq j 0 && !Nat.beq i 3) || (Nat.beq i 1 && Nat.beq j 1)
def MixSeq3 (P : Program) (ops : Array Oper) (K : Nat → Nat) (T : Act → World → Prop) : List Nat → Act → (World → Prop) → Prop
  | [], a, S => ∀ w, S w → T a w
  | i :: is, a, S => ∃ o, ops[i]? = some o ∧ ((K i ≠ 3 ∧ ∃ v S', Step P ops (K i) o v a S S' ∧ MixSeq3 P ops K T is (a.put o.dst v) S') ∨
      (K i = 3 ∧ ∃ R, Many P ops o a S R ∧ ∀ v S', R v S' → MixSeq3 P ops K T is (a.put o.dst v) S'))
theorem MixSeq3.first {K : Nat → Nat} {T : Act → World → Prop} (hsel : ∀ (j : Nat) (o : Oper) cs b, ops[j]? = some o → o.op ≠ .select cs b) {j : Nat} {oj : Oper} (hj : ops[j]? = some oj) (hj3 : K j ≠ 3) (post : List Nat) :
    ∀ (pre : List Nat) (a : Act) (S : World → Prop), (∀ i oi, i ∈ pre → ops[i]? = some oi → oi.apart ops oj = true ∧ compat3 (K i) (K j) = true) → MixSeq3 P ops K T (pre ++ j :: post) a S →
      ∃ vj S', Step P ops (K j) oj vj a S S' ∧ MixSeq3 P ops K T (pre ++ post) (a.put oj.dst vj) S'
  | [], a, S, _, h => by
    obtain ⟨o, ho, h⟩ := h
    rw [hj] at ho; cases ho
    obtain ⟨_, v, S', hf, hs⟩ := h.resolve_right (fun h => hj3 h.1)
    exact ⟨v, S', hf, hs⟩
  | i :: pre, a, S, hap, h => by
    obtain ⟨oi, hi, h⟩ := h
    obtain ⟨hap1, hcomp⟩ := hap i oi List.mem_cons_self hi
    have hi3 : K i ≠ 3 := by
      intro hc
      unfold compat3 at hcomp
      rw [hc] at hcomp
      simp at hcomp
    obtain ⟨_, vi, Si, hf, hs⟩ := h.resolve_right (fun h => hi3 h.1)
    obtain ⟨vj, Sj, hfj, hsj⟩ := MixSeq3.first hsel hj hj3 post pre (a.put oi.dst vi) Si (fun k ok hk => hap k ok (List.mem_cons_of_mem _ hk)) hs
    obtain ⟨h1, h2, h3⟩ := Oper.apart_spec hap1
    have ej := execOp_put oj (fun cs b => hsel j oj cs b hj) a oi.dst vi h1
    have wj := wanted_put oj a oi.dst vi h1
    have ei := execOp_put oi (fun cs b => hsel i oi cs b hi) a oj.dst vj h3
    have wi := wanted_put oi a oj.dst vj h3
    have hcm := Act.put_comm a vi vj h2
    have stj := hfj.of_same ej.symm wj.symm
    have sti := hf.of_same ei wi
    unfold compat3 at hcomp
    simp only [Bool.or_eq_true, Bool.and_eq_true] at hcomp
    rcases hcomp with (hc | hc) | ⟨hc1, hc2⟩
    · have hk := Nat.eq_of_beq_eq_true hc
      rw [hk] at hf sti
      obtain ⟨hfree, rfl⟩ := hf
      refine ⟨vj, Sj, stj, oi, hi, .inl ⟨hi3, vi, Sj, ?_, by rw [← hcm]; exact hsj⟩⟩
      rw [hk]
      exact ⟨sti.1, rfl⟩
    · have hk := Nat.eq_of_beq_eq_true hc.1
      rw [hk] at stj hfj
      obtain ⟨hfree, rfl⟩ := stj
      refine ⟨vj, S, ?_, oi, hi, .inl ⟨hi3, vi, Sj, sti, by rw [← hcm]; exact hsj⟩⟩
      rw [hk]
      exact ⟨hfree, rfl⟩
    · have hk1 := Nat.eq_of_beq_eq_true hc1
      have hk2 := Nat.eq_of_beq_eq_true hc2
      rw [hk1] at hf sti
      obtain ⟨hrd, rfl⟩ := hf
      rw [hk2] at stj
      obtain ⟨hrj, rfl⟩ := stj
      refine ⟨vj, Sj, ?_, oi, hi, .inl ⟨hi3, vi, Sj, ?_, by rw [← hcm]; exact hsj⟩⟩
      · rw [hk2]; exact ⟨hrj, rfl⟩
      · rw [hk1]; exact ⟨sti.1, rfl⟩
theorem MixSeq3.first3 {K : Nat → Nat} {T : Act → World → Prop} (hsel : ∀ (j : Nat) (o : Oper) cs b, ops[j]? = some o → o.op ≠ .select cs b) {j : Nat} {oj : Oper} (hj : ops[j]? = some oj) (hj3 : K j = 3) (post : List Nat) :
    ∀ (pre : List Nat) (a : Act) (S : World → Prop), (∀ i oi, i ∈ pre → ops[i]? = some oi → oi.apart ops oj = true ∧ compat3 (K i) (K j) = true) → MixSeq3 P ops K T (pre ++ j :: post) a S →
      ∃ R, Many P ops oj a S R ∧ ∀ v S', R v S' → MixSeq3 P ops K T (pre ++ post) (a.put oj.dst v) S'
  | [], a, S, _, h => by
    obtain ⟨o, ho, h⟩ := h
    rw [hj] at ho; cases ho
    exact (h.resolve_left (fun h => h.1 hj3)).2
  | i :: pre, a, S, hap, h => by
    obtain ⟨oi, hi, h⟩ := h
    obtain ⟨hap1, hcomp⟩ := hap i oi List.mem_cons_self hi
    have hk : K i = 0 := by
      unfold compat3 at hcomp
      rw [hj3] at hcomp
      simp at hcomp
      exact hcomp
    obtain ⟨hi3, vi, Si, hf, hs⟩ := h.resolve_right (fun h => by rw [hk] at h; cases h.1)
    obtain ⟨R, hfj, hsj⟩ := MixSeq3.first3 hsel hj hj3 post pre (a.put oi.dst vi) Si (fun k ok hk => hap k ok (List.mem_cons_of_mem _ hk)) hs
    obtain ⟨h1, h2, h3⟩ := Oper.apart_spec hap1
    have ej := execOp_put oj (fun cs b => hsel j oj cs b hj) a oi.dst vi h1
    have wj := wanted_put oj a oi.dst vi h1
    have stj := hfj.of_same ej.symm wj.symm
    rw [hk] at hf
    obtain ⟨hfree, rfl⟩ := hf
    refine ⟨R, stj, fun v S' hR => ⟨oi, hi, .inl ⟨hi3, vi, S', ?_, ?_⟩⟩⟩
    · have ei := execOp_put oi (fun cs b => hsel i oi cs b hi) a oj.dst v h3
      have wi := wanted_put oi a oj.dst v h3
      rw [hk]
      exact ⟨fun S0 => (hfree S0).of_same ei wi, rfl⟩
    · rw [← Act.put_comm a vi v h2]; exact hsj v S' hR
/-- As mixOK, with operations that make memory (3). -/
def mixOK3 (md : Region.Mode) (ops : Array Oper) (ks : List Nat) : Bool :=
  Region.noSelect ops &&
  (let ms := masks md ops
   (List.range ops.size).all fun j => match ops[j]? with
    | none => true
    | some oj =>
      oj.after.all (fun e => !Region.binds md e || decide (e.on < j)) &&
      (List.range j).all fun i => (ms.getD j 0).testBit i || (match ops[i]? with | some oi => oi.apart ops oj && compat3 (ks.getD i 2) (ks.getD j 2) | none => true))

theorem mixOK3_spec {ks : List Nat} (h : mixOK3 md ops ks = true) : Region.noSelect ops = true ∧ ∀ j oj, ops[j]? = some oj →
    (∀ e ∈ oj.after, Region.binds md e = true → e.on < j) ∧ ∀ i oi, i < j → ops[i]? = some oi → Before md ops j i ∨ (oi.apart ops oj = true ∧ compat3 (ks.getD i 2) (ks.getD j 2) = true) := by
  unfold mixOK3 at h
  simp only [Bool.and_eq_true, List.all_eq_true, List.mem_range] at h
  obtain ⟨h2, h3⟩ := h
  refine ⟨h2, fun j oj hj => ?_⟩
  have hlt : j < ops.size := (Array.getElem?_eq_some_iff.1 hj).1
  have h4 := h3 j hlt
  simp only [hj, Bool.and_eq_true, Array.all_eq_true_iff_forall_mem, List.all_eq_true, List.mem_range, Bool.or_eq_true, Bool.not_eq_true', decide_eq_true_eq] at h4
  refine ⟨fun e he hb => (h4.1 e he).resolve_left (by simp [hb]), fun i oi hi hoi => ?_⟩
  have h5 := h4.2 i hi
  simp only [hoi, Bool.and_eq_true] at h5
  rcases h5 with h5 | h5
  · exact .inl (masks_spec h5)
  · exact .inr h5


theorem wpAny_of_mix3 {Q : Exit → Act → World → Prop} {ks : List Nat} (ho : mixOK3 md ops ks = true) :
    ∀ (n : Nat) (is : List Nat) (listed : Array Bool) (a : Act) (w : World) (S : World → Prop), is.length = n → is.Pairwise (· < ·) → (∀ i ∈ is, i < ops.size) → Lists ops.size md ops is listed → MixSeq3 P ops (ks.getD · 2) (Q .normal) is a S → S w →
      wpAny P md ops Q n listed a w := by
  obtain ⟨hns, hord⟩ := mixOK3_spec ho
  have hsel := Region.noSelect_spec hns
  intro n
  induction n with
  | zero =>
    intro is listed a w S hlen _ _ hl hs hS
    obtain rfl : is = [] := List.length_eq_zero_iff.1 hlen
    refine wpAny_done ?_ (hs w hS) 0
    rw [List.eq_nil_iff_forall_not_mem]
    intro j hj
    obtain ⟨hjun, oj, hoj, _⟩ := mem_ready.1 hj
    have hjs : j < ops.size := (Array.getElem?_eq_some_iff.1 hoj).1
    have := (hl.2.1 j hjs).1 hjun
    simp at this
    omega
  | succ n ih =>
    intro is listed a w S hlen hsorted hlt hl hs hS
    have hnd : is.Nodup := hsorted.imp (fun h => Nat.ne_of_lt h)
    refine ⟨fun hnone => ?_, fun j hj => ?_⟩
    · exfalso
      obtain ⟨i, is', rfl⟩ : ∃ i is', is = i :: is' := by
        cases is with
        | nil => simp at hlen
        | cons i is' => exact ⟨i, is', rfl⟩
      have him := hlt i List.mem_cons_self
      have hi : ops[i]? = some ops[i] := Array.getElem?_eq_getElem him
      have hmem : i ∈ Region.ready md ops listed := by
        rw [mem_ready]
        refine ⟨(hl.2.1 i him).2 (.inl List.mem_cons_self), _, hi, fun e he hb => ?_⟩
        have hlt' := (hord i _ hi).1 e he hb
        rw [getD_false_of (by rw [hl.1]; omega), hl.2.1 e.on (by omega)]
        rintro (h | h)
        · rcases List.mem_cons.1 h with h | h
          · omega
          · have := (List.pairwise_cons.1 hsorted).1 _ h; omega
        · omega
      rw [hnone] at hmem
      cases hmem
    · obtain ⟨hjun, oj, hoj, hall⟩ := mem_ready.1 hj
      have hjs : j < ops.size := (Array.getElem?_eq_some_iff.1 hoj).1
      have hnw : ∀ i ∈ is, ¬ Before md ops j i := fun i hi hw => by
        have h1 := hw listed hl.2.2 (fun o ho' e he hb => by rw [hoj] at ho'; cases ho'; exact hall e he hb)
        have him := hlt i hi
        exact (getD_false_of (by rw [hl.1]; omega)).1 h1 ((hl.2.1 i him).2 (.inl hi))
      have hjin : j ∈ is := by
        rcases (hl.2.1 j hjs).1 hjun with h | h
        · exact h
        · omega
      obtain ⟨pre, post, rfl⟩ := List.append_of_mem hjin
      have hap : ∀ i oi, i ∈ pre → ops[i]? = some oi → oi.apart ops oj = true ∧ compat3 (ks.getD i 2) (ks.getD j 2) = true := fun i oi hi hoi => by
        have hij : i < j := (List.pairwise_append.1 hsorted).2.2 i hi j List.mem_cons_self
        rcases (hord j oj hoj).2 i oi hij hoi with hw | hap
        · exact absurd hw (hnw i (by simp [hi]))
        · exact hap
      by_cases hk3 : ks.getD j 2 = 3
      · obtain ⟨R, hf, hs'⟩ := MixSeq3.first3 (K := (ks.getD · 2)) hsel hoj hk3 post pre a S hap hs
        obtain ⟨hr, hw⟩ := hf w hS
        unfold Go.wpOp
        simp only [hoj, hw, if_true, Oper.wp]
        refine .inl ?_
        have go : ∀ v S' w', R v S' → S' w' → wpAny P md ops Q n (listed.setIfInBounds j true) (a.put oj.dst v) w' := fun v S' w' hR hS' =>
          ih (pre ++ post) _ _ w' S' (by simp at hlen ⊢; omega) (hsorted.sublist (List.Sublist.append_left (List.sublist_cons_self _ _) _)) (fun i hi => hlt i (by rcases List.mem_append.1 hi with h | h <;> simp [h])) (hl.next rfl hnd hjs (Nat.le_refl _) hj) (hs' v S' hR) hS'
        rcases hr with ⟨v, w', S', hr, hR, hS'⟩ | ⟨f, vs, w', hr, hc⟩
        · rw [hr]; exact go v S' w' hR hS'
        · rw [hr]
          refine hc.mono ?_
          rintro e w'' ⟨v, S', rfl, hR, hS'⟩
          exact go v S' w'' hR hS'
      · obtain ⟨vj, S', hf, hs'⟩ := MixSeq3.first (K := (ks.getD · 2)) hsel hoj hk3 post pre a S hap hs
        refine hf.wpOp hoj hS fun w' hS' => ?_
        refine ih (pre ++ post) _ _ w' S' (by simp at hlen ⊢; omega) ?_ (fun i hi => hlt i (by rcases List.mem_append.1 hi with h | h <;> simp [h])) (hl.next rfl hnd hjs (Nat.le_refl _) hj) hs' hS'
        exact hsorted.sublist (List.Sublist.append_left (List.sublist_cons_self _ _) _)


def MixM3 (P : Program) (ops : Array Oper) (T : Act → World → Prop) : List Nat → List Oper → Act → (World → Prop) → Prop
  | [], [], a, S => ∀ w, S w → T a w
  | k :: ks, o :: rest, a, S => (k ≠ 3 ∧ ∃ v S', Step P ops k o v a S S' ∧ MixM3 P ops T ks rest (a.put o.dst v) S') ∨ (k = 3 ∧ ∃ R, Many P ops o a S R ∧ ∀ v S', R v S' → MixM3 P ops T ks rest (a.put o.dst v) S')
  | _, _, _, _ => False
theorem MixM3.seq {T : Act → World → Prop} : ∀ (ks : List Nat) (l : List Oper) (k : Nat) (K : Nat → Nat) (a : Act) (S : World → Prop), (∀ j, l[j]? = ops[k + j]?) → (∀ j, j < ks.length → K (k + j) = ks.getD j 2) → MixM3 P ops T ks l a S →
    MixSeq3 P ops K T (List.range' k l.length) a S
  | [], [], _, _, _, _, _, _, h => h
  | [], _ :: _, _, _, _, _, _, _, h => h.elim
  | _ :: _, [], _, _, _, _, _, _, h => h.elim
  | x :: ks, o :: rest, k, K, a, S, hl, hk, h => by
    have hK : K k = x := by have := hk 0 (by simp); simpa using this
    have ho : ops[k]? = some o := by have := hl 0; simpa using this.symm
    have rec_ : ∀ a S, MixM3 P ops T ks rest a S → MixSeq3 P ops K T (List.range' (k + 1) rest.length) a S := fun a S h => MixM3.seq ks rest (k + 1) K a S (fun j => by have := hl (j + 1); simpa [Nat.add_assoc, Nat.add_comm 1 j] using this) (fun j hj => by have := hk (j + 1) (by simpa using hj); simpa [Nat.add_assoc, Nat.add_comm 1 j] using this) h
    refine ⟨o, ho, ?_⟩
    rw [hK]
    rcases h with ⟨h1, v, S', h2, h3⟩ | ⟨h1, R, h2, h3⟩
    · exact .inl ⟨h1, v, S', h2, rec_ _ _ h3⟩
    · exact .inr ⟨h1, R, h2, fun v S' hR => rec_ _ _ (h3 v S' hR)⟩
theorem wp_mix3 {md0 : Md} {Q : Exit → Act → World → Prop} {id : Nat} {l : List Oper} {a : Act} {w : World} {S : World → Prop} (hmix : P.follows .mixedOrders = true) (ks : List Nat) (hks : ks.length = l.length) (ho : mixOK3 .any l.toArray ks = true)
    (hS : S w.drew) (h : MixM3 P l.toArray (Q .normal) ks l a S) (hok : OkR md0 l.toArray Q) : wpn md0 P (Code.region id l.toArray true) Q a w := by
  refine wpnFrom_start hok hmix ?_
  intro listed hl
  have hsz : l.toArray.size = l.length := by simp
  have := wpAny_of_mix3 (P := P) (Q := Q) ho l.length (List.range' 0 l.length) listed a w.drew S (by simp) List.pairwise_lt_range' (fun i hi => by have := List.mem_range'_1.1 hi; simp; omega)
    ⟨hl.1, fun q hq => by rw [hl.2.1 q hq, List.mem_range'_1]; simp at hq ⊢; omega, hl.2.2⟩ (MixM3.seq ks l 0 _ a S (fun j => by simp) (fun j hj => by simp) h) hS
  rw [hsz, Nat.sub_zero]
  exact this
end
section
variable {P : Program} {ops : Array Oper} {Q : Exit → Act → World → Prop} {n : Sz} {w0 : World} {L L' : List (Nat × Value)} {H : List Ent}
variable {o : Oper} {rest : List Oper} {v u : Value} {x y z : Operand} {k m j : Nat} {t t' e : TypeId} {ks : List Nat} {kd : IntKind}
def TN (P : Program) (ops : Array Oper) (Q : Exit → Act → World → Prop) (n : Sz) (w0 : World) (ks : List Nat) (rest : List Oper) (L : List (Nat × Value)) (H : List Ent) : Prop :=
  ∀ a, Fr n L a → MixM3 P ops (Q .normal) ks rest a (St w0 H)
theorem TC.mix3 {id : Nat} {l : List Oper} (hmix : P.follows .mixedOrders = true) (ks : List Nat) (hks : ks.length = l.length) (ho : mixOK3 .any l.toArray ks = true) (h : TN P l.toArray Q n w0 ks l L H) (hok : OkR n.md l.toArray Q := by exact trivial) : TC P Q n w0 (.region id l.toArray true) L H :=
  fun a w hf hs => wp_mix3 hmix ks hks ho hs.drew (h a hf) hok
theorem TN.nil (h : TE Q .normal n w0 L H) : TN P ops Q n w0 [] [] L H := fun a hf w hs => h a w hf hs
theorem TN.free (hg : Wants n ops L o) (hi : inside n o.dst = true) (h : ∀ w0, Gets P n w0 o L [] v) (hr : TN P ops Q n w0 ks rest (put L o.dst v) H) : TN P ops Q n w0 (0 :: ks) (o :: rest) L H :=
  fun a hf => .inl ⟨by decide, v, St w0 H, ⟨fun S0 => .inl ⟨hg a hf, fun w hS => by rw [h w a w hf (St.refl w)]; exact ⟨rfl, hS⟩⟩, rfl⟩, hr _ (hf.put o.dst v hi)⟩
theorem TN.gets (hg : Wants n ops L o) (hi : inside n o.dst = true) (h : Gets P n w0 o L H v) (hr : TN P ops Q n w0 ks rest (put L o.dst v) H) : TN P ops Q n w0 (1 :: ks) (o :: rest) L H :=
  fun a hf => .inl ⟨by decide, v, St w0 H, ⟨.inl ⟨hg a hf, fun w hS => by rw [h a w hf hS]; exact ⟨rfl, hS⟩⟩, rfl⟩, hr _ (hf.put o.dst v hi)⟩
theorem TN.pass {j d : Nat} {b c : Bool} (h : o.guard = some (j, c)) (hj : (ops[j]?).bind (·.dst) = some d) (hd : look L d = some (.bool b)) (hi : inside n o.dst = true) (hb : b = !c) (hr : TN P ops Q n w0 ks rest (put L o.dst undef) H) : TN P ops Q n w0 (0 :: ks) (o :: rest) L H :=
  fun a hf => .inl ⟨by decide, undef, St w0 H, ⟨fun S0 => .inr ⟨by subst hb; simp [Region.wanted, h, guard_val hf hj hd], rfl⟩, rfl⟩, hr _ (hf.put o.dst undef hi)⟩
theorem TN.call0 {f : FuncId} {xs : List Operand} {ts : Array TypeId} {vs : List Value} (hg : Wants n ops L o) (hi : inside n o.dst = true) (h : Enters P f)
    (ho : o.op = .call { callee := .value (.func f), args := xs.toArray, argTypes := ts }) (hx : evs L xs = some vs)
    (hc : ∀ w, St w0 H w → Calls P f vs.toArray w fun e w' => e = .returned v ∧ St w [] w')
    (hr : TN P ops Q n w0 ks rest (put L o.dst v) H) : TN P ops Q n w0 (1 :: ks) (o :: rest) L H :=
  fun a hf => .inl ⟨by decide, v, St w0 H, ⟨.inl ⟨hg a hf, fun w hS => by rw [run_enter h ho hf hx]; exact (hc w hS).mono fun e w' ⟨he, hw⟩ => ⟨he, hS.call' hw⟩⟩, rfl⟩, hr _ (hf.put o.dst v hi)⟩

theorem TN.buildSlice {len s : Nat} {ps : List (Nat × Operand)} {vs : List (Nat × Value)} {cells : Array Value} {cs : List Value} {zv : Value} (hg : Wants n ops L o) (hi : inside n o.dst = true) (ho : o.op = .buildSlice t len ps.toArray)
    (h1 : P.underlying t = some (.slice e)) (hsz : (P.info? e).map (·.size) = some s) (hz : (P.info? e).bind (·.zero) = some zv) (hv : operVals L ps = some vs) (hlen : len * s ≤ 2 ^ 24) (hpos : (len * s = 0) = False)
    {tot : Nat} (hfill : Instr.fill (fun i => some (i * s, s)) ((Array.range (len * s)).map (zv.cells[· % zv.cells.size]!)) vs = some cells) (hcs : cells.toList = cs) (htot : cs.length = tot)
    (hr : ∀ g, w0.heap.size ≤ g → TN P ops Q n w0 ks rest (put L o.dst (.slice (some ⟨g, 0, none⟩) len len)) (⟨g, e, cs, tot⟩ :: H)) : TN P ops Q n w0 (3 :: ks) (o :: rest) L H :=
  fun a hf => .inr ⟨rfl, fun v S' => ∃ g, w0.heap.size ≤ g ∧ v = .slice (some ⟨g, 0, none⟩) len len ∧ S' = St w0 (⟨g, e, cs, tot⟩ :: H), fun w hs => by
    have hrun : (execOp a.eval o).run P w = .ok (.value (.slice (some ⟨w.heap.size, 0, none⟩) len len)) (w.alloc (.cells cells e)) := by
      have hm := operVals_eval hf hv
      have hm2 : (ps.map fun (x : Nat × Operand) => match x with | (i, x) => (i, a.eval x)) = vs := hm
      simp only [execOp, ho]
      refine run_value ?_
      simp only [Instr.buildSlice, Sem.run_bind, run_under h1, Result.andThen_ok, run_size hsz, List.map_toArray, hm2]
      rw [if_neg (by omega), if_neg (by simp [hpos])]
      simp only [Sem.run_bind, run_zero hz, Result.andThen_ok, Sem.run_pure, hfill]
      simp [newRow, newObj, Sem.run_bind, Sem.run]
    subst htot
    exact ⟨.inl ⟨_, _, _, hrun, ⟨_, hs.size, rfl, rfl⟩, hs.alloc e cs cells hcs⟩, hg a hf⟩, fun v S' ⟨g, h1, h2, h3⟩ => by subst h2; subst h3; exact hr g h1 _ (hf.put o.dst _ hi)⟩


theorem TN.appendOwn {A : Option Addr} {bytes sl sc : Nat} {W B : List Int} {He : List Ent} {zv : Value} (hg : Wants n ops L o) (hi' : inside n o.dst = true) (ho : o.op = .call { callee := .builtin .append, args := #[x, y], argTypes := #[t, t] })
    (h1 : P.underlying t = some (.slice e)) (hz : (P.info? e).map (fun i => (i.zero, i.size, i.bytes)) = some (some zv, 1, bytes)) (hzc : zv.cells = #[zv])
    (hx : ev L x = some v) (hy : ev L y = some (.slice A sl sc)) (hown : Own w0.heap.size e kd v W He) (hsrc : ∀ w, St w0 (H ++ He) w → Src w A sl kd B)
    (h63 : W.length + sl ≤ 9223372036854775807) (hbytes : (W.length + sl) * bytes ≤ 140737488355328)
    (hr : ∀ v' He', Own w0.heap.size e kd v' (W ++ B) He' → (v ≠ .slice none 0 0 → v' ≠ .slice none 0 0) → TN P ops Q n w0 ks rest (put L o.dst v') (H ++ He')) : TN P ops Q n w0 (3 :: ks) (o :: rest) L (H ++ He) :=
  fun a hf => .inr ⟨rfl, fun v' S' => ∃ He', Own w0.heap.size e kd v' (W ++ B) He' ∧ (v ≠ .slice none 0 0 → v' ≠ .slice none 0 0) ∧ S' = St w0 (H ++ He'), fun w hs => by
    obtain ⟨i, hi1, hi2⟩ := Option.map_eq_some_iff.1 hz
    simp only [Prod.mk.injEq] at hi2
    obtain ⟨hz1, hz2, hz3⟩ := hi2
    have hrow := hown.row (w := w) hs.right
    have hB := hsrc w hs
    have hlen : (W ++ B).length = W.length + sl := by simp [hB.1]
    have hmap : (W ++ B).map (Value.int kd) = W.map (Value.int kd) ++ B.map (Value.int kd) := by simp
    have hrun : ∃ v' w', (Builtin.append_ #[t, t] o.type #[v, .slice A sl sc]).run P w = .ok v' w' ∧ w'.ownsRow w0.heap.size e 1 v' (W.length + sl) (W.map (Value.int kd) ++ B.map (Value.int kd)) ∧ w.grownBy w' v.ownBlock ∧
        (v'.ownBlock = v.ownBlock ∨ v'.ownBlock = some w.heap.size) ∧ (v ≠ .slice none 0 0 → v' ≠ .slice none 0 0) := by
      cases A with
      | none =>
        have hsl : sl = 0 := by
          rcases hB.2 with h | ⟨b, off, h, _⟩
          · exact h
          · cases h
        subst hsl
        have hBn : B = [] := List.length_eq_zero_iff.1 hB.1
        subst hBn
        refine ⟨v, w, ?_, by simpa using hrow, World.grownBy.refl w _, .inl rfl, id⟩
        rcases hown with ⟨rfl, rfl, rfl⟩ | ⟨g, cap, rfl, rfl, hN, hc, hm⟩
        · simp [Builtin.append_, Sem.run_bind, run_under h1, sizeOf, run_info hi1, Builtin.lenOf, Builtin.firstCells]
        · simp [Builtin.append_, Sem.run_bind, run_under h1, sizeOf, run_info hi1, Builtin.lenOf, Builtin.firstCells, hc, storeCells]
      | some ad =>
        have hcells : ∀ (j : Nat) (u : Value), (B.map (Value.int kd))[j]? = some u → w.cell? (ad.add j) = some u := by
          intro j u hu
          rcases hB.2 with h | ⟨b, off, h, _, hr⟩
          · have hBn : B = [] := List.length_eq_zero_iff.1 (by rw [hB.1, h])
            subst hBn; simp at hu
          · cases h
            have hj : j < B.length := by have := (List.getElem?_eq_some_iff.1 hu).1; simpa using this
            rw [addr_add, hr j (by rw [← hB.1]; exact hj)]
            rw [ints_get hj] at hu; exact hu
        obtain ⟨v', w', h2, h3, h4, h6, h5⟩ := run_append_own_at (P := P) w w0.heap.size t o.type e i zv 1 bytes h1 hi1 hz1 hz2 hz3 (by rw [hzc]; rfl) (by omega) v W.length (W.map (Value.int kd)) hrow ad sl sc (B.map (Value.int kd)) (by simp [hB.1]) hcells
          (by intro u hu; exact ints_one u hu) (by unfold maxLen; omega) hbytes hs.size
        exact ⟨v', w', h2, h3, h4, h5, fun hv hv' => hv (h6.1 hv').1⟩
    obtain ⟨v', w', hrun, hrow', hgrown, hblk, hnn⟩ := hrun
    have hrun' : (execOp a.eval o).run P w = .ok (.value v') w' := by
      simp only [execOp, ho, resolve, invoke, builtin, Sem.run_bind, Sem.run_pure, Result.andThen_ok, List.map_toArray, List.map_cons, List.map_nil, hf.eval hx, hf.eval hy, hrun]
    rw [← hmap, ← hlen] at hrow'
    obtain ⟨He', hown', hHe⟩ := own_of_row hrow'
    refine ⟨.inl ⟨v', w', _, hrun', ⟨He', hown', hnn, rfl⟩, St.regrow hs hgrown ?_ ?_ ?_ ?_⟩, hg a hf⟩
    · rcases hown with ⟨rfl, rfl, rfl⟩ | ⟨g, cap, rfl, rfl, _⟩
      · simp
      · simp [Value.ownBlock]
    · rcases hown with ⟨rfl, rfl, rfl⟩ | ⟨g, cap, rfl, rfl, hN, _⟩
      · simp [Value.ownBlock]
      · simp only [Value.ownBlock]; rintro b hb; cases hb; exact hN
    · rcases hown with ⟨rfl, rfl, rfl⟩ | ⟨g, cap, rfl, rfl, hN, _⟩
      · simp [Value.ownBlock]
      · intro c hc heq
        simp only [Value.ownBlock, Option.some.injEq] at heq
        exact (List.pairwise_append.1 hs.apart).2.2 c hc _ (List.mem_singleton.2 rfl) heq
    · rcases hHe with h | ⟨d, h, hd, hdN, hdv⟩
      · exact .inl h
      · refine .inr ⟨d, h, hd, hdN, ?_⟩
        rcases hblk with hb | hb
        · left; rw [← hdv, hb]
        · right; have := Option.some.inj (hb.symm.trans hdv); omega, fun v' S' ⟨He', h1, h2, h3⟩ => by subst h3; exact hr v' He' h1 h2 _ (hf.put o.dst _ hi')⟩

end
end Go.Proofs.Ytdllgfkcakhoeaa
