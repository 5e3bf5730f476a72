/-
  A region that draws its order: operations that touch no memory, that read, and that write, where of two that no order binds one touches no memory or both only read.
-/
import Derived.Test.YtdllgfkcakhoeaaRul
namespace Go.Proofs.Ytdllgfkcakhoeaa
set_option linter.unusedVariables false
set_option linter.unusedSimpArgs false
open Go Go.RowKit

section
variable {P : Program} {ops : Array Oper} {md : Region.Mode}

/-- kind 0: in every world the same value, the world left; 1: one value wherever S stands, S left; 2: one value, S' behind it. -/
def Step (P : Program) (ops : Array Oper) (kind : Nat) (o : Oper) (v : Value) (a : Act) (S S' : World → Prop) : Prop :=
  match kind with
  | 0 => (∀ S0, Fixed P ops S0 o v a) ∧ S' = S
  | 1 => Fixed P ops S o v a ∧ S' = S
  | _ => Region.wanted o (yielded ops a.tmps) = true ∧ ∀ w, S w → ∃ w', ((execOp a.eval o).run P w = .ok (.value v) w' ∨ ((execOp a.eval o).run P w = .ok .skip w' ∧ v = undef)) ∧ S' w'

theorem Step.of_same {kind : Nat} {o : Oper} {v : Value} {a a' : Act} {S S' : World → Prop} (h : Step P ops kind o v a S S') (he : execOp a'.eval o = execOp a.eval o)
    (hw : Region.wanted o (yielded ops a'.tmps) = Region.wanted o (yielded ops a.tmps)) : Step P ops kind o v a' S S' := by
  unfold Step at *
  split at h
  · exact ⟨fun S0 => (h.1 S0).of_same he hw, h.2⟩
  · exact ⟨h.1.of_same he hw, h.2⟩
  · rw [he, hw]; exact h

theorem Step.wpOp {kind i : Nat} {o : Oper} {v : Value} {a : Act} {S S' : World → Prop} (hi : ops[i]? = some o) (h : Step P ops kind o v a S S') {Q : Exit → Act → World → Prop}
    {K : Act → World → Prop} {w : World} (hS : S w) (hK : ∀ w', S' w' → K (a.put o.dst v) w') : wpOp P ops Q i K a w := by
  unfold Step at h
  split at h
  · obtain ⟨h, rfl⟩ := h; exact (h S').wpOp hi hS hK
  · obtain ⟨h, rfl⟩ := h; exact h.wpOp hi hS hK
  · obtain ⟨hw, h⟩ := h
    obtain ⟨w', hr, hS'⟩ := h w hS
    unfold Go.wpOp
    simp only [hi, hw, if_true, Oper.wp]
    refine .inl ?_
    rcases hr with hr | ⟨hr, rfl⟩
    · rw [hr]; exact hK _ hS'
    · rw [hr]; exact hK _ hS'

def compat (i j : Nat) : Bool := Nat.beq i 0 || Nat.beq j 0 || (Nat.beq i 1 && Nat.beq j 1)

def MixSeq (P : Program) (ops : Array Oper) (K : Nat → Nat) (T : Act → World → Prop) : List Nat → Act → (World → Prop) → Prop
  | [], a, S => ∀ w, S w → T a w
  | i :: is, a, S => ∃ o v S', ops[i]? = some o ∧ Step P ops (K i) o v a S S' ∧ MixSeq P ops K T is (a.put o.dst v) S'

theorem MixSeq.first {K : Nat → Nat} {T : Act → World → Prop} (hsel : ∀ (j : Nat) (o : Oper) cs b, ops[j]? = some o → o.op ≠ .select cs b) {j : Nat} {oj : Oper} (hj : ops[j]? = some oj) (post : List Nat) :
    ∀ (pre : List Nat) (a : Act) (S : World → Prop), (∀ i oi, i ∈ pre → ops[i]? = some oi → oi.apart ops oj = true ∧ compat (K i) (K j) = true) → MixSeq P ops K T (pre ++ j :: post) a S →
      ∃ vj S', Step P ops (K j) oj vj a S S' ∧ MixSeq P ops K T (pre ++ post) (a.put oj.dst vj) S'
  | [], a, S, _, h => by
    obtain ⟨o, v, S', ho, hf, hs⟩ := h
    rw [hj] at ho; cases ho
    exact ⟨v, S', hf, hs⟩
  | i :: pre, a, S, hap, h => by
    obtain ⟨oi, vi, Si, hi, hf, hs⟩ := h
    obtain ⟨vj, Sj, hfj, hsj⟩ := MixSeq.first hsel hj post pre (a.put oi.dst vi) Si (fun k ok hk => hap k ok (List.mem_cons_of_mem _ hk)) hs
    obtain ⟨hap1, hcomp⟩ := hap i oi List.mem_cons_self hi
    obtain ⟨h1, h2, h3⟩ := Oper.apart_spec hap1
    have ej := execOp_put oj (fun cs b => hsel j oj cs b hj) a oi.dst vi h1
    have wj := wanted_put oj a oi.dst vi h1
    have ei := execOp_put oi (fun cs b => hsel i oi cs b hi) a oj.dst vj h3
    have wi := wanted_put oi a oj.dst vj h3
    have hcm := Act.put_comm a vi vj h2
    have stj := hfj.of_same ej.symm wj.symm
    have sti := hf.of_same ei wi
    unfold compat at hcomp
    simp only [Bool.or_eq_true, Bool.and_eq_true] at hcomp
    rcases hcomp with (hc | hc) | ⟨hc1, hc2⟩
    · have hk := Nat.eq_of_beq_eq_true hc
      rw [hk] at hf sti
      obtain ⟨hfree, rfl⟩ := hf
      refine ⟨vj, Sj, stj, oi, vi, Sj, hi, ?_, by rw [← hcm]; exact hsj⟩
      rw [hk]
      exact ⟨sti.1, rfl⟩
    · have hk := Nat.eq_of_beq_eq_true hc
      rw [hk] at stj hfj
      obtain ⟨hfree, rfl⟩ := stj
      refine ⟨vj, S, ?_, oi, vi, Sj, hi, sti, by rw [← hcm]; exact hsj⟩
      rw [hk]
      exact ⟨hfree, rfl⟩
    · have hk1 := Nat.eq_of_beq_eq_true hc1
      have hk2 := Nat.eq_of_beq_eq_true hc2
      rw [hk1] at hf sti
      obtain ⟨hrd, rfl⟩ := hf
      rw [hk2] at stj
      obtain ⟨hrj, rfl⟩ := stj
      refine ⟨vj, Sj, ?_, oi, vi, Sj, hi, ?_, by rw [← hcm]; exact hsj⟩
      · rw [hk2]; exact ⟨hrj, rfl⟩
      · rw [hk1]; exact ⟨sti.1, rfl⟩

/-- Of two operations the later waits for the earlier, or they are apart and of kinds that get on. -/
def mixOK (md : Region.Mode) (ops : Array Oper) (ks : List Nat) : Bool :=
  Region.noSelect ops &&
  (let ms := masks md ops
   (List.range ops.size).all fun j => match ops[j]? with
    | none => true
    | some oj =>
      oj.after.all (fun e => !Region.binds md e || decide (e.on < j)) &&
      (List.range j).all fun i => (ms.getD j 0).testBit i || (match ops[i]? with | some oi => oi.apart ops oj && compat (ks.getD i 2) (ks.getD j 2) | none => true))

theorem mixOK_spec {ks : List Nat} (h : mixOK md ops ks = true) : Region.noSelect ops = true ∧ ∀ j oj, ops[j]? = some oj →
    (∀ e ∈ oj.after, Region.binds md e = true → e.on < j) ∧ ∀ i oi, i < j → ops[i]? = some oi → Before md ops j i ∨ (oi.apart ops oj = true ∧ compat (ks.getD i 2) (ks.getD j 2) = true) := by
  unfold mixOK at h
  simp only [Bool.and_eq_true, List.all_eq_true, List.mem_range] at h
  obtain ⟨h2, h3⟩ := h
  refine ⟨h2, fun j oj hj => ?_⟩
  have hlt : j < ops.size := (Array.getElem?_eq_some_iff.1 hj).1
  have h4 := h3 j hlt
  simp only [hj, Bool.and_eq_true, Array.all_eq_true_iff_forall_mem, List.all_eq_true, List.mem_range, Bool.or_eq_true, Bool.not_eq_true', decide_eq_true_eq] at h4
  refine ⟨fun e he hb => (h4.1 e he).resolve_left (by simp [hb]), fun i oi hi hoi => ?_⟩
  have h5 := h4.2 i hi
  simp only [hoi, Bool.and_eq_true] at h5
  rcases h5 with h5 | h5
  · exact .inl (masks_spec h5)
  · exact .inr h5

theorem wpAny_of_mix {Q : Exit → Act → World → Prop} {ks : List Nat} (ho : mixOK md ops ks = true) :
    ∀ (n : Nat) (is : List Nat) (listed : Array Bool) (a : Act) (w : World) (S : World → Prop), is.length = n → is.Pairwise (· < ·) → (∀ i ∈ is, i < ops.size) → Lists ops.size md ops is listed → MixSeq P ops (ks.getD · 2) (Q .normal) is a S → S w →
      wpAny P md ops Q n listed a w := by
  obtain ⟨hns, hord⟩ := mixOK_spec ho
  have hsel := Region.noSelect_spec hns
  intro n
  induction n with
  | zero =>
    intro is listed a w S hlen _ _ hl hs hS
    obtain rfl : is = [] := List.length_eq_zero_iff.1 hlen
    refine wpAny_done ?_ (hs w hS) 0
    rw [List.eq_nil_iff_forall_not_mem]
    intro j hj
    obtain ⟨hjun, oj, hoj, _⟩ := mem_ready.1 hj
    have hjs : j < ops.size := (Array.getElem?_eq_some_iff.1 hoj).1
    have := (hl.2.1 j hjs).1 hjun
    simp at this
    omega
  | succ n ih =>
    intro is listed a w S hlen hsorted hlt hl hs hS
    have hnd : is.Nodup := hsorted.imp (fun h => Nat.ne_of_lt h)
    refine ⟨fun hnone => ?_, fun j hj => ?_⟩
    · exfalso
      obtain ⟨i, is', rfl⟩ : ∃ i is', is = i :: is' := by
        cases is with
        | nil => simp at hlen
        | cons i is' => exact ⟨i, is', rfl⟩
      have him := hlt i List.mem_cons_self
      have hi : ops[i]? = some ops[i] := Array.getElem?_eq_getElem him
      have hmem : i ∈ Region.ready md ops listed := by
        rw [mem_ready]
        refine ⟨(hl.2.1 i him).2 (.inl List.mem_cons_self), _, hi, fun e he hb => ?_⟩
        have hlt' := (hord i _ hi).1 e he hb
        rw [getD_false_of (by rw [hl.1]; omega), hl.2.1 e.on (by omega)]
        rintro (h | h)
        · rcases List.mem_cons.1 h with h | h
          · omega
          · have := (List.pairwise_cons.1 hsorted).1 _ h; omega
        · omega
      rw [hnone] at hmem
      cases hmem
    · obtain ⟨hjun, oj, hoj, hall⟩ := mem_ready.1 hj
      have hjs : j < ops.size := (Array.getElem?_eq_some_iff.1 hoj).1
      have hnw : ∀ i ∈ is, ¬ Before md ops j i := fun i hi hw => by
        have h1 := hw listed hl.2.2 (fun o ho' e he hb => by rw [hoj] at ho'; cases ho'; exact hall e he hb)
        have him := hlt i hi
        exact (getD_false_of (by rw [hl.1]; omega)).1 h1 ((hl.2.1 i him).2 (.inl hi))
      have hjin : j ∈ is := by
        rcases (hl.2.1 j hjs).1 hjun with h | h
        · exact h
        · omega
      obtain ⟨pre, post, rfl⟩ := List.append_of_mem hjin
      have hap : ∀ i oi, i ∈ pre → ops[i]? = some oi → oi.apart ops oj = true ∧ compat (ks.getD i 2) (ks.getD j 2) = true := fun i oi hi hoi => by
        have hij : i < j := (List.pairwise_append.1 hsorted).2.2 i hi j List.mem_cons_self
        rcases (hord j oj hoj).2 i oi hij hoi with hw | hap
        · exact absurd hw (hnw i (by simp [hi]))
        · exact hap
      obtain ⟨vj, S', hf, hs'⟩ := MixSeq.first (K := (ks.getD · 2)) hsel hoj post pre a S hap hs
      refine hf.wpOp hoj hS fun w' hS' => ?_
      refine ih (pre ++ post) _ _ w' S' (by simp at hlen ⊢; omega) ?_ (fun i hi => hlt i (by rcases List.mem_append.1 hi with h | h <;> simp [h])) (hl.next rfl hnd hjs (Nat.le_refl _) hj) hs' hS'
      exact hsorted.sublist (List.Sublist.append_left (List.sublist_cons_self _ _) _)

def MixM (P : Program) (ops : Array Oper) (T : Act → World → Prop) : List Nat → List Oper → Act → (World → Prop) → Prop
  | [], [], a, S => ∀ w, S w → T a w
  | k :: ks, o :: rest, a, S => ∃ v S', Step P ops k o v a S S' ∧ MixM P ops T ks rest (a.put o.dst v) S'
  | _, _, _, _ => False
theorem MixM.seq {T : Act → World → Prop} : ∀ (ks : List Nat) (l : List Oper) (k : Nat) (K : Nat → Nat) (a : Act) (S : World → Prop), (∀ j, l[j]? = ops[k + j]?) → (∀ j, j < ks.length → K (k + j) = ks.getD j 2) → MixM P ops T ks l a S →
    MixSeq P ops K T (List.range' k l.length) a S
  | [], [], _, _, _, _, _, _, h => h
  | [], _ :: _, _, _, _, _, _, _, h => h.elim
  | _ :: _, [], _, _, _, _, _, _, h => h.elim
  | x :: ks, o :: rest, k, K, a, S, hl, hk, ⟨v, S', hst, h⟩ =>
    ⟨o, v, S', by have := hl 0; simpa using this.symm, by have := hk 0 (by simp); simp at this; rw [this]; exact hst,
      MixM.seq ks rest (k + 1) K _ S' (fun j => by have := hl (j + 1); simpa [Nat.add_assoc, Nat.add_comm 1 j] using this) (fun j hj => by have := hk (j + 1) (by simpa using hj); simpa [Nat.add_assoc, Nat.add_comm 1 j] using this) h⟩
theorem wp_mix {md0 : Md} {Q : Exit → Act → World → Prop} {id : Nat} {l : List Oper} {a : Act} {w : World} {S : World → Prop} (hmix : P.follows .mixedOrders = true) (ks : List Nat) (hks : ks.length = l.length) (ho : mixOK .any l.toArray ks = true)
    (hS : S w.drew) (h : MixM P l.toArray (Q .normal) ks l a S) (hok : OkR md0 l.toArray Q) : wpn md0 P (Code.region id l.toArray true) Q a w := by
  refine wpnFrom_start hok hmix ?_
  intro listed hl
  have hsz : l.toArray.size = l.length := by simp
  have := wpAny_of_mix (P := P) (Q := Q) ho l.length (List.range' 0 l.length) listed a w.drew S (by simp) List.pairwise_lt_range' (fun i hi => by have := List.mem_range'_1.1 hi; simp; omega)
    ⟨hl.1, fun q hq => by rw [hl.2.1 q hq, List.mem_range'_1]; simp at hq ⊢; omega, hl.2.2⟩ (MixM.seq ks l 0 _ a S (fun j => by simp) (fun j hj => by simp) h) hS
  rw [hsz, Nat.sub_zero]
  exact this
end

section
variable {P : Program} {ops : Array Oper} {Q : Exit → Act → World → Prop} {n : Sz} {w0 : World} {L L' : List (Nat × Value)} {H : List Ent}
variable {o : Oper} {rest : List Oper} {v u : Value} {x y z : Operand} {k m j : Nat} {t t' e : TypeId} {ks : List Nat}
def TM (P : Program) (ops : Array Oper) (Q : Exit → Act → World → Prop) (n : Sz) (w0 : World) (ks : List Nat) (rest : List Oper) (L : List (Nat × Value)) (H : List Ent) : Prop :=
  ∀ a, Fr n L a → MixM P ops (Q .normal) ks rest a (St w0 H)
theorem TC.mix {id : Nat} {l : List Oper} (hmix : P.follows .mixedOrders = true) (ks : List Nat) (hks : ks.length = l.length) (ho : mixOK .any l.toArray ks = true) (h : TM P l.toArray Q n w0 ks l L H) (hok : OkR n.md l.toArray Q := by exact trivial) : TC P Q n w0 (.region id l.toArray true) L H :=
  fun a w hf hs => wp_mix hmix ks hks ho hs.drew (h a hf) hok
theorem TM.nil (h : TE Q .normal n w0 L H) : TM P ops Q n w0 [] [] L H := fun a hf w hs => h a w hf hs
theorem TM.free (hg : Wants n ops L o) (hi : inside n o.dst = true) (h : ∀ w0, Gets P n w0 o L [] v) (hr : TM P ops Q n w0 ks rest (put L o.dst v) H) : TM P ops Q n w0 (0 :: ks) (o :: rest) L H :=
  fun a hf => ⟨v, St w0 H, ⟨fun S0 => .inl ⟨hg a hf, fun w hS => by rw [h w a w hf (St.refl w)]; exact ⟨rfl, hS⟩⟩, rfl⟩, hr _ (hf.put o.dst v hi)⟩
theorem TM.gets (hg : Wants n ops L o) (hi : inside n o.dst = true) (h : Gets P n w0 o L H v) (hr : TM P ops Q n w0 ks rest (put L o.dst v) H) : TM P ops Q n w0 (1 :: ks) (o :: rest) L H :=
  fun a hf => ⟨v, St w0 H, ⟨.inl ⟨hg a hf, fun w hS => by rw [h a w hf hS]; exact ⟨rfl, hS⟩⟩, rfl⟩, hr _ (hf.put o.dst v hi)⟩
theorem TM.pass {j d : Nat} {b c : Bool} (h : o.guard = some (j, c)) (hj : (ops[j]?).bind (·.dst) = some d) (hd : look L d = some (.bool b)) (hi : inside n o.dst = true) (hb : b = !c) (hr : TM P ops Q n w0 ks rest (put L o.dst undef) H) : TM P ops Q n w0 (0 :: ks) (o :: rest) L H :=
  fun a hf => ⟨undef, St w0 H, ⟨fun S0 => .inr ⟨by subst hb; simp [Region.wanted, h, guard_val hf hj hd], rfl⟩, rfl⟩, hr _ (hf.put o.dst undef hi)⟩
theorem TM.call0 {f : FuncId} {xs : List Operand} {ts : Array TypeId} {vs : List Value} (hg : Wants n ops L o) (hi : inside n o.dst = true) (h : Enters P f)
    (ho : o.op = .call { callee := .value (.func f), args := xs.toArray, argTypes := ts }) (hx : evs L xs = some vs)
    (hc : ∀ w, St w0 H w → Calls P f vs.toArray w fun e w' => e = .returned v ∧ St w [] w')
    (hr : TM P ops Q n w0 ks rest (put L o.dst v) H) : TM P ops Q n w0 (1 :: ks) (o :: rest) L H :=
  fun a hf => ⟨v, St w0 H, ⟨.inl ⟨hg a hf, fun w hS => by rw [run_enter h ho hf hx]; exact (hc w hS).mono fun e w' ⟨he, hw⟩ => ⟨he, hS.call' hw⟩⟩, rfl⟩, hr _ (hf.put o.dst v hi)⟩
theorem TM.store1 {i g off : Nat} {ent : Ent} (hg : Wants n ops L o) (hd : o.dst = none) (ho : o.op = .store t x y) (hsz : (P.info? t).map (·.size) = some 1)
    (hx : ev L x = some (.pointer (some ⟨g, off, none⟩))) (hy : ev L y = some v) (hv : v.oneCell' = true) (hi : H[i]? = some ent) (he : ent.g = g) (hoff : off < ent.cs.length)
    {cs' : List Value} (hcs : ent.cs.set off v = cs') {H' : List Ent} (hH : H.set i ⟨ent.g, ent.t, cs', ent.tot⟩ = H') (hr : TM P ops Q n w0 ks rest L H') : TM P ops Q n w0 (2 :: ks) (o :: rest) L H :=
  fun a hf => ⟨undef, St w0 H', ⟨hg a hf, fun w hs => by
    subst he; subst hcs; subst hH
    refine ⟨w.setCell ⟨ent.g, off, none⟩ v, .inr ⟨?_, rfl⟩, hs.set hi off v⟩
    simp only [execOp, ho, hf.eval hx, hf.eval hy]
    refine run_unit ?_
    have hl := hs.has ent (List.mem_of_getElem? hi)
    have hc := hl.cell (o := off) (List.getElem?_eq_getElem hoff)
    have hfz := hl.free off
    simp only [Instr.storeAt, Instr.sureAddr, storeVar, Sem.run_bind, Sem.run_pure, Result.andThen_ok, run_size hsz, oneCell_cells hv]
    simp only [List.size_toArray, List.length_cons, List.length_nil, Nat.zero_add, ne_eq, not_true_eq_false, if_false, storeCells, Sem.run_bind, Addr.add, if_true, store]
    cases v <;> first | (simp [Value.oneCell'] at hv; done) | simp [Sem.run, hc, hfz]⟩, by rw [hd]; exact hr _ hf⟩
end
end Go.Proofs.Ytdllgfkcakhoeaa
