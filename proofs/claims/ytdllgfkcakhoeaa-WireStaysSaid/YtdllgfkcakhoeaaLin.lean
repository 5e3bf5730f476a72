/-
  A region that draws its order, of which each operation ends with one value in every world that meets a condition S and leaves S standing: it is walked once, in the order of the text.
-/
import Derived.Orders
import Derived.RegionTactic
import Derived.Below
namespace Go.Proofs.Ytdllgfkcakhoeaa
set_option linter.unusedVariables false
set_option linter.unusedSimpArgs false
open Go Go.RowKit

section
variable {P : Program} {ops : Array Oper} {md : Region.Mode} {S : World → Prop}

/-- What an operation's run ends in: the value v, S behind it. -/
def Gives (P : Program) (S : World → Prop) (v : Value) : Result Next → Prop
  | .ok (.value u) w => u = v ∧ S w
  | .ok .skip w => undef = v ∧ S w
  | .ok (.enter f args) w => Calls P f args w fun e w' => e = .returned v ∧ S w'
  | .ok (.row row args) w => Rows P row args w fun u w' => u = v ∧ S w'
  | _ => False

/-- In state a, in every world that meets S, operation o ends with v, and S stands behind it; or it is passed over. -/
def Fixed (P : Program) (ops : Array Oper) (S : World → Prop) (o : Oper) (v : Value) (a : Act) : Prop :=
  (Region.wanted o (yielded ops a.tmps) = true ∧ ∀ w, S w → Gives P S v ((execOp a.eval o).run P w)) ∨
  (Region.wanted o (yielded ops a.tmps) = false ∧ v = undef)

theorem Fixed.of_same {o : Oper} {v : Value} {a a' : Act} (hy : Fixed P ops S o v a) (he : execOp a'.eval o = execOp a.eval o)
    (hw : Region.wanted o (yielded ops a'.tmps) = Region.wanted o (yielded ops a.tmps)) : Fixed P ops S o v a' := by
  unfold Fixed at *
  rw [he, hw]
  exact hy

theorem Fixed.wpOp {i : Nat} {o : Oper} {v : Value} {a : Act} (hi : ops[i]? = some o) (hy : Fixed P ops S o v a) {Q : Exit → Act → World → Prop}
    {K : Act → World → Prop} {w : World} (hS : S w) (h : ∀ w', S w' → K (a.put o.dst v) w') : wpOp P ops Q i K a w := by
  unfold Go.wpOp
  simp only [hi]
  rcases hy with ⟨hw, hv⟩ | ⟨hw, rfl⟩
  · simp only [hw, if_true, Oper.wp]
    refine .inl ?_
    have hg := hv w hS
    generalize (execOp a.eval o).run P w = r at *
    cases r with
    | ok n w' =>
      cases n with
      | value u => obtain ⟨rfl, hS'⟩ := hg; exact h _ hS'
      | skip => obtain ⟨rfl, hS'⟩ := hg; exact h _ hS'
      | enter f args =>
        refine Calls.mono hg ?_
        rintro e w'' ⟨rfl, hS'⟩
        exact h _ hS'
      | row row args =>
        refine Rows.mono hg ?_
        rintro u w'' ⟨rfl, hS'⟩
        exact h _ hS'
      | _ => exact hg.elim
    | halt x w' => exact hg.elim
  · simp only [hw, Bool.false_eq_true, if_false]; exact h _ hS

/-- The operations of a list, one behind the other; T at the end. -/
def Seq (P : Program) (ops : Array Oper) (S : World → Prop) (T : Act → Prop) : List Nat → Act → Prop
  | [], a => T a
  | i :: is, a => ∃ o v, ops[i]? = some o ∧ Fixed P ops S o v a ∧ Seq P ops S T is (a.put o.dst v)

/-- One of them that is apart from all that stand before it may come first. -/
theorem Seq.first {T : Act → Prop} (hsel : ∀ (j : Nat) (o : Oper) cs b, ops[j]? = some o → o.op ≠ .select cs b) {j : Nat} {oj : Oper} (hj : ops[j]? = some oj) (post : List Nat) :
    ∀ (pre : List Nat) (a : Act), (∀ i oi, i ∈ pre → ops[i]? = some oi → oi.apart ops oj = true) → Seq P ops S T (pre ++ j :: post) a →
      ∃ vj, Fixed P ops S oj vj a ∧ Seq P ops S T (pre ++ post) (a.put oj.dst vj)
  | [], a, _, h => by
    obtain ⟨o, v, ho, hf, hs⟩ := h
    rw [hj] at ho; cases ho
    exact ⟨v, hf, hs⟩
  | i :: pre, a, hap, h => by
    obtain ⟨oi, vi, hi, hf, hs⟩ := h
    obtain ⟨vj, hfj, hsj⟩ := Seq.first hsel hj post pre (a.put oi.dst vi) (fun k ok hk => hap k ok (List.mem_cons_of_mem _ hk)) hs
    obtain ⟨h1, h2, h3⟩ := Oper.apart_spec (hap i oi List.mem_cons_self hi)
    refine ⟨vj, hfj.of_same (execOp_put oj (fun cs b => hsel j oj cs b hj) a oi.dst vi h1).symm (wanted_put oj a oi.dst vi h1).symm, ?_⟩
    refine ⟨oi, vi, hi, hf.of_same (execOp_put oi (fun cs b => hsel i oi cs b hi) a oj.dst vj h3) (wanted_put oi a oj.dst vj h3), ?_⟩
    rw [← Act.put_comm a vi vj h2]
    exact hsj

/-- What is listed holds with each operation all that it waits for. -/
def Closed (md : Region.Mode) (ops : Array Oper) (listed : Array Bool) : Prop :=
  ∀ k o, ops[k]? = some o → listed.getD k false = true → ∀ e ∈ o.after, Region.binds md e = true → listed.getD e.on false = true

/-- Operation i comes up ahead of operation j. -/
def Before (md : Region.Mode) (ops : Array Oper) (j i : Nat) : Prop :=
  ∀ listed, Closed md ops listed → (∀ o, ops[j]? = some o → ∀ e ∈ o.after, Region.binds md e = true → listed.getD e.on false = true) → listed.getD i false = true

/-- The operations that must have come up, as the bits of a number. -/
def waitMask (md : Region.Mode) (ms : List Nat) (acc : Nat) : List Edge → Nat
  | [] => acc
  | e :: es => waitMask md ms (if Region.binds md e then (acc ||| 2 ^ e.on) ||| ms.getD e.on 0 else acc) es
def masksGo (md : Region.Mode) : List Oper → List Nat → List Nat
  | [], ms => ms
  | o :: rest, ms => masksGo md rest (ms ++ [waitMask md ms 0 o.after.toList])

theorem waitMask_spec {ms : List Nat} {i : Nat} : ∀ (es : List Edge) (acc : Nat), (waitMask md ms acc es).testBit i = true → acc.testBit i = true ∨ ∃ e ∈ es, Region.binds md e = true ∧ (e.on = i ∨ (ms.getD e.on 0).testBit i = true)
  | [], _, h => .inl h
  | e :: es, acc, h => by
    unfold waitMask at h
    rcases waitMask_spec es _ h with h | ⟨e', he', hb, hc⟩
    · by_cases hb : Region.binds md e = true
      · rw [if_pos hb, Nat.testBit_or, Nat.testBit_or, Bool.or_eq_true, Bool.or_eq_true, Nat.testBit_two_pow] at h
        rcases h with (h | h) | h
        · exact .inl h
        · exact .inr ⟨e, List.mem_cons_self, hb, .inl (by simpa using h)⟩
        · exact .inr ⟨e, List.mem_cons_self, hb, .inr h⟩
      · rw [if_neg hb] at h; exact .inl h
    · exact .inr ⟨e', List.mem_cons_of_mem _ he', hb, hc⟩

theorem masksGo_spec (all : Array Oper) : ∀ (l : List Oper) (ms : List Nat), (∀ j, l[j]? = all[ms.length + j]?) → (∀ j i, (ms.getD j 0).testBit i = true → Before md all j i) →
    ∀ j i, ((masksGo md l ms).getD j 0).testBit i = true → Before md all j i
  | [], _, _, h => h
  | o :: rest, ms, hl, h => by
    unfold masksGo
    refine masksGo_spec all rest _ (fun j => by have := hl (j + 1); simpa [Nat.add_assoc, Nat.add_comm 1 j] using this) ?_
    intro j i hb
    by_cases hj : j < ms.length
    · refine h j i ?_
      rw [List.getD_eq_getElem?_getD, List.getElem?_append_left hj] at hb
      simpa [List.getD_eq_getElem?_getD] using hb
    · by_cases hj2 : j = ms.length
      · subst hj2
        rw [List.getD_eq_getElem?_getD, List.getElem?_append_right (Nat.le_refl _)] at hb
        simp only [Nat.sub_self, List.getElem?_cons_zero, Option.getD_some] at hb
        have ho : all[ms.length]? = some o := by have := hl 0; simpa using this.symm
        rcases waitMask_spec _ _ hb with hz | ⟨e, he, hbi, hc⟩
        · simp at hz
        · intro listed hcl hd
          have hon := hd o ho e (by simpa using he) hbi
          rcases hc with rfl | hc
          · exact hon
          · exact h _ _ hc listed hcl (fun o' ho' e' he' hb' => hcl _ _ ho' hon e' he' hb')
      · rw [List.getD_eq_getElem?_getD, List.getElem?_eq_none (by simp; omega)] at hb
        simp at hb

def masks (md : Region.Mode) (ops : Array Oper) : List Nat := masksGo md ops.toList []
theorem masks_spec {j i : Nat} (h : ((masks md ops).getD j 0).testBit i = true) : Before md ops j i :=
  masksGo_spec ops ops.toList [] (fun j => by simp) (fun j i h => by simp at h) j i h

/-- The stretch of operations k .. m - 1: those outside it that stand behind it wait for all of it; of two in it the later waits for the earlier or is apart from it. -/
def stretch (md : Region.Mode) (ops : Array Oper) (k m : Nat) : Bool :=
  decide (k ≤ m) && decide (m ≤ ops.size) && Region.noSelect ops &&
  (let ms := masks md ops
   (List.range ops.size).all fun j => match ops[j]? with
    | none => true
    | some oj =>
      oj.after.all (fun e => !Region.binds md e || decide (e.on < j)) &&
      (List.range j).all fun i => decide (i < k) || decide (m ≤ i) || (ms.getD j 0).testBit i || (decide (j < m) && match ops[i]? with | some oi => oi.apart ops oj | none => true))

theorem stretch_spec {k m : Nat} (h : stretch md ops k m = true) : k ≤ m ∧ m ≤ ops.size ∧ Region.noSelect ops = true ∧ ∀ j oj, ops[j]? = some oj →
    (∀ e ∈ oj.after, Region.binds md e = true → e.on < j) ∧ ∀ i oi, i < j → k ≤ i → i < m → ops[i]? = some oi → Before md ops j i ∨ (j < m ∧ oi.apart ops oj = true) := by
  unfold stretch at h
  simp only [Bool.and_eq_true, decide_eq_true_eq, List.all_eq_true, List.mem_range] at h
  obtain ⟨⟨⟨h0, h1⟩, h2⟩, h3⟩ := h
  refine ⟨h0, h1, h2, fun j oj hj => ?_⟩
  have hlt : j < ops.size := (Array.getElem?_eq_some_iff.1 hj).1
  have h4 := h3 j hlt
  simp only [hj, Bool.and_eq_true, Array.all_eq_true_iff_forall_mem, List.all_eq_true, List.mem_range, Bool.or_eq_true, Bool.not_eq_true', decide_eq_true_eq] at h4
  refine ⟨fun e he hb => (h4.1 e he).resolve_left (by simp [hb]), fun i oi hi hk hm hoi => ?_⟩
  have h5 := h4.2 i hi
  simp only [hoi] at h5
  rcases h5 with ((h5 | h5) | h5) | h5
  · omega
  · omega
  · exact .inl (masks_spec h5)
  · exact .inr h5

/-- What is listed when those of 'is' and all from m on are not. -/
def Lists (m : Nat) (md : Region.Mode) (ops : Array Oper) (is : List Nat) (listed : Array Bool) : Prop :=
  listed.size = ops.size ∧ (∀ k, k < ops.size → (listed.getD k true = false ↔ k ∈ is ∨ m ≤ k)) ∧ Closed md ops listed

theorem getD_false_of {listed : Array Bool} {k : Nat} (hk : k < listed.size) : (listed.getD k false = true) ↔ ¬ listed.getD k true = false := by
  simp [hk]

theorem Closed.next {j : Nat} {listed : Array Bool} (h : Closed md ops listed) (hr : j ∈ Region.ready md ops listed) : Closed md ops (listed.setIfInBounds j true) := by
  intro k o ho hk e he hb
  obtain ⟨_, oj, hoj, hall⟩ := mem_ready.1 hr
  by_cases hjk : j = k
  · subst hjk
    rw [ho] at hoj
    cases hoj
    exact getD_set_true (hall e he hb)
  · rw [getD_set_ne false hjk] at hk
    exact getD_set_true (h k o ho hk e he hb)

theorem Lists.next {m : Nat} {is pre post : List Nat} {j : Nat} {listed : Array Bool} (h : Lists m md ops is listed) (his : is = pre ++ j :: post) (hnd : is.Nodup) (hjm : j < m) (hm : m ≤ ops.size) (hr : j ∈ Region.ready md ops listed) :
    Lists m md ops (pre ++ post) (listed.setIfInBounds j true) := by
  refine ⟨by simp [h.1], fun k hk => ?_, h.2.2.next hr⟩
  by_cases hkj : j = k
  · subst hkj
    have hlt : j < listed.size := by rw [h.1]; omega
    have : j ∉ pre ++ post := by
      subst his
      obtain ⟨_, h2, h3⟩ := List.nodup_append.1 hnd
      intro hin
      rcases List.mem_append.1 hin with hp | hp
      · exact h3 j hp j List.mem_cons_self rfl
      · exact (List.nodup_cons.1 h2).1 hp
    simp only [Array.getD_eq_getD_getElem?, Array.getElem?_setIfInBounds_self_of_lt hlt, Option.getD_some]
    constructor
    · intro h; cases h
    · rintro (h | h)
      · exact absurd h this
      · omega
  · rw [getD_set_ne true hkj, h.2.1 k hk]
    subst his
    simp only [List.mem_append, List.mem_cons]
    constructor
    · rintro ((h | h | h) | h)
      · exact .inl (.inl h)
      · exact absurd h.symm hkj
      · exact .inl (.inr h)
      · exact .inr h
    · rintro ((h | h) | h)
      · exact .inl (.inl h)
      · exact .inl (.inr (.inr h))
      · exact .inr h

/-- The region from operation k on: those ahead of it have come up, no other. -/
def wpFrom (P : Program) (md : Region.Mode) (ops : Array Oper) (Q : Exit → Act → World → Prop) (k : Nat) (a : Act) (w : World) : Prop :=
  ∀ listed, Lists k md ops [] listed → wpAny P md ops Q (ops.size - k) listed a w

theorem wpAny_of_seq {Q : Exit → Act → World → Prop} {k m : Nat} (ho : stretch md ops k m = true) {T : Act → Prop}
    (hT : ∀ a w, T a → S w → wpFrom P md ops Q m a w) :
    ∀ (n : Nat) (is : List Nat) (listed : Array Bool) (a : Act) (w : World), is.length = n → is.Pairwise (· < ·) → (∀ i ∈ is, k ≤ i ∧ i < m) → Lists m md ops is listed → Seq P ops S T is a → S w →
      wpAny P md ops Q (n + (ops.size - m)) listed a w := by
  obtain ⟨hkm, hm, hns, hord⟩ := stretch_spec ho
  have hsel := Region.noSelect_spec hns
  intro n
  induction n with
  | zero =>
    intro is listed a w hlen _ _ hl hs hS
    obtain rfl : is = [] := List.length_eq_zero_iff.1 hlen
    rw [Nat.zero_add]
    exact hT a w hs hS listed hl
  | succ n ih =>
    intro is listed a w hlen hsorted hlt hl hs hS
    have hnd : is.Nodup := hsorted.imp (fun h => Nat.ne_of_lt h)
    rw [Nat.succ_add]
    refine ⟨fun hnone => ?_, fun j hj => ?_⟩
    · exfalso
      obtain ⟨i, is', rfl⟩ : ∃ i is', is = i :: is' := by
        cases is with
        | nil => simp at hlen
        | cons i is' => exact ⟨i, is', rfl⟩
      have him := hlt i List.mem_cons_self
      have hi : ops[i]? = some ops[i] := Array.getElem?_eq_getElem (by omega)
      have hmem : i ∈ Region.ready md ops listed := by
        rw [mem_ready]
        refine ⟨(hl.2.1 i (by omega)).2 (.inl List.mem_cons_self), _, hi, fun e he hb => ?_⟩
        have hlt' := (hord i _ hi).1 e he hb
        rw [getD_false_of (by rw [hl.1]; omega), hl.2.1 e.on (by omega)]
        rintro (h | h)
        · rcases List.mem_cons.1 h with h | h
          · omega
          · have := (List.pairwise_cons.1 hsorted).1 _ h; omega
        · omega
      rw [hnone] at hmem
      cases hmem
    · obtain ⟨hjun, oj, hoj, hall⟩ := mem_ready.1 hj
      have hjs : j < ops.size := (Array.getElem?_eq_some_iff.1 hoj).1
      have hnw : ∀ i ∈ is, ¬ Before md ops j i := fun i hi hw => by
        have h1 := hw listed hl.2.2 (fun o ho' e he hb => by rw [hoj] at ho'; cases ho'; exact hall e he hb)
        have him := hlt i hi
        exact (getD_false_of (by rw [hl.1]; omega)).1 h1 ((hl.2.1 i (by omega)).2 (.inl hi))
      have hjin : j ∈ is := by
        rcases (hl.2.1 j hjs).1 hjun with h | h
        · exact h
        · exfalso
          obtain ⟨i, is', rfl⟩ : ∃ i is', is = i :: is' := by
            cases is with
            | nil => simp at hlen
            | cons i is' => exact ⟨i, is', rfl⟩
          have him := hlt i List.mem_cons_self
          have hi : ops[i]? = some ops[i] := Array.getElem?_eq_getElem (by omega)
          rcases (hord j oj hoj).2 i _ (by omega) him.1 him.2 hi with hw | ⟨hjm, _⟩
          · exact hnw i List.mem_cons_self hw
          · omega
      obtain ⟨pre, post, rfl⟩ := List.append_of_mem hjin
      have hjm := hlt j hjin
      have hap : ∀ i oi, i ∈ pre → ops[i]? = some oi → oi.apart ops oj = true := fun i oi hi hoi => by
        have hij : i < j := (List.pairwise_append.1 hsorted).2.2 i hi j List.mem_cons_self
        have him := hlt i (by simp [hi])
        rcases (hord j oj hoj).2 i oi hij him.1 him.2 hoi with hw | ⟨_, hap⟩
        · exact absurd hw (hnw i (by simp [hi]))
        · exact hap
      obtain ⟨vj, hf, hs'⟩ := Seq.first hsel hoj post pre a hap hs
      refine hf.wpOp hoj hS fun w' hS' => ?_
      refine ih (pre ++ post) _ _ w' (by simp at hlen ⊢; omega) ?_ (fun i hi => hlt i (by rcases List.mem_append.1 hi with h | h <;> simp [h])) (hl.next rfl hnd hjm.2 hm hj) hs' hS'
      exact hsorted.sublist (List.Sublist.append_left (List.sublist_cons_self _ _) _)

theorem wpFrom_start {Q : Exit → Act → World → Prop} {id : Nat} {a : Act} {w : World} (hmix : P.follows .mixedOrders = true) (h : wpFrom P .any ops Q 0 a w.drew) : (Code.region id ops true).wp P Q a w := by
  refine wp_region_any hmix ?_
  have := h (Array.replicate ops.size false) ⟨by simp, fun k hk => by simp [hk], fun k o _ hk => by
    by_cases hks : k < ops.size
    · simp [hks] at hk
    · simp [hks] at hk⟩
  rwa [Nat.sub_zero] at this

theorem wpFrom_end {Q : Exit → Act → World → Prop} {a : Act} {w : World} (h : Q .normal a w) : wpFrom P md ops Q ops.size a w := by
  intro listed hl
  rw [Nat.sub_self]
  refine wpAny_done ?_ h 0
  rw [List.eq_nil_iff_forall_not_mem]
  intro j hj
  obtain ⟨hjun, oj, hoj, _⟩ := mem_ready.1 hj
  have hjs : j < ops.size := (Array.getElem?_eq_some_iff.1 hoj).1
  have := (hl.2.1 j hjs).1 hjun
  simp at this
  omega

/-- One operation, from whatever world, as it comes: all that stands behind it waits for it. -/
theorem wpFrom_one {Q : Exit → Act → World → Prop} {k : Nat} {a : Act} {w : World} (ho : stretch md ops k (k + 1) = true) (h : wpOp P ops Q k (wpFrom P md ops Q (k + 1)) a w) : wpFrom P md ops Q k a w := by
  obtain ⟨_, hm, hns, hord⟩ := stretch_spec ho
  intro listed hl
  have hks : k < ops.size := by omega
  have hok : ops[k]? = some ops[k] := Array.getElem?_eq_getElem hks
  have hsub : ops.size - k = (ops.size - (k + 1)) + 1 := by omega
  rw [hsub]
  have hmemk : k ∈ Region.ready md ops listed := by
    rw [mem_ready]
    refine ⟨(hl.2.1 k hks).2 (.inr (Nat.le_refl _)), _, hok, fun e he hb => ?_⟩
    have := (hord k _ hok).1 e he hb
    rw [getD_false_of (by rw [hl.1]; omega), hl.2.1 e.on (by omega)]
    simp; omega
  refine ⟨fun hn => (by rw [hn] at hmemk; cases hmemk), fun j hj => ?_⟩
  have hjk : j = k := by
    obtain ⟨hjun, oj, hoj, hall⟩ := mem_ready.1 hj
    have hjs : j < ops.size := (Array.getElem?_eq_some_iff.1 hoj).1
    have hkj : k ≤ j := by simpa using (hl.2.1 j hjs).1 hjun
    rcases Nat.lt_or_eq_of_le hkj with hlt | heq
    · exfalso
      rcases (hord j oj hoj).2 k _ hlt (Nat.le_refl _) (by omega) hok with hw | ⟨hjm, _⟩
      · have h1 := hw listed hl.2.2 (fun o ho' e he hb => by rw [hoj] at ho'; cases ho'; exact hall e he hb)
        exact (getD_false_of (by rw [hl.1]; omega)).1 h1 ((hl.2.1 k hks).2 (.inr (Nat.le_refl _)))
      · omega
    · exact heq.symm
  subst hjk
  refine wpOp_mono (fun a' w' h' => h' _ ?_) h
  refine ⟨by simp [hl.1], fun q hq => ?_, hl.2.2.next hj⟩
  by_cases hjq : j = q
  · subst hjq
    have hlt : j < listed.size := by rw [hl.1]; omega
    simp only [Array.getD_eq_getD_getElem?, Array.getElem?_setIfInBounds_self_of_lt hlt, Option.getD_some]
    simp
  · rw [getD_set_ne true hjq, hl.2.1 q hq]
    simp; omega

/-! ### The steps -/
/-- Of the operations that are left, m are walked once; behind them the rest goes on from whatever world that meets S. -/
def SeqM (P : Program) (ops : Array Oper) (S : World → Prop) (T : Act → World → Prop) : Nat → List Oper → Act → Prop
  | 0, _, a => ∀ w, S w → T a w
  | _ + 1, [], _ => False
  | m + 1, o :: rest, a => ∃ v, Fixed P ops S o v a ∧ SeqM P ops S T m rest (a.put o.dst v)

theorem SeqM.seq {T : Act → World → Prop} : ∀ (m k : Nat) (l : List Oper) (a : Act), (∀ j, l[j]? = ops[k + j]?) → SeqM P ops S T m l a →
    Seq P ops S (fun a' => ∀ w', S w' → T a' w') (List.range' k m) a
  | 0, _, _, _, _, h => h
  | _ + 1, _, [], _, _, h => h.elim
  | m + 1, k, o :: rest, a, hl, ⟨v, hf, h⟩ =>
    ⟨o, v, by have := hl 0; simpa using this.symm, hf, SeqM.seq m (k + 1) rest _ (fun j => by have := hl (j + 1); simpa [Nat.add_assoc, Nat.add_comm 1 j] using this) h⟩

/-- ████ A stretch of n operations from operation k on, each with one value in every world that meets S. -/
theorem wpFrom_seq {Q : Exit → Act → World → Prop} {k : Nat} {a : Act} {w : World} (n : Nat) (S : World → Prop) (ho : stretch md ops k (k + n) = true)
    (hS : S w) (h : SeqM P ops S (wpFrom P md ops Q (k + n)) n (ops.toList.drop k) a) : wpFrom P md ops Q k a w := by
  obtain ⟨_, hm, _, _⟩ := stretch_spec ho
  intro listed hl
  have hgo := wpAny_of_seq (P := P) (Q := Q) (S := S) ho (T := fun a' => ∀ w', S w' → wpFrom P md ops Q (k + n) a' w') (fun a' w' ha hS' => ha w' hS') n (List.range' k n) listed a w (by simp)
    List.pairwise_lt_range' (fun i hi => by have := List.mem_range'_1.1 hi; omega) ⟨hl.1, fun q hq => by rw [hl.2.1 q hq, List.mem_range'_1]; simp; omega, hl.2.2⟩
    (SeqM.seq n k _ a (fun j => by simp) h) hS
  have he : n + (ops.size - (k + n)) = ops.size - k := by omega
  rw [he] at hgo
  exact hgo

/-- From operation k on the text's order is the only one. -/
theorem wpFrom_list {Q : Exit → Act → World → Prop} : ∀ (r : Nat) (k : Nat) (a : Act) (w : World), k + r = ops.size → (∀ j, k ≤ j → j < ops.size → stretch md ops j (j + 1) = true) → wpList P ops Q (ops.toList.drop k) a w → wpFrom P md ops Q k a w
  | 0, k, a, w, hk, _, h => by
    have hd : ops.toList.drop k = [] := List.drop_eq_nil_of_le (by simp; omega)
    rw [hd] at h
    have hks : k = ops.size := by omega
    subst hks
    exact wpFrom_end h
  | r + 1, k, a, w, hk, hc, h => by
    have hks : k < ops.size := by omega
    have hok : ops[k]? = some ops[k] := Array.getElem?_eq_getElem hks
    have hd : ops.toList.drop k = ops[k] :: ops.toList.drop (k + 1) := by
      rw [List.drop_eq_getElem_cons (by simpa using hks)]
      simp
    refine wpFrom_one (hc k (Nat.le_refl _) hks) ?_
    rw [hd] at h
    unfold wpList at h
    unfold Go.wpOp
    simp only [hok]
    split
    · rename_i hw
      simp only [hw, if_true] at h
      exact h.imp (Oper.wp_mono fun a' w' h' => wpFrom_list r (k + 1) a' w' (by omega) (fun j hj hj2 => hc j (by omega) hj2) h') id
    · rename_i hw
      simp only [hw] at h
      exact wpFrom_list r (k + 1) _ w (by omega) (fun j hj hj2 => hc j (by omega) hj2) h

def chained (md : Region.Mode) (ops : Array Oper) (k : Nat) : Bool := decide (k ≤ ops.size) && (List.range ops.size).all fun j => decide (j < k) || stretch md ops j (j + 1)
theorem wpFrom_tail {Q : Exit → Act → World → Prop} {k : Nat} {a : Act} {w : World} (hc : chained md ops k = true) (h : wpList P ops Q (ops.toList.drop k) a w) : wpFrom P md ops Q k a w := by
  unfold chained at hc
  simp only [Bool.and_eq_true, decide_eq_true_eq, List.all_eq_true, List.mem_range, Bool.or_eq_true] at hc
  exact wpFrom_list (ops.size - k) k a w (by omega) (fun j hj hj2 => (hc.2 j hj2).resolve_left (by omega)) h

variable {T : Act → World → Prop} {a : Act} {m : Nat} {o : Oper} {rest : List Oper} {v : Value}
theorem SeqM.take (hw : Region.wanted o (yielded ops a.tmps) = true) (hv : ∀ w, S w → (execOp a.eval o).run P w = .ok (.value v) w) (h : SeqM P ops S T m rest (a.put o.dst v)) : SeqM P ops S T (m + 1) (o :: rest) a :=
  ⟨v, .inl ⟨hw, fun w hS => by rw [hv w hS]; exact ⟨rfl, hS⟩⟩, h⟩
theorem SeqM.skip (hw : Region.wanted o (yielded ops a.tmps) = false) (h : SeqM P ops S T m rest (a.put o.dst undef)) : SeqM P ops S T (m + 1) (o :: rest) a :=
  ⟨undef, .inr ⟨hw, rfl⟩, h⟩
theorem SeqM.call {f : FuncId} {args : Array Value} (hw : Region.wanted o (yielded ops a.tmps) = true) (hv : ∀ w, S w → (execOp a.eval o).run P w = .ok (.enter f args) w)
    (hc : ∀ w, S w → Calls P f args w fun e w' => e = .returned v ∧ S w') (h : SeqM P ops S T m rest (a.put o.dst v)) : SeqM P ops S T (m + 1) (o :: rest) a :=
  ⟨v, .inl ⟨hw, fun w hS => by rw [hv w hS]; exact hc w hS⟩, h⟩
theorem SeqM.gives (hw : Region.wanted o (yielded ops a.tmps) = true) (hv : ∀ w, S w → Gives P S v ((execOp a.eval o).run P w)) (h : SeqM P ops S T m rest (a.put o.dst v)) : SeqM P ops S T (m + 1) (o :: rest) a :=
  ⟨v, .inl ⟨hw, hv⟩, h⟩
theorem SeqM.done (h : ∀ w, S w → T a w) : SeqM P ops S T 0 rest a := h
/-- One operation as it comes, for the walk. -/
theorem wpFrom_step {Q : Exit → Act → World → Prop} {k : Nat} {w : World} (ho : stretch md ops k (k + 1) = true) (hk : ops[k]? = some o)
    (h : ∀ K' : Act → World → Prop, (∀ a w, wpFrom P md ops Q (k + 1) a w → K' a w) → if Region.wanted o (yielded ops a.tmps) = true then Oper.wp P o a w K' Q else K' (a.put o.dst undef) w) : wpFrom P md ops Q k a w :=
  wpFrom_one ho (wpOp_step hk (fun K' hK => h K' hK))
end
end Go.Proofs.Ytdllgfkcakhoeaa
