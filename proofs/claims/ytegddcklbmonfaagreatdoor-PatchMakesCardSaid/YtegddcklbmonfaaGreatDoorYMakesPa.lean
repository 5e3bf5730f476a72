/-
 Structs: parts of blocks, fields, equality; two results, one of them in memory; rooms that Grow asks for.
-/
import Derived.Orders
import Derived.RegionTactic
import Derived.Below
import Derived.WalkKit
import Derived.TacticsIn
import Derived.CallsIn
import Derived.AtR
import Derived.WalkSpells
import Derived.Maps.AppendAt
import Derived.Lib.Hide
import Derived.Lib.Strings
import Derived.Test.YtegddcklbmonfaaGreatDoorRows
import Derived.ProofKit
import Derived.LaidMore
import Derived.OpenShut
import Derived.ShutString
import Derived.ChangeOld
import Derived.Stop.Joined
import Derived.Carry
import Derived.Lib.SmallJoins
import Derived.Deep.Matrix
import Derived.ArgAppend
import Derived.Laws.StructEq
/-
 A region that draws its order, of which each operation ends with one value in every world that meets a condition S and leaves S standing: it is walked once, in the order of the text.
-/
namespace Go.Proofs.YtegddcklbmonfaaGreatDoor
set_option maxRecDepth 100000
set_option maxHeartbeats 2000000
open Go.Value (int slice)
set_option linter.unusedVariables false
set_option linter.unusedSimpArgs false
open Go Go.RowKit
section
variable {P : Program} {ops : Array Oper} {md : Region.Mode} {S : World → Prop}
def Gives (P : Program) (S : World → Prop) (v : Value) : Result Next → Prop
 | .ok (.value u) w => u = v ∧ S w
 | .ok .skip w => undef = v ∧ S w
 | .ok (.enter f args) w => Calls P f args w fun e w' => e = .returned v ∧ S w'
 | .ok (.row row args) w => Rows P row args w fun u w' => u = v ∧ S w'
 | _ => False
def Fixed (P : Program) (ops : Array Oper) (S : World → Prop) (o : Oper) (v : Value) (a : Act) : Prop :=
 (Region.wanted o (yielded ops a.tmps) = true ∧ ∀ w, S w → Gives P S v ((execOp a.eval o).run P w)) ∨
 (Region.wanted o (yielded ops a.tmps) = false ∧ v = undef)
theorem Fixed.of_same {o : Oper} {v : Value} {a a' : Act} (hy : Fixed P ops S o v a) (he : execOp a'.eval o = execOp a.eval o)
  (hw : Region.wanted o (yielded ops a'.tmps) = Region.wanted o (yielded ops a.tmps)) : Fixed P ops S o v a' := by
 unfold Fixed at *
 rw [he, hw]
 exact hy
theorem Fixed.wpOp {i : Nat} {o : Oper} {v : Value} {a : Act} (hi : ops[i]? = some o) (hy : Fixed P ops S o v a) {Q : Exit → Act → World → Prop}
  {K : Act → World → Prop} {w : World} (hS : S w) (h : ∀ w', S w' → K (a.put o.dst v) w') : wpOp P ops Q i K a w := by
 unfold Go.wpOp
 simp only [hi]
 rcases hy with ⟨hw, hv⟩ | ⟨hw, rfl⟩
 ·simp only [hw, if_true, Oper.wp]
  refine .inl ?_
  have hg := hv w hS
  generalize (execOp a.eval o).run P w = r at *
  cases r with
  | ok n w' =>
   cases n with
   | value u => obtain ⟨rfl, hS'⟩ := hg; exact h _ hS'
   | skip => obtain ⟨rfl, hS'⟩ := hg; exact h _ hS'
   | enter f args =>
    refine Calls.mono hg ?_
    rintro e w'' ⟨rfl, hS'⟩
    exact h _ hS'
   | row row args =>
    refine Rows.mono hg ?_
    rintro u w'' ⟨rfl, hS'⟩
    exact h _ hS'
   | _ => exact hg.elim
  | halt x w' => exact hg.elim
 ·simp only [hw, Bool.false_eq_true, if_false]; exact h _ hS
def Seq (P : Program) (ops : Array Oper) (S : World → Prop) (T : Act → Prop) : List Nat → Act → Prop
 | [], a => T a
 | i :: is, a => ∃ o v, ops[i]? = some o ∧ Fixed P ops S o v a ∧ Seq P ops S T is (a.put o.dst v)
theorem Seq.first {T : Act → Prop} (hsel : ∀ (j : Nat) (o : Oper) cs b, ops[j]? = some o → o.op ≠ .select cs b) {j : Nat} {oj : Oper} (hj : ops[j]? = some oj) (post : List Nat) :
  ∀ (pre : List Nat) (a : Act), (∀ i oi, i ∈ pre → ops[i]? = some oi → oi.apart ops oj = true) → Seq P ops S T (pre ++ j :: post) a →
   ∃ vj, Fixed P ops S oj vj a ∧ Seq P ops S T (pre ++ post) (a.put oj.dst vj)
 | [], a, _, h => by
  obtain ⟨o, v, ho, hf, hs⟩ := h
  rw [hj] at ho; cases ho
  exact ⟨v, hf, hs⟩
 | i :: pre, a, hap, h => by
  obtain ⟨oi, vi, hi, hf, hs⟩ := h
  obtain ⟨vj, hfj, hsj⟩ := Seq.first hsel hj post pre (a.put oi.dst vi) (fun k ok hk => hap k ok (List.mem_cons_of_mem _ hk)) hs
  obtain ⟨h1, h2, h3⟩ := Oper.apart_spec (hap i oi List.mem_cons_self hi)
  refine ⟨vj, hfj.of_same (execOp_put oj (fun cs b => hsel j oj cs b hj) a oi.dst vi h1).symm (wanted_put oj a oi.dst vi h1).symm, ?_⟩
  refine ⟨oi, vi, hi, hf.of_same (execOp_put oi (fun cs b => hsel i oi cs b hi) a oj.dst vj h3) (wanted_put oi a oj.dst vj h3), ?_⟩
  rw [← Act.put_comm a vi vj h2]
  exact hsj
def Closed (md : Region.Mode) (ops : Array Oper) (listed : Array Bool) : Prop :=
 ∀ k o, ops[k]? = some o → listed.getD k false = true → ∀ e ∈ o.after, Region.binds md e = true → listed.getD e.on false = true
def Before (md : Region.Mode) (ops : Array Oper) (j i : Nat) : Prop :=
 ∀ listed, Closed md ops listed → (∀ o, ops[j]? = some o → ∀ e ∈ o.after, Region.binds md e = true → listed.getD e.on false = true) → listed.getD i false = true
def waitMask (md : Region.Mode) (ms : List Nat) (acc : Nat) : List Edge → Nat
 | [] => acc
 | e :: es => waitMask md ms (if Region.binds md e then (acc ||| 2 ^ e.on) ||| ms.getD e.on 0 else acc) es
def masksGo (md : Region.Mode) : List Oper → List Nat → List Nat
 | [], ms => ms
 | o :: rest, ms => masksGo md rest (ms ++ [waitMask md ms 0 o.after.toList])
theorem waitMask_spec {ms : List Nat} {i : Nat} : ∀ (es : List Edge) (acc : Nat), (waitMask md ms acc es).testBit i = true → acc.testBit i = true ∨ ∃ e ∈ es, Region.binds md e = true ∧ (e.on = i ∨ (ms.getD e.on 0).testBit i = true)
 | [], _, h => .inl h
 | e :: es, acc, h => by
  unfold waitMask at h
  rcases waitMask_spec es _ h with h | ⟨e', he', hb, hc⟩
  ·by_cases hb : Region.binds md e = true
   ·rw [if_pos hb, Nat.testBit_or, Nat.testBit_or, Bool.or_eq_true, Bool.or_eq_true, Nat.testBit_two_pow] at h
    rcases h with (h | h) | h
    ·exact .inl h
    ·exact .inr ⟨e, List.mem_cons_self, hb, .inl (by simpa using h)⟩
    ·exact .inr ⟨e, List.mem_cons_self, hb, .inr h⟩
   ·rw [if_neg hb] at h; exact .inl h
  ·exact .inr ⟨e', List.mem_cons_of_mem _ he', hb, hc⟩
theorem masksGo_spec (all : Array Oper) : ∀ (l : List Oper) (ms : List Nat), (∀ j, l[j]? = all[ms.length + j]?) → (∀ j i, (ms.getD j 0).testBit i = true → Before md all j i) →
  ∀ j i, ((masksGo md l ms).getD j 0).testBit i = true → Before md all j i
 | [], _, _, h => h
 | o :: rest, ms, hl, h => by
  unfold masksGo
  refine masksGo_spec all rest _ (fun j => by have := hl (j + 1); simpa [Nat.add_assoc, Nat.add_comm 1 j] using this) ?_
  intro j i hb
  by_cases hj : j < ms.length
  ·refine h j i ?_
   rw [List.getD_eq_getElem?_getD, List.getElem?_append_left hj] at hb
   simpa [List.getD_eq_getElem?_getD] using hb
  ·by_cases hj2 : j = ms.length
   ·subst hj2
    rw [List.getD_eq_getElem?_getD, List.getElem?_append_right (Nat.le_refl _)] at hb
    simp only [Nat.sub_self, List.getElem?_cons_zero, Option.getD_some] at hb
    have ho : all[ms.length]? = some o := by have := hl 0; simpa using this.symm
    rcases waitMask_spec _ _ hb with hz | ⟨e, he, hbi, hc⟩
    ·simp at hz
    ·intro listed hcl hd
     have hon := hd o ho e (by simpa using he) hbi
     rcases hc with rfl | hc
     ·exact hon
     ·exact h _ _ hc listed hcl (fun o' ho' e' he' hb' => hcl _ _ ho' hon e' he' hb')
   ·rw [List.getD_eq_getElem?_getD, List.getElem?_eq_none (by simp; omega)] at hb
    simp at hb
def masks (md : Region.Mode) (ops : Array Oper) : List Nat := masksGo md ops.toList []
theorem masks_spec {j i : Nat} (h : ((masks md ops).getD j 0).testBit i = true) : Before md ops j i :=
 masksGo_spec ops ops.toList [] (fun j => by simp) (fun j i h => by simp at h) j i h
def stretch (md : Region.Mode) (ops : Array Oper) (k m : Nat) : Bool :=
 decide (k ≤ m) && decide (m ≤ ops.size) && Region.noSelect ops &&
 (let ms := masks md ops
  (List.range ops.size).all fun j => match ops[j]? with
  | none => true
  | some oj =>
   oj.after.all (fun e => !Region.binds md e || decide (e.on < j)) &&
   (List.range j).all fun i => decide (i < k) || decide (m ≤ i) || (ms.getD j 0).testBit i || (decide (j < m) && match ops[i]? with | some oi => oi.apart ops oj | none => true))
theorem stretch_spec {k m : Nat} (h : stretch md ops k m = true) : k ≤ m ∧ m ≤ ops.size ∧ Region.noSelect ops = true ∧ ∀ j oj, ops[j]? = some oj →
  (∀ e ∈ oj.after, Region.binds md e = true → e.on < j) ∧ ∀ i oi, i < j → k ≤ i → i < m → ops[i]? = some oi → Before md ops j i ∨ (j < m ∧ oi.apart ops oj = true) := by
 unfold stretch at h
 simp only [Bool.and_eq_true, decide_eq_true_eq, List.all_eq_true, List.mem_range] at h
 obtain ⟨⟨⟨h0, h1⟩, h2⟩, h3⟩ := h
 refine ⟨h0, h1, h2, fun j oj hj => ?_⟩
 have hlt : j < ops.size := (Array.getElem?_eq_some_iff.1 hj).1
 have h4 := h3 j hlt
 simp only [hj, Bool.and_eq_true, Array.all_eq_true_iff_forall_mem, List.all_eq_true, List.mem_range, Bool.or_eq_true, Bool.not_eq_true', decide_eq_true_eq] at h4
 refine ⟨fun e he hb => (h4.1 e he).resolve_left (by simp [hb]), fun i oi hi hk hm hoi => ?_⟩
 have h5 := h4.2 i hi
 simp only [hoi] at h5
 rcases h5 with ((h5 | h5) | h5) | h5
 ·omega
 ·omega
 ·exact .inl (masks_spec h5)
 ·exact .inr h5
def Lists (m : Nat) (md : Region.Mode) (ops : Array Oper) (is : List Nat) (listed : Array Bool) : Prop :=
 listed.size = ops.size ∧ (∀ k, k < ops.size → (listed.getD k true = false ↔ k ∈ is ∨ m ≤ k)) ∧ Closed md ops listed
theorem getD_false_of {listed : Array Bool} {k : Nat} (hk : k < listed.size) : (listed.getD k false = true) ↔ ¬ listed.getD k true = false := by
 simp [hk]
theorem Closed.next {j : Nat} {listed : Array Bool} (h : Closed md ops listed) (hr : j ∈ Region.ready md ops listed) : Closed md ops (listed.setIfInBounds j true) := by
 intro k o ho hk e he hb
 obtain ⟨_, oj, hoj, hall⟩ := mem_ready.1 hr
 by_cases hjk : j = k
 ·subst hjk
  rw [ho] at hoj
  cases hoj
  exact getD_set_true (hall e he hb)
 ·rw [getD_set_ne false hjk] at hk
  exact getD_set_true (h k o ho hk e he hb)
theorem Lists.next {m : Nat} {is pre post : List Nat} {j : Nat} {listed : Array Bool} (h : Lists m md ops is listed) (his : is = pre ++ j :: post) (hnd : is.Nodup) (hjm : j < m) (hm : m ≤ ops.size) (hr : j ∈ Region.ready md ops listed) :
  Lists m md ops (pre ++ post) (listed.setIfInBounds j true) := by
 refine ⟨by simp [h.1], fun k hk => ?_, h.2.2.next hr⟩
 by_cases hkj : j = k
 ·subst hkj
  have hlt : j < listed.size := by rw [h.1]; omega
  have : j ∉ pre ++ post := by
   subst his
   obtain ⟨_, h2, h3⟩ := List.nodup_append.1 hnd
   intro hin
   rcases List.mem_append.1 hin with hp | hp
   ·exact h3 j hp j List.mem_cons_self rfl
   ·exact (List.nodup_cons.1 h2).1 hp
  simp only [Array.getD_eq_getD_getElem?, Array.getElem?_setIfInBounds_self_of_lt hlt, Option.getD_some]
  constructor
  ·intro h; cases h
  ·rintro (h | h)
   ·exact absurd h this
   ·omega
 ·rw [getD_set_ne true hkj, h.2.1 k hk]
  subst his
  simp only [List.mem_append, List.mem_cons]
  constructor
  ·rintro ((h | h | h) | h)
   ·exact .inl (.inl h)
   ·exact absurd h.symm hkj
   ·exact .inl (.inr h)
   ·exact .inr h
  ·rintro ((h | h) | h)
   ·exact .inl (.inl h)
   ·exact .inl (.inr (.inr h))
   ·exact .inr h
def wpFrom (P : Program) (md : Region.Mode) (ops : Array Oper) (Q : Exit → Act → World → Prop) (k : Nat) (a : Act) (w : World) : Prop :=
 ∀ listed, Lists k md ops [] listed → wpAny P md ops Q (ops.size - k) listed a w
theorem wpAny_of_seq {Q : Exit → Act → World → Prop} {k m : Nat} (ho : stretch md ops k m = true) {T : Act → Prop}
  (hT : ∀ a w, T a → S w → wpFrom P md ops Q m a w) :
  ∀ (n : Nat) (is : List Nat) (listed : Array Bool) (a : Act) (w : World), is.length = n → is.Pairwise (· < ·) → (∀ i ∈ is, k ≤ i ∧ i < m) → Lists m md ops is listed → Seq P ops S T is a → S w →
   wpAny P md ops Q (n + (ops.size - m)) listed a w := by
 obtain ⟨hkm, hm, hns, hord⟩ := stretch_spec ho
 have hsel := Region.noSelect_spec hns
 intro n
 induction n with
 | zero =>
  intro is listed a w hlen _ _ hl hs hS
  obtain rfl : is = [] := List.length_eq_zero_iff.1 hlen
  rw [Nat.zero_add]
  exact hT a w hs hS listed hl
 | succ n ih =>
  intro is listed a w hlen hsorted hlt hl hs hS
  have hnd : is.Nodup := hsorted.imp (fun h => Nat.ne_of_lt h)
  rw [Nat.succ_add]
  refine ⟨fun hnone => ?_, fun j hj => ?_⟩
  ·exfalso
   obtain ⟨i, is', rfl⟩ : ∃ i is', is = i :: is' := by
    cases is with
    | nil => simp at hlen
    | cons i is' => exact ⟨i, is', rfl⟩
   have him := hlt i List.mem_cons_self
   have hi : ops[i]? = some ops[i] := Array.getElem?_eq_getElem (by omega)
   have hmem : i ∈ Region.ready md ops listed := by
    rw [mem_ready]
    refine ⟨(hl.2.1 i (by omega)).2 (.inl List.mem_cons_self), _, hi, fun e he hb => ?_⟩
    have hlt' := (hord i _ hi).1 e he hb
    rw [getD_false_of (by rw [hl.1]; omega), hl.2.1 e.on (by omega)]
    rintro (h | h)
    ·rcases List.mem_cons.1 h with h | h
     ·omega
     ·have := (List.pairwise_cons.1 hsorted).1 _ h; omega
    ·omega
   rw [hnone] at hmem
   cases hmem
  ·obtain ⟨hjun, oj, hoj, hall⟩ := mem_ready.1 hj
   have hjs : j < ops.size := (Array.getElem?_eq_some_iff.1 hoj).1
   have hnw : ∀ i ∈ is, ¬ Before md ops j i := fun i hi hw => by
    have h1 := hw listed hl.2.2 (fun o ho' e he hb => by rw [hoj] at ho'; cases ho'; exact hall e he hb)
    have him := hlt i hi
    exact (getD_false_of (by rw [hl.1]; omega)).1 h1 ((hl.2.1 i (by omega)).2 (.inl hi))
   have hjin : j ∈ is := by
    rcases (hl.2.1 j hjs).1 hjun with h | h
    ·exact h
    ·exfalso
     obtain ⟨i, is', rfl⟩ : ∃ i is', is = i :: is' := by
      cases is with
      | nil => simp at hlen
      | cons i is' => exact ⟨i, is', rfl⟩
     have him := hlt i List.mem_cons_self
     have hi : ops[i]? = some ops[i] := Array.getElem?_eq_getElem (by omega)
     rcases (hord j oj hoj).2 i _ (by omega) him.1 him.2 hi with hw | ⟨hjm, _⟩
     ·exact hnw i List.mem_cons_self hw
     ·omega
   obtain ⟨pre, post, rfl⟩ := List.append_of_mem hjin
   have hjm := hlt j hjin
   have hap : ∀ i oi, i ∈ pre → ops[i]? = some oi → oi.apart ops oj = true := fun i oi hi hoi => by
    have hij : i < j := (List.pairwise_append.1 hsorted).2.2 i hi j List.mem_cons_self
    have him := hlt i (by simp [hi])
    rcases (hord j oj hoj).2 i oi hij him.1 him.2 hoi with hw | ⟨_, hap⟩
    ·exact absurd hw (hnw i (by simp [hi]))
    ·exact hap
   obtain ⟨vj, hf, hs'⟩ := Seq.first hsel hoj post pre a hap hs
   refine hf.wpOp hoj hS fun w' hS' => ?_
   refine ih (pre ++ post) _ _ w' (by simp at hlen ⊢; omega) ?_ (fun i hi => hlt i (by rcases List.mem_append.1 hi with h | h <;> simp [h])) (hl.next rfl hnd hjm.2 hm hj) hs' hS'
   exact hsorted.sublist (List.Sublist.append_left (List.sublist_cons_self _ _) _)
theorem wpFrom_start {Q : Exit → Act → World → Prop} {id : Nat} {a : Act} {w : World} (hmix : P.follows .mixedOrders = true) (h : wpFrom P .any ops Q 0 a w.drew) : (Code.region id ops true).wp P Q a w := by
 refine wp_region_any hmix ?_
 have := h (Array.replicate ops.size false) ⟨by simp, fun k hk => by simp [hk], fun k o _ hk => by
  by_cases hks : k < ops.size
  ·simp [hks] at hk
  ·simp [hks] at hk⟩
 rwa [Nat.sub_zero] at this
theorem wpFrom_end {Q : Exit → Act → World → Prop} {a : Act} {w : World} (h : Q .normal a w) : wpFrom P md ops Q ops.size a w := by
 intro listed hl
 rw [Nat.sub_self]
 refine wpAny_done ?_ h 0
 rw [List.eq_nil_iff_forall_not_mem]
 intro j hj
 obtain ⟨hjun, oj, hoj, _⟩ := mem_ready.1 hj
 have hjs : j < ops.size := (Array.getElem?_eq_some_iff.1 hoj).1
 have := (hl.2.1 j hjs).1 hjun
 simp at this
 omega
theorem wpFrom_one {Q : Exit → Act → World → Prop} {k : Nat} {a : Act} {w : World} (ho : stretch md ops k (k + 1) = true) (h : wpOp P ops Q k (wpFrom P md ops Q (k + 1)) a w) : wpFrom P md ops Q k a w := by
 obtain ⟨_, hm, hns, hord⟩ := stretch_spec ho
 intro listed hl
 have hks : k < ops.size := by omega
 have hok : ops[k]? = some ops[k] := Array.getElem?_eq_getElem hks
 have hsub : ops.size - k = (ops.size - (k + 1)) + 1 := by omega
 rw [hsub]
 have hmemk : k ∈ Region.ready md ops listed := by
  rw [mem_ready]
  refine ⟨(hl.2.1 k hks).2 (.inr (Nat.le_refl _)), _, hok, fun e he hb => ?_⟩
  have := (hord k _ hok).1 e he hb
  rw [getD_false_of (by rw [hl.1]; omega), hl.2.1 e.on (by omega)]
  simp; omega
 refine ⟨fun hn => (by rw [hn] at hmemk; cases hmemk), fun j hj => ?_⟩
 have hjk : j = k := by
  obtain ⟨hjun, oj, hoj, hall⟩ := mem_ready.1 hj
  have hjs : j < ops.size := (Array.getElem?_eq_some_iff.1 hoj).1
  have hkj : k ≤ j := by simpa using (hl.2.1 j hjs).1 hjun
  rcases Nat.lt_or_eq_of_le hkj with hlt | heq
  ·exfalso
   rcases (hord j oj hoj).2 k _ hlt (Nat.le_refl _) (by omega) hok with hw | ⟨hjm, _⟩
   ·have h1 := hw listed hl.2.2 (fun o ho' e he hb => by rw [hoj] at ho'; cases ho'; exact hall e he hb)
    exact (getD_false_of (by rw [hl.1]; omega)).1 h1 ((hl.2.1 k hks).2 (.inr (Nat.le_refl _)))
   ·omega
  ·exact heq.symm
 subst hjk
 refine wpOp_mono (fun a' w' h' => h' _ ?_) h
 refine ⟨by simp [hl.1], fun q hq => ?_, hl.2.2.next hj⟩
 by_cases hjq : j = q
 ·subst hjq
  have hlt : j < listed.size := by rw [hl.1]; omega
  simp only [Array.getD_eq_getD_getElem?, Array.getElem?_setIfInBounds_self_of_lt hlt, Option.getD_some]
  simp
 ·rw [getD_set_ne true hjq, hl.2.1 q hq]
  simp; omega
def SeqM (P : Program) (ops : Array Oper) (S : World → Prop) (T : Act → World → Prop) : Nat → List Oper → Act → Prop
 | 0, _, a => ∀ w, S w → T a w
 | _ + 1, [], _ => False
 | m + 1, o :: rest, a => ∃ v, Fixed P ops S o v a ∧ SeqM P ops S T m rest (a.put o.dst v)
theorem SeqM.seq {T : Act → World → Prop} : ∀ (m k : Nat) (l : List Oper) (a : Act), (∀ j, l[j]? = ops[k + j]?) → SeqM P ops S T m l a →
  Seq P ops S (fun a' => ∀ w', S w' → T a' w') (List.range' k m) a
 | 0, _, _, _, _, h => h
 | _ + 1, _, [], _, _, h => h.elim
 | m + 1, k, o :: rest, a, hl, ⟨v, hf, h⟩ =>
  ⟨o, v, by have := hl 0; simpa using this.symm, hf, SeqM.seq m (k + 1) rest _ (fun j => by have := hl (j + 1); simpa [Nat.add_assoc, Nat.add_comm 1 j] using this) h⟩
theorem wpFrom_seq {Q : Exit → Act → World → Prop} {k : Nat} {a : Act} {w : World} (n : Nat) (S : World → Prop) (ho : stretch md ops k (k + n) = true)
  (hS : S w) (h : SeqM P ops S (wpFrom P md ops Q (k + n)) n (ops.toList.drop k) a) : wpFrom P md ops Q k a w := by
 obtain ⟨_, hm, _, _⟩ := stretch_spec ho
 intro listed hl
 have hgo := wpAny_of_seq (P := P) (Q := Q) (S := S) ho (T := fun a' => ∀ w', S w' → wpFrom P md ops Q (k + n) a' w') (fun a' w' ha hS' => ha w' hS') n (List.range' k n) listed a w (by simp)
  List.pairwise_lt_range' (fun i hi => by have := List.mem_range'_1.1 hi; omega) ⟨hl.1, fun q hq => by rw [hl.2.1 q hq, List.mem_range'_1]; simp; omega, hl.2.2⟩
  (SeqM.seq n k _ a (fun j => by simp) h) hS
 have he : n + (ops.size - (k + n)) = ops.size - k := by omega
 rw [he] at hgo
 exact hgo
theorem wpFrom_list {Q : Exit → Act → World → Prop} : ∀ (r : Nat) (k : Nat) (a : Act) (w : World), k + r = ops.size → (∀ j, k ≤ j → j < ops.size → stretch md ops j (j + 1) = true) → wpList P ops Q (ops.toList.drop k) a w → wpFrom P md ops Q k a w
 | 0, k, a, w, hk, _, h => by
  have hd : ops.toList.drop k = [] := List.drop_eq_nil_of_le (by simp; omega)
  rw [hd] at h
  have hks : k = ops.size := by omega
  subst hks
  exact wpFrom_end h
 | r + 1, k, a, w, hk, hc, h => by
  have hks : k < ops.size := by omega
  have hok : ops[k]? = some ops[k] := Array.getElem?_eq_getElem hks
  have hd : ops.toList.drop k = ops[k] :: ops.toList.drop (k + 1) := by
   rw [List.drop_eq_getElem_cons (by simpa using hks)]
   simp
  refine wpFrom_one (hc k (Nat.le_refl _) hks) ?_
  rw [hd] at h
  unfold wpList at h
  unfold Go.wpOp
  simp only [hok]
  split
  ·rename_i hw
   simp only [hw, if_true] at h
   exact h.imp (Oper.wp_mono fun a' w' h' => wpFrom_list r (k + 1) a' w' (by omega) (fun j hj hj2 => hc j (by omega) hj2) h') id
  ·rename_i hw
   simp only [hw] at h
   exact wpFrom_list r (k + 1) _ w (by omega) (fun j hj hj2 => hc j (by omega) hj2) h
def chained (md : Region.Mode) (ops : Array Oper) (k : Nat) : Bool := decide (k ≤ ops.size) && (List.range ops.size).all fun j => decide (j < k) || stretch md ops j (j + 1)
theorem wpFrom_tail {Q : Exit → Act → World → Prop} {k : Nat} {a : Act} {w : World} (hc : chained md ops k = true) (h : wpList P ops Q (ops.toList.drop k) a w) : wpFrom P md ops Q k a w := by
 unfold chained at hc
 simp only [Bool.and_eq_true, decide_eq_true_eq, List.all_eq_true, List.mem_range, Bool.or_eq_true] at hc
 exact wpFrom_list (ops.size - k) k a w (by omega) (fun j hj hj2 => (hc.2 j hj2).resolve_left (by omega)) h
variable {T : Act → World → Prop} {a : Act} {m : Nat} {o : Oper} {rest : List Oper} {v : Value}
theorem SeqM.take (hw : Region.wanted o (yielded ops a.tmps) = true) (hv : ∀ w, S w → (execOp a.eval o).run P w = .ok (.value v) w) (h : SeqM P ops S T m rest (a.put o.dst v)) : SeqM P ops S T (m + 1) (o :: rest) a :=
 ⟨v, .inl ⟨hw, fun w hS => by rw [hv w hS]; exact ⟨rfl, hS⟩⟩, h⟩
theorem SeqM.call {f : FuncId} {args : Array Value} (hw : Region.wanted o (yielded ops a.tmps) = true) (hv : ∀ w, S w → (execOp a.eval o).run P w = .ok (.enter f args) w)
  (hc : ∀ w, S w → Calls P f args w fun e w' => e = .returned v ∧ S w') (h : SeqM P ops S T m rest (a.put o.dst v)) : SeqM P ops S T (m + 1) (o :: rest) a :=
 ⟨v, .inl ⟨hw, fun w hS => by rw [hv w hS]; exact hc w hS⟩, h⟩
theorem SeqM.done (h : ∀ w, S w → T a w) : SeqM P ops S T 0 rest a := h
end
/-
 A small logic of steps: what the slots hold is a list, what the call's own blocks hold is a list; one rule for each operation.
-/
structure Ent where
 g : Nat
 t : TypeId
 cs : List Value
 tot : Nat
def Ent.lies (e : Ent) (w : World) : Prop := ∃ cur : Array Value, w.heap[e.g]? = some (.cells cur e.t (0, 0)) ∧ cur.size = e.tot ∧ ∀ (j : Nat) (u : Value), e.cs[j]? = some u → cur[j]? = some u
structure St (w0 : World) (H : List Ent) (w : World) : Prop where
 os : w.os = w0.os
 tape : w.tape = w0.tape
 output : w.output = w0.output
 size : w0.heap.size ≤ w.heap.size
 has : ∀ e ∈ H, e.lies w
 old : ∀ b, b < w0.heap.size → (∀ e ∈ H, e.g ≠ b) → w.heap[b]? = w0.heap[b]?
 apart : H.Pairwise fun d e => d.g ≠ e.g
section
variable {w0 w w' : World} {H : List Ent} {e : Ent}
theorem Ent.lies.lt (h : e.lies w) : e.g < w.heap.size := by
 obtain ⟨cur, h, _⟩ := h
 exact (Array.getElem?_eq_some_iff.1 h).1
theorem Ent.lies.of_block (h : e.lies w) (hb : w'.heap[e.g]? = w.heap[e.g]?) : e.lies w' := by
 obtain ⟨cur, h1, h2⟩ := h
 exact ⟨cur, hb.trans h1, h2⟩
theorem Ent.lies.cell (h : e.lies w) {o : Nat} {v : Value} (hv : e.cs[o]? = some v) : w.cell? ⟨e.g, o, none⟩ = some v := by
 obtain ⟨cur, h1, _, h3⟩ := h
 simp [World.cell?, h1, h3 o v hv]
theorem Ent.lies.free (h : e.lies w) (o : Nat) : w.frozen? ⟨e.g, o, none⟩ = false := by
 obtain ⟨cur, h1, _⟩ := h
 simp [World.frozen?, h1]
theorem St.refl (w : World) : St w [] w := ⟨rfl, rfl, rfl, Nat.le_refl _, by simp, fun _ _ _ => rfl, .nil⟩
abbrev zE := @St.refl
theorem St.drew (h : St w0 H w) : St w0 H w.drew := ⟨h.os, h.tape, h.output, h.size, fun e he => (h.has e he).of_block rfl, h.old, h.apart⟩
theorem St.below (h : St w0 [] w) : Below w0.heap.size w0 w := ⟨h.os, h.tape, h.output, h.size, fun b hb => h.old b hb (by simp)⟩
theorem St.call (h : St w0 H w) (hb : Below w.heap.size w w') : St w0 H w' :=
 ⟨hb.os.trans h.os, hb.tape.trans h.tape, hb.output.trans h.output, Nat.le_trans h.size hb.size,
  fun e he => (h.has e he).of_block (hb.block _ (h.has e he).lt),
  fun b hlt hne => (hb.block b (Nat.lt_of_lt_of_le hlt h.size)).trans (h.old b hlt hne), h.apart⟩
theorem St.call' (h : St w0 H w) (hb : St w [] w') : St w0 H w' := h.call hb.below
theorem St.made (h : St w0 H w) (hb : St w [e] w') (hn : w.heap.size ≤ e.g) : St w0 (e :: H) w' :=
 ⟨hb.os.trans h.os, hb.tape.trans h.tape, hb.output.trans h.output, Nat.le_trans h.size hb.size,
  fun d hd => by
   rcases List.mem_cons.1 hd with rfl | hd
   ·exact hb.has _ (by simp)
   ·exact (h.has d hd).of_block (hb.old _ (h.has d hd).lt (by intro c hc; simp at hc; rw [hc]; have := (h.has d hd).lt; omega)),
  fun b hlt hne => (hb.old b (Nat.lt_of_lt_of_le hlt h.size) (by intro c hc; simp at hc; rw [hc]; exact hne _ (by simp))).trans (h.old b hlt fun d hd => hne d (by simp [hd])),
  .cons (fun d hd => by have := (h.has d hd).lt; omega) h.apart⟩
theorem set_mem {α : Type} {l : List α} {i : Nat} {x d : α} (h : d ∈ l.set i x) : d = x ∨ ∃ j, j ≠ i ∧ l[j]? = some d := by
 obtain ⟨j, hj, rfl⟩ := List.getElem_of_mem h
 by_cases hij : i = j
 ·subst hij; left; simp
 ·right
  refine ⟨j, fun e => hij e.symm, ?_⟩
  rw [List.getElem_set_ne hij]
  simp at hj
  simp [hj]
theorem pairwise_ne {l : List Ent} (hp : l.Pairwise fun d e => d.g ≠ e.g) {i j : Nat} {d e : Ent} (hd : l[i]? = some d) (he : l[j]? = some e) (hij : i ≠ j) : d.g ≠ e.g := by
 obtain ⟨hi, rfl⟩ := List.getElem?_eq_some_iff.1 hd
 obtain ⟨hj, rfl⟩ := List.getElem?_eq_some_iff.1 he
 rcases Nat.lt_or_gt_of_ne hij with h | h
 ·exact List.pairwise_iff_getElem.1 hp i j hi hj h
 ·exact fun e => List.pairwise_iff_getElem.1 hp j i hj hi h e.symm
theorem St.turned {i : Nat} {d : Ent} (h : St w0 H w) (hi : H[i]? = some d) (hg : e.g = d.g) (he : e.lies w')
  (hos : w'.os = w.os) (htape : w'.tape = w.tape) (hout : w'.output = w.output) (hsize : w.heap.size ≤ w'.heap.size)
  (hb : ∀ b, b < w.heap.size → b ≠ d.g → w'.heap[b]? = w.heap[b]?) : St w0 (H.set i e) w' := by
 have hil : i < H.length := (List.getElem?_eq_some_iff.1 hi).1
 refine ⟨hos.trans h.os, htape.trans h.tape, hout.trans h.output, Nat.le_trans h.size hsize, ?_, ?_, ?_⟩
 ·intro c hc
  rcases set_mem hc with rfl | ⟨j, hj, hcj⟩
  ·exact he
  ·have hcl := h.has c (List.mem_of_getElem? hcj)
   exact hcl.of_block (hb _ hcl.lt (pairwise_ne h.apart hcj hi hj))
 ·intro b hlt hne
  have hed : b ≠ d.g := by
   intro hbd
   exact hne e (List.mem_of_getElem? (i := i) (by simp [hil])) (by rw [hg, hbd])
  refine (hb b (Nat.lt_of_lt_of_le hlt h.size) hed).trans (h.old b hlt ?_)
  intro c hc
  obtain ⟨j, hj, rfl⟩ := List.getElem_of_mem hc
  by_cases hij : i = j
  ·subst hij
   have : d = H[i] := by rw [List.getElem?_eq_getElem hil] at hi; exact (Option.some.inj hi).symm
   rw [← this]; exact fun e => hed e.symm
  ·exact hne _ (List.mem_of_getElem? (i := j) (by rw [List.getElem?_set_ne hij, List.getElem?_eq_getElem hj]))
 ·rw [List.pairwise_iff_getElem]
  intro p q hp hq hpq
  simp only [List.length_set] at hp hq
  rw [List.getElem_set, List.getElem_set]
  by_cases h1 : i = p
  ·subst h1
   rw [if_pos rfl, if_neg (by omega), hg]
   exact pairwise_ne h.apart hi (List.getElem?_eq_getElem hq) (by omega)
  ·rw [if_neg h1]
   by_cases h2 : i = q
   ·subst h2
    rw [if_pos rfl, hg]
    exact pairwise_ne h.apart (List.getElem?_eq_getElem hp) hi (by omega)
   ·rw [if_neg h2]
    exact pairwise_ne h.apart (List.getElem?_eq_getElem hp) (List.getElem?_eq_getElem hq) (by omega)
theorem St.turn {i : Nat} {d : Ent} (h : St w0 H w) (hi : H[i]? = some d) (hg : e.g = d.g) (hb : St w [e] w') : St w0 (H.set i e) w' :=
 h.turned hi hg (hb.has e (by simp)) hb.os hb.tape hb.output hb.size fun b hlt hne => hb.old b hlt (by intro c hc; simp at hc; rw [hc, hg]; exact fun e => hne e.symm)
theorem St.turn0 {d : Ent} (h : St w0 (d :: H) w) (hb : St w [e] w') (hg : e.g = d.g) : St w0 (e :: H) w' := St.turn (i := 0) h rfl hg hb
theorem St.drop (h : St w0 (e :: H) w) (hn : w0.heap.size ≤ e.g) : St w0 H w :=
 ⟨h.os, h.tape, h.output, h.size, fun d hd => h.has d (by simp [hd]), fun b hlt hne => h.old b hlt (by
  intro c hc
  rcases List.mem_cons.1 hc with rfl | hc
  ·omega
  ·exact hne c hc), (List.pairwise_cons.1 h.apart).2⟩
theorem St.erase {i : Nat} {d : Ent} (h : St w0 H w) (hi : H[i]? = some d) (hn : w0.heap.size ≤ d.g) : St w0 (H.eraseIdx i) w := by
 have hsub : (H.eraseIdx i).Sublist H := List.eraseIdx_sublist ..
 refine ⟨h.os, h.tape, h.output, h.size, fun d hd => h.has d (hsub.subset hd), fun b hlt hne => h.old b hlt ?_, h.apart.sublist hsub⟩
 intro c hc
 obtain ⟨j, hj, rfl⟩ := List.getElem_of_mem hc
 by_cases hij : j = i
 ·subst hij
  rw [List.getElem?_eq_getElem hj] at hi
  cases hi; omega
 ·exact hne _ (by rw [List.mem_eraseIdx_iff_getElem?]; exact ⟨j, hij, List.getElem?_eq_getElem hj⟩)
theorem St.alloc (h : St w0 H w) (t : TypeId) (cs : List Value) (arr : Array Value) (ha : arr.toList = cs) : St w0 (⟨w.heap.size, t, cs, cs.length⟩ :: H) (w.alloc (.cells arr t)) := by
 have hold : ∀ b, b < w.heap.size → (w.alloc (.cells arr t)).heap[b]? = w.heap[b]? := fun b hb => Below.heap_alloc w _ b hb
 refine ⟨h.os, h.tape, h.output, by simp; have := h.size; omega, ?_, ?_, ?_⟩
 ·intro d hd
  rcases List.mem_cons.1 hd with rfl | hd
  ·subst ha
   exact ⟨arr, heap_alloc_new w _, by simp, fun j u hu => by simpa using hu⟩
  ·exact (h.has d hd).of_block (hold _ (h.has d hd).lt)
 ·intro b hb hne
  exact (hold b (Nat.lt_of_lt_of_le hb h.size)).trans (h.old b hb fun d hd => hne d (by simp [hd]))
 ·exact .cons (fun d hd => by have := (h.has d hd).lt; simp; omega) h.apart
theorem lies_set (h : e.lies w) (o : Nat) (v : Value) : Ent.lies ⟨e.g, e.t, e.cs.set o v, e.tot⟩ (w.setCell ⟨e.g, o, none⟩ v) := by
 obtain ⟨cur, h1, h2, h3⟩ := h
 refine ⟨cur.setIfInBounds o v, by simp [World.setCell, Array.getElem?_modify, h1], by simpa using h2, ?_⟩
 intro j u hj
 simp only [List.getElem?_set] at hj
 rw [Array.getElem?_setIfInBounds]
 split at hj
 ·rename_i hoj
  subst hoj
  split at hj
  ·rename_i hlt
   have := h3 o _ (List.getElem?_eq_getElem hlt)
   have hlt2 : o < cur.size := (Array.getElem?_eq_some_iff.1 this).1
   simpa [hlt2] using hj
  ·cases hj
 ·rename_i hoj
  rw [if_neg hoj]; exact h3 j u hj
theorem St.set {i : Nat} (h : St w0 H w) (hi : H[i]? = some e) (o : Nat) (v : Value) : St w0 (H.set i ⟨e.g, e.t, e.cs.set o v, e.tot⟩) (w.setCell ⟨e.g, o, none⟩ v) :=
 h.turned hi rfl (lies_set (h.has e (List.mem_of_getElem? hi)) o v) rfl rfl rfl (by simp) fun b _ hne => Below.heap_setCell w _ v b hne
theorem St.old_cell (h : St w0 H w) {ad : Addr} (hb : ad.block < w0.heap.size) (hne : ∀ e ∈ H, e.g ≠ ad.block) : w.cell? ad = w0.cell? ad := World.cell?_of_block (h.old _ hb hne)
theorem ne_nil {b : Nat} : ∀ e ∈ ([] : List Ent), e.g ≠ b := by simp
abbrev qF := @ne_nil
theorem ne_cons {b : Nat} (h : e.g ≠ b) (hH : ∀ d ∈ H, d.g ≠ b) : ∀ d ∈ e :: H, d.g ≠ b := by simp; exact ⟨h, hH⟩
abbrev qD := @ne_cons
end
def look : List (Nat × Value) → Nat → Option Value
 | [], _ => none
 | (j, v) :: r, i => bif Nat.beq i j then some v else look r i
inductive Md where
 | plain
 | inn (ro : Option Nat)
structure Sz where
 size : Nat
 ds : List Deferred
 md : Md
def Fr (n : Sz) (L : List (Nat × Value)) (a : Act) : Prop := a.defers = n.ds ∧ a.tmps.size = n.size ∧ ∀ i v, look L i = some v → a.tmps[i]? = some v
def ev (L : List (Nat × Value)) : Operand → Option Value
 | .tmp i => look L i
 | .const v => some v
 | .global g => some (.pointer (some ⟨g, 0, none⟩))
 | .func f => some (.func (.func f) #[] #[])
def evs (L : List (Nat × Value)) : List Operand → Option (List Value)
 | [] => some []
 | x :: r => match ev L x, evs L r with
  | some v, some vs => some (v :: vs)
  | _, _ => none
def put (L : List (Nat × Value)) : Option Tmp → Value → List (Nat × Value)
 | some d, v => (d, v) :: L
 | none, _ => L
def inside (n : Sz) : Option Tmp → Bool
 | some d => Nat.blt d n.size
 | none => true
section
variable {n : Sz} {L L' : List (Nat × Value)} {a : Act}
theorem Fr.eval (h : Fr n L a) {x : Operand} {v : Value} (hx : ev L x = some v) : a.eval x = v := by
 cases x with
 | tmp i =>
  have := h.2.2 i v hx
  simp [Act.eval, Array.getD_eq_getD_getElem?, this]
 | const c => simpa [ev, Act.eval] using hx
 | global g => simpa [ev, Act.eval] using hx
 | func f => simpa [ev, Act.eval] using hx
theorem Fr.evals (h : Fr n L a) : ∀ {xs : List Operand} {vs : List Value}, evs L xs = some vs → xs.map a.eval = vs
 | [], _, hx => by simp [evs] at hx; simp [hx]
 | x :: r, vs, hx => by
  unfold evs at hx
  split at hx
  ·rename_i v us hv hus
   cases hx
   simp [h.eval hv, h.evals hus]
  ·cases hx
theorem Fr.put (h : Fr n L a) (d : Option Tmp) (v : Value) (hd : inside n d = true) : Fr n (put L d v) (a.put d v) := by
 cases d with
 | none => exact h
 | some d =>
  have hlt : d < a.tmps.size := by
   rw [h.2.1]; simpa [inside, Nat.blt_eq] using hd
  refine ⟨h.1, by simp [Act.put, h.2.1], fun i u hi => ?_⟩
  unfold Proofs.YtegddcklbmonfaaGreatDoor.put look at hi
  simp only [Act.put]
  cases hb : Nat.beq i d with
  | true =>
   rw [hb] at hi
   have := Nat.eq_of_beq_eq_true hb
   subst this
   simp at hi
   simp [hlt, hi]
  | false =>
   rw [hb] at hi
   have hne : d ≠ i := fun e => by subst e; simp at hb
   rw [Array.getElem?_setIfInBounds_ne hne]
   exact h.2.2 i u hi
def Sub (L' L : List (Nat × Value)) : Prop := ∀ i v, look L' i = some v → look L i = some v
theorem Sub.nil : Sub [] L := fun i v h => by simp [look] at h
abbrev qK := @Sub.nil
theorem Sub.cons {i : Nat} {v : Value} (h : look L i = some v) (hs : Sub L' L) : Sub ((i, v) :: L') L := fun j u hj => by
 unfold look at hj
 cases hb : Nat.beq j i with
 | true => rw [hb] at hj; have := Nat.eq_of_beq_eq_true hb; subst this; simp at hj; subst hj; exact h
 | false => rw [hb] at hj; exact hs j u hj
abbrev qH := @Sub.cons
theorem Fr.sub (h : Fr n L a) (hs : Sub L' L) : Fr n L' a := ⟨h.1, h.2.1, fun i v hi => h.2.2 i v (hs i v hi)⟩
end
section
variable {P : Program} {ops : Array Oper} {Q : Exit → Act → World → Prop} {a : Act} {w : World} {rest : List Oper} {o : Oper} {md : Md}
def wideAt (ro : Option Nat) : Fence := { Fence.wide with round := ro }
def isDefer : Op → Bool
 | .defer _ => true
 | _ => false
def nd : Md → Oper → Bool
 | .plain, _ => true
 | .inn none, _ => true
 | .inn (some _), o => !isDefer o.op
def wpn (md : Md) (P : Program) (c : Code) (Q : Exit → Act → World → Prop) (a : Act) (w : World) : Prop :=
 match md with
 | .plain => c.wp P Q a w
 | .inn ro => c.wpIn (wideAt ro) 2 P Q a w
def wpL (md : Md) (P : Program) (ops : Array Oper) (Q : Exit → Act → World → Prop) (rest : List Oper) (a : Act) (w : World) : Prop :=
 match md with
 | .plain => wpList P ops Q rest a w
 | .inn ro => wpListIn (wideAt ro) 2 P ops Q rest a w
theorem callsIn_at {ro : Option Nat} {k : Nat} {f : FuncId} {args : Array Value} {R : Ending → World → Prop} (h : Calls P f args w R) : CallsIn (wideAt ro) k P f args w R := by
 have := (callsIn_wide (n := k)).2 h
 exact ⟨trivial, this.2⟩
theorem rowsIn_at {ro : Option Nat} {k : Nat} {row : String} {args : Array Value} {R : Value → World → Prop} (h : Rows P row args w R) : RowsIn (wideAt ro) k P row args w R := fun c cs _ => by
 obtain ⟨v, w', r, s⟩ := h c cs
 exact ⟨v, w', r, stepsIn_wide.2 s⟩
theorem opIn_of_wp {ro : Option Nat} {K : Act → World → Prop} (hn : nd (.inn ro) o = true) (h : o.wp P a w K Q) : o.wpIn (wideAt ro) 2 P a w K Q := by
 refine ⟨fun _ _ => trivial, ?_⟩
 have hs : o.semAt (wideAt ro).round a.eval = execOp a.eval o := by
  cases ro with
  | none => rfl
  | some l => exact Oper.semAt_eq _ _ _ (fun c hc => by simp [nd, isDefer, hc] at hn)
 rw [hs]
 unfold Oper.wp at h
 generalize (execOp a.eval o).run P w = r at h ⊢
 cases r with
 | ok x w' =>
  cases x with
  | value v => exact h
  | skip => exact h
  | defer d => exact h
  | enter f args =>
   refine ⟨fun hd => by simp [wideAt, Fence.wide] at hd, callsIn_at (h.mono ?_)⟩
   intro e w'' he
   cases e <;> exact he
  | row row args => exact ⟨fun hd => by simp [wideAt, Fence.wide] at hd, rowsIn_at h⟩
  | _ => exact h.elim
 | halt e w' =>
  cases e with
  | panic v => exact h
  | _ => exact h.elim
theorem wpL_step (hn : nd md o = true)
  (h : ∀ K : Act → World → Prop, (∀ a w, wpL md P ops Q rest a w → K a w) → if Region.wanted o (yielded ops a.tmps) = true then o.wp P a w K Q else K (a.put o.dst undef) w) : wpL md P ops Q (o :: rest) a w := by
 cases md with
 | plain => exact wpList_step h
 | inn ro =>
  refine wpListIn_step fun K hK => ?_
  have h1 := h K hK
  split
  ·rename_i hw
   rw [if_pos hw] at h1
   exact opIn_of_wp hn h1
  ·rename_i hw
   rw [if_neg hw] at h1
   exact ⟨fun _ _ => trivial, h1⟩
theorem wpL_wants (hn : nd md o = true) (hw : Region.wanted o (yielded ops a.tmps) = true) (h : ∀ K : Act → World → Prop, (∀ a w, wpL md P ops Q rest a w → K a w) → o.wp P a w K Q) : wpL md P ops Q (o :: rest) a w :=
 wpL_step hn fun K hK => by rw [if_pos hw]; exact h K hK
theorem wpL_pass (hw : Region.wanted o (yielded ops a.tmps) = false) (h : wpL md P ops Q rest (a.put o.dst undef) w) : wpL md P ops Q (o :: rest) a w := by
 cases md with
 | plain => exact wpList_step fun K hK => by rw [if_neg (by simp [hw])]; exact hK _ _ h
 | inn ro => exact wpListIn_step fun K hK => by rw [if_neg (by simp [hw])]; exact ⟨fun _ _ => trivial, hK _ _ h⟩
theorem wpL_nil (h : Q .normal a w) : wpL md P ops Q [] a w := by
 cases md with
 | plain => exact h
 | inn ro => exact h
theorem wpn_region_lit {id : Nat} {l : List Oper} (h : wpL md P l.toArray Q l a w) : wpn md P (.region id l.toArray false) Q a w := by
 cases md with
 | plain => exact wp_region_lit h
 | inn ro => exact wpIn_region_lit h
theorem wpn_mono {c : Code} {Q' : Exit → Act → World → Prop} (h : wpn md P c Q a w) (hq : ∀ e a w, Q e a w → Q' e a w) : wpn md P c Q' a w := by
 cases md with
 | plain => exact wp_mono h hq
 | inn ro => exact wpIn_mono h hq
theorem wpn_skip (h : Q .normal a w) : wpn md P .skip Q a w := by
 cases md with
 | plain => exact wp_skip h
 | inn ro => exact wpIn_skip h
theorem wpn_exit {id : Nat} (h : Q (.exit id) a w) : wpn md P (.exit id) Q a w := by
 cases md with
 | plain => exact wp_exit h
 | inn ro => exact wpIn_exit h
theorem wpn_ret (h : Q .ret a w) : wpn md P .ret Q a w := by
 cases md with
 | plain => exact wp_ret h
 | inn ro => exact wpIn_ret h
theorem wpn_seq {x y : Code} (h : wpn md P x (Exit.then (wpn md P y Q) Q) a w) : wpn md P (.seq x y) Q a w := by
 cases md with
 | plain => exact wp_seq h
 | inn ro => exact wpIn_seq h
theorem wpn_block {id : Nat} {x : Code} (h : wpn md P x (Exit.inBlock id Q) a w) : wpn md P (.block id x) Q a w := by
 cases md with
 | plain => exact wp_block h
 | inn ro => exact wpIn_block h
theorem wpn_yes {c : Operand} {x y : Code} (hc : a.eval c = .bool true) (h : wpn md P x Q a w) : wpn md P (.cond c x y) Q a w := by
 cases md with
 | plain => exact wp_cond_true hc h
 | inn ro => exact wpIn_cond_true hc h
theorem wpn_no {c : Operand} {x y : Code} (hc : a.eval c = .bool false) (h : wpn md P y Q a w) : wpn md P (.cond c x y) Q a w := by
 cases md with
 | plain => exact wp_cond_false hc h
 | inn ro => exact wpIn_cond_false hc h
theorem wpn_loop {c : Code} (I : Act → World → Prop) (μ : Act → World → Nat) (h₀ : I a w)
  (round : ∀ a w, I a w → wpn md P c (Exit.then (fun a' w' => I a' w' ∧ μ a' w' < μ a w) Q) a w) : wpn md P (.loop c) Q a w := by
 cases md with
 | plain => exact wp_loop I μ h₀ round
 | inn ro => exact wpIn_loop I μ h₀ round
def OkR (md : Md) (ops : Array Oper) (Q : Exit → Act → World → Prop) : Prop :=
 match md with
 | .plain => True
 | .inn ro => ¬ LetsOut Q ∧ ops.all (nd (.inn ro)) = true
theorem opsIn_of {ro : Option Nat} (hQ : ¬ LetsOut Q) (hnd : ops.all (nd (.inn ro)) = true) : ∀ (l : List Nat) (a : Act) (w : World), wpOps P ops Q l a w → wpOpsIn (wideAt ro) 2 P ops Q l a w
 | [], _, _, h => h
 | i :: l, a, w, h => by
  simp only [wpOps] at h
  simp only [wpOpsIn]
  cases ho : ops[i]? with
  | none => rw [ho] at h; exact opsIn_of hQ hnd l a w h
  | some o =>
   rw [ho] at h
   dsimp only at h ⊢
   split
   ·rename_i hw
    rw [if_pos hw] at h
    have h1 := h.resolve_right fun h => hQ h.2
    have hno : nd (.inn ro) o = true := by
     have := (Array.all_eq_true.1 hnd) i (Array.getElem?_eq_some_iff.1 ho).1
     rw [(Array.getElem?_eq_some_iff.1 ho).2] at this
     exact this
    refine opIn_of_wp hno ?_
    have hm : ∀ (K K' : Act → World → Prop), (∀ a w, K a w → K' a w) → o.wp P a w K Q → o.wp P a w K' Q := fun K K' hK h => by
     unfold Oper.wp at h ⊢
     generalize (execOp a.eval o).run P w = r at h ⊢
     cases r with
     | ok x w' =>
      cases x with
      | value v => exact hK _ _ h
      | skip => exact hK _ _ h
      | defer d => exact hK _ _ h
      | enter f args =>
       refine h.mono ?_
       intro e w'' he
       cases e with
       | returned v => exact hK _ _ he
       | _ => exact he
      | row row args => exact h.mono fun v w'' he => hK _ _ he
      | _ => exact h.elim
     | halt e w' =>
      cases e with
      | panic v => exact h
      | _ => exact h.elim
    exact hm _ _ (fun a w h => opsIn_of hQ hnd l a w h) h1
   ·rename_i hw
    rw [if_neg hw] at h
    exact ⟨fun _ _ => trivial, opsIn_of hQ hnd l _ w h⟩
theorem wpnFrom_start {id : Nat} (hok : OkR md ops Q) (hmix : P.follows .mixedOrders = true) (h : wpFrom P .any ops Q 0 a w.drew) : wpn md P (.region id ops true) Q a w := by
 cases md with
 | plain => exact wpFrom_start hmix h
 | inn ro =>
  refine wpIn_region_draw fun t => opsIn_of hok.1 hok.2 _ _ _ ?_
  have := h (Array.replicate ops.size false) ⟨by simp, fun k hk => by simp [hk], fun k o _ hk => by
   by_cases hks : k < ops.size
   ·simp [hks] at hk
   ·simp [hks] at hk⟩
  rw [Nat.sub_zero] at this
  simp only [Region.schedule, hmix, Bool.true_or, if_true]
  exact wpAny_sound ops.size t _ a _ this
end
section
variable {P : Program} {ops : Array Oper} {Q : Exit → Act → World → Prop} {n : Sz} {w0 : World} {L L' : List (Nat × Value)} {H : List Ent}
def TL (P : Program) (ops : Array Oper) (Q : Exit → Act → World → Prop) (n : Sz) (w0 : World) (rest : List Oper) (L : List (Nat × Value)) (H : List Ent) : Prop :=
 ∀ a w, Fr n L a → St w0 H w → wpL n.md P ops Q rest a w
def TC (P : Program) (Q : Exit → Act → World → Prop) (n : Sz) (w0 : World) (c : Code) (L : List (Nat × Value)) (H : List Ent) : Prop :=
 ∀ a w, Fr n L a → St w0 H w → wpn n.md P c Q a w
def TE (Q : Exit → Act → World → Prop) (e : Exit) (n : Sz) (w0 : World) (L : List (Nat × Value)) (H : List Ent) : Prop :=
 ∀ a w, Fr n L a → St w0 H w → Q e a w
def TF (P : Program) (ops : Array Oper) (Q : Exit → Act → World → Prop) (n : Sz) (w0 : World) (k : Nat) (L : List (Nat × Value)) (H : List Ent) : Prop :=
 ∀ a w, Fr n L a → St w0 H w → wpFrom P .any ops Q k a w
def TS (P : Program) (ops : Array Oper) (Q : Exit → Act → World → Prop) (n : Sz) (w0 : World) (k m : Nat) (rest : List Oper) (L : List (Nat × Value)) (H : List Ent) : Prop :=
 ∀ a, Fr n L a → SeqM P ops (St w0 H) (wpFrom P .any ops Q k) m rest a
def Gets (P : Program) (n : Sz) (w0 : World) (o : Oper) (L : List (Nat × Value)) (H : List Ent) (v : Value) : Prop :=
 ∀ a w, Fr n L a → St w0 H w → (execOp a.eval o).run P w = .ok (.value v) w
variable {o : Oper} {rest : List Oper} {v : Value} {k m : Nat}
structure Wants (n : Sz) (ops : Array Oper) (L : List (Nat × Value)) (o : Oper) : Prop where
 nd : nd n.md o = true
 go : ∀ a, Fr n L a → Region.wanted o (yielded ops a.tmps) = true
instance : CoeFun (Wants n ops L o) (fun _ => ∀ a, Fr n L a → Region.wanted o (yielded ops a.tmps) = true) := ⟨fun h => h.go⟩
theorem Wants.none (h : o.guard = none) (hn : Proofs.YtegddcklbmonfaaGreatDoor.nd n.md o = true := by rfl) : Wants n ops L o := ⟨hn, fun a _ => by simp [Region.wanted, h]⟩
abbrev qA := @Wants.none
theorem guard_val {a : Act} {j d : Nat} {b : Bool} (hf : Fr n L a) (hj : (ops[j]?).bind (·.dst) = some d) (hd : look L d = some (.bool b)) : yielded ops a.tmps j = some b := by
 unfold yielded
 rw [hj]
 simp [hf.2.2 d _ hd]
theorem Wants.yes {j d : Nat} {b : Bool} (h : o.guard = some (j, b)) (hj : (ops[j]?).bind (·.dst) = some d) (hd : look L d = some (.bool b)) (hn : Proofs.YtegddcklbmonfaaGreatDoor.nd n.md o = true := by rfl) : Wants n ops L o := ⟨hn, fun a hf => by
 simp [Region.wanted, h, guard_val hf hj hd]⟩
abbrev qM := @Wants.yes
theorem TL.gets (hg : Wants n ops L o) (hi : inside n o.dst = true) (h : Gets P n w0 o L H v) (hr : TL P ops Q n w0 rest (put L o.dst v) H) : TL P ops Q n w0 (o :: rest) L H :=
 fun a w hf hs => wpL_wants hg.nd (hg a hf) fun K hK => by
  unfold Oper.wp; rw [h a w hf hs]
  exact hK _ _ (hr _ _ (hf.put o.dst v hi) hs)
abbrev qB := @TL.gets
theorem TS.gets (hg : Wants n ops L o) (hi : inside n o.dst = true) (h : Gets P n w0 o L H v) (hr : TS P ops Q n w0 k m rest (put L o.dst v) H) : TS P ops Q n w0 k (m + 1) (o :: rest) L H :=
 fun a hf => SeqM.take (hg a hf) (fun w hs => h a w hf hs) (hr _ (hf.put o.dst v hi))
theorem TL.nil (h : TE Q .normal n w0 L H) : TL P ops Q n w0 [] L H := fun a w hf hs => wpL_nil (h a w hf hs)
theorem TS.done (h : TF P ops Q n w0 k L H) : TS P ops Q n w0 k 0 rest L H := fun a hf => SeqM.done fun w hs => h a w hf hs
theorem TC.regionL {id : Nat} {l : List Oper} (h : TL P l.toArray Q n w0 l L H) : TC P Q n w0 (.region id l.toArray false) L H := fun a w hf hs => wpn_region_lit (h a w hf hs)
theorem TF.seqL {l : List Oper} (m : Nat) (hc : stretch .any l.toArray k (k + m) = true) (h : TS P l.toArray Q n w0 (k + m) m (l.drop k) L H) : TF P l.toArray Q n w0 k L H :=
 fun a w hf hs => wpFrom_seq m (St w0 H) hc hs (h a hf)
theorem TF.tailL {l : List Oper} (hc : chained .any l.toArray k = true) (h : TL P l.toArray Q n w0 (l.drop k) L H) (hmd : n.md = .plain := by rfl) : TF P l.toArray Q n w0 k L H := fun a w hf hs => wpFrom_tail hc (by have := h a w hf hs; rw [hmd] at this; exact this)
theorem TC.draw {id : Nat} (hmix : P.follows .mixedOrders = true) (h : TF P ops Q n w0 0 L H) (hok : OkR n.md ops Q := by exact trivial) : TC P Q n w0 (.region id ops true) L H :=
 fun a w hf hs => wpnFrom_start hok hmix (h a _ hf hs.drew)
theorem TC.seq {x y : Code} (h : TC P (Exit.then (wpn n.md P y Q) Q) n w0 x L H) : TC P Q n w0 (.seq x y) L H := fun a w hf hs => wpn_seq (h a w hf hs)
theorem TE.then {y : Code} {Q' : Exit → Act → World → Prop} (h : TC P Q n w0 y L H) : TE (Exit.then (wpn n.md P y Q) Q') .normal n w0 L H := h
theorem TC.block {id : Nat} {x : Code} (h : TC P (Exit.inBlock id Q) n w0 x L H) : TC P Q n w0 (.block id x) L H := fun a w hf hs => wpn_block (h a w hf hs)
theorem TE.blockN {id : Nat} (h : TE Q .normal n w0 L H) : TE (Exit.inBlock id Q) .normal n w0 L H := h
theorem TE.blockX {id : Nat} (h : TE Q .normal n w0 L H) : TE (Exit.inBlock id Q) (.exit id) n w0 L H := fun a w hf hs => by
 simp only [Exit.inBlock, if_true]; exact h a w hf hs
theorem TE.blockY {id j : Nat} (hij : Nat.beq j id = false) (h : TE Q (.exit j) n w0 L H) : TE (Exit.inBlock id Q) (.exit j) n w0 L H := fun a w hf hs => by
 simp only [Exit.inBlock]; rw [if_neg (fun e => by subst e; simp at hij)]; exact h a w hf hs
theorem TE.thenX {K : Act → World → Prop} {j : Nat} (h : TE Q (.exit j) n w0 L H) : TE (Exit.then K Q) (.exit j) n w0 L H := h
theorem TE.thenR {K : Act → World → Prop} (h : TE Q .ret n w0 L H) : TE (Exit.then K Q) .ret n w0 L H := h
theorem TE.blockR {id : Nat} (h : TE Q .ret n w0 L H) : TE (Exit.inBlock id Q) .ret n w0 L H := h
theorem TC.skip (h : TE Q .normal n w0 L H) : TC P Q n w0 .skip L H := fun a w hf hs => wpn_skip (h a w hf hs)
theorem TC.exit {id : Nat} (h : TE Q (.exit id) n w0 L H) : TC P Q n w0 (.exit id) L H := fun a w hf hs => wpn_exit (h a w hf hs)
theorem TC.ret (h : TE Q .ret n w0 L H) : TC P Q n w0 .ret L H := fun a w hf hs => wpn_ret (h a w hf hs)
theorem TC.yes {c : Operand} {x y : Code} (hc : ev L c = some (.bool true)) (h : TC P Q n w0 x L H) : TC P Q n w0 (.cond c x y) L H := fun a w hf hs => wpn_yes (hf.eval hc) (h a w hf hs)
abbrev qq := @TC.yes
theorem TC.no {c : Operand} {x y : Code} (hc : ev L c = some (.bool false)) (h : TC P Q n w0 y L H) : TC P Q n w0 (.cond c x y) L H := fun a w hf hs => wpn_no (hf.eval hc) (h a w hf hs)
abbrev ql := @TC.no
theorem TC.split {c : Operand} {x y : Code} {p : Prop} [Decidable p] (hc : ev L c = some (.bool (decide p))) (h1 : p → TC P Q n w0 x L H) (h2 : ¬ p → TC P Q n w0 y L H) : TC P Q n w0 (.cond c x y) L H := by
 by_cases hp : p
 ·exact qq (by rw [hc]; simp [hp]) (h1 hp)
 ·exact ql (by rw [hc]; simp [hp]) (h2 hp)
abbrev qQ := @TC.split
theorem TC.splitB {c : Operand} {x y : Code} {b : Bool} (hc : ev L c = some (.bool b)) (h1 : b = true → TC P Q n w0 x L H) (h2 : b = false → TC P Q n w0 y L H) : TC P Q n w0 (.cond c x y) L H := by
 cases b
 ·exact ql hc (h2 rfl)
 ·exact qq hc (h1 rfl)
theorem TC.sub {c : Code} (hs : Sub L' L) (h : TC P Q n w0 c L' H) : TC P Q n w0 c L H := fun a w hf hs' => h a w (hf.sub hs) hs'
theorem TE.heap {e : Exit} {H' : List Ent} (hh : ∀ w, St w0 H w → St w0 H' w) (h : TE Q e n w0 L H') : TE Q e n w0 L H := fun a w hf hs => h a w hf (hh w hs)
theorem TL.heap {H' : List Ent} (hh : ∀ w, St w0 H w → St w0 H' w) (h : TL P ops Q n w0 rest L H') : TL P ops Q n w0 rest L H := fun a w hf hs => h a w hf (hh w hs)
theorem TC.heap {c : Code} {H' : List Ent} (hh : ∀ w, St w0 H w → St w0 H' w) (h : TC P Q n w0 c L H') : TC P Q n w0 c L H := fun a w hf hs => h a w hf (hh w hs)
theorem least_of {p : Nat → Prop} : ∀ m, p m → ∃ k, p k ∧ ∀ j, p j → k ≤ j := by
 intro m
 induction m using Nat.strongRecOn with
 | _ m ih =>
  intro hm
  by_cases h : ∃ j, j < m ∧ p j
  ·obtain ⟨j, hj, hp⟩ := h; exact ih j hj hp
  ·exact ⟨m, hm, fun j hp => Nat.le_of_not_lt fun hlt => h ⟨j, hlt, hp⟩⟩
open Classical in
noncomputable def leastOf (p : Nat → Prop) : Nat := if h : ∃ k, p k ∧ ∀ j, p j → k ≤ j then Classical.choose h else 0
theorem leastOf_spec {p : Nat → Prop} {m : Nat} (hm : p m) : p (leastOf p) ∧ ∀ j, p j → leastOf p ≤ j := by
 have h := least_of m hm
 unfold leastOf; rw [dif_pos h]
 exact Classical.choose_spec h
def Back {ι : Type} (n : Sz) (w0 : World) (Li : ι → List (Nat × Value)) (Hi : ι → List Ent) (μ : ι → Nat) (C : ι → Prop) (m : Nat) (a : Act) (w : World) : Prop :=
 ∃ i, μ i < m ∧ C i ∧ Fr n (Li i) a ∧ St w0 (Hi i) w
theorem TE.back {ι : Type} {Li : ι → List (Nat × Value)} {Hi : ι → List Ent} {μ : ι → Nat} {C : ι → Prop} {m : Nat} (i : ι) (hμ : μ i < m) (hC : C i) (hs : Sub (Li i) L) (hH : ∀ w, St w0 H w → St w0 (Hi i) w) :
  TE (Exit.then (Back n w0 Li Hi μ C m) Q) .normal n w0 L H := fun a w hf hst => ⟨i, hμ, hC, hf.sub hs, hH w hst⟩
abbrev qc := @TE.back
theorem TC.loop {ι : Type} (Li : ι → List (Nat × Value)) (Hi : ι → List Ent) (μ : ι → Nat) (C : ι → Prop) (i0 : ι) {c : Code} (hC : C i0) (hs : Sub (Li i0) L) (hH : ∀ w, St w0 H w → St w0 (Hi i0) w)
  (round : ∀ i, C i → TC P (Exit.then (Back n w0 Li Hi μ C (μ i)) Q) n w0 c (Li i) (Hi i)) : TC P Q n w0 (.loop c) L H := by
 intro a w hf hst
 let I : Act → World → Prop := fun a w => ∃ i, C i ∧ Fr n (Li i) a ∧ St w0 (Hi i) w
 let p : Act → World → Nat → Prop := fun a w m => ∃ i, μ i = m ∧ C i ∧ Fr n (Li i) a ∧ St w0 (Hi i) w
 let M : Act → World → Nat := fun a w => leastOf (p a w)
 have hM : ∀ a w i, C i → Fr n (Li i) a → St w0 (Hi i) w → M a w ≤ μ i := fun a w i h1 h2 h3 => (leastOf_spec (p := p a w) ⟨i, rfl, h1, h2, h3⟩).2 _ ⟨i, rfl, h1, h2, h3⟩
 refine wpn_loop I M ⟨i0, hC, hf.sub hs, hH w hst⟩ ?_
 rintro a w ⟨i, h1, h2, h3⟩
 obtain ⟨i', e', c', f', s'⟩ := (leastOf_spec (p := p a w) ⟨i, rfl, h1, h2, h3⟩).1
 have hMe : M a w = μ i' := e'.symm
 refine wpn_mono (round i' c' a w f' s') ?_
 intro e a2 w2 hq
 cases e with
 | normal =>
  obtain ⟨j, hj, hCj, hfj, hsj⟩ := hq
  refine ⟨⟨j, hCj, hfj, hsj⟩, ?_⟩
  have := hM a2 w2 j hCj hfj hsj
  omega
 | _ => exact hq
abbrev qe := @TC.loop
end
/-
 The rules of the small logic, one for each kind of operation.
-/
section
variable {P : Program} {ops : Array Oper} {Q : Exit → Act → World → Prop} {n : Sz} {w0 : World} {L L' : List (Nat × Value)} {H : List Ent}
variable {o : Oper} {rest : List Oper} {v u : Value} {x y z : Operand} {k m j : Nat} {t t' e : TypeId} {kd kd' : IntKind} {p q r : Int}
theorem addr_add (b o i : Nat) : (⟨b, o, none⟩ : Addr).add i = ⟨b, o + i, none⟩ := by
 unfold Addr.add
 split
 ·rename_i h; subst h; rfl
 ·rfl
theorem Gets.move (ho : o.op = .move x) (hx : ev L x = some v) : Gets P n w0 o L H v := fun a w hf hs => by
 simp only [execOp, ho, hf.eval hx]; rfl
abbrev qV := @Gets.move
theorem Gets.assign (ho : o.op = .assign x) (hx : ev L x = some v) : Gets P n w0 o L H v := fun a w hf hs => by
 simp only [execOp, ho, hf.eval hx]; rfl
theorem run_value {s : Sem Value} {w w' : World} {v : Value} (h : s.run P w = .ok v w') : (do pure (Next.value (← s)) : Sem Next).run P w = .ok (.value v) w' := by
 simp [Sem.run_bind, h]
theorem run_unit {s : Sem Unit} {w w' : World} (h : s.run P w = .ok () w') : (do s; pure Next.skip : Sem Next).run P w = .ok .skip w' := by
 simp [Sem.run_bind, h]
theorem Gets.bin {op : BinOp} (ho : o.op = .binOp op t x y t') (hx : ev L x = some (.int kd p)) (hy : ev L y = some (.int kd' q)) (hr : ∀ w, (binOp op t (.int kd p) (.int kd' q)).run P w = .ok v w) : Gets P n w0 o L H v := fun a w hf hs => by
 simp only [execOp, ho, hf.eval hx, hf.eval hy]
 refine run_value ?_
 have he : eqGuard op t x y (.int kd p) (.int kd' q) = pure () := by unfold eqGuard; split <;> rfl
 rw [he]
 exact hr w
theorem Gets.add (ho : o.op = .binOp .add t x y t') (hx : ev L x = some (.int kd p)) (hy : ev L y = some (.int kd q)) (hr : kd.wrap (p + q) = r) : Gets P n w0 o L H (.int kd r) :=
 Gets.bin ho hx hy fun w => by simp only [binOp]; rw [if_neg (by simp)]; simp only [Op.intArith]; rw [hr]; rfl
abbrev qU := @Gets.add
theorem Gets.sub (ho : o.op = .binOp .sub t x y t') (hx : ev L x = some (.int kd p)) (hy : ev L y = some (.int kd q)) (hr : kd.wrap (p - q) = r) : Gets P n w0 o L H (.int kd r) :=
 Gets.bin ho hx hy fun w => by simp only [binOp]; rw [if_neg (by simp)]; simp only [Op.intArith]; rw [hr]; rfl
abbrev qu := @Gets.sub
theorem Gets.mul (ho : o.op = .binOp .mul t x y t') (hx : ev L x = some (.int kd p)) (hy : ev L y = some (.int kd q)) (hr : kd.wrap (p * q) = r) : Gets P n w0 o L H (.int kd r) :=
 Gets.bin ho hx hy fun w => by simp only [binOp]; rw [if_neg (by simp)]; simp only [Op.intArith]; rw [hr]; rfl
theorem Gets.quo (ho : o.op = .binOp .quo t x y t') (hx : ev L x = some (.int kd p)) (hy : ev L y = some (.int kd q)) (hq : q ≠ 0) (hr : kd.wrap (p.tdiv q) = r) : Gets P n w0 o L H (.int kd r) :=
 Gets.bin ho hx hy fun w => by simp only [binOp]; rw [if_neg (by simp)]; simp only [Op.intDiv]; rw [if_neg hq, hr]; rfl
theorem Gets.rem (ho : o.op = .binOp .rem t x y t') (hx : ev L x = some (.int kd p)) (hy : ev L y = some (.int kd q)) (hq : q ≠ 0) (hr : p.tmod q = r) : Gets P n w0 o L H (.int kd r) :=
 Gets.bin ho hx hy fun w => by simp only [binOp]; rw [if_neg (by simp)]; simp only [Op.intDiv]; rw [if_neg hq, hr]; rfl
def andI (kd : IntKind) (p q : Int) : Int := kd.wrap (BitVec.ofInt kd.bits p &&& BitVec.ofInt kd.bits q).toNat
def orI (kd : IntKind) (p q : Int) : Int := kd.wrap (BitVec.ofInt kd.bits p ||| BitVec.ofInt kd.bits q).toNat
def xorI (kd : IntKind) (p q : Int) : Int := kd.wrap (BitVec.ofInt kd.bits p ^^^ BitVec.ofInt kd.bits q).toNat
def clrI (kd : IntKind) (p q : Int) : Int := kd.wrap (BitVec.ofInt kd.bits p &&& ~~~ BitVec.ofInt kd.bits q).toNat
theorem Gets.and (ho : o.op = .binOp .and t x y t') (hx : ev L x = some (.int kd p)) (hy : ev L y = some (.int kd q)) (hr : andI kd p q = r) : Gets P n w0 o L H (.int kd r) :=
 Gets.bin ho hx hy fun w => by simp only [binOp]; rw [if_neg (by simp)]; subst hr; rfl
abbrev zJ := @Gets.and
theorem Gets.or (ho : o.op = .binOp .or t x y t') (hx : ev L x = some (.int kd p)) (hy : ev L y = some (.int kd q)) (hr : orI kd p q = r) : Gets P n w0 o L H (.int kd r) :=
 Gets.bin ho hx hy fun w => by simp only [binOp]; rw [if_neg (by simp)]; subst hr; rfl
theorem Gets.xor (ho : o.op = .binOp .xor t x y t') (hx : ev L x = some (.int kd p)) (hy : ev L y = some (.int kd q)) (hr : xorI kd p q = r) : Gets P n w0 o L H (.int kd r) :=
 Gets.bin ho hx hy fun w => by simp only [binOp]; rw [if_neg (by simp)]; subst hr; rfl
abbrev zB := @Gets.xor
def shlI (kd : IntKind) (p q : Int) : Int := kd.wrap (p * 2 ^ (min q.toNat kd.bits))
def shrI (kd : IntKind) (p q : Int) : Int := p.fdiv (2 ^ (min q.toNat kd.bits))
theorem Gets.shl (ho : o.op = .binOp .shl t x y t') (hx : ev L x = some (.int kd p)) (hy : ev L y = some (.int kd' q)) (hq : 0 ≤ q) (hr : shlI kd p q = r) : Gets P n w0 o L H (.int kd r) :=
 Gets.bin ho hx hy fun w => by simp only [binOp, Op.shift]; rw [if_neg (by omega)]; subst hr; rfl
theorem Gets.shr (ho : o.op = .binOp .shr t x y t') (hx : ev L x = some (.int kd p)) (hy : ev L y = some (.int kd' q)) (hq : 0 ≤ q) (hr : shrI kd p q = r) : Gets P n w0 o L H (.int kd r) :=
 Gets.bin ho hx hy fun w => by simp only [binOp, Op.shift]; rw [if_neg (by omega)]; subst hr; rfl
abbrev zI := @Gets.shr
theorem Gets.lss (ho : o.op = .binOp .lss t x y t') (hx : ev L x = some (.int kd p)) (hy : ev L y = some (.int kd q)) : Gets P n w0 o L H (.bool (decide (p < q))) :=
 Gets.bin ho hx hy fun w => by simp only [binOp]; rw [if_neg (by simp)]; rfl
theorem Gets.leq (ho : o.op = .binOp .leq t x y t') (hx : ev L x = some (.int kd p)) (hy : ev L y = some (.int kd q)) : Gets P n w0 o L H (.bool (decide (p ≤ q))) :=
 Gets.bin ho hx hy fun w => by simp only [binOp]; rw [if_neg (by simp)]; rfl
theorem Gets.gtr (ho : o.op = .binOp .gtr t x y t') (hx : ev L x = some (.int kd p)) (hy : ev L y = some (.int kd q)) : Gets P n w0 o L H (.bool (decide (q < p))) :=
 Gets.bin ho hx hy fun w => by simp only [binOp]; rw [if_neg (by simp)]; rfl
theorem Gets.geq (ho : o.op = .binOp .geq t x y t') (hx : ev L x = some (.int kd p)) (hy : ev L y = some (.int kd q)) : Gets P n w0 o L H (.bool (decide (q ≤ p))) :=
 Gets.bin ho hx hy fun w => by simp only [binOp]; rw [if_neg (by simp)]; rfl
theorem Gets.eql (ho : o.op = .binOp .eql t x y t') (hx : ev L x = some (.int kd p)) (hy : ev L y = some (.int kd q)) : Gets P n w0 o L H (.bool (decide (p = q))) :=
 Gets.bin ho hx hy fun w => by simp only [binOp]; rw [if_neg (by simp)]; rfl
abbrev qo := @Gets.eql
theorem Gets.neq (ho : o.op = .binOp .neq t x y t') (hx : ev L x = some (.int kd p)) (hy : ev L y = some (.int kd q)) : Gets P n w0 o L H (.bool (decide (p ≠ q))) :=
 Gets.bin ho hx hy fun w => by
  simp only [binOp]; rw [if_neg (by simp)]
  have : (p != q) = decide (p ≠ q) := by by_cases h : p = q <;> simp [h]
  rw [← this]; rfl
theorem Gets.un {op : UnOp} (ho : o.op = .unOp op t x) (hx : ev L x = some u) (hr : ∀ w, (Op.unary op u).run P w = .ok v w) : Gets P n w0 o L H v := fun a w hf hs => by
 simp only [execOp, ho, hf.eval hx]
 exact run_value (hr w)
theorem Gets.neg (ho : o.op = .unOp .neg t x) (hx : ev L x = some (.int kd p)) (hr : kd.wrap (0 - p) = r) : Gets P n w0 o L H (.int kd r) := Gets.un ho hx fun w => by subst hr; rfl
theorem Gets.cpl (ho : o.op = .unOp .xor t x) (hx : ev L x = some (.int kd p)) (hr : xorI kd (if kd.signed then -1 else kd.max) p = r) : Gets P n w0 o L H (.int kd r) := Gets.un ho hx fun w => by subst hr; rfl
theorem Gets.not {b : Bool} (ho : o.op = .unOp .not t x) (hx : ev L x = some (.bool b)) : Gets P n w0 o L H (.bool !b) := Gets.un ho hx fun w => rfl
theorem run_under {d : TypeDesc} (h : P.underlying t = some d) (w : World) : (underlying t).run P w = .ok d w := by
 simp [underlying, program, Sem.run_bind, Sem.run, h]
theorem run_info {i : TypeInfo} (h : P.info? t = some i) (w : World) : (typeInfo t).run P w = .ok i w := by
 simp [typeInfo, program, Sem.run_bind, Sem.run, h]
theorem run_size {s : Nat} (h : (P.info? t).map (·.size) = some s) (w : World) : (sizeOf t).run P w = .ok s w := by
 obtain ⟨i, hi, hs⟩ := Option.map_eq_some_iff.1 h
 simp only [sizeOf, Sem.run_bind, run_info hi, Result.andThen_ok]
 rw [hs]; rfl
theorem run_zero {z : Value} (h : (P.info? t).bind (·.zero) = some z) (w : World) : (zeroValue t).run P w = .ok z w := by
 obtain ⟨i, hi, hs⟩ := Option.bind_eq_some_iff.1 h
 simp only [zeroValue, Sem.run_bind, run_info hi, Result.andThen_ok, hs]; rfl
theorem Gets.conv (ho : o.op = .convert t t' x) (h1 : P.underlying t = some (.int kd')) (h2 : P.underlying t' = some (.int kd)) (hx : ev L x = some (.int kd' p)) (hr : kd.wrap p = r) : Gets P n w0 o L H (.int kd r) := fun a w hf hs => by
 simp only [execOp, ho, hf.eval hx]
 refine run_value ?_
 simp only [convert, Sem.run_bind, run_under h1, run_under h2, Result.andThen_ok]
 subst hr; rfl
abbrev qv := @Gets.conv
theorem Gets.nilCheck {ad : Addr} (ho : o.op = .nilCheck x) (hx : ev L x = some (.pointer (some ad))) : Gets P n w0 o L H (.pointer (some ad)) := fun a w hf hs => by
 simp only [execOp, ho, hf.eval hx]; rfl
abbrev qf := @Gets.nilCheck
theorem Gets.fieldAddr {f b off : Nat} {fields : Array Field} {fl : Field} {s : Nat} (ho : o.op = .fieldAddr t x f) (h1 : P.underlying t = some (.struct fields)) (hfl : fields[f]? = some fl)
  (hsz : (P.info? fl.type).map (·.size) = some (s + 1)) (hx : ev L x = some (.pointer (some ⟨b, off, none⟩))) {off' : Nat} (hoff : off + fl.offset = off') : Gets P n w0 o L H (.pointer (some ⟨b, off', none⟩)) := fun a w hf hs => by
 subst hoff
 simp only [execOp, ho, hf.eval hx]
 refine run_value ?_
 simp only [Instr.fieldAt, Sem.run_bind, run_under h1, Result.andThen_ok, hfl, Instr.sureAddr, fieldPlace, run_size hsz, Sem.run_pure]
 rw [if_neg (by omega)]
 simp [addr_add, Sem.run_pure]
abbrev zN := @Gets.fieldAddr
theorem Gets.idxSlice {b off len cap i s : Nat} (ho : o.op = .indexAddr t x y) (h1 : P.underlying t = some (.slice e)) (hsz : (P.info? e).map (·.size) = some s)
  (hx : ev L x = some (.slice (some ⟨b, off, none⟩) len cap)) (hy : ev L y = some (.int kd p)) (hp : p = (i : Int)) (hi : i < len) {off' : Nat} (hoff : off + i * s = off') : Gets P n w0 o L H (.pointer (some ⟨b, off', none⟩)) := fun a w hf hs => by
 subst hoff
 subst hp
 simp only [execOp, ho, hf.eval hx, hf.eval hy]
 refine run_value ?_
 simp only [Instr.indexAt, asIntOf, Sem.run_bind, run_under h1, Result.andThen_ok, Sem.run_pure]
 rw [if_pos (by omega)]
 simp [run_size hsz, addr_add, Sem.run_bind]
abbrev qW := @Gets.idxSlice
theorem Gets.idxArray {b off len i s : Nat} (ho : o.op = .indexAddr t x y) (h1 : P.underlying t = some (.array len e)) (hsz : (P.info? e).map (·.size) = some s)
  (hx : ev L x = some (.pointer (some ⟨b, off, none⟩))) (hy : ev L y = some (.int kd p)) (hp : p = (i : Int)) (hi : i < len) {off' : Nat} (hoff : off + i * s = off') : Gets P n w0 o L H (.pointer (some ⟨b, off', none⟩)) := fun a w hf hs => by
 subst hoff
 subst hp
 simp only [execOp, ho, hf.eval hx, hf.eval hy]
 refine run_value ?_
 simp only [Instr.indexAt, asIntOf, Sem.run_bind, run_under h1, Result.andThen_ok, Sem.run_pure, Instr.sureAddr]
 rw [if_pos (by omega)]
 simp [run_size hsz, addr_add, Sem.run_bind]
abbrev qd := @Gets.idxArray
theorem Gets.index1 {len i : Nat} {cs : Array Value} (ho : o.op = .index t x y) (h1 : P.underlying t = some (.array len e)) (hag : (isAgg e).run P = fun w => .ok false w) (hsz : (P.info? e).map (·.size) = some 1)
  (hx : ev L x = some (.agg cs)) (hy : ev L y = some (.int kd p)) (hp : p = (i : Int)) (hi : i < len) (hc : cs[i]? = some v) : Gets P n w0 o L H v := fun a w hf hs => by
 subst hp
 simp only [execOp, ho, hf.eval hx, hf.eval hy]
 refine run_value ?_
 simp only [Instr.index, asIntOf, Sem.run_bind, run_under h1, Result.andThen_ok, Sem.run_pure]
 rw [if_pos (by omega)]
 simp [run_size hsz, part, hag, Sem.run_bind, hc]
theorem isAgg_no {d : TypeDesc} (h : P.underlying t = some d) (hd : (match d with | .struct _ | .array _ _ => true | _ => false) = false) : (isAgg t).run P = fun w => .ok false w := by
 funext w
 simp only [isAgg, Sem.run_bind, run_under h, Result.andThen_ok]
 cases d <;> first | rfl | cases hd
theorem isAgg_yes {d : TypeDesc} (h : P.underlying t = some d) (hd : (match d with | .struct _ | .array _ _ => true | _ => false) = true) : (isAgg t).run P = fun w => .ok true w := by
 funext w
 simp only [isAgg, Sem.run_bind, run_under h, Result.andThen_ok]
 cases d <;> first | rfl | cases hd
def At (w0 : World) (H : List Ent) (ad : Addr) (v : Value) : Prop := ∀ w, St w0 H w → w.cell? ad = some v
theorem At.ent {i g off : Nat} {ent : Ent} (hi : H[i]? = some ent) (hg : ent.g = g) (hc : ent.cs[off]? = some v) : At w0 H ⟨g, off, none⟩ v := fun w hs => by
 subst hg; exact (hs.has _ (List.mem_of_getElem? hi)).cell hc
abbrev qO := @At.ent
theorem At.old {b off : Nat} (hc : w0.cell? ⟨b, off, none⟩ = some v) (hb : b < w0.heap.size) (hne : ∀ e ∈ H, e.g ≠ b) : At w0 H ⟨b, off, none⟩ v := fun w hs => by
 rw [hs.old_cell (ad := ⟨b, off, none⟩) hb hne]; exact hc
abbrev qp := @At.old
def RowI (w : World) (b off n : Nat) (kd : IntKind) (B : List Int) : Prop := ∀ j, j < n → w.cell? ⟨b, off + j, none⟩ = some (.int kd (B.getD j 0))
theorem At.rowI {b off m i o' : Nat} {kd : IntKind} {B : List Int} (h : RowI w0 b off m kd B) (hi : i < m) (ho : off + i = o') (hb : b < w0.heap.size) (hne : ∀ e ∈ H, e.g ≠ b) : At w0 H ⟨b, o', none⟩ (.int kd (B.getD i 0)) := by
 subst ho; exact qp (h i hi) hb hne
abbrev zA := @At.rowI
theorem Gets.load1 {ad : Addr} (ho : o.op = .load t x) (hag : (isAgg t).run P = fun w => .ok false w) (hx : ev L x = some (.pointer (some ad))) (hc : At w0 H ad v) : Gets P n w0 o L H v := fun a w hf hs => by
 simp only [execOp, ho, hf.eval hx]
 refine run_value ?_
 simp only [Instr.loadAt, Instr.sureAddr, loadVar, Sem.run_bind, Sem.run_pure, Result.andThen_ok, hag]
 simp [load, Sem.run, hc w hs]
abbrev qJ := @Gets.load1
theorem run_loadCells {w : World} {b off : Nat} : ∀ (s i : Nat) (acc : Array Value) (vs : List Value), vs.length = s → (∀ j u, vs[j]? = some u → w.cell? ⟨b, off + (i + j), none⟩ = some u) →
  (loadCellsFrom ⟨b, off, none⟩ i s acc).run P w = .ok (acc ++ vs.toArray) w
 | 0, i, acc, vs, hl, _ => by
  obtain rfl : vs = [] := List.length_eq_zero_iff.1 hl
  simp [loadCellsFrom]
 | s + 1, i, acc, [], hl, _ => by simp at hl
 | s + 1, i, acc, c :: vs, hl, h => by
  have h0 := h 0 c rfl
  unfold loadCellsFrom
  simp only [Sem.run_bind, addr_add, load, Sem.run]
  rw [show off + (i + 0) = off + i from rfl] at h0
  rw [h0]
  simp only [Result.andThen_ok]
  rw [run_loadCells s (i + 1) (acc.push c) vs (by simpa using hl) (fun j u hu => by have := h (j + 1) u hu; rwa [show i + (j + 1) = i + 1 + j by omega] at this)]
  simp
def Row (w0 : World) (H : List Ent) (b off : Nat) (vs : List Value) : Prop := ∀ w, St w0 H w → ∀ j u, vs[j]? = some u → w.cell? ⟨b, off + j, none⟩ = some u
theorem Row.ent {i g off : Nat} {ent : Ent} {vs : List Value} (hi : H[i]? = some ent) (hg : ent.g = g) (hc : ∀ j u, vs[j]? = some u → ent.cs[off + j]? = some u) : Row w0 H g off vs := fun w hs j u hu => by
 subst hg; exact (hs.has _ (List.mem_of_getElem? hi)).cell (hc j u hu)
theorem Row.whole {i g : Nat} {ent : Ent} (hi : H[i]? = some ent) (hg : ent.g = g) : Row w0 H g 0 ent.cs := Row.ent hi hg (fun j u hu => by rwa [Nat.zero_add])
theorem Row.all {i g : Nat} {ent : Ent} {vs : List Value} (hi : H[i]? = some ent) (hg : ent.g = g) (hv : ent.cs = vs) : Row w0 H g 0 vs := by subst hv; exact Row.whole hi hg
abbrev qZ := @Row.all
theorem Gets.loadN {b off s : Nat} {vs : List Value} (ho : o.op = .load t x) (hag : (isAgg t).run P = fun w => .ok true w) (hsz : (P.info? t).map (·.size) = some s) (hx : ev L x = some (.pointer (some ⟨b, off, none⟩)))
  (hl : vs.length = s) (hc : Row w0 H b off vs) : Gets P n w0 o L H (.agg vs.toArray) := fun a w hf hs => by
 simp only [execOp, ho, hf.eval hx]
 refine run_value ?_
 simp only [Instr.loadAt, Instr.sureAddr, loadVar, Sem.run_bind, Sem.run_pure, Result.andThen_ok, hag, run_size hsz, loadCells, if_true]
 rw [run_loadCells s 0 #[] vs hl (fun j u hu => by rw [Nat.zero_add]; exact hc w hs j u hu)]
 simp
abbrev qh := @Gets.loadN
theorem Gets.lenSlice {A : Option Addr} {len cap : Nat} (ho : o.op = .call { callee := .builtin .len, args := #[x], argTypes := #[t] }) (h1 : P.underlying t = some (.slice e)) (hx : ev L x = some (.slice A len cap)) : Gets P n w0 o L H (.int .i64 len) := fun a w hf hs => by
 simp only [execOp, ho, resolve, invoke, builtin, Sem.run_bind, Sem.run_pure, Result.andThen_ok, List.map_toArray, List.map_cons, List.map_nil, hf.eval hx, Builtin.len_]
 simp [Sem.run_bind, run_under h1, goInt]
def cutA (A : Option Addr) (cap l size : Nat) : Option Addr := if cap = l then A else A.map (·.add (l * size))
theorem cutA_some {b off cap l size : Nat} (h : l < cap) : cutA (some ⟨b, off, none⟩) cap l size = some ⟨b, off + l * size, none⟩ := by
 unfold cutA; rw [if_neg (by omega)]; simp [addr_add]
theorem cut_is {b off cap l size o' : Nat} (h : l < cap) (ho : off + l * size = o') : cutA (some ⟨b, off, none⟩) cap l size = some ⟨b, o', none⟩ := by subst ho; exact cutA_some h
theorem cutA_zero (A : Option Addr) (cap size : Nat) : cutA A cap 0 size = A := by
 unfold cutA
 split
 ·rfl
 ·cases A with
  | none => rfl
  | some a => simp [Addr.add]
def bnd (L : List (Nat × Value)) (d : Nat) : Option Operand → Nat → Prop
 | none, l => l = d
 | some x, l => ∃ kd p, ev L x = some (.int kd p) ∧ p = (l : Int)
theorem bnd.at_ {d l : Nat} (hx : ev L x = some (.int kd p)) (hp : p = (l : Int)) : bnd L d (some x) l := ⟨kd, p, hx, hp⟩
theorem bnd.dflt {d : Nat} : bnd L d none d := rfl
theorem run_bounds {b : Bool} {len cap l h : Nat} {lo hi : Option Value} (hlo : match lo with | none => l = 0 | some v => ∃ kd p, v = .int kd p ∧ p = (l : Int)) (hhi : match hi with | none => h = len | some v => ∃ kd p, v = .int kd p ∧ p = (h : Int))
  (h1 : l ≤ h) (h2 : h ≤ cap) (w : World) : (Instr.sliceBounds b len cap lo hi none).run P w = .ok (l, h, cap) w := by
 unfold Instr.sliceBounds
 cases hi with
 | none =>
  simp only at hhi
  subst hhi
  cases lo with
  | none => simp only at hlo; subst hlo; simp [Sem.run_bind]
  | some v => obtain ⟨kd, p, rfl, rfl⟩ := hlo; simp [Sem.run_bind, Instr.sliceBound, asIntOf, h1]
 | some v =>
  obtain ⟨kd, p, rfl, rfl⟩ := hhi
  cases lo with
  | none => simp only at hlo; subst hlo; simp [Sem.run_bind, Instr.sliceBound, asIntOf, h2]
  | some v => obtain ⟨kd, p, rfl, rfl⟩ := hlo; simp [Sem.run_bind, Instr.sliceBound, asIntOf, h1, h2]
theorem bnd_val {d l : Nat} {lo : Option Operand} {a : Act} (hf : Fr n L a) (h : bnd L d lo l) : match lo.map a.eval with | none => l = d | some v => ∃ kd p, v = .int kd p ∧ p = (l : Int) := by
 cases lo with
 | none => exact h
 | some x => obtain ⟨kd, p, hx, hp⟩ := h; exact ⟨kd, p, by simp [hf.eval hx], hp⟩
theorem Gets.sliceS {A A' : Option Addr} {len cap l h s : Nat} {lo hi : Option Operand} (ho : o.op = .slice t x lo hi none) (h1 : P.underlying t = some (.slice e)) (hsz : (P.info? e).map (·.size) = some s)
  (hx : ev L x = some (.slice A len cap)) (hlo : bnd L 0 lo l) (hhi : bnd L len hi h) (hlh : l ≤ h) (hhc : h ≤ cap) (hA : cutA A cap l s = A') {ln cp : Nat} (hln : h - l = ln) (hcp : cap - l = cp) : Gets P n w0 o L H (.slice A' ln cp) := fun a w hf hs => by
 subst hln; subst hcp
 simp only [execOp, ho, hf.eval hx]
 refine run_value ?_
 subst hA
 simp only [Instr.sliceAt, Instr.slice, Sem.run_bind, run_under h1, Result.andThen_ok, Option.map_none, run_bounds (bnd_val hf hlo) (bnd_val hf hhi) hlh hhc, run_size hsz, Sem.run_pure]
 rfl
abbrev zG := @Gets.sliceS
theorem Gets.sliceA {b off len l h s : Nat} {A' : Option Addr} {lo hi : Option Operand} (ho : o.op = .slice t x lo hi none) (h1 : P.underlying t = some (.array len e)) (hsz : (P.info? e).map (·.size) = some s)
  (hx : ev L x = some (.pointer (some ⟨b, off, none⟩))) (hlo : bnd L 0 lo l) (hhi : bnd L len hi h) (hlh : l ≤ h) (hhc : h ≤ len) (hA : cutA (some ⟨b, off, none⟩) len l s = A') {ln cp : Nat} (hln : h - l = ln) (hcp : len - l = cp) : Gets P n w0 o L H (.slice A' ln cp) := fun a w hf hs => by
 subst hln; subst hcp
 simp only [execOp, ho, hf.eval hx]
 refine run_value ?_
 subst hA
 simp only [Instr.sliceAt, Instr.sureAddr, Sem.run_bind, run_under h1, Result.andThen_ok, Option.map_none, run_bounds (bnd_val hf hlo) (bnd_val hf hhi) hlh hhc, run_size hsz, Sem.run_pure]
 unfold cutA
 split <;> rfl
theorem Gets.extract {vs : Array Value} {ix : Nat} (ho : o.op = .extract x ix) (hx : ev L x = some (.tuple vs)) (hv : vs[ix]? = some v) : Gets P n w0 o L H v := fun a w hf hs => by
 simp only [execOp, ho, hf.eval hx, Instr.extract, hv]; rfl
theorem eqIn_pn (d : Nat) {ad : Addr} (h1 : P.underlying t = some (.pointer e)) (w : World) : (Op.equalIn (d + 1) t (.pointer (some ad)) (.pointer none)).run P w = .ok false w := by simp [Op.equalIn, Sem.run_bind, run_under h1]
theorem run_equal {b : Bool} {c d : Value} {w : World} (h : (Op.equalIn (9999 + 1) t c d).run P w = .ok b w) (hg : eqGuard .eql t x y c d = pure ()) (hb : binOp .eql t c d = (do pure (.bool (← Op.equal t c d)) : Sem Value)) :
  (do eqGuard .eql t x y c d; binOp .eql t c d : Sem Value).run P w = .ok (.bool b) w := by
 rw [hg, hb]
 have : Op.equal t c d = Op.equalIn (9999 + 1) t c d := rfl
 rw [this]
 simp only [Sem.run_bind, Sem.run_pure, Result.andThen_ok]
 generalize Op.equalIn (9999 + 1) t c d = s at *
 simp [h]
theorem Gets.ptrNil {ad : Addr} (ho : o.op = .binOp .eql t x y t') (h1 : P.underlying t = some (.pointer e)) (hx : ev L x = some (.pointer (some ad))) (hy : ev L y = some (.pointer none)) : Gets P n w0 o L H (.bool false) := fun a w hf hs => by
 simp only [execOp, ho, hf.eval hx, hf.eval hy]
 refine run_value ?_
 exact run_equal (eqIn_pn 9999 h1 w) rfl rfl
theorem Gets.strEq {b c : ByteArray} (ho : o.op = .binOp .eql t x y t') (hx : ev L x = some (.string b)) (hy : ev L y = some (.string c)) (hr : ∀ w, (Op.stringOp .eql b c).run P w = .ok v w) : Gets P n w0 o L H v := fun a w hf hs => by
 simp only [execOp, ho, hf.eval hx, hf.eval hy]
 refine run_value ?_
 simp [eqGuard, binOp, Sem.run_bind, hr]
theorem Gets.build {parts : Array (Nat × Operand)} {vs : List (Nat × Value)} (ho : o.op = .build t parts) (hx : parts.toList.map (fun x => (x.1, ev L x.2)) = vs.map (fun x => (x.1, some x.2)))
  (hr : ∀ w, (Instr.build t vs.toArray).run P w = .ok v w) : Gets P n w0 o L H v := fun a w hf hs => by
 have : parts.map (fun (x : Nat × Operand) => (x.1, a.eval x.2)) = vs.toArray := by
  apply Array.toList_inj.1
  simp only [Array.toList_map, List.toList_toArray]
  generalize parts.toList = l at hx
  clear hr
  induction l generalizing vs with
  | nil => cases vs with
   | nil => rfl
   | cons => simp at hx
  | cons c l ih => cases vs with
   | nil => simp at hx
   | cons u us =>
    simp only [List.map_cons, List.cons.injEq, Prod.mk.injEq] at hx ⊢
    exact ⟨Prod.ext hx.1.1 (hf.eval hx.1.2), ih hx.2⟩
 simp only [execOp, ho]
 refine run_value ?_
 have h2 : (parts.map fun (x : Nat × Operand) => match x with | (i, x) => (i, a.eval x)) = vs.toArray := this
 rw [h2]
 exact hr w
abbrev qm := @Gets.build
theorem oneCell_cells {v : Value} (h : v.oneCell' = true) : v.cells = #[v] := by cases v <;> first | rfl | cases h
theorem TL.store1 {i g off : Nat} {ent : Ent} (hg : Wants n ops L o) (hd : o.dst = none) (ho : o.op = .store t x y) (hsz : (P.info? t).map (·.size) = some 1)
  (hx : ev L x = some (.pointer (some ⟨g, off, none⟩))) (hy : ev L y = some v) (hv : v.oneCell' = true) (hi : H[i]? = some ent) (he : ent.g = g) (hoff : off < ent.cs.length)
  {cs' : List Value} (hcs : ent.cs.set off v = cs') {H' : List Ent} (hH : H.set i ⟨ent.g, ent.t, cs', ent.tot⟩ = H') (hr : TL P ops Q n w0 rest L H') : TL P ops Q n w0 (o :: rest) L H :=
 fun a w hf hs => wpL_wants hg.nd (hg a hf) fun K hK => by
  subst he
  subst hcs
  subst hH
  have hrun : (execOp a.eval o).run P w = .ok .skip (w.setCell ⟨ent.g, off, none⟩ v) := by
   simp only [execOp, ho, hf.eval hx, hf.eval hy]
   refine run_unit ?_
   have hl := hs.has ent (List.mem_of_getElem? hi)
   have hc := hl.cell (o := off) (List.getElem?_eq_getElem hoff)
   have hfz := hl.free off
   simp only [Instr.storeAt, Instr.sureAddr, storeVar, Sem.run_bind, Sem.run_pure, Result.andThen_ok, run_size hsz, oneCell_cells hv]
   simp only [List.size_toArray, List.length_cons, List.length_nil, Nat.zero_add, ne_eq, not_true_eq_false, if_false, storeCells, Sem.run_bind, Addr.add, if_true, store]
   cases v <;> first | (simp [Value.oneCell'] at hv; done) | simp [Sem.run, hc, hfz]
  unfold Oper.wp; rw [hrun]
  exact hK _ _ (by rw [hd]; exact hr _ _ hf (hs.set hi off v))
abbrev qy := @TL.store1
theorem run_storeCells {i : Nat} {g : Nat} {ent : Ent} {off : Nat} : ∀ (vs : List Value) (d : Nat) (H : List Ent) (ent : Ent) (w : World), ent.g = g → St w0 H w → H[i]? = some ent → (∀ u ∈ vs, u.oneCell' = true) → off + d + vs.length ≤ ent.cs.length →
  ∃ w', (storeCells ⟨g, off, none⟩ vs d).run P w = .ok () w' ∧ St w0 (H.set i ⟨ent.g, ent.t, ent.cs.take (off + d) ++ vs ++ ent.cs.drop (off + d + vs.length), ent.tot⟩) w'
 | [], d, H, ent, w, he, hs, hi, _, hl => ⟨w, by simp [storeCells], by
   have : (⟨ent.g, ent.t, ent.cs.take (off + d) ++ [] ++ ent.cs.drop (off + d + 0), ent.tot⟩ : Ent) = ent := by simp
   simp only [List.length_nil]
   rw [this]
   have hset : H.set i ent = H := by
    obtain ⟨hil, rfl⟩ := List.getElem?_eq_some_iff.1 hi
    exact List.set_getElem_self hil
   rw [hset]; exact hs⟩
 | u :: vs, d, H, ent, w, he, hs, hi, h1, hl => by
  subst he
  simp only [List.length_cons] at hl
  have hle := hs.has ent (List.mem_of_getElem? hi)
  have hc := hle.cell (o := off + d) (List.getElem?_eq_getElem (by omega))
  have hfz := hle.free (off + d)
  have hu := h1 u (by simp)
  have hil : i < H.length := (List.getElem?_eq_some_iff.1 hi).1
  obtain ⟨w', hr, hs'⟩ := run_storeCells (i := i) (g := ent.g) (ent := ent) (off := off) vs (d + 1) (H.set i ⟨ent.g, ent.t, ent.cs.set (off + d) u, ent.tot⟩) ⟨ent.g, ent.t, ent.cs.set (off + d) u, ent.tot⟩ (w.setCell ⟨ent.g, off + d, none⟩ u) rfl
   (hs.set hi (off + d) u) (by simp [hil]) (fun c hc => h1 c (by simp [hc])) (by simp; omega)
  refine ⟨w', ?_, ?_⟩
  ·unfold storeCells
   simp only [Sem.run_bind, addr_add, store]
   cases u <;> first | (simp [Value.oneCell'] at hu; done) | (simp only [Sem.run, hc, hfz, Result.andThen_ok]; simpa using hr)
  ·rw [List.set_set] at hs'
   refine cast ?_ hs'
   congr 3
   simp only [List.length_cons]
   apply List.ext_getElem?
   intro j
   simp only [List.getElem?_append, List.getElem?_take, List.getElem?_drop, List.length_append, List.length_take, List.length_set, List.length_cons, List.getElem?_set]
   rcases Nat.lt_trichotomy j (off + d) with hj | hj | hj
   ·have a1 : j < min (off + (d + 1)) ent.cs.length + vs.length := by omega
    have a2 : j < min (off + (d + 1)) ent.cs.length := by omega
    have a3 : j < off + (d + 1) := by omega
    have a4 : off + d ≠ j := by omega
    have a5 : j < min (off + d) ent.cs.length + (vs.length + 1) := by omega
    have a6 : j < min (off + d) ent.cs.length := by omega
    simp only [a1, a2, a3, a4, a5, a6, hj, if_true, if_false]
   ·subst hj
    have a1 : off + d < min (off + (d + 1)) ent.cs.length + vs.length := by omega
    have a2 : off + d < min (off + (d + 1)) ent.cs.length := by omega
    have a3 : off + d < off + (d + 1) := by omega
    have a5 : off + d < min (off + d) ent.cs.length + (vs.length + 1) := by omega
    have a6 : ¬ off + d < min (off + d) ent.cs.length := by omega
    have a7 : off + d < ent.cs.length := by omega
    have a8 : off + d - min (off + d) ent.cs.length = 0 := by omega
    simp only [a1, a2, a3, a5, a6, a7, a8, if_true, if_false, List.getElem?_cons_zero]
   ·by_cases hj2 : j < off + d + (vs.length + 1)
    ·have a1 : j < min (off + (d + 1)) ent.cs.length + vs.length := by omega
     have a2 : ¬ j < min (off + (d + 1)) ent.cs.length := by omega
     have a5 : j < min (off + d) ent.cs.length + (vs.length + 1) := by omega
     have a6 : ¬ j < min (off + d) ent.cs.length := by omega
     have a8 : j - min (off + d) ent.cs.length = (j - min (off + (d + 1)) ent.cs.length) + 1 := by omega
     simp only [a1, a2, a5, a6, a8, if_true, if_false, List.getElem?_cons_succ]
    ·have a1 : ¬ j < min (off + (d + 1)) ent.cs.length + vs.length := by omega
     have a5 : ¬ j < min (off + d) ent.cs.length + (vs.length + 1) := by omega
     have a4 : off + d ≠ off + (d + 1) + vs.length + (j - (min (off + (d + 1)) ent.cs.length + vs.length)) := by omega
     have a6 : off + (d + 1) + vs.length + (j - (min (off + (d + 1)) ent.cs.length + vs.length)) = off + d + (vs.length + 1) + (j - (min (off + d) ent.cs.length + (vs.length + 1))) := by omega
     simp only [a1, a5, a4, if_false]
     rw [a6]
theorem TL.storeN {i g off s : Nat} {ent : Ent} {vs : List Value} (hg : Wants n ops L o) (hd : o.dst = none) (ho : o.op = .store t x y) (hsz : (P.info? t).map (·.size) = some s)
  (hx : ev L x = some (.pointer (some ⟨g, off, none⟩))) (hy : ev L y = some (.agg vs.toArray)) (hl : vs.length = s) (h1 : ∀ u ∈ vs, u.oneCell' = true) (hi : H[i]? = some ent) (he : ent.g = g) (hoff : off + vs.length ≤ ent.cs.length)
  {cs' : List Value} (hcs : ent.cs.take off ++ vs ++ ent.cs.drop (off + vs.length) = cs') {H' : List Ent} (hH : H.set i ⟨ent.g, ent.t, cs', ent.tot⟩ = H') (hr : TL P ops Q n w0 rest L H') : TL P ops Q n w0 (o :: rest) L H :=
 fun a w hf hs => wpL_wants hg.nd (hg a hf) fun K hK => by
  subst hcs
  subst hH
  obtain ⟨w', hrun, hs'⟩ := run_storeCells (P := P) (i := i) (g := g) (ent := ent) (off := off) vs 0 H ent w he hs hi h1 (by simpa using hoff)
  have hrun' : (execOp a.eval o).run P w = .ok .skip w' := by
   simp only [execOp, ho, hf.eval hx, hf.eval hy]
   refine run_unit ?_
   simp only [Instr.storeAt, Instr.sureAddr, storeVar, Sem.run_bind, Sem.run_pure, Result.andThen_ok, run_size hsz]
   rw [if_neg (fun h => h (by simpa [Value.cells] using hl))]
   simpa [Value.cells] using hrun
  unfold Oper.wp; rw [hrun']
  exact hK _ _ (by rw [hd]; exact hr _ _ hf (by simpa using hs'))
theorem TL.storeW {i g s : Nat} {ent : Ent} {vs : List Value} (hg : Wants n ops L o) (hd : o.dst = none) (ho : o.op = .store t x y) (hsz : (P.info? t).map (·.size) = some s)
  (hx : ev L x = some (.pointer (some ⟨g, 0, none⟩))) (hy : ev L y = some (.agg vs.toArray)) (hl : vs.length = s) (h1 : ∀ u ∈ vs, u.oneCell' = true) (hi : H[i]? = some ent) (he : ent.g = g) (hoff : ent.cs.length = s)
  {H' : List Ent} (hH : H.set i ⟨ent.g, ent.t, vs, ent.tot⟩ = H') (hr : TL P ops Q n w0 rest L H') : TL P ops Q n w0 (o :: rest) L H :=
 TL.storeN hg hd ho hsz hx hy hl h1 hi he (by omega) (cs' := vs) (by
  have h2 : ent.cs.drop (0 + vs.length) = [] := List.drop_of_length_le (by omega)
  rw [h2]; simp) hH hr
abbrev qz := @TL.storeW
theorem TL.alloc {cs : List Value} {zv : Value} (hg : Wants n ops L o) (hi : inside n o.dst = true) (ho : o.op = .alloc t) (hz : (P.info? t).bind (·.zero) = some zv) (hcs : zv.cells.toList = cs) {tot : Nat} (htot : cs.length = tot)
  (hr : ∀ g, w0.heap.size ≤ g → TL P ops Q n w0 rest (put L o.dst (.pointer (some ⟨g, 0, none⟩))) (⟨g, t, cs, tot⟩ :: H)) : TL P ops Q n w0 (o :: rest) L H :=
 fun a w hf hs => wpL_wants hg.nd (hg a hf) fun K hK => by
  have hrun : (execOp a.eval o).run P w = .ok (.value (.pointer (some ⟨w.heap.size, 0, none⟩))) (w.alloc (.cells zv.cells t)) := by
   simp only [execOp, ho]
   refine run_value ?_
   simp only [Instr.alloc, Sem.run_bind, run_zero hz, Result.andThen_ok]
   simp [newVar, newRow, newObj, Sem.run_bind, Sem.run]
  unfold Oper.wp; rw [hrun]
  subst htot; exact hK _ _ (hr _ hs.size _ _ (hf.put o.dst _ hi) (hs.alloc t cs zv.cells hcs))
abbrev zK := @TL.alloc
theorem TL.box {cs : List Value} (hg : Wants n ops L o) (hi : inside n o.dst = true) (ho : o.op = .box t x) (hx : ev L x = some v) (hcs : v.cells.toList = cs) {tot : Nat} (htot : cs.length = tot)
  (hr : ∀ g, w0.heap.size ≤ g → TL P ops Q n w0 rest (put L o.dst (.pointer (some ⟨g, 0, none⟩))) (⟨g, t, cs, tot⟩ :: H)) : TL P ops Q n w0 (o :: rest) L H :=
 fun a w hf hs => wpL_wants hg.nd (hg a hf) fun K hK => by
  have hrun : (execOp a.eval o).run P w = .ok (.value (.pointer (some ⟨w.heap.size, 0, none⟩))) (w.alloc (.cells v.cells t)) := by
   simp only [execOp, ho, hf.eval hx]
   refine run_value ?_
   simp [Instr.box, newVar, newRow, newObj, Sem.run_bind, Sem.run]
  unfold Oper.wp; rw [hrun]
  subst htot; exact hK _ _ (hr _ hs.size _ _ (hf.put o.dst _ hi) (hs.alloc t cs v.cells hcs))
theorem w64 {a r : Int} (h : a = r) (hb : -9223372036854775808 ≤ r ∧ r ≤ 9223372036854775807) : IntKind.i64.wrap a = r := by subst h; exact IntWalk.i64_in _ hb
theorem wu64 {a r : Int} (h : a = r) (hb : 0 ≤ r ∧ r ≤ 18446744073709551615) : IntKind.u64.wrap a = r := by subst h; exact IntWalk.u64_in _ hb
theorem tmod_pos {a b r : Int} (ha : 0 ≤ a) (h : a % b = r) : a.tmod b = r := by rw [Int.tmod_eq_emod_of_nonneg ha]; exact h
theorem tdiv_pos {kd : IntKind} {a b r : Int} (ha : 0 ≤ a) (h : kd.wrap (a / b) = r) : kd.wrap (a.tdiv b) = r := by rw [Int.tdiv_eq_ediv_of_nonneg ha]; exact h
theorem ints_get {kd : IntKind} {W : List Int} {i : Nat} (h : i < W.length) : (W.map (int kd))[i]? = some (.int kd (W.getD i 0)) := by simp [h]
abbrev qS := @ints_get
theorem ints_set {kd : IntKind} {W : List Int} {i : Nat} {x : Int} : (W.map (int kd)).set i (.int kd x) = (W.set i x).map (int kd) := by rw [List.map_set]
theorem ints_one {kd : IntKind} {W : List Int} : ∀ u ∈ W.map (int kd), u.oneCell' = true := by
 intro u hu
 obtain ⟨x, _, rfl⟩ := List.mem_map.1 hu
 rfl
abbrev qk := @ints_one
theorem ints_len {kd : IntKind} {W : List Int} {n : Nat} (h : W.length = n) : (W.map (int kd)).length = n := by simpa using h
theorem arr_get {l : List Value} {i : Nat} {v : Value} (h : l[i]? = some v) : l.toArray[i]? = some v := by simpa using h
theorem app_left {A B : List Value} {i : Nat} {v : Value} (h : A[i]? = some v) : (A ++ B)[i]? = some v := by
 have := (List.getElem?_eq_some_iff.1 h).1
 rw [List.getElem?_append_left this]; exact h
theorem app_right {A B : List Value} {a i : Nat} {v : Value} (ha : A.length = a) (h : B[i]? = some v) : (A ++ B)[a + i]? = some v := by
 subst ha; rw [List.getElem?_append_right (by omega)]; simpa using h
def addW (kd : IntKind) (a b : Int) : Int := kd.wrap (a + b)
def subW (kd : IntKind) (a b : Int) : Int := kd.wrap (a - b)
def mulW (kd : IntKind) (a b : Int) : Int := kd.wrap (a * b)
def cplI (kd : IntKind) (p : Int) : Int := xorI kd (if kd.signed then -1 else kd.max) p
theorem Gets.addU (ho : o.op = .binOp .add t x y t') (hx : ev L x = some (.int kd p)) (hy : ev L y = some (.int kd q)) : Gets P n w0 o L H (.int kd (addW kd p q)) := qU ho hx hy rfl
abbrev qj := @Gets.addU
theorem Gets.subU (ho : o.op = .binOp .sub t x y t') (hx : ev L x = some (.int kd p)) (hy : ev L y = some (.int kd q)) : Gets P n w0 o L H (.int kd (subW kd p q)) := qu ho hx hy rfl
theorem Gets.mulU (ho : o.op = .binOp .mul t x y t') (hx : ev L x = some (.int kd p)) (hy : ev L y = some (.int kd q)) : Gets P n w0 o L H (.int kd (mulW kd p q)) := Gets.mul ho hx hy rfl
theorem Gets.cplU (ho : o.op = .unOp .xor t x) (hx : ev L x = some (.int kd p)) : Gets P n w0 o L H (.int kd (cplI kd p)) := Gets.cpl ho hx rfl
theorem Gets.notP {p : Prop} [Decidable p] (ho : o.op = .unOp .not t x) (hx : ev L x = some (.bool (decide p))) : Gets P n w0 o L H (.bool (decide (¬ p))) := by
 rw [decide_not]; exact Gets.not ho hx
theorem set_left {A A' B : List Value} {i : Nat} {v : Value} (hi : i < A.length) (h : A.set i v = A') : (A ++ B).set i v = A' ++ B := by subst h; exact List.set_append_left _ _ hi
theorem set_right {A B B' : List Value} {a i : Nat} {v : Value} (ha : A.length = a) (h : B.set i v = B') : (A ++ B).set (a + i) v = A ++ B' := by
 subst h; subst ha; rw [List.set_append_right _ _ (by omega)]; simp
theorem ones_app {A B : List Value} (ha : ∀ u ∈ A, u.oneCell' = true) (hb : ∀ u ∈ B, u.oneCell' = true) : ∀ u ∈ A ++ B, u.oneCell' = true := by
 intro u hu
 rcases List.mem_append.1 hu with h | h
 ·exact ha u h
 ·exact hb u h
abbrev zH := @ones_app
theorem St.take {w : World} {ent : Ent} (hs : St w0 H w) (hl : ent.lies w0) (hne : ∀ e ∈ H, e.g ≠ ent.g) : St w0 (ent :: H) w :=
 ⟨hs.os, hs.tape, hs.output, hs.size, fun e he => by
  rcases List.mem_cons.1 he with rfl | he
  ·exact hl.of_block (hs.old _ hl.lt hne)
  ·exact hs.has e he, fun b hb h => hs.old b hb fun e he => h e (by simp [he]), .cons (fun e he => (hne e he).symm) hs.apart⟩
theorem Sub.int {L L' : List (Nat × Value)} {i : Nat} {kd : IntKind} {a b : Int} (h : look L i = some (.int kd a)) (hab : a = b) (hs : Sub L' L) : Sub ((i, .int kd b) :: L') L := by subst hab; exact qH h hs
abbrev qE := @Sub.int
theorem Sub.slice {L L' : List (Nat × Value)} {i : Nat} {A A' : Option Addr} {a b c d : Nat} (h : look L i = some (.slice A a c)) (hA : A = A') (hab : a = b) (hcd : c = d) (hs : Sub L' L) : Sub ((i, .slice A' b d) :: L') L := by subst hA; subst hab; subst hcd; exact qH h hs
abbrev qL := @Sub.slice
def Enters (P : Program) (f : FuncId) : Prop := ∃ fn, P.funcs[f]? = some fn ∧ (fn.name == "runtime.NumGoroutine") = false ∧ fn.body.isNone = false
theorem run_call {f : FuncId} (h : Enters P f) (args : Array Value) (w : World) : (callFunc f args).run P w = .ok (.enter f args) w := by
 obtain ⟨fn, h1, h2, h3⟩ := h
 simp only [callFunc, program, Sem.run_bind, Sem.run, Result.andThen_ok, h1, h2, h3, Bool.false_eq_true, if_false]
 rfl
theorem run_enter {f : FuncId} {xs : List Operand} {ts : Array TypeId} {vs : List Value} {a : Act} {w : World} (h : Enters P f) (ho : o.op = .call { callee := .value (.func f), args := xs.toArray, argTypes := ts }) (hf : Fr n L a) (hx : evs L xs = some vs) :
  (execOp a.eval o).run P w = .ok (.enter f vs.toArray) w := by
 have hm := hf.evals hx
 simp only [execOp, ho, resolve, Act.eval, Deferred.ofValue, Sem.run_bind, Sem.run_pure, Result.andThen_ok, List.map_toArray, hm, invoke]
 simp [run_call h]
theorem TL.call {ι : Type} {f : FuncId} {xs : List Operand} {ts : Array TypeId} {vs : List Value} {V : ι → Value} {R : ι → Prop} {H' : ι → List Ent} (hg : Wants n ops L o) (hi : inside n o.dst = true) (h : Enters P f)
  (ho : o.op = .call { callee := .value (.func f), args := xs.toArray, argTypes := ts }) (hx : evs L xs = some vs)
  (hc : ∀ w, St w0 H w → Calls P f vs.toArray w fun e w' => ∃ i, e = .returned (V i) ∧ R i ∧ St w0 (H' i) w')
  (hr : ∀ i, R i → TL P ops Q n w0 rest (put L o.dst (V i)) (H' i)) : TL P ops Q n w0 (o :: rest) L H :=
 fun a w hf hs => wpL_wants hg.nd (hg a hf) fun K hK => by
  unfold Oper.wp; rw [run_enter h ho hf hx]
  refine (hc w hs).mono ?_
  rintro e w' ⟨i, rfl, hR, hs'⟩
  exact hK _ _ (hr i hR _ _ (hf.put o.dst _ hi) hs')
abbrev qr := @TL.call
theorem TL.call0 {f : FuncId} {xs : List Operand} {ts : Array TypeId} {vs : List Value} (hg : Wants n ops L o) (hi : inside n o.dst = true) (h : Enters P f)
  (ho : o.op = .call { callee := .value (.func f), args := xs.toArray, argTypes := ts }) (hx : evs L xs = some vs)
  (hc : ∀ w, St w0 H w → Calls P f vs.toArray w fun e w' => e = .returned v ∧ St w [] w')
  (hr : TL P ops Q n w0 rest (put L o.dst v) H) : TL P ops Q n w0 (o :: rest) L H :=
 qr (ι := Unit) (V := fun _ => v) (R := fun _ => True) (H' := fun _ => H) hg hi h ho hx (fun w hs => (hc w hs).mono fun e w' ⟨he, hw⟩ => ⟨(), he, trivial, hs.call' hw⟩) fun _ _ => hr
abbrev qR := @TL.call0
theorem TS.call0 {f : FuncId} {xs : List Operand} {ts : Array TypeId} {vs : List Value} (hg : Wants n ops L o) (hi : inside n o.dst = true) (h : Enters P f)
  (ho : o.op = .call { callee := .value (.func f), args := xs.toArray, argTypes := ts }) (hx : evs L xs = some vs)
  (hc : ∀ w, St w0 H w → Calls P f vs.toArray w fun e w' => e = .returned v ∧ St w [] w')
  (hr : TS P ops Q n w0 k m rest (put L o.dst v) H) : TS P ops Q n w0 k (m + 1) (o :: rest) L H :=
 fun a hf => SeqM.call (hg a hf) (fun w _ => run_enter h ho hf hx) (fun w hs => (hc w hs).mono fun e w' ⟨he, hw⟩ => ⟨he, hs.call' hw⟩) (hr _ (hf.put o.dst v hi))
theorem fr_args {args : List Value} {N : Nat} {md : Md} (hl : args.length ≤ N) : Fr ⟨N, [], md⟩ (args.zipIdx.map fun x => (x.2, x.1)) { tmps := args.toArray ++ Array.replicate (N - args.toArray.size) undef, defers := [] } := by
 refine ⟨rfl, by simp; omega, ?_⟩
 intro i v hi
 have key : ∀ (l : List Value) (k : Nat), look ((l.zipIdx k).map fun x => (x.2, x.1)) i = some v → k ≤ i ∧ l[i - k]? = some v := by
  intro l
  induction l with
  | nil => intro k h; simp [look] at h
  | cons c l ih =>
   intro k h
   simp only [List.zipIdx_cons, List.map_cons, look] at h
   cases hb : Nat.beq i k with
   | true => rw [hb] at h; have := Nat.eq_of_beq_eq_true hb; subst this; simp at h; simp [h]
   | false =>
    rw [hb] at h
    obtain ⟨h1, h2⟩ := ih (k + 1) h
    refine ⟨by omega, ?_⟩
    rw [show i - k = (i - (k + 1)) + 1 by omega]
    simpa using h2
 obtain ⟨_, h2⟩ := key args 0 hi
 have hlt : i < args.length := (List.getElem?_eq_some_iff.1 h2).1
 simp only [Nat.sub_zero] at h2
 have h3 : args[i] = v := by rw [List.getElem?_eq_getElem hlt] at h2; exact Option.some.inj h2
 simp [Array.getElem?_append, hlt, h3]
theorem calls_from {f : FuncId} {fn : Func} {c : Code} {args : List Value} {w : World} {R : Ending → World → Prop} {N : Nat} (hf : P.funcs[f]? = some fn) (hb : fn.body = some c) (hN : fn.ntmps = N) (hl : args.length ≤ N)
  (h : TC P (bodyPost P fn R) ⟨N, [], .plain⟩ w c (args.zipIdx.map fun x => (x.2, x.1)) []) : Calls P f args.toArray w R := by
 subst hN
 exact calls_of_wp hf hb (h _ w (fr_args hl) (zE w))
abbrev qP := @calls_from
theorem TE.ret1 {fn : Func} {R : Ending → World → Prop} {i : Nat} (hres : fn.results = #[.tmp i]) (hx : look L i = some v) (h : ∀ w, St w0 H w → R (.returned v) w) (hds : n.ds = [] := by rfl) : TE (bodyPost P fn R) .ret n w0 L H := fun a w hf hs =>
 ⟨hf.1.trans hds, v, by rw [results_tmp hres]; simp [Array.getD_eq_getD_getElem?, hf.2.2 i v hx], h w hs⟩
abbrev qN := @TE.ret1
theorem TE.ret2 {fn : Func} {R : Ending → World → Prop} {i j : Nat} (hres : fn.results = #[.tmp i, .tmp j]) (hx : look L i = some v) (hy : look L j = some u) (h : ∀ w, St w0 H w → R (.returned (.tuple #[v, u])) w) (hds : n.ds = [] := by rfl) : TE (bodyPost P fn R) .ret n w0 L H := fun a w hf hs =>
 ⟨hf.1.trans hds, _, by rw [results_tmp2 hres]; simp [Array.getD_eq_getD_getElem?, hf.2.2 i v hx, hf.2.2 j u hy], h w hs⟩
theorem TE.ret0 {fn : Func} {R : Ending → World → Prop} (hres : fn.results = #[]) (h : ∀ w, St w0 H w → R (.returned (.tuple #[])) w) (hds : n.ds = [] := by rfl) : TE (bodyPost P fn R) .ret n w0 L H := fun a w hf hs =>
 ⟨hf.1.trans hds, _, results_none hres _ _ _, h w hs⟩
theorem TE.end0 {fn : Func} {R : Ending → World → Prop} (hres : fn.results = #[]) (h : ∀ w, St w0 H w → R (.returned (.tuple #[])) w) (hds : n.ds = [] := by rfl) : TE (bodyPost P fn R) .normal n w0 L H := fun a w hf hs =>
 ⟨hf.1.trans hds, _, results_none hres _ _ _, h w hs⟩
theorem TE.retC {fn : Func} {R : Ending → World → Prop} {i g off s : Nat} {vs : List Value} (hres : fn.results = #[.cell i t]) (hag : (isAgg t).run P = fun w => .ok true w) (hsz : (P.info? t).map (·.size) = some s)
  (hx : look L i = some (.pointer (some ⟨g, off, none⟩))) (hl : vs.length = s) (hc : Row w0 H g off vs) (h : ∀ w, St w0 H w → R (.returned (.agg vs.toArray)) w) (hds : n.ds = [] := by rfl) : TE (bodyPost P fn R) .ret n w0 L H := fun a w hf hs => by
 refine ⟨hf.1.trans hds, .agg vs.toArray, ?_, h w hs⟩
 have h1 : (a.tmps.getD i undef) = .pointer (some ⟨g, off, none⟩) := by simp [Array.getD_eq_getD_getElem?, hf.2.2 i _ hx]
 have h2 := run_loadCells (P := P) (w := w) (b := g) (off := off) s 0 #[] vs hl (fun j u hu => by rw [Nat.zero_add]; exact hc w hs j u hu)
 simp only [results, hres]
 simp [Sem.run_bind, loadVar, hag, run_size hsz, loadCells]
 simp only [Array.getD_eq_getD_getElem?] at h1
 simp [h1, asAddr, h2]
abbrev qn := @TE.retC
end
attribute [irreducible] andI orI xorI clrI shlI shrI addW subW mulW cplI
/-
 Rules for slices that a call makes, fills and copies.
-/
section
variable {P : Program} {ops : Array Oper} {Q : Exit → Act → World → Prop} {n : Sz} {w0 : World} {L L' : List (Nat × Value)} {H : List Ent}
variable {o : Oper} {rest : List Oper} {v u : Value} {x y z : Operand} {k m j : Nat} {t t' e : TypeId} {kd kd' : IntKind} {p q r : Int}
theorem madeCells_toList (zv : Value) (c : Nat) : ((Array.range c).map (fun i => #[zv][i % 1]!)).toList = List.replicate c zv := by
 apply List.ext_getElem?
 intro i
 simp only [Array.toList_map, List.getElem?_map, List.getElem?_replicate]
 rw [Array.toList_range]
 by_cases h : i < c
 ·simp [h, Nat.mod_one]
 ·simp [h]
theorem TL.makeSlice1 {zv : Value} {ln cp bytes : Nat} (hg : Wants n ops L o) (hi : inside n o.dst = true) (ho : o.op = .makeSlice t x y) (h1 : P.underlying t = some (.slice e))
  (hz : (P.info? e).map (fun i => (i.zero, i.size, i.bytes)) = some (some zv, 1, bytes)) (hzc : zv.cells = #[zv])
  (hx : ev L x = some (.int kd p)) (hy : ev L y = some (.int kd' q)) (hp : p = (ln : Int)) (hq : q = (cp : Int)) (hle : ln ≤ cp) (hcp : cp ≤ 9223372036854775807) (hb : cp * bytes ≤ 281474976710656)
  (hr : ∀ g, w0.heap.size ≤ g → TL P ops Q n w0 rest (put L o.dst (.slice (some ⟨g, 0, none⟩) ln cp)) (⟨g, e, List.replicate cp zv, cp⟩ :: H)) : TL P ops Q n w0 (o :: rest) L H :=
 fun a w hf hs => wpL_wants hg.nd (hg a hf) fun K hK => by
  obtain ⟨i, hi1, hi2⟩ := Option.map_eq_some_iff.1 hz
  simp only [Prod.mk.injEq] at hi2
  obtain ⟨hz1, hz2, hz3⟩ := hi2
  subst hp; subst hq
  have hrun : ∃ arr : Array Value, arr.toList = List.replicate cp zv ∧ (execOp a.eval o).run P w = .ok (.value (.slice (some ⟨w.heap.size, 0, none⟩) ln cp)) (w.alloc (.cells arr e)) := by
   have hlw : IntKind.i64.wrap (ln : Int) = ln := IntWalk.i64_in _ (by omega)
   have hcw : IntKind.i64.wrap (cp : Int) = cp := IntWalk.i64_in _ (by omega)
   have hbytes : ¬ ((i.bytes : Int) * (cp : Int) > 2 ^ 48) := by
    rw [hz3]
    have : (bytes : Int) * (cp : Int) = ((cp * bytes : Nat) : Int) := by rw [Nat.mul_comm]; simp
    rw [this]; omega
   refine ⟨if cp = 0 then #[] else (Array.range cp).map (fun i => #[zv][i % 1]!), ?_, ?_⟩
   ·split
    ·rename_i h; subst h; rfl
    ·exact madeCells_toList zv cp
   ·simp only [execOp, ho, hf.eval hx, hf.eval hy]
    refine run_value ?_
    have hroom : ∀ (b : Nat) (ww : World), (askRoom b).run P ww = .ok () ww := by
     intro b ww
     unfold askRoom
     split <;> rfl
    by_cases h0 : cp = 0
    ·subst h0
     obtain rfl : ln = 0 := by omega
     have hw0 : IntKind.i64.wrap 0 = 0 := by decide
     have hr0 : Array.range 0 = #[] := rfl
     simp [hr0, Instr.makeSlice, Sem.run_bind, run_under h1, asInt, asIntOf, run_info hi1, hw0, hroom, sizeOf, hz2, newRow, newObj, Sem.run]
    ·simp [Instr.makeSlice, Sem.run_bind, run_under h1, asInt, asIntOf, run_info hi1, hlw, hcw, hbytes, hroom, sizeOf, hz2, h0, zeroValue, hz1, hzc, newRow, newObj, Sem.run]
     have e1 : ¬ (cp : Int) < 0 := by omega
     have e2 : ¬ (ln : Int) < 0 := by omega
     have e3 : ¬ (cp : Int) < (ln : Int) := by omega
     have e4 : ¬ ((2 : Int) ^ 48 < (i.bytes : Int) * (cp : Int)) := hbytes
     simp [e2, e3, h0]
     simp at e4
     omega
  obtain ⟨arr, ha, hrun⟩ := hrun
  unfold Oper.wp; rw [hrun]
  have hst := hs.alloc e (List.replicate cp zv) arr ha
  simp only [List.length_replicate] at hst
  exact hK _ _ (hr _ hs.size _ _ (hf.put o.dst _ hi) hst)
def operVals (L : List (Nat × Value)) : List (Nat × Operand) → Option (List (Nat × Value))
 | [] => some []
 | (i, x) :: r => match ev L x, operVals L r with
  | some v, some vs => some ((i, v) :: vs)
  | _, _ => none
theorem operVals_eval {a : Act} (hf : Fr n L a) : ∀ {ps : List (Nat × Operand)} {vs : List (Nat × Value)}, operVals L ps = some vs → ps.map (fun (x : Nat × Operand) => (x.1, a.eval x.2)) = vs
 | [], vs, h => by simp [operVals] at h; simp [h]
 | (i, x) :: r, vs, h => by
  unfold operVals at h
  split at h
  ·rename_i v us hv hus
   cases h
   simp [hf.eval hv, operVals_eval hf hus]
  ·cases h
theorem TL.buildSlice {len s : Nat} {ps : List (Nat × Operand)} {vs : List (Nat × Value)} {cells : Array Value} {cs : List Value} {zv : Value} (hg : Wants n ops L o) (hi : inside n o.dst = true) (ho : o.op = .buildSlice t len ps.toArray)
  (h1 : P.underlying t = some (.slice e)) (hsz : (P.info? e).map (·.size) = some s) (hz : (P.info? e).bind (·.zero) = some zv) (hv : operVals L ps = some vs) (hlen : len * s ≤ 2 ^ 24) (hpos : (len * s = 0) = False)
  {tot : Nat} (hfill : Instr.fill (fun i => some (i * s, s)) ((Array.range (len * s)).map (zv.cells[· % zv.cells.size]!)) vs = some cells) (hcs : cells.toList = cs) (htot : cs.length = tot)
  (hr : ∀ g, w0.heap.size ≤ g → TL P ops Q n w0 rest (put L o.dst (.slice (some ⟨g, 0, none⟩) len len)) (⟨g, e, cs, tot⟩ :: H)) : TL P ops Q n w0 (o :: rest) L H :=
 fun a w hf hs => wpL_wants hg.nd (hg a hf) fun K hK => by
  have hrun : (execOp a.eval o).run P w = .ok (.value (.slice (some ⟨w.heap.size, 0, none⟩) len len)) (w.alloc (.cells cells e)) := by
   have hm := operVals_eval hf hv
   have hm2 : (ps.map fun (x : Nat × Operand) => match x with | (i, x) => (i, a.eval x)) = vs := hm
   simp only [execOp, ho]
   refine run_value ?_
   simp only [Instr.buildSlice, Sem.run_bind, run_under h1, Result.andThen_ok, run_size hsz, List.map_toArray, hm2]
   rw [if_neg (by omega), if_neg (by simp [hpos])]
   simp only [Sem.run_bind, run_zero hz, Result.andThen_ok, Sem.run_pure, hfill]
   simp [newRow, newObj, Sem.run_bind, Sem.run]
  unfold Oper.wp; rw [hrun]
  subst htot; exact hK _ _ (hr _ hs.size _ _ (hf.put o.dst _ hi) (hs.alloc e cs cells hcs))
abbrev zF := @TL.buildSlice
def Src (w : World) (A : Option Addr) (m : Nat) (kd : IntKind) (B : List Int) : Prop := B.length = m ∧ (m = 0 ∨ ∃ b off, A = some ⟨b, off, none⟩ ∧ b < w.heap.size ∧ RowI w b off m kd B)
theorem run_cells {w : World} {A : Option Addr} {m c i : Nat} {kd : IntKind} {B : List Int} (h : Src w A m kd B) (hi : i ≤ m) : (Builtin.firstCells 1 i (.slice A m c)).run P w = .ok ((B.take i).map (int kd)).toArray w := by
 obtain ⟨hl, h0⟩ := h
 have row : ∀ b off, RowI w b off m kd B → (loadCells ⟨b, off, none⟩ i).run P w = .ok ((B.take i).map (int kd)).toArray w := by
  intro b off hr
  have := run_loadCells (P := P) (w := w) (b := b) (off := off) i 0 #[] ((B.take i).map (int kd)) (by simp; omega) (by
   intro j u hu
   rw [Nat.zero_add]
   simp only [List.getElem?_map, List.getElem?_take] at hu
   split at hu
   ·rename_i hj
    have hjl : j < B.length := by omega
    rw [hr j (by omega)]
    simpa [hjl] using hu
   ·simp at hu)
  simpa [loadCells] using this
 cases A with
 | none =>
  rcases h0 with h0 | ⟨b, off, h, _⟩
  ·have : i = 0 := by omega
   subst this
   simp [Builtin.firstCells]
  ·cases h
 | some ad =>
  simp only [Builtin.firstCells, Nat.mul_one]
  rcases h0 with h0 | ⟨b, off, h, _, hr⟩
  ·have : i = 0 := by omega
   subst this
   simp [loadCells, loadCellsFrom]
  ·cases h
   exact row b off hr
theorem TL.copy {i g off dl dc sl sc : Nat} {ent : Ent} {A : Option Addr} {B : List Int} (hg : Wants n ops L o) (hi' : inside n o.dst = true) (ho : o.op = .call { callee := .builtin .copy, args := #[x, y], argTypes := #[t, t'] })
  (h1 : P.underlying t = some (.slice e)) (hsz : (P.info? e).map (·.size) = some 1)
  (hx : ev L x = some (.slice (some ⟨g, off, none⟩) dl dc)) (hy : ev L y = some (.slice A sl sc)) (hi : H[i]? = some ent) (he : ent.g = g) (hoff : off + dl ≤ ent.cs.length)
  (hsrc : ∀ w, St w0 H w → Src w A sl kd B) {c : Nat} (hc : min sl dl = c)
  {cs' : List Value} (hcs : ent.cs.take off ++ (B.take c).map (int kd) ++ ent.cs.drop (off + c) = cs') {H' : List Ent} (hH : H.set i ⟨ent.g, ent.t, cs', ent.tot⟩ = H')
  (hr : TL P ops Q n w0 rest (put L o.dst (.int .i64 c)) H') : TL P ops Q n w0 (o :: rest) L H :=
 fun a w hf hs => wpL_wants hg.nd (hg a hf) fun K hK => by
  subst hc; subst hcs; subst hH
  have hB := hsrc w hs
  have hlen : ((B.take (min sl dl)).map (int kd)).length = min sl dl := by simp; have := hB.1; omega
  obtain ⟨w', hrun, hs'⟩ := run_storeCells (P := P) (i := i) (g := g) (ent := ent) (off := off) ((B.take (min sl dl)).map (int kd)) 0 H ent w he hs hi qk (by rw [hlen]; omega)
  have hrun' : (execOp a.eval o).run P w = .ok (.value (.int .i64 (min sl dl : Nat))) w' := by
   simp only [execOp, ho, resolve, invoke, builtin, Sem.run_bind, Sem.run_pure, Result.andThen_ok, List.map_toArray, List.map_cons, List.map_nil, hf.eval hx, hf.eval hy]
   have h5 : (Builtin.copy_ #[t, t'] o.type #[.slice (some ⟨g, off, none⟩) dl dc, .slice A sl sc]).run P w = .ok (.int .i64 (min sl dl : Nat)) w' := by
    unfold Builtin.copy_
    simp only [List.getElem?_toArray, List.getElem?_cons_zero, List.getElem?_cons_succ, Sem.run_bind, run_under h1, Result.andThen_ok, Builtin.lenOf, Sem.run_pure, run_size hsz]
    have h6 := run_cells (P := P) (c := sc) hB (i := Nat.min sl dl) (Nat.min_le_left _ _)
    rw [h6]
    simp only [Result.andThen_ok]
    have h7 : (storeCells ⟨g, off, none⟩ ((B.take (Nat.min sl dl)).map (int kd)) 0).run P w = .ok () w' := hrun
    rw [h7]
    rfl
   rw [h5]; rfl
  unfold Oper.wp; rw [hrun']
  rw [hlen] at hs'
  exact hK _ _ (hr _ _ (hf.put o.dst _ hi') (by simpa using hs'))
theorem take_set_one {l : List Value} {i : Nat} {v : Value} (h : i < l.length) : l.take i ++ [v] ++ l.drop (i + 1) = l.set i v := by
 rw [List.set_eq_take_append_cons_drop, if_pos h]; simp
theorem TL.append1 {i j g ln cp g2 c2 : Nat} {ent ent2 : Ent} (hg : Wants n ops L o) (hi' : inside n o.dst = true) (ho : o.op = .call { callee := .builtin .append, args := #[x, y], argTypes := #[t, t] })
  (h1 : P.underlying t = some (.slice e)) (hsz : (P.info? e).map (·.size) = some 1)
  (hx : ev L x = some (.slice (some ⟨g, 0, none⟩) ln cp)) (hy : ev L y = some (.slice (some ⟨g2, 0, none⟩) 1 c2)) (hi : H[i]? = some ent) (he : ent.g = g) (hj : H[j]? = some ent2) (he2 : ent2.g = g2)
  (hv : ent2.cs[0]? = some (.int kd p)) (hln : ln < cp) (hoff : ln < ent.cs.length)
  {cs' : List Value} (hcs : ent.cs.set ln (.int kd p) = cs') {H' : List Ent} (hH : H.set i ⟨ent.g, ent.t, cs', ent.tot⟩ = H') {ln' : Nat} (hl' : ln + 1 = ln')
  (hr : TL P ops Q n w0 rest (put L o.dst (.slice (some ⟨g, 0, none⟩) ln' cp)) H') : TL P ops Q n w0 (o :: rest) L H :=
 fun a w hf hs => wpL_wants hg.nd (hg a hf) fun K hK => by
  subst hcs; subst hH; subst hl'
  have hl2 := hs.has ent2 (List.mem_of_getElem? hj)
  have hc2 := hl2.cell hv
  obtain ⟨w', hrun, hs'⟩ := run_storeCells (P := P) (i := i) (g := g) (ent := ent) (off := ln) [.int kd p] 0 H ent w he hs hi (by simp [Value.oneCell']) (by simp; omega)
  have hrun' : (execOp a.eval o).run P w = .ok (.value (.slice (some ⟨g, 0, none⟩) (ln + 1) cp)) w' := by
   simp only [execOp, ho, resolve, invoke, builtin, Sem.run_bind, Sem.run_pure, Result.andThen_ok, List.map_toArray, List.map_cons, List.map_nil, hf.eval hx, hf.eval hy]
   have hund : ∀ ww, (underlying t).run P ww = .ok (.slice e) ww := run_under h1
   have hlc : (loadCells ⟨g2, 0, none⟩ (1 * 1)).run P w = .ok #[.int kd p] w := by
    subst he2
    simp [loadCells, loadCellsFrom, Sem.run_bind, load, Sem.run, addr_add, hc2]
   have h5 : (Builtin.append_ #[t, t] o.type #[.slice (some ⟨g, 0, none⟩) ln cp, .slice (some ⟨g2, 0, none⟩) 1 c2]).run P w = .ok (.slice (some ⟨g, 0, none⟩) (ln + 1) cp) w' := by
    unfold Builtin.append_
    simp only [List.getElem?_toArray, List.getElem?_cons_zero, List.getElem?_cons_succ, Sem.run_bind, hund, Result.andThen_ok, Builtin.lenOf, Sem.run_pure, run_size hsz, Bool.false_eq_true, if_false, Bool.not_false, if_true, Builtin.firstCells]
    rw [if_pos (by omega)]
    simp only [Sem.run_bind, hlc, Result.andThen_ok, Nat.mul_one, addr_add, Nat.zero_add]
    have h7 : (storeCells ⟨g, ln, none⟩ [.int kd p] 0).run P w = .ok () w' := hrun
    simp only [h7, Result.andThen_ok, Sem.run_pure]
   rw [h5]; rfl
  unfold Oper.wp; rw [hrun']
  have h8 : ent.cs.take (ln + 0) ++ [.int kd p] ++ ent.cs.drop (ln + 0 + [int kd p].length) = ent.cs.set ln (.int kd p) := take_set_one hoff
  rw [h8] at hs'
  exact hK _ _ (hr _ _ (hf.put o.dst _ hi') hs')
def SrcN (w : World) (g : Nat) (A : Option Addr) (m : Nat) (kd : IntKind) (B : List Int) : Prop := B.length = m ∧ (m = 0 ∨ ∃ b off, A = some ⟨b, off, none⟩ ∧ b < w.heap.size ∧ b ≠ g ∧ RowI w b off m kd B)
theorem SrcN.src {w w' : World} {g m : Nat} {A : Option Addr} {B : List Int} (h : SrcN w g A m kd B) (hs : St w H w') (hH : ∀ b, b < w.heap.size → b ≠ g → ∀ e ∈ H, e.g ≠ b) : Src w' A m kd B := by
 obtain ⟨h1, h2⟩ := h
 refine ⟨h1, ?_⟩
 rcases h2 with h2 | ⟨b, off, hA, hb, hne, hr⟩
 ·exact .inl h2
 ·exact .inr ⟨b, off, hA, Nat.lt_of_lt_of_le hb hs.size, fun j hj => (hs.old_cell (ad := ⟨b, off + j, none⟩) hb (hH b hb hne)).trans (hr j hj)⟩
theorem SrcN.drop {w : World} {g m c l : Nat} {A : Option Addr} {B : List Int} (h : SrcN w g A m kd B) (hl : l ≤ m) (hc : m ≤ c) : SrcN w g (cutA A c l 1) (m - l) kd (B.drop l) := by
 obtain ⟨h1, h2⟩ := h
 refine ⟨by simp [h1], ?_⟩
 rcases h2 with h2 | ⟨b, off, hA, hb, hne, hr⟩
 ·exact .inl (by omega)
 ·by_cases hlm : l = m
  ·exact .inl (by omega)
  ·subst hA
   refine .inr ⟨b, off + l, by rw [cut_is (o' := off + l) (by omega) (by omega)], hb, hne, fun j hj => ?_⟩
   have := hr (l + j) (by omega)
   rw [← Nat.add_assoc] at this
   rw [this]
   simp [List.getD_eq_getElem?_getD, List.getElem?_drop]
theorem splice_mid {A T : List Value} {R X : List Int} {kd : IntKind} {a o c : Nat} (ha : A.length = a) (ho : o + c ≤ R.length) :
  (A ++ (R.map (int kd) ++ T)).take (a + o) ++ X.map (int kd) ++ (A ++ (R.map (int kd) ++ T)).drop (a + o + c) = A ++ ((R.take o ++ X ++ R.drop (o + c)).map (int kd) ++ T) := by
 subst ha
 rw [List.take_append, List.take_append, List.drop_append, List.drop_append]
 have e1 : A.take (A.length + o) = A := List.take_of_length_le (by omega)
 have e2 : A.length + o - A.length = o := by omega
 have e3 : o - (R.map (int kd)).length = 0 := by simp; omega
 have e4 : A.drop (A.length + o + c) = [] := List.drop_of_length_le (by omega)
 have e5 : A.length + o + c - A.length = o + c := by omega
 have e6 : o + c - (R.map (int kd)).length = 0 := by simp; omega
 rw [e1, e2, e3, e4, e5, e6]
 simp [List.map_take, List.map_drop]
theorem Row.old {b off : Nat} {vs : List Value} (h : ∀ (j : Nat) (u : Value), vs[j]? = some u → w0.cell? ⟨b, off + j, none⟩ = some u) (hb : b < w0.heap.size) (hne : ∀ e ∈ H, e.g ≠ b) : Row w0 H b off vs := fun w hs j u hu => by
 rw [hs.old_cell (ad := ⟨b, off + j, none⟩) hb hne]; exact h j u hu
theorem lies_row {w : World} {g t tot : Nat} {A tl : List Value} (h : Ent.lies ⟨g, t, A ++ tl, tot⟩ w) (j : Nat) (u : Value) (hu : A[j]? = some u) : w.cell? ⟨g, 0 + j, none⟩ = some u := by
 rw [Nat.zero_add]; exact h.cell (app_left hu)
end
/-
 Rules for slices that grow, for arrays that are compared, for guards.
-/
section
variable {P : Program} {ops : Array Oper} {Q : Exit → Act → World → Prop} {n : Sz} {w0 : World} {L L' : List (Nat × Value)} {H : List Ent}
variable {o : Oper} {rest : List Oper} {v u : Value} {x y z : Operand} {k m j : Nat} {t t' e : TypeId} {kd kd' : IntKind} {p q r : Int}
theorem Gets.isTrue {c : Prop} [Decidable c] (h : Gets P n w0 o L H (.bool (decide c))) (hc : c) : Gets P n w0 o L H (.bool true) := by rwa [decide_eq_true hc] at h
abbrev qi := @Gets.isTrue
theorem Gets.isFalse {c : Prop} [Decidable c] (h : Gets P n w0 o L H (.bool (decide c))) (hc : ¬ c) : Gets P n w0 o L H (.bool false) := by rwa [decide_eq_false hc] at h
abbrev qg := @Gets.isFalse
theorem Gets.pickT (ho : o.op = .pick x y z) (hx : ev L x = some (.bool true)) (hy : ev L y = some v) : Gets P n w0 o L H v := fun a w hf hs => by
 simp only [execOp, ho, hf.eval hx, hf.eval hy, asBool, Sem.run_bind, Sem.run_pure, Result.andThen_ok, if_true]
theorem Gets.pickF (ho : o.op = .pick x y z) (hx : ev L x = some (.bool false)) (hz : ev L z = some v) : Gets P n w0 o L H v := fun a w hf hs => by
 simp only [execOp, ho, hf.eval hx, hf.eval hz, asBool, Sem.run_bind, Sem.run_pure, Result.andThen_ok, Bool.false_eq_true, if_false]
theorem run_part1 {cs : Array Value} {i : Nat} (hag : (isAgg e).run P = fun w => .ok false w) (hi : cs[i]? = some v) (w : World) : (part e cs i).run P w = .ok v w := by
 simp [part, Sem.run_bind, hag, hi]
theorem run_noGuard {a b : Array Value} (h : P.eqGuardType P.depth t = false) (op : BinOp) (w : World) : (eqGuard op t x y (.agg a) (.agg b)).run P w = .ok () w := by
 cases op <;> first | rfl | simp [eqGuard, program, Sem.run_bind, Sem.run, h]
def Own (N : Nat) (t : TypeId) (kd : IntKind) (v : Value) (W : List Int) (He : List Ent) : Prop :=
 (v = .slice none 0 0 ∧ W = [] ∧ He = []) ∨ ∃ g cap, v = .slice (some ⟨g, 0, none⟩) W.length cap ∧ He = [⟨g, t, W.map (int kd), cap⟩] ∧ N ≤ g ∧ W.length ≤ cap ∧ cap ≤ maxLen
theorem Own.nil (N : Nat) (t : TypeId) (kd : IntKind) : Own N t kd (.slice none 0 0) [] [] := .inl ⟨rfl, rfl, rfl⟩
theorem St.right {H1 H2 : List Ent} {w : World} (h : St w0 (H1 ++ H2) w) : ∀ e ∈ H2, e.lies w := fun e he => h.has e (by simp [he])
theorem St.regrow {w w' : World} {g : Option Nat} {He He' : List Ent} (h : St w0 (H ++ He) w) (hg : w.grownBy w' g) (h1 : ∀ e ∈ He, some e.g = g) (hN : ∀ b, g = some b → w0.heap.size ≤ b) (hH : ∀ e ∈ H, some e.g ≠ g)
  (h2 : He' = [] ∨ ∃ e, He' = [e] ∧ e.lies w' ∧ w0.heap.size ≤ e.g ∧ (some e.g = g ∨ w.heap.size ≤ e.g)) : St w0 (H ++ He') w' := by
 have hkeep : ∀ e ∈ H, e.lies w' := fun e he => (h.has e (by simp [he])).of_block (hg.block _ (h.has e (by simp [he])).lt (hH e he))
 have hold : ∀ b, b < w0.heap.size → (∀ e ∈ H, e.g ≠ b) → w'.heap[b]? = w0.heap[b]? := by
  intro b hb hne
  have hgb : some b ≠ g := fun hc => by have := hN b hc.symm; omega
  refine (hg.block b (Nat.lt_of_lt_of_le hb h.size) hgb).trans (h.old b hb ?_)
  intro e he
  rcases List.mem_append.1 he with he | he
  ·exact hne e he
  ·intro hc; exact hgb (hc ▸ h1 e he)
 have hap := (List.pairwise_append.1 h.apart).1
 refine ⟨hg.os.trans h.os, hg.tape.trans h.tape, hg.output.trans h.output, Nat.le_trans h.size hg.size, ?_, ?_, ?_⟩
 ·intro e he
  rcases List.mem_append.1 he with he | he
  ·exact hkeep e he
  ·rcases h2 with rfl | ⟨d, rfl, hd, _⟩
   ·cases he
   ·rw [List.mem_singleton.1 he]; exact hd
 ·exact fun b hb hne => hold b hb fun e he => hne e (by simp [he])
 ·rcases h2 with rfl | ⟨d, rfl, _, _, hd⟩
  ·simpa using hap
  ·rw [List.pairwise_append]
   refine ⟨hap, by simp, ?_⟩
   intro c hc d' hd'
   rw [List.mem_singleton.1 hd']
   intro heq
   rcases hd with hd | hd
   ·exact hH c hc (heq ▸ hd)
   ·have := (h.has c (by simp [hc])).lt; omega
theorem Own.row {w : World} {N : Nat} {W : List Int} {He : List Ent} (h : Own N t kd v W He) (hs : ∀ e ∈ He, e.lies w) : w.ownsRow N t 1 v W.length (W.map (int kd)) := by
 rcases h with ⟨rfl, rfl, rfl⟩ | ⟨g, cap, rfl, rfl, hN, hc, hm⟩
 ·exact ⟨by simp, .inl ⟨rfl, rfl⟩⟩
 ·obtain ⟨cur, h1, h2, h3⟩ := hs _ (List.mem_singleton.2 rfl)
  refine ⟨by simp, .inr ⟨g, cap, cur, rfl, hN, h1, hc, hm, by simpa using h2, ?_⟩⟩
  apply List.ext_getElem?
  intro i
  simp only [List.getElem?_take, Nat.mul_one]
  by_cases hi : i < W.length
  ·rw [if_pos hi]
   have := h3 i (.int kd (W.getD i 0)) (qS hi)
   rw [qS hi, Array.getElem?_toList]; exact this
  ·rw [if_neg hi, List.getElem?_eq_none (by simp; omega)]
theorem own_of_row {w : World} {N : Nat} {W : List Int} (h : w.ownsRow N t 1 v W.length (W.map (int kd))) : ∃ He, Own N t kd v W He ∧ (He = [] ∨ ∃ e, He = [e] ∧ e.lies w ∧ N ≤ e.g ∧ v.ownBlock = some e.g) := by
 rcases h.2 with ⟨rfl, h0⟩ | ⟨g, cap, cur, rfl, hN, h1, hc, hm, hsz, ht⟩
 ·exact ⟨[], .inl ⟨rfl, List.length_eq_zero_iff.1 h0, rfl⟩, .inl rfl⟩
 ·refine ⟨[⟨g, t, W.map (int kd), cap⟩], .inr ⟨g, cap, rfl, rfl, hN, hc, hm⟩, .inr ⟨_, rfl, ⟨cur, h1, by simpa using hsz, ?_⟩, hN, rfl⟩⟩
  intro i u hu
  have hi : i < W.length := by have := (List.getElem?_eq_some_iff.1 hu).1; simpa using this
  have h2 : (cur.toList.take (W.length * 1))[i]? = some u := by rw [ht]; exact hu
  simpa [List.getElem?_take, hi] using h2
theorem TL.appendOwn {A : Option Addr} {bytes sl sc : Nat} {W B : List Int} {He : List Ent} {zv : Value} (hg : Wants n ops L o) (hi' : inside n o.dst = true) (ho : o.op = .call { callee := .builtin .append, args := #[x, y], argTypes := #[t, t] })
  (h1 : P.underlying t = some (.slice e)) (hz : (P.info? e).map (fun i => (i.zero, i.size, i.bytes)) = some (some zv, 1, bytes)) (hzc : zv.cells = #[zv])
  (hx : ev L x = some v) (hy : ev L y = some (.slice A sl sc)) (hown : Own w0.heap.size e kd v W He) (hsrc : ∀ w, St w0 (H ++ He) w → Src w A sl kd B)
  (h63 : W.length + sl ≤ 9223372036854775807) (hbytes : (W.length + sl) * bytes ≤ 140737488355328)
  (hr : ∀ v' He', Own w0.heap.size e kd v' (W ++ B) He' → (v ≠ .slice none 0 0 → v' ≠ .slice none 0 0) → TL P ops Q n w0 rest (put L o.dst v') (H ++ He')) : TL P ops Q n w0 (o :: rest) L (H ++ He) :=
 fun a w hf hs => wpL_wants hg.nd (hg a hf) fun K hK => by
  obtain ⟨i, hi1, hi2⟩ := Option.map_eq_some_iff.1 hz
  simp only [Prod.mk.injEq] at hi2
  obtain ⟨hz1, hz2, hz3⟩ := hi2
  have hrow := hown.row (w := w) hs.right
  have hB := hsrc w hs
  have hlen : (W ++ B).length = W.length + sl := by simp [hB.1]
  have hmap : (W ++ B).map (int kd) = W.map (int kd) ++ B.map (int kd) := by simp
  have hrun : ∃ v' w', (Builtin.append_ #[t, t] o.type #[v, .slice A sl sc]).run P w = .ok v' w' ∧ w'.ownsRow w0.heap.size e 1 v' (W.length + sl) (W.map (int kd) ++ B.map (int kd)) ∧ w.grownBy w' v.ownBlock ∧
    (v'.ownBlock = v.ownBlock ∨ v'.ownBlock = some w.heap.size) ∧ (v ≠ .slice none 0 0 → v' ≠ .slice none 0 0) := by
   cases A with
   | none =>
    have hsl : sl = 0 := by
     rcases hB.2 with h | ⟨b, off, h, _⟩
     ·exact h
     ·cases h
    subst hsl
    have hBn : B = [] := List.length_eq_zero_iff.1 hB.1
    subst hBn
    refine ⟨v, w, ?_, by simpa using hrow, World.grownBy.refl w _, .inl rfl, id⟩
    rcases hown with ⟨rfl, rfl, rfl⟩ | ⟨g, cap, rfl, rfl, hN, hc, hm⟩
    ·simp [Builtin.append_, Sem.run_bind, run_under h1, sizeOf, run_info hi1, Builtin.lenOf, Builtin.firstCells]
    ·simp [Builtin.append_, Sem.run_bind, run_under h1, sizeOf, run_info hi1, Builtin.lenOf, Builtin.firstCells, hc, storeCells]
   | some ad =>
    have hcells : ∀ (j : Nat) (u : Value), (B.map (int kd))[j]? = some u → w.cell? (ad.add j) = some u := by
     intro j u hu
     rcases hB.2 with h | ⟨b, off, h, _, hr⟩
     ·have hBn : B = [] := List.length_eq_zero_iff.1 (by rw [hB.1, h])
      subst hBn; simp at hu
     ·cases h
      have hj : j < B.length := by have := (List.getElem?_eq_some_iff.1 hu).1; simpa using this
      rw [addr_add, hr j (by rw [← hB.1]; exact hj)]
      rw [qS hj] at hu; exact hu
    obtain ⟨v', w', h2, h3, h4, h6, h5⟩ := run_append_own_at (P := P) w w0.heap.size t o.type e i zv 1 bytes h1 hi1 hz1 hz2 hz3 (by rw [hzc]; rfl) (by omega) v W.length (W.map (int kd)) hrow ad sl sc (B.map (int kd)) (by simp [hB.1]) hcells
     (by intro u hu; exact qk u hu) (by unfold maxLen; omega) hbytes hs.size
    exact ⟨v', w', h2, h3, h4, h5, fun hv hv' => hv (h6.1 hv').1⟩
  obtain ⟨v', w', hrun, hrow', hgrown, hblk, hnn⟩ := hrun
  have hrun' : (execOp a.eval o).run P w = .ok (.value v') w' := by
   simp only [execOp, ho, resolve, invoke, builtin, Sem.run_bind, Sem.run_pure, Result.andThen_ok, List.map_toArray, List.map_cons, List.map_nil, hf.eval hx, hf.eval hy, hrun]
  unfold Oper.wp; rw [hrun']
  rw [← hmap, ← hlen] at hrow'
  obtain ⟨He', hown', hHe⟩ := own_of_row hrow'
  refine hK _ _ (hr v' He' hown' hnn _ _ (hf.put o.dst _ hi') (St.regrow hs hgrown ?_ ?_ ?_ ?_))
  ·rcases hown with ⟨rfl, rfl, rfl⟩ | ⟨g, cap, rfl, rfl, _⟩
   ·simp
   ·simp [Value.ownBlock]
  ·rcases hown with ⟨rfl, rfl, rfl⟩ | ⟨g, cap, rfl, rfl, hN, _⟩
   ·simp [Value.ownBlock]
   ·simp only [Value.ownBlock]; rintro b hb; cases hb; exact hN
  ·rcases hown with ⟨rfl, rfl, rfl⟩ | ⟨g, cap, rfl, rfl, hN, _⟩
   ·simp [Value.ownBlock]
   ·intro c hc heq
    simp only [Value.ownBlock, Option.some.injEq] at heq
    exact (List.pairwise_append.1 hs.apart).2.2 c hc _ (List.mem_singleton.2 rfl) heq
  ·rcases hHe with h | ⟨d, h, hd, hdN, hdv⟩
   ·exact .inl h
   ·refine .inr ⟨d, h, hd, hdN, ?_⟩
    rcases hblk with hb | hb
    ·left; rw [← hdv, hb]
    ·right; have := Option.some.inj (hb.symm.trans hdv); omega
abbrev zM := @TL.appendOwn
theorem TL.emptySlice {s : Nat} (hg : Wants n ops L o) (hi : inside n o.dst = true) (ho : o.op = .buildSlice t 0 #[]) (h1 : P.underlying t = some (.slice e)) (hsz : (P.info? e).map (·.size) = some s)
  (hr : ∀ g, w0.heap.size ≤ g → TL P ops Q n w0 rest (put L o.dst (.slice (some ⟨g, 0, none⟩) 0 0)) (⟨g, e, [], 0⟩ :: H)) : TL P ops Q n w0 (o :: rest) L H :=
 fun a w hf hs => wpL_wants hg.nd (hg a hf) fun K hK => by
  have hrun : (execOp a.eval o).run P w = .ok (.value (.slice (some ⟨w.heap.size, 0, none⟩) 0 0)) (w.alloc (.cells #[] e)) := by
   simp only [execOp, ho]
   refine run_value ?_
   have hr0 : Array.range 0 = #[] := rfl
   simp [Instr.buildSlice, Sem.run_bind, run_under h1, run_size hsz, Instr.fill, newRow, newObj, Sem.run, hr0]
  unfold Oper.wp; rw [hrun]
  exact hK _ _ (hr _ hs.size _ _ (hf.put o.dst _ hi) (hs.alloc e [] #[] rfl))
def bs (l : List Int) : ByteArray := ⟨(l.map fun x => UInt8.ofNat x.toNat).toArray⟩
theorem run_b2s {w : World} {A : Option Addr} {m c : Nat} {B : List Int} (h : Src w A m .u8 B) : (Conv.bytesToString (.slice A m c)).run P w = .ok (.string (bs B)) w := by
 cases A with
 | none =>
  have hm : m = 0 := by
   rcases h.2 with h | ⟨b, off, h, _⟩
   ·exact h
   ·cases h
  have hB : B = [] := List.length_eq_zero_iff.1 (by rw [h.1, hm])
  subst hB; rfl
 | some ad =>
  have hc := run_cells (P := P) (c := c) h (i := m) (Nat.le_refl _)
  simp only [Builtin.firstCells, Nat.mul_one] at hc
  rw [List.take_of_length_le (by rw [h.1]; exact Nat.le_refl _)] at hc
  rw [run_bytesToString w ad m c B hc]
  have key : ∀ (l : List Int) (acc : ByteArray), l.foldl (fun r n => r.push (UInt8.ofNat n.toNat)) acc = ⟨acc.data ++ (l.map fun x => UInt8.ofNat x.toNat).toArray⟩ := by
   intro l
   induction l with
   | nil => intro acc; simp
   | cons x l ih => intro acc; rw [List.foldl_cons, ih]; simp [ByteArray.push]
  rw [key]
  have he : ByteArray.empty.data = #[] := rfl
  rw [he]
  simp [bs]
theorem Gets.b2s {A : Option Addr} {m c : Nat} {B : List Int} (ho : o.op = .convert t t' x) (h1 : P.underlying t = some (.slice e)) (h2 : P.underlying t' = some .string) (h3 : P.underlying e = some (.int .u8)) (hx : ev L x = some (.slice A m c))
  (hsrc : ∀ w, St w0 H w → Src w A m .u8 B) : Gets P n w0 o L H (.string (bs B)) := fun a w hf hs => by
 simp only [execOp, ho, hf.eval hx]
 refine run_value ?_
 simp only [convert, Sem.run_bind, run_under h1, run_under h2, Result.andThen_ok]
 cases A <;> simp only [Sem.run_bind, run_under h3, Result.andThen_ok] <;> exact run_b2s (hsrc w hs)
theorem src_ent {w : World} {ge t tot m : Nat} {W : List Int} {kd : IntKind} (hl : Ent.lies ⟨ge, t, W.map (int kd), tot⟩ w) (hW : W.length = m) : Src w (some ⟨ge, 0, none⟩) m kd W :=
 ⟨hW, .inr ⟨ge, 0, rfl, hl.lt, fun j hj => by rw [Nat.zero_add]; exact hl.cell (qS (by omega))⟩⟩
theorem Gets.congr {u v : Value} (h : Gets P n w0 o L H u) (e : u = v) : Gets P n w0 o L H v := e ▸ h
theorem frozen_mark {w : World} {g k : Nat} {cur : Array Value} {t0 : TypeId} (h : w.heap[g]? = some (.cells cur t0 (0, 0))) : (w.freeze ⟨g, k, none⟩ 1).heap[g]? = some (.cells cur t0 (k, k + 1)) := by
 unfold World.freeze
 rw [if_neg (by omega)]
 simp [Array.getElem?_modify, h]
theorem ne_app {b : Nat} {He : List Ent} (h : ∀ e ∈ H, e.g ≠ b) (h2 : ∀ e ∈ He, e.g ≠ b) : ∀ e ∈ H ++ He, e.g ≠ b := by
 intro e he
 rcases List.mem_append.1 he with he | he
 ·exact h e he
 ·exact h2 e he
abbrev qY := @ne_app
theorem Own.some {N : Nat} {W : List Int} {He : List Ent} (h : Own N t kd v W He) (hv : v ≠ .slice none 0 0) : ∃ g cap, v = .slice (some ⟨g, 0, none⟩) W.length cap ∧ He = [⟨g, t, W.map (int kd), cap⟩] ∧ N ≤ g ∧ W.length ≤ cap ∧ cap ≤ maxLen := by
 rcases h with ⟨h, _⟩ | h
 ·exact absurd h hv
 ·exact h
theorem Own.ne {N b : Nat} {W : List Int} {He : List Ent} (h : Own N t kd v W He) (hb : b < N) : ∀ e ∈ He, e.g ≠ b := by
 rcases h with ⟨_, _, rfl⟩ | ⟨g, cap, _, rfl, hN, _⟩
 ·intro e he; cases he
 ·intro e he; rw [List.mem_singleton.1 he]; show g ≠ b; omega
theorem Own.src {N : Nat} {W : List Int} {He : List Ent} {w : World} (h : Own N t kd v W He) (hs : ∀ e ∈ He, e.lies w) : ∃ A c, v = .slice A W.length c ∧ W.length ≤ c ∧ c ≤ 9223372036854775807 ∧ Src w A W.length kd W := by
 rcases h with ⟨rfl, rfl, rfl⟩ | ⟨g, cap, rfl, rfl, hN, hc, hm⟩
 ·exact ⟨none, 0, rfl, Nat.le_refl _, by omega, rfl, .inl rfl⟩
 ·exact ⟨_, cap, rfl, hc, by unfold maxLen at hm; omega, src_ent (hs _ (List.mem_singleton.2 rfl)) rfl⟩
theorem Own.form {N : Nat} {W : List Int} {He : List Ent} (h : Own N t kd v W He) : ∃ A c, v = .slice A W.length c ∧ W.length ≤ c ∧ c ≤ 9223372036854775807 := by
 rcases h with ⟨rfl, rfl, rfl⟩ | ⟨g, cap, rfl, rfl, hN, hc, hm⟩
 ·exact ⟨none, 0, rfl, Nat.le_refl _, by omega⟩
 ·exact ⟨_, cap, rfl, hc, by unfold maxLen at hm; omega⟩
theorem St.left {He : List Ent} {w : World} (h : St w0 (H ++ He) w) (hN : ∀ e ∈ He, w0.heap.size ≤ e.g) : St w0 H w :=
 ⟨h.os, h.tape, h.output, h.size, fun e he => h.has e (by simp [he]), fun b hb hne => h.old b hb (by
  intro e he
  rcases List.mem_append.1 he with he | he
  ·exact hne e he
  ·have := hN e he; omega), (List.pairwise_append.1 h.apart).1⟩
theorem Own.new {N : Nat} {W : List Int} {He : List Ent} (h : Own N t kd v W He) : ∀ e ∈ He, N ≤ e.g := by
 rcases h with ⟨_, _, rfl⟩ | ⟨g, cap, _, rfl, hN, _⟩
 ·intro e he; cases he
 ·intro e he; rw [List.mem_singleton.1 he]; exact hN
end
/-
 A law's frame: arguments opened, tables that start-up lays.
-/
open Go Go.RowKit Go.ChangeShapes Go.WideShapes Go.ChangeAt Go.Joins Go.Deep
theorem own_knob : ownKnob Tryz.prog.godebug = none := by kernel_rfl
theorem laid_out : laidOutB Tryz.prog = true := by kernel_rfl
section
variable {H : Type} {enc : TypeId × Value → H} {P : Program} {W : World} {base fuel : Nat} {sp : Nat → Bool} {held : Bool} {t e : TypeId} {kd : IntKind}
theorem cells_of_table {n : Nat} {cs : List Value} {T : List Int} {p : List MemPlace} (ht : P.underlying t = some (.array n e)) (he : P.underlying e = some (.int kd)) (hc : P.cellsOf e = 1) (hn : P.cellsOf t = n)
  (hd : DataW.trod enc P W base sp held fuel t cs = some (.agg (T.map fun x => .lit (.int kd x)), p)) : cs = T.map (int kd) := by
 obtain ⟨xs, m, _, hx, hlen, hxn, hel⟩ := DataW.trod_array ht hd
 simp only [Prod.mk.injEq, DataW.agg.injEq] at hx
 have hTn : T.length = n := by
  have := congrArg List.length hx.1
  simp at this; omega
 apply List.ext_getElem (by simp; omega)
 intro i h1 h2
 have hi : i < n := by omega
 have h3 := hel i hi
 rw [hc, Nat.mul_one, List.getElem?_eq_getElem (by omega : i < xs.length)] at h3
 have h4 : (cs.drop i).take 1 = [cs[i]] := by
  rw [List.drop_eq_getElem_cons h1]; rfl
 rw [h4] at h3
 obtain ⟨k, e1, e2, _⟩ := DataW.trod_int he h3
 have h5 : (xs.map (·.1))[i]? = (T.map fun x => DataW.lit (.int kd x))[i]? := by rw [hx.1]
 have hxi : i < xs.length := by omega
 have hTi : i < T.length := by omega
 simp only [List.getElem?_map, List.getElem?_eq_getElem hxi, List.getElem?_eq_getElem hTi, Option.map_some, Option.some.injEq] at h5
 rw [e2] at h5
 simp only [DataW.lit.injEq, Lit.int.injEq, true_and] at h5
 simp only [List.cons.injEq, and_true] at e1
 rw [e1, List.getElem_map, h5]
theorem wf_u8b {n : Int} (h : (Lit.int .u8 n).wf = true) : 0 ≤ n ∧ n ≤ 255 := by
 simp [Lit.wf, IntKind.min, IntKind.max, IntKind.signed, IntKind.bits] at h
 exact h
theorem wf_i64b {n : Int} (h : (Lit.int .i64 n).wf = true) : -9223372036854775808 ≤ n ∧ n ≤ 9223372036854775807 := by
 simp [Lit.wf, IntKind.min, IntKind.max, IntKind.signed, IntKind.bits] at h
 exact h
theorem open_bytes {v : Value} {d : DataW H} {ps : List MemPlace} (ht : P.underlying t = some (.slice e)) (he : P.underlying e = some (.int .u8)) (hc : P.cellsOf e = 1) (hv : Value.okWide P W .any base t v)
  (h : DataW.Trod enc P W 0 (fun _ => true) true t v d ps) : ∃ (A : Option Addr) (m c : Nat) (B : List Int), v = .slice A m c ∧ m ≤ c ∧ c ≤ 9223372036854775807 ∧ Src W A m .u8 B ∧ ∀ x ∈ B, 0 ≤ x ∧ x ≤ 255 := by
 obtain ⟨a0, len0, cap0, rfl⟩ := okWide_slice ht hv
 obtain ⟨fuel, hf⟩ := h
 rcases open_ints ht he hc hf with ⟨hcs, _⟩ | ⟨a, len, cap, zs, hcs, _, hl, hm, hz, _, hcell, hwf⟩
 ·simp [Value.cells] at hcs
  obtain ⟨rfl, rfl, rfl⟩ := hcs
  exact ⟨none, 0, 0, [], rfl, Nat.le_refl _, by omega, ⟨rfl, .inl rfl⟩, by simp⟩
 ·simp [Value.cells] at hcs
  obtain ⟨rfl, rfl, rfl⟩ := hcs
  simp only [if_true] at hz
  refine ⟨some a, len0, cap0, zs.take len0, rfl, hl, hm, ⟨by simp; omega, ?_⟩, fun x hx => wf_u8b (hwf x (List.mem_of_mem_take hx))⟩
  by_cases h0 : len0 = 0
  ·exact .inl h0
  ·right
   obtain ⟨b, off, spot⟩ := a
   have hc0 := hcell 0 (by omega)
   have hspot : spot = none := by simpa [Addr.add] using World.cell?_spot hc0
   subst hspot
   refine ⟨b, off, rfl, World.block_lt_of_cell? W _ hc0, fun j hj => ?_⟩
   have := hcell j (by omega)
   rw [addr_add] at this
   rw [this]
   simp [List.getD_eq_getElem?_getD, List.getElem?_take, hj]
end
/-
 A region that draws its order: operations that touch no memory, that read, and that write, where of two that no order binds one touches no memory or both only read.
-/
section
variable {P : Program} {ops : Array Oper} {md : Region.Mode}
def Step (P : Program) (ops : Array Oper) (kind : Nat) (o : Oper) (v : Value) (a : Act) (S S' : World → Prop) : Prop :=
 match kind with
 | 0 => (∀ S0, Fixed P ops S0 o v a) ∧ S' = S
 | 1 => Fixed P ops S o v a ∧ S' = S
 | _ => Region.wanted o (yielded ops a.tmps) = true ∧ ∀ w, S w → ∃ w', ((execOp a.eval o).run P w = .ok (.value v) w' ∨ ((execOp a.eval o).run P w = .ok .skip w' ∧ v = undef)) ∧ S' w'
theorem Step.of_same {kind : Nat} {o : Oper} {v : Value} {a a' : Act} {S S' : World → Prop} (h : Step P ops kind o v a S S') (he : execOp a'.eval o = execOp a.eval o)
  (hw : Region.wanted o (yielded ops a'.tmps) = Region.wanted o (yielded ops a.tmps)) : Step P ops kind o v a' S S' := by
 unfold Step at *
 split at h
 ·exact ⟨fun S0 => (h.1 S0).of_same he hw, h.2⟩
 ·exact ⟨h.1.of_same he hw, h.2⟩
 ·rw [he, hw]; exact h
theorem Step.wpOp {kind i : Nat} {o : Oper} {v : Value} {a : Act} {S S' : World → Prop} (hi : ops[i]? = some o) (h : Step P ops kind o v a S S') {Q : Exit → Act → World → Prop}
  {K : Act → World → Prop} {w : World} (hS : S w) (hK : ∀ w', S' w' → K (a.put o.dst v) w') : wpOp P ops Q i K a w := by
 unfold Step at h
 split at h
 ·obtain ⟨h, rfl⟩ := h; exact (h S').wpOp hi hS hK
 ·obtain ⟨h, rfl⟩ := h; exact h.wpOp hi hS hK
 ·obtain ⟨hw, h⟩ := h
  obtain ⟨w', hr, hS'⟩ := h w hS
  unfold Go.wpOp
  simp only [hi, hw, if_true, Oper.wp]
  refine .inl ?_
  rcases hr with hr | ⟨hr, rfl⟩
  ·rw [hr]; exact hK _ hS'
  ·rw [hr]; exact hK _ hS'
def compat (i j : Nat) : Bool := Nat.beq i 0 || Nat.beq j 0 || (Nat.beq i 1 && Nat.beq j 1)
def MixSeq (P : Program) (ops : Array Oper) (K : Nat → Nat) (T : Act → World → Prop) : List Nat → Act → (World → Prop) → Prop
 | [], a, S => ∀ w, S w → T a w
 | i :: is, a, S => ∃ o v S', ops[i]? = some o ∧ Step P ops (K i) o v a S S' ∧ MixSeq P ops K T is (a.put o.dst v) S'
theorem MixSeq.first {K : Nat → Nat} {T : Act → World → Prop} (hsel : ∀ (j : Nat) (o : Oper) cs b, ops[j]? = some o → o.op ≠ .select cs b) {j : Nat} {oj : Oper} (hj : ops[j]? = some oj) (post : List Nat) :
  ∀ (pre : List Nat) (a : Act) (S : World → Prop), (∀ i oi, i ∈ pre → ops[i]? = some oi → oi.apart ops oj = true ∧ compat (K i) (K j) = true) → MixSeq P ops K T (pre ++ j :: post) a S →
   ∃ vj S', Step P ops (K j) oj vj a S S' ∧ MixSeq P ops K T (pre ++ post) (a.put oj.dst vj) S'
 | [], a, S, _, h => by
  obtain ⟨o, v, S', ho, hf, hs⟩ := h
  rw [hj] at ho; cases ho
  exact ⟨v, S', hf, hs⟩
 | i :: pre, a, S, hap, h => by
  obtain ⟨oi, vi, Si, hi, hf, hs⟩ := h
  obtain ⟨vj, Sj, hfj, hsj⟩ := MixSeq.first hsel hj post pre (a.put oi.dst vi) Si (fun k ok hk => hap k ok (List.mem_cons_of_mem _ hk)) hs
  obtain ⟨hap1, hcomp⟩ := hap i oi List.mem_cons_self hi
  obtain ⟨h1, h2, h3⟩ := Oper.apart_spec hap1
  have ej := execOp_put oj (fun cs b => hsel j oj cs b hj) a oi.dst vi h1
  have wj := wanted_put oj a oi.dst vi h1
  have ei := execOp_put oi (fun cs b => hsel i oi cs b hi) a oj.dst vj h3
  have wi := wanted_put oi a oj.dst vj h3
  have hcm := Act.put_comm a vi vj h2
  have stj := hfj.of_same ej.symm wj.symm
  have sti := hf.of_same ei wi
  unfold compat at hcomp
  simp only [Bool.or_eq_true, Bool.and_eq_true] at hcomp
  rcases hcomp with (hc | hc) | ⟨hc1, hc2⟩
  ·have hk := Nat.eq_of_beq_eq_true hc
   rw [hk] at hf sti
   obtain ⟨hfree, rfl⟩ := hf
   refine ⟨vj, Sj, stj, oi, vi, Sj, hi, ?_, by rw [← hcm]; exact hsj⟩
   rw [hk]
   exact ⟨sti.1, rfl⟩
  ·have hk := Nat.eq_of_beq_eq_true hc
   rw [hk] at stj hfj
   obtain ⟨hfree, rfl⟩ := stj
   refine ⟨vj, S, ?_, oi, vi, Sj, hi, sti, by rw [← hcm]; exact hsj⟩
   rw [hk]
   exact ⟨hfree, rfl⟩
  ·have hk1 := Nat.eq_of_beq_eq_true hc1
   have hk2 := Nat.eq_of_beq_eq_true hc2
   rw [hk1] at hf sti
   obtain ⟨hrd, rfl⟩ := hf
   rw [hk2] at stj
   obtain ⟨hrj, rfl⟩ := stj
   refine ⟨vj, Sj, ?_, oi, vi, Sj, hi, ?_, by rw [← hcm]; exact hsj⟩
   ·rw [hk2]; exact ⟨hrj, rfl⟩
   ·rw [hk1]; exact ⟨sti.1, rfl⟩
def mixOK (md : Region.Mode) (ops : Array Oper) (ks : List Nat) : Bool :=
 Region.noSelect ops &&
 (let ms := masks md ops
  (List.range ops.size).all fun j => match ops[j]? with
  | none => true
  | some oj =>
   oj.after.all (fun e => !Region.binds md e || decide (e.on < j)) &&
   (List.range j).all fun i => (ms.getD j 0).testBit i || (match ops[i]? with | some oi => oi.apart ops oj && compat (ks.getD i 2) (ks.getD j 2) | none => true))
theorem mixOK_spec {ks : List Nat} (h : mixOK md ops ks = true) : Region.noSelect ops = true ∧ ∀ j oj, ops[j]? = some oj →
  (∀ e ∈ oj.after, Region.binds md e = true → e.on < j) ∧ ∀ i oi, i < j → ops[i]? = some oi → Before md ops j i ∨ (oi.apart ops oj = true ∧ compat (ks.getD i 2) (ks.getD j 2) = true) := by
 unfold mixOK at h
 simp only [Bool.and_eq_true, List.all_eq_true, List.mem_range] at h
 obtain ⟨h2, h3⟩ := h
 refine ⟨h2, fun j oj hj => ?_⟩
 have hlt : j < ops.size := (Array.getElem?_eq_some_iff.1 hj).1
 have h4 := h3 j hlt
 simp only [hj, Bool.and_eq_true, Array.all_eq_true_iff_forall_mem, List.all_eq_true, List.mem_range, Bool.or_eq_true, Bool.not_eq_true', decide_eq_true_eq] at h4
 refine ⟨fun e he hb => (h4.1 e he).resolve_left (by simp [hb]), fun i oi hi hoi => ?_⟩
 have h5 := h4.2 i hi
 simp only [hoi, Bool.and_eq_true] at h5
 rcases h5 with h5 | h5
 ·exact .inl (masks_spec h5)
 ·exact .inr h5
theorem wpAny_of_mix {Q : Exit → Act → World → Prop} {ks : List Nat} (ho : mixOK md ops ks = true) :
  ∀ (n : Nat) (is : List Nat) (listed : Array Bool) (a : Act) (w : World) (S : World → Prop), is.length = n → is.Pairwise (· < ·) → (∀ i ∈ is, i < ops.size) → Lists ops.size md ops is listed → MixSeq P ops (ks.getD · 2) (Q .normal) is a S → S w →
   wpAny P md ops Q n listed a w := by
 obtain ⟨hns, hord⟩ := mixOK_spec ho
 have hsel := Region.noSelect_spec hns
 intro n
 induction n with
 | zero =>
  intro is listed a w S hlen _ _ hl hs hS
  obtain rfl : is = [] := List.length_eq_zero_iff.1 hlen
  refine wpAny_done ?_ (hs w hS) 0
  rw [List.eq_nil_iff_forall_not_mem]
  intro j hj
  obtain ⟨hjun, oj, hoj, _⟩ := mem_ready.1 hj
  have hjs : j < ops.size := (Array.getElem?_eq_some_iff.1 hoj).1
  have := (hl.2.1 j hjs).1 hjun
  simp at this
  omega
 | succ n ih =>
  intro is listed a w S hlen hsorted hlt hl hs hS
  have hnd : is.Nodup := hsorted.imp (fun h => Nat.ne_of_lt h)
  refine ⟨fun hnone => ?_, fun j hj => ?_⟩
  ·exfalso
   obtain ⟨i, is', rfl⟩ : ∃ i is', is = i :: is' := by
    cases is with
    | nil => simp at hlen
    | cons i is' => exact ⟨i, is', rfl⟩
   have him := hlt i List.mem_cons_self
   have hi : ops[i]? = some ops[i] := Array.getElem?_eq_getElem him
   have hmem : i ∈ Region.ready md ops listed := by
    rw [mem_ready]
    refine ⟨(hl.2.1 i him).2 (.inl List.mem_cons_self), _, hi, fun e he hb => ?_⟩
    have hlt' := (hord i _ hi).1 e he hb
    rw [getD_false_of (by rw [hl.1]; omega), hl.2.1 e.on (by omega)]
    rintro (h | h)
    ·rcases List.mem_cons.1 h with h | h
     ·omega
     ·have := (List.pairwise_cons.1 hsorted).1 _ h; omega
    ·omega
   rw [hnone] at hmem
   cases hmem
  ·obtain ⟨hjun, oj, hoj, hall⟩ := mem_ready.1 hj
   have hjs : j < ops.size := (Array.getElem?_eq_some_iff.1 hoj).1
   have hnw : ∀ i ∈ is, ¬ Before md ops j i := fun i hi hw => by
    have h1 := hw listed hl.2.2 (fun o ho' e he hb => by rw [hoj] at ho'; cases ho'; exact hall e he hb)
    have him := hlt i hi
    exact (getD_false_of (by rw [hl.1]; omega)).1 h1 ((hl.2.1 i him).2 (.inl hi))
   have hjin : j ∈ is := by
    rcases (hl.2.1 j hjs).1 hjun with h | h
    ·exact h
    ·omega
   obtain ⟨pre, post, rfl⟩ := List.append_of_mem hjin
   have hap : ∀ i oi, i ∈ pre → ops[i]? = some oi → oi.apart ops oj = true ∧ compat (ks.getD i 2) (ks.getD j 2) = true := fun i oi hi hoi => by
    have hij : i < j := (List.pairwise_append.1 hsorted).2.2 i hi j List.mem_cons_self
    rcases (hord j oj hoj).2 i oi hij hoi with hw | hap
    ·exact absurd hw (hnw i (by simp [hi]))
    ·exact hap
   obtain ⟨vj, S', hf, hs'⟩ := MixSeq.first (K := (ks.getD · 2)) hsel hoj post pre a S hap hs
   refine hf.wpOp hoj hS fun w' hS' => ?_
   refine ih (pre ++ post) _ _ w' S' (by simp at hlen ⊢; omega) ?_ (fun i hi => hlt i (by rcases List.mem_append.1 hi with h | h <;> simp [h])) (hl.next rfl hnd hjs (Nat.le_refl _) hj) hs' hS'
   exact hsorted.sublist (List.Sublist.append_left (List.sublist_cons_self _ _) _)
def MixM (P : Program) (ops : Array Oper) (T : Act → World → Prop) : List Nat → List Oper → Act → (World → Prop) → Prop
 | [], [], a, S => ∀ w, S w → T a w
 | k :: ks, o :: rest, a, S => ∃ v S', Step P ops k o v a S S' ∧ MixM P ops T ks rest (a.put o.dst v) S'
 | _, _, _, _ => False
theorem MixM.seq {T : Act → World → Prop} : ∀ (ks : List Nat) (l : List Oper) (k : Nat) (K : Nat → Nat) (a : Act) (S : World → Prop), (∀ j, l[j]? = ops[k + j]?) → (∀ j, j < ks.length → K (k + j) = ks.getD j 2) → MixM P ops T ks l a S →
  MixSeq P ops K T (List.range' k l.length) a S
 | [], [], _, _, _, _, _, _, h => h
 | [], _ :: _, _, _, _, _, _, _, h => h.elim
 | _ :: _, [], _, _, _, _, _, _, h => h.elim
 | x :: ks, o :: rest, k, K, a, S, hl, hk, ⟨v, S', hst, h⟩ =>
  ⟨o, v, S', by have := hl 0; simpa using this.symm, by have := hk 0 (by simp); simp at this; rw [this]; exact hst,
   MixM.seq ks rest (k + 1) K _ S' (fun j => by have := hl (j + 1); simpa [Nat.add_assoc, Nat.add_comm 1 j] using this) (fun j hj => by have := hk (j + 1) (by simpa using hj); simpa [Nat.add_assoc, Nat.add_comm 1 j] using this) h⟩
theorem wp_mix {md0 : Md} {Q : Exit → Act → World → Prop} {id : Nat} {l : List Oper} {a : Act} {w : World} {S : World → Prop} (hmix : P.follows .mixedOrders = true) (ks : List Nat) (hks : ks.length = l.length) (ho : mixOK .any l.toArray ks = true)
  (hS : S w.drew) (h : MixM P l.toArray (Q .normal) ks l a S) (hok : OkR md0 l.toArray Q) : wpn md0 P (Code.region id l.toArray true) Q a w := by
 refine wpnFrom_start hok hmix ?_
 intro listed hl
 have hsz : l.toArray.size = l.length := by simp
 have := wpAny_of_mix (P := P) (Q := Q) ho l.length (List.range' 0 l.length) listed a w.drew S (by simp) List.pairwise_lt_range' (fun i hi => by have := List.mem_range'_1.1 hi; simp; omega)
  ⟨hl.1, fun q hq => by rw [hl.2.1 q hq, List.mem_range'_1]; simp at hq ⊢; omega, hl.2.2⟩ (MixM.seq ks l 0 _ a S (fun j => by simp) (fun j hj => by simp) h) hS
 rw [hsz, Nat.sub_zero]
 exact this
end
section
variable {P : Program} {ops : Array Oper} {Q : Exit → Act → World → Prop} {n : Sz} {w0 : World} {L L' : List (Nat × Value)} {H : List Ent}
variable {o : Oper} {rest : List Oper} {v u : Value} {x y z : Operand} {k m j : Nat} {t t' e : TypeId} {ks : List Nat}
def TM (P : Program) (ops : Array Oper) (Q : Exit → Act → World → Prop) (n : Sz) (w0 : World) (ks : List Nat) (rest : List Oper) (L : List (Nat × Value)) (H : List Ent) : Prop :=
 ∀ a, Fr n L a → MixM P ops (Q .normal) ks rest a (St w0 H)
theorem TC.mix {id : Nat} {l : List Oper} (hmix : P.follows .mixedOrders = true) (ks : List Nat) (hks : ks.length = l.length) (ho : mixOK .any l.toArray ks = true) (h : TM P l.toArray Q n w0 ks l L H) (hok : OkR n.md l.toArray Q := by exact trivial) : TC P Q n w0 (.region id l.toArray true) L H :=
 fun a w hf hs => wp_mix hmix ks hks ho hs.drew (h a hf) hok
abbrev qs := @TC.mix
theorem TM.nil (h : TE Q .normal n w0 L H) : TM P ops Q n w0 [] [] L H := fun a hf w hs => h a w hf hs
theorem TM.free (hg : Wants n ops L o) (hi : inside n o.dst = true) (h : ∀ w0, Gets P n w0 o L [] v) (hr : TM P ops Q n w0 ks rest (put L o.dst v) H) : TM P ops Q n w0 (0 :: ks) (o :: rest) L H :=
 fun a hf => ⟨v, St w0 H, ⟨fun S0 => .inl ⟨hg a hf, fun w hS => by rw [h w a w hf (zE w)]; exact ⟨rfl, hS⟩⟩, rfl⟩, hr _ (hf.put o.dst v hi)⟩
abbrev qG := @TM.free
theorem TM.gets (hg : Wants n ops L o) (hi : inside n o.dst = true) (h : Gets P n w0 o L H v) (hr : TM P ops Q n w0 ks rest (put L o.dst v) H) : TM P ops Q n w0 (1 :: ks) (o :: rest) L H :=
 fun a hf => ⟨v, St w0 H, ⟨.inl ⟨hg a hf, fun w hS => by rw [h a w hf hS]; exact ⟨rfl, hS⟩⟩, rfl⟩, hr _ (hf.put o.dst v hi)⟩
abbrev qX := @TM.gets
theorem TM.pass {j d : Nat} {b c : Bool} (h : o.guard = some (j, c)) (hj : (ops[j]?).bind (·.dst) = some d) (hd : look L d = some (.bool b)) (hi : inside n o.dst = true) (hb : b = !c) (hr : TM P ops Q n w0 ks rest (put L o.dst undef) H) : TM P ops Q n w0 (0 :: ks) (o :: rest) L H :=
 fun a hf => ⟨undef, St w0 H, ⟨fun S0 => .inr ⟨by subst hb; simp [Region.wanted, h, guard_val hf hj hd], rfl⟩, rfl⟩, hr _ (hf.put o.dst undef hi)⟩
theorem TM.call0 {f : FuncId} {xs : List Operand} {ts : Array TypeId} {vs : List Value} (hg : Wants n ops L o) (hi : inside n o.dst = true) (h : Enters P f)
  (ho : o.op = .call { callee := .value (.func f), args := xs.toArray, argTypes := ts }) (hx : evs L xs = some vs)
  (hc : ∀ w, St w0 H w → Calls P f vs.toArray w fun e w' => e = .returned v ∧ St w [] w')
  (hr : TM P ops Q n w0 ks rest (put L o.dst v) H) : TM P ops Q n w0 (1 :: ks) (o :: rest) L H :=
 fun a hf => ⟨v, St w0 H, ⟨.inl ⟨hg a hf, fun w hS => by rw [run_enter h ho hf hx]; exact (hc w hS).mono fun e w' ⟨he, hw⟩ => ⟨he, hS.call' hw⟩⟩, rfl⟩, hr _ (hf.put o.dst v hi)⟩
theorem TM.store1 {i g off : Nat} {ent : Ent} (hg : Wants n ops L o) (hd : o.dst = none) (ho : o.op = .store t x y) (hsz : (P.info? t).map (·.size) = some 1)
  (hx : ev L x = some (.pointer (some ⟨g, off, none⟩))) (hy : ev L y = some v) (hv : v.oneCell' = true) (hi : H[i]? = some ent) (he : ent.g = g) (hoff : off < ent.cs.length)
  {cs' : List Value} (hcs : ent.cs.set off v = cs') {H' : List Ent} (hH : H.set i ⟨ent.g, ent.t, cs', ent.tot⟩ = H') (hr : TM P ops Q n w0 ks rest L H') : TM P ops Q n w0 (2 :: ks) (o :: rest) L H :=
 fun a hf => ⟨undef, St w0 H', ⟨hg a hf, fun w hs => by
  subst he; subst hcs; subst hH
  refine ⟨w.setCell ⟨ent.g, off, none⟩ v, .inr ⟨?_, rfl⟩, hs.set hi off v⟩
  simp only [execOp, ho, hf.eval hx, hf.eval hy]
  refine run_unit ?_
  have hl := hs.has ent (List.mem_of_getElem? hi)
  have hc := hl.cell (o := off) (List.getElem?_eq_getElem hoff)
  have hfz := hl.free off
  simp only [Instr.storeAt, Instr.sureAddr, storeVar, Sem.run_bind, Sem.run_pure, Result.andThen_ok, run_size hsz, oneCell_cells hv]
  simp only [List.size_toArray, List.length_cons, List.length_nil, Nat.zero_add, ne_eq, not_true_eq_false, if_false, storeCells, Sem.run_bind, Addr.add, if_true, store]
  cases v <;> first | (simp [Value.oneCell'] at hv; done) | simp [Sem.run, hc, hfz]⟩, by rw [hd]; exact hr _ hf⟩
end
/-
 A region that draws its order, with operations that make memory: what is not bound to come behind such a one must be free of memory.
-/
section
variable {P : Program} {ops : Array Oper} {md : Region.Mode}
def Many (P : Program) (ops : Array Oper) (o : Oper) (a : Act) (S : World → Prop) (R : Value → (World → Prop) → Prop) : Prop :=
 ∀ w, S w → ((∃ v w' S', (execOp a.eval o).run P w = .ok (.value v) w' ∧ R v S' ∧ S' w') ∨
  (∃ f vs w', (execOp a.eval o).run P w = .ok (.enter f vs) w' ∧ Calls P f vs w' fun e w'' => ∃ v S', e = .returned v ∧ R v S' ∧ S' w'')) ∧ Region.wanted o (yielded ops a.tmps) = true
theorem Many.of_same {o : Oper} {a a' : Act} {S : World → Prop} {R : Value → (World → Prop) → Prop} (h : Many P ops o a S R) (he : execOp a'.eval o = execOp a.eval o)
  (hw : Region.wanted o (yielded ops a'.tmps) = Region.wanted o (yielded ops a.tmps)) : Many P ops o a' S R := by
 unfold Many at *; rw [he, hw]; exact h
def compat3 (i j : Nat) : Bool := Nat.beq i 0 || (Nat.beq j 0 && !Nat.beq i 3) || (Nat.beq i 1 && Nat.beq j 1)
def MixSeq3 (P : Program) (ops : Array Oper) (K : Nat → Nat) (T : Act → World → Prop) : List Nat → Act → (World → Prop) → Prop
 | [], a, S => ∀ w, S w → T a w
 | i :: is, a, S => ∃ o, ops[i]? = some o ∧ ((K i ≠ 3 ∧ ∃ v S', Step P ops (K i) o v a S S' ∧ MixSeq3 P ops K T is (a.put o.dst v) S') ∨
   (K i = 3 ∧ ∃ R, Many P ops o a S R ∧ ∀ v S', R v S' → MixSeq3 P ops K T is (a.put o.dst v) S'))
theorem MixSeq3.first {K : Nat → Nat} {T : Act → World → Prop} (hsel : ∀ (j : Nat) (o : Oper) cs b, ops[j]? = some o → o.op ≠ .select cs b) {j : Nat} {oj : Oper} (hj : ops[j]? = some oj) (hj3 : K j ≠ 3) (post : List Nat) :
  ∀ (pre : List Nat) (a : Act) (S : World → Prop), (∀ i oi, i ∈ pre → ops[i]? = some oi → oi.apart ops oj = true ∧ compat3 (K i) (K j) = true) → MixSeq3 P ops K T (pre ++ j :: post) a S →
   ∃ vj S', Step P ops (K j) oj vj a S S' ∧ MixSeq3 P ops K T (pre ++ post) (a.put oj.dst vj) S'
 | [], a, S, _, h => by
  obtain ⟨o, ho, h⟩ := h
  rw [hj] at ho; cases ho
  obtain ⟨_, v, S', hf, hs⟩ := h.resolve_right (fun h => hj3 h.1)
  exact ⟨v, S', hf, hs⟩
 | i :: pre, a, S, hap, h => by
  obtain ⟨oi, hi, h⟩ := h
  obtain ⟨hap1, hcomp⟩ := hap i oi List.mem_cons_self hi
  have hi3 : K i ≠ 3 := by
   intro hc
   unfold compat3 at hcomp
   rw [hc] at hcomp
   simp at hcomp
  obtain ⟨_, vi, Si, hf, hs⟩ := h.resolve_right (fun h => hi3 h.1)
  obtain ⟨vj, Sj, hfj, hsj⟩ := MixSeq3.first hsel hj hj3 post pre (a.put oi.dst vi) Si (fun k ok hk => hap k ok (List.mem_cons_of_mem _ hk)) hs
  obtain ⟨h1, h2, h3⟩ := Oper.apart_spec hap1
  have ej := execOp_put oj (fun cs b => hsel j oj cs b hj) a oi.dst vi h1
  have wj := wanted_put oj a oi.dst vi h1
  have ei := execOp_put oi (fun cs b => hsel i oi cs b hi) a oj.dst vj h3
  have wi := wanted_put oi a oj.dst vj h3
  have hcm := Act.put_comm a vi vj h2
  have stj := hfj.of_same ej.symm wj.symm
  have sti := hf.of_same ei wi
  unfold compat3 at hcomp
  simp only [Bool.or_eq_true, Bool.and_eq_true] at hcomp
  rcases hcomp with (hc | hc) | ⟨hc1, hc2⟩
  ·have hk := Nat.eq_of_beq_eq_true hc
   rw [hk] at hf sti
   obtain ⟨hfree, rfl⟩ := hf
   refine ⟨vj, Sj, stj, oi, hi, .inl ⟨hi3, vi, Sj, ?_, by rw [← hcm]; exact hsj⟩⟩
   rw [hk]
   exact ⟨sti.1, rfl⟩
  ·have hk := Nat.eq_of_beq_eq_true hc.1
   rw [hk] at stj hfj
   obtain ⟨hfree, rfl⟩ := stj
   refine ⟨vj, S, ?_, oi, hi, .inl ⟨hi3, vi, Sj, sti, by rw [← hcm]; exact hsj⟩⟩
   rw [hk]
   exact ⟨hfree, rfl⟩
  ·have hk1 := Nat.eq_of_beq_eq_true hc1
   have hk2 := Nat.eq_of_beq_eq_true hc2
   rw [hk1] at hf sti
   obtain ⟨hrd, rfl⟩ := hf
   rw [hk2] at stj
   obtain ⟨hrj, rfl⟩ := stj
   refine ⟨vj, Sj, ?_, oi, hi, .inl ⟨hi3, vi, Sj, ?_, by rw [← hcm]; exact hsj⟩⟩
   ·rw [hk2]; exact ⟨hrj, rfl⟩
   ·rw [hk1]; exact ⟨sti.1, rfl⟩
theorem MixSeq3.first3 {K : Nat → Nat} {T : Act → World → Prop} (hsel : ∀ (j : Nat) (o : Oper) cs b, ops[j]? = some o → o.op ≠ .select cs b) {j : Nat} {oj : Oper} (hj : ops[j]? = some oj) (hj3 : K j = 3) (post : List Nat) :
  ∀ (pre : List Nat) (a : Act) (S : World → Prop), (∀ i oi, i ∈ pre → ops[i]? = some oi → oi.apart ops oj = true ∧ compat3 (K i) (K j) = true) → MixSeq3 P ops K T (pre ++ j :: post) a S →
   ∃ R, Many P ops oj a S R ∧ ∀ v S', R v S' → MixSeq3 P ops K T (pre ++ post) (a.put oj.dst v) S'
 | [], a, S, _, h => by
  obtain ⟨o, ho, h⟩ := h
  rw [hj] at ho; cases ho
  exact (h.resolve_left (fun h => h.1 hj3)).2
 | i :: pre, a, S, hap, h => by
  obtain ⟨oi, hi, h⟩ := h
  obtain ⟨hap1, hcomp⟩ := hap i oi List.mem_cons_self hi
  have hk : K i = 0 := by
   unfold compat3 at hcomp
   rw [hj3] at hcomp
   simp at hcomp
   exact hcomp
  obtain ⟨hi3, vi, Si, hf, hs⟩ := h.resolve_right (fun h => by rw [hk] at h; cases h.1)
  obtain ⟨R, hfj, hsj⟩ := MixSeq3.first3 hsel hj hj3 post pre (a.put oi.dst vi) Si (fun k ok hk => hap k ok (List.mem_cons_of_mem _ hk)) hs
  obtain ⟨h1, h2, h3⟩ := Oper.apart_spec hap1
  have ej := execOp_put oj (fun cs b => hsel j oj cs b hj) a oi.dst vi h1
  have wj := wanted_put oj a oi.dst vi h1
  have stj := hfj.of_same ej.symm wj.symm
  rw [hk] at hf
  obtain ⟨hfree, rfl⟩ := hf
  refine ⟨R, stj, fun v S' hR => ⟨oi, hi, .inl ⟨hi3, vi, S', ?_, ?_⟩⟩⟩
  ·have ei := execOp_put oi (fun cs b => hsel i oi cs b hi) a oj.dst v h3
   have wi := wanted_put oi a oj.dst v h3
   rw [hk]
   exact ⟨fun S0 => (hfree S0).of_same ei wi, rfl⟩
  ·rw [← Act.put_comm a vi v h2]; exact hsj v S' hR
def mixOK3 (md : Region.Mode) (ops : Array Oper) (ks : List Nat) : Bool :=
 Region.noSelect ops &&
 (let ms := masks md ops
  (List.range ops.size).all fun j => match ops[j]? with
  | none => true
  | some oj =>
   oj.after.all (fun e => !Region.binds md e || decide (e.on < j)) &&
   (List.range j).all fun i => (ms.getD j 0).testBit i || (match ops[i]? with | some oi => oi.apart ops oj && compat3 (ks.getD i 2) (ks.getD j 2) | none => true))
theorem mixOK3_spec {ks : List Nat} (h : mixOK3 md ops ks = true) : Region.noSelect ops = true ∧ ∀ j oj, ops[j]? = some oj →
  (∀ e ∈ oj.after, Region.binds md e = true → e.on < j) ∧ ∀ i oi, i < j → ops[i]? = some oi → Before md ops j i ∨ (oi.apart ops oj = true ∧ compat3 (ks.getD i 2) (ks.getD j 2) = true) := by
 unfold mixOK3 at h
 simp only [Bool.and_eq_true, List.all_eq_true, List.mem_range] at h
 obtain ⟨h2, h3⟩ := h
 refine ⟨h2, fun j oj hj => ?_⟩
 have hlt : j < ops.size := (Array.getElem?_eq_some_iff.1 hj).1
 have h4 := h3 j hlt
 simp only [hj, Bool.and_eq_true, Array.all_eq_true_iff_forall_mem, List.all_eq_true, List.mem_range, Bool.or_eq_true, Bool.not_eq_true', decide_eq_true_eq] at h4
 refine ⟨fun e he hb => (h4.1 e he).resolve_left (by simp [hb]), fun i oi hi hoi => ?_⟩
 have h5 := h4.2 i hi
 simp only [hoi, Bool.and_eq_true] at h5
 rcases h5 with h5 | h5
 ·exact .inl (masks_spec h5)
 ·exact .inr h5
theorem wpAny_of_mix3 {Q : Exit → Act → World → Prop} {ks : List Nat} (ho : mixOK3 md ops ks = true) :
  ∀ (n : Nat) (is : List Nat) (listed : Array Bool) (a : Act) (w : World) (S : World → Prop), is.length = n → is.Pairwise (· < ·) → (∀ i ∈ is, i < ops.size) → Lists ops.size md ops is listed → MixSeq3 P ops (ks.getD · 2) (Q .normal) is a S → S w →
   wpAny P md ops Q n listed a w := by
 obtain ⟨hns, hord⟩ := mixOK3_spec ho
 have hsel := Region.noSelect_spec hns
 intro n
 induction n with
 | zero =>
  intro is listed a w S hlen _ _ hl hs hS
  obtain rfl : is = [] := List.length_eq_zero_iff.1 hlen
  refine wpAny_done ?_ (hs w hS) 0
  rw [List.eq_nil_iff_forall_not_mem]
  intro j hj
  obtain ⟨hjun, oj, hoj, _⟩ := mem_ready.1 hj
  have hjs : j < ops.size := (Array.getElem?_eq_some_iff.1 hoj).1
  have := (hl.2.1 j hjs).1 hjun
  simp at this
  omega
 | succ n ih =>
  intro is listed a w S hlen hsorted hlt hl hs hS
  have hnd : is.Nodup := hsorted.imp (fun h => Nat.ne_of_lt h)
  refine ⟨fun hnone => ?_, fun j hj => ?_⟩
  ·exfalso
   obtain ⟨i, is', rfl⟩ : ∃ i is', is = i :: is' := by
    cases is with
    | nil => simp at hlen
    | cons i is' => exact ⟨i, is', rfl⟩
   have him := hlt i List.mem_cons_self
   have hi : ops[i]? = some ops[i] := Array.getElem?_eq_getElem him
   have hmem : i ∈ Region.ready md ops listed := by
    rw [mem_ready]
    refine ⟨(hl.2.1 i him).2 (.inl List.mem_cons_self), _, hi, fun e he hb => ?_⟩
    have hlt' := (hord i _ hi).1 e he hb
    rw [getD_false_of (by rw [hl.1]; omega), hl.2.1 e.on (by omega)]
    rintro (h | h)
    ·rcases List.mem_cons.1 h with h | h
     ·omega
     ·have := (List.pairwise_cons.1 hsorted).1 _ h; omega
    ·omega
   rw [hnone] at hmem
   cases hmem
  ·obtain ⟨hjun, oj, hoj, hall⟩ := mem_ready.1 hj
   have hjs : j < ops.size := (Array.getElem?_eq_some_iff.1 hoj).1
   have hnw : ∀ i ∈ is, ¬ Before md ops j i := fun i hi hw => by
    have h1 := hw listed hl.2.2 (fun o ho' e he hb => by rw [hoj] at ho'; cases ho'; exact hall e he hb)
    have him := hlt i hi
    exact (getD_false_of (by rw [hl.1]; omega)).1 h1 ((hl.2.1 i him).2 (.inl hi))
   have hjin : j ∈ is := by
    rcases (hl.2.1 j hjs).1 hjun with h | h
    ·exact h
    ·omega
   obtain ⟨pre, post, rfl⟩ := List.append_of_mem hjin
   have hap : ∀ i oi, i ∈ pre → ops[i]? = some oi → oi.apart ops oj = true ∧ compat3 (ks.getD i 2) (ks.getD j 2) = true := fun i oi hi hoi => by
    have hij : i < j := (List.pairwise_append.1 hsorted).2.2 i hi j List.mem_cons_self
    rcases (hord j oj hoj).2 i oi hij hoi with hw | hap
    ·exact absurd hw (hnw i (by simp [hi]))
    ·exact hap
   by_cases hk3 : ks.getD j 2 = 3
   ·obtain ⟨R, hf, hs'⟩ := MixSeq3.first3 (K := (ks.getD · 2)) hsel hoj hk3 post pre a S hap hs
    obtain ⟨hr, hw⟩ := hf w hS
    unfold Go.wpOp
    simp only [hoj, hw, if_true, Oper.wp]
    refine .inl ?_
    have go : ∀ v S' w', R v S' → S' w' → wpAny P md ops Q n (listed.setIfInBounds j true) (a.put oj.dst v) w' := fun v S' w' hR hS' =>
     ih (pre ++ post) _ _ w' S' (by simp at hlen ⊢; omega) (hsorted.sublist (List.Sublist.append_left (List.sublist_cons_self _ _) _)) (fun i hi => hlt i (by rcases List.mem_append.1 hi with h | h <;> simp [h])) (hl.next rfl hnd hjs (Nat.le_refl _) hj) (hs' v S' hR) hS'
    rcases hr with ⟨v, w', S', hr, hR, hS'⟩ | ⟨f, vs, w', hr, hc⟩
    ·rw [hr]; exact go v S' w' hR hS'
    ·rw [hr]
     refine hc.mono ?_
     rintro e w'' ⟨v, S', rfl, hR, hS'⟩
     exact go v S' w'' hR hS'
   ·obtain ⟨vj, S', hf, hs'⟩ := MixSeq3.first (K := (ks.getD · 2)) hsel hoj hk3 post pre a S hap hs
    refine hf.wpOp hoj hS fun w' hS' => ?_
    refine ih (pre ++ post) _ _ w' S' (by simp at hlen ⊢; omega) ?_ (fun i hi => hlt i (by rcases List.mem_append.1 hi with h | h <;> simp [h])) (hl.next rfl hnd hjs (Nat.le_refl _) hj) hs' hS'
    exact hsorted.sublist (List.Sublist.append_left (List.sublist_cons_self _ _) _)
def MixM3 (P : Program) (ops : Array Oper) (T : Act → World → Prop) : List Nat → List Oper → Act → (World → Prop) → Prop
 | [], [], a, S => ∀ w, S w → T a w
 | k :: ks, o :: rest, a, S => (k ≠ 3 ∧ ∃ v S', Step P ops k o v a S S' ∧ MixM3 P ops T ks rest (a.put o.dst v) S') ∨ (k = 3 ∧ ∃ R, Many P ops o a S R ∧ ∀ v S', R v S' → MixM3 P ops T ks rest (a.put o.dst v) S')
 | _, _, _, _ => False
theorem MixM3.seq {T : Act → World → Prop} : ∀ (ks : List Nat) (l : List Oper) (k : Nat) (K : Nat → Nat) (a : Act) (S : World → Prop), (∀ j, l[j]? = ops[k + j]?) → (∀ j, j < ks.length → K (k + j) = ks.getD j 2) → MixM3 P ops T ks l a S →
  MixSeq3 P ops K T (List.range' k l.length) a S
 | [], [], _, _, _, _, _, _, h => h
 | [], _ :: _, _, _, _, _, _, _, h => h.elim
 | _ :: _, [], _, _, _, _, _, _, h => h.elim
 | x :: ks, o :: rest, k, K, a, S, hl, hk, h => by
  have hK : K k = x := by have := hk 0 (by simp); simpa using this
  have ho : ops[k]? = some o := by have := hl 0; simpa using this.symm
  have rec_ : ∀ a S, MixM3 P ops T ks rest a S → MixSeq3 P ops K T (List.range' (k + 1) rest.length) a S := fun a S h => MixM3.seq ks rest (k + 1) K a S (fun j => by have := hl (j + 1); simpa [Nat.add_assoc, Nat.add_comm 1 j] using this) (fun j hj => by have := hk (j + 1) (by simpa using hj); simpa [Nat.add_assoc, Nat.add_comm 1 j] using this) h
  refine ⟨o, ho, ?_⟩
  rw [hK]
  rcases h with ⟨h1, v, S', h2, h3⟩ | ⟨h1, R, h2, h3⟩
  ·exact .inl ⟨h1, v, S', h2, rec_ _ _ h3⟩
  ·exact .inr ⟨h1, R, h2, fun v S' hR => rec_ _ _ (h3 v S' hR)⟩
theorem wp_mix3 {md0 : Md} {Q : Exit → Act → World → Prop} {id : Nat} {l : List Oper} {a : Act} {w : World} {S : World → Prop} (hmix : P.follows .mixedOrders = true) (ks : List Nat) (hks : ks.length = l.length) (ho : mixOK3 .any l.toArray ks = true)
  (hS : S w.drew) (h : MixM3 P l.toArray (Q .normal) ks l a S) (hok : OkR md0 l.toArray Q) : wpn md0 P (Code.region id l.toArray true) Q a w := by
 refine wpnFrom_start hok hmix ?_
 intro listed hl
 have hsz : l.toArray.size = l.length := by simp
 have := wpAny_of_mix3 (P := P) (Q := Q) ho l.length (List.range' 0 l.length) listed a w.drew S (by simp) List.pairwise_lt_range' (fun i hi => by have := List.mem_range'_1.1 hi; simp; omega)
  ⟨hl.1, fun q hq => by rw [hl.2.1 q hq, List.mem_range'_1]; simp at hq ⊢; omega, hl.2.2⟩ (MixM3.seq ks l 0 _ a S (fun j => by simp) (fun j hj => by simp) h) hS
 rw [hsz, Nat.sub_zero]
 exact this
end
section
variable {P : Program} {ops : Array Oper} {Q : Exit → Act → World → Prop} {n : Sz} {w0 : World} {L L' : List (Nat × Value)} {H : List Ent}
variable {o : Oper} {rest : List Oper} {v u : Value} {x y z : Operand} {k m j : Nat} {t t' e : TypeId} {ks : List Nat} {kd : IntKind}
def TN (P : Program) (ops : Array Oper) (Q : Exit → Act → World → Prop) (n : Sz) (w0 : World) (ks : List Nat) (rest : List Oper) (L : List (Nat × Value)) (H : List Ent) : Prop :=
 ∀ a, Fr n L a → MixM3 P ops (Q .normal) ks rest a (St w0 H)
theorem TC.mix3 {id : Nat} {l : List Oper} (hmix : P.follows .mixedOrders = true) (ks : List Nat) (hks : ks.length = l.length) (ho : mixOK3 .any l.toArray ks = true) (h : TN P l.toArray Q n w0 ks l L H) (hok : OkR n.md l.toArray Q := by exact trivial) : TC P Q n w0 (.region id l.toArray true) L H :=
 fun a w hf hs => wp_mix3 hmix ks hks ho hs.drew (h a hf) hok
theorem TN.nil (h : TE Q .normal n w0 L H) : TN P ops Q n w0 [] [] L H := fun a hf w hs => h a w hf hs
theorem TN.free (hg : Wants n ops L o) (hi : inside n o.dst = true) (h : ∀ w0, Gets P n w0 o L [] v) (hr : TN P ops Q n w0 ks rest (put L o.dst v) H) : TN P ops Q n w0 (0 :: ks) (o :: rest) L H :=
 fun a hf => .inl ⟨by decide, v, St w0 H, ⟨fun S0 => .inl ⟨hg a hf, fun w hS => by rw [h w a w hf (zE w)]; exact ⟨rfl, hS⟩⟩, rfl⟩, hr _ (hf.put o.dst v hi)⟩
abbrev qT := @TN.free
theorem TN.gets (hg : Wants n ops L o) (hi : inside n o.dst = true) (h : Gets P n w0 o L H v) (hr : TN P ops Q n w0 ks rest (put L o.dst v) H) : TN P ops Q n w0 (1 :: ks) (o :: rest) L H :=
 fun a hf => .inl ⟨by decide, v, St w0 H, ⟨.inl ⟨hg a hf, fun w hS => by rw [h a w hf hS]; exact ⟨rfl, hS⟩⟩, rfl⟩, hr _ (hf.put o.dst v hi)⟩
theorem TN.buildSlice {len s : Nat} {ps : List (Nat × Operand)} {vs : List (Nat × Value)} {cells : Array Value} {cs : List Value} {zv : Value} (hg : Wants n ops L o) (hi : inside n o.dst = true) (ho : o.op = .buildSlice t len ps.toArray)
  (h1 : P.underlying t = some (.slice e)) (hsz : (P.info? e).map (·.size) = some s) (hz : (P.info? e).bind (·.zero) = some zv) (hv : operVals L ps = some vs) (hlen : len * s ≤ 2 ^ 24) (hpos : (len * s = 0) = False)
  {tot : Nat} (hfill : Instr.fill (fun i => some (i * s, s)) ((Array.range (len * s)).map (zv.cells[· % zv.cells.size]!)) vs = some cells) (hcs : cells.toList = cs) (htot : cs.length = tot)
  (hr : ∀ g, w0.heap.size ≤ g → TN P ops Q n w0 ks rest (put L o.dst (.slice (some ⟨g, 0, none⟩) len len)) (⟨g, e, cs, tot⟩ :: H)) : TN P ops Q n w0 (3 :: ks) (o :: rest) L H :=
 fun a hf => .inr ⟨rfl, fun v S' => ∃ g, w0.heap.size ≤ g ∧ v = .slice (some ⟨g, 0, none⟩) len len ∧ S' = St w0 (⟨g, e, cs, tot⟩ :: H), fun w hs => by
  have hrun : (execOp a.eval o).run P w = .ok (.value (.slice (some ⟨w.heap.size, 0, none⟩) len len)) (w.alloc (.cells cells e)) := by
   have hm := operVals_eval hf hv
   have hm2 : (ps.map fun (x : Nat × Operand) => match x with | (i, x) => (i, a.eval x)) = vs := hm
   simp only [execOp, ho]
   refine run_value ?_
   simp only [Instr.buildSlice, Sem.run_bind, run_under h1, Result.andThen_ok, run_size hsz, List.map_toArray, hm2]
   rw [if_neg (by omega), if_neg (by simp [hpos])]
   simp only [Sem.run_bind, run_zero hz, Result.andThen_ok, Sem.run_pure, hfill]
   simp [newRow, newObj, Sem.run_bind, Sem.run]
  subst htot
  exact ⟨.inl ⟨_, _, _, hrun, ⟨_, hs.size, rfl, rfl⟩, hs.alloc e cs cells hcs⟩, hg a hf⟩, fun v S' ⟨g, h1, h2, h3⟩ => by subst h2; subst h3; exact hr g h1 _ (hf.put o.dst _ hi)⟩
theorem TN.appendOwn {A : Option Addr} {bytes sl sc : Nat} {W B : List Int} {He : List Ent} {zv : Value} (hg : Wants n ops L o) (hi' : inside n o.dst = true) (ho : o.op = .call { callee := .builtin .append, args := #[x, y], argTypes := #[t, t] })
  (h1 : P.underlying t = some (.slice e)) (hz : (P.info? e).map (fun i => (i.zero, i.size, i.bytes)) = some (some zv, 1, bytes)) (hzc : zv.cells = #[zv])
  (hx : ev L x = some v) (hy : ev L y = some (.slice A sl sc)) (hown : Own w0.heap.size e kd v W He) (hsrc : ∀ w, St w0 (H ++ He) w → Src w A sl kd B)
  (h63 : W.length + sl ≤ 9223372036854775807) (hbytes : (W.length + sl) * bytes ≤ 140737488355328)
  (hr : ∀ v' He', Own w0.heap.size e kd v' (W ++ B) He' → (v ≠ .slice none 0 0 → v' ≠ .slice none 0 0) → TN P ops Q n w0 ks rest (put L o.dst v') (H ++ He')) : TN P ops Q n w0 (3 :: ks) (o :: rest) L (H ++ He) :=
 fun a hf => .inr ⟨rfl, fun v' S' => ∃ He', Own w0.heap.size e kd v' (W ++ B) He' ∧ (v ≠ .slice none 0 0 → v' ≠ .slice none 0 0) ∧ S' = St w0 (H ++ He'), fun w hs => by
  obtain ⟨i, hi1, hi2⟩ := Option.map_eq_some_iff.1 hz
  simp only [Prod.mk.injEq] at hi2
  obtain ⟨hz1, hz2, hz3⟩ := hi2
  have hrow := hown.row (w := w) hs.right
  have hB := hsrc w hs
  have hlen : (W ++ B).length = W.length + sl := by simp [hB.1]
  have hmap : (W ++ B).map (int kd) = W.map (int kd) ++ B.map (int kd) := by simp
  have hrun : ∃ v' w', (Builtin.append_ #[t, t] o.type #[v, .slice A sl sc]).run P w = .ok v' w' ∧ w'.ownsRow w0.heap.size e 1 v' (W.length + sl) (W.map (int kd) ++ B.map (int kd)) ∧ w.grownBy w' v.ownBlock ∧
    (v'.ownBlock = v.ownBlock ∨ v'.ownBlock = some w.heap.size) ∧ (v ≠ .slice none 0 0 → v' ≠ .slice none 0 0) := by
   cases A with
   | none =>
    have hsl : sl = 0 := by
     rcases hB.2 with h | ⟨b, off, h, _⟩
     ·exact h
     ·cases h
    subst hsl
    have hBn : B = [] := List.length_eq_zero_iff.1 hB.1
    subst hBn
    refine ⟨v, w, ?_, by simpa using hrow, World.grownBy.refl w _, .inl rfl, id⟩
    rcases hown with ⟨rfl, rfl, rfl⟩ | ⟨g, cap, rfl, rfl, hN, hc, hm⟩
    ·simp [Builtin.append_, Sem.run_bind, run_under h1, sizeOf, run_info hi1, Builtin.lenOf, Builtin.firstCells]
    ·simp [Builtin.append_, Sem.run_bind, run_under h1, sizeOf, run_info hi1, Builtin.lenOf, Builtin.firstCells, hc, storeCells]
   | some ad =>
    have hcells : ∀ (j : Nat) (u : Value), (B.map (int kd))[j]? = some u → w.cell? (ad.add j) = some u := by
     intro j u hu
     rcases hB.2 with h | ⟨b, off, h, _, hr⟩
     ·have hBn : B = [] := List.length_eq_zero_iff.1 (by rw [hB.1, h])
      subst hBn; simp at hu
     ·cases h
      have hj : j < B.length := by have := (List.getElem?_eq_some_iff.1 hu).1; simpa using this
      rw [addr_add, hr j (by rw [← hB.1]; exact hj)]
      rw [qS hj] at hu; exact hu
    obtain ⟨v', w', h2, h3, h4, h6, h5⟩ := run_append_own_at (P := P) w w0.heap.size t o.type e i zv 1 bytes h1 hi1 hz1 hz2 hz3 (by rw [hzc]; rfl) (by omega) v W.length (W.map (int kd)) hrow ad sl sc (B.map (int kd)) (by simp [hB.1]) hcells
     (by intro u hu; exact qk u hu) (by unfold maxLen; omega) hbytes hs.size
    exact ⟨v', w', h2, h3, h4, h5, fun hv hv' => hv (h6.1 hv').1⟩
  obtain ⟨v', w', hrun, hrow', hgrown, hblk, hnn⟩ := hrun
  have hrun' : (execOp a.eval o).run P w = .ok (.value v') w' := by
   simp only [execOp, ho, resolve, invoke, builtin, Sem.run_bind, Sem.run_pure, Result.andThen_ok, List.map_toArray, List.map_cons, List.map_nil, hf.eval hx, hf.eval hy, hrun]
  rw [← hmap, ← hlen] at hrow'
  obtain ⟨He', hown', hHe⟩ := own_of_row hrow'
  refine ⟨.inl ⟨v', w', _, hrun', ⟨He', hown', hnn, rfl⟩, St.regrow hs hgrown ?_ ?_ ?_ ?_⟩, hg a hf⟩
  ·rcases hown with ⟨rfl, rfl, rfl⟩ | ⟨g, cap, rfl, rfl, _⟩
   ·simp
   ·simp [Value.ownBlock]
  ·rcases hown with ⟨rfl, rfl, rfl⟩ | ⟨g, cap, rfl, rfl, hN, _⟩
   ·simp [Value.ownBlock]
   ·simp only [Value.ownBlock]; rintro b hb; cases hb; exact hN
  ·rcases hown with ⟨rfl, rfl, rfl⟩ | ⟨g, cap, rfl, rfl, hN, _⟩
   ·simp [Value.ownBlock]
   ·intro c hc heq
    simp only [Value.ownBlock, Option.some.injEq] at heq
    exact (List.pairwise_append.1 hs.apart).2.2 c hc _ (List.mem_singleton.2 rfl) heq
  ·rcases hHe with h | ⟨d, h, hd, hdN, hdv⟩
   ·exact .inl h
   ·refine .inr ⟨d, h, hd, hdN, ?_⟩
    rcases hblk with hb | hb
    ·left; rw [← hdv, hb]
    ·right; have := Option.some.inj (hb.symm.trans hdv); omega, fun v' S' ⟨He', h1, h2, h3⟩ => by subst h3; exact hr v' He' h1 h2 _ (hf.put o.dst _ hi')⟩
end
/-
 A region that draws its order: operations that read nothing that is made, operations (calls among them) that read what is made, and operations that make one block each.
-/
theorem st_call {w0 w w' : World} {H He : List Ent} (h : St w0 H w) (h2 : St w He w') (hN : ∀ e ∈ He, w.heap.size ≤ e.g) : St w0 (H ++ He) w' := by
 have hne : ∀ e ∈ H, ∀ d ∈ He, d.g ≠ e.g := fun e he d hd hc => by
  have h3 := (h.has e he).lt
  have h4 := hN d hd
  omega
 refine ⟨h2.os.trans h.os, h2.tape.trans h.tape, h2.output.trans h.output, Nat.le_trans h.size h2.size, ?_, ?_, ?_⟩
 ·intro e he
  rcases List.mem_append.1 he with he | he
  ·exact (h.has e he).of_block (h2.old _ (h.has e he).lt (hne e he))
  ·exact h2.has e he
 ·intro b hb hnb
  rw [h2.old b (Nat.lt_of_lt_of_le hb h.size) (fun e he => hnb e (by simp [he]))]
  exact h.old b hb (fun e he => hnb e (by simp [he]))
 ·rw [List.pairwise_append]
  exact ⟨h.apart, h2.apart, fun e he d hd hc => hne e he d hd hc.symm⟩
theorem St.perm {w0 w : World} {H H' : List Ent} (h : St w0 H w) (hp : H.Perm H') : St w0 H' w :=
 ⟨h.os, h.tape, h.output, h.size, fun e he => h.has e (hp.mem_iff.2 he), fun b hb hne => h.old b hb (fun e he => hne e (hp.mem_iff.1 he)), h.apart.perm hp (fun h => h.symm)⟩
theorem St_perm {w0 : World} {H H' : List Ent} (hp : H.Perm H') : St w0 H = St w0 H' := funext fun w => propext ⟨fun h => h.perm hp, fun h => h.perm hp.symm⟩
section
variable {P : Program} {ops : Array Oper} {md : Region.Mode} {w0 : World} {HB : List Ent}
def compatQ (i j : Nat) : Bool := Nat.beq i 0 || (Nat.beq j 0 && !Nat.beq i 3) || (Nat.beq i 1 && Nat.beq j 1) || (Nat.beq i 1 && Nat.beq j 3) || (Nat.beq i 3 && Nat.beq j 3)
def pairsOK (f : Nat → Nat → Bool) : List Nat → Bool
 | [] => true
 | i :: is => is.all (f i) && pairsOK f is
theorem pairsOK_spec {f : Nat → Nat → Bool} : ∀ {is : List Nat}, pairsOK f is = true → is.Pairwise (fun i j => f i j = true)
 | [], _ => .nil
 | i :: is, h => by
  unfold pairsOK at h
  simp only [Bool.and_eq_true, List.all_eq_true] at h
  exact .cons h.1 (pairsOK_spec h.2)
def pairOK (md : Region.Mode) (ops : Array Oper) (ks ms : List Nat) (i j : Nat) : Bool :=
 !Nat.beq i j &&
 ((ms.getD j 0).testBit i || (match ops[i]? with
  | some oi => (match ops[j]? with | some oj => oi.apart ops oj && compatQ (ks.getD i 2) (ks.getD j 2) | none => true)
  | none => true)) &&
 (match ops[i]? with | some oi => oi.after.all (fun e => !Region.binds md e || !Nat.beq e.on j) | none => true)
theorem nbeq_ne {a b : Nat} (h : Nat.beq a b = false) : a ≠ b := fun e => by
 subst e
 rw [Nat.beq_refl] at h
 cases h
def pickO (l : List Oper) : List Nat → List Oper
 | [] => []
 | i :: is => match l[i]? with
  | some o => o :: pickO l is
  | none => pickO l is
def pickK (ks : List Nat) : List Nat → List Nat
 | [] => []
 | i :: is => ks.getD i 2 :: pickK ks is
def Fresh (w0 : World) (Z : List Ent) : Prop := ∀ e ∈ Z, w0.heap.size ≤ e.g
theorem Fresh.nil : Fresh w0 [] := fun e he => by cases he
abbrev qa := @Fresh.nil
theorem Fresh.cons {e : Ent} {Z : List Ent} (h : w0.heap.size ≤ e.g) (hz : Fresh w0 Z) : Fresh w0 (e :: Z) := fun d hd => by
 rcases List.mem_cons.1 hd with rfl | hd
 ·exact h
 ·exact hz d hd
abbrev qI := @Fresh.cons
def Val (P : Program) (ops : Array Oper) (w0 : World) (HB : List Ent) (k : Nat) (X : List Ent) (o : Oper) (v : Value) (a : Act) : Prop :=
 ∀ Z, Fresh w0 Z → Fixed P ops (St w0 (HB ++ (if k = 0 then Z else X ++ Z))) o v a
theorem Val.of_same {k : Nat} {X : List Ent} {o : Oper} {v : Value} {a a' : Act} (h : Val P ops w0 HB k X o v a) (he : execOp a'.eval o = execOp a.eval o)
  (hw : Region.wanted o (yielded ops a'.tmps) = Region.wanted o (yielded ops a.tmps)) : Val P ops w0 HB k X o v a' := fun Z hZ => (h Z hZ).of_same he hw
theorem Val.perm {k : Nat} {X X' : List Ent} {o : Oper} {v : Value} {a : Act} (h : Val P ops w0 HB k X o v a) (hp : X.Perm X') : Val P ops w0 HB k X' o v a := fun Z hZ => by
 have := h Z hZ
 by_cases hk : k = 0
 ·rw [if_pos hk] at this ⊢; exact this
 ·rw [if_neg hk] at this ⊢
  rw [St_perm (H' := HB ++ (X ++ Z)) (List.Perm.append_left HB (List.Perm.append_right Z hp.symm))]
  exact this
end
section
variable {P : Program} {ops : Array Oper} {Q : Exit → Act → World → Prop} {n : Sz} {w0 : World} {L L' : List (Nat × Value)} {HB X : List Ent}
variable {o : Oper} {rest : List Oper} {v u : Value} {x y z : Operand} {k m j : Nat} {t t' e : TypeId} {ks : List Nat} {kd : IntKind} {r : Value → Ent → Prop} {rs : List (Value → Ent → Prop)}
end
/-
 General facts of slices, parts and blocks; append onto a full slice.
-/
theorem Fresh.ne {w0 : World} {Z : List Ent} {b : Nat} (h : Fresh w0 Z) (hb : b < w0.heap.size) : ∀ e ∈ Z, e.g ≠ b := fun e he hc => by
 have := h e he
 omega
theorem RowI.keepH {w w' : World} {H : List Ent} {b off n : Nat} {kd : IntKind} {B : List Int} (h : RowI w b off n kd B) (hs : St w H w') (hb : b < w.heap.size) (hne : ∀ e ∈ H, e.g ≠ b) : RowI w' b off n kd B := fun j hj =>
 (hs.old_cell (ad := ⟨b, off + j, none⟩) hb hne).trans (h j hj)
theorem Src.at_ {w0 w : World} {H : List Ent} {A : Option Addr} {m : Nat} {kd : IntKind} {B : List Int} (h : Src w0 A m kd B) (hs : St w0 H w) (hH : ∀ b, b < w0.heap.size → ∀ e ∈ H, e.g ≠ b) : Src w A m kd B := by
 obtain ⟨h1, h2⟩ := h
 refine ⟨h1, ?_⟩
 rcases h2 with h2 | ⟨b, off, hA, hb, hr⟩
 ·exact .inl h2
 ·exact .inr ⟨b, off, hA, Nat.lt_of_lt_of_le hb hs.size, hr.keepH hs hb (hH b hb)⟩
theorem rowI_ent {w : World} {g t tot n : Nat} {W : List Int} {kd : IntKind} (hl : Ent.lies ⟨g, t, W.map (int kd), tot⟩ w) (hW : W.length = n) : RowI w g 0 n kd W := fun j hj => by
 rw [Nat.zero_add]; exact hl.cell (qS (by omega))
theorem Src.cut {w : World} {b off m l n : Nat} {kd : IntKind} {B : List Int} (h : Src w (some ⟨b, off, none⟩) m kd B) (hl : l + n ≤ m) : Src w (some ⟨b, off + l, none⟩) n kd ((B.drop l).take n) := by
 obtain ⟨h1, h2⟩ := h
 refine ⟨by simp; omega, ?_⟩
 rcases h2 with h2 | ⟨b', off', hA, hb, hr⟩
 ·exact .inl (by omega)
 ·cases hA
  refine .inr ⟨b, off + l, rfl, hb, fun j hj => ?_⟩
  rw [Nat.add_assoc, hr (l + j) (by omega)]
  simp [List.getD_eq_getElem?_getD, List.getElem?_take, hj]
def PartsO (w : World) (A : Option Addr) (m : Nat) (Ps : List (List Int)) : Prop :=
 Ps.length = m ∧ (m = 0 ∨ ∃ b off, A = some ⟨b, off, none⟩ ∧ b < w.heap.size ∧ ∀ i, i < m → ∃ Ai mi ci, w.cell? ⟨b, off + i, none⟩ = some (.slice Ai mi ci) ∧ Src w Ai mi .u8 (Ps.getD i []) ∧ mi ≤ ci)
theorem PartsO.at_ {w0 w : World} {H : List Ent} {A : Option Addr} {m : Nat} {Ps : List (List Int)} (h : PartsO w0 A m Ps) (hs : St w0 H w) (hH : ∀ b, b < w0.heap.size → ∀ e ∈ H, e.g ≠ b) : PartsO w A m Ps := by
 obtain ⟨h1, h2⟩ := h
 refine ⟨h1, ?_⟩
 rcases h2 with h2 | ⟨b, off, hA, hb, hc⟩
 ·exact .inl h2
 ·refine .inr ⟨b, off, hA, Nat.lt_of_lt_of_le hb hs.size, fun i hi => ?_⟩
  obtain ⟨Ai, mi, ci, k1, k2, k3⟩ := hc i hi
  exact ⟨Ai, mi, ci, (hs.old_cell (ad := ⟨b, off + i, none⟩) hb (hH b hb)).trans k1, k2.at_ hs hH, k3⟩
theorem parts_one {w : World} {gp t tot m c : Nat} {A : Option Addr} {P : List Int} (hl : Ent.lies ⟨gp, t, [slice A m c], tot⟩ w) (h : Src w A m .u8 P) (hmc : m ≤ c) : PartsO w (some ⟨gp, 0, none⟩) 1 [P] :=
 ⟨rfl, .inr ⟨gp, 0, rfl, hl.lt, fun i hi => by
  obtain rfl : i = 0 := by omega
  exact ⟨A, m, c, hl.cell (o := 0) rfl, h, hmc⟩⟩⟩
theorem flat_succ {Ps : List (List Int)} {i : Nat} (h : i < Ps.length) (M : List Int) : M ++ (Ps.take (i + 1)).flatten = (M ++ (Ps.take i).flatten) ++ Ps.getD i [] := by
 rw [List.take_succ_eq_append_getElem h, show Ps.getD i [] = Ps[i] by simp [h]]
 simp only [List.flatten_append, List.flatten_cons, List.flatten_nil, List.append_nil, List.append_assoc]
theorem own_mono {N N' : Nat} {t : TypeId} {kd : IntKind} {v : Value} {W : List Int} {He : List Ent} (h : Own N' t kd v W He) (hN : N ≤ N') : Own N t kd v W He := by
 rcases h with h | ⟨g, c, h1, h2, h3, h4⟩
 ·exact .inl h
 ·exact .inr ⟨g, c, h1, h2, Nat.le_trans hN h3, h4⟩
theorem own_some {N t : Nat} {kd : IntKind} {v : Value} {W : List Int} {He : List Ent} (h : Own N t kd v W He) (hv : v ≠ .slice none 0 0) : ∃ g c, v = .slice (some ⟨g, 0, none⟩) W.length c ∧ He = [⟨g, t, W.map (int kd), c⟩] ∧ N ≤ g ∧ W.length ≤ c ∧ c ≤ maxLen := by
 rcases h with ⟨h, _, _⟩ | ⟨g, c, h1, h2, h3, h4, h5⟩
 ·exact absurd h hv
 ·exact ⟨g, c, h1, h2, h3, h4, h5⟩
def Bytes (D : List Int) : Prop := ∀ x ∈ D, 0 ≤ x ∧ x ≤ 255
theorem Bytes.get {D : List Int} (h : Bytes D) (j : Nat) : 0 ≤ D.getD j 0 ∧ D.getD j 0 ≤ 255 := by
 rw [List.getD_eq_getElem?_getD]
 by_cases hj : j < D.length
 ·rw [List.getElem?_eq_getElem hj]; exact h _ (List.getElem_mem hj)
 ·rw [List.getElem?_eq_none (by omega)]; simp
theorem list_of_getD {l r : List Int} (h : l.length = r.length) (hg : ∀ i, i < l.length → l.getD i 0 = r.getD i 0) : l = r := by
 apply List.ext_getElem h
 intro i h1 h2
 have := hg i h1
 simpa [List.getD_eq_getElem?_getD, h1, h2] using this
theorem bs_inj {l r : List Int} (hl : Bytes l) (hr : Bytes r) : bs l = bs r ↔ l = r := by
 constructor
 ·intro h
  unfold bs at h
  have h1 := congrArg (fun b : ByteArray => b.data.toList) h
  simp only [List.toList_toArray] at h1
  have hlen : l.length = r.length := by have := congrArg List.length h1; simpa using this
  refine list_of_getD hlen fun i hi => ?_
  have h2 := congrArg (fun z : List UInt8 => z[i]?) h1
  simp only [List.getElem?_map, List.getElem?_eq_getElem hi, List.getElem?_eq_getElem (show i < r.length by omega), Option.map_some, Option.some.injEq] at h2
  have b1 := hl _ (List.getElem_mem hi)
  have b2 := hr _ (List.getElem_mem (show i < r.length by omega))
  have h3 := congrArg UInt8.toNat h2
  rw [UInt8.toNat_ofNat', UInt8.toNat_ofNat'] at h3
  simp only [List.getD_eq_getElem?_getD, List.getElem?_eq_getElem hi, List.getElem?_eq_getElem (show i < r.length by omega), Option.getD_some]
  omega
 ·intro h; rw [h]
theorem bs_beq {B C : List Int} (hB : Bytes B) (hC : Bytes C) : ((bs B).toList == (bs C).toList) = decide (B = C) := by
 rw [Bool.eq_iff_iff, beq_iff_eq, decide_eq_true_iff, ← bs_inj hB hC, ByteArray.toList_eq, ByteArray.toList_eq]
 constructor
 ·intro h; exact ByteArray.ext (Array.toList_inj.1 h)
 ·intro h; rw [h]
section
variable {P : Program} {ops : Array Oper} {Q : Exit → Act → World → Prop} {n : Sz} {w0 : World} {L L' : List (Nat × Value)} {H : List Ent}
variable {o : Oper} {rest : List Oper} {v u : Value} {x y z : Operand} {k m j : Nat} {t t' e : TypeId} {ks : List Nat} {kd : IntKind}
variable {p q : Int} {lo hi mx : Option Operand}
theorem eqIn_sn (d : Nat) {A : Option Addr} {m c m' c' : Nat} (h1 : P.underlying t = some (.slice e)) (w : World) : (Op.equalIn (d + 1) t (.slice A m c) (.slice none m' c')).run P w = .ok A.isNone w := by cases A <;> simp [Op.equalIn, Sem.run_bind, run_under h1]
theorem Gets.sliceNil {A : Option Addr} {m c m' c' : Nat} (ho : o.op = .binOp .eql t x y t') (h1 : P.underlying t = some (.slice e)) (hx : ev L x = some (.slice A m c)) (hy : ev L y = some (.slice none m' c')) : Gets P n w0 o L H (.bool A.isNone) := fun a w hf hs => by
 simp only [execOp, ho, hf.eval hx, hf.eval hy]
 refine run_value ?_
 exact run_equal (eqIn_sn 9999 h1 w) rfl rfl
theorem Gets.bytesEq {B C : List Int} (ho : o.op = .binOp .eql t x y t') (hx : ev L x = some (.string (bs B))) (hy : ev L y = some (.string (bs C))) (hB : Bytes B) (hC : Bytes C) : Gets P n w0 o L H (.bool (decide (B = C))) :=
 Gets.strEq ho hx hy (fun w => by
  have h := bs_beq hB hC
  simp [Op.stringOp, h])
theorem Gets.min2 (ho : o.op = .call { callee := .builtin .min, args := #[x, y], argTypes := #[t, t] }) (hx : ev L x = some (.int kd p)) (hy : ev L y = some (.int kd q)) : Gets P n w0 o L H (.int kd (if q < p then q else p)) := fun a w hf hs => by
 simp only [execOp, ho, resolve, invoke, builtin, Sem.run_bind, Sem.run_pure, Result.andThen_ok, List.map_toArray, List.map_cons, List.map_nil, hf.eval hx, hf.eval hy, Builtin.min_]
 simp [Builtin.min2, Sem.run_bind]
end
/-
 A region that draws its order, the general law: operations that read nothing that is made (0) or that read what is made (1), operations that make blocks, of whatever has been made (3) or of what has been made (6), variables that are made (5) and written (4), which no other operation reads.
-/
section
variable {P : Program} {ops : Array Oper} {md : Region.Mode} {w0 : World} {HB : List Ent}
def compatS (i j : Nat) : Bool :=
 match j with
 | 0 => Nat.beq i 0 || Nat.beq i 1 || Nat.beq i 4
 | 1 => Nat.beq i 0 || Nat.beq i 1 || Nat.beq i 4
 | 3 => Nat.beq i 0 || Nat.beq i 1 || Nat.beq i 4 || Nat.beq i 3 || Nat.beq i 5 || Nat.beq i 6
 | 4 => Nat.beq i 0 || Nat.beq i 1
 | 5 => Nat.beq i 0 || Nat.beq i 1 || Nat.beq i 3 || Nat.beq i 5 || Nat.beq i 6
 | 6 => Nat.beq i 0 || Nat.beq i 1 || Nat.beq i 4 || Nat.beq i 5
 | _ => false
def pairOKS (md : Region.Mode) (ops : Array Oper) (ks ms : List Nat) (i j : Nat) : Bool :=
 !Nat.beq i j &&
 ((ms.getD j 0).testBit i || (match ops[i]? with
  | some oi => (match ops[j]? with | some oj => oi.apart ops oj && compatS (ks.getD i 2) (ks.getD j 2) | none => true)
  | none => true)) &&
 (match ops[i]? with | some oi => oi.after.all (fun e => !Region.binds md e || !Nat.beq e.on j) | none => true)
def mixOKs (md : Region.Mode) (ops : Array Oper) (ks p : List Nat) : Bool :=
 Region.noSelect ops && Nat.beq p.length ops.size && ((List.range ops.size).all fun q => p.any (Nat.beq q)) &&
 (let ms := masks md ops
  p.all (fun i => decide (i < ops.size) && (match ops[i]? with | some oi => oi.after.all (fun e => !Region.binds md e || (!Nat.beq e.on i && decide (e.on < ops.size))) | none => true)) &&
  pairsOK (pairOKS md ops ks ms) p)
def PairS (md : Region.Mode) (ops : Array Oper) (ks : List Nat) (i j : Nat) : Prop :=
 i ≠ j ∧ (∀ oi oj, ops[i]? = some oi → ops[j]? = some oj → Before md ops j i ∨ (oi.apart ops oj = true ∧ compatS (ks.getD i 2) (ks.getD j 2) = true)) ∧
 ∀ oi, ops[i]? = some oi → ∀ e ∈ oi.after, Region.binds md e = true → e.on ≠ j
theorem pairOKS_spec {ks : List Nat} {i j : Nat} (h : pairOKS md ops ks (masks md ops) i j = true) : PairS md ops ks i j := by
 unfold pairOKS at h
 simp only [Bool.and_eq_true, Bool.or_eq_true, Bool.not_eq_true'] at h
 obtain ⟨⟨h1, h2⟩, h3⟩ := h
 refine ⟨nbeq_ne h1, fun oi oj hi hj => ?_, fun oi hi e he hb => ?_⟩
 ·rcases h2 with h2 | h2
  ·exact .inl (masks_spec h2)
  ·rw [hi, hj] at h2
   simp only [Bool.and_eq_true] at h2
   exact .inr h2
 ·rw [hi] at h3
  simp only [Array.all_eq_true_iff_forall_mem, Bool.or_eq_true, Bool.not_eq_true'] at h3
  exact nbeq_ne ((h3 e he).resolve_left (by simp [hb]))
theorem mixOKs_spec {ks p : List Nat} (h : mixOKs md ops ks p = true) : Region.noSelect ops = true ∧ p.length = ops.size ∧ (∀ q, q < ops.size → q ∈ p) ∧
  (∀ i ∈ p, i < ops.size ∧ ∀ oi, ops[i]? = some oi → ∀ e ∈ oi.after, Region.binds md e = true → e.on ≠ i ∧ e.on < ops.size) ∧ p.Pairwise (PairS md ops ks) := by
 unfold mixOKs at h
 simp only [Bool.and_eq_true, List.all_eq_true, decide_eq_true_eq] at h
 obtain ⟨⟨⟨h1, h2⟩, h7⟩, h3, h4⟩ := h
 refine ⟨h1, Nat.eq_of_beq_eq_true h2, fun q hq => ?_, fun i hi => ⟨(h3 i hi).1, fun oi hoi e he hb => ?_⟩, (pairsOK_spec h4).imp pairOKS_spec⟩
 ·obtain ⟨r, hr, hqr⟩ := List.any_eq_true.1 (h7 q (List.mem_range.2 hq))
  rw [Nat.eq_of_beq_eq_true hqr]; exact hr
 have h5 := (h3 i hi).2
 rw [hoi] at h5
 simp only [Array.all_eq_true_iff_forall_mem, Bool.or_eq_true, Bool.and_eq_true, Bool.not_eq_true', decide_eq_true_eq] at h5
 have h6 := (h5 e he).resolve_left (by simp [hb])
 exact ⟨nbeq_ne h6.1, h6.2⟩
theorem Fresh.app {X Y : List Ent} (hx : Fresh w0 X) (hy : Fresh w0 Y) : Fresh w0 (X ++ Y) := fun d hd => (List.mem_append.1 hd).elim (hx d) (hy d)
abbrev qt := @Fresh.app
theorem Val.moreL {k : Nat} {X E : List Ent} {o : Oper} {v : Value} {a : Act} (h : Val P ops w0 HB k X o v a) (he : Fresh w0 E) : Val P ops w0 HB k (X ++ E) o v a := fun Z hZ => by
 by_cases hk : k = 0
 ·have := h Z hZ
  rw [if_pos hk] at this ⊢; exact this
 ·have := h (E ++ Z) (he.app hZ)
  rw [if_neg hk] at this ⊢
  rw [List.append_assoc]
  exact this
def MakesL (P : Program) (ops : Array Oper) (o : Oper) (a : Act) (R : Value → List Ent → Prop) (w : World) : Prop :=
 ((∃ v E w', (execOp a.eval o).run P w = .ok (.value v) w' ∧ R v E ∧ Fresh w E ∧ St w E w') ∨
  (∃ f vs, (execOp a.eval o).run P w = .ok (.enter f vs) w ∧ Calls P f vs w fun e w'' => ∃ v E, e = .returned v ∧ R v E ∧ Fresh w E ∧ St w E w'')) ∧ Region.wanted o (yielded ops a.tmps) = true
theorem MakesL.of_same {o : Oper} {a a' : Act} {w : World} {R : Value → List Ent → Prop} (h : MakesL P ops o a R w) (he : execOp a'.eval o = execOp a.eval o)
  (hw : Region.wanted o (yielded ops a'.tmps) = Region.wanted o (yielded ops a.tmps)) : MakesL P ops o a' R w := by
 unfold MakesL at *; rw [he, hw]; exact h
theorem MakesL.one {o : Oper} {a : Act} {w : World} {R : Value → List Ent → Prop} (h : MakesL P ops o a R w) : ∃ v E w', R v E ∧ Fresh w E ∧ St w E w' := by
 rcases h.1 with ⟨v, E, w', _, h1, h2, h3⟩ | ⟨f, vs, _, hc⟩
 ·exact ⟨v, E, w', h1, h2, h3⟩
 ·obtain ⟨e, w', fr, ⟨v, E, _, h1, h2, h3⟩, _⟩ := hc []
  exact ⟨v, E, w', h1, h2, h3⟩
def WritesD (P : Program) (ops : Array Oper) (w0 : World) (HB D D' : List Ent) (o : Oper) (a : Act) : Prop :=
 (∀ Z w, Fresh w0 Z → St w0 (HB ++ (Z ++ D)) w → ∃ w', (execOp a.eval o).run P w = .ok .skip w' ∧ St w0 (HB ++ (Z ++ D')) w') ∧ Region.wanted o (yielded ops a.tmps) = true ∧ Fresh w0 D'
theorem WritesD.of_same {D D' : List Ent} {o : Oper} {a a' : Act} (h : WritesD P ops w0 HB D D' o a) (he : execOp a'.eval o = execOp a.eval o)
  (hw : Region.wanted o (yielded ops a'.tmps) = Region.wanted o (yielded ops a.tmps)) : WritesD P ops w0 HB D D' o a' := by
 unfold WritesD at *; rw [he, hw]; exact h
theorem WritesD.perm {D D2 D' : List Ent} {o : Oper} {a : Act} (h : WritesD P ops w0 HB D D' o a) (hp : D.Perm D2) : WritesD P ops w0 HB D2 D' o a :=
 ⟨fun Z w hZ hw => h.1 Z w hZ (hw.perm (List.Perm.append_left HB (List.Perm.append_left Z hp.symm))), h.2⟩
def zOf (k : Nat) (X Z : List Ent) : List Ent := if k = 6 then X ++ Z else Z
def addX (k : Nat) (X E : List Ent) : List Ent := if k = 5 then X else X ++ E
def addD (k : Nat) (D E : List Ent) : List Ent := if k = 5 then D ++ E else D
def isM (k : Nat) : Prop := k = 3 ∨ k = 5 ∨ k = 6
def MixS (P : Program) (ops : Array Oper) (w0 : World) (HB : List Ent) (K : Nat → Nat) (RR : Nat → Value → List Ent → Prop) (T : Act → World → Prop) : List Nat → Act → List Ent → List Ent → Prop
 | [], a, X, D => ∀ w, St w0 (HB ++ (X ++ D)) w → T a w
 | i :: is, a, X, D => ∃ o, ops[i]? = some o ∧ (
   (K i < 2 ∧ ∃ v, Val P ops w0 HB (K i) X o v a ∧ MixS P ops w0 HB K RR T is (a.put o.dst v) X D) ∨
   (isM (K i) ∧ (∀ Z w, Fresh w0 Z → St w0 (HB ++ zOf (K i) X Z) w → MakesL P ops o a (RR i) w) ∧ ∀ v E, Fresh w0 E → RR i v E → MixS P ops w0 HB K RR T is (a.put o.dst v) (addX (K i) X E) (addD (K i) D E)) ∨
   (K i = 4 ∧ o.dst = none ∧ ∃ D', WritesD P ops w0 HB D D' o a ∧ MixS P ops w0 HB K RR T is a X D'))
theorem zOf_perm {k : Nat} {X X' Z : List Ent} (hp : X.Perm X') : (zOf k X Z).Perm (zOf k X' Z) := by
 unfold zOf
 split
 ·exact List.Perm.append_right Z hp
 ·exact List.Perm.refl _
theorem addX_perm {k : Nat} {X X' E : List Ent} (hp : X.Perm X') : (addX k X E).Perm (addX k X' E) := by
 unfold addX
 split
 ·exact hp
 ·exact List.Perm.append_right E hp
theorem addD_perm {k : Nat} {X X' E : List Ent} (hp : X.Perm X') : (addD k X E).Perm (addD k X' E) := by
 unfold addD
 split
 ·exact List.Perm.append_right E hp
 ·exact hp
theorem addX_comm {k q : Nat} {X E F : List Ent} : (addX k (addX q X E) F).Perm (addX q (addX k X F) E) := by
 unfold addX
 split <;> split
 ·exact List.Perm.refl _
 ·exact List.Perm.refl _
 ·exact List.Perm.refl _
 ·rw [List.append_assoc, List.append_assoc]
  exact List.Perm.append_left X List.perm_append_comm
theorem addD_comm {k q : Nat} {X E F : List Ent} : (addD k (addD q X E) F).Perm (addD q (addD k X F) E) := by
 unfold addD
 split <;> split
 ·rw [List.append_assoc, List.append_assoc]
  exact List.Perm.append_left X List.perm_append_comm
 ·exact List.Perm.refl _
 ·exact List.Perm.refl _
 ·exact List.Perm.refl _
theorem Fresh.addX {k : Nat} {X E : List Ent} (hx : Fresh w0 X) (he : Fresh w0 E) : Fresh w0 (Proofs.YtegddcklbmonfaaGreatDoor.addX k X E) := by
 unfold Proofs.YtegddcklbmonfaaGreatDoor.addX
 split
 ·exact hx
 ·exact hx.app he
theorem Fresh.addD {k : Nat} {X E : List Ent} (hx : Fresh w0 X) (he : Fresh w0 E) : Fresh w0 (Proofs.YtegddcklbmonfaaGreatDoor.addD k X E) := by
 unfold Proofs.YtegddcklbmonfaaGreatDoor.addD
 split
 ·exact hx.app he
 ·exact hx
theorem Val.addX {k q : Nat} {X E : List Ent} {o : Oper} {v : Value} {a : Act} (h : Val P ops w0 HB k X o v a) (he : Fresh w0 E) : Val P ops w0 HB k (Proofs.YtegddcklbmonfaaGreatDoor.addX q X E) o v a := by
 unfold Proofs.YtegddcklbmonfaaGreatDoor.addX
 split
 ·exact h
 ·exact h.moreL he
theorem MixS.perm {K : Nat → Nat} {RR : Nat → Value → List Ent → Prop} {T : Act → World → Prop} : ∀ (is : List Nat) (a : Act) (X X' D D2 : List Ent), X.Perm X' → D.Perm D2 → MixS P ops w0 HB K RR T is a X D → MixS P ops w0 HB K RR T is a X' D2
 | [], a, X, X', D, D2, hp, hd, h => fun w hs => h w (hs.perm (List.Perm.append_left HB (hp.append hd).symm))
 | i :: is, a, X, X', D, D2, hp, hd, h => by
  obtain ⟨o, ho, h⟩ := h
  refine ⟨o, ho, ?_⟩
  rcases h with ⟨h1, v, h2, h3⟩ | ⟨h1, h2, h3⟩ | ⟨h1, hn, D', h2, h3⟩
  ·exact .inl ⟨h1, v, h2.perm hp, MixS.perm is _ X X' _ _ hp hd h3⟩
  ·exact .inr (.inl ⟨h1, fun Z w hZ hw => h2 Z w hZ (hw.perm (List.Perm.append_left HB (zOf_perm hp.symm))), fun v E hE hR => MixS.perm is _ _ _ _ _ (addX_perm hp) (addD_perm hd) (h3 v E hE hR)⟩)
  ·exact .inr (.inr ⟨h1, hn, D', h2.perm hd, MixS.perm is _ _ _ _ _ hp (List.Perm.refl _) h3⟩)
theorem compatS_01 {i j : Nat} (h : compatS i j = true) (hj : j < 2) : i < 2 ∨ i = 4 := by
 unfold compatS at h
 match j, hj with
 | 0, _ => simp at h; omega
 | 1, _ => simp at h; omega
theorem compatS_4 {i : Nat} (h : compatS i 4 = true) : i < 2 := by
 simp [compatS] at h; omega
theorem compatS_M {i j : Nat} (hj : isM j) (h : compatS i j = true) : i < 2 ∨ (isM i ∧ (j = 6 → i = 5)) ∨ (i = 4 ∧ j ≠ 5) := by
 unfold isM at *
 rcases hj with rfl | rfl | rfl <;> (simp [compatS] at h; omega)
theorem MixS.first01 {K : Nat → Nat} {RR : Nat → Value → List Ent → Prop} {T : Act → World → Prop} (hsel : ∀ (j : Nat) (o : Oper) cs b, ops[j]? = some o → o.op ≠ .select cs b) {j : Nat} {oj : Oper} (hj : ops[j]? = some oj) (hk : K j < 2) (post : List Nat) :
  ∀ (pre : List Nat) (a : Act) (X D : List Ent), (∀ i oi, i ∈ pre → ops[i]? = some oi → oi.apart ops oj = true ∧ compatS (K i) (K j) = true) → MixS P ops w0 HB K RR T (pre ++ j :: post) a X D →
   ∃ v, Val P ops w0 HB (K j) X oj v a ∧ MixS P ops w0 HB K RR T (pre ++ post) (a.put oj.dst v) X D
 | [], a, X, D, _, h => by
  obtain ⟨o, ho, h⟩ := h
  rw [hj] at ho; cases ho
  rcases h with ⟨_, v, h2, h3⟩ | ⟨h1, _⟩ | ⟨h1, _⟩
  ·exact ⟨v, h2, h3⟩
  ·unfold isM at h1; omega
  ·omega
 | i :: pre, a, X, D, hap, h => by
  obtain ⟨oi, hi, h⟩ := h
  obtain ⟨hap1, hcomp⟩ := hap i oi List.mem_cons_self hi
  obtain ⟨h1, h2, h3⟩ := Oper.apart_spec hap1
  have hap' := fun k ok hk => hap k ok (List.mem_cons_of_mem _ hk)
  have hc := compatS_01 hcomp hk
  rcases h with ⟨hki, vi, hf, hs⟩ | ⟨hki, _⟩ | ⟨hki, hn, Di, hw, hs⟩
  ·obtain ⟨vj, hfj, hsj⟩ := MixS.first01 hsel hj hk post pre (a.put oi.dst vi) X D hap' hs
   exact ⟨vj, hfj.of_same (execOp_put oj (fun cs b => hsel j oj cs b hj) a oi.dst vi h1).symm (wanted_put oj a oi.dst vi h1).symm, oi, hi,
    .inl ⟨hki, vi, hf.of_same (execOp_put oi (fun cs b => hsel i oi cs b hi) a oj.dst vj h3) (wanted_put oi a oj.dst vj h3), by rw [← Act.put_comm a vi vj h2]; exact hsj⟩⟩
  ·unfold isM at hki; omega
  ·obtain ⟨vj, hfj, hsj⟩ := MixS.first01 hsel hj hk post pre a X Di hap' hs
   exact ⟨vj, hfj, oi, hi, .inr (.inr ⟨hki, hn, Di, hw.of_same (execOp_put oi (fun cs b => hsel i oi cs b hi) a oj.dst vj h3) (wanted_put oi a oj.dst vj h3), hsj⟩)⟩
theorem MixS.first4 {K : Nat → Nat} {RR : Nat → Value → List Ent → Prop} {T : Act → World → Prop} (hsel : ∀ (j : Nat) (o : Oper) cs b, ops[j]? = some o → o.op ≠ .select cs b) {j : Nat} {oj : Oper} (hj : ops[j]? = some oj) (hk : K j = 4) (post : List Nat) :
  ∀ (pre : List Nat) (a : Act) (X D : List Ent), (∀ i oi, i ∈ pre → ops[i]? = some oi → oi.apart ops oj = true ∧ compatS (K i) (K j) = true) → MixS P ops w0 HB K RR T (pre ++ j :: post) a X D →
   oj.dst = none ∧ ∃ D', WritesD P ops w0 HB D D' oj a ∧ MixS P ops w0 HB K RR T (pre ++ post) a X D'
 | [], a, X, D, _, h => by
  obtain ⟨o, ho, h⟩ := h
  rw [hj] at ho; cases ho
  rcases h with ⟨h1, _⟩ | ⟨h1, _⟩ | ⟨_, h2, h3⟩
  ·omega
  ·unfold isM at h1; omega
  ·exact ⟨h2, h3⟩
 | i :: pre, a, X, D, hap, h => by
  obtain ⟨oi, hi, h⟩ := h
  obtain ⟨hap1, hcomp⟩ := hap i oi List.mem_cons_self hi
  obtain ⟨h1, h2, h3⟩ := Oper.apart_spec hap1
  have hap' := fun k ok hk => hap k ok (List.mem_cons_of_mem _ hk)
  rw [hk] at hcomp
  have hc := compatS_4 hcomp
  rcases h with ⟨hki, vi, hf, hs⟩ | ⟨hki, _⟩ | ⟨hki, _⟩
  ·obtain ⟨hn, Dj, hwj, hsj⟩ := MixS.first4 hsel hj hk post pre (a.put oi.dst vi) X D hap' hs
   exact ⟨hn, Dj, hwj.of_same (execOp_put oj (fun cs b => hsel j oj cs b hj) a oi.dst vi h1).symm (wanted_put oj a oi.dst vi h1).symm, oi, hi, .inl ⟨hki, vi, hf, hsj⟩⟩
  ·unfold isM at hki; omega
  ·omega
theorem MixS.firstM {K : Nat → Nat} {RR : Nat → Value → List Ent → Prop} {T : Act → World → Prop} (hsel : ∀ (j : Nat) (o : Oper) cs b, ops[j]? = some o → o.op ≠ .select cs b) {j : Nat} {oj : Oper} (hj : ops[j]? = some oj) (hk : isM (K j)) (post : List Nat) :
  ∀ (pre : List Nat) (a : Act) (X D : List Ent), (∀ i oi, i ∈ pre → ops[i]? = some oi → oi.apart ops oj = true ∧ compatS (K i) (K j) = true) → MixS P ops w0 HB K RR T (pre ++ j :: post) a X D →
   ((∃ Z w, Fresh w0 (X ++ Z) ∧ St w0 (HB ++ (X ++ Z)) w) → ∀ Z w, Fresh w0 Z → St w0 (HB ++ zOf (K j) X Z) w → MakesL P ops oj a (RR j) w) ∧
    ∀ v E, Fresh w0 E → RR j v E → MixS P ops w0 HB K RR T (pre ++ post) (a.put oj.dst v) (addX (K j) X E) (addD (K j) D E)
 | [], a, X, D, _, h => by
  obtain ⟨o, ho, h⟩ := h
  rw [hj] at ho; cases ho
  rcases h with ⟨h1, _⟩ | ⟨_, h2, h3⟩ | ⟨h1, _⟩
  ·unfold isM at hk; omega
  ·exact ⟨fun _ => h2, h3⟩
  ·unfold isM at hk; omega
 | i :: pre, a, X, D, hap, h => by
  obtain ⟨oi, hi, h⟩ := h
  obtain ⟨hap1, hcomp⟩ := hap i oi List.mem_cons_self hi
  obtain ⟨h1, h2, h3⟩ := Oper.apart_spec hap1
  have hap' := fun k ok hk => hap k ok (List.mem_cons_of_mem _ hk)
  have hc := compatS_M hk hcomp
  have ej := fun v => (execOp_put oj (fun cs b => hsel j oj cs b hj) a oi.dst v h1).symm
  have wj := fun v => (wanted_put oj a oi.dst v h1).symm
  have ei := fun v => execOp_put oi (fun cs b => hsel i oi cs b hi) a oj.dst v h3
  have wi := fun v => wanted_put oi a oj.dst v h3
  rcases h with ⟨hki, vi, hf, hs⟩ | ⟨hki, hm, hs⟩ | ⟨hki, hn, Di, hw, hs⟩
  ·obtain ⟨hmj, hsj⟩ := MixS.firstM hsel hj hk post pre (a.put oi.dst vi) X D hap' hs
   refine ⟨fun hex Z w hZ hst => (hmj hex Z w hZ hst).of_same (ej vi) (wj vi), fun v E hE hR => ⟨oi, hi, .inl ⟨hki, vi, ?_, ?_⟩⟩⟩
   ·exact (hf.of_same (ei v) (wi v)).addX hE
   ·rw [← Act.put_comm a vi v h2]; exact hsj v E hE hR
  ·have rec_ := fun v E (hE : Fresh w0 E) (hR : RR i v E) => MixS.firstM hsel hj hk post pre (a.put oi.dst v) (addX (K i) X E) (addD (K i) D E) hap' (hs v E hE hR)
   have hc2 : K j = 6 → K i = 5 := by
    unfold isM at *; omega
   refine ⟨fun hex Z w hZ hst => ?_, fun v E hE hR => ⟨oi, hi, .inr (.inl ⟨hki, fun Z w hZ hst => ?_, fun vi Ei hEi hRi => ?_⟩)⟩⟩
   ·obtain ⟨Z1, w1, hZ1, hs1⟩ := hex
    have hone : ∃ v E w', RR i v E ∧ Fresh w1 E ∧ St w1 E w' := by
     by_cases h6 : K i = 6
     ·refine (hm Z1 w1 (fun e he => hZ1 e (List.mem_append.2 (.inr he))) ?_).one
      unfold zOf; rw [if_pos h6]; exact hs1
     ·refine (hm (X ++ Z1) w1 hZ1 ?_).one
      unfold zOf; rw [if_neg h6]; exact hs1
    obtain ⟨vi, Ei, w', hRi, hEi, hst'⟩ := hone
    have hEi0 : Fresh w0 Ei := fun e he => Nat.le_trans hs1.size (hEi e he)
    have hall := st_call hs1 hst' hEi
    have hex' : ∃ Z w, Fresh w0 (addX (K i) X Ei ++ Z) ∧ St w0 (HB ++ (addX (K i) X Ei ++ Z)) w := by
     unfold addX
     split
     ·exact ⟨Z1 ++ Ei, w', by rw [← List.append_assoc]; exact hZ1.app hEi0, by rw [← List.append_assoc X, ← List.append_assoc HB]; exact hall⟩
     ·refine ⟨Z1, w', fun e he => ?_, hall.perm ?_⟩
      ·simp only [List.append_assoc, List.mem_append] at he
       rcases he with he | he | he
       ·exact hZ1 e (List.mem_append.2 (.inl he))
       ·exact hEi0 e he
       ·exact hZ1 e (List.mem_append.2 (.inr he))
      ·simp only [List.append_assoc]
       exact List.Perm.append_left HB (List.Perm.append_left X List.perm_append_comm)
    refine ((rec_ vi Ei hEi0 hRi).1 hex' Z w hZ ?_).of_same (ej vi) (wj vi)
    have hz : zOf (K j) (addX (K i) X Ei) Z = zOf (K j) X Z := by
     unfold zOf addX
     by_cases h6 : K j = 6
     ·rw [if_pos h6, if_pos h6, if_pos (hc2 h6)]
     ·rw [if_neg h6, if_neg h6]
    rw [hz]; exact hst
   ·by_cases h6 : K i = 6
    ·unfold zOf at hst; rw [if_pos h6] at hst
     have hE2 : ∃ E2, Fresh w0 E2 ∧ addX (K j) X E ++ Z = X ++ E2 := by
      unfold addX
      split
      ·exact ⟨Z, hZ, rfl⟩
      ·exact ⟨E ++ Z, hE.app hZ, List.append_assoc ..⟩
     obtain ⟨E2, hE2, heq⟩ := hE2
     refine (hm E2 w hE2 ?_).of_same (ei v) (wi v)
     unfold zOf; rw [if_pos h6, ← heq]; exact hst
    ·unfold zOf at hst; rw [if_neg h6] at hst
     refine (hm Z w hZ ?_).of_same (ei v) (wi v)
     unfold zOf; rw [if_neg h6]; exact hst
   ·have := (rec_ vi Ei hEi hRi).2 v E hE hR
    rw [Act.put_comm a vi v h2] at this
    exact MixS.perm _ _ _ _ _ _ addX_comm addD_comm this
  ·obtain ⟨hmj, hsj⟩ := MixS.firstM hsel hj hk post pre a X Di hap' hs
   have h5 : K j ≠ 5 := by
    unfold isM at *; omega
   refine ⟨hmj, fun v E hE hR => ⟨oi, hi, .inr (.inr ⟨hki, hn, Di, ?_, ?_⟩)⟩⟩
   ·have := hw.of_same (ei v) (wi v)
    unfold addD; rw [if_neg h5]; exact this
   ·have := hsj v E hE hR
    unfold addD at this; rw [if_neg h5] at this; exact this
theorem wpAny_of_mixS {Q : Exit → Act → World → Prop} {RR : Nat → Value → List Ent → Prop} {ks p : List Nat} (hks : ∀ i ∈ p, ks.getD i 2 < 2 ∨ isM (ks.getD i 2) ∨ ks.getD i 2 = 4) (hns : Region.noSelect ops = true) (hself : ∀ i ∈ p, i < ops.size ∧ ∀ oi, ops[i]? = some oi → ∀ e ∈ oi.after, Region.binds md e = true → e.on ≠ i ∧ e.on < ops.size) :
  ∀ (n : Nat) (is : List Nat) (listed : Array Bool) (a : Act) (w : World) (X D : List Ent), is.length = n → is.Pairwise (PairS md ops ks) → (∀ i ∈ is, i ∈ p) → Lists ops.size md ops is listed → MixS P ops w0 HB (ks.getD · 2) RR (Q .normal) is a X D → Fresh w0 X → Fresh w0 D → St w0 (HB ++ (X ++ D)) w →
   wpAny P md ops Q n listed a w := by
 have hsel := Region.noSelect_spec hns
 intro n
 induction n with
 | zero =>
  intro is listed a w X D hlen _ _ hl hs hX hD hS
  obtain rfl : is = [] := List.length_eq_zero_iff.1 hlen
  refine wpAny_done ?_ (hs w hS) 0
  rw [List.eq_nil_iff_forall_not_mem]
  intro j hj
  obtain ⟨hjun, oj, hoj, _⟩ := mem_ready.1 hj
  have hjs : j < ops.size := (Array.getElem?_eq_some_iff.1 hoj).1
  have := (hl.2.1 j hjs).1 hjun
  simp at this
  omega
 | succ n ih =>
  intro is listed a w X D hlen hpw hlt hl hs hX hD hS
  have hnd : is.Nodup := hpw.imp (fun h => h.1)
  refine ⟨fun hnone => ?_, fun j hj => ?_⟩
  ·exfalso
   obtain ⟨i, is', rfl⟩ : ∃ i is', is = i :: is' := by
    cases is with
    | nil => simp at hlen
    | cons i is' => exact ⟨i, is', rfl⟩
   obtain ⟨him, hafter⟩ := hself i (hlt i List.mem_cons_self)
   have hi : ops[i]? = some ops[i] := Array.getElem?_eq_getElem him
   have hmem : i ∈ Region.ready md ops listed := by
    rw [mem_ready]
    refine ⟨(hl.2.1 i him).2 (.inl List.mem_cons_self), _, hi, fun e he hb => ?_⟩
    obtain ⟨hne, hon⟩ := hafter _ hi e he hb
    rw [getD_false_of (by rw [hl.1]; exact hon), hl.2.1 e.on hon]
    rintro (h | h)
    ·rcases List.mem_cons.1 h with h | h
     ·exact hne h
     ·exact ((List.pairwise_cons.1 hpw).1 _ h).2.2 _ hi e he hb rfl
    ·omega
   rw [hnone] at hmem
   cases hmem
  ·obtain ⟨hjun, oj, hoj, hall⟩ := mem_ready.1 hj
   have hjs : j < ops.size := (Array.getElem?_eq_some_iff.1 hoj).1
   have hnw : ∀ i ∈ is, ¬ Before md ops j i := fun i hi hw => by
    have h1 := hw listed hl.2.2 (fun o ho' e he hb => by rw [hoj] at ho'; cases ho'; exact hall e he hb)
    have him := (hself i (hlt i hi)).1
    exact (getD_false_of (by rw [hl.1]; omega)).1 h1 ((hl.2.1 i him).2 (.inl hi))
   have hjin : j ∈ is := by
    rcases (hl.2.1 j hjs).1 hjun with h | h
    ·exact h
    ·omega
   obtain ⟨pre, post, rfl⟩ := List.append_of_mem hjin
   have hap : ∀ i oi, i ∈ pre → ops[i]? = some oi → oi.apart ops oj = true ∧ compatS (ks.getD i 2) (ks.getD j 2) = true := fun i oi hi hoi => by
    have hij := (List.pairwise_append.1 hpw).2.2 i hi j List.mem_cons_self
    rcases hij.2.1 oi oj hoi hoj with hw | hap
    ·exact absurd hw (hnw i (by simp [hi]))
    ·exact hap
   have hsub : (pre ++ post).Sublist (pre ++ j :: post) := List.Sublist.append_left (List.sublist_cons_self _ _) _
   have next := fun a' w' X' D' => ih (pre ++ post) (listed.setIfInBounds j true) a' w' X' D' (by simp at hlen ⊢; omega) (hpw.sublist hsub) (fun i hi => hlt i (hsub.subset hi)) (hl.next rfl hnd hjs (Nat.le_refl _) hj)
   rcases hks j (hlt j hjin) with hk | hk | hk
   ·obtain ⟨vj, hf, hs'⟩ := MixS.first01 (K := (ks.getD · 2)) hsel hoj hk post pre a X D hap hs
    have hfix : Fixed P ops (St w0 (HB ++ (X ++ D))) oj vj a := by
     by_cases hk0 : ks.getD j 2 = 0
     ·have := hf (X ++ D) (hX.app hD)
      rw [if_pos hk0] at this; exact this
     ·have := hf D hD
      rw [if_neg hk0] at this; exact this
    exact hfix.wpOp hoj hS fun w' hS' => next _ w' X D hs' hX hD hS'
   ·obtain ⟨hf, hs'⟩ := MixS.firstM (K := (ks.getD · 2)) hsel hoj hk post pre a X D hap hs
    have hmk : MakesL P ops oj a (RR j) w := by
     by_cases h6 : ks.getD j 2 = 6
     ·refine hf ⟨D, w, hX.app hD, hS⟩ D w hD ?_
      unfold zOf; rw [if_pos h6]; exact hS
     ·refine hf ⟨D, w, hX.app hD, hS⟩ (X ++ D) w (hX.app hD) ?_
      unfold zOf; rw [if_neg h6]; exact hS
    obtain ⟨hr, hw⟩ := hmk
    unfold Go.wpOp
    simp only [hoj, hw, if_true, Oper.wp]
    refine .inl ?_
    have go : ∀ v E w', RR j v E → Fresh w E → St w E w' → wpAny P md ops Q n (listed.setIfInBounds j true) (a.put oj.dst v) w' := fun v E w' hR hE hw' => by
     have hE0 : Fresh w0 E := fun e he => Nat.le_trans hS.size (hE e he)
     refine next _ w' _ _ (hs' v E hE0 hR) (hX.addX hE0) (hD.addD hE0) ((st_call hS hw' hE).perm ?_)
     unfold addX addD
     split
     ·simp only [List.append_assoc]; exact List.Perm.refl _
     ·simp only [List.append_assoc]
      exact List.Perm.append_left HB (List.Perm.append_left X List.perm_append_comm)
    rcases hr with ⟨v, E, w', hr, hR, hE, hw'⟩ | ⟨f, vs, hr, hc⟩
    ·rw [hr]; exact go v E w' hR hE hw'
    ·rw [hr]
     refine hc.mono ?_
     rintro e w'' ⟨v, E, rfl, hR, hE, hw'⟩
     exact go v E w'' hR hE hw'
   ·obtain ⟨hn, D', ⟨hf, hw, hD'⟩, hs'⟩ := MixS.first4 (K := (ks.getD · 2)) hsel hoj hk post pre a X D hap hs
    obtain ⟨w', hr, hS'⟩ := hf X w hX hS
    unfold Go.wpOp
    simp only [hoj, hw, if_true, Oper.wp]
    refine .inl ?_
    rw [hr]
    have := next a w' X D' hs' hX hD' hS'
    simpa [Oper.upon_skip, hn, Act.put] using this
def pickRL (rs : List (Value → List Ent → Prop)) : List Nat → List (Value → List Ent → Prop)
 | [] => []
 | i :: is => rs.getD i (fun _ _ => False) :: pickRL rs is
def MixMS (P : Program) (ops : Array Oper) (w0 : World) (HB : List Ent) (T : Act → World → Prop) : List Nat → List (Value → List Ent → Prop) → List Oper → Act → List Ent → List Ent → Prop
 | [], [], [], a, X, D => ∀ w, St w0 (HB ++ (X ++ D)) w → T a w
 | k :: ks, r :: rs, o :: rest, a, X, D => (k < 2 ∧ ∃ v, Val P ops w0 HB k X o v a ∧ MixMS P ops w0 HB T ks rs rest (a.put o.dst v) X D) ∨
   (isM k ∧ (∀ Z w, Fresh w0 Z → St w0 (HB ++ zOf k X Z) w → MakesL P ops o a r w) ∧ ∀ v E, Fresh w0 E → r v E → MixMS P ops w0 HB T ks rs rest (a.put o.dst v) (addX k X E) (addD k D E)) ∨
   (k = 4 ∧ o.dst = none ∧ ∃ D', WritesD P ops w0 HB D D' o a ∧ MixMS P ops w0 HB T ks rs rest a X D')
 | _, _, _, _, _, _ => False
theorem MixMS.seqp {T : Act → World → Prop} {l : List Oper} {ks : List Nat} {rs : List (Value → List Ent → Prop)} : ∀ (p : List Nat) (a : Act) (X D : List Ent), (∀ i ∈ p, i < l.length) → MixMS P l.toArray w0 HB T (pickK ks p) (pickRL rs p) (pickO l p) a X D →
  MixS P l.toArray w0 HB (ks.getD · 2) (rs.getD · (fun _ _ => False)) T p a X D
 | [], _, _, _, _, h => h
 | i :: is, a, X, D, hp, h => by
  have hlt := hp i List.mem_cons_self
  have hi : l[i]? = some l[i] := List.getElem?_eq_getElem hlt
  unfold pickO pickK pickRL at h
  rw [hi] at h
  have rec_ : ∀ a X D, MixMS P l.toArray w0 HB T (pickK ks is) (pickRL rs is) (pickO l is) a X D → MixS P l.toArray w0 HB (ks.getD · 2) (rs.getD · (fun _ _ => False)) T is a X D := fun a X D h => MixMS.seqp is a X D (fun j hj => hp j (List.mem_cons_of_mem _ hj)) h
  refine ⟨l[i], by rw [List.getElem?_toArray]; exact hi, ?_⟩
  rcases h with ⟨h1, v, h2, h3⟩ | ⟨h1, h2, h3⟩ | ⟨h1, hn, D', h2, h3⟩
  ·exact .inl ⟨h1, v, h2, rec_ _ _ _ h3⟩
  ·exact .inr (.inl ⟨h1, h2, fun v E hE hR => rec_ _ _ _ (h3 v E hE hR)⟩)
  ·exact .inr (.inr ⟨h1, hn, D', h2, rec_ _ _ _ h3⟩)
def kindsOK (ks p : List Nat) : Bool := p.all fun i => Nat.blt (ks.getD i 2) 2 || (Nat.beq (ks.getD i 2) 3 || (Nat.beq (ks.getD i 2) 5 || Nat.beq (ks.getD i 2) 6)) || Nat.beq (ks.getD i 2) 4
theorem kindsOK_spec {ks p : List Nat} (h : kindsOK ks p = true) : ∀ i ∈ p, ks.getD i 2 < 2 ∨ isM (ks.getD i 2) ∨ ks.getD i 2 = 4 := fun i hi => by
 unfold kindsOK at h
 have := List.all_eq_true.1 h i hi
 simp only [Bool.or_eq_true, Nat.blt_eq] at this
 unfold isM
 rcases this with (h1 | h1 | h1 | h1) | h1
 ·exact .inl h1
 ·exact .inr (.inl (.inl (Nat.eq_of_beq_eq_true h1)))
 ·exact .inr (.inl (.inr (.inl (Nat.eq_of_beq_eq_true h1))))
 ·exact .inr (.inl (.inr (.inr (Nat.eq_of_beq_eq_true h1))))
 ·exact .inr (.inr (Nat.eq_of_beq_eq_true h1))
theorem wp_mixS {md0 : Md} {Q : Exit → Act → World → Prop} {id : Nat} {l : List Oper} {a : Act} {w : World} {D : List Ent} (hmix : P.follows .mixedOrders = true) (ks p : List Nat) (rs : List (Value → List Ent → Prop)) (hks : kindsOK ks p = true) (ho : mixOKs .any l.toArray ks p = true)
  (hD : Fresh w0 D) (hS : St w0 (HB ++ D) w.drew) (h : MixMS P l.toArray w0 HB (Q .normal) (pickK ks p) (pickRL rs p) (pickO l p) a [] D) (hok : OkR md0 l.toArray Q) : wpn md0 P (Code.region id l.toArray true) Q a w := by
 refine wpnFrom_start hok hmix ?_
 intro listed hl
 have hsz : l.toArray.size = l.length := by simp
 obtain ⟨hns, hlen, hall, hself, hpw⟩ := mixOKs_spec ho
 have := wpAny_of_mixS (P := P) (Q := Q) (ks := ks) (kindsOK_spec hks) hns hself l.length p listed a w.drew [] D (hlen.trans hsz) hpw (fun i hi => hi)
  ⟨hl.1, fun q hq => by
   rw [hl.2.1 q hq]
   have := hall q hq
   simp [this], hl.2.2⟩ (MixMS.seqp p a [] D (fun i hi => by rw [← hsz]; exact (hself i hi).1) h) qa hD (by rw [List.nil_append]; exact hS)
 rw [hsz, Nat.sub_zero]
 exact this
end
section
variable {P : Program} {ops : Array Oper} {Q : Exit → Act → World → Prop} {n : Sz} {w0 : World} {L L' : List (Nat × Value)} {HB X D : List Ent}
variable {o : Oper} {rest : List Oper} {v u : Value} {x y z : Operand} {k m j : Nat} {t t' e : TypeId} {ks : List Nat} {kd : IntKind} {r : Value → List Ent → Prop} {rs : List (Value → List Ent → Prop)}
def TR (P : Program) (ops : Array Oper) (Q : Exit → Act → World → Prop) (n : Sz) (w0 : World) (HB : List Ent) (ks : List Nat) (rs : List (Value → List Ent → Prop)) (rest : List Oper) (L : List (Nat × Value)) (X D : List Ent) : Prop :=
 ∀ a, Fr n L a → MixMS P ops w0 HB (Q .normal) ks rs rest a X D
theorem TC.mixS {id : Nat} {l : List Oper} {H : List Ent} (HB D : List Ent) (hmix : P.follows .mixedOrders = true) (ks p : List Nat) (rs : List (Value → List Ent → Prop)) (hks : kindsOK ks p = true) (ho : mixOKs .any l.toArray ks p = true) (hp : H.Perm (HB ++ D)) (hD : Fresh w0 D)
  (h : TR P l.toArray Q n w0 HB (pickK ks p) (pickRL rs p) (pickO l p) L [] D) (hok : OkR n.md l.toArray Q := by exact trivial) : TC P Q n w0 (.region id l.toArray true) L H :=
 fun a w hf hs => wp_mixS hmix ks p rs hks ho hD (hs.perm hp).drew (h a hf) hok
theorem TR.nil (h : TE Q .normal n w0 L (HB ++ (X ++ D))) : TR P ops Q n w0 HB [] [] [] L X D := fun a hf w hs => h a w hf hs
theorem TR.free (hg : Wants n ops L o) (hi : inside n o.dst = true) (h : ∀ w0, Gets P n w0 o L [] v) (hr : TR P ops Q n w0 HB ks rs rest (put L o.dst v) X D) : TR P ops Q n w0 HB (0 :: ks) (r :: rs) (o :: rest) L X D :=
 fun a hf => .inl ⟨by decide, v, fun Z _ => .inl ⟨hg a hf, fun w hS => by rw [h w a w hf (zE w)]; exact ⟨rfl, hS⟩⟩, hr _ (hf.put o.dst v hi)⟩
theorem TR.pass {j d : Nat} {b c : Bool} (h : o.guard = some (j, c)) (hj : (ops[j]?).bind (·.dst) = some d) (hd : look L d = some (.bool b)) (hi : inside n o.dst = true) (hb : b = !c) (hr : TR P ops Q n w0 HB ks rs rest (put L o.dst undef) X D) : TR P ops Q n w0 HB (0 :: ks) (r :: rs) (o :: rest) L X D :=
 fun a hf => .inl ⟨by decide, undef, fun Z _ => .inr ⟨by subst hb; simp [Region.wanted, h, guard_val hf hj hd], rfl⟩, hr _ (hf.put o.dst undef hi)⟩
theorem TR.gets (hg : Wants n ops L o) (hi : inside n o.dst = true) (h : ∀ Z, Fresh w0 Z → Gets P n w0 o L (HB ++ (X ++ Z)) v) (hr : TR P ops Q n w0 HB ks rs rest (put L o.dst v) X D) : TR P ops Q n w0 HB (1 :: ks) (r :: rs) (o :: rest) L X D :=
 fun a hf => .inl ⟨by decide, v, fun Z hZ => .inl ⟨hg a hf, fun w hS => by rw [if_neg (by decide)] at hS ⊢; rw [h Z hZ a w hf hS]; exact ⟨rfl, hS⟩⟩, hr _ (hf.put o.dst v hi)⟩
theorem TR.call0 {f : FuncId} {xs : List Operand} {ts : Array TypeId} {vs : List Value} (hg : Wants n ops L o) (hi : inside n o.dst = true) (h : Enters P f)
  (ho : o.op = .call { callee := .value (.func f), args := xs.toArray, argTypes := ts }) (hx : evs L xs = some vs)
  (hc : ∀ Z w, Fresh w0 Z → St w0 (HB ++ (X ++ Z)) w → Calls P f vs.toArray w fun e w' => e = .returned v ∧ St w [] w')
  (hr : TR P ops Q n w0 HB ks rs rest (put L o.dst v) X D) : TR P ops Q n w0 HB (1 :: ks) (r :: rs) (o :: rest) L X D :=
 fun a hf => .inl ⟨by decide, v, fun Z hZ => .inl ⟨hg a hf, fun w hS => by
  rw [if_neg (by decide)] at hS
  rw [run_enter h ho hf hx]
  exact (hc Z w hZ hS).mono fun e w' ⟨he, hw⟩ => ⟨he, by rw [if_neg (by decide)]; exact hS.call' hw⟩⟩, hr _ (hf.put o.dst v hi)⟩
theorem TR.call {ι : Type} {f : FuncId} {xs : List Operand} {ts : Array TypeId} {vs : List Value} {V : ι → Value} {R : ι → Prop} {E : ι → List Ent} (hk : isM k) (hg : Wants n ops L o) (hi : inside n o.dst = true) (h : Enters P f)
  (ho : o.op = .call { callee := .value (.func f), args := xs.toArray, argTypes := ts }) (hx : evs L xs = some vs)
  (hc : ∀ Z w, Fresh w0 Z → St w0 (HB ++ zOf k X Z) w → Calls P f vs.toArray w fun e w' => ∃ i, e = .returned (V i) ∧ R i ∧ Fresh w (E i) ∧ St w (E i) w')
  (hr : ∀ i, R i → Fresh w0 (E i) → TR P ops Q n w0 HB ks rs rest (put L o.dst (V i)) (addX k X (E i)) (addD k D (E i))) : TR P ops Q n w0 HB (k :: ks) ((fun v e => ∃ i, R i ∧ v = V i ∧ e = E i) :: rs) (o :: rest) L X D :=
 fun a hf => .inr (.inl ⟨hk, fun Z w hZ hs => ⟨.inr ⟨f, vs.toArray, run_enter h ho hf hx, (hc Z w hZ hs).mono fun e w' ⟨i, he, hR, hE, hs'⟩ => ⟨V i, E i, he, ⟨i, hR, rfl, rfl⟩, hE, hs'⟩⟩, hg a hf⟩,
  fun v e hE ⟨i, hR, h1, h2⟩ => by subst h1; subst h2; exact hr i hR hE _ (hf.put o.dst _ hi)⟩)
theorem fresh_one {w : World} {e : Ent} (h : w.heap.size ≤ e.g) : Fresh w [e] := fun d hd => by rw [List.mem_singleton.1 hd]; exact h
theorem fresh_head {w : World} {e : Ent} {E : List Ent} (h : Fresh w (e :: E)) : w.heap.size ≤ e.g := h e (by simp)
theorem TR.buildSlice {len s : Nat} {ps : List (Nat × Operand)} {vs : List (Nat × Value)} {cells : Array Value} {cs : List Value} {zv : Value} (hg : Wants n ops L o) (hi : inside n o.dst = true) (ho : o.op = .buildSlice t len ps.toArray)
  (h1 : P.underlying t = some (.slice e)) (hsz : (P.info? e).map (·.size) = some s) (hz : (P.info? e).bind (·.zero) = some zv) (hv : operVals L ps = some vs) (hlen : len * s ≤ 2 ^ 24) (hpos : (len * s = 0) = False)
  {tot : Nat} (hfill : Instr.fill (fun i => some (i * s, s)) ((Array.range (len * s)).map (zv.cells[· % zv.cells.size]!)) vs = some cells) (hcs : cells.toList = cs) (htot : cs.length = tot)
  (hr : ∀ g, w0.heap.size ≤ g → TR P ops Q n w0 HB ks rs rest (put L o.dst (.slice (some ⟨g, 0, none⟩) len len)) (X ++ [⟨g, e, cs, tot⟩]) D) :
  TR P ops Q n w0 HB (3 :: ks) ((fun v d => ∃ g, v = .slice (some ⟨g, 0, none⟩) len len ∧ d = [⟨g, e, cs, tot⟩]) :: rs) (o :: rest) L X D :=
 fun a hf => .inr (.inl ⟨.inl rfl, fun Z w hZ hs => by
  have hrun : (execOp a.eval o).run P w = .ok (.value (.slice (some ⟨w.heap.size, 0, none⟩) len len)) (w.alloc (.cells cells e)) := by
   have hm := operVals_eval hf hv
   have hm2 : (ps.map fun (x : Nat × Operand) => match x with | (i, x) => (i, a.eval x)) = vs := hm
   simp only [execOp, ho]
   refine run_value ?_
   simp only [Instr.buildSlice, Sem.run_bind, run_under h1, Result.andThen_ok, run_size hsz, List.map_toArray, hm2]
   rw [if_neg (by omega), if_neg (by simp [hpos])]
   simp only [Sem.run_bind, run_zero hz, Result.andThen_ok, Sem.run_pure, hfill]
   simp [newRow, newObj, Sem.run_bind, Sem.run]
  subst htot
  exact ⟨.inl ⟨_, _, _, hrun, ⟨_, rfl, rfl⟩, fresh_one (Nat.le_refl _), (zE w).alloc e cs cells hcs⟩, hg a hf⟩,
  fun v d hE ⟨g, h2, h3⟩ => by subst h2; subst h3; exact hr g (fresh_head hE) _ (hf.put o.dst _ hi)⟩)
theorem fresh_set {w : World} {D : List Ent} {i : Nat} {d e : Ent} (h : Fresh w D) (hd : D[i]? = some d) (hg : e.g = d.g) : Fresh w (D.set i e) := fun c hc => by
 rcases set_mem hc with rfl | ⟨j, _, hj⟩
 ·rw [hg]; exact h d (List.mem_of_getElem? hd)
 ·exact h c (List.mem_of_getElem? hj)
theorem TR.storeW {i g s : Nat} {ent : Ent} {vs : List Value} (hg : Wants n ops L o) (hd : o.dst = none) (ho : o.op = .store t x y) (hsz : (P.info? t).map (·.size) = some s)
  (hx : ev L x = some (.pointer (some ⟨g, 0, none⟩))) (hy : ev L y = some (.agg vs.toArray)) (hl : vs.length = s) (h1 : ∀ u ∈ vs, u.oneCell' = true) (hi : D[i]? = some ent) (he : ent.g = g) (hoff : ent.cs.length = s)
  {D' : List Ent} (hH : D.set i ⟨ent.g, ent.t, vs, ent.tot⟩ = D') (hF : Fresh w0 D) (hr : TR P ops Q n w0 HB ks rs rest L X D') : TR P ops Q n w0 HB (4 :: ks) (r :: rs) (o :: rest) L X D :=
 fun a hf => .inr (.inr ⟨rfl, hd, D', ⟨fun Z w hZ hs => by
  subst hH
  have hlt : i < D.length := (List.getElem?_eq_some_iff.1 hi).1
  have hi2 : (HB ++ (Z ++ D))[HB.length + (Z.length + i)]? = some ent := by
   rw [List.getElem?_append_right (by omega), List.getElem?_append_right (by omega), ← hi]
   congr 1; omega
  obtain ⟨w', hrun, hs'⟩ := run_storeCells (P := P) (i := HB.length + (Z.length + i)) (g := g) (ent := ent) (off := 0) vs 0 (HB ++ (Z ++ D)) ent w he hs hi2 h1 (by omega)
  refine ⟨w', ?_, ?_⟩
  ·simp only [execOp, ho, hf.eval hx, hf.eval hy]
   refine run_unit ?_
   simp only [Instr.storeAt, Instr.sureAddr, storeVar, Sem.run_bind, Sem.run_pure, Result.andThen_ok, run_size hsz]
   rw [if_neg (fun h => h (by simpa [Value.cells] using hl))]
   simpa [Value.cells] using hrun
  ·have h2 : ent.cs.drop (0 + 0 + vs.length) = [] := List.drop_of_length_le (by omega)
   rw [h2] at hs'
   simp only [Nat.add_zero, List.take_zero, List.nil_append, List.append_nil] at hs'
   rwa [List.set_append_right _ _ (by omega), List.set_append_right _ _ (by omega), show HB.length + (Z.length + i) - HB.length - Z.length = i by omega] at hs', hg a hf, by subst hH; exact fresh_set hF hi rfl⟩, hr a hf⟩)
theorem range_pick {α : Type} : ∀ l : List α, (List.range l.length).filterMap (l[·]?) = l
 | [] => rfl
 | c :: l => by
  rw [List.length_cons, List.range_succ_eq_map, List.filterMap_cons]
  simp only [List.getElem?_cons_zero, List.filterMap_map]
  have h := range_pick l
  refine congrArg (c :: ·) ?_
  refine Eq.trans ?_ h
  congr 1
theorem perm_pick {α : Type} {l : List α} {p : List Nat} {l' : List α} (h : p.isPerm (List.range l.length) = true) (hl : p.filterMap (l[·]?) = l') : l.Perm l' := by
 subst hl
 have h1 := List.isPerm_iff.1 h
 have h2 := h1.filterMap (l[·]?)
 refine List.Perm.trans ?_ h2.symm
 rw [range_pick]
end
section
variable {P : Program} {ops : Array Oper} {Q : Exit → Act → World → Prop} {n : Sz} {w0 : World} {L L' : List (Nat × Value)} {H : List Ent}
variable {o : Oper} {rest : List Oper} {v u : Value} {x y z : Operand} {k m j : Nat} {t t' e : TypeId} {ks : List Nat} {kd : IntKind} {p q : Int}
theorem Row.part {i g off : Nat} {ent : Ent} {vs : List Value} (hi : H[i]? = some ent) (hg : ent.g = g) (hv : (ent.cs.drop off).take vs.length = vs) : Row w0 H g off vs := Row.ent hi hg fun j u hu => by
 rw [← hv, List.getElem?_take] at hu
 split at hu
 ·rwa [List.getElem?_drop] at hu
 ·cases hu
theorem run_partN {cs : Array Value} {i s : Nat} {vs : List Value} (hag : (isAgg e).run P = fun w => .ok true w) (hsz : (P.info? e).map (·.size) = some s) (hv : (cs.toList.drop i).take s = vs) (w : World) : (part e cs i).run P w = .ok (.agg vs.toArray) w := by
 subst hv
 simp only [part, Sem.run_bind, hag, Result.andThen_ok, if_true, run_size hsz, Sem.run_pure]
 congr 2
 apply Array.ext'
 simp [List.take_drop]
theorem Gets.field {f : Nat} {fields : Array Field} {fl : Field} {cs : Array Value} (ho : o.op = .field t x f) (h1 : P.underlying t = some (.struct fields)) (hfl : fields[f]? = some fl) (hx : ev L x = some (.agg cs))
  (hp : ∀ w, (part fl.type cs fl.offset).run P w = .ok v w) : Gets P n w0 o L H v := fun a w hf hs => by
 simp only [execOp, ho, hf.eval hx]
 refine run_value ?_
 simp only [Instr.field, Sem.run_bind, run_under h1, Result.andThen_ok, hfl, asAgg, Sem.run_pure]
 exact hp w
theorem Gets.fieldN {f s : Nat} {fields : Array Field} {fl : Field} {cs vs : List Value} (ho : o.op = .field t x f) (h1 : P.underlying t = some (.struct fields)) (hfl : fields[f]? = some fl) (hx : ev L x = some (.agg cs.toArray))
  (hag : (isAgg fl.type).run P = fun w => .ok true w) (hsz : (P.info? fl.type).map (·.size) = some s) (hv : (cs.drop fl.offset).take s = vs) : Gets P n w0 o L H (.agg vs.toArray) :=
 Gets.field ho h1 hfl hx (run_partN hag hsz (by simpa using hv))
theorem fieldsOf_is {fs : Array Field} (h : P.underlying t = some (.struct fs)) : P.fieldsOf t = fs := by unfold Program.fieldsOf; rw [h]
theorem Gets.pairEq {f0 f1 : Field} {a b c d : Int} {k0 k1 : IntKind} (ho : o.op = .binOp .eql t x y t') (h1 : P.underlying t = some (.struct #[f0, f1])) (hn0 : f0.name ≠ "_") (hn1 : f1.name ≠ "_") (ho0 : f0.offset = 0) (ho1 : f1.offset = 1)
  (ht0 : P.underlying f0.type = some (.int k0)) (ht1 : P.underlying f1.type = some (.int k1)) (hsi : P.stoodInHeld t = false) (hgt : P.eqGuardType P.depth t = false)
  (hx : ev L x = some (.agg [int kd a, int kd b].toArray)) (hy : ev L y = some (.agg [int kd c, int kd d].toArray)) : Gets P n w0 o L H (.bool (decide (a = c ∧ b = d))) := fun ac w hf hs => by
 simp only [execOp, ho, hf.eval hx, hf.eval hy]
 refine run_value ?_
 have hg := run_eqGuard_agg (P := P) w .eql t x y [int kd a, int kd b].toArray [int kd c, int kd d].toArray hgt
 have hp := fun (ty : TypeId) (kk : IntKind) (l : List Value) (i : Nat) (v : Value) (ht : P.underlying ty = some (.int kk)) (hv : l[i]? = some v) (w : World) => run_part1 (P := P) (cs := l.toArray) (isAgg_no ht rfl) (by simpa using hv) w
 simp only [Sem.run_bind, hg, Result.andThen_ok]
 rw [run_eql_struct, run_equalIn_struct w 9999 t _ _ (by rw [fieldsOf_is h1]; exact h1) hsi, fieldsOf_is h1]
 simp only [Op.eqFields, Sem.run_bind, ne_eq, hn0, hn1, not_false_eq_true, if_true, ho0, ho1,
  hp f0.type k0 [int kd a, int kd b] 0 _ ht0 rfl, hp f0.type k0 [int kd c, int kd d] 0 _ ht0 rfl, hp f1.type k1 [int kd a, int kd b] 1 _ ht1 rfl, hp f1.type k1 [int kd c, int kd d] 1 _ ht1 rfl, Result.andThen_ok]
 have e0 := run_equalIn_int (P := P) w 9998 f0.type kd k0 a c ht0
 have e1 := run_equalIn_int (P := P) w 9998 f1.type kd k1 b d ht1
 rw [show (9998 + 1) = 9999 from rfl] at e0 e1
 have q1 := hp f1.type k1 [int kd a, int kd b] 1 _ ht1 rfl
 have q2 := hp f1.type k1 [int kd c, int kd d] 1 _ ht1 rfl
 rw [e0]
 by_cases hac : a = c
 ·subst hac
  simp only [beq_self_eq_true, Result.andThen_ok, Bool.not_true, Bool.false_eq_true, if_false, Sem.run_bind, q1, q2]
  rw [e1]
  by_cases hbd : b = d
  ·subst hbd
   simp only [beq_self_eq_true, Result.andThen_ok, Bool.not_true, Bool.false_eq_true, if_false, Sem.run_pure]
   simp
  ·have : (b == d) = false := by simpa using hbd
   simp [this, hbd]
 ·have : (a == c) = false := by simpa using hac
  simp [this, hac]
theorem Gets.capSlice {A : Option Addr} {len cap : Nat} (ho : o.op = .call { callee := .builtin .cap, args := #[x], argTypes := #[t] }) (h1 : P.underlying t = some (.slice e)) (hx : ev L x = some (.slice A len cap)) : Gets P n w0 o L H (.int .i64 cap) := fun a w hf hs => by
 simp only [execOp, ho, resolve, invoke, builtin, Sem.run_bind, Sem.run_pure, Result.andThen_ok, List.map_toArray, List.map_cons, List.map_nil, hf.eval hx, Builtin.cap_]
 simp [Sem.run_bind, run_under h1, goInt]
theorem TE.ret2C {fn : Func} {R : Ending → World → Prop} {i j g off s : Nat} {vs : List Value} (hres : fn.results = #[.cell i t, .tmp j]) (hag : (isAgg t).run P = fun w => .ok true w) (hsz : (P.info? t).map (·.size) = some s)
  (hx : look L i = some (.pointer (some ⟨g, off, none⟩))) (hy : look L j = some u) (hl : vs.length = s) (hc : Row w0 H g off vs) (h : ∀ w, St w0 H w → R (.returned (.tuple #[.agg vs.toArray, u])) w) (hds : n.ds = [] := by rfl) : TE (bodyPost P fn R) .ret n w0 L H := fun a w hf hs => by
 refine ⟨hf.1.trans hds, .tuple #[.agg vs.toArray, u], ?_, h w hs⟩
 have h1 : (a.tmps.getD i undef) = .pointer (some ⟨g, off, none⟩) := by simp [Array.getD_eq_getD_getElem?, hf.2.2 i _ hx]
 have h3 : (a.tmps.getD j undef) = u := by simp [Array.getD_eq_getD_getElem?, hf.2.2 j _ hy]
 have h2 := run_loadCells (P := P) (w := w) (b := g) (off := off) s 0 #[] vs hl (fun j u hu => by rw [Nat.zero_add]; exact hc w hs j u hu)
 simp only [results, hres]
 simp [Sem.run_bind, loadVar, hag, run_size hsz, loadCells]
 simp only [Array.getD_eq_getD_getElem?] at h1 h3
 simp [h1, h3, asAddr, h2]
theorem St.less {w : World} {g tot : Nat} {cs : List Value} (h : St w0 (⟨g, t, cs, tot⟩ :: H) w) : St w0 (⟨g, t, [], tot⟩ :: H) w :=
 ⟨h.os, h.tape, h.output, h.size, fun e he => by
  rcases List.mem_cons.1 he with rfl | he
  ·obtain ⟨cur, h1, h2, _⟩ := h.has _ List.mem_cons_self
   exact ⟨cur, h1, h2, by simp⟩
  ·exact h.has e (by simp [he]),
 fun b hb hne => h.old b hb (fun e he => by
  rcases List.mem_cons.1 he with rfl | he
  ·exact hne ⟨g, t, [], tot⟩ List.mem_cons_self
  ·exact hne e (by simp [he])), .cons (fun d hd => (List.pairwise_cons.1 h.apart).1 d hd) (List.pairwise_cons.1 h.apart).2⟩
theorem TL.growNil {nn bytes : Nat} {zv : Value} (hg : Wants n ops L o) (hi' : inside n o.dst = true) (ho : o.op = .call { callee := .builtin .append, args := #[x, y], argTypes := #[t, t'] }) (h1 : P.underlying t = some (.slice e)) (h2 : P.underlying t' = some (.int .i64))
  (hz : (P.info? e).map (fun i => (i.zero, i.size, i.bytes)) = some (some zv, 1, bytes)) (hzc : zv.cells = #[zv]) (hx : ev L x = some (.slice none 0 0)) (hy : ev L y = some (.int .i64 (nn : Int))) (hpos : 0 < nn) (hle : nn * bytes ≤ 140737488355328) (hnn : nn ≤ 140737488355328)
  (hr : ∀ g c, w0.heap.size ≤ g → nn ≤ c → c ≤ maxLen → TL P ops Q n w0 rest (put L o.dst (.slice (some ⟨g, 0, none⟩) nn c)) (⟨g, e, [], c⟩ :: H)) : TL P ops Q n w0 (o :: rest) L H :=
 fun a w hf hs => wpL_wants hg.nd (hg a hf) fun K hK => by
  obtain ⟨i, hi1, hi2⟩ := Option.map_eq_some_iff.1 hz
  simp only [Prod.mk.injEq] at hi2
  obtain ⟨hz1, hz2, hz3⟩ := hi2
  have hwrap : IntKind.i64.wrap (nn : Int) = (nn : Int) := IntWalk.i64_in _ (by omega)
  have hcap := grownCap_ge w nn 0 e
  have hcap2 := grownCap_le_maxLen w nn 0 e (by unfold maxLen; omega)
  have hn0 : nn ≠ 0 := by omega
  have hl0 : ¬ ((nn : Int) < 0) := by omega
  have hb : ¬ ((281474976710656 : Int) < (nn : Int) * (bytes : Int)) := by
   have h := Int.ofNat_le.2 hle
   rw [Int.natCast_mul] at h
   intro h'
   have h3 : ((140737488355328 : Nat) : Int) = 140737488355328 := rfl
   rw [h3] at h; omega
  have h63 : ¬ (9223372036854775807 < (nn : Int)) := by omega
  have h48 : ¬ (281474976710656 < Builtin.nextslicecap nn 0 * bytes) := by rw [nextslicecap_zero (by omega)]; omega
  obtain ⟨cs, hsz, hcs⟩ : ∃ cs : Array Value, cs.size = grownCap w nn 0 e ∧ (Builtin.append_ #[t, t'] o.type #[.slice none 0 0, .int .i64 (nn : Int)]).run P w = .ok (.slice (some ⟨w.heap.size, 0, none⟩) nn (grownCap w nn 0 e)) (w.drew.alloc (.cells cs e)) := by
   refine ⟨Builtin.zeroCells zv.cells nn ++ Builtin.zeroCells zv.cells (grownCap w nn 0 e - nn), ?_, ?_⟩
   ·rw [Array.size_append, size_zeroCells, size_zeroCells, hzc]
    show nn * 1 + (grownCap w nn 0 e - nn) * 1 = _
    omega
   ·simp [Builtin.append_, Sem.run_bind, run_under h1, run_under h2, sizeOf, typeInfo, zeroValue, hi1, hz1, hz2, hz3, asInt, asIntOf, hwrap, hn0, hl0, hb, h63, h48, Question.forced, Builtin.firstCells, newRow, grownCap]
  unfold Oper.wp
  have hrun : (execOp a.eval o).run P w = .ok (.value (.slice (some ⟨w.heap.size, 0, none⟩) nn (grownCap w nn 0 e))) (w.drew.alloc (.cells cs e)) := by
   simp only [execOp, ho, resolve, invoke, builtin, Sem.run_bind, Sem.run_pure, Result.andThen_ok, List.map_toArray, List.map_cons, List.map_nil, hf.eval hx, hf.eval hy, hcs]
  rw [hrun]
  have h := hs.drew.alloc e cs.toList cs rfl
  have hlen : cs.toList.length = grownCap w nn 0 e := by simpa using hsz
  rw [hlen] at h
  exact hK _ _ (hr w.heap.size (grownCap w nn 0 e) hs.size hcap hcap2 _ _ (hf.put o.dst _ hi') (St.less h))
end
section
variable {P : Program} {ops : Array Oper} {Q : Exit → Act → World → Prop} {n : Sz} {w0 : World} {L L' : List (Nat × Value)} {HB X D : List Ent}
variable {o : Oper} {rest : List Oper} {v u : Value} {x y z : Operand} {k m j : Nat} {t t' e : TypeId} {ks : List Nat} {kd : IntKind} {r : Value → List Ent → Prop} {rs : List (Value → List Ent → Prop)}
theorem TR.call3 {ι : Type} {f : FuncId} {xs : List Operand} {ts : Array TypeId} {vs : List Value} {V : ι → Value} {R : ι → Prop} {E : ι → List Ent} (hg : Wants n ops L o) (hi : inside n o.dst = true) (h : Enters P f)
  (ho : o.op = .call { callee := .value (.func f), args := xs.toArray, argTypes := ts }) (hx : evs L xs = some vs)
  (hc : ∀ Z w, Fresh w0 Z → St w0 (HB ++ Z) w → Calls P f vs.toArray w fun e w' => ∃ i, e = .returned (V i) ∧ R i ∧ Fresh w (E i) ∧ St w (E i) w')
  (hr : ∀ i, R i → Fresh w0 (E i) → TR P ops Q n w0 HB ks rs rest (put L o.dst (V i)) (X ++ E i) D) : TR P ops Q n w0 HB (3 :: ks) ((fun v e => ∃ i, R i ∧ v = V i ∧ e = E i) :: rs) (o :: rest) L X D :=
 TR.call (k := 3) (.inl rfl) hg hi h ho hx hc hr
end
section
variable {P : Program} {ops : Array Oper} {Q : Exit → Act → World → Prop} {n : Sz} {w0 : World} {L : List (Nat × Value)} {H : List Ent} {o : Oper} {rest : List Oper} {ks : List Nat} {k m j d : Nat} {b c : Bool}
theorem guard_undef {a : Act} (hf : Fr n L a) (hj : (ops[j]?).bind (·.dst) = some d) (hd : look L d = some undef) : yielded ops a.tmps j = none := by
 unfold yielded
 rw [hj]
 simp [hf.2.2 d _ hd, undef]
theorem TM.pass1 (h : o.guard = some (j, c)) (hj : (ops[j]?).bind (·.dst) = some d) (hd : look L d = some (.bool b)) (hi : inside n o.dst = true) (hb : b = !c) (hr : TM P ops Q n w0 ks rest (put L o.dst undef) H) : TM P ops Q n w0 (1 :: ks) (o :: rest) L H :=
 fun a hf => ⟨undef, St w0 H, ⟨.inr ⟨by subst hb; simp [Region.wanted, h, guard_val hf hj hd], rfl⟩, rfl⟩, hr _ (hf.put o.dst undef hi)⟩
end
section
variable {P : Program} {n : Sz} {w0 : World} {L : List (Nat × Value)} {H : List Ent} {o : Oper} {x y : Operand} {t t' : TypeId}
end
theorem dec_iff {p q : Prop} [Decidable p] [Decidable q] (h : p ↔ q) : Ending.returned (.bool (decide p)) = .returned (.bool (decide q)) := by rw [decide_eq_decide.2 h]
theorem dec_t {q : Prop} [Decidable q] (h : q) : Ending.returned (.bool true) = .returned (.bool (decide q)) := by rw [decide_eq_true h]
theorem dec_f {q : Prop} [Decidable q] (h : ¬ q) : Ending.returned (.bool false) = .returned (.bool (decide q)) := by rw [decide_eq_false h]
theorem ret_i {a b : Int} (h : a = b) : Ending.returned (.int .i64 a) = .returned (.int .i64 b) := by rw [h]
end Go.Proofs.YtegddcklbmonfaaGreatDoor
