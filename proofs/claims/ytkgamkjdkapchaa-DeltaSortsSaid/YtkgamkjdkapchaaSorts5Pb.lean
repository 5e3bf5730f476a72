/-
  Contracts of package command: Target, Source, Overlaps, contains.
-/
import Derived.Test.YtkgamkjdkapchaaSorts5Pa
import Derived.ArgAppend
import Derived.Laws.StructEq
import Derived.Below
import Derived.Test.YtkgamkjdkapchaaRows
/-
  A region that draws its order, the general law: operations that read nothing that is made (0) or that read what is made (1), operations that make blocks, of whatever has been made (3) or of what has been made (6), variables that are made (5) and written (4), which no other operation reads.
-/
namespace Go.Proofs.Ytkgamkjdkapchaa
set_option linter.unusedVariables false
set_option linter.unusedSimpArgs false
set_option linter.unusedVariables false
open Go Go.RowKit
section
variable {P : Program} {ops : Array Oper} {md : Region.Mode} {w0 : World} {HB : List Ent}
def compatS (i j : Nat) : Bool :=
  match j with
  | 0 => Nat.beq i 0 || Nat.beq i 1 || Nat.beq i 4
  | 1 => Nat.beq i 0 || Nat.beq i 1 || Nat.beq i 4
  | 3 => Nat.beq i 0 || Nat.beq i 1 || Nat.beq i 4 || Nat.beq i 3 || Nat.beq i 5 || Nat.beq i 6
  | 4 => Nat.beq i 0 || Nat.beq i 1
  | 5 => Nat.beq i 0 || Nat.beq i 1 || Nat.beq i 3 || Nat.beq i 5 || Nat.beq i 6
  | 6 => Nat.beq i 0 || Nat.beq i 1 || Nat.beq i 4 || Nat.beq i 5
  | _ => false
/-- i may stand before j. -/
def pairOKS (md : Region.Mode) (ops : Array Oper) (ks ms : List Nat) (i j : Nat) : Bool :=
  !Nat.beq i j &&
  ((ms.getD j 0).testBit i || (match ops[i]? with
    | some oi => (match ops[j]? with | some oj => oi.apart ops oj && compatS (ks.getD i 2) (ks.getD j 2) | none => true)
    | none => true)) &&
  (match ops[i]? with | some oi => oi.after.all (fun e => !Region.binds md e || !Nat.beq e.on j) | none => true)
def mixOKs (md : Region.Mode) (ops : Array Oper) (ks p : List Nat) : Bool :=
  Region.noSelect ops && Nat.beq p.length ops.size && ((List.range ops.size).all fun q => p.any (Nat.beq q)) &&
  (let ms := masks md ops
   p.all (fun i => decide (i < ops.size) && (match ops[i]? with | some oi => oi.after.all (fun e => !Region.binds md e || (!Nat.beq e.on i && decide (e.on < ops.size))) | none => true)) &&
   pairsOK (pairOKS md ops ks ms) p)
def PairS (md : Region.Mode) (ops : Array Oper) (ks : List Nat) (i j : Nat) : Prop :=
  i ≠ j ∧ (∀ oi oj, ops[i]? = some oi → ops[j]? = some oj → Before md ops j i ∨ (oi.apart ops oj = true ∧ compatS (ks.getD i 2) (ks.getD j 2) = true)) ∧
  ∀ oi, ops[i]? = some oi → ∀ e ∈ oi.after, Region.binds md e = true → e.on ≠ j
theorem pairOKS_spec {ks : List Nat} {i j : Nat} (h : pairOKS md ops ks (masks md ops) i j = true) : PairS md ops ks i j := by
  unfold pairOKS at h
  simp only [Bool.and_eq_true, Bool.or_eq_true, Bool.not_eq_true'] at h
  obtain ⟨⟨h1, h2⟩, h3⟩ := h
  refine ⟨nbeq_ne h1, fun oi oj hi hj => ?_, fun oi hi e he hb => ?_⟩
  · rcases h2 with h2 | h2
    · exact .inl (masks_spec h2)
    · rw [hi, hj] at h2
      simp only [Bool.and_eq_true] at h2
      exact .inr h2
  · rw [hi] at h3
    simp only [Array.all_eq_true_iff_forall_mem, Bool.or_eq_true, Bool.not_eq_true'] at h3
    exact nbeq_ne ((h3 e he).resolve_left (by simp [hb]))
theorem mixOKs_spec {ks p : List Nat} (h : mixOKs md ops ks p = true) : Region.noSelect ops = true ∧ p.length = ops.size ∧ (∀ q, q < ops.size → q ∈ p) ∧
    (∀ i ∈ p, i < ops.size ∧ ∀ oi, ops[i]? = some oi → ∀ e ∈ oi.after, Region.binds md e = true → e.on ≠ i ∧ e.on < ops.size) ∧ p.Pairwise (PairS md ops ks) := by
  unfold mixOKs at h
  simp only [Bool.and_eq_true, List.all_eq_true, decide_eq_true_eq] at h
  obtain ⟨⟨⟨h1, h2⟩, h7⟩, h3, h4⟩ := h
  refine ⟨h1, Nat.eq_of_beq_eq_true h2, fun q hq => ?_, fun i hi => ⟨(h3 i hi).1, fun oi hoi e he hb => ?_⟩, (pairsOK_spec h4).imp pairOKS_spec⟩
  · obtain ⟨r, hr, hqr⟩ := List.any_eq_true.1 (h7 q (List.mem_range.2 hq))
    rw [Nat.eq_of_beq_eq_true hqr]; exact hr
  have h5 := (h3 i hi).2
  rw [hoi] at h5
  simp only [Array.all_eq_true_iff_forall_mem, Bool.or_eq_true, Bool.and_eq_true, Bool.not_eq_true', decide_eq_true_eq] at h5
  have h6 := (h5 e he).resolve_left (by simp [hb])
  exact ⟨nbeq_ne h6.1, h6.2⟩

theorem Fresh.app {X Y : List Ent} (hx : Fresh w0 X) (hy : Fresh w0 Y) : Fresh w0 (X ++ Y) := fun d hd => (List.mem_append.1 hd).elim (hx d) (hy d)
theorem Val.moreL {k : Nat} {X E : List Ent} {o : Oper} {v : Value} {a : Act} (h : Val P ops w0 HB k X o v a) (he : Fresh w0 E) : Val P ops w0 HB k (X ++ E) o v a := fun Z hZ => by
  by_cases hk : k = 0
  · have := h Z hZ
    rw [if_pos hk] at this ⊢; exact this
  · have := h (E ++ Z) (he.app hZ)
    rw [if_neg hk] at this ⊢
    rw [List.append_assoc]
    exact this
/-- The operation makes blocks. -/
def MakesL (P : Program) (ops : Array Oper) (o : Oper) (a : Act) (R : Value → List Ent → Prop) (w : World) : Prop :=
  ((∃ v E w', (execOp a.eval o).run P w = .ok (.value v) w' ∧ R v E ∧ Fresh w E ∧ St w E w') ∨
    (∃ f vs, (execOp a.eval o).run P w = .ok (.enter f vs) w ∧ Calls P f vs w fun e w'' => ∃ v E, e = .returned v ∧ R v E ∧ Fresh w E ∧ St w E w'')) ∧ Region.wanted o (yielded ops a.tmps) = true
theorem MakesL.of_same {o : Oper} {a a' : Act} {w : World} {R : Value → List Ent → Prop} (h : MakesL P ops o a R w) (he : execOp a'.eval o = execOp a.eval o)
    (hw : Region.wanted o (yielded ops a'.tmps) = Region.wanted o (yielded ops a.tmps)) : MakesL P ops o a' R w := by
  unfold MakesL at *; rw [he, hw]; exact h
theorem MakesL.one {o : Oper} {a : Act} {w : World} {R : Value → List Ent → Prop} (h : MakesL P ops o a R w) : ∃ v E w', R v E ∧ Fresh w E ∧ St w E w' := by
  rcases h.1 with ⟨v, E, w', _, h1, h2, h3⟩ | ⟨f, vs, _, hc⟩
  · exact ⟨v, E, w', h1, h2, h3⟩
  · obtain ⟨e, w', fr, ⟨v, E, _, h1, h2, h3⟩, _⟩ := hc []
    exact ⟨v, E, w', h1, h2, h3⟩
/-- The operation writes among the blocks D. -/
def WritesD (P : Program) (ops : Array Oper) (w0 : World) (HB D D' : List Ent) (o : Oper) (a : Act) : Prop :=
  (∀ Z w, Fresh w0 Z → St w0 (HB ++ (Z ++ D)) w → ∃ w', (execOp a.eval o).run P w = .ok .skip w' ∧ St w0 (HB ++ (Z ++ D')) w') ∧ Region.wanted o (yielded ops a.tmps) = true ∧ Fresh w0 D'
theorem WritesD.of_same {D D' : List Ent} {o : Oper} {a a' : Act} (h : WritesD P ops w0 HB D D' o a) (he : execOp a'.eval o = execOp a.eval o)
    (hw : Region.wanted o (yielded ops a'.tmps) = Region.wanted o (yielded ops a.tmps)) : WritesD P ops w0 HB D D' o a' := by
  unfold WritesD at *; rw [he, hw]; exact h
theorem WritesD.perm {D D2 D' : List Ent} {o : Oper} {a : Act} (h : WritesD P ops w0 HB D D' o a) (hp : D.Perm D2) : WritesD P ops w0 HB D2 D' o a :=
  ⟨fun Z w hZ hw => h.1 Z w hZ (hw.perm (List.Perm.append_left HB (List.Perm.append_left Z hp.symm))), h.2⟩
def zOf (k : Nat) (X Z : List Ent) : List Ent := if k = 6 then X ++ Z else Z
def addX (k : Nat) (X E : List Ent) : List Ent := if k = 5 then X else X ++ E
def addD (k : Nat) (D E : List Ent) : List Ent := if k = 5 then D ++ E else D
def isM (k : Nat) : Prop := k = 3 ∨ k = 5 ∨ k = 6
def MixS (P : Program) (ops : Array Oper) (w0 : World) (HB : List Ent) (K : Nat → Nat) (RR : Nat → Value → List Ent → Prop) (T : Act → World → Prop) : List Nat → Act → List Ent → List Ent → Prop
  | [], a, X, D => ∀ w, St w0 (HB ++ (X ++ D)) w → T a w
  | i :: is, a, X, D => ∃ o, ops[i]? = some o ∧ (
      (K i < 2 ∧ ∃ v, Val P ops w0 HB (K i) X o v a ∧ MixS P ops w0 HB K RR T is (a.put o.dst v) X D) ∨
      (isM (K i) ∧ (∀ Z w, Fresh w0 Z → St w0 (HB ++ zOf (K i) X Z) w → MakesL P ops o a (RR i) w) ∧ ∀ v E, Fresh w0 E → RR i v E → MixS P ops w0 HB K RR T is (a.put o.dst v) (addX (K i) X E) (addD (K i) D E)) ∨
      (K i = 4 ∧ o.dst = none ∧ ∃ D', WritesD P ops w0 HB D D' o a ∧ MixS P ops w0 HB K RR T is a X D'))
theorem zOf_perm {k : Nat} {X X' Z : List Ent} (hp : X.Perm X') : (zOf k X Z).Perm (zOf k X' Z) := by
  unfold zOf
  split
  · exact List.Perm.append_right Z hp
  · exact List.Perm.refl _
theorem addX_perm {k : Nat} {X X' E : List Ent} (hp : X.Perm X') : (addX k X E).Perm (addX k X' E) := by
  unfold addX
  split
  · exact hp
  · exact List.Perm.append_right E hp
theorem addD_perm {k : Nat} {X X' E : List Ent} (hp : X.Perm X') : (addD k X E).Perm (addD k X' E) := by
  unfold addD
  split
  · exact List.Perm.append_right E hp
  · exact hp
theorem addX_comm {k q : Nat} {X E F : List Ent} : (addX k (addX q X E) F).Perm (addX q (addX k X F) E) := by
  unfold addX
  split <;> split
  · exact List.Perm.refl _
  · exact List.Perm.refl _
  · exact List.Perm.refl _
  · rw [List.append_assoc, List.append_assoc]
    exact List.Perm.append_left X List.perm_append_comm
theorem addD_comm {k q : Nat} {X E F : List Ent} : (addD k (addD q X E) F).Perm (addD q (addD k X F) E) := by
  unfold addD
  split <;> split
  · rw [List.append_assoc, List.append_assoc]
    exact List.Perm.append_left X List.perm_append_comm
  · exact List.Perm.refl _
  · exact List.Perm.refl _
  · exact List.Perm.refl _
theorem Fresh.addX {k : Nat} {X E : List Ent} (hx : Fresh w0 X) (he : Fresh w0 E) : Fresh w0 (Proofs.Ytkgamkjdkapchaa.addX k X E) := by
  unfold Proofs.Ytkgamkjdkapchaa.addX
  split
  · exact hx
  · exact hx.app he
theorem Fresh.addD {k : Nat} {X E : List Ent} (hx : Fresh w0 X) (he : Fresh w0 E) : Fresh w0 (Proofs.Ytkgamkjdkapchaa.addD k X E) := by
  unfold Proofs.Ytkgamkjdkapchaa.addD
  split
  · exact hx.app he
  · exact hx
theorem Val.addX {k q : Nat} {X E : List Ent} {o : Oper} {v : Value} {a : Act} (h : Val P ops w0 HB k X o v a) (he : Fresh w0 E) : Val P ops w0 HB k (Proofs.Ytkgamkjdkapchaa.addX q X E) o v a := by
  unfold Proofs.Ytkgamkjdkapchaa.addX
  split
  · exact h
  · exact h.moreL he
theorem MixS.perm {K : Nat → Nat} {RR : Nat → Value → List Ent → Prop} {T : Act → World → Prop} : ∀ (is : List Nat) (a : Act) (X X' D D2 : List Ent), X.Perm X' → D.Perm D2 → MixS P ops w0 HB K RR T is a X D → MixS P ops w0 HB K RR T is a X' D2
  | [], a, X, X', D, D2, hp, hd, h => fun w hs => h w (hs.perm (List.Perm.append_left HB (hp.append hd).symm))
  | i :: is, a, X, X', D, D2, hp, hd, h => by
    obtain ⟨o, ho, h⟩ := h
    refine ⟨o, ho, ?_⟩
    rcases h with ⟨h1, v, h2, h3⟩ | ⟨h1, h2, h3⟩ | ⟨h1, hn, D', h2, h3⟩
    · exact .inl ⟨h1, v, h2.perm hp, MixS.perm is _ X X' _ _ hp hd h3⟩
    · exact .inr (.inl ⟨h1, fun Z w hZ hw => h2 Z w hZ (hw.perm (List.Perm.append_left HB (zOf_perm hp.symm))), fun v E hE hR => MixS.perm is _ _ _ _ _ (addX_perm hp) (addD_perm hd) (h3 v E hE hR)⟩)
    · exact .inr (.inr ⟨h1, hn, D', h2.perm hd, MixS.perm is _ _ _ _ _ hp (List.Perm.refl _) h3⟩)
theorem compatS_01 {i j : Nat} (h : compatS i j = true) (hj : j < 2) : i < 2 ∨ i = 4 := by
  unfold compatS at h
  match j, hj with
  | 0, _ => simp at h; omega
  | 1, _ => simp at h; omega
theorem compatS_4 {i : Nat} (h : compatS i 4 = true) : i < 2 := by
  simp [compatS] at h; omega
theorem compatS_M {i j : Nat} (hj : isM j) (h : compatS i j = true) : i < 2 ∨ (isM i ∧ (j = 6 → i = 5)) ∨ (i = 4 ∧ j ≠ 5) := by
  unfold isM at *
  rcases hj with rfl | rfl | rfl <;> (simp [compatS] at h; omega)
theorem MixS.first01 {K : Nat → Nat} {RR : Nat → Value → List Ent → Prop} {T : Act → World → Prop} (hsel : ∀ (j : Nat) (o : Oper) cs b, ops[j]? = some o → o.op ≠ .select cs b) {j : Nat} {oj : Oper} (hj : ops[j]? = some oj) (hk : K j < 2) (post : List Nat) :
    ∀ (pre : List Nat) (a : Act) (X D : List Ent), (∀ i oi, i ∈ pre → ops[i]? = some oi → oi.apart ops oj = true ∧ compatS (K i) (K j) = true) → MixS P ops w0 HB K RR T (pre ++ j :: post) a X D →
      ∃ v, Val P ops w0 HB (K j) X oj v a ∧ MixS P ops w0 HB K RR T (pre ++ post) (a.put oj.dst v) X D
  | [], a, X, D, _, h => by
    obtain ⟨o, ho, h⟩ := h
    rw [hj] at ho; cases ho
    rcases h with ⟨_, v, h2, h3⟩ | ⟨h1, _⟩ | ⟨h1, _⟩
    · exact ⟨v, h2, h3⟩
    · unfold isM at h1; omega
    · omega
  | i :: pre, a, X, D, hap, h => by
    obtain ⟨oi, hi, h⟩ := h
    obtain ⟨hap1, hcomp⟩ := hap i oi List.mem_cons_self hi
    obtain ⟨h1, h2, h3⟩ := Oper.apart_spec hap1
    have hap' := fun k ok hk => hap k ok (List.mem_cons_of_mem _ hk)
    have hc := compatS_01 hcomp hk
    rcases h with ⟨hki, vi, hf, hs⟩ | ⟨hki, _⟩ | ⟨hki, hn, Di, hw, hs⟩
    · obtain ⟨vj, hfj, hsj⟩ := MixS.first01 hsel hj hk post pre (a.put oi.dst vi) X D hap' hs
      exact ⟨vj, hfj.of_same (execOp_put oj (fun cs b => hsel j oj cs b hj) a oi.dst vi h1).symm (wanted_put oj a oi.dst vi h1).symm, oi, hi,
        .inl ⟨hki, vi, hf.of_same (execOp_put oi (fun cs b => hsel i oi cs b hi) a oj.dst vj h3) (wanted_put oi a oj.dst vj h3), by rw [← Act.put_comm a vi vj h2]; exact hsj⟩⟩
    · unfold isM at hki; omega
    · obtain ⟨vj, hfj, hsj⟩ := MixS.first01 hsel hj hk post pre a X Di hap' hs
      exact ⟨vj, hfj, oi, hi, .inr (.inr ⟨hki, hn, Di, hw.of_same (execOp_put oi (fun cs b => hsel i oi cs b hi) a oj.dst vj h3) (wanted_put oi a oj.dst vj h3), hsj⟩)⟩
theorem MixS.first4 {K : Nat → Nat} {RR : Nat → Value → List Ent → Prop} {T : Act → World → Prop} (hsel : ∀ (j : Nat) (o : Oper) cs b, ops[j]? = some o → o.op ≠ .select cs b) {j : Nat} {oj : Oper} (hj : ops[j]? = some oj) (hk : K j = 4) (post : List Nat) :
    ∀ (pre : List Nat) (a : Act) (X D : List Ent), (∀ i oi, i ∈ pre → ops[i]? = some oi → oi.apart ops oj = true ∧ compatS (K i) (K j) = true) → MixS P ops w0 HB K RR T (pre ++ j :: post) a X D →
      oj.dst = none ∧ ∃ D', WritesD P ops w0 HB D D' oj a ∧ MixS P ops w0 HB K RR T (pre ++ post) a X D'
  | [], a, X, D, _, h => by
    obtain ⟨o, ho, h⟩ := h
    rw [hj] at ho; cases ho
    rcases h with ⟨h1, _⟩ | ⟨h1, _⟩ | ⟨_, h2, h3⟩
    · omega
    · unfold isM at h1; omega
    · exact ⟨h2, h3⟩
  | i :: pre, a, X, D, hap, h => by
    obtain ⟨oi, hi, h⟩ := h
    obtain ⟨hap1, hcomp⟩ := hap i oi List.mem_cons_self hi
    obtain ⟨h1, h2, h3⟩ := Oper.apart_spec hap1
    have hap' := fun k ok hk => hap k ok (List.mem_cons_of_mem _ hk)
    rw [hk] at hcomp
    have hc := compatS_4 hcomp
    rcases h with ⟨hki, vi, hf, hs⟩ | ⟨hki, _⟩ | ⟨hki, _⟩
    · obtain ⟨hn, Dj, hwj, hsj⟩ := MixS.first4 hsel hj hk post pre (a.put oi.dst vi) X D hap' hs
      exact ⟨hn, Dj, hwj.of_same (execOp_put oj (fun cs b => hsel j oj cs b hj) a oi.dst vi h1).symm (wanted_put oj a oi.dst vi h1).symm, oi, hi, .inl ⟨hki, vi, hf, hsj⟩⟩
    · unfold isM at hki; omega
    · omega
theorem MixS.firstM {K : Nat → Nat} {RR : Nat → Value → List Ent → Prop} {T : Act → World → Prop} (hsel : ∀ (j : Nat) (o : Oper) cs b, ops[j]? = some o → o.op ≠ .select cs b) {j : Nat} {oj : Oper} (hj : ops[j]? = some oj) (hk : isM (K j)) (post : List Nat) :
    ∀ (pre : List Nat) (a : Act) (X D : List Ent), (∀ i oi, i ∈ pre → ops[i]? = some oi → oi.apart ops oj = true ∧ compatS (K i) (K j) = true) → MixS P ops w0 HB K RR T (pre ++ j :: post) a X D →
      ((∃ Z w, Fresh w0 (X ++ Z) ∧ St w0 (HB ++ (X ++ Z)) w) → ∀ Z w, Fresh w0 Z → St w0 (HB ++ zOf (K j) X Z) w → MakesL P ops oj a (RR j) w) ∧
        ∀ v E, Fresh w0 E → RR j v E → MixS P ops w0 HB K RR T (pre ++ post) (a.put oj.dst v) (addX (K j) X E) (addD (K j) D E)
  | [], a, X, D, _, h => by
    obtain ⟨o, ho, h⟩ := h
    rw [hj] at ho; cases ho
    rcases h with ⟨h1, _⟩ | ⟨_, h2, h3⟩ | ⟨h1, _⟩
    · unfold isM at hk; omega
    · exact ⟨fun _ => h2, h3⟩
    · unfold isM at hk; omega
  | i :: pre, a, X, D, hap, h => by
    obtain ⟨oi, hi, h⟩ := h
    obtain ⟨hap1, hcomp⟩ := hap i oi List.mem_cons_self hi
    obtain ⟨h1, h2, h3⟩ := Oper.apart_spec hap1
    have hap' := fun k ok hk => hap k ok (List.mem_cons_of_mem _ hk)
    have hc := compatS_M hk hcomp
    have ej := fun v => (execOp_put oj (fun cs b => hsel j oj cs b hj) a oi.dst v h1).symm
    have wj := fun v => (wanted_put oj a oi.dst v h1).symm
    have ei := fun v => execOp_put oi (fun cs b => hsel i oi cs b hi) a oj.dst v h3
    have wi := fun v => wanted_put oi a oj.dst v h3
    rcases h with ⟨hki, vi, hf, hs⟩ | ⟨hki, hm, hs⟩ | ⟨hki, hn, Di, hw, hs⟩
    · obtain ⟨hmj, hsj⟩ := MixS.firstM hsel hj hk post pre (a.put oi.dst vi) X D hap' hs
      refine ⟨fun hex Z w hZ hst => (hmj hex Z w hZ hst).of_same (ej vi) (wj vi), fun v E hE hR => ⟨oi, hi, .inl ⟨hki, vi, ?_, ?_⟩⟩⟩
      · exact (hf.of_same (ei v) (wi v)).addX hE
      · rw [← Act.put_comm a vi v h2]; exact hsj v E hE hR
    · have rec_ := fun v E (hE : Fresh w0 E) (hR : RR i v E) => MixS.firstM hsel hj hk post pre (a.put oi.dst v) (addX (K i) X E) (addD (K i) D E) hap' (hs v E hE hR)
      have hc2 : K j = 6 → K i = 5 := by
        unfold isM at *; omega
      refine ⟨fun hex Z w hZ hst => ?_, fun v E hE hR => ⟨oi, hi, .inr (.inl ⟨hki, fun Z w hZ hst => ?_, fun vi Ei hEi hRi => ?_⟩)⟩⟩
      · obtain ⟨Z1, w1, hZ1, hs1⟩ := hex
        have hone : ∃ v E w', RR i v E ∧ Fresh w1 E ∧ St w1 E w' := by
          by_cases h6 : K i = 6
          · refine (hm Z1 w1 (fun e he => hZ1 e (List.mem_append.2 (.inr he))) ?_).one
            unfold zOf; rw [if_pos h6]; exact hs1
          · refine (hm (X ++ Z1) w1 hZ1 ?_).one
            unfold zOf; rw [if_neg h6]; exact hs1
        obtain ⟨vi, Ei, w', hRi, hEi, hst'⟩ := hone
        have hEi0 : Fresh w0 Ei := fun e he => Nat.le_trans hs1.size (hEi e he)
        have hall := st_call hs1 hst' hEi
        have hex' : ∃ Z w, Fresh w0 (addX (K i) X Ei ++ Z) ∧ St w0 (HB ++ (addX (K i) X Ei ++ Z)) w := by
          unfold addX
          split
          · exact ⟨Z1 ++ Ei, w', by rw [← List.append_assoc]; exact hZ1.app hEi0, by rw [← List.append_assoc X, ← List.append_assoc HB]; exact hall⟩
          · refine ⟨Z1, w', fun e he => ?_, hall.perm ?_⟩
            · simp only [List.append_assoc, List.mem_append] at he
              rcases he with he | he | he
              · exact hZ1 e (List.mem_append.2 (.inl he))
              · exact hEi0 e he
              · exact hZ1 e (List.mem_append.2 (.inr he))
            · simp only [List.append_assoc]
              exact List.Perm.append_left HB (List.Perm.append_left X List.perm_append_comm)
        refine ((rec_ vi Ei hEi0 hRi).1 hex' Z w hZ ?_).of_same (ej vi) (wj vi)
        have hz : zOf (K j) (addX (K i) X Ei) Z = zOf (K j) X Z := by
          unfold zOf addX
          by_cases h6 : K j = 6
          · rw [if_pos h6, if_pos h6, if_pos (hc2 h6)]
          · rw [if_neg h6, if_neg h6]
        rw [hz]; exact hst
      · by_cases h6 : K i = 6
        · unfold zOf at hst; rw [if_pos h6] at hst
          have hE2 : ∃ E2, Fresh w0 E2 ∧ addX (K j) X E ++ Z = X ++ E2 := by
            unfold addX
            split
            · exact ⟨Z, hZ, rfl⟩
            · exact ⟨E ++ Z, hE.app hZ, List.append_assoc ..⟩
          obtain ⟨E2, hE2, heq⟩ := hE2
          refine (hm E2 w hE2 ?_).of_same (ei v) (wi v)
          unfold zOf; rw [if_pos h6, ← heq]; exact hst
        · unfold zOf at hst; rw [if_neg h6] at hst
          refine (hm Z w hZ ?_).of_same (ei v) (wi v)
          unfold zOf; rw [if_neg h6]; exact hst
      · have := (rec_ vi Ei hEi hRi).2 v E hE hR
        rw [Act.put_comm a vi v h2] at this
        exact MixS.perm _ _ _ _ _ _ addX_comm addD_comm this
    · obtain ⟨hmj, hsj⟩ := MixS.firstM hsel hj hk post pre a X Di hap' hs
      have h5 : K j ≠ 5 := by
        unfold isM at *; omega
      refine ⟨hmj, fun v E hE hR => ⟨oi, hi, .inr (.inr ⟨hki, hn, Di, ?_, ?_⟩)⟩⟩
      · have := hw.of_same (ei v) (wi v)
        unfold addD; rw [if_neg h5]; exact this
      · have := hsj v E hE hR
        unfold addD at this; rw [if_neg h5] at this; exact this
theorem wpAny_of_mixS {Q : Exit → Act → World → Prop} {RR : Nat → Value → List Ent → Prop} {ks p : List Nat} (hks : ∀ i ∈ p, ks.getD i 2 < 2 ∨ isM (ks.getD i 2) ∨ ks.getD i 2 = 4) (hns : Region.noSelect ops = true) (hself : ∀ i ∈ p, i < ops.size ∧ ∀ oi, ops[i]? = some oi → ∀ e ∈ oi.after, Region.binds md e = true → e.on ≠ i ∧ e.on < ops.size) :
    ∀ (n : Nat) (is : List Nat) (listed : Array Bool) (a : Act) (w : World) (X D : List Ent), is.length = n → is.Pairwise (PairS md ops ks) → (∀ i ∈ is, i ∈ p) → Lists ops.size md ops is listed → MixS P ops w0 HB (ks.getD · 2) RR (Q .normal) is a X D → Fresh w0 X → Fresh w0 D → St w0 (HB ++ (X ++ D)) w →
      wpAny P md ops Q n listed a w := by
  have hsel := Region.noSelect_spec hns
  intro n
  induction n with
  | zero =>
    intro is listed a w X D hlen _ _ hl hs hX hD hS
    obtain rfl : is = [] := List.length_eq_zero_iff.1 hlen
    refine wpAny_done ?_ (hs w hS) 0
    rw [List.eq_nil_iff_forall_not_mem]
    intro j hj
    obtain ⟨hjun, oj, hoj, _⟩ := mem_ready.1 hj
    have hjs : j < ops.size := (Array.getElem?_eq_some_iff.1 hoj).1
    have := (hl.2.1 j hjs).1 hjun
    simp at this
    omega
  | succ n ih =>
    intro is listed a w X D hlen hpw hlt hl hs hX hD hS
    have hnd : is.Nodup := hpw.imp (fun h => h.1)
    refine ⟨fun hnone => ?_, fun j hj => ?_⟩
    · exfalso
      obtain ⟨i, is', rfl⟩ : ∃ i is', is = i :: is' := by
        cases is with
        | nil => simp at hlen
        | cons i is' => exact ⟨i, is', rfl⟩
      obtain ⟨him, hafter⟩ := hself i (hlt i List.mem_cons_self)
      have hi : ops[i]? = some ops[i] := Array.getElem?_eq_getElem him
      have hmem : i ∈ Region.ready md ops listed := by
        rw [mem_ready]
        refine ⟨(hl.2.1 i him).2 (.inl List.mem_cons_self), _, hi, fun e he hb => ?_⟩
        obtain ⟨hne, hon⟩ := hafter _ hi e he hb
        rw [getD_false_of (by rw [hl.1]; exact hon), hl.2.1 e.on hon]
        rintro (h | h)
        · rcases List.mem_cons.1 h with h | h
          · exact hne h
          · exact ((List.pairwise_cons.1 hpw).1 _ h).2.2 _ hi e he hb rfl
        · omega
      rw [hnone] at hmem
      cases hmem
    · obtain ⟨hjun, oj, hoj, hall⟩ := mem_ready.1 hj
      have hjs : j < ops.size := (Array.getElem?_eq_some_iff.1 hoj).1
      have hnw : ∀ i ∈ is, ¬ Before md ops j i := fun i hi hw => by
        have h1 := hw listed hl.2.2 (fun o ho' e he hb => by rw [hoj] at ho'; cases ho'; exact hall e he hb)
        have him := (hself i (hlt i hi)).1
        exact (getD_false_of (by rw [hl.1]; omega)).1 h1 ((hl.2.1 i him).2 (.inl hi))
      have hjin : j ∈ is := by
        rcases (hl.2.1 j hjs).1 hjun with h | h
        · exact h
        · omega
      obtain ⟨pre, post, rfl⟩ := List.append_of_mem hjin
      have hap : ∀ i oi, i ∈ pre → ops[i]? = some oi → oi.apart ops oj = true ∧ compatS (ks.getD i 2) (ks.getD j 2) = true := fun i oi hi hoi => by
        have hij := (List.pairwise_append.1 hpw).2.2 i hi j List.mem_cons_self
        rcases hij.2.1 oi oj hoi hoj with hw | hap
        · exact absurd hw (hnw i (by simp [hi]))
        · exact hap
      have hsub : (pre ++ post).Sublist (pre ++ j :: post) := List.Sublist.append_left (List.sublist_cons_self _ _) _
      have next := fun a' w' X' D' => ih (pre ++ post) (listed.setIfInBounds j true) a' w' X' D' (by simp at hlen ⊢; omega) (hpw.sublist hsub) (fun i hi => hlt i (hsub.subset hi)) (hl.next rfl hnd hjs (Nat.le_refl _) hj)
      rcases hks j (hlt j hjin) with hk | hk | hk
      · obtain ⟨vj, hf, hs'⟩ := MixS.first01 (K := (ks.getD · 2)) hsel hoj hk post pre a X D hap hs
        have hfix : Fixed P ops (St w0 (HB ++ (X ++ D))) oj vj a := by
          by_cases hk0 : ks.getD j 2 = 0
          · have := hf (X ++ D) (hX.app hD)
            rw [if_pos hk0] at this; exact this
          · have := hf D hD
            rw [if_neg hk0] at this; exact this
        exact hfix.wpOp hoj hS fun w' hS' => next _ w' X D hs' hX hD hS'
      · obtain ⟨hf, hs'⟩ := MixS.firstM (K := (ks.getD · 2)) hsel hoj hk post pre a X D hap hs
        have hmk : MakesL P ops oj a (RR j) w := by
          by_cases h6 : ks.getD j 2 = 6
          · refine hf ⟨D, w, hX.app hD, hS⟩ D w hD ?_
            unfold zOf; rw [if_pos h6]; exact hS
          · refine hf ⟨D, w, hX.app hD, hS⟩ (X ++ D) w (hX.app hD) ?_
            unfold zOf; rw [if_neg h6]; exact hS
        obtain ⟨hr, hw⟩ := hmk
        unfold Go.wpOp
        simp only [hoj, hw, if_true, Oper.wp]
        refine .inl ?_
        have go : ∀ v E w', RR j v E → Fresh w E → St w E w' → wpAny P md ops Q n (listed.setIfInBounds j true) (a.put oj.dst v) w' := fun v E w' hR hE hw' => by
          have hE0 : Fresh w0 E := fun e he => Nat.le_trans hS.size (hE e he)
          refine next _ w' _ _ (hs' v E hE0 hR) (hX.addX hE0) (hD.addD hE0) ((st_call hS hw' hE).perm ?_)
          unfold addX addD
          split
          · simp only [List.append_assoc]; exact List.Perm.refl _
          · simp only [List.append_assoc]
            exact List.Perm.append_left HB (List.Perm.append_left X List.perm_append_comm)
        rcases hr with ⟨v, E, w', hr, hR, hE, hw'⟩ | ⟨f, vs, hr, hc⟩
        · rw [hr]; exact go v E w' hR hE hw'
        · rw [hr]
          refine hc.mono ?_
          rintro e w'' ⟨v, E, rfl, hR, hE, hw'⟩
          exact go v E w'' hR hE hw'
      · obtain ⟨hn, D', ⟨hf, hw, hD'⟩, hs'⟩ := MixS.first4 (K := (ks.getD · 2)) hsel hoj hk post pre a X D hap hs
        obtain ⟨w', hr, hS'⟩ := hf X w hX hS
        unfold Go.wpOp
        simp only [hoj, hw, if_true, Oper.wp]
        refine .inl ?_
        rw [hr]
        have := next a w' X D' hs' hX hD' hS'
        simpa [Oper.upon_skip, hn, Act.put] using this
def pickRL (rs : List (Value → List Ent → Prop)) : List Nat → List (Value → List Ent → Prop)
  | [] => []
  | i :: is => rs.getD i (fun _ _ => False) :: pickRL rs is
def MixMS (P : Program) (ops : Array Oper) (w0 : World) (HB : List Ent) (T : Act → World → Prop) : List Nat → List (Value → List Ent → Prop) → List Oper → Act → List Ent → List Ent → Prop
  | [], [], [], a, X, D => ∀ w, St w0 (HB ++ (X ++ D)) w → T a w
  | k :: ks, r :: rs, o :: rest, a, X, D => (k < 2 ∧ ∃ v, Val P ops w0 HB k X o v a ∧ MixMS P ops w0 HB T ks rs rest (a.put o.dst v) X D) ∨
      (isM k ∧ (∀ Z w, Fresh w0 Z → St w0 (HB ++ zOf k X Z) w → MakesL P ops o a r w) ∧ ∀ v E, Fresh w0 E → r v E → MixMS P ops w0 HB T ks rs rest (a.put o.dst v) (addX k X E) (addD k D E)) ∨
      (k = 4 ∧ o.dst = none ∧ ∃ D', WritesD P ops w0 HB D D' o a ∧ MixMS P ops w0 HB T ks rs rest a X D')
  | _, _, _, _, _, _ => False
theorem MixMS.seqp {T : Act → World → Prop} {l : List Oper} {ks : List Nat} {rs : List (Value → List Ent → Prop)} : ∀ (p : List Nat) (a : Act) (X D : List Ent), (∀ i ∈ p, i < l.length) → MixMS P l.toArray w0 HB T (pickK ks p) (pickRL rs p) (pickO l p) a X D →
    MixS P l.toArray w0 HB (ks.getD · 2) (rs.getD · (fun _ _ => False)) T p a X D
  | [], _, _, _, _, h => h
  | i :: is, a, X, D, hp, h => by
    have hlt := hp i List.mem_cons_self
    have hi : l[i]? = some l[i] := List.getElem?_eq_getElem hlt
    unfold pickO pickK pickRL at h
    rw [hi] at h
    have rec_ : ∀ a X D, MixMS P l.toArray w0 HB T (pickK ks is) (pickRL rs is) (pickO l is) a X D → MixS P l.toArray w0 HB (ks.getD · 2) (rs.getD · (fun _ _ => False)) T is a X D := fun a X D h => MixMS.seqp is a X D (fun j hj => hp j (List.mem_cons_of_mem _ hj)) h
    refine ⟨l[i], by rw [List.getElem?_toArray]; exact hi, ?_⟩
    rcases h with ⟨h1, v, h2, h3⟩ | ⟨h1, h2, h3⟩ | ⟨h1, hn, D', h2, h3⟩
    · exact .inl ⟨h1, v, h2, rec_ _ _ _ h3⟩
    · exact .inr (.inl ⟨h1, h2, fun v E hE hR => rec_ _ _ _ (h3 v E hE hR)⟩)
    · exact .inr (.inr ⟨h1, hn, D', h2, rec_ _ _ _ h3⟩)
def kindsOK (ks p : List Nat) : Bool := p.all fun i => Nat.blt (ks.getD i 2) 2 || (Nat.beq (ks.getD i 2) 3 || (Nat.beq (ks.getD i 2) 5 || Nat.beq (ks.getD i 2) 6)) || Nat.beq (ks.getD i 2) 4
theorem kindsOK_spec {ks p : List Nat} (h : kindsOK ks p = true) : ∀ i ∈ p, ks.getD i 2 < 2 ∨ isM (ks.getD i 2) ∨ ks.getD i 2 = 4 := fun i hi => by
  unfold kindsOK at h
  have := List.all_eq_true.1 h i hi
  simp only [Bool.or_eq_true, Nat.blt_eq] at this
  unfold isM
  rcases this with (h1 | h1 | h1 | h1) | h1
  · exact .inl h1
  · exact .inr (.inl (.inl (Nat.eq_of_beq_eq_true h1)))
  · exact .inr (.inl (.inr (.inl (Nat.eq_of_beq_eq_true h1))))
  · exact .inr (.inl (.inr (.inr (Nat.eq_of_beq_eq_true h1))))
  · exact .inr (.inr (Nat.eq_of_beq_eq_true h1))
theorem wp_mixS {md0 : Md} {Q : Exit → Act → World → Prop} {id : Nat} {l : List Oper} {a : Act} {w : World} {D : List Ent} (hmix : P.follows .mixedOrders = true) (ks p : List Nat) (rs : List (Value → List Ent → Prop)) (hks : kindsOK ks p = true) (ho : mixOKs .any l.toArray ks p = true)
    (hD : Fresh w0 D) (hS : St w0 (HB ++ D) w.drew) (h : MixMS P l.toArray w0 HB (Q .normal) (pickK ks p) (pickRL rs p) (pickO l p) a [] D) (hok : OkR md0 l.toArray Q) : wpn md0 P (Code.region id l.toArray true) Q a w := by
  refine wpnFrom_start hok hmix ?_
  intro listed hl
  have hsz : l.toArray.size = l.length := by simp
  obtain ⟨hns, hlen, hall, hself, hpw⟩ := mixOKs_spec ho
  have := wpAny_of_mixS (P := P) (Q := Q) (ks := ks) (kindsOK_spec hks) hns hself l.length p listed a w.drew [] D (hlen.trans hsz) hpw (fun i hi => hi)
    ⟨hl.1, fun q hq => by
      rw [hl.2.1 q hq]
      have := hall q hq
      simp [this], hl.2.2⟩ (MixMS.seqp p a [] D (fun i hi => by rw [← hsz]; exact (hself i hi).1) h) Fresh.nil hD (by rw [List.nil_append]; exact hS)
  rw [hsz, Nat.sub_zero]
  exact this
end
section
variable {P : Program} {ops : Array Oper} {Q : Exit → Act → World → Prop} {n : Sz} {w0 : World} {L L' : List (Nat × Value)} {HB X D : List Ent}
variable {o : Oper} {rest : List Oper} {v u : Value} {x y z : Operand} {k m j : Nat} {t t' e : TypeId} {ks : List Nat} {kd : IntKind} {r : Value → List Ent → Prop} {rs : List (Value → List Ent → Prop)}
def TR (P : Program) (ops : Array Oper) (Q : Exit → Act → World → Prop) (n : Sz) (w0 : World) (HB : List Ent) (ks : List Nat) (rs : List (Value → List Ent → Prop)) (rest : List Oper) (L : List (Nat × Value)) (X D : List Ent) : Prop :=
  ∀ a, Fr n L a → MixMS P ops w0 HB (Q .normal) ks rs rest a X D
theorem TC.mixS {id : Nat} {l : List Oper} {H : List Ent} (HB D : List Ent) (hmix : P.follows .mixedOrders = true) (ks p : List Nat) (rs : List (Value → List Ent → Prop)) (hks : kindsOK ks p = true) (ho : mixOKs .any l.toArray ks p = true) (hp : H.Perm (HB ++ D)) (hD : Fresh w0 D)
    (h : TR P l.toArray Q n w0 HB (pickK ks p) (pickRL rs p) (pickO l p) L [] D) (hok : OkR n.md l.toArray Q := by exact trivial) : TC P Q n w0 (.region id l.toArray true) L H :=
  fun a w hf hs => wp_mixS hmix ks p rs hks ho hD (hs.perm hp).drew (h a hf) hok
theorem TR.nil (h : TE Q .normal n w0 L (HB ++ (X ++ D))) : TR P ops Q n w0 HB [] [] [] L X D := fun a hf w hs => h a w hf hs
theorem TR.free (hg : Wants n ops L o) (hi : inside n o.dst = true) (h : ∀ w0, Gets P n w0 o L [] v) (hr : TR P ops Q n w0 HB ks rs rest (put L o.dst v) X D) : TR P ops Q n w0 HB (0 :: ks) (r :: rs) (o :: rest) L X D :=
  fun a hf => .inl ⟨by decide, v, fun Z _ => .inl ⟨hg a hf, fun w hS => by rw [h w a w hf (St.refl w)]; exact ⟨rfl, hS⟩⟩, hr _ (hf.put o.dst v hi)⟩
theorem TR.pass {j d : Nat} {b c : Bool} (h : o.guard = some (j, c)) (hj : (ops[j]?).bind (·.dst) = some d) (hd : look L d = some (.bool b)) (hi : inside n o.dst = true) (hb : b = !c) (hr : TR P ops Q n w0 HB ks rs rest (put L o.dst undef) X D) : TR P ops Q n w0 HB (0 :: ks) (r :: rs) (o :: rest) L X D :=
  fun a hf => .inl ⟨by decide, undef, fun Z _ => .inr ⟨by subst hb; simp [Region.wanted, h, guard_val hf hj hd], rfl⟩, hr _ (hf.put o.dst undef hi)⟩
theorem TR.gets (hg : Wants n ops L o) (hi : inside n o.dst = true) (h : ∀ Z, Fresh w0 Z → Gets P n w0 o L (HB ++ (X ++ Z)) v) (hr : TR P ops Q n w0 HB ks rs rest (put L o.dst v) X D) : TR P ops Q n w0 HB (1 :: ks) (r :: rs) (o :: rest) L X D :=
  fun a hf => .inl ⟨by decide, v, fun Z hZ => .inl ⟨hg a hf, fun w hS => by rw [if_neg (by decide)] at hS ⊢; rw [h Z hZ a w hf hS]; exact ⟨rfl, hS⟩⟩, hr _ (hf.put o.dst v hi)⟩
/-- A call that ends with one value and leaves all known blocks. -/
theorem TR.call0 {f : FuncId} {xs : List Operand} {ts : Array TypeId} {vs : List Value} (hg : Wants n ops L o) (hi : inside n o.dst = true) (h : Enters P f)
    (ho : o.op = .call { callee := .value (.func f), args := xs.toArray, argTypes := ts }) (hx : evs L xs = some vs)
    (hc : ∀ Z w, Fresh w0 Z → St w0 (HB ++ (X ++ Z)) w → Calls P f vs.toArray w fun e w' => e = .returned v ∧ St w [] w')
    (hr : TR P ops Q n w0 HB ks rs rest (put L o.dst v) X D) : TR P ops Q n w0 HB (1 :: ks) (r :: rs) (o :: rest) L X D :=
  fun a hf => .inl ⟨by decide, v, fun Z hZ => .inl ⟨hg a hf, fun w hS => by
    rw [if_neg (by decide)] at hS
    rw [run_enter h ho hf hx]
    exact (hc Z w hZ hS).mono fun e w' ⟨he, hw⟩ => ⟨he, by rw [if_neg (by decide)]; exact hS.call' hw⟩⟩, hr _ (hf.put o.dst v hi)⟩
/-- A call that makes blocks. -/
theorem TR.call {ι : Type} {f : FuncId} {xs : List Operand} {ts : Array TypeId} {vs : List Value} {V : ι → Value} {R : ι → Prop} {E : ι → List Ent} (hk : isM k) (hg : Wants n ops L o) (hi : inside n o.dst = true) (h : Enters P f)
    (ho : o.op = .call { callee := .value (.func f), args := xs.toArray, argTypes := ts }) (hx : evs L xs = some vs)
    (hc : ∀ Z w, Fresh w0 Z → St w0 (HB ++ zOf k X Z) w → Calls P f vs.toArray w fun e w' => ∃ i, e = .returned (V i) ∧ R i ∧ Fresh w (E i) ∧ St w (E i) w')
    (hr : ∀ i, R i → Fresh w0 (E i) → TR P ops Q n w0 HB ks rs rest (put L o.dst (V i)) (addX k X (E i)) (addD k D (E i))) : TR P ops Q n w0 HB (k :: ks) ((fun v e => ∃ i, R i ∧ v = V i ∧ e = E i) :: rs) (o :: rest) L X D :=
  fun a hf => .inr (.inl ⟨hk, fun Z w hZ hs => ⟨.inr ⟨f, vs.toArray, run_enter h ho hf hx, (hc Z w hZ hs).mono fun e w' ⟨i, he, hR, hE, hs'⟩ => ⟨V i, E i, he, ⟨i, hR, rfl, rfl⟩, hE, hs'⟩⟩, hg a hf⟩,
    fun v e hE ⟨i, hR, h1, h2⟩ => by subst h1; subst h2; exact hr i hR hE _ (hf.put o.dst _ hi)⟩)
theorem fresh_one {w : World} {e : Ent} (h : w.heap.size ≤ e.g) : Fresh w [e] := fun d hd => by rw [List.mem_singleton.1 hd]; exact h
theorem fresh_head {w : World} {e : Ent} {E : List Ent} (h : Fresh w (e :: E)) : w.heap.size ≤ e.g := h e (by simp)
/-- A slice of known values, made anew. -/
theorem TR.buildSlice {len s : Nat} {ps : List (Nat × Operand)} {vs : List (Nat × Value)} {cells : Array Value} {cs : List Value} {zv : Value} (hg : Wants n ops L o) (hi : inside n o.dst = true) (ho : o.op = .buildSlice t len ps.toArray)
    (h1 : P.underlying t = some (.slice e)) (hsz : (P.info? e).map (·.size) = some s) (hz : (P.info? e).bind (·.zero) = some zv) (hv : operVals L ps = some vs) (hlen : len * s ≤ 2 ^ 24) (hpos : (len * s = 0) = False)
    {tot : Nat} (hfill : Instr.fill (fun i => some (i * s, s)) ((Array.range (len * s)).map (zv.cells[· % zv.cells.size]!)) vs = some cells) (hcs : cells.toList = cs) (htot : cs.length = tot)
    (hr : ∀ g, w0.heap.size ≤ g → TR P ops Q n w0 HB ks rs rest (put L o.dst (.slice (some ⟨g, 0, none⟩) len len)) (X ++ [⟨g, e, cs, tot⟩]) D) :
    TR P ops Q n w0 HB (3 :: ks) ((fun v d => ∃ g, v = .slice (some ⟨g, 0, none⟩) len len ∧ d = [⟨g, e, cs, tot⟩]) :: rs) (o :: rest) L X D :=
  fun a hf => .inr (.inl ⟨.inl rfl, fun Z w hZ hs => by
    have hrun : (execOp a.eval o).run P w = .ok (.value (.slice (some ⟨w.heap.size, 0, none⟩) len len)) (w.alloc (.cells cells e)) := by
      have hm := operVals_eval hf hv
      have hm2 : (ps.map fun (x : Nat × Operand) => match x with | (i, x) => (i, a.eval x)) = vs := hm
      simp only [execOp, ho]
      refine run_value ?_
      simp only [Instr.buildSlice, Sem.run_bind, run_under h1, Result.andThen_ok, run_size hsz, List.map_toArray, hm2]
      rw [if_neg (by omega), if_neg (by simp [hpos])]
      simp only [Sem.run_bind, run_zero hz, Result.andThen_ok, Sem.run_pure, hfill]
      simp [newRow, newObj, Sem.run_bind, Sem.run]
    subst htot
    exact ⟨.inl ⟨_, _, _, hrun, ⟨_, rfl, rfl⟩, fresh_one (Nat.le_refl _), (St.refl w).alloc e cs cells hcs⟩, hg a hf⟩,
    fun v d hE ⟨g, h2, h3⟩ => by subst h2; subst h3; exact hr g (fresh_head hE) _ (hf.put o.dst _ hi)⟩)
theorem TR.emptySlice {s : Nat} (hg : Wants n ops L o) (hi : inside n o.dst = true) (ho : o.op = .buildSlice t 0 #[]) (h1 : P.underlying t = some (.slice e)) (hsz : (P.info? e).map (·.size) = some s)
    (hr : ∀ g, w0.heap.size ≤ g → TR P ops Q n w0 HB ks rs rest (put L o.dst (.slice (some ⟨g, 0, none⟩) 0 0)) (X ++ [⟨g, e, [], 0⟩]) D) :
    TR P ops Q n w0 HB (3 :: ks) ((fun v d => ∃ g, v = .slice (some ⟨g, 0, none⟩) 0 0 ∧ d = [⟨g, e, [], 0⟩]) :: rs) (o :: rest) L X D :=
  fun a hf => .inr (.inl ⟨.inl rfl, fun Z w hZ hs => by
    have hrun : (execOp a.eval o).run P w = .ok (.value (.slice (some ⟨w.heap.size, 0, none⟩) 0 0)) (w.alloc (.cells #[] e)) := by
      simp only [execOp, ho]
      refine run_value ?_
      have hr0 : Array.range 0 = #[] := rfl
      simp [Instr.buildSlice, Sem.run_bind, run_under h1, run_size hsz, Instr.fill, newRow, newObj, Sem.run, hr0]
    exact ⟨.inl ⟨_, _, _, hrun, ⟨_, rfl, rfl⟩, fresh_one (Nat.le_refl _), (St.refl w).alloc e [] #[] rfl⟩, hg a hf⟩,
    fun v d hE ⟨g, h2, h3⟩ => by subst h2; subst h3; exact hr g (fresh_head hE) _ (hf.put o.dst _ hi)⟩)
/-- A variable, made anew, that is written in the region. -/
theorem TR.alloc {cs : List Value} {zv : Value} (hg : Wants n ops L o) (hi : inside n o.dst = true) (ho : o.op = .alloc t) (hz : (P.info? t).bind (·.zero) = some zv) (hcs : zv.cells.toList = cs) {tot : Nat} (htot : cs.length = tot)
    (hr : ∀ g, w0.heap.size ≤ g → TR P ops Q n w0 HB ks rs rest (put L o.dst (.pointer (some ⟨g, 0, none⟩))) X (D ++ [⟨g, t, cs, tot⟩])) :
    TR P ops Q n w0 HB (5 :: ks) ((fun v d => ∃ g, v = .pointer (some ⟨g, 0, none⟩) ∧ d = [⟨g, t, cs, tot⟩]) :: rs) (o :: rest) L X D :=
  fun a hf => .inr (.inl ⟨.inr (.inl rfl), fun Z w hZ hs => by
    have hrun : (execOp a.eval o).run P w = .ok (.value (.pointer (some ⟨w.heap.size, 0, none⟩))) (w.alloc (.cells zv.cells t)) := by
      simp only [execOp, ho]
      refine run_value ?_
      simp only [Instr.alloc, Sem.run_bind, run_zero hz, Result.andThen_ok]
      simp [newVar, newRow, newObj, Sem.run_bind, Sem.run]
    subst htot
    exact ⟨.inl ⟨_, _, _, hrun, ⟨_, rfl, rfl⟩, fresh_one (Nat.le_refl _), (St.refl w).alloc t cs zv.cells hcs⟩, hg a hf⟩,
    fun v d hE ⟨g, h2, h3⟩ => by subst h2; subst h3; exact hr g (fresh_head hE) _ (hf.put o.dst _ hi)⟩)
theorem fresh_set {w : World} {D : List Ent} {i : Nat} {d e : Ent} (h : Fresh w D) (hd : D[i]? = some d) (hg : e.g = d.g) : Fresh w (D.set i e) := fun c hc => by
  rcases set_mem hc with rfl | ⟨j, _, hj⟩
  · rw [hg]; exact h d (List.mem_of_getElem? hd)
  · exact h c (List.mem_of_getElem? hj)
/-- A variable of the region's own is written whole. -/
theorem TR.storeW {i g s : Nat} {ent : Ent} {vs : List Value} (hg : Wants n ops L o) (hd : o.dst = none) (ho : o.op = .store t x y) (hsz : (P.info? t).map (·.size) = some s)
    (hx : ev L x = some (.pointer (some ⟨g, 0, none⟩))) (hy : ev L y = some (.agg vs.toArray)) (hl : vs.length = s) (h1 : ∀ u ∈ vs, u.oneCell' = true) (hi : D[i]? = some ent) (he : ent.g = g) (hoff : ent.cs.length = s)
    {D' : List Ent} (hH : D.set i ⟨ent.g, ent.t, vs, ent.tot⟩ = D') (hF : Fresh w0 D) (hr : TR P ops Q n w0 HB ks rs rest L X D') : TR P ops Q n w0 HB (4 :: ks) (r :: rs) (o :: rest) L X D :=
  fun a hf => .inr (.inr ⟨rfl, hd, D', ⟨fun Z w hZ hs => by
    subst hH
    have hlt : i < D.length := (List.getElem?_eq_some_iff.1 hi).1
    have hi2 : (HB ++ (Z ++ D))[HB.length + (Z.length + i)]? = some ent := by
      rw [List.getElem?_append_right (by omega), List.getElem?_append_right (by omega), ← hi]
      congr 1; omega
    obtain ⟨w', hrun, hs'⟩ := run_storeCells (P := P) (i := HB.length + (Z.length + i)) (g := g) (ent := ent) (off := 0) vs 0 (HB ++ (Z ++ D)) ent w he hs hi2 h1 (by omega)
    refine ⟨w', ?_, ?_⟩
    · simp only [execOp, ho, hf.eval hx, hf.eval hy]
      refine run_unit ?_
      simp only [Instr.storeAt, Instr.sureAddr, storeVar, Sem.run_bind, Sem.run_pure, Result.andThen_ok, run_size hsz]
      rw [if_neg (fun h => h (by simpa [Value.cells] using hl))]
      simpa [Value.cells] using hrun
    · have h2 : ent.cs.drop (0 + 0 + vs.length) = [] := List.drop_of_length_le (by omega)
      rw [h2] at hs'
      simp only [Nat.add_zero, List.take_zero, List.nil_append, List.append_nil] at hs'
      rwa [List.set_append_right _ _ (by omega), List.set_append_right _ _ (by omega), show HB.length + (Z.length + i) - HB.length - Z.length = i by omega] at hs', hg a hf, by subst hH; exact fresh_set hF hi rfl⟩, hr a hf⟩)
theorem range_pick {α : Type} : ∀ l : List α, (List.range l.length).filterMap (l[·]?) = l
  | [] => rfl
  | c :: l => by
    rw [List.length_cons, List.range_succ_eq_map, List.filterMap_cons]
    simp only [List.getElem?_cons_zero, List.filterMap_map]
    have h := range_pick l
    refine congrArg (c :: ·) ?_
    refine Eq.trans ?_ h
    congr 1
theorem perm_pick {α : Type} {l : List α} {p : List Nat} {l' : List α} (h : p.isPerm (List.range l.length) = true) (hl : p.filterMap (l[·]?) = l') : l.Perm l' := by
  subst hl
  have h1 := List.isPerm_iff.1 h
  have h2 := h1.filterMap (l[·]?)
  refine List.Perm.trans ?_ h2.symm
  rw [range_pick]
end
end Go.Proofs.Ytkgamkjdkapchaa
/-
  A region that draws its order, with operations that make memory: what is not bound to come behind such a one must be free of memory.
-/
namespace Go.Proofs.Ytkgamkjdkapchaa
set_option linter.unusedVariables false
set_option linter.unusedSimpArgs false
set_option linter.unusedVariables false
open Go Go.RowKit
section
variable {P : Program} {ops : Array Oper} {md : Region.Mode}
/-- The operation ends with one of many values, each with what it leaves. -/
def Many (P : Program) (ops : Array Oper) (o : Oper) (a : Act) (S : World → Prop) (R : Value → (World → Prop) → Prop) : Prop :=
  ∀ w, S w → ((∃ v w' S', (execOp a.eval o).run P w = .ok (.value v) w' ∧ R v S' ∧ S' w') ∨
    (∃ f vs w', (execOp a.eval o).run P w = .ok (.enter f vs) w' ∧ Calls P f vs w' fun e w'' => ∃ v S', e = .returned v ∧ R v S' ∧ S' w'')) ∧ Region.wanted o (yielded ops a.tmps) = true
theorem Many.of_same {o : Oper} {a a' : Act} {S : World → Prop} {R : Value → (World → Prop) → Prop} (h : Many P ops o a S R) (he : execOp a'.eval o = execOp a.eval o)
    (hw : Region.wanted o (yielded ops a'.tmps) = Region.wanted o (yielded ops a.tmps)) : Many P ops o a' S R := by
  unfold Many at *; rw [he, hw]; exact h
def compat3 (i j : Nat) : Bool := Nat.beq i 0 || (Nat.beq j 0 && !Nat.beq i 3) || (Nat.beq i 1 && Nat.beq j 1)
def MixSeq3 (P : Program) (ops : Array Oper) (K : Nat → Nat) (T : Act → World → Prop) : List Nat → Act → (World → Prop) → Prop
  | [], a, S => ∀ w, S w → T a w
  | i :: is, a, S => ∃ o, ops[i]? = some o ∧ ((K i ≠ 3 ∧ ∃ v S', Step P ops (K i) o v a S S' ∧ MixSeq3 P ops K T is (a.put o.dst v) S') ∨
      (K i = 3 ∧ ∃ R, Many P ops o a S R ∧ ∀ v S', R v S' → MixSeq3 P ops K T is (a.put o.dst v) S'))
theorem MixSeq3.first {K : Nat → Nat} {T : Act → World → Prop} (hsel : ∀ (j : Nat) (o : Oper) cs b, ops[j]? = some o → o.op ≠ .select cs b) {j : Nat} {oj : Oper} (hj : ops[j]? = some oj) (hj3 : K j ≠ 3) (post : List Nat) :
    ∀ (pre : List Nat) (a : Act) (S : World → Prop), (∀ i oi, i ∈ pre → ops[i]? = some oi → oi.apart ops oj = true ∧ compat3 (K i) (K j) = true) → MixSeq3 P ops K T (pre ++ j :: post) a S →
      ∃ vj S', Step P ops (K j) oj vj a S S' ∧ MixSeq3 P ops K T (pre ++ post) (a.put oj.dst vj) S'
  | [], a, S, _, h => by
    obtain ⟨o, ho, h⟩ := h
    rw [hj] at ho; cases ho
    obtain ⟨_, v, S', hf, hs⟩ := h.resolve_right (fun h => hj3 h.1)
    exact ⟨v, S', hf, hs⟩
  | i :: pre, a, S, hap, h => by
    obtain ⟨oi, hi, h⟩ := h
    obtain ⟨hap1, hcomp⟩ := hap i oi List.mem_cons_self hi
    have hi3 : K i ≠ 3 := by
      intro hc
      unfold compat3 at hcomp
      rw [hc] at hcomp
      simp at hcomp
    obtain ⟨_, vi, Si, hf, hs⟩ := h.resolve_right (fun h => hi3 h.1)
    obtain ⟨vj, Sj, hfj, hsj⟩ := MixSeq3.first hsel hj hj3 post pre (a.put oi.dst vi) Si (fun k ok hk => hap k ok (List.mem_cons_of_mem _ hk)) hs
    obtain ⟨h1, h2, h3⟩ := Oper.apart_spec hap1
    have ej := execOp_put oj (fun cs b => hsel j oj cs b hj) a oi.dst vi h1
    have wj := wanted_put oj a oi.dst vi h1
    have ei := execOp_put oi (fun cs b => hsel i oi cs b hi) a oj.dst vj h3
    have wi := wanted_put oi a oj.dst vj h3
    have hcm := Act.put_comm a vi vj h2
    have stj := hfj.of_same ej.symm wj.symm
    have sti := hf.of_same ei wi
    unfold compat3 at hcomp
    simp only [Bool.or_eq_true, Bool.and_eq_true] at hcomp
    rcases hcomp with (hc | hc) | ⟨hc1, hc2⟩
    · have hk := Nat.eq_of_beq_eq_true hc
      rw [hk] at hf sti
      obtain ⟨hfree, rfl⟩ := hf
      refine ⟨vj, Sj, stj, oi, hi, .inl ⟨hi3, vi, Sj, ?_, by rw [← hcm]; exact hsj⟩⟩
      rw [hk]
      exact ⟨sti.1, rfl⟩
    · have hk := Nat.eq_of_beq_eq_true hc.1
      rw [hk] at stj hfj
      obtain ⟨hfree, rfl⟩ := stj
      refine ⟨vj, S, ?_, oi, hi, .inl ⟨hi3, vi, Sj, sti, by rw [← hcm]; exact hsj⟩⟩
      rw [hk]
      exact ⟨hfree, rfl⟩
    · have hk1 := Nat.eq_of_beq_eq_true hc1
      have hk2 := Nat.eq_of_beq_eq_true hc2
      rw [hk1] at hf sti
      obtain ⟨hrd, rfl⟩ := hf
      rw [hk2] at stj
      obtain ⟨hrj, rfl⟩ := stj
      refine ⟨vj, Sj, ?_, oi, hi, .inl ⟨hi3, vi, Sj, ?_, by rw [← hcm]; exact hsj⟩⟩
      · rw [hk2]; exact ⟨hrj, rfl⟩
      · rw [hk1]; exact ⟨sti.1, rfl⟩
theorem MixSeq3.first3 {K : Nat → Nat} {T : Act → World → Prop} (hsel : ∀ (j : Nat) (o : Oper) cs b, ops[j]? = some o → o.op ≠ .select cs b) {j : Nat} {oj : Oper} (hj : ops[j]? = some oj) (hj3 : K j = 3) (post : List Nat) :
    ∀ (pre : List Nat) (a : Act) (S : World → Prop), (∀ i oi, i ∈ pre → ops[i]? = some oi → oi.apart ops oj = true ∧ compat3 (K i) (K j) = true) → MixSeq3 P ops K T (pre ++ j :: post) a S →
      ∃ R, Many P ops oj a S R ∧ ∀ v S', R v S' → MixSeq3 P ops K T (pre ++ post) (a.put oj.dst v) S'
  | [], a, S, _, h => by
    obtain ⟨o, ho, h⟩ := h
    rw [hj] at ho; cases ho
    exact (h.resolve_left (fun h => h.1 hj3)).2
  | i :: pre, a, S, hap, h => by
    obtain ⟨oi, hi, h⟩ := h
    obtain ⟨hap1, hcomp⟩ := hap i oi List.mem_cons_self hi
    have hk : K i = 0 := by
      unfold compat3 at hcomp
      rw [hj3] at hcomp
      simp at hcomp
      exact hcomp
    obtain ⟨hi3, vi, Si, hf, hs⟩ := h.resolve_right (fun h => by rw [hk] at h; cases h.1)
    obtain ⟨R, hfj, hsj⟩ := MixSeq3.first3 hsel hj hj3 post pre (a.put oi.dst vi) Si (fun k ok hk => hap k ok (List.mem_cons_of_mem _ hk)) hs
    obtain ⟨h1, h2, h3⟩ := Oper.apart_spec hap1
    have ej := execOp_put oj (fun cs b => hsel j oj cs b hj) a oi.dst vi h1
    have wj := wanted_put oj a oi.dst vi h1
    have stj := hfj.of_same ej.symm wj.symm
    rw [hk] at hf
    obtain ⟨hfree, rfl⟩ := hf
    refine ⟨R, stj, fun v S' hR => ⟨oi, hi, .inl ⟨hi3, vi, S', ?_, ?_⟩⟩⟩
    · have ei := execOp_put oi (fun cs b => hsel i oi cs b hi) a oj.dst v h3
      have wi := wanted_put oi a oj.dst v h3
      rw [hk]
      exact ⟨fun S0 => (hfree S0).of_same ei wi, rfl⟩
    · rw [← Act.put_comm a vi v h2]; exact hsj v S' hR
/-- As mixOK, with operations that make memory (3). -/
def mixOK3 (md : Region.Mode) (ops : Array Oper) (ks : List Nat) : Bool :=
  Region.noSelect ops &&
  (let ms := masks md ops
   (List.range ops.size).all fun j => match ops[j]? with
    | none => true
    | some oj =>
      oj.after.all (fun e => !Region.binds md e || decide (e.on < j)) &&
      (List.range j).all fun i => (ms.getD j 0).testBit i || (match ops[i]? with | some oi => oi.apart ops oj && compat3 (ks.getD i 2) (ks.getD j 2) | none => true))

theorem mixOK3_spec {ks : List Nat} (h : mixOK3 md ops ks = true) : Region.noSelect ops = true ∧ ∀ j oj, ops[j]? = some oj →
    (∀ e ∈ oj.after, Region.binds md e = true → e.on < j) ∧ ∀ i oi, i < j → ops[i]? = some oi → Before md ops j i ∨ (oi.apart ops oj = true ∧ compat3 (ks.getD i 2) (ks.getD j 2) = true) := by
  unfold mixOK3 at h
  simp only [Bool.and_eq_true, List.all_eq_true, List.mem_range] at h
  obtain ⟨h2, h3⟩ := h
  refine ⟨h2, fun j oj hj => ?_⟩
  have hlt : j < ops.size := (Array.getElem?_eq_some_iff.1 hj).1
  have h4 := h3 j hlt
  simp only [hj, Bool.and_eq_true, Array.all_eq_true_iff_forall_mem, List.all_eq_true, List.mem_range, Bool.or_eq_true, Bool.not_eq_true', decide_eq_true_eq] at h4
  refine ⟨fun e he hb => (h4.1 e he).resolve_left (by simp [hb]), fun i oi hi hoi => ?_⟩
  have h5 := h4.2 i hi
  simp only [hoi, Bool.and_eq_true] at h5
  rcases h5 with h5 | h5
  · exact .inl (masks_spec h5)
  · exact .inr h5


theorem wpAny_of_mix3 {Q : Exit → Act → World → Prop} {ks : List Nat} (ho : mixOK3 md ops ks = true) :
    ∀ (n : Nat) (is : List Nat) (listed : Array Bool) (a : Act) (w : World) (S : World → Prop), is.length = n → is.Pairwise (· < ·) → (∀ i ∈ is, i < ops.size) → Lists ops.size md ops is listed → MixSeq3 P ops (ks.getD · 2) (Q .normal) is a S → S w →
      wpAny P md ops Q n listed a w := by
  obtain ⟨hns, hord⟩ := mixOK3_spec ho
  have hsel := Region.noSelect_spec hns
  intro n
  induction n with
  | zero =>
    intro is listed a w S hlen _ _ hl hs hS
    obtain rfl : is = [] := List.length_eq_zero_iff.1 hlen
    refine wpAny_done ?_ (hs w hS) 0
    rw [List.eq_nil_iff_forall_not_mem]
    intro j hj
    obtain ⟨hjun, oj, hoj, _⟩ := mem_ready.1 hj
    have hjs : j < ops.size := (Array.getElem?_eq_some_iff.1 hoj).1
    have := (hl.2.1 j hjs).1 hjun
    simp at this
    omega
  | succ n ih =>
    intro is listed a w S hlen hsorted hlt hl hs hS
    have hnd : is.Nodup := hsorted.imp (fun h => Nat.ne_of_lt h)
    refine ⟨fun hnone => ?_, fun j hj => ?_⟩
    · exfalso
      obtain ⟨i, is', rfl⟩ : ∃ i is', is = i :: is' := by
        cases is with
        | nil => simp at hlen
        | cons i is' => exact ⟨i, is', rfl⟩
      have him := hlt i List.mem_cons_self
      have hi : ops[i]? = some ops[i] := Array.getElem?_eq_getElem him
      have hmem : i ∈ Region.ready md ops listed := by
        rw [mem_ready]
        refine ⟨(hl.2.1 i him).2 (.inl List.mem_cons_self), _, hi, fun e he hb => ?_⟩
        have hlt' := (hord i _ hi).1 e he hb
        rw [getD_false_of (by rw [hl.1]; omega), hl.2.1 e.on (by omega)]
        rintro (h | h)
        · rcases List.mem_cons.1 h with h | h
          · omega
          · have := (List.pairwise_cons.1 hsorted).1 _ h; omega
        · omega
      rw [hnone] at hmem
      cases hmem
    · obtain ⟨hjun, oj, hoj, hall⟩ := mem_ready.1 hj
      have hjs : j < ops.size := (Array.getElem?_eq_some_iff.1 hoj).1
      have hnw : ∀ i ∈ is, ¬ Before md ops j i := fun i hi hw => by
        have h1 := hw listed hl.2.2 (fun o ho' e he hb => by rw [hoj] at ho'; cases ho'; exact hall e he hb)
        have him := hlt i hi
        exact (getD_false_of (by rw [hl.1]; omega)).1 h1 ((hl.2.1 i him).2 (.inl hi))
      have hjin : j ∈ is := by
        rcases (hl.2.1 j hjs).1 hjun with h | h
        · exact h
        · omega
      obtain ⟨pre, post, rfl⟩ := List.append_of_mem hjin
      have hap : ∀ i oi, i ∈ pre → ops[i]? = some oi → oi.apart ops oj = true ∧ compat3 (ks.getD i 2) (ks.getD j 2) = true := fun i oi hi hoi => by
        have hij : i < j := (List.pairwise_append.1 hsorted).2.2 i hi j List.mem_cons_self
        rcases (hord j oj hoj).2 i oi hij hoi with hw | hap
        · exact absurd hw (hnw i (by simp [hi]))
        · exact hap
      by_cases hk3 : ks.getD j 2 = 3
      · obtain ⟨R, hf, hs'⟩ := MixSeq3.first3 (K := (ks.getD · 2)) hsel hoj hk3 post pre a S hap hs
        obtain ⟨hr, hw⟩ := hf w hS
        unfold Go.wpOp
        simp only [hoj, hw, if_true, Oper.wp]
        refine .inl ?_
        have go : ∀ v S' w', R v S' → S' w' → wpAny P md ops Q n (listed.setIfInBounds j true) (a.put oj.dst v) w' := fun v S' w' hR hS' =>
          ih (pre ++ post) _ _ w' S' (by simp at hlen ⊢; omega) (hsorted.sublist (List.Sublist.append_left (List.sublist_cons_self _ _) _)) (fun i hi => hlt i (by rcases List.mem_append.1 hi with h | h <;> simp [h])) (hl.next rfl hnd hjs (Nat.le_refl _) hj) (hs' v S' hR) hS'
        rcases hr with ⟨v, w', S', hr, hR, hS'⟩ | ⟨f, vs, w', hr, hc⟩
        · rw [hr]; exact go v S' w' hR hS'
        · rw [hr]
          refine hc.mono ?_
          rintro e w'' ⟨v, S', rfl, hR, hS'⟩
          exact go v S' w'' hR hS'
      · obtain ⟨vj, S', hf, hs'⟩ := MixSeq3.first (K := (ks.getD · 2)) hsel hoj hk3 post pre a S hap hs
        refine hf.wpOp hoj hS fun w' hS' => ?_
        refine ih (pre ++ post) _ _ w' S' (by simp at hlen ⊢; omega) ?_ (fun i hi => hlt i (by rcases List.mem_append.1 hi with h | h <;> simp [h])) (hl.next rfl hnd hjs (Nat.le_refl _) hj) hs' hS'
        exact hsorted.sublist (List.Sublist.append_left (List.sublist_cons_self _ _) _)


def MixM3 (P : Program) (ops : Array Oper) (T : Act → World → Prop) : List Nat → List Oper → Act → (World → Prop) → Prop
  | [], [], a, S => ∀ w, S w → T a w
  | k :: ks, o :: rest, a, S => (k ≠ 3 ∧ ∃ v S', Step P ops k o v a S S' ∧ MixM3 P ops T ks rest (a.put o.dst v) S') ∨ (k = 3 ∧ ∃ R, Many P ops o a S R ∧ ∀ v S', R v S' → MixM3 P ops T ks rest (a.put o.dst v) S')
  | _, _, _, _ => False
theorem MixM3.seq {T : Act → World → Prop} : ∀ (ks : List Nat) (l : List Oper) (k : Nat) (K : Nat → Nat) (a : Act) (S : World → Prop), (∀ j, l[j]? = ops[k + j]?) → (∀ j, j < ks.length → K (k + j) = ks.getD j 2) → MixM3 P ops T ks l a S →
    MixSeq3 P ops K T (List.range' k l.length) a S
  | [], [], _, _, _, _, _, _, h => h
  | [], _ :: _, _, _, _, _, _, _, h => h.elim
  | _ :: _, [], _, _, _, _, _, _, h => h.elim
  | x :: ks, o :: rest, k, K, a, S, hl, hk, h => by
    have hK : K k = x := by have := hk 0 (by simp); simpa using this
    have ho : ops[k]? = some o := by have := hl 0; simpa using this.symm
    have rec_ : ∀ a S, MixM3 P ops T ks rest a S → MixSeq3 P ops K T (List.range' (k + 1) rest.length) a S := fun a S h => MixM3.seq ks rest (k + 1) K a S (fun j => by have := hl (j + 1); simpa [Nat.add_assoc, Nat.add_comm 1 j] using this) (fun j hj => by have := hk (j + 1) (by simpa using hj); simpa [Nat.add_assoc, Nat.add_comm 1 j] using this) h
    refine ⟨o, ho, ?_⟩
    rw [hK]
    rcases h with ⟨h1, v, S', h2, h3⟩ | ⟨h1, R, h2, h3⟩
    · exact .inl ⟨h1, v, S', h2, rec_ _ _ h3⟩
    · exact .inr ⟨h1, R, h2, fun v S' hR => rec_ _ _ (h3 v S' hR)⟩
theorem wp_mix3 {md0 : Md} {Q : Exit → Act → World → Prop} {id : Nat} {l : List Oper} {a : Act} {w : World} {S : World → Prop} (hmix : P.follows .mixedOrders = true) (ks : List Nat) (hks : ks.length = l.length) (ho : mixOK3 .any l.toArray ks = true)
    (hS : S w.drew) (h : MixM3 P l.toArray (Q .normal) ks l a S) (hok : OkR md0 l.toArray Q) : wpn md0 P (Code.region id l.toArray true) Q a w := by
  refine wpnFrom_start hok hmix ?_
  intro listed hl
  have hsz : l.toArray.size = l.length := by simp
  have := wpAny_of_mix3 (P := P) (Q := Q) ho l.length (List.range' 0 l.length) listed a w.drew S (by simp) List.pairwise_lt_range' (fun i hi => by have := List.mem_range'_1.1 hi; simp; omega)
    ⟨hl.1, fun q hq => by rw [hl.2.1 q hq, List.mem_range'_1]; simp at hq ⊢; omega, hl.2.2⟩ (MixM3.seq ks l 0 _ a S (fun j => by simp) (fun j hj => by simp) h) hS
  rw [hsz, Nat.sub_zero]
  exact this
end
section
variable {P : Program} {ops : Array Oper} {Q : Exit → Act → World → Prop} {n : Sz} {w0 : World} {L L' : List (Nat × Value)} {H : List Ent}
variable {o : Oper} {rest : List Oper} {v u : Value} {x y z : Operand} {k m j : Nat} {t t' e : TypeId} {ks : List Nat} {kd : IntKind}
def TN (P : Program) (ops : Array Oper) (Q : Exit → Act → World → Prop) (n : Sz) (w0 : World) (ks : List Nat) (rest : List Oper) (L : List (Nat × Value)) (H : List Ent) : Prop :=
  ∀ a, Fr n L a → MixM3 P ops (Q .normal) ks rest a (St w0 H)
theorem TC.mix3 {id : Nat} {l : List Oper} (hmix : P.follows .mixedOrders = true) (ks : List Nat) (hks : ks.length = l.length) (ho : mixOK3 .any l.toArray ks = true) (h : TN P l.toArray Q n w0 ks l L H) (hok : OkR n.md l.toArray Q := by exact trivial) : TC P Q n w0 (.region id l.toArray true) L H :=
  fun a w hf hs => wp_mix3 hmix ks hks ho hs.drew (h a hf) hok
theorem TN.nil (h : TE Q .normal n w0 L H) : TN P ops Q n w0 [] [] L H := fun a hf w hs => h a w hf hs
theorem TN.free (hg : Wants n ops L o) (hi : inside n o.dst = true) (h : ∀ w0, Gets P n w0 o L [] v) (hr : TN P ops Q n w0 ks rest (put L o.dst v) H) : TN P ops Q n w0 (0 :: ks) (o :: rest) L H :=
  fun a hf => .inl ⟨by decide, v, St w0 H, ⟨fun S0 => .inl ⟨hg a hf, fun w hS => by rw [h w a w hf (St.refl w)]; exact ⟨rfl, hS⟩⟩, rfl⟩, hr _ (hf.put o.dst v hi)⟩
theorem TN.gets (hg : Wants n ops L o) (hi : inside n o.dst = true) (h : Gets P n w0 o L H v) (hr : TN P ops Q n w0 ks rest (put L o.dst v) H) : TN P ops Q n w0 (1 :: ks) (o :: rest) L H :=
  fun a hf => .inl ⟨by decide, v, St w0 H, ⟨.inl ⟨hg a hf, fun w hS => by rw [h a w hf hS]; exact ⟨rfl, hS⟩⟩, rfl⟩, hr _ (hf.put o.dst v hi)⟩
theorem TN.pass {j d : Nat} {b c : Bool} (h : o.guard = some (j, c)) (hj : (ops[j]?).bind (·.dst) = some d) (hd : look L d = some (.bool b)) (hi : inside n o.dst = true) (hb : b = !c) (hr : TN P ops Q n w0 ks rest (put L o.dst undef) H) : TN P ops Q n w0 (0 :: ks) (o :: rest) L H :=
  fun a hf => .inl ⟨by decide, undef, St w0 H, ⟨fun S0 => .inr ⟨by subst hb; simp [Region.wanted, h, guard_val hf hj hd], rfl⟩, rfl⟩, hr _ (hf.put o.dst undef hi)⟩
theorem TN.call0 {f : FuncId} {xs : List Operand} {ts : Array TypeId} {vs : List Value} (hg : Wants n ops L o) (hi : inside n o.dst = true) (h : Enters P f)
    (ho : o.op = .call { callee := .value (.func f), args := xs.toArray, argTypes := ts }) (hx : evs L xs = some vs)
    (hc : ∀ w, St w0 H w → Calls P f vs.toArray w fun e w' => e = .returned v ∧ St w [] w')
    (hr : TN P ops Q n w0 ks rest (put L o.dst v) H) : TN P ops Q n w0 (1 :: ks) (o :: rest) L H :=
  fun a hf => .inl ⟨by decide, v, St w0 H, ⟨.inl ⟨hg a hf, fun w hS => by rw [run_enter h ho hf hx]; exact (hc w hS).mono fun e w' ⟨he, hw⟩ => ⟨he, hS.call' hw⟩⟩, rfl⟩, hr _ (hf.put o.dst v hi)⟩

theorem TN.buildSlice {len s : Nat} {ps : List (Nat × Operand)} {vs : List (Nat × Value)} {cells : Array Value} {cs : List Value} {zv : Value} (hg : Wants n ops L o) (hi : inside n o.dst = true) (ho : o.op = .buildSlice t len ps.toArray)
    (h1 : P.underlying t = some (.slice e)) (hsz : (P.info? e).map (·.size) = some s) (hz : (P.info? e).bind (·.zero) = some zv) (hv : operVals L ps = some vs) (hlen : len * s ≤ 2 ^ 24) (hpos : (len * s = 0) = False)
    {tot : Nat} (hfill : Instr.fill (fun i => some (i * s, s)) ((Array.range (len * s)).map (zv.cells[· % zv.cells.size]!)) vs = some cells) (hcs : cells.toList = cs) (htot : cs.length = tot)
    (hr : ∀ g, w0.heap.size ≤ g → TN P ops Q n w0 ks rest (put L o.dst (.slice (some ⟨g, 0, none⟩) len len)) (⟨g, e, cs, tot⟩ :: H)) : TN P ops Q n w0 (3 :: ks) (o :: rest) L H :=
  fun a hf => .inr ⟨rfl, fun v S' => ∃ g, w0.heap.size ≤ g ∧ v = .slice (some ⟨g, 0, none⟩) len len ∧ S' = St w0 (⟨g, e, cs, tot⟩ :: H), fun w hs => by
    have hrun : (execOp a.eval o).run P w = .ok (.value (.slice (some ⟨w.heap.size, 0, none⟩) len len)) (w.alloc (.cells cells e)) := by
      have hm := operVals_eval hf hv
      have hm2 : (ps.map fun (x : Nat × Operand) => match x with | (i, x) => (i, a.eval x)) = vs := hm
      simp only [execOp, ho]
      refine run_value ?_
      simp only [Instr.buildSlice, Sem.run_bind, run_under h1, Result.andThen_ok, run_size hsz, List.map_toArray, hm2]
      rw [if_neg (by omega), if_neg (by simp [hpos])]
      simp only [Sem.run_bind, run_zero hz, Result.andThen_ok, Sem.run_pure, hfill]
      simp [newRow, newObj, Sem.run_bind, Sem.run]
    subst htot
    exact ⟨.inl ⟨_, _, _, hrun, ⟨_, hs.size, rfl, rfl⟩, hs.alloc e cs cells hcs⟩, hg a hf⟩, fun v S' ⟨g, h1, h2, h3⟩ => by subst h2; subst h3; exact hr g h1 _ (hf.put o.dst _ hi)⟩


theorem TN.appendOwn {A : Option Addr} {bytes sl sc : Nat} {W B : List Int} {He : List Ent} {zv : Value} (hg : Wants n ops L o) (hi' : inside n o.dst = true) (ho : o.op = .call { callee := .builtin .append, args := #[x, y], argTypes := #[t, t] })
    (h1 : P.underlying t = some (.slice e)) (hz : (P.info? e).map (fun i => (i.zero, i.size, i.bytes)) = some (some zv, 1, bytes)) (hzc : zv.cells = #[zv])
    (hx : ev L x = some v) (hy : ev L y = some (.slice A sl sc)) (hown : Own w0.heap.size e kd v W He) (hsrc : ∀ w, St w0 (H ++ He) w → Src w A sl kd B)
    (h63 : W.length + sl ≤ 9223372036854775807) (hbytes : (W.length + sl) * bytes ≤ 140737488355328)
    (hr : ∀ v' He', Own w0.heap.size e kd v' (W ++ B) He' → (v ≠ .slice none 0 0 → v' ≠ .slice none 0 0) → TN P ops Q n w0 ks rest (put L o.dst v') (H ++ He')) : TN P ops Q n w0 (3 :: ks) (o :: rest) L (H ++ He) :=
  fun a hf => .inr ⟨rfl, fun v' S' => ∃ He', Own w0.heap.size e kd v' (W ++ B) He' ∧ (v ≠ .slice none 0 0 → v' ≠ .slice none 0 0) ∧ S' = St w0 (H ++ He'), fun w hs => by
    obtain ⟨i, hi1, hi2⟩ := Option.map_eq_some_iff.1 hz
    simp only [Prod.mk.injEq] at hi2
    obtain ⟨hz1, hz2, hz3⟩ := hi2
    have hrow := hown.row (w := w) hs.right
    have hB := hsrc w hs
    have hlen : (W ++ B).length = W.length + sl := by simp [hB.1]
    have hmap : (W ++ B).map (Value.int kd) = W.map (Value.int kd) ++ B.map (Value.int kd) := by simp
    have hrun : ∃ v' w', (Builtin.append_ #[t, t] o.type #[v, .slice A sl sc]).run P w = .ok v' w' ∧ w'.ownsRow w0.heap.size e 1 v' (W.length + sl) (W.map (Value.int kd) ++ B.map (Value.int kd)) ∧ w.grownBy w' v.ownBlock ∧
        (v'.ownBlock = v.ownBlock ∨ v'.ownBlock = some w.heap.size) ∧ (v ≠ .slice none 0 0 → v' ≠ .slice none 0 0) := by
      cases A with
      | none =>
        have hsl : sl = 0 := by
          rcases hB.2 with h | ⟨b, off, h, _⟩
          · exact h
          · cases h
        subst hsl
        have hBn : B = [] := List.length_eq_zero_iff.1 hB.1
        subst hBn
        refine ⟨v, w, ?_, by simpa using hrow, World.grownBy.refl w _, .inl rfl, id⟩
        rcases hown with ⟨rfl, rfl, rfl⟩ | ⟨g, cap, rfl, rfl, hN, hc, hm⟩
        · simp [Builtin.append_, Sem.run_bind, run_under h1, sizeOf, run_info hi1, Builtin.lenOf, Builtin.firstCells]
        · simp [Builtin.append_, Sem.run_bind, run_under h1, sizeOf, run_info hi1, Builtin.lenOf, Builtin.firstCells, hc, storeCells]
      | some ad =>
        have hcells : ∀ (j : Nat) (u : Value), (B.map (Value.int kd))[j]? = some u → w.cell? (ad.add j) = some u := by
          intro j u hu
          rcases hB.2 with h | ⟨b, off, h, _, hr⟩
          · have hBn : B = [] := List.length_eq_zero_iff.1 (by rw [hB.1, h])
            subst hBn; simp at hu
          · cases h
            have hj : j < B.length := by have := (List.getElem?_eq_some_iff.1 hu).1; simpa using this
            rw [addr_add, hr j (by rw [← hB.1]; exact hj)]
            rw [ints_get hj] at hu; exact hu
        obtain ⟨v', w', h2, h3, h4, h6, h5⟩ := run_append_own_at (P := P) w w0.heap.size t o.type e i zv 1 bytes h1 hi1 hz1 hz2 hz3 (by rw [hzc]; rfl) (by omega) v W.length (W.map (Value.int kd)) hrow ad sl sc (B.map (Value.int kd)) (by simp [hB.1]) hcells
          (by intro u hu; exact ints_one u hu) (by unfold maxLen; omega) hbytes hs.size
        exact ⟨v', w', h2, h3, h4, h5, fun hv hv' => hv (h6.1 hv').1⟩
    obtain ⟨v', w', hrun, hrow', hgrown, hblk, hnn⟩ := hrun
    have hrun' : (execOp a.eval o).run P w = .ok (.value v') w' := by
      simp only [execOp, ho, resolve, invoke, builtin, Sem.run_bind, Sem.run_pure, Result.andThen_ok, List.map_toArray, List.map_cons, List.map_nil, hf.eval hx, hf.eval hy, hrun]
    rw [← hmap, ← hlen] at hrow'
    obtain ⟨He', hown', hHe⟩ := own_of_row hrow'
    refine ⟨.inl ⟨v', w', _, hrun', ⟨He', hown', hnn, rfl⟩, St.regrow hs hgrown ?_ ?_ ?_ ?_⟩, hg a hf⟩
    · rcases hown with ⟨rfl, rfl, rfl⟩ | ⟨g, cap, rfl, rfl, _⟩
      · simp
      · simp [Value.ownBlock]
    · rcases hown with ⟨rfl, rfl, rfl⟩ | ⟨g, cap, rfl, rfl, hN, _⟩
      · simp [Value.ownBlock]
      · simp only [Value.ownBlock]; rintro b hb; cases hb; exact hN
    · rcases hown with ⟨rfl, rfl, rfl⟩ | ⟨g, cap, rfl, rfl, hN, _⟩
      · simp [Value.ownBlock]
      · intro c hc heq
        simp only [Value.ownBlock, Option.some.injEq] at heq
        exact (List.pairwise_append.1 hs.apart).2.2 c hc _ (List.mem_singleton.2 rfl) heq
    · rcases hHe with h | ⟨d, h, hd, hdN, hdv⟩
      · exact .inl h
      · refine .inr ⟨d, h, hd, hdN, ?_⟩
        rcases hblk with hb | hb
        · left; rw [← hdv, hb]
        · right; have := Option.some.inj (hb.symm.trans hdv); omega, fun v' S' ⟨He', h1, h2, h3⟩ => by subst h3; exact hr v' He' h1 h2 _ (hf.put o.dst _ hi')⟩

end
end Go.Proofs.Ytkgamkjdkapchaa
/-
  General facts of slices, parts and blocks; append onto a full slice.
-/
namespace Go.Proofs.Ytkgamkjdkapchaa
set_option linter.unusedVariables false
set_option linter.unusedSimpArgs false
set_option linter.unusedVariables false
open Go Go.RowKit
theorem Fresh.ne {w0 : World} {Z : List Ent} {b : Nat} (h : Fresh w0 Z) (hb : b < w0.heap.size) : ∀ e ∈ Z, e.g ≠ b := fun e he hc => by
  have := h e he
  omega
theorem RowI.keepH {w w' : World} {H : List Ent} {b off n : Nat} {kd : IntKind} {B : List Int} (h : RowI w b off n kd B) (hs : St w H w') (hb : b < w.heap.size) (hne : ∀ e ∈ H, e.g ≠ b) : RowI w' b off n kd B := fun j hj =>
  (hs.old_cell (ad := ⟨b, off + j, none⟩) hb hne).trans (h j hj)
theorem Src.at_ {w0 w : World} {H : List Ent} {A : Option Addr} {m : Nat} {kd : IntKind} {B : List Int} (h : Src w0 A m kd B) (hs : St w0 H w) (hH : ∀ b, b < w0.heap.size → ∀ e ∈ H, e.g ≠ b) : Src w A m kd B := by
  obtain ⟨h1, h2⟩ := h
  refine ⟨h1, ?_⟩
  rcases h2 with h2 | ⟨b, off, hA, hb, hr⟩
  · exact .inl h2
  · exact .inr ⟨b, off, hA, Nat.lt_of_lt_of_le hb hs.size, hr.keepH hs hb (hH b hb)⟩
theorem rowI_ent {w : World} {g t tot n : Nat} {W : List Int} {kd : IntKind} (hl : Ent.lies ⟨g, t, W.map (Value.int kd), tot⟩ w) (hW : W.length = n) : RowI w g 0 n kd W := fun j hj => by
  rw [Nat.zero_add]; exact hl.cell (ints_get (by omega))
/-- A part of a slice. -/
theorem Src.cut {w : World} {b off m l n : Nat} {kd : IntKind} {B : List Int} (h : Src w (some ⟨b, off, none⟩) m kd B) (hl : l + n ≤ m) : Src w (some ⟨b, off + l, none⟩) n kd ((B.drop l).take n) := by
  obtain ⟨h1, h2⟩ := h
  refine ⟨by simp; omega, ?_⟩
  rcases h2 with h2 | ⟨b', off', hA, hb, hr⟩
  · exact .inl (by omega)
  · cases hA
    refine .inr ⟨b, off + l, rfl, hb, fun j hj => ?_⟩
    rw [Nat.add_assoc, hr (l + j) (by omega)]
    simp [List.getD_eq_getElem?_getD, List.getElem?_take, hj]
theorem Src.head {w : World} {A : Option Addr} {m n : Nat} {kd : IntKind} {B : List Int} (h : Src w A m kd B) (hl : n ≤ m) : Src w A n kd (B.take n) := by
  obtain ⟨h1, h2⟩ := h
  refine ⟨by simp; omega, ?_⟩
  rcases h2 with h2 | ⟨b, off, hA, hb, hr⟩
  · exact .inl (by omega)
  · refine .inr ⟨b, off, hA, hb, fun j hj => ?_⟩
    rw [hr j (by omega)]
    simp [List.getD_eq_getElem?_getD, List.getElem?_take, hj]
def PartsO (w : World) (A : Option Addr) (m : Nat) (Ps : List (List Int)) : Prop :=
  Ps.length = m ∧ (m = 0 ∨ ∃ b off, A = some ⟨b, off, none⟩ ∧ b < w.heap.size ∧ ∀ i, i < m → ∃ Ai mi ci, w.cell? ⟨b, off + i, none⟩ = some (.slice Ai mi ci) ∧ Src w Ai mi .u8 (Ps.getD i []) ∧ mi ≤ ci)
theorem PartsO.at_ {w0 w : World} {H : List Ent} {A : Option Addr} {m : Nat} {Ps : List (List Int)} (h : PartsO w0 A m Ps) (hs : St w0 H w) (hH : ∀ b, b < w0.heap.size → ∀ e ∈ H, e.g ≠ b) : PartsO w A m Ps := by
  obtain ⟨h1, h2⟩ := h
  refine ⟨h1, ?_⟩
  rcases h2 with h2 | ⟨b, off, hA, hb, hc⟩
  · exact .inl h2
  · refine .inr ⟨b, off, hA, Nat.lt_of_lt_of_le hb hs.size, fun i hi => ?_⟩
    obtain ⟨Ai, mi, ci, k1, k2, k3⟩ := hc i hi
    exact ⟨Ai, mi, ci, (hs.old_cell (ad := ⟨b, off + i, none⟩) hb (hH b hb)).trans k1, k2.at_ hs hH, k3⟩
theorem parts_one {w : World} {gp t tot m c : Nat} {A : Option Addr} {P : List Int} (hl : Ent.lies ⟨gp, t, [Value.slice A m c], tot⟩ w) (h : Src w A m .u8 P) (hmc : m ≤ c) : PartsO w (some ⟨gp, 0, none⟩) 1 [P] :=
  ⟨rfl, .inr ⟨gp, 0, rfl, hl.lt, fun i hi => by
    obtain rfl : i = 0 := by omega
    exact ⟨A, m, c, hl.cell (o := 0) rfl, h, hmc⟩⟩⟩
theorem flat_succ {Ps : List (List Int)} {i : Nat} (h : i < Ps.length) (M : List Int) : M ++ (Ps.take (i + 1)).flatten = (M ++ (Ps.take i).flatten) ++ Ps.getD i [] := by
  rw [List.take_succ_eq_append_getElem h, show Ps.getD i [] = Ps[i] by simp [h]]
  simp only [List.flatten_append, List.flatten_cons, List.flatten_nil, List.append_nil, List.append_assoc]
theorem own_mono {N N' : Nat} {t : TypeId} {kd : IntKind} {v : Value} {W : List Int} {He : List Ent} (h : Own N' t kd v W He) (hN : N ≤ N') : Own N t kd v W He := by
  rcases h with h | ⟨g, c, h1, h2, h3, h4⟩
  · exact .inl h
  · exact .inr ⟨g, c, h1, h2, Nat.le_trans hN h3, h4⟩
theorem own_some {N t : Nat} {kd : IntKind} {v : Value} {W : List Int} {He : List Ent} (h : Own N t kd v W He) (hv : v ≠ .slice none 0 0) : ∃ g c, v = .slice (some ⟨g, 0, none⟩) W.length c ∧ He = [⟨g, t, W.map (Value.int kd), c⟩] ∧ N ≤ g ∧ W.length ≤ c ∧ c ≤ maxLen := by
  rcases h with ⟨h, _, _⟩ | ⟨g, c, h1, h2, h3, h4, h5⟩
  · exact absurd h hv
  · exact ⟨g, c, h1, h2, h3, h4, h5⟩
def Bytes (D : List Int) : Prop := ∀ x ∈ D, 0 ≤ x ∧ x ≤ 255
theorem Bytes.get {D : List Int} (h : Bytes D) (j : Nat) : 0 ≤ D.getD j 0 ∧ D.getD j 0 ≤ 255 := by
  rw [List.getD_eq_getElem?_getD]
  by_cases hj : j < D.length
  · rw [List.getElem?_eq_getElem hj]; exact h _ (List.getElem_mem hj)
  · rw [List.getElem?_eq_none (by omega)]; simp
theorem Bytes.app {A B : List Int} (ha : Bytes A) (hb : Bytes B) : Bytes (A ++ B) := fun x hx => (List.mem_append.1 hx).elim (ha x) (hb x)
theorem Bytes.take {A : List Int} (ha : Bytes A) (n : Nat) : Bytes (A.take n) := fun x hx => ha x (List.mem_of_mem_take hx)
theorem Bytes.drop {A : List Int} (ha : Bytes A) (n : Nat) : Bytes (A.drop n) := fun x hx => ha x (List.mem_of_mem_drop hx)
theorem bytes_set {l : List Int} (h : Bytes l) {i : Nat} {v : Int} (hv : 0 ≤ v ∧ v ≤ 255) : Bytes (l.set i v) := fun x hx => by
  rcases List.mem_or_eq_of_mem_set hx with hx | rfl
  · exact h x hx
  · exact hv
theorem getD_set {l : List Int} {i j : Nat} {v d : Int} (hi : i < l.length) : (l.set i v).getD j d = if i = j then v else l.getD j d := by
  simp only [List.getD_eq_getElem?_getD, List.getElem?_set]
  by_cases h : i = j
  · subst h; simp [hi]
  · simp [h]
theorem list_of_getD {l r : List Int} (h : l.length = r.length) (hg : ∀ i, i < l.length → l.getD i 0 = r.getD i 0) : l = r := by
  apply List.ext_getElem h
  intro i h1 h2
  have := hg i h1
  simpa [List.getD_eq_getElem?_getD, h1, h2] using this
theorem take_snoc {l : List Int} {k : Nat} (h : k < l.length) : l.take (k + 1) = l.take k ++ [l.getD k 0] := by
  rw [List.take_succ_eq_append_getElem h, show l.getD k 0 = l[k] by simp [h]]
theorem bs_size (l : List Int) : (bs l).size = l.length := by
  unfold bs
  show (List.toArray _).size = _
  simp
theorem bs_inj {l r : List Int} (hl : Bytes l) (hr : Bytes r) : bs l = bs r ↔ l = r := by
  constructor
  · intro h
    unfold bs at h
    have h1 := congrArg (fun b : ByteArray => b.data.toList) h
    simp only [List.toList_toArray] at h1
    have hlen : l.length = r.length := by have := congrArg List.length h1; simpa using this
    refine list_of_getD hlen fun i hi => ?_
    have h2 := congrArg (fun z : List UInt8 => z[i]?) h1
    simp only [List.getElem?_map, List.getElem?_eq_getElem hi, List.getElem?_eq_getElem (show i < r.length by omega), Option.map_some, Option.some.injEq] at h2
    have b1 := hl _ (List.getElem_mem hi)
    have b2 := hr _ (List.getElem_mem (show i < r.length by omega))
    have h3 := congrArg UInt8.toNat h2
    rw [UInt8.toNat_ofNat', UInt8.toNat_ofNat'] at h3
    simp only [List.getD_eq_getElem?_getD, List.getElem?_eq_getElem hi, List.getElem?_eq_getElem (show i < r.length by omega), Option.getD_some]
    omega
  · intro h; rw [h]
theorem bs_beq {B C : List Int} (hB : Bytes B) (hC : Bytes C) : ((bs B).toList == (bs C).toList) = decide (B = C) := by
  rw [Bool.eq_iff_iff, beq_iff_eq, decide_eq_true_iff, ← bs_inj hB hC, ByteArray.toList_eq, ByteArray.toList_eq]
  constructor
  · intro h; exact ByteArray.ext (Array.toList_inj.1 h)
  · intro h; rw [h]
section
variable {P : Program} {ops : Array Oper} {Q : Exit → Act → World → Prop} {n : Sz} {w0 : World} {L L' : List (Nat × Value)} {H : List Ent}
variable {o : Oper} {rest : List Oper} {v u : Value} {x y z : Operand} {k m j : Nat} {t t' e : TypeId} {ks : List Nat} {kd : IntKind}
/-- What append onto a full slice of whatever memory gives: a slice of the call's own. -/
theorem run_append_full {A As : Option Addr} {bytes m sl sc : Nat} {W B : List Int} {zv : Value} {ty : TypeId} {w : World} (h1 : P.underlying t = some (.slice e)) (hz : (P.info? e).map (fun i => (i.zero, i.size, i.bytes)) = some (some zv, 1, bytes)) (hzc : zv.cells = #[zv])
    (hW : Src w A m kd W) (hB : Src w As sl kd B) (hsl : 0 < sl) (hA : A = none → m = 0) (h63 : m + sl ≤ maxLen) (hbytes : (m + sl) * bytes ≤ 140737488355328) :
    ∃ v' w' He', (Builtin.append_ #[t, t] ty #[.slice A m m, .slice As sl sc]).run P w = .ok v' w' ∧ Own w.heap.size e kd v' (W ++ B) He' ∧ v' ≠ .slice none 0 0 ∧ St w He' w' := by
  obtain ⟨i, hi1, hi2⟩ := Option.map_eq_some_iff.1 hz
  simp only [Prod.mk.injEq] at hi2
  obtain ⟨hz1, hz2, hz3⟩ := hi2
  have hlen : (W ++ B).length = m + sl := by simp [hW.1, hB.1]
  have hmap : (W ++ B).map (Value.int kd) = W.map (Value.int kd) ++ B.map (Value.int kd) := by simp
  have hcellsOf : ∀ {A : Option Addr} {q : Nat} {C : List Int} {ad : Addr}, Src w A q kd C → A = some ad → ∀ (j : Nat) (u : Value), (C.map (Value.int kd))[j]? = some u → w.cell? (ad.add j) = some u := by
    intro A q C ad hC hAd j u hu
    rcases hC.2 with h | ⟨b, off, h, _, hr⟩
    · have hBn : C = [] := List.length_eq_zero_iff.1 (by rw [hC.1, h])
      subst hBn; simp at hu
    · rw [hAd] at h
      cases h
      have hj : j < C.length := by have := (List.getElem?_eq_some_iff.1 hu).1; simpa using this
      rw [addr_add, hr j (by rw [← hC.1]; exact hj)]
      rw [ints_get hj] at hu; exact hu
  obtain ⟨ads, hAs⟩ : ∃ ads, As = some ads := by
    rcases hB.2 with h | ⟨b, off, h, _, _⟩
    · omega
    · exact ⟨_, h⟩
  subst hAs
  have finish : ∀ v' w', w'.ownsRow w.heap.size e 1 v' (m + sl) (W.map (Value.int kd) ++ B.map (Value.int kd)) → w.grownBy w' none → ∃ He', Own w.heap.size e kd v' (W ++ B) He' ∧ v' ≠ .slice none 0 0 ∧ St w He' w' := by
    intro v' w' hrow hgrown
    rw [← hmap, ← hlen] at hrow
    obtain ⟨He', hown', hHe⟩ := own_of_row hrow
    have hv : v' ≠ .slice none 0 0 := by
      rcases hown' with ⟨_, h, _⟩ | ⟨g, c, h, _⟩
      · have := congrArg List.length h
        rw [hlen] at this
        simp at this; omega
      · rw [h]; intro hc; cases hc
    refine ⟨He', hown', hv, ?_⟩
    have := St.regrow (H := []) (He := []) (He' := He') (St.refl w) hgrown (by simp) (by simp) (by simp) (by
      rcases hHe with h | ⟨d, h, hd, hdN, hdv⟩
      · exact .inl h
      · exact .inr ⟨d, h, hd, hdN, .inr hdN⟩)
    simpa using this
  cases A with
  | none =>
    have hm := hA rfl
    subst hm
    have hWn : W = [] := List.length_eq_zero_iff.1 hW.1
    subst hWn
    obtain ⟨v', w', h2, h3, h4, _, _⟩ := run_append_own_at (P := P) w w.heap.size t ty e i zv 1 bytes h1 hi1 hz1 hz2 hz3 (by rw [hzc]; rfl) (by omega) (.slice none 0 0) 0 [] (World.ownsRow_nil w _ e 1) ads sl sc (B.map (Value.int kd)) (by simp [hB.1]) (hcellsOf hB rfl) (by intro u hu; exact ints_one u hu) h63 hbytes (Nat.le_refl _)
    obtain ⟨He', k1, k2, k3⟩ := finish v' w' h3 h4
    exact ⟨v', w', He', h2, k1, k2, k3⟩
  | some ad =>
    obtain ⟨v', w', h2, h3, h4⟩ := run_append_arg_grows (P := P) w t ty e i zv 1 bytes h1 hi1 hz1 hz2 hz3 (by rw [hzc]; rfl) (by omega) ad m m (W.map (Value.int kd)) (by simp [hW.1]) (hcellsOf hW rfl) ads sl sc (B.map (Value.int kd)) (by simp [hB.1]) (hcellsOf hB rfl) (by omega) h63 hbytes
    obtain ⟨He', k1, k2, k3⟩ := finish v' w' h3 h4
    exact ⟨v', w', He', h2, k1, k2, k3⟩
/-- Append of something onto a full slice. -/
theorem TN.appendFull {A As : Option Addr} {bytes sl sc : Nat} {W B : List Int} {zv : Value} (hg : Wants n ops L o) (hi' : inside n o.dst = true) (ho : o.op = .call { callee := .builtin .append, args := #[x, y], argTypes := #[t, t] })
    (h1 : P.underlying t = some (.slice e)) (hz : (P.info? e).map (fun i => (i.zero, i.size, i.bytes)) = some (some zv, 1, bytes)) (hzc : zv.cells = #[zv])
    (hx : ev L x = some (.slice A m m)) (hy : ev L y = some (.slice As sl sc)) (hW : ∀ w, St w0 H w → Src w A m kd W) (hsrc : ∀ w, St w0 H w → Src w As sl kd B) (hsl : 0 < sl) (hA : A = none → m = 0)
    (h63 : m + sl ≤ maxLen) (hbytes : (m + sl) * bytes ≤ 140737488355328)
    (hr : ∀ v' He', Own w0.heap.size e kd v' (W ++ B) He' → v' ≠ .slice none 0 0 → TN P ops Q n w0 ks rest (put L o.dst v') (H ++ He')) : TN P ops Q n w0 (3 :: ks) (o :: rest) L H :=
  fun a hf => .inr ⟨rfl, fun v' S' => ∃ He', Own w0.heap.size e kd v' (W ++ B) He' ∧ v' ≠ .slice none 0 0 ∧ S' = St w0 (H ++ He'), fun w hs => by
    obtain ⟨v', w', He', hrun, hown, hv, hst⟩ := run_append_full (ty := o.type) (sc := sc) h1 hz hzc (hW w hs) (hsrc w hs) hsl hA h63 hbytes
    have hrun' : (execOp a.eval o).run P w = .ok (.value v') w' := by
      simp only [execOp, ho, resolve, invoke, builtin, Sem.run_bind, Sem.run_pure, Result.andThen_ok, List.map_toArray, List.map_cons, List.map_nil, hf.eval hx, hf.eval hy, hrun]
    exact ⟨.inl ⟨v', w', _, hrun', ⟨He', own_mono hown hs.size, hv, rfl⟩, st_call hs hst hown.new⟩, hg a hf⟩, fun v' S' ⟨He', h1, h2, h3⟩ => by subst h3; exact hr v' He' h1 h2 _ (hf.put o.dst _ hi')⟩
variable {p q : Int} {lo hi mx : Option Operand}
/-- A slice expression with three indices. -/
theorem Gets.sliceS3 {A A' : Option Addr} {len cap l h c s : Nat} {xh xm : Operand} (ho : o.op = .slice t x lo (some xh) (some xm)) (h1 : P.underlying t = some (.slice e)) (hsz : (P.info? e).map (·.size) = some s)
    (hx : ev L x = some (.slice A len cap)) (hlo : bnd L 0 lo l) (hhi : bnd L len (some xh) h) (hmx : bnd L cap (some xm) c) (hlh : l ≤ h) (hhc : h ≤ c) (hcc : c ≤ cap) (hA : cutA A c l s = A') {ln cp : Nat} (hln : h - l = ln) (hcp : c - l = cp) : Gets P n w0 o L H (.slice A' ln cp) := fun a w hf hs => by
  subst hln; subst hcp
  simp only [execOp, ho, hf.eval hx]
  refine run_value ?_
  subst hA
  obtain ⟨k1, p1, e1, rfl⟩ := hhi
  obtain ⟨k2, p2, e2, rfl⟩ := hmx
  have hb : (Instr.sliceBounds true len cap (lo.map a.eval) (some (.int k1 (h : Int))) (some (.int k2 (c : Int)))).run P w = .ok (l, h, c) w := by
    unfold Instr.sliceBounds
    cases lo with
    | none => simp only [bnd] at hlo; subst hlo; simp [Sem.run_bind, Instr.sliceBound, asIntOf, hhc, hcc]
    | some v => obtain ⟨k3, p3, e3, rfl⟩ := hlo; simp [Sem.run_bind, Instr.sliceBound, asIntOf, hlh, hhc, hcc, hf.eval e3]
  simp only [Instr.sliceAt, Instr.slice, Sem.run_bind, run_under h1, Result.andThen_ok, Option.map_some, hf.eval e1, hf.eval e2, hb, run_size hsz, Sem.run_pure]
  rfl
theorem eqIn_sn (d : Nat) {A : Option Addr} {m c m' c' : Nat} (h1 : P.underlying t = some (.slice e)) (w : World) : (Op.equalIn (d + 1) t (.slice A m c) (.slice none m' c')).run P w = .ok A.isNone w := by cases A <;> simp [Op.equalIn, Sem.run_bind, run_under h1]
/-- A slice against nil. -/
theorem Gets.sliceNil {A : Option Addr} {m c m' c' : Nat} (ho : o.op = .binOp .eql t x y t') (h1 : P.underlying t = some (.slice e)) (hx : ev L x = some (.slice A m c)) (hy : ev L y = some (.slice none m' c')) : Gets P n w0 o L H (.bool A.isNone) := fun a w hf hs => by
  simp only [execOp, ho, hf.eval hx, hf.eval hy]
  refine run_value ?_
  exact run_equal (eqIn_sn 9999 h1 w) rfl rfl
theorem Gets.bytesEq {B C : List Int} (ho : o.op = .binOp .eql t x y t') (hx : ev L x = some (.string (bs B))) (hy : ev L y = some (.string (bs C))) (hB : Bytes B) (hC : Bytes C) : Gets P n w0 o L H (.bool (decide (B = C))) :=
  Gets.strEq ho hx hy (fun w => by
    have h := bs_beq hB hC
    simp [Op.stringOp, h])
theorem Gets.bytesNe {B C : List Int} (ho : o.op = .binOp .neq t x y t') (hx : ev L x = some (.string (bs B))) (hy : ev L y = some (.string (bs C))) (h1 : P.underlying t = some .string) (hB : Bytes B) (hC : Bytes C) : Gets P n w0 o L H (.bool (decide (B ≠ C))) := fun a w hf hs => by
  simp only [execOp, ho, hf.eval hx, hf.eval hy]
  refine run_value ?_
  have h := bs_beq hB hC
  simp [eqGuard, binOp, Sem.run_bind, Op.stringOp, h]
theorem Gets.min2 (ho : o.op = .call { callee := .builtin .min, args := #[x, y], argTypes := #[t, t] }) (hx : ev L x = some (.int kd p)) (hy : ev L y = some (.int kd q)) : Gets P n w0 o L H (.int kd (if q < p then q else p)) := fun a w hf hs => by
  simp only [execOp, ho, resolve, invoke, builtin, Sem.run_bind, Sem.run_pure, Result.andThen_ok, List.map_toArray, List.map_cons, List.map_nil, hf.eval hx, hf.eval hy, Builtin.min_]
  simp [Builtin.min2, Sem.run_bind]
theorem Gets.min3 {r : Int} (ho : o.op = .call { callee := .builtin .min, args := #[x, y, z], argTypes := #[t, t, t] }) (hx : ev L x = some (.int kd p)) (hy : ev L y = some (.int kd q)) (hz : ev L z = some (.int kd r)) : Gets P n w0 o L H (.int kd (if r < (if q < p then q else p) then r else (if q < p then q else p))) := fun a w hf hs => by
  simp only [execOp, ho, resolve, invoke, builtin, Sem.run_bind, Sem.run_pure, Result.andThen_ok, List.map_toArray, List.map_cons, List.map_nil, hf.eval hx, hf.eval hy, hf.eval hz, Builtin.min_]
  simp [Builtin.min2, Sem.run_bind]
end
end Go.Proofs.Ytkgamkjdkapchaa
/-
  Structs: parts of blocks, fields, equality; two results, one of them in memory; rooms that Grow asks for.
-/
namespace Go.Proofs.Ytkgamkjdkapchaa
set_option linter.unusedVariables false
set_option linter.unusedSimpArgs false
set_option linter.unusedVariables false
open Go Go.RowKit
section
variable {P : Program} {ops : Array Oper} {Q : Exit → Act → World → Prop} {n : Sz} {w0 : World} {L L' : List (Nat × Value)} {H : List Ent}
variable {o : Oper} {rest : List Oper} {v u : Value} {x y z : Operand} {k m j : Nat} {t t' e : TypeId} {ks : List Nat} {kd : IntKind} {p q : Int}
theorem Row.part {i g off : Nat} {ent : Ent} {vs : List Value} (hi : H[i]? = some ent) (hg : ent.g = g) (hv : (ent.cs.drop off).take vs.length = vs) : Row w0 H g off vs := Row.ent hi hg fun j u hu => by
  rw [← hv, List.getElem?_take] at hu
  split at hu
  · rwa [List.getElem?_drop] at hu
  · cases hu
theorem run_partN {cs : Array Value} {i s : Nat} {vs : List Value} (hag : (isAgg e).run P = fun w => .ok true w) (hsz : (P.info? e).map (·.size) = some s) (hv : (cs.toList.drop i).take s = vs) (w : World) : (part e cs i).run P w = .ok (.agg vs.toArray) w := by
  subst hv
  simp only [part, Sem.run_bind, hag, Result.andThen_ok, if_true, run_size hsz, Sem.run_pure]
  congr 2
  apply Array.ext'
  simp [List.take_drop]
/-- A field of a struct's value. -/
theorem Gets.field {f : Nat} {fields : Array Field} {fl : Field} {cs : Array Value} (ho : o.op = .field t x f) (h1 : P.underlying t = some (.struct fields)) (hfl : fields[f]? = some fl) (hx : ev L x = some (.agg cs))
    (hp : ∀ w, (part fl.type cs fl.offset).run P w = .ok v w) : Gets P n w0 o L H v := fun a w hf hs => by
  simp only [execOp, ho, hf.eval hx]
  refine run_value ?_
  simp only [Instr.field, Sem.run_bind, run_under h1, Result.andThen_ok, hfl, asAgg, Sem.run_pure]
  exact hp w
theorem Gets.fieldN {f s : Nat} {fields : Array Field} {fl : Field} {cs vs : List Value} (ho : o.op = .field t x f) (h1 : P.underlying t = some (.struct fields)) (hfl : fields[f]? = some fl) (hx : ev L x = some (.agg cs.toArray))
    (hag : (isAgg fl.type).run P = fun w => .ok true w) (hsz : (P.info? fl.type).map (·.size) = some s) (hv : (cs.drop fl.offset).take s = vs) : Gets P n w0 o L H (.agg vs.toArray) :=
  Gets.field ho h1 hfl hx (run_partN hag hsz (by simpa using hv))
theorem Gets.field1 {f : Nat} {fields : Array Field} {fl : Field} {cs : List Value} (ho : o.op = .field t x f) (h1 : P.underlying t = some (.struct fields)) (hfl : fields[f]? = some fl) (hx : ev L x = some (.agg cs.toArray))
    (hag : (isAgg fl.type).run P = fun w => .ok false w) (hv : cs[fl.offset]? = some v) : Gets P n w0 o L H v :=
  Gets.field ho h1 hfl hx (run_part1 hag (by simpa using hv))
theorem fieldsOf_is {fs : Array Field} (h : P.underlying t = some (.struct fs)) : P.fieldsOf t = fs := by unfold Program.fieldsOf; rw [h]
/-- Two structs of two numbers. -/
theorem Gets.pairEq {f0 f1 : Field} {a b c d : Int} {k0 k1 : IntKind} (ho : o.op = .binOp .eql t x y t') (h1 : P.underlying t = some (.struct #[f0, f1])) (hn0 : f0.name ≠ "_") (hn1 : f1.name ≠ "_") (ho0 : f0.offset = 0) (ho1 : f1.offset = 1)
    (ht0 : P.underlying f0.type = some (.int k0)) (ht1 : P.underlying f1.type = some (.int k1)) (hsi : P.stoodInHeld t = false) (hgt : P.eqGuardType P.depth t = false)
    (hx : ev L x = some (.agg [Value.int kd a, Value.int kd b].toArray)) (hy : ev L y = some (.agg [Value.int kd c, Value.int kd d].toArray)) : Gets P n w0 o L H (.bool (decide (a = c ∧ b = d))) := fun ac w hf hs => by
  simp only [execOp, ho, hf.eval hx, hf.eval hy]
  refine run_value ?_
  have hg := run_eqGuard_agg (P := P) w .eql t x y [Value.int kd a, Value.int kd b].toArray [Value.int kd c, Value.int kd d].toArray hgt
  have hp := fun (ty : TypeId) (kk : IntKind) (l : List Value) (i : Nat) (v : Value) (ht : P.underlying ty = some (.int kk)) (hv : l[i]? = some v) (w : World) => run_part1 (P := P) (cs := l.toArray) (isAgg_no ht rfl) (by simpa using hv) w
  simp only [Sem.run_bind, hg, Result.andThen_ok]
  rw [run_eql_struct, run_equalIn_struct w 9999 t _ _ (by rw [fieldsOf_is h1]; exact h1) hsi, fieldsOf_is h1]
  simp only [Op.eqFields, Sem.run_bind, ne_eq, hn0, hn1, not_false_eq_true, if_true, ho0, ho1,
    hp f0.type k0 [Value.int kd a, Value.int kd b] 0 _ ht0 rfl, hp f0.type k0 [Value.int kd c, Value.int kd d] 0 _ ht0 rfl, hp f1.type k1 [Value.int kd a, Value.int kd b] 1 _ ht1 rfl, hp f1.type k1 [Value.int kd c, Value.int kd d] 1 _ ht1 rfl, Result.andThen_ok]
  have e0 := run_equalIn_int (P := P) w 9998 f0.type kd k0 a c ht0
  have e1 := run_equalIn_int (P := P) w 9998 f1.type kd k1 b d ht1
  rw [show (9998 + 1) = 9999 from rfl] at e0 e1
  have q1 := hp f1.type k1 [Value.int kd a, Value.int kd b] 1 _ ht1 rfl
  have q2 := hp f1.type k1 [Value.int kd c, Value.int kd d] 1 _ ht1 rfl
  rw [e0]
  by_cases hac : a = c
  · subst hac
    simp only [beq_self_eq_true, Result.andThen_ok, Bool.not_true, Bool.false_eq_true, if_false, Sem.run_bind, q1, q2]
    rw [e1]
    by_cases hbd : b = d
    · subst hbd
      simp only [beq_self_eq_true, Result.andThen_ok, Bool.not_true, Bool.false_eq_true, if_false, Sem.run_pure]
      simp
    · have : (b == d) = false := by simpa using hbd
      simp [this, hbd]
  · have : (a == c) = false := by simpa using hac
    simp [this, hac]
theorem Gets.boolEqP {a b : Prop} [Decidable a] [Decidable b] (ho : o.op = .binOp .eql t x y t') (h1 : P.underlying t = some .bool) (hx : ev L x = some (.bool (decide a))) (hy : ev L y = some (.bool (decide b))) : Gets P n w0 o L H (.bool (decide (a ↔ b))) :=
  Gets.congr (Gets.boolEq ho h1 hx hy) (by by_cases ha : a <;> by_cases hb : b <;> simp [ha, hb])
theorem Gets.max2 (ho : o.op = .call { callee := .builtin .max, args := #[x, y], argTypes := #[t, t] }) (hx : ev L x = some (.int kd p)) (hy : ev L y = some (.int kd q)) : Gets P n w0 o L H (.int kd (if p < q then q else p)) := fun a w hf hs => by
  simp only [execOp, ho, resolve, invoke, builtin, Sem.run_bind, Sem.run_pure, Result.andThen_ok, List.map_toArray, List.map_cons, List.map_nil, hf.eval hx, hf.eval hy, Builtin.max_]
  simp [Builtin.max2, Sem.run_bind]
theorem Gets.capSlice {A : Option Addr} {len cap : Nat} (ho : o.op = .call { callee := .builtin .cap, args := #[x], argTypes := #[t] }) (h1 : P.underlying t = some (.slice e)) (hx : ev L x = some (.slice A len cap)) : Gets P n w0 o L H (.int .i64 cap) := fun a w hf hs => by
  simp only [execOp, ho, resolve, invoke, builtin, Sem.run_bind, Sem.run_pure, Result.andThen_ok, List.map_toArray, List.map_cons, List.map_nil, hf.eval hx, Builtin.cap_]
  simp [Sem.run_bind, run_under h1, goInt]
/-- Two results, the first of them in memory. -/
theorem TE.ret2C {fn : Func} {R : Ending → World → Prop} {i j g off s : Nat} {vs : List Value} (hres : fn.results = #[.cell i t, .tmp j]) (hag : (isAgg t).run P = fun w => .ok true w) (hsz : (P.info? t).map (·.size) = some s)
    (hx : look L i = some (.pointer (some ⟨g, off, none⟩))) (hy : look L j = some u) (hl : vs.length = s) (hc : Row w0 H g off vs) (h : ∀ w, St w0 H w → R (.returned (.tuple #[.agg vs.toArray, u])) w) (hds : n.ds = [] := by rfl) : TE (bodyPost P fn R) .ret n w0 L H := fun a w hf hs => by
  refine ⟨hf.1.trans hds, .tuple #[.agg vs.toArray, u], ?_, h w hs⟩
  have h1 : (a.tmps.getD i undef) = .pointer (some ⟨g, off, none⟩) := by simp [Array.getD_eq_getD_getElem?, hf.2.2 i _ hx]
  have h3 : (a.tmps.getD j undef) = u := by simp [Array.getD_eq_getD_getElem?, hf.2.2 j _ hy]
  have h2 := run_loadCells (P := P) (w := w) (b := g) (off := off) s 0 #[] vs hl (fun j u hu => by rw [Nat.zero_add]; exact hc w hs j u hu)
  simp only [results, hres]
  simp [Sem.run_bind, loadVar, hag, run_size hsz, loadCells]
  simp only [Array.getD_eq_getD_getElem?] at h1 h3
  simp [h1, h3, asAddr, h2]
theorem TE.end2C {fn : Func} {R : Ending → World → Prop} {i j g off s : Nat} {vs : List Value} (hres : fn.results = #[.cell i t, .tmp j]) (hag : (isAgg t).run P = fun w => .ok true w) (hsz : (P.info? t).map (·.size) = some s)
    (hx : look L i = some (.pointer (some ⟨g, off, none⟩))) (hy : look L j = some u) (hl : vs.length = s) (hc : Row w0 H g off vs) (h : ∀ w, St w0 H w → R (.returned (.tuple #[.agg vs.toArray, u])) w) (hds : n.ds = [] := by rfl) : TE (bodyPost P fn R) .normal n w0 L H := fun a w hf hs =>
  TE.ret2C hres hag hsz hx hy hl hc h hds a w hf hs
theorem St.less {w : World} {g tot : Nat} {cs : List Value} (h : St w0 (⟨g, t, cs, tot⟩ :: H) w) : St w0 (⟨g, t, [], tot⟩ :: H) w :=
  ⟨h.os, h.tape, h.output, h.size, fun e he => by
    rcases List.mem_cons.1 he with rfl | he
    · obtain ⟨cur, h1, h2, _⟩ := h.has _ List.mem_cons_self
      exact ⟨cur, h1, h2, by simp⟩
    · exact h.has e (by simp [he]),
  fun b hb hne => h.old b hb (fun e he => by
    rcases List.mem_cons.1 he with rfl | he
    · exact hne ⟨g, t, [], tot⟩ List.mem_cons_self
    · exact hne e (by simp [he])), .cons (fun d hd => (List.pairwise_cons.1 h.apart).1 d hd) (List.pairwise_cons.1 h.apart).2⟩
/-- 'append' of so many zeros onto nil. -/
theorem TL.growNil {nn bytes : Nat} {zv : Value} (hg : Wants n ops L o) (hi' : inside n o.dst = true) (ho : o.op = .call { callee := .builtin .append, args := #[x, y], argTypes := #[t, t'] }) (h1 : P.underlying t = some (.slice e)) (h2 : P.underlying t' = some (.int .i64))
    (hz : (P.info? e).map (fun i => (i.zero, i.size, i.bytes)) = some (some zv, 1, bytes)) (hzc : zv.cells = #[zv]) (hx : ev L x = some (.slice none 0 0)) (hy : ev L y = some (.int .i64 (nn : Int))) (hpos : 0 < nn) (hle : nn * bytes ≤ 140737488355328) (hnn : nn ≤ 140737488355328)
    (hr : ∀ g c, w0.heap.size ≤ g → nn ≤ c → c ≤ maxLen → TL P ops Q n w0 rest (put L o.dst (.slice (some ⟨g, 0, none⟩) nn c)) (⟨g, e, [], c⟩ :: H)) : TL P ops Q n w0 (o :: rest) L H :=
  fun a w hf hs => wpL_wants hg.nd (hg a hf) fun K hK => by
    obtain ⟨i, hi1, hi2⟩ := Option.map_eq_some_iff.1 hz
    simp only [Prod.mk.injEq] at hi2
    obtain ⟨hz1, hz2, hz3⟩ := hi2
    have hwrap : IntKind.i64.wrap (nn : Int) = (nn : Int) := IntWalk.i64_in _ (by omega)
    have hcap := grownCap_ge w nn 0 e
    have hcap2 := grownCap_le_maxLen w nn 0 e (by unfold maxLen; omega)
    have hn0 : nn ≠ 0 := by omega
    have hl0 : ¬ ((nn : Int) < 0) := by omega
    have hb : ¬ ((281474976710656 : Int) < (nn : Int) * (bytes : Int)) := by
      have h := Int.ofNat_le.2 hle
      rw [Int.natCast_mul] at h
      intro h'
      have h3 : ((140737488355328 : Nat) : Int) = 140737488355328 := rfl
      rw [h3] at h; omega
    have h63 : ¬ (9223372036854775807 < (nn : Int)) := by omega
    have h48 : ¬ (281474976710656 < Builtin.nextslicecap nn 0 * bytes) := by rw [nextslicecap_zero (by omega)]; omega
    obtain ⟨cs, hsz, hcs⟩ : ∃ cs : Array Value, cs.size = grownCap w nn 0 e ∧ (Builtin.append_ #[t, t'] o.type #[.slice none 0 0, .int .i64 (nn : Int)]).run P w = .ok (.slice (some ⟨w.heap.size, 0, none⟩) nn (grownCap w nn 0 e)) (w.drew.alloc (.cells cs e)) := by
      refine ⟨Builtin.zeroCells zv.cells nn ++ Builtin.zeroCells zv.cells (grownCap w nn 0 e - nn), ?_, ?_⟩
      · rw [Array.size_append, size_zeroCells, size_zeroCells, hzc]
        show nn * 1 + (grownCap w nn 0 e - nn) * 1 = _
        omega
      · simp [Builtin.append_, Sem.run_bind, run_under h1, run_under h2, sizeOf, typeInfo, zeroValue, hi1, hz1, hz2, hz3, asInt, asIntOf, hwrap, hn0, hl0, hb, h63, h48, Question.forced, Builtin.firstCells, newRow, grownCap]
    unfold Oper.wp
    have hrun : (execOp a.eval o).run P w = .ok (.value (.slice (some ⟨w.heap.size, 0, none⟩) nn (grownCap w nn 0 e))) (w.drew.alloc (.cells cs e)) := by
      simp only [execOp, ho, resolve, invoke, builtin, Sem.run_bind, Sem.run_pure, Result.andThen_ok, List.map_toArray, List.map_cons, List.map_nil, hf.eval hx, hf.eval hy, hcs]
    rw [hrun]
    have h := hs.drew.alloc e cs.toList cs rfl
    have hlen : cs.toList.length = grownCap w nn 0 e := by simpa using hsz
    rw [hlen] at h
    exact hK _ _ (hr w.heap.size (grownCap w nn 0 e) hs.size hcap hcap2 _ _ (hf.put o.dst _ hi') (St.less h))
end
section
variable {P : Program} {ops : Array Oper} {Q : Exit → Act → World → Prop} {n : Sz} {w0 : World} {L L' : List (Nat × Value)} {HB X D : List Ent}
variable {o : Oper} {rest : List Oper} {v u : Value} {x y z : Operand} {k m j : Nat} {t t' e : TypeId} {ks : List Nat} {kd : IntKind} {r : Value → List Ent → Prop} {rs : List (Value → List Ent → Prop)}
/-- A call that makes blocks, of whatever has been made. -/
theorem TR.call3 {ι : Type} {f : FuncId} {xs : List Operand} {ts : Array TypeId} {vs : List Value} {V : ι → Value} {R : ι → Prop} {E : ι → List Ent} (hg : Wants n ops L o) (hi : inside n o.dst = true) (h : Enters P f)
    (ho : o.op = .call { callee := .value (.func f), args := xs.toArray, argTypes := ts }) (hx : evs L xs = some vs)
    (hc : ∀ Z w, Fresh w0 Z → St w0 (HB ++ Z) w → Calls P f vs.toArray w fun e w' => ∃ i, e = .returned (V i) ∧ R i ∧ Fresh w (E i) ∧ St w (E i) w')
    (hr : ∀ i, R i → Fresh w0 (E i) → TR P ops Q n w0 HB ks rs rest (put L o.dst (V i)) (X ++ E i) D) : TR P ops Q n w0 HB (3 :: ks) ((fun v e => ∃ i, R i ∧ v = V i ∧ e = E i) :: rs) (o :: rest) L X D :=
  TR.call (k := 3) (.inl rfl) hg hi h ho hx hc hr
/-- A call that makes blocks and reads what has been made. -/
theorem TR.call6 {ι : Type} {f : FuncId} {xs : List Operand} {ts : Array TypeId} {vs : List Value} {V : ι → Value} {R : ι → Prop} {E : ι → List Ent} (hg : Wants n ops L o) (hi : inside n o.dst = true) (h : Enters P f)
    (ho : o.op = .call { callee := .value (.func f), args := xs.toArray, argTypes := ts }) (hx : evs L xs = some vs)
    (hc : ∀ Z w, Fresh w0 Z → St w0 (HB ++ (X ++ Z)) w → Calls P f vs.toArray w fun e w' => ∃ i, e = .returned (V i) ∧ R i ∧ Fresh w (E i) ∧ St w (E i) w')
    (hr : ∀ i, R i → Fresh w0 (E i) → TR P ops Q n w0 HB ks rs rest (put L o.dst (V i)) (X ++ E i) D) : TR P ops Q n w0 HB (6 :: ks) ((fun v e => ∃ i, R i ∧ v = V i ∧ e = E i) :: rs) (o :: rest) L X D :=
  TR.call (k := 6) (.inr (.inr rfl)) hg hi h ho hx hc hr
/-- Append of something onto a full slice. -/
theorem TR.appendFull {A As : Option Addr} {bytes sl sc : Nat} {W B : List Int} {zv : Value} (hg : Wants n ops L o) (hi' : inside n o.dst = true) (ho : o.op = .call { callee := .builtin .append, args := #[x, y], argTypes := #[t, t] })
    (h1 : P.underlying t = some (.slice e)) (hz : (P.info? e).map (fun i => (i.zero, i.size, i.bytes)) = some (some zv, 1, bytes)) (hzc : zv.cells = #[zv])
    (hx : ev L x = some (.slice A m m)) (hy : ev L y = some (.slice As sl sc)) (hW : ∀ Z w, Fresh w0 Z → St w0 (HB ++ Z) w → Src w A m kd W) (hsrc : ∀ Z w, Fresh w0 Z → St w0 (HB ++ Z) w → Src w As sl kd B) (hsl : 0 < sl) (hA : A = none → m = 0)
    (h63 : m + sl ≤ maxLen) (hbytes : (m + sl) * bytes ≤ 140737488355328)
    (hr : ∀ g c, w0.heap.size ≤ g → m + sl ≤ c → c ≤ maxLen → TR P ops Q n w0 HB ks rs rest (put L o.dst (.slice (some ⟨g, 0, none⟩) (m + sl) c)) (X ++ [⟨g, e, (W ++ B).map (Value.int kd), c⟩]) D) :
    TR P ops Q n w0 HB (3 :: ks) ((fun v d => ∃ g c, m + sl ≤ c ∧ c ≤ maxLen ∧ v = .slice (some ⟨g, 0, none⟩) (m + sl) c ∧ d = [⟨g, e, (W ++ B).map (Value.int kd), c⟩]) :: rs) (o :: rest) L X D :=
  fun a hf => .inr (.inl ⟨.inl rfl, fun Z w hZ hs => by
    obtain ⟨v', w', He', hrun, hown, hv, hst⟩ := run_append_full (ty := o.type) (sc := sc) h1 hz hzc (hW Z w hZ hs) (hsrc Z w hZ hs) hsl hA h63 hbytes
    have hlen : (W ++ B).length = m + sl := by rw [List.length_append, (hW Z w hZ hs).1, (hsrc Z w hZ hs).1]
    obtain ⟨g, c, hv2, hHe, hg2, hc, hm⟩ := own_some hown hv
    rw [hlen] at hv2 hc
    subst hv2; subst hHe
    have hrun' : (execOp a.eval o).run P w = .ok (.value (.slice (some ⟨g, 0, none⟩) (m + sl) c)) w' := by
      simp only [execOp, ho, resolve, invoke, builtin, Sem.run_bind, Sem.run_pure, Result.andThen_ok, List.map_toArray, List.map_cons, List.map_nil, hf.eval hx, hf.eval hy, hrun]
    exact ⟨.inl ⟨_, _, _, hrun', ⟨g, c, hc, hm, rfl, rfl⟩, fresh_one hg2, hst⟩, hg a hf⟩,
    fun v d hE ⟨g, c, h2, h3, h4, h5⟩ => by subst h4; subst h5; exact hr g c (fresh_head hE) h2 h3 _ (hf.put o.dst _ hi')⟩)
theorem TR.passU {j d : Nat} {b : Bool} (h : o.guard = some (j, b)) (hj : (ops[j]?).bind (·.dst) = some d) (hd : look L d = some undef) (hi : inside n o.dst = true) (hr : TR P ops Q n w0 HB ks rs rest (put L o.dst undef) X D) : TR P ops Q n w0 HB (0 :: ks) (r :: rs) (o :: rest) L X D :=
  fun a hf => .inl ⟨by decide, undef, fun Z _ => .inr ⟨by
    have hy : yielded ops a.tmps j = none := by
      unfold yielded
      rw [hj]
      simp [hf.2.2 d _ hd, undef]
    simp [Region.wanted, h, hy], rfl⟩, hr _ (hf.put o.dst undef hi)⟩
end
section
variable {P : Program} {ops : Array Oper} {Q : Exit → Act → World → Prop} {n : Sz} {w0 : World} {L : List (Nat × Value)} {H : List Ent} {o : Oper} {rest : List Oper} {ks : List Nat} {k m j d : Nat} {b c : Bool}
theorem guard_undef {a : Act} (hf : Fr n L a) (hj : (ops[j]?).bind (·.dst) = some d) (hd : look L d = some undef) : yielded ops a.tmps j = none := by
  unfold yielded
  rw [hj]
  simp [hf.2.2 d _ hd, undef]
theorem TL.passU (h : o.guard = some (j, c)) (hj : (ops[j]?).bind (·.dst) = some d) (hd : look L d = some undef) (hi : inside n o.dst = true) (hr : TL P ops Q n w0 rest (put L o.dst undef) H) : TL P ops Q n w0 (o :: rest) L H :=
  fun a w hf hs => wpL_pass (by simp [Region.wanted, h, guard_undef hf hj hd]) (hr _ _ (hf.put o.dst undef hi) hs)
theorem TS.passU (h : o.guard = some (j, c)) (hj : (ops[j]?).bind (·.dst) = some d) (hd : look L d = some undef) (hi : inside n o.dst = true) (hr : TS P ops Q n w0 k m rest (put L o.dst undef) H) : TS P ops Q n w0 k (m + 1) (o :: rest) L H :=
  fun a hf => SeqM.skip (by simp [Region.wanted, h, guard_undef hf hj hd]) (hr _ (hf.put o.dst undef hi))
theorem TM.passU (h : o.guard = some (j, c)) (hj : (ops[j]?).bind (·.dst) = some d) (hd : look L d = some undef) (hi : inside n o.dst = true) (hr : TM P ops Q n w0 ks rest (put L o.dst undef) H) : TM P ops Q n w0 (0 :: ks) (o :: rest) L H :=
  fun a hf => ⟨undef, St w0 H, ⟨fun S0 => .inr ⟨by simp [Region.wanted, h, guard_undef hf hj hd], rfl⟩, rfl⟩, hr _ (hf.put o.dst undef hi)⟩
theorem TM.pass1U (h : o.guard = some (j, c)) (hj : (ops[j]?).bind (·.dst) = some d) (hd : look L d = some undef) (hi : inside n o.dst = true) (hr : TM P ops Q n w0 ks rest (put L o.dst undef) H) : TM P ops Q n w0 (1 :: ks) (o :: rest) L H :=
  fun a hf => ⟨undef, St w0 H, ⟨.inr ⟨by simp [Region.wanted, h, guard_undef hf hj hd], rfl⟩, rfl⟩, hr _ (hf.put o.dst undef hi)⟩
theorem TM.pass1 (h : o.guard = some (j, c)) (hj : (ops[j]?).bind (·.dst) = some d) (hd : look L d = some (.bool b)) (hi : inside n o.dst = true) (hb : b = !c) (hr : TM P ops Q n w0 ks rest (put L o.dst undef) H) : TM P ops Q n w0 (1 :: ks) (o :: rest) L H :=
  fun a hf => ⟨undef, St w0 H, ⟨.inr ⟨by subst hb; simp [Region.wanted, h, guard_val hf hj hd], rfl⟩, rfl⟩, hr _ (hf.put o.dst undef hi)⟩
end
theorem Gets.strAdd {P : Program} {n : Sz} {w0 : World} {L : List (Nat × Value)} {H : List Ent} {o : Oper} {x y : Operand} {t t' : TypeId} {b c d : ByteArray} (ho : o.op = .binOp .add t x y t') (hx : ev L x = some (.string b)) (hy : ev L y = some (.string c)) (hn : b.size + c.size ≤ 9223372036854775807) (hd : b ++ c = d) : Gets P n w0 o L H (.string d) := fun a w hf hs => by
  subst hd
  simp only [execOp, ho, hf.eval hx, hf.eval hy]
  refine run_value ?_
  have : ¬ (((b.size + c.size : Nat) : Int) > IntKind.i64.max) := by simp only [IntKind.max, IntKind.bits, IntKind.signed]; simp; omega
  simp only [eqGuard, binOp, Sem.run_bind, Op.stringOp, if_neg this, Sem.run_pure]
  rfl
section
variable {P : Program} {n : Sz} {w0 : World} {L : List (Nat × Value)} {H : List Ent} {o : Oper} {x y : Operand} {t t' : TypeId}
theorem Gets.boolNeP {a b : Prop} [Decidable a] [Decidable b] (ho : o.op = .binOp .neq t x y t') (h1 : P.underlying t = some .bool) (hx : ev L x = some (.bool (decide a))) (hy : ev L y = some (.bool (decide b))) : Gets P n w0 o L H (.bool (decide (¬ (a ↔ b)))) := fun ac w hf hs => by
  simp only [execOp, ho, hf.eval hx, hf.eval hy]
  refine run_value ?_
  have h3 := eqIn_bb (P := P) (t := t) 9999 (b := decide a) (c := decide b) h1 w
  have h4 : ∀ c d : Value, Op.equal t c d = Op.equalIn (9999 + 1) t c d := fun _ _ => rfl
  simp only [eqGuard, Sem.run_bind, Sem.run_pure, Result.andThen_ok, binOp, h4]
  generalize Op.equalIn (9999 + 1) t (.bool (decide a)) (.bool (decide b)) = s at *
  by_cases ha : a <;> by_cases hb : b <;> simp [ha, hb] at h3 ⊢ <;> simp [h3]
theorem bs_app (l r : List Int) : bs l ++ bs r = bs (l ++ r) := by
  apply ByteArray.ext
  apply Array.toList_inj.1
  unfold bs
  simp [ByteArray.data_append]
end
theorem dec_iff {p q : Prop} [Decidable p] [Decidable q] (h : p ↔ q) : Ending.returned (.bool (decide p)) = .returned (.bool (decide q)) := by rw [decide_eq_decide.2 h]
theorem dec_t {q : Prop} [Decidable q] (h : q) : Ending.returned (.bool true) = .returned (.bool (decide q)) := by rw [decide_eq_true h]
theorem dec_f {q : Prop} [Decidable q] (h : ¬ q) : Ending.returned (.bool false) = .returned (.bool (decide q)) := by rw [decide_eq_false h]
theorem ret_i {a b : Int} (h : a = b) : Ending.returned (.int .i64 a) = .returned (.int .i64 b) := by rw [h]
end Go.Proofs.Ytkgamkjdkapchaa
/-
  A region that draws its order, with operations that change what the region or the call has made: kind 0 reads nothing that is changed or made, kind 3 makes blocks, kind 7 reads or changes what is made.
-/
namespace Go.Proofs.Ytkgamkjdkapchaa
set_option linter.unusedVariables false
set_option linter.unusedSimpArgs false
set_option linter.unusedVariables false
open Go Go.RowKit
section
variable {P : Program} {ops : Array Oper} {md : Region.Mode} {w0 : World} {HB : List Ent}
def compatT (i j : Nat) : Bool :=
  match j with
  | 0 => Nat.beq i 0
  | 3 => Nat.beq i 0 || Nat.beq i 3 || Nat.beq i 7
  | 7 => Nat.beq i 0
  | _ => false
/-- i may stand before j. -/
def pairOKT (md : Region.Mode) (ops : Array Oper) (ks ms : List Nat) (i j : Nat) : Bool :=
  !Nat.beq i j &&
  ((ms.getD j 0).testBit i || (match ops[i]? with
    | some oi => (match ops[j]? with | some oj => oi.apart ops oj && compatT (ks.getD i 2) (ks.getD j 2) | none => true)
    | none => true)) &&
  (match ops[i]? with | some oi => oi.after.all (fun e => !Region.binds md e || !Nat.beq e.on j) | none => true)
def mixOKt (md : Region.Mode) (ops : Array Oper) (ks p : List Nat) : Bool :=
  Region.noSelect ops && Nat.beq p.length ops.size && ((List.range ops.size).all fun q => p.any (Nat.beq q)) &&
  (let ms := masks md ops
   p.all (fun i => decide (i < ops.size) && (match ops[i]? with | some oi => oi.after.all (fun e => !Region.binds md e || (!Nat.beq e.on i && decide (e.on < ops.size))) | none => true)) &&
   pairsOK (pairOKT md ops ks ms) p)
def PairT (md : Region.Mode) (ops : Array Oper) (ks : List Nat) (i j : Nat) : Prop :=
  i ≠ j ∧ (∀ oi oj, ops[i]? = some oi → ops[j]? = some oj → Before md ops j i ∨ (oi.apart ops oj = true ∧ compatT (ks.getD i 2) (ks.getD j 2) = true)) ∧
  ∀ oi, ops[i]? = some oi → ∀ e ∈ oi.after, Region.binds md e = true → e.on ≠ j
theorem pairOKT_spec {ks : List Nat} {i j : Nat} (h : pairOKT md ops ks (masks md ops) i j = true) : PairT md ops ks i j := by
  unfold pairOKT at h
  simp only [Bool.and_eq_true, Bool.or_eq_true, Bool.not_eq_true'] at h
  obtain ⟨⟨h1, h2⟩, h3⟩ := h
  refine ⟨nbeq_ne h1, fun oi oj hi hj => ?_, fun oi hi e he hb => ?_⟩
  · rcases h2 with h2 | h2
    · exact .inl (masks_spec h2)
    · rw [hi, hj] at h2
      simp only [Bool.and_eq_true] at h2
      exact .inr h2
  · rw [hi] at h3
    simp only [Array.all_eq_true_iff_forall_mem, Bool.or_eq_true, Bool.not_eq_true'] at h3
    exact nbeq_ne ((h3 e he).resolve_left (by simp [hb]))
theorem mixOKt_spec {ks p : List Nat} (h : mixOKt md ops ks p = true) : Region.noSelect ops = true ∧ p.length = ops.size ∧ (∀ q, q < ops.size → q ∈ p) ∧
    (∀ i ∈ p, i < ops.size ∧ ∀ oi, ops[i]? = some oi → ∀ e ∈ oi.after, Region.binds md e = true → e.on ≠ i ∧ e.on < ops.size) ∧ p.Pairwise (PairT md ops ks) := by
  unfold mixOKt at h
  simp only [Bool.and_eq_true, List.all_eq_true, decide_eq_true_eq] at h
  obtain ⟨⟨⟨h1, h2⟩, h7⟩, h3, h4⟩ := h
  refine ⟨h1, Nat.eq_of_beq_eq_true h2, fun q hq => ?_, fun i hi => ⟨(h3 i hi).1, fun oi hoi e he hb => ?_⟩, (pairsOK_spec h4).imp pairOKT_spec⟩
  · obtain ⟨r, hr, hqr⟩ := List.any_eq_true.1 (h7 q (List.mem_range.2 hq))
    rw [Nat.eq_of_beq_eq_true hqr]; exact hr
  have h5 := (h3 i hi).2
  rw [hoi] at h5
  simp only [Array.all_eq_true_iff_forall_mem, Bool.or_eq_true, Bool.and_eq_true, Bool.not_eq_true', decide_eq_true_eq] at h5
  have h6 := (h5 e he).resolve_left (by simp [hb])
  exact ⟨nbeq_ne h6.1, h6.2⟩

/-- The operation changes what has been made: among X0 and Y it puts E in Y's place. -/
def ChangesL (P : Program) (ops : Array Oper) (w0 : World) (HB X0 Z : List Ent) (o : Oper) (a : Act) (R : Value → List Ent → Prop) (w : World) : Prop :=
  ((∃ v E w', (execOp a.eval o).run P w = .ok (.value v) w' ∧ R v E ∧ Fresh w0 E ∧ St w0 (HB ++ ((X0 ++ E) ++ Z)) w') ∨
    (∃ E w', o.dst = none ∧ (execOp a.eval o).run P w = .ok .skip w' ∧ R undef E ∧ Fresh w0 E ∧ St w0 (HB ++ ((X0 ++ E) ++ Z)) w') ∨
    (∃ f vs, (execOp a.eval o).run P w = .ok (.enter f vs) w ∧ Calls P f vs w fun e w'' => ∃ v E, e = .returned v ∧ R v E ∧ Fresh w0 E ∧ St w0 (HB ++ ((X0 ++ E) ++ Z)) w'')) ∧ Region.wanted o (yielded ops a.tmps) = true
theorem ChangesL.of_same {X0 Z : List Ent} {o : Oper} {a a' : Act} {w : World} {R : Value → List Ent → Prop} (h : ChangesL P ops w0 HB X0 Z o a R w) (he : execOp a'.eval o = execOp a.eval o)
    (hw : Region.wanted o (yielded ops a'.tmps) = Region.wanted o (yielded ops a.tmps)) : ChangesL P ops w0 HB X0 Z o a' R w := by
  unfold ChangesL at *; rw [he, hw]; exact h
theorem ChangesL.one {X0 Z : List Ent} {o : Oper} {a : Act} {w : World} {R : Value → List Ent → Prop} (h : ChangesL P ops w0 HB X0 Z o a R w) : ∃ v E w', R v E ∧ Fresh w0 E ∧ St w0 (HB ++ ((X0 ++ E) ++ Z)) w' := by
  rcases h.1 with ⟨v, E, w', _, h1, h2, h3⟩ | ⟨E, w', _, _, h1, h2, h3⟩ | ⟨f, vs, _, hc⟩
  · exact ⟨v, E, w', h1, h2, h3⟩
  · exact ⟨_, E, w', h1, h2, h3⟩
  · obtain ⟨e, w', fr, ⟨v, E, _, h1, h2, h3⟩, _⟩ := hc []
    exact ⟨v, E, w', h1, h2, h3⟩
theorem ChangesL.perm {X0 Z X0' Z' : List Ent} {o : Oper} {a : Act} {w : World} {R : Value → List Ent → Prop} (h : ChangesL P ops w0 HB X0 Z o a R w) (hp : ∀ E, ((X0 ++ E) ++ Z).Perm ((X0' ++ E) ++ Z')) : ChangesL P ops w0 HB X0' Z' o a R w := by
  refine ⟨?_, h.2⟩
  rcases h.1 with ⟨v, E, w', h0, h1, h2, h3⟩ | ⟨E, w', hd, h0, h1, h2, h3⟩ | ⟨f, vs, h0, hc⟩
  · exact .inl ⟨v, E, w', h0, h1, h2, h3.perm (List.Perm.append_left HB (hp E))⟩
  · exact .inr (.inl ⟨E, w', hd, h0, h1, h2, h3.perm (List.Perm.append_left HB (hp E))⟩)
  · refine .inr (.inr ⟨f, vs, h0, hc.mono ?_⟩)
    rintro e w' ⟨v, E, he, h1, h2, h3⟩
    exact ⟨v, E, he, h1, h2, h3.perm (List.Perm.append_left HB (hp E))⟩
def MixT (P : Program) (ops : Array Oper) (w0 : World) (HB : List Ent) (K : Nat → Nat) (RR : Nat → Value → List Ent → Prop) (T : Act → World → Prop) : List Nat → Act → List Ent → Prop
  | [], a, X => ∀ w, St w0 (HB ++ X) w → T a w
  | i :: is, a, X => ∃ o, ops[i]? = some o ∧ (
      (K i = 0 ∧ ∃ v, Val P ops w0 HB 0 [] o v a ∧ MixT P ops w0 HB K RR T is (a.put o.dst v) X) ∨
      (K i = 3 ∧ (∀ Z w, Fresh w0 Z → St w0 (HB ++ Z) w → MakesL P ops o a (RR i) w) ∧ ∀ v E, Fresh w0 E → RR i v E → MixT P ops w0 HB K RR T is (a.put o.dst v) (X ++ E)) ∨
      (K i = 7 ∧ ∃ X0 Y, X.Perm (X0 ++ Y) ∧ (∀ Z w, Fresh w0 Z → St w0 (HB ++ ((X0 ++ Y) ++ Z)) w → ChangesL P ops w0 HB X0 Z o a (RR i) w) ∧ ∀ v E, Fresh w0 E → RR i v E → MixT P ops w0 HB K RR T is (a.put o.dst v) (X0 ++ E)))
theorem MixT.perm {K : Nat → Nat} {RR : Nat → Value → List Ent → Prop} {T : Act → World → Prop} : ∀ (is : List Nat) (a : Act) (X X' : List Ent), X.Perm X' → MixT P ops w0 HB K RR T is a X → MixT P ops w0 HB K RR T is a X'
  | [], a, X, X', hp, h => fun w hs => h w (hs.perm (List.Perm.append_left HB hp.symm))
  | i :: is, a, X, X', hp, h => by
    obtain ⟨o, ho, h⟩ := h
    refine ⟨o, ho, ?_⟩
    rcases h with ⟨h1, v, h2, h3⟩ | ⟨h1, h2, h3⟩ | ⟨h1, X0, Y, hXY, h2, h3⟩
    · exact .inl ⟨h1, v, h2, MixT.perm is _ X X' hp h3⟩
    · exact .inr (.inl ⟨h1, h2, fun v E hE hR => MixT.perm is _ _ _ (List.Perm.append_right E hp) (h3 v E hE hR)⟩)
    · exact .inr (.inr ⟨h1, X0, Y, hp.symm.trans hXY, h2, h3⟩)
theorem compatT_0 {i : Nat} (h : compatT i 0 = true) : i = 0 := Nat.eq_of_beq_eq_true h
theorem compatT_7 {i : Nat} (h : compatT i 7 = true) : i = 0 := Nat.eq_of_beq_eq_true h
theorem MixT.first0 {K : Nat → Nat} {RR : Nat → Value → List Ent → Prop} {T : Act → World → Prop} (hsel : ∀ (j : Nat) (o : Oper) cs b, ops[j]? = some o → o.op ≠ .select cs b) {j : Nat} {oj : Oper} (hj : ops[j]? = some oj) (hk : K j = 0) (post : List Nat) :
    ∀ (pre : List Nat) (a : Act) (X : List Ent), (∀ i oi, i ∈ pre → ops[i]? = some oi → oi.apart ops oj = true ∧ compatT (K i) (K j) = true) → MixT P ops w0 HB K RR T (pre ++ j :: post) a X →
      ∃ v, Val P ops w0 HB 0 [] oj v a ∧ MixT P ops w0 HB K RR T (pre ++ post) (a.put oj.dst v) X
  | [], a, X, _, h => by
    obtain ⟨o, ho, h⟩ := h
    rw [hj] at ho; cases ho
    rcases h with ⟨_, v, h2, h3⟩ | ⟨h1, _⟩ | ⟨h1, _⟩
    · exact ⟨v, h2, h3⟩
    · omega
    · omega
  | i :: pre, a, X, hap, h => by
    obtain ⟨oi, hi, h⟩ := h
    obtain ⟨hap1, hcomp⟩ := hap i oi List.mem_cons_self hi
    obtain ⟨h1, h2, h3⟩ := Oper.apart_spec hap1
    have hap' := fun k ok hk => hap k ok (List.mem_cons_of_mem _ hk)
    rw [hk] at hcomp
    have hc := compatT_0 hcomp
    rcases h with ⟨hki, vi, hf, hs⟩ | ⟨hki, _⟩ | ⟨hki, _⟩
    · obtain ⟨vj, hfj, hsj⟩ := MixT.first0 hsel hj hk post pre (a.put oi.dst vi) X hap' hs
      exact ⟨vj, hfj.of_same (execOp_put oj (fun cs b => hsel j oj cs b hj) a oi.dst vi h1).symm (wanted_put oj a oi.dst vi h1).symm, oi, hi,
        .inl ⟨hki, vi, hf.of_same (execOp_put oi (fun cs b => hsel i oi cs b hi) a oj.dst vj h3) (wanted_put oi a oj.dst vj h3), by rw [← Act.put_comm a vi vj h2]; exact hsj⟩⟩
    · omega
    · omega
theorem MixT.first7 {K : Nat → Nat} {RR : Nat → Value → List Ent → Prop} {T : Act → World → Prop} (hsel : ∀ (j : Nat) (o : Oper) cs b, ops[j]? = some o → o.op ≠ .select cs b) {j : Nat} {oj : Oper} (hj : ops[j]? = some oj) (hk : K j = 7) (post : List Nat) :
    ∀ (pre : List Nat) (a : Act) (X : List Ent), (∀ i oi, i ∈ pre → ops[i]? = some oi → oi.apart ops oj = true ∧ compatT (K i) (K j) = true) → MixT P ops w0 HB K RR T (pre ++ j :: post) a X →
      ∃ X0 Y, X.Perm (X0 ++ Y) ∧ (∀ Z w, Fresh w0 Z → St w0 (HB ++ ((X0 ++ Y) ++ Z)) w → ChangesL P ops w0 HB X0 Z oj a (RR j) w) ∧ ∀ v E, Fresh w0 E → RR j v E → MixT P ops w0 HB K RR T (pre ++ post) (a.put oj.dst v) (X0 ++ E)
  | [], a, X, _, h => by
    obtain ⟨o, ho, h⟩ := h
    rw [hj] at ho; cases ho
    rcases h with ⟨h1, _⟩ | ⟨h1, _⟩ | ⟨_, h2⟩
    · omega
    · omega
    · exact h2
  | i :: pre, a, X, hap, h => by
    obtain ⟨oi, hi, h⟩ := h
    obtain ⟨hap1, hcomp⟩ := hap i oi List.mem_cons_self hi
    obtain ⟨h1, h2, h3⟩ := Oper.apart_spec hap1
    have hap' := fun k ok hk => hap k ok (List.mem_cons_of_mem _ hk)
    rw [hk] at hcomp
    have hc := compatT_7 hcomp
    rcases h with ⟨hki, vi, hf, hs⟩ | ⟨hki, _⟩ | ⟨hki, _⟩
    · obtain ⟨X0, Y, hp, hch, hr⟩ := MixT.first7 hsel hj hk post pre (a.put oi.dst vi) X hap' hs
      exact ⟨X0, Y, hp, fun Z w hZ hst => (hch Z w hZ hst).of_same (execOp_put oj (fun cs b => hsel j oj cs b hj) a oi.dst vi h1).symm (wanted_put oj a oi.dst vi h1).symm, fun v E hE hR => ⟨oi, hi,
        .inl ⟨hki, vi, hf.of_same (execOp_put oi (fun cs b => hsel i oi cs b hi) a oj.dst v h3) (wanted_put oi a oj.dst v h3), by rw [← Act.put_comm a vi v h2]; exact hr v E hE hR⟩⟩⟩
    · omega
    · omega
theorem MixT.first3 {K : Nat → Nat} {RR : Nat → Value → List Ent → Prop} {T : Act → World → Prop} (hsel : ∀ (j : Nat) (o : Oper) cs b, ops[j]? = some o → o.op ≠ .select cs b) {j : Nat} {oj : Oper} (hj : ops[j]? = some oj) (hk : K j = 3) (post : List Nat) :
    ∀ (pre : List Nat) (a : Act) (X : List Ent), (∀ i oi, i ∈ pre → ops[i]? = some oi → oi.apart ops oj = true ∧ compatT (K i) (K j) = true) → MixT P ops w0 HB K RR T (pre ++ j :: post) a X →
      ((∃ Z w, Fresh w0 (X ++ Z) ∧ St w0 (HB ++ (X ++ Z)) w) → ∀ Z w, Fresh w0 Z → St w0 (HB ++ Z) w → MakesL P ops oj a (RR j) w) ∧
        ∀ v E, Fresh w0 E → RR j v E → MixT P ops w0 HB K RR T (pre ++ post) (a.put oj.dst v) (X ++ E)
  | [], a, X, _, h => by
    obtain ⟨o, ho, h⟩ := h
    rw [hj] at ho; cases ho
    rcases h with ⟨h1, _⟩ | ⟨_, h2, h3⟩ | ⟨h1, _⟩
    · omega
    · exact ⟨fun _ => h2, h3⟩
    · omega
  | i :: pre, a, X, hap, h => by
    obtain ⟨oi, hi, h⟩ := h
    obtain ⟨hap1, hcomp⟩ := hap i oi List.mem_cons_self hi
    obtain ⟨h1, h2, h3⟩ := Oper.apart_spec hap1
    have hap' := fun k ok hk => hap k ok (List.mem_cons_of_mem _ hk)
    have ej := fun v => (execOp_put oj (fun cs b => hsel j oj cs b hj) a oi.dst v h1).symm
    have wj := fun v => (wanted_put oj a oi.dst v h1).symm
    have ei := fun v => execOp_put oi (fun cs b => hsel i oi cs b hi) a oj.dst v h3
    have wi := fun v => wanted_put oi a oj.dst v h3
    rcases h with ⟨hki, vi, hf, hs⟩ | ⟨hki, hm, hs⟩ | ⟨hki, X0, Y, hp, hch, hs⟩
    · obtain ⟨hmj, hsj⟩ := MixT.first3 hsel hj hk post pre (a.put oi.dst vi) X hap' hs
      refine ⟨fun hex Z w hZ hst => (hmj hex Z w hZ hst).of_same (ej vi) (wj vi), fun v E hE hR => ⟨oi, hi, .inl ⟨hki, vi, ?_, ?_⟩⟩⟩
      · exact hf.of_same (ei v) (wi v)
      · rw [← Act.put_comm a vi v h2]; exact hsj v E hE hR
    · have rec_ := fun v E (hE : Fresh w0 E) (hR : RR i v E) => MixT.first3 hsel hj hk post pre (a.put oi.dst v) (X ++ E) hap' (hs v E hE hR)
      refine ⟨fun hex Z w hZ hst => ?_, fun v E hE hR => ⟨oi, hi, .inr (.inl ⟨hki, fun Z w hZ hst => (hm Z w hZ hst).of_same (ei v) (wi v), fun vi Ei hEi hRi => ?_⟩)⟩⟩
      · obtain ⟨Z1, w1, hZ1, hs1⟩ := hex
        obtain ⟨vi, Ei, w', hRi, hEi, hst'⟩ := (hm (X ++ Z1) w1 hZ1 hs1).one
        have hEi0 : Fresh w0 Ei := fun e he => Nat.le_trans hs1.size (hEi e he)
        have hall := st_call hs1 hst' hEi
        have hex' : ∃ Z w, Fresh w0 ((X ++ Ei) ++ Z) ∧ St w0 (HB ++ ((X ++ Ei) ++ Z)) w := by
          refine ⟨Z1, w', fun e he => ?_, hall.perm ?_⟩
          · simp only [List.append_assoc, List.mem_append] at he
            rcases he with he | he | he
            · exact hZ1 e (List.mem_append.2 (.inl he))
            · exact hEi0 e he
            · exact hZ1 e (List.mem_append.2 (.inr he))
          · simp only [List.append_assoc]
            exact List.Perm.append_left HB (List.Perm.append_left X List.perm_append_comm)
        exact ((rec_ vi Ei hEi0 hRi).1 hex' Z w hZ hst).of_same (ej vi) (wj vi)
      · have := (rec_ vi Ei hEi hRi).2 v E hE hR
        rw [Act.put_comm a vi v h2] at this
        refine MixT.perm _ _ _ _ ?_ this
        rw [List.append_assoc, List.append_assoc]
        exact List.Perm.append_left X List.perm_append_comm
    · have rec_ := fun v E (hE : Fresh w0 E) (hR : RR i v E) => MixT.first3 hsel hj hk post pre (a.put oi.dst v) (X0 ++ E) hap' (hs v E hE hR)
      refine ⟨fun hex Z w hZ hst => ?_, fun v E hE hR => ⟨oi, hi, .inr (.inr ⟨hki, X0 ++ E, Y, ?_, fun Z w hZ hst => ?_, fun vi Ei hEi hRi => ?_⟩)⟩⟩
      · obtain ⟨Z1, w1, hZ1, hs1⟩ := hex
        have hZ1' : Fresh w0 Z1 := fun e he => hZ1 e (List.mem_append.2 (.inr he))
        obtain ⟨vi, Ei, w', hRi, hEi, hst'⟩ := (hch Z1 w1 hZ1' (hs1.perm (List.Perm.append_left HB (List.Perm.append_right Z1 hp)))).one
        have hX0 : Fresh w0 X0 := fun e he => hZ1 e (List.mem_append.2 (.inl (hp.mem_iff.2 (List.mem_append.2 (.inl he)))))
        exact ((rec_ vi Ei hEi hRi).1 ⟨Z1, w', (hX0.app hEi).app hZ1', hst'⟩ Z w hZ hst).of_same (ej vi) (wj vi)
      · refine (List.Perm.append_right E hp).trans ?_
        rw [List.append_assoc, List.append_assoc]
        exact List.Perm.append_left X0 List.perm_append_comm
      · have hc := hch (E ++ Z) w (hE.app hZ) (hst.perm (List.Perm.append_left HB (by
          simp only [List.append_assoc]
          refine List.Perm.append_left X0 ?_
          rw [← List.append_assoc, ← List.append_assoc]
          exact List.Perm.append_right Z List.perm_append_comm)))
        refine (hc.of_same (ei v) (wi v)).perm fun F => ?_
        simp only [List.append_assoc]
        refine List.Perm.append_left X0 ?_
        rw [← List.append_assoc, ← List.append_assoc]
        exact List.Perm.append_right Z List.perm_append_comm
      · have := (rec_ vi Ei hEi hRi).2 v E hE hR
        rw [Act.put_comm a vi v h2] at this
        refine MixT.perm _ _ _ _ ?_ this
        rw [List.append_assoc, List.append_assoc]
        exact List.Perm.append_left X0 List.perm_append_comm
theorem wpAny_of_mixT {Q : Exit → Act → World → Prop} {RR : Nat → Value → List Ent → Prop} {ks p : List Nat} (hks : ∀ i ∈ p, ks.getD i 2 = 0 ∨ ks.getD i 2 = 3 ∨ ks.getD i 2 = 7) (hns : Region.noSelect ops = true) (hself : ∀ i ∈ p, i < ops.size ∧ ∀ oi, ops[i]? = some oi → ∀ e ∈ oi.after, Region.binds md e = true → e.on ≠ i ∧ e.on < ops.size) :
    ∀ (n : Nat) (is : List Nat) (listed : Array Bool) (a : Act) (w : World) (X : List Ent), is.length = n → is.Pairwise (PairT md ops ks) → (∀ i ∈ is, i ∈ p) → Lists ops.size md ops is listed → MixT P ops w0 HB (ks.getD · 2) RR (Q .normal) is a X → Fresh w0 X → St w0 (HB ++ X) w →
      wpAny P md ops Q n listed a w := by
  have hsel := Region.noSelect_spec hns
  intro n
  induction n with
  | zero =>
    intro is listed a w X hlen _ _ hl hs hX hS
    obtain rfl : is = [] := List.length_eq_zero_iff.1 hlen
    refine wpAny_done ?_ (hs w hS) 0
    rw [List.eq_nil_iff_forall_not_mem]
    intro j hj
    obtain ⟨hjun, oj, hoj, _⟩ := mem_ready.1 hj
    have hjs : j < ops.size := (Array.getElem?_eq_some_iff.1 hoj).1
    have := (hl.2.1 j hjs).1 hjun
    simp at this
    omega
  | succ n ih =>
    intro is listed a w X hlen hpw hlt hl hs hX hS
    have hnd : is.Nodup := hpw.imp (fun h => h.1)
    refine ⟨fun hnone => ?_, fun j hj => ?_⟩
    · exfalso
      obtain ⟨i, is', rfl⟩ : ∃ i is', is = i :: is' := by
        cases is with
        | nil => simp at hlen
        | cons i is' => exact ⟨i, is', rfl⟩
      obtain ⟨him, hafter⟩ := hself i (hlt i List.mem_cons_self)
      have hi : ops[i]? = some ops[i] := Array.getElem?_eq_getElem him
      have hmem : i ∈ Region.ready md ops listed := by
        rw [mem_ready]
        refine ⟨(hl.2.1 i him).2 (.inl List.mem_cons_self), _, hi, fun e he hb => ?_⟩
        obtain ⟨hne, hon⟩ := hafter _ hi e he hb
        rw [getD_false_of (by rw [hl.1]; exact hon), hl.2.1 e.on hon]
        rintro (h | h)
        · rcases List.mem_cons.1 h with h | h
          · exact hne h
          · exact ((List.pairwise_cons.1 hpw).1 _ h).2.2 _ hi e he hb rfl
        · omega
      rw [hnone] at hmem
      cases hmem
    · obtain ⟨hjun, oj, hoj, hall⟩ := mem_ready.1 hj
      have hjs : j < ops.size := (Array.getElem?_eq_some_iff.1 hoj).1
      have hnw : ∀ i ∈ is, ¬ Before md ops j i := fun i hi hw => by
        have h1 := hw listed hl.2.2 (fun o ho' e he hb => by rw [hoj] at ho'; cases ho'; exact hall e he hb)
        have him := (hself i (hlt i hi)).1
        exact (getD_false_of (by rw [hl.1]; omega)).1 h1 ((hl.2.1 i him).2 (.inl hi))
      have hjin : j ∈ is := by
        rcases (hl.2.1 j hjs).1 hjun with h | h
        · exact h
        · omega
      obtain ⟨pre, post, rfl⟩ := List.append_of_mem hjin
      have hap : ∀ i oi, i ∈ pre → ops[i]? = some oi → oi.apart ops oj = true ∧ compatT (ks.getD i 2) (ks.getD j 2) = true := fun i oi hi hoi => by
        have hij := (List.pairwise_append.1 hpw).2.2 i hi j List.mem_cons_self
        rcases hij.2.1 oi oj hoi hoj with hw | hap
        · exact absurd hw (hnw i (by simp [hi]))
        · exact hap
      have hsub : (pre ++ post).Sublist (pre ++ j :: post) := List.Sublist.append_left (List.sublist_cons_self _ _) _
      have next := fun a' w' X' => ih (pre ++ post) (listed.setIfInBounds j true) a' w' X' (by simp at hlen ⊢; omega) (hpw.sublist hsub) (fun i hi => hlt i (hsub.subset hi)) (hl.next rfl hnd hjs (Nat.le_refl _) hj)
      rcases hks j (hlt j hjin) with hk | hk | hk
      · obtain ⟨vj, hf, hs'⟩ := MixT.first0 (K := (ks.getD · 2)) hsel hoj hk post pre a X hap hs
        have hfix : Fixed P ops (St w0 (HB ++ X)) oj vj a := by
          have := hf X hX
          rw [if_pos rfl] at this; exact this
        exact hfix.wpOp hoj hS fun w' hS' => next _ w' X hs' hX hS'
      · obtain ⟨hf, hs'⟩ := MixT.first3 (K := (ks.getD · 2)) hsel hoj hk post pre a X hap hs
        have hmk : MakesL P ops oj a (RR j) w := hf ⟨[], w, by rw [List.append_nil]; exact hX, by rw [List.append_nil]; exact hS⟩ X w hX hS
        obtain ⟨hr, hw⟩ := hmk
        unfold Go.wpOp
        simp only [hoj, hw, if_true, Oper.wp]
        refine .inl ?_
        have go : ∀ v E w', RR j v E → Fresh w E → St w E w' → wpAny P md ops Q n (listed.setIfInBounds j true) (a.put oj.dst v) w' := fun v E w' hR hE hw' => by
          have hE0 : Fresh w0 E := fun e he => Nat.le_trans hS.size (hE e he)
          refine next _ w' _ (hs' v E hE0 hR) (hX.app hE0) ?_
          rw [← List.append_assoc]
          exact st_call hS hw' hE
        rcases hr with ⟨v, E, w', hr, hR, hE, hw'⟩ | ⟨f, vs, hr, hc⟩
        · rw [hr]; exact go v E w' hR hE hw'
        · rw [hr]
          refine hc.mono ?_
          rintro e w'' ⟨v, E, rfl, hR, hE, hw'⟩
          exact go v E w'' hR hE hw'
      · obtain ⟨X0, Y, hp, hch, hs'⟩ := MixT.first7 (K := (ks.getD · 2)) hsel hoj hk post pre a X hap hs
        have hX0 : Fresh w0 X0 := fun e he => hX e (hp.mem_iff.2 (List.mem_append.2 (.inl he)))
        obtain ⟨hr, hw⟩ := hch [] w Fresh.nil (by rw [List.append_nil]; exact hS.perm (List.Perm.append_left HB hp))
        unfold Go.wpOp
        simp only [hoj, hw, if_true, Oper.wp]
        refine .inl ?_
        rcases hr with ⟨v, E, w', hr, hR, hE, hst⟩ | ⟨E, w', hd, hr, hR, hE, hst⟩ | ⟨f, vs, hr, hc⟩
        · rw [hr]
          rw [List.append_nil] at hst
          exact next _ w' _ (hs' v E hE hR) (hX0.app hE) hst
        · rw [hr]
          rw [List.append_nil] at hst
          have := next _ w' _ (hs' _ E hE hR) (hX0.app hE) hst
          simpa [Oper.upon_skip, hd, Act.put] using this
        · rw [hr]
          refine hc.mono ?_
          rintro e w'' ⟨v, E, rfl, hR, hE, hst⟩
          rw [List.append_nil] at hst
          exact next _ w'' _ (hs' v E hE hR) (hX0.app hE) hst
def MixMT (P : Program) (ops : Array Oper) (w0 : World) (HB : List Ent) (T : Act → World → Prop) : List Nat → List (Value → List Ent → Prop) → List Oper → Act → List Ent → Prop
  | [], [], [], a, X => ∀ w, St w0 (HB ++ X) w → T a w
  | k :: ks, r :: rs, o :: rest, a, X => (k = 0 ∧ ∃ v, Val P ops w0 HB 0 [] o v a ∧ MixMT P ops w0 HB T ks rs rest (a.put o.dst v) X) ∨
      (k = 3 ∧ (∀ Z w, Fresh w0 Z → St w0 (HB ++ Z) w → MakesL P ops o a r w) ∧ ∀ v E, Fresh w0 E → r v E → MixMT P ops w0 HB T ks rs rest (a.put o.dst v) (X ++ E)) ∨
      (k = 7 ∧ ∃ X0 Y, X.Perm (X0 ++ Y) ∧ (∀ Z w, Fresh w0 Z → St w0 (HB ++ ((X0 ++ Y) ++ Z)) w → ChangesL P ops w0 HB X0 Z o a r w) ∧ ∀ v E, Fresh w0 E → r v E → MixMT P ops w0 HB T ks rs rest (a.put o.dst v) (X0 ++ E))
  | _, _, _, _, _ => False
theorem MixMT.seqp {T : Act → World → Prop} {l : List Oper} {ks : List Nat} {rs : List (Value → List Ent → Prop)} : ∀ (p : List Nat) (a : Act) (X : List Ent), (∀ i ∈ p, i < l.length) → MixMT P l.toArray w0 HB T (pickK ks p) (pickRL rs p) (pickO l p) a X →
    MixT P l.toArray w0 HB (ks.getD · 2) (rs.getD · (fun _ _ => False)) T p a X
  | [], _, _, _, h => h
  | i :: is, a, X, hp, h => by
    have hlt := hp i List.mem_cons_self
    have hi : l[i]? = some l[i] := List.getElem?_eq_getElem hlt
    unfold pickO pickK pickRL at h
    rw [hi] at h
    have rec_ : ∀ a X, MixMT P l.toArray w0 HB T (pickK ks is) (pickRL rs is) (pickO l is) a X → MixT P l.toArray w0 HB (ks.getD · 2) (rs.getD · (fun _ _ => False)) T is a X := fun a X h => MixMT.seqp is a X (fun j hj => hp j (List.mem_cons_of_mem _ hj)) h
    refine ⟨l[i], by rw [List.getElem?_toArray]; exact hi, ?_⟩
    rcases h with ⟨h1, v, h2, h3⟩ | ⟨h1, h2, h3⟩ | ⟨h1, X0, Y, hq, h2, h3⟩
    · exact .inl ⟨h1, v, h2, rec_ _ _ h3⟩
    · exact .inr (.inl ⟨h1, h2, fun v E hE hR => rec_ _ _ (h3 v E hE hR)⟩)
    · exact .inr (.inr ⟨h1, X0, Y, hq, h2, fun v E hE hR => rec_ _ _ (h3 v E hE hR)⟩)
def kindsOKT (ks p : List Nat) : Bool := p.all fun i => Nat.beq (ks.getD i 2) 0 || (Nat.beq (ks.getD i 2) 3 || Nat.beq (ks.getD i 2) 7)
theorem kindsOKT_spec {ks p : List Nat} (h : kindsOKT ks p = true) : ∀ i ∈ p, ks.getD i 2 = 0 ∨ ks.getD i 2 = 3 ∨ ks.getD i 2 = 7 := fun i hi => by
  unfold kindsOKT at h
  have := List.all_eq_true.1 h i hi
  simp only [Bool.or_eq_true] at this
  rcases this with h1 | h1 | h1
  · exact .inl (Nat.eq_of_beq_eq_true h1)
  · exact .inr (.inl (Nat.eq_of_beq_eq_true h1))
  · exact .inr (.inr (Nat.eq_of_beq_eq_true h1))
theorem wp_mixT {md0 : Md} {Q : Exit → Act → World → Prop} {id : Nat} {l : List Oper} {a : Act} {w : World} {X : List Ent} (hmix : P.follows .mixedOrders = true) (ks p : List Nat) (rs : List (Value → List Ent → Prop)) (hks : kindsOKT ks p = true) (ho : mixOKt .any l.toArray ks p = true)
    (hX : Fresh w0 X) (hS : St w0 (HB ++ X) w.drew) (h : MixMT P l.toArray w0 HB (Q .normal) (pickK ks p) (pickRL rs p) (pickO l p) a X) (hok : OkR md0 l.toArray Q) : wpn md0 P (Code.region id l.toArray true) Q a w := by
  refine wpnFrom_start hok hmix ?_
  intro listed hl
  have hsz : l.toArray.size = l.length := by simp
  obtain ⟨hns, hlen, hall, hself, hpw⟩ := mixOKt_spec ho
  have := wpAny_of_mixT (P := P) (Q := Q) (ks := ks) (kindsOKT_spec hks) hns hself l.length p listed a w.drew X (hlen.trans hsz) hpw (fun i hi => hi)
    ⟨hl.1, fun q hq => by
      rw [hl.2.1 q hq]
      have := hall q hq
      simp [this], hl.2.2⟩ (MixMT.seqp p a X (fun i hi => by rw [← hsz]; exact (hself i hi).1) h) hX hS
  rw [hsz, Nat.sub_zero]
  exact this
end
section
variable {P : Program} {ops : Array Oper} {Q : Exit → Act → World → Prop} {n : Sz} {w0 : World} {L L' : List (Nat × Value)} {HB X D : List Ent}
variable {o : Oper} {rest : List Oper} {v u : Value} {x y z : Operand} {k m j : Nat} {t t' e : TypeId} {ks : List Nat} {kd : IntKind} {r : Value → List Ent → Prop} {rs : List (Value → List Ent → Prop)}
def TT (P : Program) (ops : Array Oper) (Q : Exit → Act → World → Prop) (n : Sz) (w0 : World) (HB : List Ent) (ks : List Nat) (rs : List (Value → List Ent → Prop)) (rest : List Oper) (L : List (Nat × Value)) (X : List Ent) : Prop :=
  ∀ a, Fr n L a → MixMT P ops w0 HB (Q .normal) ks rs rest a X
theorem TC.mixT {id : Nat} {l : List Oper} {H : List Ent} (HB X : List Ent) (hmix : P.follows .mixedOrders = true) (ks p : List Nat) (rs : List (Value → List Ent → Prop)) (hks : kindsOKT ks p = true) (ho : mixOKt .any l.toArray ks p = true) (hp : H.Perm (HB ++ X)) (hX : Fresh w0 X)
    (h : TT P l.toArray Q n w0 HB (pickK ks p) (pickRL rs p) (pickO l p) L X) (hok : OkR n.md l.toArray Q := by exact trivial) : TC P Q n w0 (.region id l.toArray true) L H :=
  fun a w hf hs => wp_mixT hmix ks p rs hks ho hX (hs.perm hp).drew (h a hf) hok
theorem TT.nil (h : TE Q .normal n w0 L (HB ++ X)) : TT P ops Q n w0 HB [] [] [] L X := fun a hf w hs => h a w hf hs
theorem TT.free (hg : Wants n ops L o) (hi : inside n o.dst = true) (h : ∀ Z, Fresh w0 Z → Gets P n w0 o L (HB ++ Z) v) (hr : TT P ops Q n w0 HB ks rs rest (put L o.dst v) X) : TT P ops Q n w0 HB (0 :: ks) (r :: rs) (o :: rest) L X :=
  fun a hf => .inl ⟨rfl, v, fun Z hZ => .inl ⟨hg a hf, fun w hS => by rw [if_pos rfl] at hS ⊢; rw [h Z hZ a w hf hS]; exact ⟨rfl, hS⟩⟩, hr _ (hf.put o.dst v hi)⟩
theorem TT.pass {j d : Nat} {b c : Bool} (h : o.guard = some (j, c)) (hj : (ops[j]?).bind (·.dst) = some d) (hd : look L d = some (.bool b)) (hi : inside n o.dst = true) (hb : b = !c) (hr : TT P ops Q n w0 HB ks rs rest (put L o.dst undef) X) : TT P ops Q n w0 HB (0 :: ks) (r :: rs) (o :: rest) L X :=
  fun a hf => .inl ⟨rfl, undef, fun Z _ => .inr ⟨by subst hb; simp [Region.wanted, h, guard_val hf hj hd], rfl⟩, hr _ (hf.put o.dst undef hi)⟩
theorem TT.passU {j d : Nat} {b : Bool} (h : o.guard = some (j, b)) (hj : (ops[j]?).bind (·.dst) = some d) (hd : look L d = some undef) (hi : inside n o.dst = true) (hr : TT P ops Q n w0 HB ks rs rest (put L o.dst undef) X) : TT P ops Q n w0 HB (0 :: ks) (r :: rs) (o :: rest) L X :=
  fun a hf => .inl ⟨rfl, undef, fun Z _ => .inr ⟨by simp [Region.wanted, h, guard_undef hf hj hd], rfl⟩, hr _ (hf.put o.dst undef hi)⟩
/-- A call that leaves all known blocks. -/
theorem TT.call0 {f : FuncId} {xs : List Operand} {ts : Array TypeId} {vs : List Value} (hg : Wants n ops L o) (hi : inside n o.dst = true) (h : Enters P f)
    (ho : o.op = .call { callee := .value (.func f), args := xs.toArray, argTypes := ts }) (hx : evs L xs = some vs)
    (hc : ∀ Z w, Fresh w0 Z → St w0 (HB ++ Z) w → Calls P f vs.toArray w fun e w' => e = .returned v ∧ St w [] w')
    (hr : TT P ops Q n w0 HB ks rs rest (put L o.dst v) X) : TT P ops Q n w0 HB (0 :: ks) (r :: rs) (o :: rest) L X :=
  fun a hf => .inl ⟨rfl, v, fun Z hZ => .inl ⟨hg a hf, fun w hS => by
    rw [if_pos rfl] at hS
    rw [run_enter h ho hf hx]
    exact (hc Z w hZ hS).mono fun e w' ⟨he, hw⟩ => ⟨he, by rw [if_pos rfl]; exact hS.call' hw⟩⟩, hr _ (hf.put o.dst v hi)⟩
/-- A call that makes blocks. -/
theorem TT.call {ι : Type} {f : FuncId} {xs : List Operand} {ts : Array TypeId} {vs : List Value} {V : ι → Value} {R : ι → Prop} {E : ι → List Ent} (hg : Wants n ops L o) (hi : inside n o.dst = true) (h : Enters P f)
    (ho : o.op = .call { callee := .value (.func f), args := xs.toArray, argTypes := ts }) (hx : evs L xs = some vs)
    (hc : ∀ Z w, Fresh w0 Z → St w0 (HB ++ Z) w → Calls P f vs.toArray w fun e w' => ∃ i, e = .returned (V i) ∧ R i ∧ Fresh w (E i) ∧ St w (E i) w')
    (hr : ∀ i, R i → Fresh w0 (E i) → TT P ops Q n w0 HB ks rs rest (put L o.dst (V i)) (X ++ E i)) : TT P ops Q n w0 HB (3 :: ks) ((fun v e => ∃ i, R i ∧ v = V i ∧ e = E i) :: rs) (o :: rest) L X :=
  fun a hf => .inr (.inl ⟨rfl, fun Z w hZ hs => ⟨.inr ⟨f, vs.toArray, run_enter h ho hf hx, (hc Z w hZ hs).mono fun e w' ⟨i, he, hR, hE, hs'⟩ => ⟨V i, E i, he, ⟨i, hR, rfl, rfl⟩, hE, hs'⟩⟩, hg a hf⟩,
    fun v e hE ⟨i, hR, h1, h2⟩ => by subst h1; subst h2; exact hr i hR hE _ (hf.put o.dst _ hi)⟩)
theorem TT.buildSlice {len s : Nat} {ps : List (Nat × Operand)} {vs : List (Nat × Value)} {cells : Array Value} {cs : List Value} {zv : Value} (hg : Wants n ops L o) (hi : inside n o.dst = true) (ho : o.op = .buildSlice t len ps.toArray)
    (h1 : P.underlying t = some (.slice e)) (hsz : (P.info? e).map (·.size) = some s) (hz : (P.info? e).bind (·.zero) = some zv) (hv : operVals L ps = some vs) (hlen : len * s ≤ 2 ^ 24) (hpos : (len * s = 0) = False)
    {tot : Nat} (hfill : Instr.fill (fun i => some (i * s, s)) ((Array.range (len * s)).map (zv.cells[· % zv.cells.size]!)) vs = some cells) (hcs : cells.toList = cs) (htot : cs.length = tot)
    (hr : ∀ g, w0.heap.size ≤ g → TT P ops Q n w0 HB ks rs rest (put L o.dst (.slice (some ⟨g, 0, none⟩) len len)) (X ++ [⟨g, e, cs, tot⟩])) :
    TT P ops Q n w0 HB (3 :: ks) ((fun v d => ∃ g, v = .slice (some ⟨g, 0, none⟩) len len ∧ d = [⟨g, e, cs, tot⟩]) :: rs) (o :: rest) L X :=
  fun a hf => .inr (.inl ⟨rfl, fun Z w hZ hs => by
    have hrun : (execOp a.eval o).run P w = .ok (.value (.slice (some ⟨w.heap.size, 0, none⟩) len len)) (w.alloc (.cells cells e)) := by
      have hm := operVals_eval hf hv
      have hm2 : (ps.map fun (x : Nat × Operand) => match x with | (i, x) => (i, a.eval x)) = vs := hm
      simp only [execOp, ho]
      refine run_value ?_
      simp only [Instr.buildSlice, Sem.run_bind, run_under h1, Result.andThen_ok, run_size hsz, List.map_toArray, hm2]
      rw [if_neg (by omega), if_neg (by simp [hpos])]
      simp only [Sem.run_bind, run_zero hz, Result.andThen_ok, Sem.run_pure, hfill]
      simp [newRow, newObj, Sem.run_bind, Sem.run]
    subst htot
    exact ⟨.inl ⟨_, _, _, hrun, ⟨_, rfl, rfl⟩, fresh_one (Nat.le_refl _), (St.refl w).alloc e cs cells hcs⟩, hg a hf⟩,
    fun v d hE ⟨g, h2, h3⟩ => by subst h2; subst h3; exact hr g (fresh_head hE) _ (hf.put o.dst _ hi)⟩)
theorem TT.emptySlice {s : Nat} (hg : Wants n ops L o) (hi : inside n o.dst = true) (ho : o.op = .buildSlice t 0 #[]) (h1 : P.underlying t = some (.slice e)) (hsz : (P.info? e).map (·.size) = some s)
    (hr : ∀ g, w0.heap.size ≤ g → TT P ops Q n w0 HB ks rs rest (put L o.dst (.slice (some ⟨g, 0, none⟩) 0 0)) (X ++ [⟨g, e, [], 0⟩])) :
    TT P ops Q n w0 HB (3 :: ks) ((fun v d => ∃ g, v = .slice (some ⟨g, 0, none⟩) 0 0 ∧ d = [⟨g, e, [], 0⟩]) :: rs) (o :: rest) L X :=
  fun a hf => .inr (.inl ⟨rfl, fun Z w hZ hs => by
    have hrun : (execOp a.eval o).run P w = .ok (.value (.slice (some ⟨w.heap.size, 0, none⟩) 0 0)) (w.alloc (.cells #[] e)) := by
      simp only [execOp, ho]
      refine run_value ?_
      have hr0 : Array.range 0 = #[] := rfl
      simp [Instr.buildSlice, Sem.run_bind, run_under h1, run_size hsz, Instr.fill, newRow, newObj, Sem.run, hr0]
    exact ⟨.inl ⟨_, _, _, hrun, ⟨_, rfl, rfl⟩, fresh_one (Nat.le_refl _), (St.refl w).alloc e [] #[] rfl⟩, hg a hf⟩,
    fun v d hE ⟨g, h2, h3⟩ => by subst h2; subst h3; exact hr g (fresh_head hE) _ (hf.put o.dst _ hi)⟩)
/-- A value is read out of what is made. -/
theorem TT.reads (hg : Wants n ops L o) (hi : inside n o.dst = true) (hX : Fresh w0 X) (h : ∀ Z, Fresh w0 Z → Gets P n w0 o L (HB ++ (X ++ Z)) v) (hr : TT P ops Q n w0 HB ks rs rest (put L o.dst v) X) :
    TT P ops Q n w0 HB (7 :: ks) ((fun u d => u = v ∧ d = []) :: rs) (o :: rest) L X :=
  fun a hf => .inr (.inr ⟨rfl, X, [], by rw [List.append_nil], fun Z w hZ hs => by
    rw [List.append_nil] at hs
    exact ⟨.inl ⟨v, [], w, h Z hZ a w hf hs, ⟨rfl, rfl⟩, Fresh.nil, by rw [List.append_nil]; exact hs⟩, hg a hf⟩, fun u d _ ⟨h1, h2⟩ => by subst h1; subst h2; rw [List.append_nil]; exact hr _ (hf.put o.dst _ hi)⟩)
/-- A call that reads what is made. -/
theorem TT.callR {f : FuncId} {xs : List Operand} {ts : Array TypeId} {vs : List Value} (hg : Wants n ops L o) (hi : inside n o.dst = true) (h : Enters P f)
    (ho : o.op = .call { callee := .value (.func f), args := xs.toArray, argTypes := ts }) (hx : evs L xs = some vs)
    (hc : ∀ Z w, Fresh w0 Z → St w0 (HB ++ (X ++ Z)) w → Calls P f vs.toArray w fun e w' => e = .returned v ∧ St w [] w')
    (hr : TT P ops Q n w0 HB ks rs rest (put L o.dst v) X) : TT P ops Q n w0 HB (7 :: ks) ((fun u d => u = v ∧ d = []) :: rs) (o :: rest) L X :=
  fun a hf => .inr (.inr ⟨rfl, X, [], by rw [List.append_nil], fun Z w hZ hs => by
    rw [List.append_nil] at hs
    exact ⟨.inr (.inr ⟨f, vs.toArray, run_enter h ho hf hx, (hc Z w hZ hs).mono fun e w' ⟨he, hw⟩ => ⟨v, [], he, ⟨rfl, rfl⟩, Fresh.nil, by rw [List.append_nil]; exact hs.call' hw⟩⟩), hg a hf⟩, fun u d _ ⟨h1, h2⟩ => by subst h1; subst h2; rw [List.append_nil]; exact hr _ (hf.put o.dst _ hi)⟩)
end
end Go.Proofs.Ytkgamkjdkapchaa
/-
  Two arrays of numbers, compared.
-/
namespace Go.Proofs.Ytkgamkjdkapchaa
set_option linter.unusedVariables false
set_option linter.unusedSimpArgs false
set_option linter.unusedVariables false
open Go Go.RowKit
section
variable {P : Program} {ops : Array Oper} {Q : Exit → Act → World → Prop} {n : Sz} {w0 : World} {L L' : List (Nat × Value)} {H : List Ent}
variable {o : Oper} {rest : List Oper} {v u : Value} {x y z : Operand} {k m j : Nat} {t t' e : TypeId} {ks : List Nat} {kd : IntKind} {p q : Int}
theorem eqIn_int2 (d : Nat) (h1 : P.underlying e = some (.int kd)) (a b : Int) (w : World) : (Op.equalIn (d + 1) e (.int kd a) (.int kd b)).run P w = .ok (a == b) w := by
  simp [Op.equalIn, Sem.run_bind, run_under h1]
theorem all_eq {W V : List Int} {len : Nat} (hW : W.length = len) (hV : V.length = len) : (List.range' 0 len).all (fun i => W.getD i 0 == V.getD i 0) = decide (W = V) := by
  by_cases h : W = V
  · subst h
    rw [decide_eq_true rfl]
    exact List.all_eq_true.2 fun i _ => by simp
  · rw [decide_eq_false h]
    refine Bool.eq_false_iff.2 fun ha => h ?_
    refine list_of_getD (hW.trans hV.symm) fun i hi => ?_
    have := List.all_eq_true.1 ha i (List.mem_range'_1.2 ⟨by omega, by omega⟩)
    simpa using this
theorem eqIn_arr2 (d : Nat) {len : Nat} {W V : List Int} (h1 : P.underlying t = some (.array len e)) (h2 : P.underlying e = some (.int kd)) (hsz : (P.info? e).map (·.size) = some 1) (hW : W.length = len) (hV : V.length = len) (w : World) :
    (Op.equalIn (d + 1 + 1) t (.agg (W.map (Value.int kd)).toArray) (.agg (V.map (Value.int kd)).toArray)).run P w = .ok (decide (W = V)) w := by
  have hag := isAgg_no h2 rfl
  unfold Op.equalIn
  simp only [Sem.run_bind, run_under h1, Result.andThen_ok, run_size hsz]
  simp only [Std.Legacy.Range.forIn_eq_forIn_range', Std.Legacy.Range.size, Nat.sub_zero, Nat.add_one_sub_one, Nat.div_one]
  have key : ∀ (l : List Nat), (∀ i ∈ l, i < len) → ((forIn l ((none, ()) : Option Bool × Unit) fun i r => do
      if !(← Op.equalIn (d + 1) e (← part e (W.map (Value.int kd)).toArray (i * 1)) (← part e (V.map (Value.int kd)).toArray (i * 1))) then
        pure (ForInStep.done (some false, ()))
      else pure (ForInStep.yield (none, ()))) : Sem (Option Bool × Unit)).run P w = .ok (if l.all (fun i => W.getD i 0 == V.getD i 0) then (none, ()) else (some false, ())) w := by
    intro l
    induction l with
    | nil => intro _; rfl
    | cons i l ih =>
      intro hi
      have hil : i < W.length := by rw [hW]; exact hi i (by simp)
      have hiv : i < V.length := by rw [hV]; exact hi i (by simp)
      have hp := run_part1 (P := P) (e := e) (cs := (W.map (Value.int kd)).toArray) (i := i * 1) (v := .int kd (W.getD i 0)) hag (by simp [hil]) w
      have hq := run_part1 (P := P) (e := e) (cs := (V.map (Value.int kd)).toArray) (i := i * 1) (v := .int kd (V.getD i 0)) hag (by simp [hiv]) w
      simp only [List.forIn_cons, Sem.run_bind, hp, hq, Result.andThen_ok, eqIn_int2 d h2, List.all_cons]
      by_cases hb : W.getD i 0 = V.getD i 0
      · have hb2 : (W.getD i 0 == V.getD i 0) = true := by simpa using hb
        simp only [hb2, Bool.not_true, Bool.false_eq_true, if_false, Sem.run_pure, Result.andThen_ok, Bool.true_and]
        exact ih fun j hj => hi j (by simp [hj])
      · have hb2 : (W.getD i 0 == V.getD i 0) = false := by simpa using hb
        simp only [hb2, Bool.not_false, if_true, Sem.run_pure, Result.andThen_ok, Bool.false_and, Bool.false_eq_true, if_false]
  rw [key (List.range' 0 len) (fun i hi => by have := List.mem_range'_1.1 hi; omega), all_eq hW hV]
  by_cases h : W = V
  · rw [decide_eq_true h]; rfl
  · rw [decide_eq_false h]; rfl
theorem Gets.arrEq {len : Nat} {W V : List Int} (ho : o.op = .binOp .eql t x y t') (h1 : P.underlying t = some (.array len e)) (h2 : P.underlying e = some (.int kd)) (hsz : (P.info? e).map (·.size) = some 1) (hgt : P.eqGuardType P.depth t = false)
    (hx : ev L x = some (.agg (W.map (Value.int kd)).toArray)) (hy : ev L y = some (.agg (V.map (Value.int kd)).toArray)) (hW : W.length = len) (hV : V.length = len) : Gets P n w0 o L H (.bool (decide (W = V))) := fun a w hf hs => by
  simp only [execOp, ho, hf.eval hx, hf.eval hy]
  refine run_value ?_
  have h3 := eqIn_arr2 (P := P) 9998 h1 h2 hsz hW hV w
  have h4 : ∀ c d : Value, Op.equal t c d = Op.equalIn (9998 + 1 + 1) t c d := fun _ _ => rfl
  simp only [Sem.run_bind, run_noGuard hgt, Result.andThen_ok, binOp, h4]
  generalize Op.equalIn (9998 + 1 + 1) t (.agg (W.map (Value.int kd)).toArray) (.agg (V.map (Value.int kd)).toArray) = s at *
  simp [h3]
end
theorem seg_mid {A B C : List Value} {a : Nat} (ha : A.length = a) : ((A ++ (B ++ C)).drop a).take B.length = B := by subst ha; simp
end Go.Proofs.Ytkgamkjdkapchaa
/-
  Mathematics of deltas, no program in it: targets that do not overlap and cover an interval: the smallest gap, sums of lengths, the sorted order.
-/
namespace Go.Proofs.Ytkgamkjdkapchaa
set_option linter.unusedVariables false
set_option linter.unusedSimpArgs false
/-- A target: where it begins, how long it is. -/
def hasB (p : Int × Int) (x : Int) : Prop := p.1 ≤ x ∧ x < p.1 + p.2
instance (p : Int × Int) (x : Int) : Decidable (hasB p x) := by unfold hasB; infer_instance
def okT (a N : Int) (p : Int × Int) : Prop := a ≤ p.1 ∧ 1 ≤ p.2 ∧ p.1 + p.2 ≤ N
def apartT (p q : Int × Int) : Prop := p.1 + p.2 ≤ q.1 ∨ q.1 + q.2 ≤ p.1
theorem apartT.symm {p q : Int × Int} (h : apartT p q) : apartT q p := Or.symm h
/-- All targets are valid, and no two overlap. -/
def tidyT (a N : Int) (l : List (Int × Int)) : Prop := (∀ p ∈ l, okT a N p) ∧ l.Pairwise apartT
def coverT (a N : Int) (l : List (Int × Int)) : Prop := ∀ x, a ≤ x → x < N → ∃ p ∈ l, hasB p x
def freeT (l : List (Int × Int)) (x : Int) : Prop := ∀ p ∈ l, ¬ hasB p x
theorem apartT_iff {p q : Int × Int} (hp : 1 ≤ p.2) (hq : 1 ≤ q.2) : apartT p q ↔ ∀ x, ¬ (hasB p x ∧ hasB q x) := by
  unfold apartT hasB
  constructor
  · intro h x hx; omega
  · intro h
    have h1 := h p.1
    have h2 := h q.1
    omega
/-! ### The smallest gap -/
def candT (l : List (Int × Int)) (c : Int) : Prop := c = 0 ∨ ∃ p ∈ l, c = p.1 + p.2
theorem cand_below {l : List (Int × Int)} {x : Int} (hx : freeT l x) : ∀ (n : Nat) (c : Int), candT l c → 0 ≤ c → c ≤ x → x - c ≤ n → ∃ g, candT l g ∧ freeT l g ∧ c ≤ g ∧ g ≤ x
  | n, c, hc, h0, h1, h2 => by
    by_cases hf : freeT l c
    · exact ⟨c, hc, hf, by omega, h1⟩
    · obtain ⟨p, hp, hb⟩ : ∃ p ∈ l, hasB p c := by
        apply Classical.byContradiction
        intro hno
        exact hf fun p hp hb => hno ⟨p, hp, hb⟩
      have hxp := hx p hp
      unfold hasB at hb hxp
      match n, h2 with
      | 0, h2 => exfalso; omega
      | n + 1, h2 =>
        obtain ⟨g, hg1, hg2, hg3, hg4⟩ := cand_below hx n (p.1 + p.2) (.inr ⟨p, hp, rfl⟩) (by omega) (by omega) (by omega)
        exact ⟨g, hg1, hg2, by omega, hg4⟩
/-- Below each free offset lies a free one that is 0 or an end. -/
theorem cand_of_free {l : List (Int × Int)} {x : Int} (h0 : 0 ≤ x) (hx : freeT l x) : ∃ g, candT l g ∧ freeT l g ∧ 0 ≤ g ∧ g ≤ x := by
  obtain ⟨g, h1, h2, h3, h4⟩ := cand_below hx x.toNat 0 (.inl rfl) (by omega) h0 (by omega)
  exact ⟨g, h1, h2, h3, h4⟩
/-- The smallest free offset. -/
def leastT (N : Int) (l : List (Int × Int)) (g : Int) : Prop := 0 ≤ g ∧ g < N ∧ freeT l g ∧ ∀ x, 0 ≤ x → x < g → ¬ freeT l x
theorem leastT_unique {N g h : Int} {l : List (Int × Int)} (hg : leastT N l g) (hh : leastT N l h) : g = h := by
  obtain ⟨g1, g2, g3, g4⟩ := hg
  obtain ⟨h1, h2, h3, h4⟩ := hh
  have a : ¬ h < g := fun c => g4 h h1 c h3
  have b : ¬ g < h := fun c => h4 g g1 c g3
  omega
theorem leastT_of_cand {N g : Int} {l : List (Int × Int)} (h0 : 0 ≤ g) (hN : g < N) (hf : freeT l g) (hm : ∀ c, candT l c → 0 ≤ c → c < N → freeT l c → g ≤ c) : leastT N l g := by
  refine ⟨h0, hN, hf, fun x hx hxg hfx => ?_⟩
  obtain ⟨c, h1, h2, h3, h4⟩ := cand_of_free hx hfx
  have := hm c h1 h3 (by omega) h2
  omega
theorem cover_of_cand {N : Int} {l : List (Int × Int)} (hm : ∀ c, candT l c → 0 ≤ c → c < N → ¬ freeT l c) : coverT 0 N l := fun x hx hxN => by
  apply Classical.byContradiction
  intro hno
  obtain ⟨c, h1, h2, h3, h4⟩ := cand_of_free (l := l) hx (fun p hp hb => hno ⟨p, hp, hb⟩)
  exact hm c h1 h3 (by omega) h2
/-! ### Sorted -/
def sumT (l : List (Int × Int)) : Int := (l.map (·.2)).sum
theorem sumT_cons (p : Int × Int) (l : List (Int × Int)) : sumT (p :: l) = p.2 + sumT l := by simp [sumT]
theorem sumT_app (l r : List (Int × Int)) : sumT (l ++ r) = sumT l + sumT r := by simp [sumT]
theorem sumT_perm {l r : List (Int × Int)} (h : l.Perm r) : sumT l = sumT r := by
  induction h with
  | nil => rfl
  | cons p _ ih => rw [sumT_cons, sumT_cons, ih]
  | swap p q l => rw [sumT_cons, sumT_cons, sumT_cons, sumT_cons]; omega
  | trans _ _ ih1 ih2 => rw [ih1, ih2]
/-- Each target begins where the one before it ends. -/
def chainT (a : Int) : List (Int × Int) → Prop
  | [] => True
  | p :: l => p.1 = a ∧ chainT (a + p.2) l
theorem chain_of_sorted {N : Int} : ∀ {l : List (Int × Int)} {a : Int}, a ≤ N → tidyT a N l → coverT a N l → l.Pairwise (fun p q => p.1 ≤ q.1) → chainT a l ∧ a + sumT l = N
  | [], a, haN, ht, hc, _ => by
    refine ⟨trivial, ?_⟩
    have : ¬ a < N := fun h => by
      obtain ⟨p, hp, _⟩ := hc a (Int.le_refl a) h
      cases hp
    simp [sumT]; omega
  | p :: l, a, haN, ht, hc, hs => by
    obtain ⟨hok, hap⟩ := ht
    have hp := hok p List.mem_cons_self
    unfold okT at hp
    obtain ⟨q, hq, hb⟩ := hc a (Int.le_refl a) (by omega)
    have hqok := hok q hq
    unfold okT at hqok
    unfold hasB at hb
    have hpa : p.1 = a := by
      rcases List.mem_cons.1 hq with rfl | hq
      · omega
      · have := (List.pairwise_cons.1 hs).1 q hq
        omega
    have hall := (List.pairwise_cons.1 hap).1
    have hrec := chain_of_sorted (N := N) (l := l) (a := a + p.2) (by omega) ⟨fun q hq => by
        have h1 := hok q (by simp [hq])
        have h2 := hall q hq
        have h3 := (List.pairwise_cons.1 hs).1 q hq
        unfold okT at h1 ⊢
        unfold apartT at h2
        omega, (List.pairwise_cons.1 hap).2⟩ (fun x hx hxN => by
        obtain ⟨q, hq, hb⟩ := hc x (by omega) hxN
        rcases List.mem_cons.1 hq with rfl | hq
        · unfold hasB at hb; omega
        · exact ⟨q, hq, hb⟩) (List.pairwise_cons.1 hs).2
    rw [sumT_cons]
    exact ⟨⟨hpa, hrec.1⟩, by omega⟩
/-- The other way round. -/
theorem tidy_of_chain {N : Int} : ∀ {l : List (Int × Int)} {a : Int}, (∀ p ∈ l, 1 ≤ p.2) → chainT a l → a + sumT l = N → tidyT a N l ∧ coverT a N l ∧ l.Pairwise (fun p q => p.1 < q.1)
  | [], a, _, _, hs => ⟨⟨by simp, .nil⟩, fun x h1 h2 => by simp [sumT] at hs; omega, .nil⟩
  | p :: l, a, hl, hc, hs => by
    obtain ⟨hp, hc⟩ := hc
    rw [sumT_cons] at hs
    have h1 := hl p List.mem_cons_self
    obtain ⟨⟨r1, r2⟩, r3, r4⟩ := tidy_of_chain (N := N) (l := l) (a := a + p.2) (fun q hq => hl q (by simp [hq])) hc (by omega)
    have hge : 0 ≤ sumT l := by
      have : ∀ l : List (Int × Int), (∀ p ∈ l, 1 ≤ p.2) → 0 ≤ sumT l := fun l => by
        induction l with
        | nil => intro _; simp [sumT]
        | cons q l ih => intro h; rw [sumT_cons]; have := h q List.mem_cons_self; have := ih (fun p hp => h p (by simp [hp])); omega
      exact this l (fun q hq => hl q (by simp [hq]))
    refine ⟨⟨fun q hq => ?_, .cons (fun q hq => ?_) r2⟩, fun x hx hxN => ?_, .cons (fun q hq => ?_) r4⟩
    · rcases List.mem_cons.1 hq with rfl | hq
      · unfold okT; omega
      · have := r1 q hq; unfold okT at this ⊢; omega
    · have := r1 q hq; unfold okT at this; unfold apartT; omega
    · by_cases hlt : x < a + p.2
      · exact ⟨p, List.mem_cons_self, by unfold hasB; omega⟩
      · obtain ⟨q, hq, hb⟩ := r3 x (by omega) hxN
        exact ⟨q, by simp [hq], hb⟩
    · have := r1 q hq; unfold okT at this; omega
theorem tidyT.perm {a N : Int} {l r : List (Int × Int)} (h : tidyT a N l) (hp : l.Perm r) : tidyT a N r := ⟨fun p hr => h.1 p (hp.mem_iff.2 hr), h.2.perm hp apartT.symm⟩
theorem coverT.perm {a N : Int} {l r : List (Int × Int)} (h : coverT a N l) (hp : l.Perm r) : coverT a N r := fun x h1 h2 => by
  obtain ⟨p, hl, hb⟩ := h x h1 h2
  exact ⟨p, hp.mem_iff.1 hl, hb⟩
theorem freeT.perm {l r : List (Int × Int)} {x : Int} (h : freeT l x) (hp : l.Perm r) : freeT r x := fun p hr => h p (hp.mem_iff.2 hr)
/-- The lengths of targets that cover add up. -/
theorem sum_of_cover {a N : Int} {l : List (Int × Int)} (haN : a ≤ N) (ht : tidyT a N l) (hc : coverT a N l) : a + sumT l = N := by
  let r := l.mergeSort (fun p q => decide (p.1 ≤ q.1))
  have hp : r.Perm l := List.mergeSort_perm l _
  have hs : r.Pairwise (fun p q => decide (p.1 ≤ q.1) = true) := List.pairwise_mergeSort (by intro a b c h1 h2; simp at h1 h2 ⊢; omega) (by intro a b; simp; omega) l
  have := (chain_of_sorted haN (ht.perm hp.symm) (hc.perm hp.symm) (hs.imp (by intro p q h; simpa using h))).2
  rw [← sumT_perm hp]; exact this
/-- Without one target, its begin is the smallest gap. -/
theorem least_without {N : Int} {l r : List (Int × Int)} {p : Int × Int} (ht : tidyT 0 N (l ++ p :: r)) (hc : coverT 0 N (l ++ p :: r)) : leastT N (l ++ r) p.1 := by
  have hp := ht.1 p (by simp)
  unfold okT at hp
  have hap : ∀ q ∈ l ++ r, apartT p q := fun q hq => by
    have h2 := ht.2
    rw [List.pairwise_append] at h2
    rcases List.mem_append.1 hq with hq | hq
    · exact (h2.2.2 q hq p (by simp)).symm
    · exact (List.pairwise_cons.1 h2.2.1).1 q hq
  refine ⟨by omega, by omega, fun q hq hb => ?_, fun x hx hxp hf => ?_⟩
  · have h1 := hap q hq
    have h2 := ht.1 q (by simp at hq ⊢; rcases hq with h | h <;> simp [h])
    unfold apartT at h1; unfold okT at h2; unfold hasB at hb; omega
  · obtain ⟨q, hq, hb⟩ := hc x hx (by omega)
    have : q = p ∨ q ∈ l ++ r := by simp at hq ⊢; rcases hq with h | h | h <;> simp [h]
    rcases this with rfl | h
    · unfold hasB at hb; omega
    · exact hf q h hb
/-! ### One sorted order -/
section
variable {α : Type} (key : α → Int)
theorem sorted_unique : ∀ {l r : List α}, l.Pairwise (fun p q => key p < key q) → r.Pairwise (fun p q => key p < key q) → l.Perm r → l = r
  | [], r, _, _, h => (List.nil_perm.1 h).symm
  | p :: l, [], _, _, h => by have := h.length_eq; simp at this
  | p :: l, q :: r, hl, hr, h => by
    have e : p = q := by
      have h1 : p ∈ q :: r := h.mem_iff.1 List.mem_cons_self
      have h2 : q ∈ p :: l := h.mem_iff.2 List.mem_cons_self
      rcases List.mem_cons.1 h1 with h1 | h1
      · exact h1
      · rcases List.mem_cons.1 h2 with h2 | h2
        · exact h2.symm
        · have a := (List.pairwise_cons.1 hr).1 p h1
          have b := (List.pairwise_cons.1 hl).1 q h2
          omega
    subst e
    rw [sorted_unique (List.pairwise_cons.1 hl).2 (List.pairwise_cons.1 hr).2 (List.Perm.cons_inv h)]
/-- Where an element is put in: behind the last one that is not greater. -/
def insV (x : α) : List α → List α
  | [] => [x]
  | y :: l => if key x < key y ∧ (∀ z ∈ l, key x < key z) then x :: y :: l else y :: insV x l
theorem insV_perm (x : α) : ∀ l : List α, (insV key x l).Perm (x :: l)
  | [] => List.Perm.refl _
  | y :: l => by
    unfold insV
    split
    · exact List.Perm.refl _
    · exact (List.Perm.cons y (insV_perm x l)).trans (List.Perm.swap x y l)
end
theorem strict_of_apart {a N : Int} {l : List (Int × Int)} (h : tidyT a N l) (hs : l.Pairwise (fun p q => p.1 ≤ q.1)) : l.Pairwise (fun p q => p.1 < q.1) := by
  have h2 := h.2
  have h1 := h.1
  clear h
  induction l with
  | nil => exact .nil
  | cons p l ih =>
    obtain ⟨a1, a2⟩ := List.pairwise_cons.1 hs
    obtain ⟨b1, b2⟩ := List.pairwise_cons.1 h2
    refine .cons (fun q hq => ?_) (ih a2 b2 (fun q hq => h1 q (by simp [hq])))
    have c1 := a1 q hq
    have c2 := b1 q hq
    have c3 := h1 p List.mem_cons_self
    have c4 := h1 q (by simp [hq])
    unfold apartT at c2; unfold okT at c3 c4; omega
end Go.Proofs.Ytkgamkjdkapchaa
/-
  Contracts of packages extent and command: End, between, Valid, bytes, Copy, describe.
-/
namespace Go.Proofs.Ytkgamkjdkapchaa
set_option linter.unusedVariables false
set_option linter.unusedSimpArgs false
open Go Go.RowKit
theorem agg3 : (isAgg 3).run Try.prog = fun w => .ok false w := isAgg_no Try.underlying3 rfl
theorem agg38 : (isAgg 38).run Try.prog = fun w => .ok false w := isAgg_no Try.underlying38 rfl
theorem agg49 : (isAgg 49).run Try.prog = fun w => .ok true w := isAgg_yes Try.underlying49 rfl
theorem agg77 : (isAgg 77).run Try.prog = fun w => .ok true w := isAgg_yes Try.underlying77 rfl
theorem agg80 : (isAgg 80).run Try.prog = fun w => .ok true w := isAgg_yes Try.underlying80 rfl
theorem enters25 : Enters Try.prog 25 := ⟨_, Try.func25, by kernel_rfl, by kernel_rfl⟩
theorem enters30 : Enters Try.prog 30 := ⟨_, Try.func30, by kernel_rfl, by kernel_rfl⟩
theorem enters54 : Enters Try.prog 54 := ⟨_, Try.func54, by kernel_rfl, by kernel_rfl⟩
theorem size3 : (Try.prog.info? 3).map (·.size) = some 1 := by kernel_rfl
theorem size38 : (Try.prog.info? 38).map (·.size) = some 1 := by kernel_rfl
theorem size49 : (Try.prog.info? 49).map (·.size) = some 2 := by kernel_rfl
theorem size77 : (Try.prog.info? 77).map (·.size) = some 2 := by kernel_rfl
theorem size80 : (Try.prog.info? 80).map (·.size) = some 6 := by kernel_rfl
theorem zero49 : (Try.prog.info? 49).bind (·.zero) = some (.agg #[.int .i64 0, .int .i64 0]) := by kernel_rfl
theorem zero80 : (Try.prog.info? 80).bind (·.zero) = some (.agg #[.int .i64 0, .int .i64 0, .int .i64 0, .int .i64 0, .int .i64 0, .bool false]) := by kernel_rfl

/-- An extent that is valid. -/
def vld (o l : Int) : Prop := 0 ≤ o ∧ 0 ≤ l ∧ o + l ≤ 4611686018427387903
instance (o l : Int) : Decidable (vld o l) := by unfold vld; infer_instance

set_option maxRecDepth 100000 in
set_option maxHeartbeats 400000 in
theorem end_c (o l : Int) (h : -9223372036854775808 ≤ o + l ∧ o + l ≤ 9223372036854775807) (w : World) : Calls Try.prog 42 #[.agg ([Value.int .i64 o, Value.int .i64 l]).toArray] w fun e w' => e = .returned (.int .i64 (o + l)) ∧ St w [] w' := by
  refine calls_from (args := [.agg ([Value.int .i64 o, Value.int .i64 l]).toArray]) Try.func42 rfl Try.ntmps42 (by simp) ?_
  refine TC.sub (Sub.cons (i := 0) rfl (Sub.nil)) ?_
  refine TC.seq ?_
  refine TC.regionL ?_
  refine TL.box (Wants.none rfl) rfl rfl rfl (cs := [Value.int .i64 o, Value.int .i64 l]) (by simp [Value.cells]) (tot := 2) (by simp []) (fun g1 hg1 => ?_)
  refine TL.gets (Wants.none rfl) rfl (Gets.assign rfl rfl) ?_
  refine TL.nil ?_
  refine TE.then ?_
  refine TC.seq ?_
  refine TC.regionL ?_
  refine TL.gets (Wants.none rfl) rfl (Gets.fieldAddr rfl Try.underlying49 rfl size3 rfl (off' := 0) (by first | rfl | omega)) ?_
  refine TL.gets (Wants.none rfl) rfl (Gets.load1 rfl agg3 rfl (At.ent (i := 0) (ent := ⟨g1, 49, [Value.int .i64 o, Value.int .i64 l], 2⟩) (off := 0) rfl rfl (by exact rfl))) ?_
  refine TL.gets (Wants.none rfl) rfl (Gets.fieldAddr rfl Try.underlying49 rfl size3 rfl (off' := 1) (by first | rfl | omega)) ?_
  refine TL.gets (Wants.none rfl) rfl (Gets.load1 rfl agg3 rfl (At.ent (i := 0) (ent := ⟨g1, 49, [Value.int .i64 o, Value.int .i64 l], 2⟩) (off := 1) rfl rfl (by exact rfl))) ?_
  refine TL.gets (Wants.none rfl) rfl (Gets.add rfl rfl rfl (r := (o + l)) (w64 (by omega) (by omega))) ?_
  refine TL.gets (Wants.none rfl) rfl (Gets.assign rfl rfl) ?_
  refine TL.nil ?_
  refine TE.then ?_
  refine TC.ret ?_
  exact TE.ret1 rfl rfl (fun w hs => ⟨ret_i (rfl), (hs.drop (by assumption))⟩)

set_option maxRecDepth 100000 in
set_option maxHeartbeats 400000 in
theorem valid_c (o l : Int) (bo : -9223372036854775808 ≤ o ∧ o ≤ 9223372036854775807) (bl : -9223372036854775808 ≤ l ∧ l ≤ 9223372036854775807) (w : World) : Calls Try.prog 30 #[.agg ([Value.int .i64 o, Value.int .i64 l]).toArray] w fun e w' => e = .returned (.bool (decide (vld o l))) ∧ St w [] w' := by
  refine calls_from (args := [.agg ([Value.int .i64 o, Value.int .i64 l]).toArray]) Try.func30 rfl Try.ntmps30 (by simp) ?_
  refine TC.sub (Sub.cons (i := 0) rfl (Sub.nil)) ?_
  refine TC.seq ?_
  refine TC.regionL ?_
  refine TL.box (Wants.none rfl) rfl rfl rfl (cs := [Value.int .i64 o, Value.int .i64 l]) (by simp [Value.cells]) (tot := 2) (by simp []) (fun g1 hg1 => ?_)
  refine TL.gets (Wants.none rfl) rfl (Gets.assign rfl rfl) ?_
  refine TL.nil ?_
  refine TE.then ?_
  refine TC.seq ?_
  refine TC.regionL ?_
  refine TL.gets (Wants.none rfl) rfl (Gets.fieldAddr rfl Try.underlying49 rfl size3 rfl (off' := 0) (by first | rfl | omega)) ?_
  refine TL.gets (Wants.none rfl) rfl (Gets.load1 rfl agg3 rfl (At.ent (i := 0) (ent := ⟨g1, 49, [Value.int .i64 o, Value.int .i64 l], 2⟩) (off := 0) rfl rfl (by exact rfl))) ?_
  by_cases c1 : 0 ≤ o
  · refine TL.gets (Wants.none rfl) rfl (Gets.isTrue (Gets.geq rfl rfl rfl) c1) ?_
    refine TL.gets (Wants.none rfl) rfl (Gets.move rfl rfl) ?_
    refine TL.gets (Wants.yes rfl rfl rfl) rfl (Gets.fieldAddr rfl Try.underlying49 rfl size3 rfl (off' := 1) (by first | rfl | omega)) ?_
    refine TL.gets (Wants.yes rfl rfl rfl) rfl (Gets.load1 rfl agg3 rfl (At.ent (i := 0) (ent := ⟨g1, 49, [Value.int .i64 o, Value.int .i64 l], 2⟩) (off := 1) rfl rfl (by exact rfl))) ?_
    by_cases c2 : 0 ≤ l
    · refine TL.gets (Wants.yes rfl rfl rfl) rfl (Gets.isTrue (Gets.geq rfl rfl rfl) c2) ?_
      refine TL.gets (Wants.none rfl) rfl (Gets.pickT rfl rfl rfl) ?_
      refine TL.gets (Wants.none rfl) rfl (Gets.move rfl rfl) ?_
      refine TL.gets (Wants.yes rfl rfl rfl) rfl (Gets.fieldAddr rfl Try.underlying49 rfl size3 rfl (off' := 0) (by first | rfl | omega)) ?_
      refine TL.gets (Wants.yes rfl rfl rfl) rfl (Gets.load1 rfl agg3 rfl (At.ent (i := 0) (ent := ⟨g1, 49, [Value.int .i64 o, Value.int .i64 l], 2⟩) (off := 0) rfl rfl (by exact rfl))) ?_
      refine TL.gets (Wants.yes rfl rfl rfl) rfl (Gets.fieldAddr rfl Try.underlying49 rfl size3 rfl (off' := 1) (by first | rfl | omega)) ?_
      refine TL.gets (Wants.yes rfl rfl rfl) rfl (Gets.load1 rfl agg3 rfl (At.ent (i := 0) (ent := ⟨g1, 49, [Value.int .i64 o, Value.int .i64 l], 2⟩) (off := 1) rfl rfl (by exact rfl))) ?_
      refine TL.gets (Wants.yes rfl rfl rfl) rfl (Gets.sub rfl rfl rfl (r := (4611686018427387903 - l)) (w64 (by omega) (by omega))) ?_
      refine TL.gets (Wants.yes rfl rfl rfl) rfl (Gets.leq rfl rfl rfl) ?_
      refine TL.gets (Wants.none rfl) rfl (Gets.pickT rfl rfl rfl) ?_
      refine TL.gets (Wants.none rfl) rfl (Gets.assign rfl rfl) ?_
      refine TL.nil ?_
      refine TE.then ?_
      refine TC.ret ?_
      exact TE.ret1 rfl rfl (fun w hs => ⟨dec_iff (by unfold vld; omega), (hs.drop (by assumption))⟩)
    · refine TL.gets (Wants.yes rfl rfl rfl) rfl (Gets.isFalse (Gets.geq rfl rfl rfl) c2) ?_
      refine TL.gets (Wants.none rfl) rfl (Gets.pickT rfl rfl rfl) ?_
      refine TL.gets (Wants.none rfl) rfl (Gets.move rfl rfl) ?_
      refine TL.pass rfl rfl rfl rfl rfl ?_
      refine TL.pass rfl rfl rfl rfl rfl ?_
      refine TL.pass rfl rfl rfl rfl rfl ?_
      refine TL.pass rfl rfl rfl rfl rfl ?_
      refine TL.pass rfl rfl rfl rfl rfl ?_
      refine TL.pass rfl rfl rfl rfl rfl ?_
      refine TL.gets (Wants.none rfl) rfl (Gets.pickF rfl rfl rfl) ?_
      refine TL.gets (Wants.none rfl) rfl (Gets.assign rfl rfl) ?_
      refine TL.nil ?_
      refine TE.then ?_
      refine TC.ret ?_
      exact TE.ret1 rfl rfl (fun w hs => ⟨dec_f (by unfold vld; omega), (hs.drop (by assumption))⟩)
  · refine TL.gets (Wants.none rfl) rfl (Gets.isFalse (Gets.geq rfl rfl rfl) c1) ?_
    refine TL.gets (Wants.none rfl) rfl (Gets.move rfl rfl) ?_
    refine TL.pass rfl rfl rfl rfl rfl ?_
    refine TL.pass rfl rfl rfl rfl rfl ?_
    refine TL.pass rfl rfl rfl rfl rfl ?_
    refine TL.gets (Wants.none rfl) rfl (Gets.pickF rfl rfl rfl) ?_
    refine TL.gets (Wants.none rfl) rfl (Gets.move rfl rfl) ?_
    refine TL.pass rfl rfl rfl rfl rfl ?_
    refine TL.pass rfl rfl rfl rfl rfl ?_
    refine TL.pass rfl rfl rfl rfl rfl ?_
    refine TL.pass rfl rfl rfl rfl rfl ?_
    refine TL.pass rfl rfl rfl rfl rfl ?_
    refine TL.pass rfl rfl rfl rfl rfl ?_
    refine TL.gets (Wants.none rfl) rfl (Gets.pickF rfl rfl rfl) ?_
    refine TL.gets (Wants.none rfl) rfl (Gets.assign rfl rfl) ?_
    refine TL.nil ?_
    refine TE.then ?_
    refine TC.ret ?_
    exact TE.ret1 rfl rfl (fun w hs => ⟨dec_f (by unfold vld; omega), (hs.drop (by assumption))⟩)

set_option maxRecDepth 100000 in
set_option maxHeartbeats 400000 in
theorem max_c (w : World) : Calls Try.prog 25 #[] w fun e w' => e = .returned (.int .i64 4611686018427387903) ∧ St w [] w' := by
  refine calls_from (args := []) Try.func25 rfl Try.ntmps25 (by simp) ?_
  refine TC.sub (Sub.nil) ?_
  refine TC.seq ?_
  refine TC.regionL ?_
  refine TL.gets (Wants.none rfl) rfl (Gets.assign rfl rfl) ?_
  refine TL.nil ?_
  refine TE.then ?_
  refine TC.seq ?_
  refine TC.regionL ?_
  refine TL.gets (Wants.none rfl) rfl (Gets.assign rfl rfl) ?_
  refine TL.nil ?_
  refine TE.then ?_
  refine TC.ret ?_
  exact TE.ret1 rfl rfl (fun w hs => ⟨ret_i (rfl), hs⟩)

set_option maxRecDepth 100000 in
set_option maxHeartbeats 400000 in
theorem rvalid_c (o l : Int) (bo : -9223372036854775808 ≤ o ∧ o ≤ 9223372036854775807) (bl : -9223372036854775808 ≤ l ∧ l ≤ 9223372036854775807) (w : World) : Calls Try.prog 60 #[.agg ([Value.int .i64 o, Value.int .i64 l]).toArray] w fun e w' => e = .returned (.bool (decide (vld o l))) ∧ St w [] w' := by
  refine calls_from (args := [.agg ([Value.int .i64 o, Value.int .i64 l]).toArray]) Try.func60 rfl Try.ntmps60 (by simp) ?_
  refine TC.sub (Sub.cons (i := 0) rfl (Sub.nil)) ?_
  refine TC.seq ?_
  refine TC.regionL ?_
  refine TL.box (Wants.none rfl) rfl rfl rfl (cs := [Value.int .i64 o, Value.int .i64 l]) (by simp [Value.cells]) (tot := 2) (by simp []) (fun g1 hg1 => ?_)
  refine TL.gets (Wants.none rfl) rfl (Gets.assign rfl rfl) ?_
  refine TL.nil ?_
  refine TE.then ?_
  refine TC.seq ?_
  refine TC.mix (by kernel_rfl) [0, 1, 0, 0, 0, 1, 0, 0, 0, 0, 1, 1, 0, 0, 0, 0, 1, 1, 0, 1, 0, 0, 0, 0] rfl (by kernel_rfl) ?_
  refine TM.free (Wants.none rfl) rfl (fun _ => Gets.fieldAddr rfl Try.underlying49 rfl size3 rfl (off' := 0) (by first | rfl | omega)) ?_
  refine TM.gets (Wants.none rfl) rfl (Gets.load1 rfl agg3 rfl (At.ent (i := 0) (ent := ⟨g1, 49, [Value.int .i64 o, Value.int .i64 l], 2⟩) (off := 0) rfl rfl (by exact rfl))) ?_
  by_cases c1 : 0 ≤ o
  · refine TM.free (Wants.none rfl) rfl (fun _ => Gets.isTrue (Gets.geq rfl rfl rfl) c1) ?_
    refine TM.free (Wants.none rfl) rfl (fun _ => Gets.move rfl rfl) ?_
    refine TM.free (Wants.yes rfl rfl rfl) rfl (fun _ => Gets.fieldAddr rfl Try.underlying49 rfl size3 rfl (off' := 1) (by first | rfl | omega)) ?_
    refine TM.gets (Wants.yes rfl rfl rfl) rfl (Gets.load1 rfl agg3 rfl (At.ent (i := 0) (ent := ⟨g1, 49, [Value.int .i64 o, Value.int .i64 l], 2⟩) (off := 1) rfl rfl (by exact rfl))) ?_
    by_cases c2 : 0 ≤ l
    · refine TM.free (Wants.yes rfl rfl rfl) rfl (fun _ => Gets.isTrue (Gets.geq rfl rfl rfl) c2) ?_
      refine TM.free (Wants.none rfl) rfl (fun _ => Gets.pickT rfl rfl rfl) ?_
      refine TM.free (Wants.none rfl) rfl (fun _ => Gets.move rfl rfl) ?_
      refine TM.free (Wants.yes rfl rfl rfl) rfl (fun _ => Gets.fieldAddr rfl Try.underlying49 rfl size3 rfl (off' := 0) (by first | rfl | omega)) ?_
      refine TM.gets (Wants.yes rfl rfl rfl) rfl (Gets.load1 rfl agg3 rfl (At.ent (i := 0) (ent := ⟨g1, 49, [Value.int .i64 o, Value.int .i64 l], 2⟩) (off := 0) rfl rfl (by exact rfl))) ?_
      refine TM.call0 (Wants.yes rfl rfl rfl) rfl enters25 rfl rfl (v := .int .i64 4611686018427387903) (fun w hs => max_c w) ?_
      by_cases c3 : o ≤ 4611686018427387903
      · refine TM.free (Wants.yes rfl rfl rfl) rfl (fun _ => Gets.isTrue (Gets.leq rfl rfl rfl) c3) ?_
        refine TM.free (Wants.none rfl) rfl (fun _ => Gets.pickT rfl rfl rfl) ?_
        refine TM.free (Wants.none rfl) rfl (fun _ => Gets.move rfl rfl) ?_
        refine TM.free (Wants.yes rfl rfl rfl) rfl (fun _ => Gets.fieldAddr rfl Try.underlying49 rfl size3 rfl (off' := 1) (by first | rfl | omega)) ?_
        refine TM.gets (Wants.yes rfl rfl rfl) rfl (Gets.load1 rfl agg3 rfl (At.ent (i := 0) (ent := ⟨g1, 49, [Value.int .i64 o, Value.int .i64 l], 2⟩) (off := 1) rfl rfl (by exact rfl))) ?_
        refine TM.call0 (Wants.yes rfl rfl rfl) rfl enters25 rfl rfl (v := .int .i64 4611686018427387903) (fun w hs => max_c w) ?_
        refine TM.free (Wants.yes rfl rfl rfl) rfl (fun _ => Gets.fieldAddr rfl Try.underlying49 rfl size3 rfl (off' := 0) (by first | rfl | omega)) ?_
        refine TM.gets (Wants.yes rfl rfl rfl) rfl (Gets.load1 rfl agg3 rfl (At.ent (i := 0) (ent := ⟨g1, 49, [Value.int .i64 o, Value.int .i64 l], 2⟩) (off := 0) rfl rfl (by exact rfl))) ?_
        refine TM.free (Wants.yes rfl rfl rfl) rfl (fun _ => Gets.sub rfl rfl rfl (r := (4611686018427387903 - o)) (w64 (by omega) (by omega))) ?_
        refine TM.free (Wants.yes rfl rfl rfl) rfl (fun _ => Gets.leq rfl rfl rfl) ?_
        refine TM.free (Wants.none rfl) rfl (fun _ => Gets.pickT rfl rfl rfl) ?_
        refine TM.free (Wants.none rfl) rfl (fun _ => Gets.assign rfl rfl) ?_
        refine TM.nil ?_
        refine TE.then ?_
        refine TC.ret ?_
        exact TE.ret1 rfl rfl (fun w hs => ⟨dec_iff (by unfold vld; omega), (hs.drop (by assumption))⟩)
      · refine TM.free (Wants.yes rfl rfl rfl) rfl (fun _ => Gets.isFalse (Gets.leq rfl rfl rfl) c3) ?_
        refine TM.free (Wants.none rfl) rfl (fun _ => Gets.pickT rfl rfl rfl) ?_
        refine TM.free (Wants.none rfl) rfl (fun _ => Gets.move rfl rfl) ?_
        refine TM.pass rfl rfl rfl rfl rfl ?_
        refine TM.pass1 rfl rfl rfl rfl rfl ?_
        refine TM.pass1 rfl rfl rfl rfl rfl ?_
        refine TM.pass rfl rfl rfl rfl rfl ?_
        refine TM.pass1 rfl rfl rfl rfl rfl ?_
        refine TM.pass rfl rfl rfl rfl rfl ?_
        refine TM.pass rfl rfl rfl rfl rfl ?_
        refine TM.free (Wants.none rfl) rfl (fun _ => Gets.pickF rfl rfl rfl) ?_
        refine TM.free (Wants.none rfl) rfl (fun _ => Gets.assign rfl rfl) ?_
        refine TM.nil ?_
        refine TE.then ?_
        refine TC.ret ?_
        exact TE.ret1 rfl rfl (fun w hs => ⟨dec_f (by unfold vld; omega), (hs.drop (by assumption))⟩)
    · refine TM.free (Wants.yes rfl rfl rfl) rfl (fun _ => Gets.isFalse (Gets.geq rfl rfl rfl) c2) ?_
      refine TM.free (Wants.none rfl) rfl (fun _ => Gets.pickT rfl rfl rfl) ?_
      refine TM.free (Wants.none rfl) rfl (fun _ => Gets.move rfl rfl) ?_
      refine TM.pass rfl rfl rfl rfl rfl ?_
      refine TM.pass1 rfl rfl rfl rfl rfl ?_
      refine TM.pass1 rfl rfl rfl rfl rfl ?_
      refine TM.pass rfl rfl rfl rfl rfl ?_
      refine TM.free (Wants.none rfl) rfl (fun _ => Gets.pickF rfl rfl rfl) ?_
      refine TM.free (Wants.none rfl) rfl (fun _ => Gets.move rfl rfl) ?_
      refine TM.pass rfl rfl rfl rfl rfl ?_
      refine TM.pass1 rfl rfl rfl rfl rfl ?_
      refine TM.pass1 rfl rfl rfl rfl rfl ?_
      refine TM.pass rfl rfl rfl rfl rfl ?_
      refine TM.pass1 rfl rfl rfl rfl rfl ?_
      refine TM.pass rfl rfl rfl rfl rfl ?_
      refine TM.pass rfl rfl rfl rfl rfl ?_
      refine TM.free (Wants.none rfl) rfl (fun _ => Gets.pickF rfl rfl rfl) ?_
      refine TM.free (Wants.none rfl) rfl (fun _ => Gets.assign rfl rfl) ?_
      refine TM.nil ?_
      refine TE.then ?_
      refine TC.ret ?_
      exact TE.ret1 rfl rfl (fun w hs => ⟨dec_f (by unfold vld; omega), (hs.drop (by assumption))⟩)
  · refine TM.free (Wants.none rfl) rfl (fun _ => Gets.isFalse (Gets.geq rfl rfl rfl) c1) ?_
    refine TM.free (Wants.none rfl) rfl (fun _ => Gets.move rfl rfl) ?_
    refine TM.pass rfl rfl rfl rfl rfl ?_
    refine TM.pass1 rfl rfl rfl rfl rfl ?_
    refine TM.pass rfl rfl rfl rfl rfl ?_
    refine TM.free (Wants.none rfl) rfl (fun _ => Gets.pickF rfl rfl rfl) ?_
    refine TM.free (Wants.none rfl) rfl (fun _ => Gets.move rfl rfl) ?_
    refine TM.pass rfl rfl rfl rfl rfl ?_
    refine TM.pass1 rfl rfl rfl rfl rfl ?_
    refine TM.pass1 rfl rfl rfl rfl rfl ?_
    refine TM.pass rfl rfl rfl rfl rfl ?_
    refine TM.free (Wants.none rfl) rfl (fun _ => Gets.pickF rfl rfl rfl) ?_
    refine TM.free (Wants.none rfl) rfl (fun _ => Gets.move rfl rfl) ?_
    refine TM.pass rfl rfl rfl rfl rfl ?_
    refine TM.pass1 rfl rfl rfl rfl rfl ?_
    refine TM.pass1 rfl rfl rfl rfl rfl ?_
    refine TM.pass rfl rfl rfl rfl rfl ?_
    refine TM.pass1 rfl rfl rfl rfl rfl ?_
    refine TM.pass rfl rfl rfl rfl rfl ?_
    refine TM.pass rfl rfl rfl rfl rfl ?_
    refine TM.free (Wants.none rfl) rfl (fun _ => Gets.pickF rfl rfl rfl) ?_
    refine TM.free (Wants.none rfl) rfl (fun _ => Gets.assign rfl rfl) ?_
    refine TM.nil ?_
    refine TE.then ?_
    refine TC.ret ?_
    exact TE.ret1 rfl rfl (fun w hs => ⟨dec_f (by unfold vld; omega), (hs.drop (by assumption))⟩)

set_option maxRecDepth 100000 in
set_option maxHeartbeats 400000 in
theorem bytes_c (o l : Int) (w : World) : Calls Try.prog 54 #[.agg ([Value.int .i64 o, Value.int .i64 l]).toArray] w fun e w' => e = .returned (.agg ([Value.int .i64 o, Value.int .i64 l]).toArray) ∧ St w [] w' := by
  refine calls_from (args := [.agg ([Value.int .i64 o, Value.int .i64 l]).toArray]) Try.func54 rfl Try.ntmps54 (by simp) ?_
  refine TC.sub (Sub.cons (i := 0) rfl (Sub.nil)) ?_
  refine TC.seq ?_
  refine TC.regionL ?_
  refine TL.box (Wants.none rfl) rfl rfl rfl (cs := [Value.int .i64 o, Value.int .i64 l]) (by simp [Value.cells]) (tot := 2) (by simp []) (fun g1 hg1 => ?_)
  refine TL.alloc (Wants.none rfl) rfl rfl zero49 (cs := [Value.int .i64 0, Value.int .i64 0]) rfl (tot := 2) (by simp) (fun g2 hg2 => ?_)
  refine TL.nil ?_
  refine TE.then ?_
  refine TC.seq ?_
  refine TC.regionL ?_
  refine TL.gets (Wants.none rfl) rfl (Gets.loadN rfl agg77 size77 rfl (vs := [Value.int .i64 o, Value.int .i64 l]) (by simp []) (Row.all (i := 1) (ent := ⟨g1, 77, [Value.int .i64 o, Value.int .i64 l], 2⟩) rfl rfl rfl)) ?_
  refine TL.storeW (Wants.none rfl) rfl rfl size49 rfl (vs := [Value.int .i64 o, Value.int .i64 l]) rfl (by simp []) (by simp [Value.oneCell']) (i := 0) (ent := ⟨g2, 49, [Value.int .i64 0, Value.int .i64 0], 2⟩) rfl rfl (by simp []) (H' := [⟨g2, 49, [Value.int .i64 o, Value.int .i64 l], 2⟩, ⟨g1, 77, [Value.int .i64 o, Value.int .i64 l], 2⟩]) rfl ?_
  refine TL.nil ?_
  refine TE.then ?_
  refine TC.ret ?_
  exact TE.retC rfl agg49 size49 rfl (vs := [Value.int .i64 o, Value.int .i64 l]) rfl (Row.all (i := 0) (ent := ⟨g2, 49, [Value.int .i64 o, Value.int .i64 l], 2⟩) rfl rfl rfl) (fun w hs => ⟨rfl, ((hs.drop (by assumption)).drop (by assumption))⟩)

set_option maxRecDepth 100000 in
set_option maxHeartbeats 400000 in
theorem tvalid_c (o l : Int) (bo : -9223372036854775808 ≤ o ∧ o ≤ 9223372036854775807) (bl : -9223372036854775808 ≤ l ∧ l ≤ 9223372036854775807) (w : World) : Calls Try.prog 63 #[.agg ([Value.int .i64 o, Value.int .i64 l]).toArray] w fun e w' => e = .returned (.bool (decide (vld o l))) ∧ St w [] w' := by
  refine calls_from (args := [.agg ([Value.int .i64 o, Value.int .i64 l]).toArray]) Try.func63 rfl Try.ntmps63 (by simp) ?_
  refine TC.sub (Sub.cons (i := 0) rfl (Sub.nil)) ?_
  refine TC.seq ?_
  refine TC.regionL ?_
  refine TL.box (Wants.none rfl) rfl rfl rfl (cs := [Value.int .i64 o, Value.int .i64 l]) (by simp [Value.cells]) (tot := 2) (by simp []) (fun g1 hg1 => ?_)
  refine TL.gets (Wants.none rfl) rfl (Gets.assign rfl rfl) ?_
  refine TL.nil ?_
  refine TE.then ?_
  refine TC.seq ?_
  refine TC.regionL ?_
  refine TL.gets (Wants.none rfl) rfl (Gets.loadN rfl agg77 size77 rfl (vs := [Value.int .i64 o, Value.int .i64 l]) (by simp []) (Row.all (i := 0) (ent := ⟨g1, 77, [Value.int .i64 o, Value.int .i64 l], 2⟩) rfl rfl rfl)) ?_
  refine TL.call0 (Wants.none rfl) rfl enters54 rfl rfl (v := .agg ([Value.int .i64 o, Value.int .i64 l]).toArray) (fun w hs => bytes_c o l w) ?_
  refine TL.call0 (Wants.none rfl) rfl enters30 rfl rfl (v := .bool (decide (vld o l))) (fun w hs => valid_c o l (by omega) (by omega) w) ?_
  refine TL.gets (Wants.none rfl) rfl (Gets.assign rfl rfl) ?_
  refine TL.nil ?_
  refine TE.then ?_
  refine TC.ret ?_
  exact TE.ret1 rfl rfl (fun w hs => ⟨dec_iff (Iff.rfl), (hs.drop (by assumption))⟩)

set_option maxRecDepth 100000 in
set_option maxHeartbeats 400000 in
theorem describe1 (t f l : Int) (A : Option Addr) (m c : Nat) (w : World) : Calls Try.prog 53 #[.agg ([Value.int .i64 1, Value.int .i64 t, Value.int .i64 f, Value.int .i64 l, Value.slice A m c]).toArray] w fun e w' => e = .returned (.agg ([Value.int .i64 t, Value.int .i64 l, Value.int .i64 1, Value.int .i64 f, Value.int .i64 l, Value.bool (decide ((0 : Int) < (m : Int)))]).toArray) ∧ St w [] w' := by
  refine calls_from (args := [.agg ([Value.int .i64 1, Value.int .i64 t, Value.int .i64 f, Value.int .i64 l, Value.slice A m c]).toArray]) Try.func53 rfl Try.ntmps53 (by simp) ?_
  refine TC.sub (Sub.cons (i := 0) rfl (Sub.nil)) ?_
  refine TC.seq ?_
  refine TC.regionL ?_
  refine TL.box (Wants.none rfl) rfl rfl rfl (cs := [Value.int .i64 1, Value.int .i64 t, Value.int .i64 f, Value.int .i64 l, Value.slice A m c]) (by simp [Value.cells]) (tot := 5) (by simp []) (fun g1 hg1 => ?_)
  refine TL.alloc (Wants.none rfl) rfl rfl zero80 (cs := [Value.int .i64 0, Value.int .i64 0, Value.int .i64 0, Value.int .i64 0, Value.int .i64 0, Value.bool false]) rfl (tot := 6) (by simp) (fun g2 hg2 => ?_)
  refine TL.nil ?_
  refine TE.then ?_
  refine TC.seq ?_
  refine TC.seq ?_
  refine TC.regionL ?_
  refine TL.gets (Wants.none rfl) rfl (Gets.fieldAddr rfl Try.underlying40 rfl size3 rfl (off' := 0) (by first | rfl | omega)) ?_
  refine TL.gets (Wants.none rfl) rfl (Gets.load1 rfl agg3 rfl (At.ent (i := 1) (ent := ⟨g1, 40, [Value.int .i64 1, Value.int .i64 t, Value.int .i64 f, Value.int .i64 l, Value.slice A m c], 5⟩) (off := 0) rfl rfl (by exact rfl))) ?_
  refine TL.nil ?_
  refine TE.then ?_
  refine TC.block ?_
  refine TC.seq ?_
  refine TC.regionL ?_
  refine TL.gets (Wants.none rfl) rfl (Gets.isTrue (Gets.eql rfl rfl rfl) rfl) ?_
  refine TL.gets (Wants.none rfl) rfl (Gets.assign rfl rfl) ?_
  refine TL.nil ?_
  refine TE.then ?_
  refine TC.yes rfl ?_
  refine TC.seq ?_
  refine TC.regionL ?_
  refine TL.gets (Wants.none rfl) rfl (Gets.fieldAddr rfl Try.underlying40 rfl size3 rfl (off' := 1) (by first | rfl | omega)) ?_
  refine TL.gets (Wants.none rfl) rfl (Gets.load1 rfl agg3 rfl (At.ent (i := 1) (ent := ⟨g1, 40, [Value.int .i64 1, Value.int .i64 t, Value.int .i64 f, Value.int .i64 l, Value.slice A m c], 5⟩) (off := 1) rfl rfl (by exact rfl))) ?_
  refine TL.gets (Wants.none rfl) rfl (Gets.fieldAddr rfl Try.underlying40 rfl size3 rfl (off' := 3) (by first | rfl | omega)) ?_
  refine TL.gets (Wants.none rfl) rfl (Gets.load1 rfl agg3 rfl (At.ent (i := 1) (ent := ⟨g1, 40, [Value.int .i64 1, Value.int .i64 t, Value.int .i64 f, Value.int .i64 l, Value.slice A m c], 5⟩) (off := 3) rfl rfl (by exact rfl))) ?_
  refine TL.gets (Wants.none rfl) rfl (Gets.build rfl (vs := [(0, Value.int .i64 t), (1, Value.int .i64 l)]) rfl (fun w => by first | rfl | kernel_rfl) (v := .agg ([Value.int .i64 t, Value.int .i64 l]).toArray)) ?_
  refine TL.gets (Wants.none rfl) rfl (Gets.fieldAddr rfl Try.underlying40 rfl size3 rfl (off' := 2) (by first | rfl | omega)) ?_
  refine TL.gets (Wants.none rfl) rfl (Gets.load1 rfl agg3 rfl (At.ent (i := 1) (ent := ⟨g1, 40, [Value.int .i64 1, Value.int .i64 t, Value.int .i64 f, Value.int .i64 l, Value.slice A m c], 5⟩) (off := 2) rfl rfl (by exact rfl))) ?_
  refine TL.gets (Wants.none rfl) rfl (Gets.fieldAddr rfl Try.underlying40 rfl size3 rfl (off' := 3) (by first | rfl | omega)) ?_
  refine TL.gets (Wants.none rfl) rfl (Gets.load1 rfl agg3 rfl (At.ent (i := 1) (ent := ⟨g1, 40, [Value.int .i64 1, Value.int .i64 t, Value.int .i64 f, Value.int .i64 l, Value.slice A m c], 5⟩) (off := 3) rfl rfl (by exact rfl))) ?_
  refine TL.gets (Wants.none rfl) rfl (Gets.build rfl (vs := [(0, Value.int .i64 f), (1, Value.int .i64 l)]) rfl (fun w => by first | rfl | kernel_rfl) (v := .agg ([Value.int .i64 f, Value.int .i64 l]).toArray)) ?_
  refine TL.gets (Wants.none rfl) rfl (Gets.fieldAddr rfl Try.underlying40 rfl size38 rfl (off' := 4) (by first | rfl | omega)) ?_
  refine TL.gets (Wants.none rfl) rfl (Gets.load1 rfl agg38 rfl (At.ent (i := 1) (ent := ⟨g1, 40, [Value.int .i64 1, Value.int .i64 t, Value.int .i64 f, Value.int .i64 l, Value.slice A m c], 5⟩) (off := 4) rfl rfl (by exact rfl))) ?_
  refine TL.gets (Wants.none rfl) rfl (Gets.lenSlice rfl Try.underlying38 rfl) ?_
  refine TL.gets (Wants.none rfl) rfl (Gets.gtr rfl rfl rfl) ?_
  refine TL.gets (Wants.none rfl) rfl (Gets.build rfl (vs := [(0, Value.agg ([Value.int .i64 t, Value.int .i64 l]).toArray), (1, Value.int .i64 1), (2, Value.agg ([Value.int .i64 f, Value.int .i64 l]).toArray), (3, Value.bool (decide (0 < (m : Int))))]) rfl (fun w => by first | rfl | kernel_rfl) (v := .agg ([Value.int .i64 t, Value.int .i64 l, Value.int .i64 1, Value.int .i64 f, Value.int .i64 l, Value.bool (decide (0 < (m : Int)))]).toArray)) ?_
  refine TL.storeW (Wants.none rfl) rfl rfl size80 rfl (vs := [Value.int .i64 t, Value.int .i64 l, Value.int .i64 1, Value.int .i64 f, Value.int .i64 l, Value.bool (decide (0 < (m : Int)))]) rfl (by simp []) (by simp [Value.oneCell']) (i := 0) (ent := ⟨g2, 80, [Value.int .i64 0, Value.int .i64 0, Value.int .i64 0, Value.int .i64 0, Value.int .i64 0, Value.bool false], 6⟩) rfl rfl (by simp []) (H' := [⟨g2, 80, [Value.int .i64 t, Value.int .i64 l, Value.int .i64 1, Value.int .i64 f, Value.int .i64 l, Value.bool (decide (0 < (m : Int)))], 6⟩, ⟨g1, 40, [Value.int .i64 1, Value.int .i64 t, Value.int .i64 f, Value.int .i64 l, Value.slice A m c], 5⟩]) rfl ?_
  refine TL.nil ?_
  refine TE.then ?_
  refine TC.ret ?_
  refine TE.blockR ?_
  refine TE.thenR ?_
  exact TE.retC rfl agg80 size80 rfl (vs := [Value.int .i64 t, Value.int .i64 l, Value.int .i64 1, Value.int .i64 f, Value.int .i64 l, Value.bool (decide (0 < (m : Int)))]) rfl (Row.all (i := 0) (ent := ⟨g2, 80, [Value.int .i64 t, Value.int .i64 l, Value.int .i64 1, Value.int .i64 f, Value.int .i64 l, Value.bool (decide (0 < (m : Int)))], 6⟩) rfl rfl rfl) (fun w hs => ⟨rfl, ((hs.drop (by assumption)).drop (by assumption))⟩)

set_option maxRecDepth 100000 in
set_option maxHeartbeats 400000 in
theorem describe2 (t f l : Int) (A : Option Addr) (m c : Nat) (w : World) : Calls Try.prog 53 #[.agg ([Value.int .i64 2, Value.int .i64 t, Value.int .i64 f, Value.int .i64 l, Value.slice A m c]).toArray] w fun e w' => e = .returned (.agg ([Value.int .i64 t, Value.int .i64 (m : Int), Value.int .i64 2, Value.int .i64 0, Value.int .i64 0, Value.bool (decide (¬ (f = 0 ∧ l = 0)))]).toArray) ∧ St w [] w' := by
  refine calls_from (args := [.agg ([Value.int .i64 2, Value.int .i64 t, Value.int .i64 f, Value.int .i64 l, Value.slice A m c]).toArray]) Try.func53 rfl Try.ntmps53 (by simp) ?_
  refine TC.sub (Sub.cons (i := 0) rfl (Sub.nil)) ?_
  refine TC.seq ?_
  refine TC.regionL ?_
  refine TL.box (Wants.none rfl) rfl rfl rfl (cs := [Value.int .i64 2, Value.int .i64 t, Value.int .i64 f, Value.int .i64 l, Value.slice A m c]) (by simp [Value.cells]) (tot := 5) (by simp []) (fun g1 hg1 => ?_)
  refine TL.alloc (Wants.none rfl) rfl rfl zero80 (cs := [Value.int .i64 0, Value.int .i64 0, Value.int .i64 0, Value.int .i64 0, Value.int .i64 0, Value.bool false]) rfl (tot := 6) (by simp) (fun g2 hg2 => ?_)
  refine TL.nil ?_
  refine TE.then ?_
  refine TC.seq ?_
  refine TC.seq ?_
  refine TC.regionL ?_
  refine TL.gets (Wants.none rfl) rfl (Gets.fieldAddr rfl Try.underlying40 rfl size3 rfl (off' := 0) (by first | rfl | omega)) ?_
  refine TL.gets (Wants.none rfl) rfl (Gets.load1 rfl agg3 rfl (At.ent (i := 1) (ent := ⟨g1, 40, [Value.int .i64 2, Value.int .i64 t, Value.int .i64 f, Value.int .i64 l, Value.slice A m c], 5⟩) (off := 0) rfl rfl (by exact rfl))) ?_
  refine TL.nil ?_
  refine TE.then ?_
  refine TC.block ?_
  refine TC.seq ?_
  refine TC.regionL ?_
  refine TL.gets (Wants.none rfl) rfl (Gets.isFalse (Gets.eql rfl rfl rfl) (by decide)) ?_
  refine TL.gets (Wants.none rfl) rfl (Gets.assign rfl rfl) ?_
  refine TL.nil ?_
  refine TE.then ?_
  refine TC.no rfl ?_
  refine TC.seq ?_
  refine TC.regionL ?_
  refine TL.gets (Wants.none rfl) rfl (Gets.isTrue (Gets.eql rfl rfl rfl) rfl) ?_
  refine TL.gets (Wants.none rfl) rfl (Gets.assign rfl rfl) ?_
  refine TL.nil ?_
  refine TE.then ?_
  refine TC.sub (Sub.cons (i := 1) rfl (Sub.cons (i := 2) rfl (Sub.cons (i := 22) rfl (Sub.nil)))) ?_
  refine TC.yes rfl ?_
  refine TC.seq ?_
  refine TC.regionL ?_
  refine TL.gets (Wants.none rfl) rfl (Gets.fieldAddr rfl Try.underlying40 rfl size3 rfl (off' := 1) (by first | rfl | omega)) ?_
  refine TL.gets (Wants.none rfl) rfl (Gets.load1 rfl agg3 rfl (At.ent (i := 1) (ent := ⟨g1, 40, [Value.int .i64 2, Value.int .i64 t, Value.int .i64 f, Value.int .i64 l, Value.slice A m c], 5⟩) (off := 1) rfl rfl (by exact rfl))) ?_
  refine TL.gets (Wants.none rfl) rfl (Gets.fieldAddr rfl Try.underlying40 rfl size38 rfl (off' := 4) (by first | rfl | omega)) ?_
  refine TL.gets (Wants.none rfl) rfl (Gets.load1 rfl agg38 rfl (At.ent (i := 1) (ent := ⟨g1, 40, [Value.int .i64 2, Value.int .i64 t, Value.int .i64 f, Value.int .i64 l, Value.slice A m c], 5⟩) (off := 4) rfl rfl (by exact rfl))) ?_
  refine TL.gets (Wants.none rfl) rfl (Gets.lenSlice rfl Try.underlying38 rfl) ?_
  refine TL.gets (Wants.none rfl) rfl (Gets.build rfl (vs := [(0, Value.int .i64 t), (1, Value.int .i64 (m : Int))]) rfl (fun w => by first | rfl | kernel_rfl) (v := .agg ([Value.int .i64 t, Value.int .i64 (m : Int)]).toArray)) ?_
  refine TL.gets (Wants.none rfl) rfl (Gets.fieldAddr rfl Try.underlying40 rfl size3 rfl (off' := 2) (by first | rfl | omega)) ?_
  refine TL.gets (Wants.none rfl) rfl (Gets.load1 rfl agg3 rfl (At.ent (i := 1) (ent := ⟨g1, 40, [Value.int .i64 2, Value.int .i64 t, Value.int .i64 f, Value.int .i64 l, Value.slice A m c], 5⟩) (off := 2) rfl rfl (by exact rfl))) ?_
  by_cases c1 : f ≠ 0
  · refine TL.gets (Wants.none rfl) rfl (Gets.isTrue (Gets.neq rfl rfl rfl) c1) ?_
    refine TL.gets (Wants.none rfl) rfl (Gets.move rfl rfl) ?_
    refine TL.pass rfl rfl rfl rfl rfl ?_
    refine TL.pass rfl rfl rfl rfl rfl ?_
    refine TL.pass rfl rfl rfl rfl rfl ?_
    refine TL.gets (Wants.none rfl) rfl (Gets.pickT rfl rfl rfl) ?_
    refine TL.gets (Wants.none rfl) rfl (Gets.build rfl (vs := [(0, Value.agg ([Value.int .i64 t, Value.int .i64 (m : Int)]).toArray), (1, Value.int .i64 2), (3, Value.bool true)]) rfl (fun w => by first | rfl | kernel_rfl) (v := .agg ([Value.int .i64 t, Value.int .i64 (m : Int), Value.int .i64 2, Value.int .i64 0, Value.int .i64 0, Value.bool true]).toArray)) ?_
    refine TL.storeW (Wants.none rfl) rfl rfl size80 rfl (vs := [Value.int .i64 t, Value.int .i64 (m : Int), Value.int .i64 2, Value.int .i64 0, Value.int .i64 0, Value.bool true]) rfl (by simp []) (by simp [Value.oneCell']) (i := 0) (ent := ⟨g2, 80, [Value.int .i64 0, Value.int .i64 0, Value.int .i64 0, Value.int .i64 0, Value.int .i64 0, Value.bool false], 6⟩) rfl rfl (by simp []) (H' := [⟨g2, 80, [Value.int .i64 t, Value.int .i64 (m : Int), Value.int .i64 2, Value.int .i64 0, Value.int .i64 0, Value.bool true], 6⟩, ⟨g1, 40, [Value.int .i64 2, Value.int .i64 t, Value.int .i64 f, Value.int .i64 l, Value.slice A m c], 5⟩]) rfl ?_
    refine TL.nil ?_
    refine TE.then ?_
    refine TC.ret ?_
    refine TE.blockR ?_
    refine TE.thenR ?_
    exact TE.retC rfl agg80 size80 rfl (vs := [Value.int .i64 t, Value.int .i64 (m : Int), Value.int .i64 2, Value.int .i64 0, Value.int .i64 0, Value.bool true]) rfl (Row.all (i := 0) (ent := ⟨g2, 80, [Value.int .i64 t, Value.int .i64 (m : Int), Value.int .i64 2, Value.int .i64 0, Value.int .i64 0, Value.bool true], 6⟩) rfl rfl rfl) (fun w hs => ⟨by rw [decide_eq_true (show ¬ (f = 0 ∧ l = 0) by omega)], ((hs.drop (by assumption)).drop (by assumption))⟩)
  · refine TL.gets (Wants.none rfl) rfl (Gets.isFalse (Gets.neq rfl rfl rfl) c1) ?_
    refine TL.gets (Wants.none rfl) rfl (Gets.move rfl rfl) ?_
    refine TL.gets (Wants.yes rfl rfl rfl) rfl (Gets.fieldAddr rfl Try.underlying40 rfl size3 rfl (off' := 3) (by first | rfl | omega)) ?_
    refine TL.gets (Wants.yes rfl rfl rfl) rfl (Gets.load1 rfl agg3 rfl (At.ent (i := 1) (ent := ⟨g1, 40, [Value.int .i64 2, Value.int .i64 t, Value.int .i64 f, Value.int .i64 l, Value.slice A m c], 5⟩) (off := 3) rfl rfl (by exact rfl))) ?_
    refine TL.gets (Wants.yes rfl rfl rfl) rfl (Gets.neq rfl rfl rfl) ?_
    refine TL.gets (Wants.none rfl) rfl (Gets.pickF rfl rfl rfl) ?_
    refine TL.gets (Wants.none rfl) rfl (Gets.build rfl (vs := [(0, Value.agg ([Value.int .i64 t, Value.int .i64 (m : Int)]).toArray), (1, Value.int .i64 2), (3, Value.bool (decide (l ≠ 0)))]) rfl (fun w => by first | rfl | kernel_rfl) (v := .agg ([Value.int .i64 t, Value.int .i64 (m : Int), Value.int .i64 2, Value.int .i64 0, Value.int .i64 0, Value.bool (decide (l ≠ 0))]).toArray)) ?_
    refine TL.storeW (Wants.none rfl) rfl rfl size80 rfl (vs := [Value.int .i64 t, Value.int .i64 (m : Int), Value.int .i64 2, Value.int .i64 0, Value.int .i64 0, Value.bool (decide (l ≠ 0))]) rfl (by simp []) (by simp [Value.oneCell']) (i := 0) (ent := ⟨g2, 80, [Value.int .i64 0, Value.int .i64 0, Value.int .i64 0, Value.int .i64 0, Value.int .i64 0, Value.bool false], 6⟩) rfl rfl (by simp []) (H' := [⟨g2, 80, [Value.int .i64 t, Value.int .i64 (m : Int), Value.int .i64 2, Value.int .i64 0, Value.int .i64 0, Value.bool (decide (l ≠ 0))], 6⟩, ⟨g1, 40, [Value.int .i64 2, Value.int .i64 t, Value.int .i64 f, Value.int .i64 l, Value.slice A m c], 5⟩]) rfl ?_
    refine TL.nil ?_
    refine TE.then ?_
    refine TC.ret ?_
    refine TE.blockR ?_
    refine TE.thenR ?_
    exact TE.retC rfl agg80 size80 rfl (vs := [Value.int .i64 t, Value.int .i64 (m : Int), Value.int .i64 2, Value.int .i64 0, Value.int .i64 0, Value.bool (decide (l ≠ 0))]) rfl (Row.all (i := 0) (ent := ⟨g2, 80, [Value.int .i64 t, Value.int .i64 (m : Int), Value.int .i64 2, Value.int .i64 0, Value.int .i64 0, Value.bool (decide (l ≠ 0))], 6⟩) rfl rfl rfl) (fun w hs => ⟨by rw [show decide (l ≠ 0) = decide (¬ (f = 0 ∧ l = 0)) from decide_eq_decide.2 (by omega)], ((hs.drop (by assumption)).drop (by assumption))⟩)

set_option maxRecDepth 100000 in
set_option maxHeartbeats 400000 in
theorem describe0 (k t f l : Int) (A : Option Addr) (m c : Nat) (h1 : ¬ k = 1) (h2 : ¬ k = 2) (w : World) : Calls Try.prog 53 #[.agg ([Value.int .i64 k, Value.int .i64 t, Value.int .i64 f, Value.int .i64 l, Value.slice A m c]).toArray] w fun e w' => e = .returned (.agg ([Value.int .i64 0, Value.int .i64 0, Value.int .i64 0, Value.int .i64 0, Value.int .i64 0, Value.bool false]).toArray) ∧ St w [] w' := by
  refine calls_from (args := [.agg ([Value.int .i64 k, Value.int .i64 t, Value.int .i64 f, Value.int .i64 l, Value.slice A m c]).toArray]) Try.func53 rfl Try.ntmps53 (by simp) ?_
  refine TC.sub (Sub.cons (i := 0) rfl (Sub.nil)) ?_
  refine TC.seq ?_
  refine TC.regionL ?_
  refine TL.box (Wants.none rfl) rfl rfl rfl (cs := [Value.int .i64 k, Value.int .i64 t, Value.int .i64 f, Value.int .i64 l, Value.slice A m c]) (by simp [Value.cells]) (tot := 5) (by simp []) (fun g1 hg1 => ?_)
  refine TL.alloc (Wants.none rfl) rfl rfl zero80 (cs := [Value.int .i64 0, Value.int .i64 0, Value.int .i64 0, Value.int .i64 0, Value.int .i64 0, Value.bool false]) rfl (tot := 6) (by simp) (fun g2 hg2 => ?_)
  refine TL.nil ?_
  refine TE.then ?_
  refine TC.seq ?_
  refine TC.seq ?_
  refine TC.regionL ?_
  refine TL.gets (Wants.none rfl) rfl (Gets.fieldAddr rfl Try.underlying40 rfl size3 rfl (off' := 0) (by first | rfl | omega)) ?_
  refine TL.gets (Wants.none rfl) rfl (Gets.load1 rfl agg3 rfl (At.ent (i := 1) (ent := ⟨g1, 40, [Value.int .i64 k, Value.int .i64 t, Value.int .i64 f, Value.int .i64 l, Value.slice A m c], 5⟩) (off := 0) rfl rfl (by exact rfl))) ?_
  refine TL.nil ?_
  refine TE.then ?_
  refine TC.block ?_
  refine TC.seq ?_
  refine TC.regionL ?_
  refine TL.gets (Wants.none rfl) rfl (Gets.isFalse (Gets.eql rfl rfl rfl) h1) ?_
  refine TL.gets (Wants.none rfl) rfl (Gets.assign rfl rfl) ?_
  refine TL.nil ?_
  refine TE.then ?_
  refine TC.no rfl ?_
  refine TC.seq ?_
  refine TC.regionL ?_
  refine TL.gets (Wants.none rfl) rfl (Gets.isFalse (Gets.eql rfl rfl rfl) h2) ?_
  refine TL.gets (Wants.none rfl) rfl (Gets.assign rfl rfl) ?_
  refine TL.nil ?_
  refine TE.then ?_
  refine TC.sub (Sub.cons (i := 1) rfl (Sub.cons (i := 2) rfl (Sub.cons (i := 22) rfl (Sub.nil)))) ?_
  refine TC.no rfl ?_
  refine TC.skip ?_
  refine TE.blockN ?_
  refine TE.then ?_
  refine TC.seq ?_
  refine TC.regionL ?_
  refine TL.gets (Wants.none rfl) rfl (Gets.build rfl (vs := []) rfl (fun w => by first | rfl | kernel_rfl) (v := .agg ([Value.int .i64 0, Value.int .i64 0, Value.int .i64 0, Value.int .i64 0, Value.int .i64 0, Value.bool false]).toArray)) ?_
  refine TL.storeW (Wants.none rfl) rfl rfl size80 rfl (vs := [Value.int .i64 0, Value.int .i64 0, Value.int .i64 0, Value.int .i64 0, Value.int .i64 0, Value.bool false]) rfl (by simp []) (by simp [Value.oneCell']) (i := 0) (ent := ⟨g2, 80, [Value.int .i64 0, Value.int .i64 0, Value.int .i64 0, Value.int .i64 0, Value.int .i64 0, Value.bool false], 6⟩) rfl rfl (by simp []) (H' := [⟨g2, 80, [Value.int .i64 0, Value.int .i64 0, Value.int .i64 0, Value.int .i64 0, Value.int .i64 0, Value.bool false], 6⟩, ⟨g1, 40, [Value.int .i64 k, Value.int .i64 t, Value.int .i64 f, Value.int .i64 l, Value.slice A m c], 5⟩]) rfl ?_
  refine TL.nil ?_
  refine TE.then ?_
  refine TC.ret ?_
  exact TE.retC rfl agg80 size80 rfl (vs := [Value.int .i64 0, Value.int .i64 0, Value.int .i64 0, Value.int .i64 0, Value.int .i64 0, Value.bool false]) rfl (Row.all (i := 0) (ent := ⟨g2, 80, [Value.int .i64 0, Value.int .i64 0, Value.int .i64 0, Value.int .i64 0, Value.int .i64 0, Value.bool false], 6⟩) rfl rfl rfl) (fun w hs => ⟨rfl, ((hs.drop (by assumption)).drop (by assumption))⟩)
end Go.Proofs.Ytkgamkjdkapchaa
/-
  Contracts of package command: Check.
-/
namespace Go.Proofs.Ytkgamkjdkapchaa
set_option linter.unusedVariables false
set_option linter.unusedSimpArgs false
open Go Go.RowKit
theorem agg4 : (isAgg 4).run Try.prog = fun w => .ok false w := isAgg_no Try.underlying4 rfl
theorem agg40 : (isAgg 40).run Try.prog = fun w => .ok true w := isAgg_yes Try.underlying40 rfl
theorem agg78 : (isAgg 78).run Try.prog = fun w => .ok false w := isAgg_no Try.underlying78 rfl
theorem enters53 : Enters Try.prog 53 := ⟨_, Try.func53, by kernel_rfl, by kernel_rfl⟩
theorem enters63 : Enters Try.prog 63 := ⟨_, Try.func63, by kernel_rfl, by kernel_rfl⟩
theorem size4 : (Try.prog.info? 4).map (·.size) = some 1 := by kernel_rfl
theorem size40 : (Try.prog.info? 40).map (·.size) = some 5 := by kernel_rfl
theorem size78 : (Try.prog.info? 78).map (·.size) = some 1 := by kernel_rfl

def codeV (k t f l : Int) (m : Nat) : Int :=
  if k = 1 then (if l = 0 then 7 else if m = 0 ∧ vld t l ∧ vld f l then 0 else 2)
  else if k = 2 then (if m = 0 then 7 else if f = 0 ∧ l = 0 ∧ vld t m then 0 else 2) else 11
def lenV (k l : Int) (m : Nat) : Int := if k = 1 then l else m

set_option maxRecDepth 100000 in
set_option maxHeartbeats 400000 in
theorem check1 (t f l : Int) (A : Option Addr) (m c : Nat) (bt : -9223372036854775808 ≤ t ∧ t ≤ 9223372036854775807) (bf : -9223372036854775808 ≤ f ∧ f ≤ 9223372036854775807) (bl : -9223372036854775808 ≤ l ∧ l ≤ 9223372036854775807) (w : World) : Calls Try.prog 45 #[.agg ([Value.int .i64 1, Value.int .i64 t, Value.int .i64 f, Value.int .i64 l, Value.slice A m c]).toArray] w fun e w' => e = .returned (.int .i64 (codeV 1 t f l m)) ∧ St w [] w' := by
  refine calls_from (args := [.agg ([Value.int .i64 1, Value.int .i64 t, Value.int .i64 f, Value.int .i64 l, Value.slice A m c]).toArray]) Try.func45 rfl Try.ntmps45 (by simp) ?_
  refine TC.sub (Sub.cons (i := 0) rfl (Sub.nil)) ?_
  refine TC.seq ?_
  refine TC.regionL ?_
  refine TL.box (Wants.none rfl) rfl rfl rfl (cs := [Value.int .i64 1, Value.int .i64 t, Value.int .i64 f, Value.int .i64 l, Value.slice A m c]) (by simp [Value.cells]) (tot := 5) (by simp []) (fun g1 hg1 => ?_)
  refine TL.gets (Wants.none rfl) rfl (Gets.assign rfl rfl) ?_
  refine TL.nil ?_
  refine TE.then ?_
  refine TC.seq ?_
  refine TC.regionL ?_
  refine TL.gets (Wants.none rfl) rfl (Gets.loadN rfl agg40 size40 rfl (vs := [Value.int .i64 1, Value.int .i64 t, Value.int .i64 f, Value.int .i64 l, Value.slice A m c]) (by simp []) (Row.all (i := 0) (ent := ⟨g1, 40, [Value.int .i64 1, Value.int .i64 t, Value.int .i64 f, Value.int .i64 l, Value.slice A m c], 5⟩) rfl rfl rfl)) ?_
  refine TL.call0 (Wants.none rfl) rfl enters53 rfl rfl (v := .agg ([Value.int .i64 t, Value.int .i64 l, Value.int .i64 1, Value.int .i64 f, Value.int .i64 l, Value.bool (decide ((0 : Int) < (m : Int)))]).toArray) (fun w hs => describe1 t f l A m c w) ?_
  refine TL.alloc (Wants.none rfl) rfl rfl zero80 (cs := [Value.int .i64 0, Value.int .i64 0, Value.int .i64 0, Value.int .i64 0, Value.int .i64 0, Value.bool false]) rfl (tot := 6) (by simp) (fun g2 hg2 => ?_)
  refine TL.storeW (Wants.none rfl) rfl rfl size80 rfl (vs := [Value.int .i64 t, Value.int .i64 l, Value.int .i64 1, Value.int .i64 f, Value.int .i64 l, Value.bool (decide ((0 : Int) < (m : Int)))]) rfl (by simp []) (by simp [Value.oneCell']) (i := 0) (ent := ⟨g2, 80, [Value.int .i64 0, Value.int .i64 0, Value.int .i64 0, Value.int .i64 0, Value.int .i64 0, Value.bool false], 6⟩) rfl rfl (by simp []) (H' := [⟨g2, 80, [Value.int .i64 t, Value.int .i64 l, Value.int .i64 1, Value.int .i64 f, Value.int .i64 l, Value.bool (decide ((0 : Int) < (m : Int)))], 6⟩, ⟨g1, 40, [Value.int .i64 1, Value.int .i64 t, Value.int .i64 f, Value.int .i64 l, Value.slice A m c], 5⟩]) rfl ?_
  refine TL.nil ?_
  refine TE.then ?_
  refine TC.seq ?_
  refine TC.block ?_
  refine TC.seq ?_
  refine TC.regionL ?_
  refine TL.gets (Wants.none rfl) rfl (Gets.fieldAddr rfl Try.underlying80 rfl size78 rfl (off' := 2) (by first | rfl | omega)) ?_
  refine TL.gets (Wants.none rfl) rfl (Gets.load1 rfl agg78 rfl (At.ent (i := 0) (ent := ⟨g2, 80, [Value.int .i64 t, Value.int .i64 l, Value.int .i64 1, Value.int .i64 f, Value.int .i64 l, Value.bool (decide ((0 : Int) < (m : Int)))], 6⟩) (off := 2) rfl rfl (by exact rfl))) ?_
  refine TL.gets (Wants.none rfl) rfl (Gets.isFalse (Gets.eql rfl rfl rfl) (by decide)) ?_
  refine TL.gets (Wants.none rfl) rfl (Gets.assign rfl rfl) ?_
  refine TL.nil ?_
  refine TE.then ?_
  refine TC.sub (Sub.cons (i := 2) rfl (Sub.cons (i := 3) rfl (Sub.cons (i := 6) rfl (Sub.nil)))) ?_
  refine TC.no rfl ?_
  refine TC.seq ?_
  refine TC.regionL ?_
  refine TL.gets (Wants.none rfl) rfl (Gets.fieldAddr rfl Try.underlying80 rfl size77 rfl (off' := 0) (by first | rfl | omega)) ?_
  refine TL.gets (Wants.none rfl) rfl (Gets.fieldAddr rfl Try.underlying77 rfl size3 rfl (off' := 1) (by first | rfl | omega)) ?_
  refine TL.gets (Wants.none rfl) rfl (Gets.load1 rfl agg3 rfl (At.ent (i := 0) (ent := ⟨g2, 80, [Value.int .i64 t, Value.int .i64 l, Value.int .i64 1, Value.int .i64 f, Value.int .i64 l, Value.bool (decide ((0 : Int) < (m : Int)))], 6⟩) (off := 1) rfl rfl (by exact rfl))) ?_
  refine TL.gets (Wants.none rfl) rfl (Gets.eql rfl rfl rfl) ?_
  refine TL.gets (Wants.none rfl) rfl (Gets.assign rfl rfl) ?_
  refine TL.nil ?_
  refine TE.then ?_
  refine TC.split rfl (fun cl => ?_) (fun cl => ?_)
  · refine TC.seq ?_
    refine TC.regionL ?_
    refine TL.gets (Wants.none rfl) rfl (Gets.assign rfl rfl) ?_
    refine TL.nil ?_
    refine TE.then ?_
    refine TC.ret ?_
    refine TE.blockR ?_
    refine TE.thenR ?_
    exact TE.ret1 rfl rfl (fun w hs => ⟨ret_i (by unfold codeV; (repeat' split) <;> first | rfl | (exfalso; (try unfold vld at *); omega)), ((hs.drop (by assumption)).drop (by assumption))⟩)
  · refine TC.seq ?_
    refine TC.regionL ?_
    refine TL.gets (Wants.none rfl) rfl (Gets.fieldAddr rfl Try.underlying80 rfl size4 rfl (off' := 5) (by first | rfl | omega)) ?_
    by_cases cm : (0 : Int) < (m : Int)
    · refine TL.gets (Wants.none rfl) rfl (Gets.isTrue (Gets.load1 rfl agg4 rfl (At.ent (i := 0) (ent := ⟨g2, 80, [Value.int .i64 t, Value.int .i64 l, Value.int .i64 1, Value.int .i64 f, Value.int .i64 l, Value.bool (decide ((0 : Int) < (m : Int)))], 6⟩) (off := 5) rfl rfl (by exact rfl))) cm) ?_
      refine TL.gets (Wants.none rfl) rfl (Gets.move rfl rfl) ?_
      refine TL.pass rfl rfl rfl rfl rfl ?_
      refine TL.pass rfl rfl rfl rfl rfl ?_
      refine TL.pass rfl rfl rfl rfl rfl ?_
      refine TL.pass rfl rfl rfl rfl rfl ?_
      refine TL.gets (Wants.none rfl) rfl (Gets.pickT rfl rfl rfl) ?_
      refine TL.gets (Wants.none rfl) rfl (Gets.move rfl rfl) ?_
      refine TL.pass rfl rfl rfl rfl rfl ?_
      refine TL.pass rfl rfl rfl rfl rfl ?_
      refine TL.pass rfl rfl rfl rfl rfl ?_
      refine TL.pass rfl rfl rfl rfl rfl ?_
      refine TL.gets (Wants.none rfl) rfl (Gets.pickT rfl rfl rfl) ?_
      refine TL.gets (Wants.none rfl) rfl (Gets.assign rfl rfl) ?_
      refine TL.nil ?_
      refine TE.then ?_
      refine TC.sub (Sub.cons (i := 2) rfl (Sub.cons (i := 15) rfl (Sub.nil))) ?_
      refine TC.yes rfl ?_
      refine TC.seq ?_
      refine TC.regionL ?_
      refine TL.gets (Wants.none rfl) rfl (Gets.assign rfl rfl) ?_
      refine TL.nil ?_
      refine TE.then ?_
      refine TC.ret ?_
      refine TE.blockR ?_
      refine TE.thenR ?_
      exact TE.ret1 rfl rfl (fun w hs => ⟨ret_i (by unfold codeV; (repeat' split) <;> first | rfl | (exfalso; (try unfold vld at *); omega)), ((hs.drop (by assumption)).drop (by assumption))⟩)
    · refine TL.gets (Wants.none rfl) rfl (Gets.isFalse (Gets.load1 rfl agg4 rfl (At.ent (i := 0) (ent := ⟨g2, 80, [Value.int .i64 t, Value.int .i64 l, Value.int .i64 1, Value.int .i64 f, Value.int .i64 l, Value.bool (decide ((0 : Int) < (m : Int)))], 6⟩) (off := 5) rfl rfl (by exact rfl))) cm) ?_
      refine TL.gets (Wants.none rfl) rfl (Gets.move rfl rfl) ?_
      refine TL.gets (Wants.yes rfl rfl rfl) rfl (Gets.fieldAddr rfl Try.underlying80 rfl size77 rfl (off' := 0) (by first | rfl | omega)) ?_
      refine TL.gets (Wants.yes rfl rfl rfl) rfl (Gets.loadN rfl agg77 size77 rfl (vs := [Value.int .i64 t, Value.int .i64 l]) rfl (Row.part (i := 0) (ent := ⟨g2, 80, [Value.int .i64 t, Value.int .i64 l, Value.int .i64 1, Value.int .i64 f, Value.int .i64 l, Value.bool (decide ((0 : Int) < (m : Int)))], 6⟩) rfl rfl rfl)) ?_
      by_cases ct : vld t l
      · refine TL.call0 (Wants.yes rfl rfl rfl) rfl enters63 rfl rfl (v := .bool true) (fun w hs => (tvalid_c t l (by omega) (by omega) w).mono fun e w' h => by rw [decide_eq_true (p := vld t l) ct] at h; exact h) ?_
        refine TL.gets (Wants.yes rfl rfl rfl) rfl (Gets.not rfl rfl) ?_
        refine TL.gets (Wants.none rfl) rfl (Gets.pickF rfl rfl rfl) ?_
        refine TL.gets (Wants.none rfl) rfl (Gets.move rfl rfl) ?_
        refine TL.gets (Wants.yes rfl rfl rfl) rfl (Gets.fieldAddr rfl Try.underlying80 rfl size49 rfl (off' := 3) (by first | rfl | omega)) ?_
        refine TL.gets (Wants.yes rfl rfl rfl) rfl (Gets.loadN rfl agg49 size49 rfl (vs := [Value.int .i64 f, Value.int .i64 l]) rfl (Row.part (i := 0) (ent := ⟨g2, 80, [Value.int .i64 t, Value.int .i64 l, Value.int .i64 1, Value.int .i64 f, Value.int .i64 l, Value.bool (decide ((0 : Int) < (m : Int)))], 6⟩) rfl rfl rfl)) ?_
        by_cases cf : vld f l
        · refine TL.call0 (Wants.yes rfl rfl rfl) rfl enters30 rfl rfl (v := .bool true) (fun w hs => (valid_c f l (by omega) (by omega) w).mono fun e w' h => by rw [decide_eq_true (p := vld f l) cf] at h; exact h) ?_
          refine TL.gets (Wants.yes rfl rfl rfl) rfl (Gets.not rfl rfl) ?_
          refine TL.gets (Wants.none rfl) rfl (Gets.pickF rfl rfl rfl) ?_
          refine TL.gets (Wants.none rfl) rfl (Gets.assign rfl rfl) ?_
          refine TL.nil ?_
          refine TE.then ?_
          refine TC.sub (Sub.cons (i := 2) rfl (Sub.cons (i := 15) rfl (Sub.nil))) ?_
          refine TC.no rfl ?_
          refine TC.skip ?_
          refine TE.blockN ?_
          refine TE.then ?_
          refine TC.seq ?_
          refine TC.regionL ?_
          refine TL.gets (Wants.none rfl) rfl (Gets.assign rfl rfl) ?_
          refine TL.nil ?_
          refine TE.then ?_
          refine TC.ret ?_
          exact TE.ret1 rfl rfl (fun w hs => ⟨ret_i (by unfold codeV; (repeat' split) <;> first | rfl | (exfalso; (try unfold vld at *); omega)), ((hs.drop (by assumption)).drop (by assumption))⟩)
        · refine TL.call0 (Wants.yes rfl rfl rfl) rfl enters30 rfl rfl (v := .bool false) (fun w hs => (valid_c f l (by omega) (by omega) w).mono fun e w' h => by rw [decide_eq_false (p := vld f l) cf] at h; exact h) ?_
          refine TL.gets (Wants.yes rfl rfl rfl) rfl (Gets.not rfl rfl) ?_
          refine TL.gets (Wants.none rfl) rfl (Gets.pickF rfl rfl rfl) ?_
          refine TL.gets (Wants.none rfl) rfl (Gets.assign rfl rfl) ?_
          refine TL.nil ?_
          refine TE.then ?_
          refine TC.sub (Sub.cons (i := 2) rfl (Sub.cons (i := 15) rfl (Sub.nil))) ?_
          refine TC.yes rfl ?_
          refine TC.seq ?_
          refine TC.regionL ?_
          refine TL.gets (Wants.none rfl) rfl (Gets.assign rfl rfl) ?_
          refine TL.nil ?_
          refine TE.then ?_
          refine TC.ret ?_
          refine TE.blockR ?_
          refine TE.thenR ?_
          exact TE.ret1 rfl rfl (fun w hs => ⟨ret_i (by unfold codeV; (repeat' split) <;> first | rfl | (exfalso; (try unfold vld at *); omega)), ((hs.drop (by assumption)).drop (by assumption))⟩)
      · refine TL.call0 (Wants.yes rfl rfl rfl) rfl enters63 rfl rfl (v := .bool false) (fun w hs => (tvalid_c t l (by omega) (by omega) w).mono fun e w' h => by rw [decide_eq_false (p := vld t l) ct] at h; exact h) ?_
        refine TL.gets (Wants.yes rfl rfl rfl) rfl (Gets.not rfl rfl) ?_
        refine TL.gets (Wants.none rfl) rfl (Gets.pickF rfl rfl rfl) ?_
        refine TL.gets (Wants.none rfl) rfl (Gets.move rfl rfl) ?_
        refine TL.pass rfl rfl rfl rfl rfl ?_
        refine TL.pass rfl rfl rfl rfl rfl ?_
        refine TL.pass rfl rfl rfl rfl rfl ?_
        refine TL.pass rfl rfl rfl rfl rfl ?_
        refine TL.gets (Wants.none rfl) rfl (Gets.pickT rfl rfl rfl) ?_
        refine TL.gets (Wants.none rfl) rfl (Gets.assign rfl rfl) ?_
        refine TL.nil ?_
        refine TE.then ?_
        refine TC.sub (Sub.cons (i := 2) rfl (Sub.cons (i := 15) rfl (Sub.nil))) ?_
        refine TC.yes rfl ?_
        refine TC.seq ?_
        refine TC.regionL ?_
        refine TL.gets (Wants.none rfl) rfl (Gets.assign rfl rfl) ?_
        refine TL.nil ?_
        refine TE.then ?_
        refine TC.ret ?_
        refine TE.blockR ?_
        refine TE.thenR ?_
        exact TE.ret1 rfl rfl (fun w hs => ⟨ret_i (by unfold codeV; (repeat' split) <;> first | rfl | (exfalso; (try unfold vld at *); omega)), ((hs.drop (by assumption)).drop (by assumption))⟩)

set_option maxRecDepth 100000 in
set_option maxHeartbeats 400000 in
theorem check2 (t f l : Int) (A : Option Addr) (m c : Nat) (hmr : m ≤ 9223372036854775807) (bt : -9223372036854775808 ≤ t ∧ t ≤ 9223372036854775807) (bf : -9223372036854775808 ≤ f ∧ f ≤ 9223372036854775807) (bl : -9223372036854775808 ≤ l ∧ l ≤ 9223372036854775807) (w : World) : Calls Try.prog 45 #[.agg ([Value.int .i64 2, Value.int .i64 t, Value.int .i64 f, Value.int .i64 l, Value.slice A m c]).toArray] w fun e w' => e = .returned (.int .i64 (codeV 2 t f l m)) ∧ St w [] w' := by
  refine calls_from (args := [.agg ([Value.int .i64 2, Value.int .i64 t, Value.int .i64 f, Value.int .i64 l, Value.slice A m c]).toArray]) Try.func45 rfl Try.ntmps45 (by simp) ?_
  refine TC.sub (Sub.cons (i := 0) rfl (Sub.nil)) ?_
  refine TC.seq ?_
  refine TC.regionL ?_
  refine TL.box (Wants.none rfl) rfl rfl rfl (cs := [Value.int .i64 2, Value.int .i64 t, Value.int .i64 f, Value.int .i64 l, Value.slice A m c]) (by simp [Value.cells]) (tot := 5) (by simp []) (fun g1 hg1 => ?_)
  refine TL.gets (Wants.none rfl) rfl (Gets.assign rfl rfl) ?_
  refine TL.nil ?_
  refine TE.then ?_
  refine TC.seq ?_
  refine TC.regionL ?_
  refine TL.gets (Wants.none rfl) rfl (Gets.loadN rfl agg40 size40 rfl (vs := [Value.int .i64 2, Value.int .i64 t, Value.int .i64 f, Value.int .i64 l, Value.slice A m c]) (by simp []) (Row.all (i := 0) (ent := ⟨g1, 40, [Value.int .i64 2, Value.int .i64 t, Value.int .i64 f, Value.int .i64 l, Value.slice A m c], 5⟩) rfl rfl rfl)) ?_
  refine TL.call0 (Wants.none rfl) rfl enters53 rfl rfl (v := .agg ([Value.int .i64 t, Value.int .i64 (m : Int), Value.int .i64 2, Value.int .i64 0, Value.int .i64 0, Value.bool (decide (¬ (f = 0 ∧ l = 0)))]).toArray) (fun w hs => describe2 t f l A m c w) ?_
  refine TL.alloc (Wants.none rfl) rfl rfl zero80 (cs := [Value.int .i64 0, Value.int .i64 0, Value.int .i64 0, Value.int .i64 0, Value.int .i64 0, Value.bool false]) rfl (tot := 6) (by simp) (fun g2 hg2 => ?_)
  refine TL.storeW (Wants.none rfl) rfl rfl size80 rfl (vs := [Value.int .i64 t, Value.int .i64 (m : Int), Value.int .i64 2, Value.int .i64 0, Value.int .i64 0, Value.bool (decide (¬ (f = 0 ∧ l = 0)))]) rfl (by simp []) (by simp [Value.oneCell']) (i := 0) (ent := ⟨g2, 80, [Value.int .i64 0, Value.int .i64 0, Value.int .i64 0, Value.int .i64 0, Value.int .i64 0, Value.bool false], 6⟩) rfl rfl (by simp []) (H' := [⟨g2, 80, [Value.int .i64 t, Value.int .i64 (m : Int), Value.int .i64 2, Value.int .i64 0, Value.int .i64 0, Value.bool (decide (¬ (f = 0 ∧ l = 0)))], 6⟩, ⟨g1, 40, [Value.int .i64 2, Value.int .i64 t, Value.int .i64 f, Value.int .i64 l, Value.slice A m c], 5⟩]) rfl ?_
  refine TL.nil ?_
  refine TE.then ?_
  refine TC.seq ?_
  refine TC.block ?_
  refine TC.seq ?_
  refine TC.regionL ?_
  refine TL.gets (Wants.none rfl) rfl (Gets.fieldAddr rfl Try.underlying80 rfl size78 rfl (off' := 2) (by first | rfl | omega)) ?_
  refine TL.gets (Wants.none rfl) rfl (Gets.load1 rfl agg78 rfl (At.ent (i := 0) (ent := ⟨g2, 80, [Value.int .i64 t, Value.int .i64 (m : Int), Value.int .i64 2, Value.int .i64 0, Value.int .i64 0, Value.bool (decide (¬ (f = 0 ∧ l = 0)))], 6⟩) (off := 2) rfl rfl (by exact rfl))) ?_
  refine TL.gets (Wants.none rfl) rfl (Gets.isFalse (Gets.eql rfl rfl rfl) (by decide)) ?_
  refine TL.gets (Wants.none rfl) rfl (Gets.assign rfl rfl) ?_
  refine TL.nil ?_
  refine TE.then ?_
  refine TC.sub (Sub.cons (i := 2) rfl (Sub.cons (i := 3) rfl (Sub.cons (i := 6) rfl (Sub.nil)))) ?_
  refine TC.no rfl ?_
  refine TC.seq ?_
  refine TC.regionL ?_
  refine TL.gets (Wants.none rfl) rfl (Gets.fieldAddr rfl Try.underlying80 rfl size77 rfl (off' := 0) (by first | rfl | omega)) ?_
  refine TL.gets (Wants.none rfl) rfl (Gets.fieldAddr rfl Try.underlying77 rfl size3 rfl (off' := 1) (by first | rfl | omega)) ?_
  refine TL.gets (Wants.none rfl) rfl (Gets.load1 rfl agg3 rfl (At.ent (i := 0) (ent := ⟨g2, 80, [Value.int .i64 t, Value.int .i64 (m : Int), Value.int .i64 2, Value.int .i64 0, Value.int .i64 0, Value.bool (decide (¬ (f = 0 ∧ l = 0)))], 6⟩) (off := 1) rfl rfl (by exact rfl))) ?_
  refine TL.gets (Wants.none rfl) rfl (Gets.eql rfl rfl rfl) ?_
  refine TL.gets (Wants.none rfl) rfl (Gets.assign rfl rfl) ?_
  refine TL.nil ?_
  refine TE.then ?_
  refine TC.split rfl (fun cl => ?_) (fun cl => ?_)
  · refine TC.seq ?_
    refine TC.regionL ?_
    refine TL.gets (Wants.none rfl) rfl (Gets.assign rfl rfl) ?_
    refine TL.nil ?_
    refine TE.then ?_
    refine TC.ret ?_
    refine TE.blockR ?_
    refine TE.thenR ?_
    exact TE.ret1 rfl rfl (fun w hs => ⟨ret_i (by unfold codeV; (repeat' split) <;> first | rfl | (exfalso; (try unfold vld at *); omega)), ((hs.drop (by assumption)).drop (by assumption))⟩)
  · refine TC.seq ?_
    refine TC.regionL ?_
    refine TL.gets (Wants.none rfl) rfl (Gets.fieldAddr rfl Try.underlying80 rfl size4 rfl (off' := 5) (by first | rfl | omega)) ?_
    by_cases cm : ¬ (f = 0 ∧ l = 0)
    · refine TL.gets (Wants.none rfl) rfl (Gets.isTrue (Gets.load1 rfl agg4 rfl (At.ent (i := 0) (ent := ⟨g2, 80, [Value.int .i64 t, Value.int .i64 (m : Int), Value.int .i64 2, Value.int .i64 0, Value.int .i64 0, Value.bool (decide (¬ (f = 0 ∧ l = 0)))], 6⟩) (off := 5) rfl rfl (by exact rfl))) cm) ?_
      refine TL.gets (Wants.none rfl) rfl (Gets.move rfl rfl) ?_
      refine TL.pass rfl rfl rfl rfl rfl ?_
      refine TL.pass rfl rfl rfl rfl rfl ?_
      refine TL.pass rfl rfl rfl rfl rfl ?_
      refine TL.pass rfl rfl rfl rfl rfl ?_
      refine TL.gets (Wants.none rfl) rfl (Gets.pickT rfl rfl rfl) ?_
      refine TL.gets (Wants.none rfl) rfl (Gets.move rfl rfl) ?_
      refine TL.pass rfl rfl rfl rfl rfl ?_
      refine TL.pass rfl rfl rfl rfl rfl ?_
      refine TL.pass rfl rfl rfl rfl rfl ?_
      refine TL.pass rfl rfl rfl rfl rfl ?_
      refine TL.gets (Wants.none rfl) rfl (Gets.pickT rfl rfl rfl) ?_
      refine TL.gets (Wants.none rfl) rfl (Gets.assign rfl rfl) ?_
      refine TL.nil ?_
      refine TE.then ?_
      refine TC.sub (Sub.cons (i := 2) rfl (Sub.cons (i := 15) rfl (Sub.nil))) ?_
      refine TC.yes rfl ?_
      refine TC.seq ?_
      refine TC.regionL ?_
      refine TL.gets (Wants.none rfl) rfl (Gets.assign rfl rfl) ?_
      refine TL.nil ?_
      refine TE.then ?_
      refine TC.ret ?_
      refine TE.blockR ?_
      refine TE.thenR ?_
      exact TE.ret1 rfl rfl (fun w hs => ⟨ret_i (by unfold codeV; (repeat' split) <;> first | rfl | (exfalso; (try unfold vld at *); omega)), ((hs.drop (by assumption)).drop (by assumption))⟩)
    · refine TL.gets (Wants.none rfl) rfl (Gets.isFalse (Gets.load1 rfl agg4 rfl (At.ent (i := 0) (ent := ⟨g2, 80, [Value.int .i64 t, Value.int .i64 (m : Int), Value.int .i64 2, Value.int .i64 0, Value.int .i64 0, Value.bool (decide (¬ (f = 0 ∧ l = 0)))], 6⟩) (off := 5) rfl rfl (by exact rfl))) cm) ?_
      refine TL.gets (Wants.none rfl) rfl (Gets.move rfl rfl) ?_
      refine TL.gets (Wants.yes rfl rfl rfl) rfl (Gets.fieldAddr rfl Try.underlying80 rfl size77 rfl (off' := 0) (by first | rfl | omega)) ?_
      refine TL.gets (Wants.yes rfl rfl rfl) rfl (Gets.loadN rfl agg77 size77 rfl (vs := [Value.int .i64 t, Value.int .i64 (m : Int)]) rfl (Row.part (i := 0) (ent := ⟨g2, 80, [Value.int .i64 t, Value.int .i64 (m : Int), Value.int .i64 2, Value.int .i64 0, Value.int .i64 0, Value.bool (decide (¬ (f = 0 ∧ l = 0)))], 6⟩) rfl rfl rfl)) ?_
      by_cases ct : vld t (m : Int)
      · refine TL.call0 (Wants.yes rfl rfl rfl) rfl enters63 rfl rfl (v := .bool true) (fun w hs => (tvalid_c t (m : Int) (by omega) (by omega) w).mono fun e w' h => by rw [decide_eq_true (p := vld t (m : Int)) ct] at h; exact h) ?_
        refine TL.gets (Wants.yes rfl rfl rfl) rfl (Gets.not rfl rfl) ?_
        refine TL.gets (Wants.none rfl) rfl (Gets.pickF rfl rfl rfl) ?_
        refine TL.gets (Wants.none rfl) rfl (Gets.move rfl rfl) ?_
        refine TL.gets (Wants.yes rfl rfl rfl) rfl (Gets.fieldAddr rfl Try.underlying80 rfl size49 rfl (off' := 3) (by first | rfl | omega)) ?_
        refine TL.gets (Wants.yes rfl rfl rfl) rfl (Gets.loadN rfl agg49 size49 rfl (vs := [Value.int .i64 0, Value.int .i64 0]) rfl (Row.part (i := 0) (ent := ⟨g2, 80, [Value.int .i64 t, Value.int .i64 (m : Int), Value.int .i64 2, Value.int .i64 0, Value.int .i64 0, Value.bool (decide (¬ (f = 0 ∧ l = 0)))], 6⟩) rfl rfl rfl)) ?_
        by_cases cf : vld 0 0
        · refine TL.call0 (Wants.yes rfl rfl rfl) rfl enters30 rfl rfl (v := .bool true) (fun w hs => (valid_c 0 0 (by omega) (by omega) w).mono fun e w' h => by rw [decide_eq_true (p := vld 0 0) cf] at h; exact h) ?_
          refine TL.gets (Wants.yes rfl rfl rfl) rfl (Gets.not rfl rfl) ?_
          refine TL.gets (Wants.none rfl) rfl (Gets.pickF rfl rfl rfl) ?_
          refine TL.gets (Wants.none rfl) rfl (Gets.assign rfl rfl) ?_
          refine TL.nil ?_
          refine TE.then ?_
          refine TC.sub (Sub.cons (i := 2) rfl (Sub.cons (i := 15) rfl (Sub.nil))) ?_
          refine TC.no rfl ?_
          refine TC.skip ?_
          refine TE.blockN ?_
          refine TE.then ?_
          refine TC.seq ?_
          refine TC.regionL ?_
          refine TL.gets (Wants.none rfl) rfl (Gets.assign rfl rfl) ?_
          refine TL.nil ?_
          refine TE.then ?_
          refine TC.ret ?_
          exact TE.ret1 rfl rfl (fun w hs => ⟨ret_i (by unfold codeV; (repeat' split) <;> first | rfl | (exfalso; (try unfold vld at *); omega)), ((hs.drop (by assumption)).drop (by assumption))⟩)
        · refine TL.call0 (Wants.yes rfl rfl rfl) rfl enters30 rfl rfl (v := .bool false) (fun w hs => (valid_c 0 0 (by omega) (by omega) w).mono fun e w' h => by rw [decide_eq_false (p := vld 0 0) cf] at h; exact h) ?_
          refine TL.gets (Wants.yes rfl rfl rfl) rfl (Gets.not rfl rfl) ?_
          refine TL.gets (Wants.none rfl) rfl (Gets.pickF rfl rfl rfl) ?_
          refine TL.gets (Wants.none rfl) rfl (Gets.assign rfl rfl) ?_
          refine TL.nil ?_
          refine TE.then ?_
          refine TC.sub (Sub.cons (i := 2) rfl (Sub.cons (i := 15) rfl (Sub.nil))) ?_
          refine TC.yes rfl ?_
          refine TC.seq ?_
          refine TC.regionL ?_
          refine TL.gets (Wants.none rfl) rfl (Gets.assign rfl rfl) ?_
          refine TL.nil ?_
          refine TE.then ?_
          refine TC.ret ?_
          refine TE.blockR ?_
          refine TE.thenR ?_
          exact TE.ret1 rfl rfl (fun w hs => ⟨ret_i (by unfold codeV; (repeat' split) <;> first | rfl | (exfalso; (try unfold vld at *); omega)), ((hs.drop (by assumption)).drop (by assumption))⟩)
      · refine TL.call0 (Wants.yes rfl rfl rfl) rfl enters63 rfl rfl (v := .bool false) (fun w hs => (tvalid_c t (m : Int) (by omega) (by omega) w).mono fun e w' h => by rw [decide_eq_false (p := vld t (m : Int)) ct] at h; exact h) ?_
        refine TL.gets (Wants.yes rfl rfl rfl) rfl (Gets.not rfl rfl) ?_
        refine TL.gets (Wants.none rfl) rfl (Gets.pickF rfl rfl rfl) ?_
        refine TL.gets (Wants.none rfl) rfl (Gets.move rfl rfl) ?_
        refine TL.pass rfl rfl rfl rfl rfl ?_
        refine TL.pass rfl rfl rfl rfl rfl ?_
        refine TL.pass rfl rfl rfl rfl rfl ?_
        refine TL.pass rfl rfl rfl rfl rfl ?_
        refine TL.gets (Wants.none rfl) rfl (Gets.pickT rfl rfl rfl) ?_
        refine TL.gets (Wants.none rfl) rfl (Gets.assign rfl rfl) ?_
        refine TL.nil ?_
        refine TE.then ?_
        refine TC.sub (Sub.cons (i := 2) rfl (Sub.cons (i := 15) rfl (Sub.nil))) ?_
        refine TC.yes rfl ?_
        refine TC.seq ?_
        refine TC.regionL ?_
        refine TL.gets (Wants.none rfl) rfl (Gets.assign rfl rfl) ?_
        refine TL.nil ?_
        refine TE.then ?_
        refine TC.ret ?_
        refine TE.blockR ?_
        refine TE.thenR ?_
        exact TE.ret1 rfl rfl (fun w hs => ⟨ret_i (by unfold codeV; (repeat' split) <;> first | rfl | (exfalso; (try unfold vld at *); omega)), ((hs.drop (by assumption)).drop (by assumption))⟩)

set_option maxRecDepth 100000 in
set_option maxHeartbeats 400000 in
theorem check0 (k t f l : Int) (A : Option Addr) (m c : Nat) (h1 : ¬ k = 1) (h2 : ¬ k = 2) (w : World) : Calls Try.prog 45 #[.agg ([Value.int .i64 k, Value.int .i64 t, Value.int .i64 f, Value.int .i64 l, Value.slice A m c]).toArray] w fun e w' => e = .returned (.int .i64 (codeV k t f l m)) ∧ St w [] w' := by
  refine calls_from (args := [.agg ([Value.int .i64 k, Value.int .i64 t, Value.int .i64 f, Value.int .i64 l, Value.slice A m c]).toArray]) Try.func45 rfl Try.ntmps45 (by simp) ?_
  refine TC.sub (Sub.cons (i := 0) rfl (Sub.nil)) ?_
  refine TC.seq ?_
  refine TC.regionL ?_
  refine TL.box (Wants.none rfl) rfl rfl rfl (cs := [Value.int .i64 k, Value.int .i64 t, Value.int .i64 f, Value.int .i64 l, Value.slice A m c]) (by simp [Value.cells]) (tot := 5) (by simp []) (fun g1 hg1 => ?_)
  refine TL.gets (Wants.none rfl) rfl (Gets.assign rfl rfl) ?_
  refine TL.nil ?_
  refine TE.then ?_
  refine TC.seq ?_
  refine TC.regionL ?_
  refine TL.gets (Wants.none rfl) rfl (Gets.loadN rfl agg40 size40 rfl (vs := [Value.int .i64 k, Value.int .i64 t, Value.int .i64 f, Value.int .i64 l, Value.slice A m c]) (by simp []) (Row.all (i := 0) (ent := ⟨g1, 40, [Value.int .i64 k, Value.int .i64 t, Value.int .i64 f, Value.int .i64 l, Value.slice A m c], 5⟩) rfl rfl rfl)) ?_
  refine TL.call0 (Wants.none rfl) rfl enters53 rfl rfl (v := .agg ([Value.int .i64 0, Value.int .i64 0, Value.int .i64 0, Value.int .i64 0, Value.int .i64 0, Value.bool false]).toArray) (fun w hs => describe0 k t f l A m c h1 h2 w) ?_
  refine TL.alloc (Wants.none rfl) rfl rfl zero80 (cs := [Value.int .i64 0, Value.int .i64 0, Value.int .i64 0, Value.int .i64 0, Value.int .i64 0, Value.bool false]) rfl (tot := 6) (by simp) (fun g2 hg2 => ?_)
  refine TL.storeW (Wants.none rfl) rfl rfl size80 rfl (vs := [Value.int .i64 0, Value.int .i64 0, Value.int .i64 0, Value.int .i64 0, Value.int .i64 0, Value.bool false]) rfl (by simp []) (by simp [Value.oneCell']) (i := 0) (ent := ⟨g2, 80, [Value.int .i64 0, Value.int .i64 0, Value.int .i64 0, Value.int .i64 0, Value.int .i64 0, Value.bool false], 6⟩) rfl rfl (by simp []) (H' := [⟨g2, 80, [Value.int .i64 0, Value.int .i64 0, Value.int .i64 0, Value.int .i64 0, Value.int .i64 0, Value.bool false], 6⟩, ⟨g1, 40, [Value.int .i64 k, Value.int .i64 t, Value.int .i64 f, Value.int .i64 l, Value.slice A m c], 5⟩]) rfl ?_
  refine TL.nil ?_
  refine TE.then ?_
  refine TC.seq ?_
  refine TC.block ?_
  refine TC.seq ?_
  refine TC.regionL ?_
  refine TL.gets (Wants.none rfl) rfl (Gets.fieldAddr rfl Try.underlying80 rfl size78 rfl (off' := 2) (by first | rfl | omega)) ?_
  refine TL.gets (Wants.none rfl) rfl (Gets.load1 rfl agg78 rfl (At.ent (i := 0) (ent := ⟨g2, 80, [Value.int .i64 0, Value.int .i64 0, Value.int .i64 0, Value.int .i64 0, Value.int .i64 0, Value.bool false], 6⟩) (off := 2) rfl rfl (by exact rfl))) ?_
  refine TL.gets (Wants.none rfl) rfl (Gets.isTrue (Gets.eql rfl rfl rfl) rfl) ?_
  refine TL.gets (Wants.none rfl) rfl (Gets.assign rfl rfl) ?_
  refine TL.nil ?_
  refine TE.then ?_
  refine TC.sub (Sub.cons (i := 2) rfl (Sub.cons (i := 3) rfl (Sub.cons (i := 6) rfl (Sub.nil)))) ?_
  refine TC.yes rfl ?_
  refine TC.seq ?_
  refine TC.regionL ?_
  refine TL.gets (Wants.none rfl) rfl (Gets.assign rfl rfl) ?_
  refine TL.nil ?_
  refine TE.then ?_
  refine TC.ret ?_
  refine TE.blockR ?_
  refine TE.thenR ?_
  exact TE.ret1 rfl rfl (fun w hs => ⟨ret_i (by unfold codeV; (repeat' split) <;> first | rfl | (exfalso; (try unfold vld at *); omega)), ((hs.drop (by assumption)).drop (by assumption))⟩)
end Go.Proofs.Ytkgamkjdkapchaa
namespace Go.Proofs.Ytkgamkjdkapchaa
set_option linter.unusedVariables false
set_option linter.unusedSimpArgs false
open Go Go.RowKit
theorem enters42 : Enters Try.prog 42 := ⟨_, Try.func42, by kernel_rfl, by kernel_rfl⟩

theorem ifmax (p q : Int) : (if p < q then q else p) = max p q := by omega
theorem ifmin (p q : Int) : (if q < p then q else p) = min p q := by omega
def inside_ (o l p n : Int) : Prop := o ≤ p ∧ p + n ≤ o + l
instance (o l p n : Int) : Decidable (inside_ o l p n) := by unfold inside_; infer_instance
def meets (o l p n : Int) : Prop := max o p < min (o + l) (p + n)
instance (o l p n : Int) : Decidable (meets o l p n) := by unfold meets; infer_instance

set_option maxRecDepth 100000 in
set_option maxHeartbeats 400000 in
theorem target1 (t f l : Int) (A : Option Addr) (m c : Nat) (w : World) : Calls Try.prog 34 #[.agg ([Value.int .i64 1, Value.int .i64 t, Value.int .i64 f, Value.int .i64 l, Value.slice A m c]).toArray] w fun e w' => e = .returned (.agg ([Value.int .i64 t, Value.int .i64 l]).toArray) ∧ St w [] w' := by
  refine calls_from (args := [.agg ([Value.int .i64 1, Value.int .i64 t, Value.int .i64 f, Value.int .i64 l, Value.slice A m c]).toArray]) Try.func34 rfl Try.ntmps34 (by simp) ?_
  refine TC.sub (Sub.cons (i := 0) rfl (Sub.nil)) ?_
  refine TC.seq ?_
  refine TC.regionL ?_
  refine TL.box (Wants.none rfl) rfl rfl rfl (cs := [Value.int .i64 1, Value.int .i64 t, Value.int .i64 f, Value.int .i64 l, Value.slice A m c]) (by simp [Value.cells]) (tot := 5) (by simp []) (fun g1 hg1 => ?_)
  refine TL.alloc (Wants.none rfl) rfl rfl zero49 (cs := [Value.int .i64 0, Value.int .i64 0]) rfl (tot := 2) (by simp) (fun g2 hg2 => ?_)
  refine TL.nil ?_
  refine TE.then ?_
  refine TC.seq ?_
  refine TC.regionL ?_
  refine TL.gets (Wants.none rfl) rfl (Gets.loadN rfl agg40 size40 rfl (vs := [Value.int .i64 1, Value.int .i64 t, Value.int .i64 f, Value.int .i64 l, Value.slice A m c]) (by simp []) (Row.all (i := 1) (ent := ⟨g1, 40, [Value.int .i64 1, Value.int .i64 t, Value.int .i64 f, Value.int .i64 l, Value.slice A m c], 5⟩) rfl rfl rfl)) ?_
  refine TL.call0 (Wants.none rfl) rfl enters53 rfl rfl (v := .agg ([Value.int .i64 t, Value.int .i64 l, Value.int .i64 1, Value.int .i64 f, Value.int .i64 l, Value.bool (decide ((0 : Int) < (m : Int)))]).toArray) (fun w hs => describe1 t f l A m c w) ?_
  refine TL.gets (Wants.none rfl) rfl (Gets.fieldN rfl Try.underlying80 rfl rfl agg77 size77 (vs := [Value.int .i64 t, Value.int .i64 l]) rfl) ?_
  refine TL.call0 (Wants.none rfl) rfl enters54 rfl rfl (v := .agg ([Value.int .i64 t, Value.int .i64 l]).toArray) (fun w hs => bytes_c t l w) ?_
  refine TL.storeW (Wants.none rfl) rfl rfl size49 rfl (vs := [Value.int .i64 t, Value.int .i64 l]) rfl (by simp []) (by simp [Value.oneCell']) (i := 0) (ent := ⟨g2, 49, [Value.int .i64 0, Value.int .i64 0], 2⟩) rfl rfl (by simp []) (H' := [⟨g2, 49, [Value.int .i64 t, Value.int .i64 l], 2⟩, ⟨g1, 40, [Value.int .i64 1, Value.int .i64 t, Value.int .i64 f, Value.int .i64 l, Value.slice A m c], 5⟩]) rfl ?_
  refine TL.nil ?_
  refine TE.then ?_
  refine TC.ret ?_
  exact TE.retC rfl agg49 size49 rfl (vs := [Value.int .i64 t, Value.int .i64 l]) rfl (Row.all (i := 0) (ent := ⟨g2, 49, [Value.int .i64 t, Value.int .i64 l], 2⟩) rfl rfl rfl) (fun w hs => ⟨rfl, ((hs.drop (by assumption)).drop (by assumption))⟩)

set_option maxRecDepth 100000 in
set_option maxHeartbeats 400000 in
theorem source1 (t f l : Int) (A : Option Addr) (m c : Nat) (w : World) : Calls Try.prog 46 #[.agg ([Value.int .i64 1, Value.int .i64 t, Value.int .i64 f, Value.int .i64 l, Value.slice A m c]).toArray] w fun e w' => e = .returned (.tuple #[.agg ([Value.int .i64 f, Value.int .i64 l]).toArray, .bool true]) ∧ St w [] w' := by
  refine calls_from (args := [.agg ([Value.int .i64 1, Value.int .i64 t, Value.int .i64 f, Value.int .i64 l, Value.slice A m c]).toArray]) Try.func46 rfl Try.ntmps46 (by simp) ?_
  refine TC.sub (Sub.cons (i := 0) rfl (Sub.nil)) ?_
  refine TC.seq ?_
  refine TC.regionL ?_
  refine TL.box (Wants.none rfl) rfl rfl rfl (cs := [Value.int .i64 1, Value.int .i64 t, Value.int .i64 f, Value.int .i64 l, Value.slice A m c]) (by simp [Value.cells]) (tot := 5) (by simp []) (fun g1 hg1 => ?_)
  refine TL.alloc (Wants.none rfl) rfl rfl zero49 (cs := [Value.int .i64 0, Value.int .i64 0]) rfl (tot := 2) (by simp) (fun g2 hg2 => ?_)
  refine TL.gets (Wants.none rfl) rfl (Gets.assign rfl rfl) ?_
  refine TL.nil ?_
  refine TE.then ?_
  refine TC.seq ?_
  refine TC.regionL ?_
  refine TL.gets (Wants.none rfl) rfl (Gets.loadN rfl agg40 size40 rfl (vs := [Value.int .i64 1, Value.int .i64 t, Value.int .i64 f, Value.int .i64 l, Value.slice A m c]) (by simp []) (Row.all (i := 1) (ent := ⟨g1, 40, [Value.int .i64 1, Value.int .i64 t, Value.int .i64 f, Value.int .i64 l, Value.slice A m c], 5⟩) rfl rfl rfl)) ?_
  refine TL.call0 (Wants.none rfl) rfl enters53 rfl rfl (v := .agg ([Value.int .i64 t, Value.int .i64 l, Value.int .i64 1, Value.int .i64 f, Value.int .i64 l, Value.bool (decide ((0 : Int) < (m : Int)))]).toArray) (fun w hs => describe1 t f l A m c w) ?_
  refine TL.alloc (Wants.none rfl) rfl rfl zero80 (cs := [Value.int .i64 0, Value.int .i64 0, Value.int .i64 0, Value.int .i64 0, Value.int .i64 0, Value.bool false]) rfl (tot := 6) (by simp) (fun g3 hg3 => ?_)
  refine TL.storeW (Wants.none rfl) rfl rfl size80 rfl (vs := [Value.int .i64 t, Value.int .i64 l, Value.int .i64 1, Value.int .i64 f, Value.int .i64 l, Value.bool (decide ((0 : Int) < (m : Int)))]) rfl (by simp []) (by simp [Value.oneCell']) (i := 0) (ent := ⟨g3, 80, [Value.int .i64 0, Value.int .i64 0, Value.int .i64 0, Value.int .i64 0, Value.int .i64 0, Value.bool false], 6⟩) rfl rfl (by simp []) (H' := [⟨g3, 80, [Value.int .i64 t, Value.int .i64 l, Value.int .i64 1, Value.int .i64 f, Value.int .i64 l, Value.bool (decide ((0 : Int) < (m : Int)))], 6⟩, ⟨g2, 49, [Value.int .i64 0, Value.int .i64 0], 2⟩, ⟨g1, 40, [Value.int .i64 1, Value.int .i64 t, Value.int .i64 f, Value.int .i64 l, Value.slice A m c], 5⟩]) rfl ?_
  refine TL.nil ?_
  refine TE.then ?_
  refine TC.seq ?_
  refine TC.mixS [⟨g3, 80, [Value.int .i64 t, Value.int .i64 l, Value.int .i64 1, Value.int .i64 f, Value.int .i64 l, Value.bool (decide ((0 : Int) < (m : Int)))], 6⟩, ⟨g1, 40, [Value.int .i64 1, Value.int .i64 t, Value.int .i64 f, Value.int .i64 l, Value.slice A m c], 5⟩] [⟨g2, 49, [Value.int .i64 0, Value.int .i64 0], 2⟩] (by kernel_rfl) [0, 1, 0, 1, 0, 4, 0] [0, 1, 2, 3, 4, 5, 6] [fun _ _ => True, fun _ _ => True, fun _ _ => True, fun _ _ => True, fun _ _ => True, fun _ _ => True, fun _ _ => True] (by kernel_rfl) (by kernel_rfl) (perm_pick (p := [0, 2, 1]) (by kernel_rfl) rfl) (Fresh.cons (by assumption) Fresh.nil) ?_
  refine TR.free (Wants.none rfl) rfl (fun _ => Gets.fieldAddr rfl Try.underlying80 rfl size49 rfl (off' := 3) (by first | rfl | omega)) ?_
  refine TR.gets (Wants.none rfl) rfl (fun Z hZ => Gets.loadN rfl agg49 size49 rfl (vs := [Value.int .i64 f, Value.int .i64 l]) rfl (Row.part (i := 0) (ent := ⟨g3, 80, [Value.int .i64 t, Value.int .i64 l, Value.int .i64 1, Value.int .i64 f, Value.int .i64 l, Value.bool (decide ((0 : Int) < (m : Int)))], 6⟩) rfl rfl rfl)) ?_
  refine TR.free (Wants.none rfl) rfl (fun _ => Gets.fieldAddr rfl Try.underlying80 rfl size78 rfl (off' := 2) (by first | rfl | omega)) ?_
  refine TR.gets (Wants.none rfl) rfl (fun Z hZ => Gets.load1 rfl agg78 rfl (At.ent (i := 0) (ent := ⟨g3, 80, [Value.int .i64 t, Value.int .i64 l, Value.int .i64 1, Value.int .i64 f, Value.int .i64 l, Value.bool (decide ((0 : Int) < (m : Int)))], 6⟩) (off := 2) rfl rfl (by exact rfl))) ?_
  refine TR.free (Wants.none rfl) rfl (fun _ => Gets.isTrue (Gets.eql rfl rfl rfl) rfl) ?_
  refine TR.storeW (Wants.none rfl) rfl rfl size49 rfl (vs := [Value.int .i64 f, Value.int .i64 l]) rfl rfl (by simp [Value.oneCell']) (i := 0) (ent := ⟨g2, 49, [Value.int .i64 0, Value.int .i64 0], 2⟩) rfl rfl rfl (D' := [⟨g2, 49, [Value.int .i64 f, Value.int .i64 l], 2⟩]) rfl (Fresh.cons (by assumption) Fresh.nil) ?_
  refine TR.free (Wants.none rfl) rfl (fun _ => Gets.assign rfl rfl) ?_
  refine TR.nil ?_
  refine TE.then ?_
  refine TC.ret ?_
  exact TE.ret2C rfl agg49 size49 rfl rfl (vs := [Value.int .i64 f, Value.int .i64 l]) rfl (Row.all (i := 2) (ent := ⟨g2, 49, [Value.int .i64 f, Value.int .i64 l], 2⟩) rfl rfl rfl) (fun w hs => ⟨rfl, (((hs.drop (by assumption)).drop (by assumption)).drop (by assumption))⟩)

set_option maxRecDepth 100000 in
set_option maxHeartbeats 400000 in
theorem target2 (t f l : Int) (A : Option Addr) (m c : Nat) (w : World) : Calls Try.prog 34 #[.agg ([Value.int .i64 2, Value.int .i64 t, Value.int .i64 f, Value.int .i64 l, Value.slice A m c]).toArray] w fun e w' => e = .returned (.agg ([Value.int .i64 t, Value.int .i64 (m : Int)]).toArray) ∧ St w [] w' := by
  refine calls_from (args := [.agg ([Value.int .i64 2, Value.int .i64 t, Value.int .i64 f, Value.int .i64 l, Value.slice A m c]).toArray]) Try.func34 rfl Try.ntmps34 (by simp) ?_
  refine TC.sub (Sub.cons (i := 0) rfl (Sub.nil)) ?_
  refine TC.seq ?_
  refine TC.regionL ?_
  refine TL.box (Wants.none rfl) rfl rfl rfl (cs := [Value.int .i64 2, Value.int .i64 t, Value.int .i64 f, Value.int .i64 l, Value.slice A m c]) (by simp [Value.cells]) (tot := 5) (by simp []) (fun g1 hg1 => ?_)
  refine TL.alloc (Wants.none rfl) rfl rfl zero49 (cs := [Value.int .i64 0, Value.int .i64 0]) rfl (tot := 2) (by simp) (fun g2 hg2 => ?_)
  refine TL.nil ?_
  refine TE.then ?_
  refine TC.seq ?_
  refine TC.regionL ?_
  refine TL.gets (Wants.none rfl) rfl (Gets.loadN rfl agg40 size40 rfl (vs := [Value.int .i64 2, Value.int .i64 t, Value.int .i64 f, Value.int .i64 l, Value.slice A m c]) (by simp []) (Row.all (i := 1) (ent := ⟨g1, 40, [Value.int .i64 2, Value.int .i64 t, Value.int .i64 f, Value.int .i64 l, Value.slice A m c], 5⟩) rfl rfl rfl)) ?_
  refine TL.call0 (Wants.none rfl) rfl enters53 rfl rfl (v := .agg ([Value.int .i64 t, Value.int .i64 (m : Int), Value.int .i64 2, Value.int .i64 0, Value.int .i64 0, Value.bool (decide (¬ (f = 0 ∧ l = 0)))]).toArray) (fun w hs => describe2 t f l A m c w) ?_
  refine TL.gets (Wants.none rfl) rfl (Gets.fieldN rfl Try.underlying80 rfl rfl agg77 size77 (vs := [Value.int .i64 t, Value.int .i64 (m : Int)]) rfl) ?_
  refine TL.call0 (Wants.none rfl) rfl enters54 rfl rfl (v := .agg ([Value.int .i64 t, Value.int .i64 (m : Int)]).toArray) (fun w hs => bytes_c t (m : Int) w) ?_
  refine TL.storeW (Wants.none rfl) rfl rfl size49 rfl (vs := [Value.int .i64 t, Value.int .i64 (m : Int)]) rfl (by simp []) (by simp [Value.oneCell']) (i := 0) (ent := ⟨g2, 49, [Value.int .i64 0, Value.int .i64 0], 2⟩) rfl rfl (by simp []) (H' := [⟨g2, 49, [Value.int .i64 t, Value.int .i64 (m : Int)], 2⟩, ⟨g1, 40, [Value.int .i64 2, Value.int .i64 t, Value.int .i64 f, Value.int .i64 l, Value.slice A m c], 5⟩]) rfl ?_
  refine TL.nil ?_
  refine TE.then ?_
  refine TC.ret ?_
  exact TE.retC rfl agg49 size49 rfl (vs := [Value.int .i64 t, Value.int .i64 (m : Int)]) rfl (Row.all (i := 0) (ent := ⟨g2, 49, [Value.int .i64 t, Value.int .i64 (m : Int)], 2⟩) rfl rfl rfl) (fun w hs => ⟨rfl, ((hs.drop (by assumption)).drop (by assumption))⟩)

set_option maxRecDepth 100000 in
set_option maxHeartbeats 400000 in
theorem source2 (t f l : Int) (A : Option Addr) (m c : Nat) (w : World) : Calls Try.prog 46 #[.agg ([Value.int .i64 2, Value.int .i64 t, Value.int .i64 f, Value.int .i64 l, Value.slice A m c]).toArray] w fun e w' => e = .returned (.tuple #[.agg ([Value.int .i64 0, Value.int .i64 0]).toArray, .bool false]) ∧ St w [] w' := by
  refine calls_from (args := [.agg ([Value.int .i64 2, Value.int .i64 t, Value.int .i64 f, Value.int .i64 l, Value.slice A m c]).toArray]) Try.func46 rfl Try.ntmps46 (by simp) ?_
  refine TC.sub (Sub.cons (i := 0) rfl (Sub.nil)) ?_
  refine TC.seq ?_
  refine TC.regionL ?_
  refine TL.box (Wants.none rfl) rfl rfl rfl (cs := [Value.int .i64 2, Value.int .i64 t, Value.int .i64 f, Value.int .i64 l, Value.slice A m c]) (by simp [Value.cells]) (tot := 5) (by simp []) (fun g1 hg1 => ?_)
  refine TL.alloc (Wants.none rfl) rfl rfl zero49 (cs := [Value.int .i64 0, Value.int .i64 0]) rfl (tot := 2) (by simp) (fun g2 hg2 => ?_)
  refine TL.gets (Wants.none rfl) rfl (Gets.assign rfl rfl) ?_
  refine TL.nil ?_
  refine TE.then ?_
  refine TC.seq ?_
  refine TC.regionL ?_
  refine TL.gets (Wants.none rfl) rfl (Gets.loadN rfl agg40 size40 rfl (vs := [Value.int .i64 2, Value.int .i64 t, Value.int .i64 f, Value.int .i64 l, Value.slice A m c]) (by simp []) (Row.all (i := 1) (ent := ⟨g1, 40, [Value.int .i64 2, Value.int .i64 t, Value.int .i64 f, Value.int .i64 l, Value.slice A m c], 5⟩) rfl rfl rfl)) ?_
  refine TL.call0 (Wants.none rfl) rfl enters53 rfl rfl (v := .agg ([Value.int .i64 t, Value.int .i64 (m : Int), Value.int .i64 2, Value.int .i64 0, Value.int .i64 0, Value.bool (decide (¬ (f = 0 ∧ l = 0)))]).toArray) (fun w hs => describe2 t f l A m c w) ?_
  refine TL.alloc (Wants.none rfl) rfl rfl zero80 (cs := [Value.int .i64 0, Value.int .i64 0, Value.int .i64 0, Value.int .i64 0, Value.int .i64 0, Value.bool false]) rfl (tot := 6) (by simp) (fun g3 hg3 => ?_)
  refine TL.storeW (Wants.none rfl) rfl rfl size80 rfl (vs := [Value.int .i64 t, Value.int .i64 (m : Int), Value.int .i64 2, Value.int .i64 0, Value.int .i64 0, Value.bool (decide (¬ (f = 0 ∧ l = 0)))]) rfl (by simp []) (by simp [Value.oneCell']) (i := 0) (ent := ⟨g3, 80, [Value.int .i64 0, Value.int .i64 0, Value.int .i64 0, Value.int .i64 0, Value.int .i64 0, Value.bool false], 6⟩) rfl rfl (by simp []) (H' := [⟨g3, 80, [Value.int .i64 t, Value.int .i64 (m : Int), Value.int .i64 2, Value.int .i64 0, Value.int .i64 0, Value.bool (decide (¬ (f = 0 ∧ l = 0)))], 6⟩, ⟨g2, 49, [Value.int .i64 0, Value.int .i64 0], 2⟩, ⟨g1, 40, [Value.int .i64 2, Value.int .i64 t, Value.int .i64 f, Value.int .i64 l, Value.slice A m c], 5⟩]) rfl ?_
  refine TL.nil ?_
  refine TE.then ?_
  refine TC.seq ?_
  refine TC.mixS [⟨g3, 80, [Value.int .i64 t, Value.int .i64 (m : Int), Value.int .i64 2, Value.int .i64 0, Value.int .i64 0, Value.bool (decide (¬ (f = 0 ∧ l = 0)))], 6⟩, ⟨g1, 40, [Value.int .i64 2, Value.int .i64 t, Value.int .i64 f, Value.int .i64 l, Value.slice A m c], 5⟩] [⟨g2, 49, [Value.int .i64 0, Value.int .i64 0], 2⟩] (by kernel_rfl) [0, 1, 0, 1, 0, 4, 0] [0, 1, 2, 3, 4, 5, 6] [fun _ _ => True, fun _ _ => True, fun _ _ => True, fun _ _ => True, fun _ _ => True, fun _ _ => True, fun _ _ => True] (by kernel_rfl) (by kernel_rfl) (perm_pick (p := [0, 2, 1]) (by kernel_rfl) rfl) (Fresh.cons (by assumption) Fresh.nil) ?_
  refine TR.free (Wants.none rfl) rfl (fun _ => Gets.fieldAddr rfl Try.underlying80 rfl size49 rfl (off' := 3) (by first | rfl | omega)) ?_
  refine TR.gets (Wants.none rfl) rfl (fun Z hZ => Gets.loadN rfl agg49 size49 rfl (vs := [Value.int .i64 0, Value.int .i64 0]) rfl (Row.part (i := 0) (ent := ⟨g3, 80, [Value.int .i64 t, Value.int .i64 (m : Int), Value.int .i64 2, Value.int .i64 0, Value.int .i64 0, Value.bool (decide (¬ (f = 0 ∧ l = 0)))], 6⟩) rfl rfl rfl)) ?_
  refine TR.free (Wants.none rfl) rfl (fun _ => Gets.fieldAddr rfl Try.underlying80 rfl size78 rfl (off' := 2) (by first | rfl | omega)) ?_
  refine TR.gets (Wants.none rfl) rfl (fun Z hZ => Gets.load1 rfl agg78 rfl (At.ent (i := 0) (ent := ⟨g3, 80, [Value.int .i64 t, Value.int .i64 (m : Int), Value.int .i64 2, Value.int .i64 0, Value.int .i64 0, Value.bool (decide (¬ (f = 0 ∧ l = 0)))], 6⟩) (off := 2) rfl rfl (by exact rfl))) ?_
  refine TR.free (Wants.none rfl) rfl (fun _ => Gets.isFalse (Gets.eql rfl rfl rfl) (by decide)) ?_
  refine TR.storeW (Wants.none rfl) rfl rfl size49 rfl (vs := [Value.int .i64 0, Value.int .i64 0]) rfl rfl (by simp [Value.oneCell']) (i := 0) (ent := ⟨g2, 49, [Value.int .i64 0, Value.int .i64 0], 2⟩) rfl rfl rfl (D' := [⟨g2, 49, [Value.int .i64 0, Value.int .i64 0], 2⟩]) rfl (Fresh.cons (by assumption) Fresh.nil) ?_
  refine TR.free (Wants.none rfl) rfl (fun _ => Gets.assign rfl rfl) ?_
  refine TR.nil ?_
  refine TE.then ?_
  refine TC.ret ?_
  exact TE.ret2C rfl agg49 size49 rfl rfl (vs := [Value.int .i64 0, Value.int .i64 0]) rfl (Row.all (i := 2) (ent := ⟨g2, 49, [Value.int .i64 0, Value.int .i64 0], 2⟩) rfl rfl rfl) (fun w hs => ⟨rfl, (((hs.drop (by assumption)).drop (by assumption)).drop (by assumption))⟩)

set_option maxRecDepth 100000 in
set_option maxHeartbeats 400000 in
theorem contains1 {w : World} (o l p n : Int) (ho : -9223372036854775808 ≤ o + l ∧ o + l ≤ 9223372036854775807) (hp : -9223372036854775808 ≤ p + n ∧ p + n ≤ 9223372036854775807) (b : Nat) (hb : b < w.heap.size) (hrow : ∀ (j : Nat) (u : Value), [Value.int .i64 p, Value.int .i64 n][j]? = some u → w.cell? ⟨b, 0 + j, none⟩ = some u) : Calls Try.prog 47 #[.agg ([Value.int .i64 o, Value.int .i64 l]).toArray, .slice (some ⟨b, 0, none⟩) 1 1] w fun e w' => e = .returned (.bool (decide (inside_ o l p n))) ∧ St w [] w' := by
  refine calls_from (args := [.agg ([Value.int .i64 o, Value.int .i64 l]).toArray, .slice (some ⟨b, 0, none⟩) 1 1]) Try.func47 rfl Try.ntmps47 (by simp) ?_
  refine TC.sub (Sub.cons (i := 0) rfl (Sub.cons (i := 1) rfl (Sub.nil))) ?_
  refine TC.seq ?_
  refine TC.regionL ?_
  refine TL.box (Wants.none rfl) rfl rfl rfl (cs := [Value.int .i64 o, Value.int .i64 l]) (by simp [Value.cells]) (tot := 2) (by simp []) (fun g1 hg1 => ?_)
  refine TL.gets (Wants.none rfl) rfl (Gets.assign rfl rfl) ?_
  refine TL.nil ?_
  refine TE.then ?_
  refine TC.seq ?_
  refine TC.seq ?_
  refine TC.regionL ?_
  refine TL.gets (Wants.none rfl) rfl (Gets.move rfl rfl) ?_
  refine TL.gets (Wants.none rfl) rfl (Gets.lenSlice rfl Try.underlying89 rfl) ?_
  refine TL.gets (Wants.none rfl) rfl (Gets.move rfl rfl) ?_
  refine TL.nil ?_
  refine TE.then ?_
  refine TC.block ?_
  refine TC.loop (ι := Nat) (fun i => [(2, .pointer (some ⟨g1, 0, none⟩)), (7, .slice (some ⟨b, 0, none⟩) 1 1), (8, .int .i64 1), (9, .int .i64 (i : Int))]) (fun i => [⟨g1, 49, [Value.int .i64 o, Value.int .i64 l], 2⟩]) (fun i => 1 - i) (fun i => i ≤ 1 ∧ (i = 1 → inside_ o l p n)) 0 ⟨by omega, by intro h; cases h⟩ (Sub.cons (i := 2) rfl (Sub.slice (i := 7) rfl rfl (by first | omega | (dsimp only; omega) | rfl) (by first | omega | (dsimp only; omega) | rfl) (Sub.int (i := 8) rfl (by first | omega | rfl) (Sub.int (i := 9) rfl (by first | omega | rfl) (Sub.nil))))) (fun w h => h) (fun i hC0 => ?_)
  obtain ⟨hC0, hC1⟩ := hC0
  refine TC.seq ?_
  refine TC.regionL ?_
  refine TL.gets (Wants.none rfl) rfl (Gets.lss rfl rfl rfl) ?_
  refine TL.nil ?_
  refine TE.then ?_
  refine TC.seq ?_
  refine TC.split rfl (fun hq0 => ?_) (fun hq0 => ?_)
  · obtain rfl : i = 0 := by omega
    refine TC.skip ?_
    refine TE.then ?_
    refine TC.seq ?_
    refine TC.block ?_
    refine TC.seq ?_
    refine TC.regionL ?_
    refine TL.gets (Wants.none rfl) rfl (Gets.idxSlice rfl Try.underlying89 size49 rfl rfl (i := 0) (by rfl) (by omega) (off' := 0) (by omega)) ?_
    refine TL.gets (Wants.none rfl) rfl (Gets.loadN rfl agg49 size49 rfl rfl (Row.old hrow hb (ne_cons (by show g1 ≠ b; omega) ne_nil))) ?_
    refine TL.alloc (Wants.none rfl) rfl rfl zero49 (cs := [Value.int .i64 0, Value.int .i64 0]) rfl (tot := 2) (by simp) (fun g2 hg2 => ?_)
    refine TL.storeW (Wants.none rfl) rfl rfl size49 rfl (vs := [Value.int .i64 p, Value.int .i64 n]) rfl (by simp []) (by simp [Value.oneCell']) (i := 0) (ent := ⟨g2, 49, [Value.int .i64 0, Value.int .i64 0], 2⟩) rfl rfl (by simp []) (H' := [⟨g2, 49, [Value.int .i64 p, Value.int .i64 n], 2⟩, ⟨g1, 49, [Value.int .i64 o, Value.int .i64 l], 2⟩]) rfl ?_
    refine TL.nil ?_
    refine TE.then ?_
    refine TC.seq ?_
    refine TC.mix (by kernel_rfl) [0, 1, 0, 1, 0, 0, 1, 1, 1, 1, 0, 0] rfl (by kernel_rfl) ?_
    refine TM.free (Wants.none rfl) rfl (fun _ => Gets.fieldAddr rfl Try.underlying49 rfl size3 rfl (off' := 0) (by first | rfl | omega)) ?_
    refine TM.gets (Wants.none rfl) rfl (Gets.load1 rfl agg3 rfl (At.ent (i := 0) (ent := ⟨g2, 49, [Value.int .i64 p, Value.int .i64 n], 2⟩) (off := 0) rfl rfl (by exact rfl))) ?_
    refine TM.free (Wants.none rfl) rfl (fun _ => Gets.fieldAddr rfl Try.underlying49 rfl size3 rfl (off' := 0) (by first | rfl | omega)) ?_
    refine TM.gets (Wants.none rfl) rfl (Gets.load1 rfl agg3 rfl (At.ent (i := 1) (ent := ⟨g1, 49, [Value.int .i64 o, Value.int .i64 l], 2⟩) (off := 0) rfl rfl (by exact rfl))) ?_
    by_cases c1 : p < o
    · refine TM.free (Wants.none rfl) rfl (fun _ => Gets.isTrue (Gets.lss rfl rfl rfl) c1) ?_
      refine TM.free (Wants.none rfl) rfl (fun _ => Gets.move rfl rfl) ?_
      refine TM.pass1 rfl rfl rfl rfl rfl ?_
      refine TM.pass1 rfl rfl rfl rfl rfl ?_
      refine TM.pass1 rfl rfl rfl rfl rfl ?_
      refine TM.pass1 rfl rfl rfl rfl rfl ?_
      refine TM.pass rfl rfl rfl rfl rfl ?_
      refine TM.free (Wants.none rfl) rfl (fun _ => Gets.pickT rfl rfl rfl) ?_
      refine TM.nil ?_
      refine TE.then ?_
      refine TC.sub (Sub.cons (i := 2) rfl (Sub.cons (i := 7) rfl (Sub.cons (i := 8) rfl (Sub.cons (i := 9) rfl (Sub.cons (i := 24) rfl (Sub.nil)))))) ?_
      refine TC.yes rfl ?_
      refine TC.seq ?_
      refine TC.regionL ?_
      refine TL.gets (Wants.none rfl) rfl (Gets.assign rfl rfl) ?_
      refine TL.nil ?_
      refine TE.then ?_
      refine TC.ret ?_
      refine TE.blockR ?_
      refine TE.thenR ?_
      refine TE.thenR ?_
      refine TE.blockR ?_
      refine TE.thenR ?_
      exact TE.ret1 rfl rfl (fun w hs => ⟨dec_f (by unfold inside_ at *; omega), ((hs.drop (by assumption)).drop (by assumption))⟩)
    · refine TM.free (Wants.none rfl) rfl (fun _ => Gets.isFalse (Gets.lss rfl rfl rfl) c1) ?_
      refine TM.free (Wants.none rfl) rfl (fun _ => Gets.move rfl rfl) ?_
      refine TM.gets (Wants.yes rfl rfl rfl) rfl (Gets.loadN rfl agg49 size49 rfl (vs := [Value.int .i64 p, Value.int .i64 n]) (by simp []) (Row.all (i := 0) (ent := ⟨g2, 49, [Value.int .i64 p, Value.int .i64 n], 2⟩) rfl rfl rfl)) ?_
      refine TM.call0 (Wants.yes rfl rfl rfl) rfl enters42 rfl rfl (v := .int .i64 (p + n)) (fun w hs => end_c p n (by omega) w) ?_
      refine TM.gets (Wants.yes rfl rfl rfl) rfl (Gets.loadN rfl agg49 size49 rfl (vs := [Value.int .i64 o, Value.int .i64 l]) (by simp []) (Row.all (i := 1) (ent := ⟨g1, 49, [Value.int .i64 o, Value.int .i64 l], 2⟩) rfl rfl rfl)) ?_
      refine TM.call0 (Wants.yes rfl rfl rfl) rfl enters42 rfl rfl (v := .int .i64 (o + l)) (fun w hs => end_c o l (by omega) w) ?_
      by_cases c2 : (o + l) < (p + n)
      · refine TM.free (Wants.yes rfl rfl rfl) rfl (fun _ => Gets.isTrue (Gets.gtr rfl rfl rfl) c2) ?_
        refine TM.free (Wants.none rfl) rfl (fun _ => Gets.pickF rfl rfl rfl) ?_
        refine TM.nil ?_
        refine TE.then ?_
        refine TC.sub (Sub.cons (i := 2) rfl (Sub.cons (i := 7) rfl (Sub.cons (i := 8) rfl (Sub.cons (i := 9) rfl (Sub.cons (i := 24) rfl (Sub.nil)))))) ?_
        refine TC.yes rfl ?_
        refine TC.seq ?_
        refine TC.regionL ?_
        refine TL.gets (Wants.none rfl) rfl (Gets.assign rfl rfl) ?_
        refine TL.nil ?_
        refine TE.then ?_
        refine TC.ret ?_
        refine TE.blockR ?_
        refine TE.thenR ?_
        refine TE.thenR ?_
        refine TE.blockR ?_
        refine TE.thenR ?_
        exact TE.ret1 rfl rfl (fun w hs => ⟨dec_f (by unfold inside_ at *; omega), ((hs.drop (by assumption)).drop (by assumption))⟩)
      · refine TM.free (Wants.yes rfl rfl rfl) rfl (fun _ => Gets.isFalse (Gets.gtr rfl rfl rfl) c2) ?_
        refine TM.free (Wants.none rfl) rfl (fun _ => Gets.pickF rfl rfl rfl) ?_
        refine TM.nil ?_
        refine TE.then ?_
        refine TC.sub (Sub.cons (i := 2) rfl (Sub.cons (i := 7) rfl (Sub.cons (i := 8) rfl (Sub.cons (i := 9) rfl (Sub.cons (i := 24) rfl (Sub.nil)))))) ?_
        refine TC.no rfl ?_
        refine TC.skip ?_
        refine TE.blockN ?_
        refine TE.then ?_
        refine TC.regionL ?_
        refine TL.gets (Wants.none rfl) rfl (Gets.add rfl rfl rfl (r := 1) (w64 (by omega) (by omega))) ?_
        refine TL.gets (Wants.none rfl) rfl (Gets.move rfl rfl) ?_
        refine TL.nil ?_
        exact TE.back 1 (by omega) ⟨Nat.le_refl _, fun _ => by unfold inside_; omega⟩ (Sub.cons (i := 2) rfl (Sub.slice (i := 7) rfl rfl (by first | omega | (dsimp only; omega) | rfl) (by first | omega | (dsimp only; omega) | rfl) (Sub.int (i := 8) rfl (by first | omega | rfl) (Sub.int (i := 9) rfl (by first | omega | rfl) (Sub.nil))))) (fun w h => h.drop (by assumption))
  · have hin := hC1 (by omega)
    refine TC.exit ?_
    refine TE.thenX ?_
    refine TE.thenX ?_
    refine TE.blockX ?_
    refine TE.then ?_
    refine TC.seq ?_
    refine TC.regionL ?_
    refine TL.gets (Wants.none rfl) rfl (Gets.assign rfl rfl) ?_
    refine TL.nil ?_
    refine TE.then ?_
    refine TC.ret ?_
    exact TE.ret1 rfl rfl (fun w hs => ⟨dec_t (by unfold inside_ at *; omega), (hs.drop (by assumption))⟩)


theorem lies_row0 {w : World} {g t tot : Nat} {vs : List Value} (h : Ent.lies ⟨g, t, vs, tot⟩ w) (j : Nat) (u : Value) (hu : vs[j]? = some u) : w.cell? ⟨g, 0 + j, none⟩ = some u := by
  have h2 : (vs ++ [])[j]? = some u := by simpa using hu
  rw [Nat.zero_add]
  exact h.cell hu
end Go.Proofs.Ytkgamkjdkapchaa
