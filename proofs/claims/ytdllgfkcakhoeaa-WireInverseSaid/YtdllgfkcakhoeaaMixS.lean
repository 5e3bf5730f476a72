/-
  A region that draws its order, the general law: operations that read nothing that is made (0) or that read what is made (1), operations that make blocks, of whatever has been made (3) or of what has been made (6), variables that are made (5) and written (4), which no other operation reads.
-/
import Derived.Test.YtdllgfkcakhoeaaMixQ
namespace Go.Proofs.Ytdllgfkcakhoeaa
set_option linter.unusedVariables false
set_option linter.unusedSimpArgs false
set_option linter.unusedVariables false
open Go Go.RowKit
section
variable {P : Program} {ops : Array Oper} {md : Region.Mode} {w0 : World} {HB : List Ent}
def compatS (i j : Nat) : Bool :=
  match j with
  | 0 => Nat.beq i 0 || Nat.beq i 1 || Nat.beq i 4
  | 1 => Nat.beq i 0 || Nat.beq i 1 || Nat.beq i 4
  | 3 => Nat.beq i 0 || Nat.beq i 1 || Nat.beq i 4 || Nat.beq i 3 || Nat.beq i 5 || Nat.beq i 6
  | 4 => Nat.beq i 0 || Nat.beq i 1
  | 5 => Nat.beq i 0 || Nat.beq i 1 || Nat.beq i 3 || Nat.beq i 5 || Nat.beq i 6
  | 6 => Nat.beq i 0 || Nat.beq i 1 || Nat.beq i 4 || Nat.beq i 5
  | _ => false
/-- i may stand before j. -/
def pairOKS (md : Region.Mode) (ops : Array Oper) (ks ms : List Nat) (i j : Nat) : Bool :=
  !Nat.beq i j &&
  ((ms.getD j 0).testBit i || (match ops[i]? with
    | some oi => (match ops[j]? with | some oj => oi.apart ops oj && compatS (ks.getD i 2) (ks.getD j 2) | none => true)
    | none => true)) &&
  (match ops[i]? with | some oi => oi.after.all (fun e => !Region.binds md e || !Nat.beq e.on j) | none => true)
def mixOKs (md : Region.Mode) (ops : Array Oper) (ks p : List Nat) : Bool :=
  Region.noSelect ops && Nat.beq p.length ops.size && ((List.range ops.size).all fun q => p.any (Nat.beq q)) &&
  (let ms := masks md ops
   p.all (fun i => decide (i < ops.size) && (match ops[i]? with | some oi => oi.after.all (fun e => !Region.binds md e || (!Nat.beq e.on i && decide (e.on < ops.size))) | none => true)) &&
   pairsOK (pairOKS md ops ks ms) p)
def PairS (md : Region.Mode) (ops : Array Oper) (ks : List Nat) (i j : Nat) : Prop :=
  i ≠ j ∧ (∀ oi oj, ops[i]? = some oi → ops[j]? = some oj → Before md ops j i ∨ (oi.apart ops oj = true ∧ compatS (ks.getD i 2) (ks.getD j 2) = true)) ∧
  ∀ oi, ops[i]? = some oi → ∀ e ∈ oi.after, Region.binds md e = true → e.on ≠ j
theorem pairOKS_spec {ks : List Nat} {i j : Nat} (h : pairOKS md ops ks (masks md ops) i j = true) : PairS md ops ks i j := by
  unfold pairOKS at h
  simp only [Bool.and_eq_true, Bool.or_eq_true, Bool.not_eq_true'] at h
  obtain ⟨⟨h1, h2⟩, h3⟩ := h
  refine ⟨nbeq_ne h1, fun oi oj hi hj => ?_, fun oi hi e he hb => ?_⟩
  · rcases h2 with h2 | h2
    · exact .inl (masks_spec h2)
    · rw [hi, hj] at h2
      simp only [Bool.and_eq_true] at h2
      exact .inr h2
  · rw [hi] at h3
    simp only [Array.all_eq_true_iff_forall_mem, Bool.or_eq_true, Bool.not_eq_true'] at h3
    exact nbeq_ne ((h3 e he).resolve_left (by simp [hb]))
theorem mixOKs_spec {ks p : List Nat} (h : mixOKs md ops ks p = true) : Region.noSelect ops = true ∧ p.length = ops.size ∧ (∀ q, q < ops.size → q ∈ p) ∧
    (∀ i ∈ p, i < ops.size ∧ ∀ oi, ops[i]? = some oi → ∀ e ∈ oi.after, Region.binds md e = true → e.on ≠ i ∧ e.on < ops.size) ∧ p.Pairwise (PairS md ops ks) := by
  unfold mixOKs at h
  simp only [Bool.and_eq_true, List.all_eq_true, decide_eq_true_eq] at h
  obtain ⟨⟨⟨h1, h2⟩, h7⟩, h3, h4⟩ := h
  refine ⟨h1, Nat.eq_of_beq_eq_true h2, fun q hq => ?_, fun i hi => ⟨(h3 i hi).1, fun oi hoi e he hb => ?_⟩, (pairsOK_spec h4).imp pairOKS_spec⟩
  · obtain ⟨r, hr, hqr⟩ := List.any_eq_true.1 (h7 q (List.mem_range.2 hq))
    rw [Nat.eq_of_beq_eq_true hqr]; exact hr
  have h5 := (h3 i hi).2
  rw [hoi] at h5
  simp only [Array.all_eq_true_iff_forall_mem, Bool.or_eq_true, Bool.and_eq_true, Bool.not_eq_true', decide_eq_true_eq] at h5
  have h6 := (h5 e he).resolve_left (by simp [hb])
  exact ⟨nbeq_ne h6.1, h6.2⟩

theorem Fresh.app {X Y : List Ent} (hx : Fresh w0 X) (hy : Fresh w0 Y) : Fresh w0 (X ++ Y) := fun d hd => (List.mem_append.1 hd).elim (hx d) (hy d)
theorem Val.moreL {k : Nat} {X E : List Ent} {o : Oper} {v : Value} {a : Act} (h : Val P ops w0 HB k X o v a) (he : Fresh w0 E) : Val P ops w0 HB k (X ++ E) o v a := fun Z hZ => by
  by_cases hk : k = 0
  · have := h Z hZ
    rw [if_pos hk] at this ⊢; exact this
  · have := h (E ++ Z) (he.app hZ)
    rw [if_neg hk] at this ⊢
    rw [List.append_assoc]
    exact this
/-- The operation makes blocks. -/
def MakesL (P : Program) (ops : Array Oper) (o : Oper) (a : Act) (R : Value → List Ent → Prop) (w : World) : Prop :=
  ((∃ v E w', (execOp a.eval o).run P w = .ok (.value v) w' ∧ R v E ∧ Fresh w E ∧ St w E w') ∨
    (∃ f vs, (execOp a.eval o).run P w = .ok (.enter f vs) w ∧ Calls P f vs w fun e w'' => ∃ v E, e = .returned v ∧ R v E ∧ Fresh w E ∧ St w E w'')) ∧ Region.wanted o (yielded ops a.tmps) = true
theorem MakesL.of_same {o : Oper} {a a' : Act} {w : World} {R : Value → List Ent → Prop} (h : MakesL P ops o a R w) (he : execOp a'.eval o = execOp a.eval o)
    (hw : Region.wanted o (yielded ops a'.tmps) = Region.wanted o (yielded ops a.tmps)) : MakesL P ops o a' R w := by
  unfold MakesL at *; rw [he, hw]; exact h
theorem MakesL.one {o : Oper} {a : Act} {w : World} {R : Value → List Ent → Prop} (h : MakesL P ops o a R w) : ∃ v E w', R v E ∧ Fresh w E ∧ St w E w' := by
  rcases h.1 with ⟨v, E, w', _, h1, h2, h3⟩ | ⟨f, vs, _, hc⟩
  · exact ⟨v, E, w', h1, h2, h3⟩
  · obtain ⟨e, w', fr, ⟨v, E, _, h1, h2, h3⟩, _⟩ := hc []
    exact ⟨v, E, w', h1, h2, h3⟩
/-- The operation writes among the blocks D. -/
def WritesD (P : Program) (ops : Array Oper) (w0 : World) (HB D D' : List Ent) (o : Oper) (a : Act) : Prop :=
  (∀ Z w, Fresh w0 Z → St w0 (HB ++ (Z ++ D)) w → ∃ w', (execOp a.eval o).run P w = .ok .skip w' ∧ St w0 (HB ++ (Z ++ D')) w') ∧ Region.wanted o (yielded ops a.tmps) = true ∧ Fresh w0 D'
theorem WritesD.of_same {D D' : List Ent} {o : Oper} {a a' : Act} (h : WritesD P ops w0 HB D D' o a) (he : execOp a'.eval o = execOp a.eval o)
    (hw : Region.wanted o (yielded ops a'.tmps) = Region.wanted o (yielded ops a.tmps)) : WritesD P ops w0 HB D D' o a' := by
  unfold WritesD at *; rw [he, hw]; exact h
theorem WritesD.perm {D D2 D' : List Ent} {o : Oper} {a : Act} (h : WritesD P ops w0 HB D D' o a) (hp : D.Perm D2) : WritesD P ops w0 HB D2 D' o a :=
  ⟨fun Z w hZ hw => h.1 Z w hZ (hw.perm (List.Perm.append_left HB (List.Perm.append_left Z hp.symm))), h.2⟩
def zOf (k : Nat) (X Z : List Ent) : List Ent := if k = 6 then X ++ Z else Z
def addX (k : Nat) (X E : List Ent) : List Ent := if k = 5 then X else X ++ E
def addD (k : Nat) (D E : List Ent) : List Ent := if k = 5 then D ++ E else D
def isM (k : Nat) : Prop := k = 3 ∨ k = 5 ∨ k = 6
def MixS (P : Program) (ops : Array Oper) (w0 : World) (HB : List Ent) (K : Nat → Nat) (RR : Nat → Value → List Ent → Prop) (T : Act → World → Prop) : List Nat → Act → List Ent → List Ent → Prop
  | [], a, X, D => ∀ w, St w0 (HB ++ (X ++ D)) w → T a w
  | i :: is, a, X, D => ∃ o, ops[i]? = some o ∧ (
      (K i < 2 ∧ ∃ v, Val P ops w0 HB (K i) X o v a ∧ MixS P ops w0 HB K RR T is (a.put o.dst v) X D) ∨
      (isM (K i) ∧ (∀ Z w, Fresh w0 Z → St w0 (HB ++ zOf (K i) X Z) w → MakesL P ops o a (RR i) w) ∧ ∀ v E, Fresh w0 E → RR i v E → MixS P ops w0 HB K RR T is (a.put o.dst v) (addX (K i) X E) (addD (K i) D E)) ∨
      (K i = 4 ∧ o.dst = none ∧ ∃ D', WritesD P ops w0 HB D D' o a ∧ MixS P ops w0 HB K RR T is a X D'))
theorem zOf_perm {k : Nat} {X X' Z : List Ent} (hp : X.Perm X') : (zOf k X Z).Perm (zOf k X' Z) := by
  unfold zOf
  split
  · exact List.Perm.append_right Z hp
  · exact List.Perm.refl _
theorem addX_perm {k : Nat} {X X' E : List Ent} (hp : X.Perm X') : (addX k X E).Perm (addX k X' E) := by
  unfold addX
  split
  · exact hp
  · exact List.Perm.append_right E hp
theorem addD_perm {k : Nat} {X X' E : List Ent} (hp : X.Perm X') : (addD k X E).Perm (addD k X' E) := by
  unfold addD
  split
  · exact List.Perm.append_right E hp
  · exact hp
theorem addX_comm {k q : Nat} {X E F : List Ent} : (addX k (addX q X E) F).Perm (addX q (addX k X F) E) := by
  unfold addX
  split <;> split
  · exact List.Perm.refl _
  · exact List.Perm.refl _
  · exact List.Perm.refl _
  · rw [List.append_assoc, List.append_assoc]
    exact List.Perm.append_left X List.perm_append_comm
theorem addD_comm {k q : Nat} {X E F : List Ent} : (addD k (addD q X E) F).Perm (addD q (addD k X F) E) := by
  unfold addD
  split <;> split
  · rw [List.append_assoc, List.append_assoc]
    exact List.Perm.append_left X List.perm_append_comm
  · exact List.Perm.refl _
  · exact List.Perm.refl _
  · exact List.Perm.refl _
theorem Fresh.addX {k : Nat} {X E : List Ent} (hx : Fresh w0 X) (he : Fresh w0 E) : Fresh w0 (Proofs.Ytdllgfkcakhoeaa.addX k X E) := by
  unfold Proofs.Ytdllgfkcakhoeaa.addX
  split
  · exact hx
  · exact hx.app he
theorem Fresh.addD {k : Nat} {X E : List Ent} (hx : Fresh w0 X) (he : Fresh w0 E) : Fresh w0 (Proofs.Ytdllgfkcakhoeaa.addD k X E) := by
  unfold Proofs.Ytdllgfkcakhoeaa.addD
  split
  · exact hx.app he
  · exact hx
theorem Val.addX {k q : Nat} {X E : List Ent} {o : Oper} {v : Value} {a : Act} (h : Val P ops w0 HB k X o v a) (he : Fresh w0 E) : Val P ops w0 HB k (Proofs.Ytdllgfkcakhoeaa.addX q X E) o v a := by
  unfold Proofs.Ytdllgfkcakhoeaa.addX
  split
  · exact h
  · exact h.moreL he
theorem MixS.perm {K : Nat → Nat} {RR : Nat → Value → List Ent → Prop} {T : Act → World → Prop} : ∀ (is : List Nat) (a : Act) (X X' D D2 : List Ent), X.Perm X' → D.Perm D2 → MixS P ops w0 HB K RR T is a X D → MixS P ops w0 HB K RR T is a X' D2
  | [], a, X, X', D, D2, hp, hd, h => fun w hs => h w (hs.perm (List.Perm.append_left HB (hp.append hd).symm))
  | i :: is, a, X, X', D, D2, hp, hd, h => by
    obtain ⟨o, ho, h⟩ := h
    refine ⟨o, ho, ?_⟩
    rcases h with ⟨h1, v, h2, h3⟩ | ⟨h1, h2, h3⟩ | ⟨h1, hn, D', h2, h3⟩
    · exact .inl ⟨h1, v, h2.perm hp, MixS.perm is _ X X' _ _ hp hd h3⟩
    · exact .inr (.inl ⟨h1, fun Z w hZ hw => h2 Z w hZ (hw.perm (List.Perm.append_left HB (zOf_perm hp.symm))), fun v E hE hR => MixS.perm is _ _ _ _ _ (addX_perm hp) (addD_perm hd) (h3 v E hE hR)⟩)
    · exact .inr (.inr ⟨h1, hn, D', h2.perm hd, MixS.perm is _ _ _ _ _ hp (List.Perm.refl _) h3⟩)
theorem compatS_01 {i j : Nat} (h : compatS i j = true) (hj : j < 2) : i < 2 ∨ i = 4 := by
  unfold compatS at h
  match j, hj with
  | 0, _ => simp at h; omega
  | 1, _ => simp at h; omega
theorem compatS_4 {i : Nat} (h : compatS i 4 = true) : i < 2 := by
  simp [compatS] at h; omega
theorem compatS_M {i j : Nat} (hj : isM j) (h : compatS i j = true) : i < 2 ∨ (isM i ∧ (j = 6 → i = 5)) ∨ (i = 4 ∧ j ≠ 5) := by
  unfold isM at *
  rcases hj with rfl | rfl | rfl <;> (simp [compatS] at h; omega)
theorem MixS.first01 {K : Nat → Nat} {RR : Nat → Value → List Ent → Prop} {T : Act → World → Prop} (hsel : ∀ (j : Nat) (o : Oper) cs b, ops[j]? = some o → o.op ≠ .select cs b) {j : Nat} {oj : Oper} (hj : ops[j]? = some oj) (hk : K j < 2) (post : List Nat) :
    ∀ (pre : List Nat) (a : Act) (X D : List Ent), (∀ i oi, i ∈ pre → ops[i]? = some oi → oi.apart ops oj = true ∧ compatS (K i) (K j) = true) → MixS P ops w0 HB K RR T (pre ++ j :: post) a X D →
      ∃ v, Val P ops w0 HB (K j) X oj v a ∧ MixS P ops w0 HB K RR T (pre ++ post) (a.put oj.dst v) X D
  | [], a, X, D, _, h => by
    obtain ⟨o, ho, h⟩ := h
    rw [hj] at ho; cases ho
    rcases h with ⟨_, v, h2, h3⟩ | ⟨h1, _⟩ | ⟨h1, _⟩
    · exact ⟨v, h2, h3⟩
    · unfold isM at h1; omega
    · omega
  | i :: pre, a, X, D, hap, h => by
    obtain ⟨oi, hi, h⟩ := h
    obtain ⟨hap1, hcomp⟩ := hap i oi List.mem_cons_self hi
    obtain ⟨h1, h2, h3⟩ := Oper.apart_spec hap1
    have hap' := fun k ok hk => hap k ok (List.mem_cons_of_mem _ hk)
    have hc := compatS_01 hcomp hk
    rcases h with ⟨hki, vi, hf, hs⟩ | ⟨hki, _⟩ | ⟨hki, hn, Di, hw, hs⟩
    · obtain ⟨vj, hfj, hsj⟩ := MixS.first01 hsel hj hk post pre (a.put oi.dst vi) X D hap' hs
      exact ⟨vj, hfj.of_same (execOp_put oj (fun cs b => hsel j oj cs b hj) a oi.dst vi h1).symm (wanted_put oj a oi.dst vi h1).symm, oi, hi,
        .inl ⟨hki, vi, hf.of_same (execOp_put oi (fun cs b => hsel i oi cs b hi) a oj.dst vj h3) (wanted_put oi a oj.dst vj h3), by rw [← Act.put_comm a vi vj h2]; exact hsj⟩⟩
    · unfold isM at hki; omega
    · obtain ⟨vj, hfj, hsj⟩ := MixS.first01 hsel hj hk post pre a X Di hap' hs
      exact ⟨vj, hfj, oi, hi, .inr (.inr ⟨hki, hn, Di, hw.of_same (execOp_put oi (fun cs b => hsel i oi cs b hi) a oj.dst vj h3) (wanted_put oi a oj.dst vj h3), hsj⟩)⟩
theorem MixS.first4 {K : Nat → Nat} {RR : Nat → Value → List Ent → Prop} {T : Act → World → Prop} (hsel : ∀ (j : Nat) (o : Oper) cs b, ops[j]? = some o → o.op ≠ .select cs b) {j : Nat} {oj : Oper} (hj : ops[j]? = some oj) (hk : K j = 4) (post : List Nat) :
    ∀ (pre : List Nat) (a : Act) (X D : List Ent), (∀ i oi, i ∈ pre → ops[i]? = some oi → oi.apart ops oj = true ∧ compatS (K i) (K j) = true) → MixS P ops w0 HB K RR T (pre ++ j :: post) a X D →
      oj.dst = none ∧ ∃ D', WritesD P ops w0 HB D D' oj a ∧ MixS P ops w0 HB K RR T (pre ++ post) a X D'
  | [], a, X, D, _, h => by
    obtain ⟨o, ho, h⟩ := h
    rw [hj] at ho; cases ho
    rcases h with ⟨h1, _⟩ | ⟨h1, _⟩ | ⟨_, h2, h3⟩
    · omega
    · unfold isM at h1; omega
    · exact ⟨h2, h3⟩
  | i :: pre, a, X, D, hap, h => by
    obtain ⟨oi, hi, h⟩ := h
    obtain ⟨hap1, hcomp⟩ := hap i oi List.mem_cons_self hi
    obtain ⟨h1, h2, h3⟩ := Oper.apart_spec hap1
    have hap' := fun k ok hk => hap k ok (List.mem_cons_of_mem _ hk)
    rw [hk] at hcomp
    have hc := compatS_4 hcomp
    rcases h with ⟨hki, vi, hf, hs⟩ | ⟨hki, _⟩ | ⟨hki, _⟩
    · obtain ⟨hn, Dj, hwj, hsj⟩ := MixS.first4 hsel hj hk post pre (a.put oi.dst vi) X D hap' hs
      exact ⟨hn, Dj, hwj.of_same (execOp_put oj (fun cs b => hsel j oj cs b hj) a oi.dst vi h1).symm (wanted_put oj a oi.dst vi h1).symm, oi, hi, .inl ⟨hki, vi, hf, hsj⟩⟩
    · unfold isM at hki; omega
    · omega
theorem MixS.firstM {K : Nat → Nat} {RR : Nat → Value → List Ent → Prop} {T : Act → World → Prop} (hsel : ∀ (j : Nat) (o : Oper) cs b, ops[j]? = some o → o.op ≠ .select cs b) {j : Nat} {oj : Oper} (hj : ops[j]? = some oj) (hk : isM (K j)) (post : List Nat) :
    ∀ (pre : List Nat) (a : Act) (X D : List Ent), (∀ i oi, i ∈ pre → ops[i]? = some oi → oi.apart ops oj = true ∧ compatS (K i) (K j) = true) → MixS P ops w0 HB K RR T (pre ++ j :: post) a X D →
      ((∃ Z w, Fresh w0 (X ++ Z) ∧ St w0 (HB ++ (X ++ Z)) w) → ∀ Z w, Fresh w0 Z → St w0 (HB ++ zOf (K j) X Z) w → MakesL P ops oj a (RR j) w) ∧
        ∀ v E, Fresh w0 E → RR j v E → MixS P ops w0 HB K RR T (pre ++ post) (a.put oj.dst v) (addX (K j) X E) (addD (K j) D E)
  | [], a, X, D, _, h => by
    obtain ⟨o, ho, h⟩ := h
    rw [hj] at ho; cases ho
    rcases h with ⟨h1, _⟩ | ⟨_, h2, h3⟩ | ⟨h1, _⟩
    · unfold isM at hk; omega
    · exact ⟨fun _ => h2, h3⟩
    · unfold isM at hk; omega
  | i :: pre, a, X, D, hap, h => by
    obtain ⟨oi, hi, h⟩ := h
    obtain ⟨hap1, hcomp⟩ := hap i oi List.mem_cons_self hi
    obtain ⟨h1, h2, h3⟩ := Oper.apart_spec hap1
    have hap' := fun k ok hk => hap k ok (List.mem_cons_of_mem _ hk)
    have hc := compatS_M hk hcomp
    have ej := fun v => (execOp_put oj (fun cs b => hsel j oj cs b hj) a oi.dst v h1).symm
    have wj := fun v => (wanted_put oj a oi.dst v h1).symm
    have ei := fun v => execOp_put oi (fun cs b => hsel i oi cs b hi) a oj.dst v h3
    have wi := fun v => wanted_put oi a oj.dst v h3
    rcases h with ⟨hki, vi, hf, hs⟩ | ⟨hki, hm, hs⟩ | ⟨hki, hn, Di, hw, hs⟩
    · obtain ⟨hmj, hsj⟩ := MixS.firstM hsel hj hk post pre (a.put oi.dst vi) X D hap' hs
      refine ⟨fun hex Z w hZ hst => (hmj hex Z w hZ hst).of_same (ej vi) (wj vi), fun v E hE hR => ⟨oi, hi, .inl ⟨hki, vi, ?_, ?_⟩⟩⟩
      · exact (hf.of_same (ei v) (wi v)).addX hE
      · rw [← Act.put_comm a vi v h2]; exact hsj v E hE hR
    · have rec_ := fun v E (hE : Fresh w0 E) (hR : RR i v E) => MixS.firstM hsel hj hk post pre (a.put oi.dst v) (addX (K i) X E) (addD (K i) D E) hap' (hs v E hE hR)
      have hc2 : K j = 6 → K i = 5 := by
        unfold isM at *; omega
      refine ⟨fun hex Z w hZ hst => ?_, fun v E hE hR => ⟨oi, hi, .inr (.inl ⟨hki, fun Z w hZ hst => ?_, fun vi Ei hEi hRi => ?_⟩)⟩⟩
      · obtain ⟨Z1, w1, hZ1, hs1⟩ := hex
        have hone : ∃ v E w', RR i v E ∧ Fresh w1 E ∧ St w1 E w' := by
          by_cases h6 : K i = 6
          · refine (hm Z1 w1 (fun e he => hZ1 e (List.mem_append.2 (.inr he))) ?_).one
            unfold zOf; rw [if_pos h6]; exact hs1
          · refine (hm (X ++ Z1) w1 hZ1 ?_).one
            unfold zOf; rw [if_neg h6]; exact hs1
        obtain ⟨vi, Ei, w', hRi, hEi, hst'⟩ := hone
        have hEi0 : Fresh w0 Ei := fun e he => Nat.le_trans hs1.size (hEi e he)
        have hall := st_call hs1 hst' hEi
        have hex' : ∃ Z w, Fresh w0 (addX (K i) X Ei ++ Z) ∧ St w0 (HB ++ (addX (K i) X Ei ++ Z)) w := by
          unfold addX
          split
          · exact ⟨Z1 ++ Ei, w', by rw [← List.append_assoc]; exact hZ1.app hEi0, by rw [← List.append_assoc X, ← List.append_assoc HB]; exact hall⟩
          · refine ⟨Z1, w', fun e he => ?_, hall.perm ?_⟩
            · simp only [List.append_assoc, List.mem_append] at he
              rcases he with he | he | he
              · exact hZ1 e (List.mem_append.2 (.inl he))
              · exact hEi0 e he
              · exact hZ1 e (List.mem_append.2 (.inr he))
            · simp only [List.append_assoc]
              exact List.Perm.append_left HB (List.Perm.append_left X List.perm_append_comm)
        refine ((rec_ vi Ei hEi0 hRi).1 hex' Z w hZ ?_).of_same (ej vi) (wj vi)
        have hz : zOf (K j) (addX (K i) X Ei) Z = zOf (K j) X Z := by
          unfold zOf addX
          by_cases h6 : K j = 6
          · rw [if_pos h6, if_pos h6, if_pos (hc2 h6)]
          · rw [if_neg h6, if_neg h6]
        rw [hz]; exact hst
      · by_cases h6 : K i = 6
        · unfold zOf at hst; rw [if_pos h6] at hst
          have hE2 : ∃ E2, Fresh w0 E2 ∧ addX (K j) X E ++ Z = X ++ E2 := by
            unfold addX
            split
            · exact ⟨Z, hZ, rfl⟩
            · exact ⟨E ++ Z, hE.app hZ, List.append_assoc ..⟩
          obtain ⟨E2, hE2, heq⟩ := hE2
          refine (hm E2 w hE2 ?_).of_same (ei v) (wi v)
          unfold zOf; rw [if_pos h6, ← heq]; exact hst
        · unfold zOf at hst; rw [if_neg h6] at hst
          refine (hm Z w hZ ?_).of_same (ei v) (wi v)
          unfold zOf; rw [if_neg h6]; exact hst
      · have := (rec_ vi Ei hEi hRi).2 v E hE hR
        rw [Act.put_comm a vi v h2] at this
        exact MixS.perm _ _ _ _ _ _ addX_comm addD_comm this
    · obtain ⟨hmj, hsj⟩ := MixS.firstM hsel hj hk post pre a X Di hap' hs
      have h5 : K j ≠ 5 := by
        unfold isM at *; omega
      refine ⟨hmj, fun v E hE hR => ⟨oi, hi, .inr (.inr ⟨hki, hn, Di, ?_, ?_⟩)⟩⟩
      · have := hw.of_same (ei v) (wi v)
        unfold addD; rw [if_neg h5]; exact this
      · have := hsj v E hE hR
        unfold addD at this; rw [if_neg h5] at this; exact this
theorem wpAny_of_mixS {Q : Exit → Act → World → Prop} {RR : Nat → Value → List Ent → Prop} {ks p : List Nat} (hks : ∀ i ∈ p, ks.getD i 2 < 2 ∨ isM (ks.getD i 2) ∨ ks.getD i 2 = 4) (hns : Region.noSelect ops = true) (hself : ∀ i ∈ p, i < ops.size ∧ ∀ oi, ops[i]? = some oi → ∀ e ∈ oi.after, Region.binds md e = true → e.on ≠ i ∧ e.on < ops.size) :
    ∀ (n : Nat) (is : List Nat) (listed : Array Bool) (a : Act) (w : World) (X D : List Ent), is.length = n → is.Pairwise (PairS md ops ks) → (∀ i ∈ is, i ∈ p) → Lists ops.size md ops is listed → MixS P ops w0 HB (ks.getD · 2) RR (Q .normal) is a X D → Fresh w0 X → Fresh w0 D → St w0 (HB ++ (X ++ D)) w →
      wpAny P md ops Q n listed a w := by
  have hsel := Region.noSelect_spec hns
  intro n
  induction n with
  | zero =>
    intro is listed a w X D hlen _ _ hl hs hX hD hS
    obtain rfl : is = [] := List.length_eq_zero_iff.1 hlen
    refine wpAny_done ?_ (hs w hS) 0
    rw [List.eq_nil_iff_forall_not_mem]
    intro j hj
    obtain ⟨hjun, oj, hoj, _⟩ := mem_ready.1 hj
    have hjs : j < ops.size := (Array.getElem?_eq_some_iff.1 hoj).1
    have := (hl.2.1 j hjs).1 hjun
    simp at this
    omega
  | succ n ih =>
    intro is listed a w X D hlen hpw hlt hl hs hX hD hS
    have hnd : is.Nodup := hpw.imp (fun h => h.1)
    refine ⟨fun hnone => ?_, fun j hj => ?_⟩
    · exfalso
      obtain ⟨i, is', rfl⟩ : ∃ i is', is = i :: is' := by
        cases is with
        | nil => simp at hlen
        | cons i is' => exact ⟨i, is', rfl⟩
      obtain ⟨him, hafter⟩ := hself i (hlt i List.mem_cons_self)
      have hi : ops[i]? = some ops[i] := Array.getElem?_eq_getElem him
      have hmem : i ∈ Region.ready md ops listed := by
        rw [mem_ready]
        refine ⟨(hl.2.1 i him).2 (.inl List.mem_cons_self), _, hi, fun e he hb => ?_⟩
        obtain ⟨hne, hon⟩ := hafter _ hi e he hb
        rw [getD_false_of (by rw [hl.1]; exact hon), hl.2.1 e.on hon]
        rintro (h | h)
        · rcases List.mem_cons.1 h with h | h
          · exact hne h
          · exact ((List.pairwise_cons.1 hpw).1 _ h).2.2 _ hi e he hb rfl
        · omega
      rw [hnone] at hmem
      cases hmem
    · obtain ⟨hjun, oj, hoj, hall⟩ := mem_ready.1 hj
      have hjs : j < ops.size := (Array.getElem?_eq_some_iff.1 hoj).1
      have hnw : ∀ i ∈ is, ¬ Before md ops j i := fun i hi hw => by
        have h1 := hw listed hl.2.2 (fun o ho' e he hb => by rw [hoj] at ho'; cases ho'; exact hall e he hb)
        have him := (hself i (hlt i hi)).1
        exact (getD_false_of (by rw [hl.1]; omega)).1 h1 ((hl.2.1 i him).2 (.inl hi))
      have hjin : j ∈ is := by
        rcases (hl.2.1 j hjs).1 hjun with h | h
        · exact h
        · omega
      obtain ⟨pre, post, rfl⟩ := List.append_of_mem hjin
      have hap : ∀ i oi, i ∈ pre → ops[i]? = some oi → oi.apart ops oj = true ∧ compatS (ks.getD i 2) (ks.getD j 2) = true := fun i oi hi hoi => by
        have hij := (List.pairwise_append.1 hpw).2.2 i hi j List.mem_cons_self
        rcases hij.2.1 oi oj hoi hoj with hw | hap
        · exact absurd hw (hnw i (by simp [hi]))
        · exact hap
      have hsub : (pre ++ post).Sublist (pre ++ j :: post) := List.Sublist.append_left (List.sublist_cons_self _ _) _
      have next := fun a' w' X' D' => ih (pre ++ post) (listed.setIfInBounds j true) a' w' X' D' (by simp at hlen ⊢; omega) (hpw.sublist hsub) (fun i hi => hlt i (hsub.subset hi)) (hl.next rfl hnd hjs (Nat.le_refl _) hj)
      rcases hks j (hlt j hjin) with hk | hk | hk
      · obtain ⟨vj, hf, hs'⟩ := MixS.first01 (K := (ks.getD · 2)) hsel hoj hk post pre a X D hap hs
        have hfix : Fixed P ops (St w0 (HB ++ (X ++ D))) oj vj a := by
          by_cases hk0 : ks.getD j 2 = 0
          · have := hf (X ++ D) (hX.app hD)
            rw [if_pos hk0] at this; exact this
          · have := hf D hD
            rw [if_neg hk0] at this; exact this
        exact hfix.wpOp hoj hS fun w' hS' => next _ w' X D hs' hX hD hS'
      · obtain ⟨hf, hs'⟩ := MixS.firstM (K := (ks.getD · 2)) hsel hoj hk post pre a X D hap hs
        have hmk : MakesL P ops oj a (RR j) w := by
          by_cases h6 : ks.getD j 2 = 6
          · refine hf ⟨D, w, hX.app hD, hS⟩ D w hD ?_
            unfold zOf; rw [if_pos h6]; exact hS
          · refine hf ⟨D, w, hX.app hD, hS⟩ (X ++ D) w (hX.app hD) ?_
            unfold zOf; rw [if_neg h6]; exact hS
        obtain ⟨hr, hw⟩ := hmk
        unfold Go.wpOp
        simp only [hoj, hw, if_true, Oper.wp]
        refine .inl ?_
        have go : ∀ v E w', RR j v E → Fresh w E → St w E w' → wpAny P md ops Q n (listed.setIfInBounds j true) (a.put oj.dst v) w' := fun v E w' hR hE hw' => by
          have hE0 : Fresh w0 E := fun e he => Nat.le_trans hS.size (hE e he)
          refine next _ w' _ _ (hs' v E hE0 hR) (hX.addX hE0) (hD.addD hE0) ((st_call hS hw' hE).perm ?_)
          unfold addX addD
          split
          · simp only [List.append_assoc]; exact List.Perm.refl _
          · simp only [List.append_assoc]
            exact List.Perm.append_left HB (List.Perm.append_left X List.perm_append_comm)
        rcases hr with ⟨v, E, w', hr, hR, hE, hw'⟩ | ⟨f, vs, hr, hc⟩
        · rw [hr]; exact go v E w' hR hE hw'
        · rw [hr]
          refine hc.mono ?_
          rintro e w'' ⟨v, E, rfl, hR, hE, hw'⟩
          exact go v E w'' hR hE hw'
      · obtain ⟨hn, D', ⟨hf, hw, hD'⟩, hs'⟩ := MixS.first4 (K := (ks.getD · 2)) hsel hoj hk post pre a X D hap hs
        obtain ⟨w', hr, hS'⟩ := hf X w hX hS
        unfold Go.wpOp
        simp only [hoj, hw, if_true, Oper.wp]
        refine .inl ?_
        rw [hr]
        have := next a w' X D' hs' hX hD' hS'
        simpa [Oper.upon_skip, hn, Act.put] using this
def pickRL (rs : List (Value → List Ent → Prop)) : List Nat → List (Value → List Ent → Prop)
  | [] => []
  | i :: is => rs.getD i (fun _ _ => False) :: pickRL rs is
def MixMS (P : Program) (ops : Array Oper) (w0 : World) (HB : List Ent) (T : Act → World → Prop) : List Nat → List (Value → List Ent → Prop) → List Oper → Act → List Ent → List Ent → Prop
  | [], [], [], a, X, D => ∀ w, St w0 (HB ++ (X ++ D)) w → T a w
  | k :: ks, r :: rs, o :: rest, a, X, D => (k < 2 ∧ ∃ v, Val P ops w0 HB k X o v a ∧ MixMS P ops w0 HB T ks rs rest (a.put o.dst v) X D) ∨
      (isM k ∧ (∀ Z w, Fresh w0 Z → St w0 (HB ++ zOf k X Z) w → MakesL P ops o a r w) ∧ ∀ v E, Fresh w0 E → r v E → MixMS P ops w0 HB T ks rs rest (a.put o.dst v) (addX k X E) (addD k D E)) ∨
      (k = 4 ∧ o.dst = none ∧ ∃ D', WritesD P ops w0 HB D D' o a ∧ MixMS P ops w0 HB T ks rs rest a X D')
  | _, _, _, _, _, _ => False
theorem MixMS.seqp {T : Act → World → Prop} {l : List Oper} {ks : List Nat} {rs : List (Value → List Ent → Prop)} : ∀ (p : List Nat) (a : Act) (X D : List Ent), (∀ i ∈ p, i < l.length) → MixMS P l.toArray w0 HB T (pickK ks p) (pickRL rs p) (pickO l p) a X D →
    MixS P l.toArray w0 HB (ks.getD · 2) (rs.getD · (fun _ _ => False)) T p a X D
  | [], _, _, _, _, h => h
  | i :: is, a, X, D, hp, h => by
    have hlt := hp i List.mem_cons_self
    have hi : l[i]? = some l[i] := List.getElem?_eq_getElem hlt
    unfold pickO pickK pickRL at h
    rw [hi] at h
    have rec_ : ∀ a X D, MixMS P l.toArray w0 HB T (pickK ks is) (pickRL rs is) (pickO l is) a X D → MixS P l.toArray w0 HB (ks.getD · 2) (rs.getD · (fun _ _ => False)) T is a X D := fun a X D h => MixMS.seqp is a X D (fun j hj => hp j (List.mem_cons_of_mem _ hj)) h
    refine ⟨l[i], by rw [List.getElem?_toArray]; exact hi, ?_⟩
    rcases h with ⟨h1, v, h2, h3⟩ | ⟨h1, h2, h3⟩ | ⟨h1, hn, D', h2, h3⟩
    · exact .inl ⟨h1, v, h2, rec_ _ _ _ h3⟩
    · exact .inr (.inl ⟨h1, h2, fun v E hE hR => rec_ _ _ _ (h3 v E hE hR)⟩)
    · exact .inr (.inr ⟨h1, hn, D', h2, rec_ _ _ _ h3⟩)
def kindsOK (ks p : List Nat) : Bool := p.all fun i => Nat.blt (ks.getD i 2) 2 || (Nat.beq (ks.getD i 2) 3 || (Nat.beq (ks.getD i 2) 5 || Nat.beq (ks.getD i 2) 6)) || Nat.beq (ks.getD i 2) 4
theorem kindsOK_spec {ks p : List Nat} (h : kindsOK ks p = true) : ∀ i ∈ p, ks.getD i 2 < 2 ∨ isM (ks.getD i 2) ∨ ks.getD i 2 = 4 := fun i hi => by
  unfold kindsOK at h
  have := List.all_eq_true.1 h i hi
  simp only [Bool.or_eq_true, Nat.blt_eq] at this
  unfold isM
  rcases this with (h1 | h1 | h1 | h1) | h1
  · exact .inl h1
  · exact .inr (.inl (.inl (Nat.eq_of_beq_eq_true h1)))
  · exact .inr (.inl (.inr (.inl (Nat.eq_of_beq_eq_true h1))))
  · exact .inr (.inl (.inr (.inr (Nat.eq_of_beq_eq_true h1))))
  · exact .inr (.inr (Nat.eq_of_beq_eq_true h1))
theorem wp_mixS {md0 : Md} {Q : Exit → Act → World → Prop} {id : Nat} {l : List Oper} {a : Act} {w : World} {D : List Ent} (hmix : P.follows .mixedOrders = true) (ks p : List Nat) (rs : List (Value → List Ent → Prop)) (hks : kindsOK ks p = true) (ho : mixOKs .any l.toArray ks p = true)
    (hD : Fresh w0 D) (hS : St w0 (HB ++ D) w.drew) (h : MixMS P l.toArray w0 HB (Q .normal) (pickK ks p) (pickRL rs p) (pickO l p) a [] D) (hok : OkR md0 l.toArray Q) : wpn md0 P (Code.region id l.toArray true) Q a w := by
  refine wpnFrom_start hok hmix ?_
  intro listed hl
  have hsz : l.toArray.size = l.length := by simp
  obtain ⟨hns, hlen, hall, hself, hpw⟩ := mixOKs_spec ho
  have := wpAny_of_mixS (P := P) (Q := Q) (ks := ks) (kindsOK_spec hks) hns hself l.length p listed a w.drew [] D (hlen.trans hsz) hpw (fun i hi => hi)
    ⟨hl.1, fun q hq => by
      rw [hl.2.1 q hq]
      have := hall q hq
      simp [this], hl.2.2⟩ (MixMS.seqp p a [] D (fun i hi => by rw [← hsz]; exact (hself i hi).1) h) Fresh.nil hD (by rw [List.nil_append]; exact hS)
  rw [hsz, Nat.sub_zero]
  exact this
end
section
variable {P : Program} {ops : Array Oper} {Q : Exit → Act → World → Prop} {n : Sz} {w0 : World} {L L' : List (Nat × Value)} {HB X D : List Ent}
variable {o : Oper} {rest : List Oper} {v u : Value} {x y z : Operand} {k m j : Nat} {t t' e : TypeId} {ks : List Nat} {kd : IntKind} {r : Value → List Ent → Prop} {rs : List (Value → List Ent → Prop)}
def TR (P : Program) (ops : Array Oper) (Q : Exit → Act → World → Prop) (n : Sz) (w0 : World) (HB : List Ent) (ks : List Nat) (rs : List (Value → List Ent → Prop)) (rest : List Oper) (L : List (Nat × Value)) (X D : List Ent) : Prop :=
  ∀ a, Fr n L a → MixMS P ops w0 HB (Q .normal) ks rs rest a X D
theorem TC.mixS {id : Nat} {l : List Oper} {H : List Ent} (HB D : List Ent) (hmix : P.follows .mixedOrders = true) (ks p : List Nat) (rs : List (Value → List Ent → Prop)) (hks : kindsOK ks p = true) (ho : mixOKs .any l.toArray ks p = true) (hp : H.Perm (HB ++ D)) (hD : Fresh w0 D)
    (h : TR P l.toArray Q n w0 HB (pickK ks p) (pickRL rs p) (pickO l p) L [] D) (hok : OkR n.md l.toArray Q := by exact trivial) : TC P Q n w0 (.region id l.toArray true) L H :=
  fun a w hf hs => wp_mixS hmix ks p rs hks ho hD (hs.perm hp).drew (h a hf) hok
theorem TR.nil (h : TE Q .normal n w0 L (HB ++ (X ++ D))) : TR P ops Q n w0 HB [] [] [] L X D := fun a hf w hs => h a w hf hs
theorem TR.free (hg : Wants n ops L o) (hi : inside n o.dst = true) (h : ∀ w0, Gets P n w0 o L [] v) (hr : TR P ops Q n w0 HB ks rs rest (put L o.dst v) X D) : TR P ops Q n w0 HB (0 :: ks) (r :: rs) (o :: rest) L X D :=
  fun a hf => .inl ⟨by decide, v, fun Z _ => .inl ⟨hg a hf, fun w hS => by rw [h w a w hf (St.refl w)]; exact ⟨rfl, hS⟩⟩, hr _ (hf.put o.dst v hi)⟩
theorem TR.pass {j d : Nat} {b c : Bool} (h : o.guard = some (j, c)) (hj : (ops[j]?).bind (·.dst) = some d) (hd : look L d = some (.bool b)) (hi : inside n o.dst = true) (hb : b = !c) (hr : TR P ops Q n w0 HB ks rs rest (put L o.dst undef) X D) : TR P ops Q n w0 HB (0 :: ks) (r :: rs) (o :: rest) L X D :=
  fun a hf => .inl ⟨by decide, undef, fun Z _ => .inr ⟨by subst hb; simp [Region.wanted, h, guard_val hf hj hd], rfl⟩, hr _ (hf.put o.dst undef hi)⟩
theorem TR.gets (hg : Wants n ops L o) (hi : inside n o.dst = true) (h : ∀ Z, Fresh w0 Z → Gets P n w0 o L (HB ++ (X ++ Z)) v) (hr : TR P ops Q n w0 HB ks rs rest (put L o.dst v) X D) : TR P ops Q n w0 HB (1 :: ks) (r :: rs) (o :: rest) L X D :=
  fun a hf => .inl ⟨by decide, v, fun Z hZ => .inl ⟨hg a hf, fun w hS => by rw [if_neg (by decide)] at hS ⊢; rw [h Z hZ a w hf hS]; exact ⟨rfl, hS⟩⟩, hr _ (hf.put o.dst v hi)⟩
/-- A call that ends with one value and leaves all known blocks. -/
theorem TR.call0 {f : FuncId} {xs : List Operand} {ts : Array TypeId} {vs : List Value} (hg : Wants n ops L o) (hi : inside n o.dst = true) (h : Enters P f)
    (ho : o.op = .call { callee := .value (.func f), args := xs.toArray, argTypes := ts }) (hx : evs L xs = some vs)
    (hc : ∀ Z w, Fresh w0 Z → St w0 (HB ++ (X ++ Z)) w → Calls P f vs.toArray w fun e w' => e = .returned v ∧ St w [] w')
    (hr : TR P ops Q n w0 HB ks rs rest (put L o.dst v) X D) : TR P ops Q n w0 HB (1 :: ks) (r :: rs) (o :: rest) L X D :=
  fun a hf => .inl ⟨by decide, v, fun Z hZ => .inl ⟨hg a hf, fun w hS => by
    rw [if_neg (by decide)] at hS
    rw [run_enter h ho hf hx]
    exact (hc Z w hZ hS).mono fun e w' ⟨he, hw⟩ => ⟨he, by rw [if_neg (by decide)]; exact hS.call' hw⟩⟩, hr _ (hf.put o.dst v hi)⟩
/-- A call that makes blocks. -/
theorem TR.call {ι : Type} {f : FuncId} {xs : List Operand} {ts : Array TypeId} {vs : List Value} {V : ι → Value} {R : ι → Prop} {E : ι → List Ent} (hk : isM k) (hg : Wants n ops L o) (hi : inside n o.dst = true) (h : Enters P f)
    (ho : o.op = .call { callee := .value (.func f), args := xs.toArray, argTypes := ts }) (hx : evs L xs = some vs)
    (hc : ∀ Z w, Fresh w0 Z → St w0 (HB ++ zOf k X Z) w → Calls P f vs.toArray w fun e w' => ∃ i, e = .returned (V i) ∧ R i ∧ Fresh w (E i) ∧ St w (E i) w')
    (hr : ∀ i, R i → Fresh w0 (E i) → TR P ops Q n w0 HB ks rs rest (put L o.dst (V i)) (addX k X (E i)) (addD k D (E i))) : TR P ops Q n w0 HB (k :: ks) ((fun v e => ∃ i, R i ∧ v = V i ∧ e = E i) :: rs) (o :: rest) L X D :=
  fun a hf => .inr (.inl ⟨hk, fun Z w hZ hs => ⟨.inr ⟨f, vs.toArray, run_enter h ho hf hx, (hc Z w hZ hs).mono fun e w' ⟨i, he, hR, hE, hs'⟩ => ⟨V i, E i, he, ⟨i, hR, rfl, rfl⟩, hE, hs'⟩⟩, hg a hf⟩,
    fun v e hE ⟨i, hR, h1, h2⟩ => by subst h1; subst h2; exact hr i hR hE _ (hf.put o.dst _ hi)⟩)
theorem fresh_one {w : World} {e : Ent} (h : w.heap.size ≤ e.g) : Fresh w [e] := fun d hd => by rw [List.mem_singleton.1 hd]; exact h
theorem fresh_head {w : World} {e : Ent} {E : List Ent} (h : Fresh w (e :: E)) : w.heap.size ≤ e.g := h e (by simp)
/-- A slice of known values, made anew. -/
theorem TR.buildSlice {len s : Nat} {ps : List (Nat × Operand)} {vs : List (Nat × Value)} {cells : Array Value} {cs : List Value} {zv : Value} (hg : Wants n ops L o) (hi : inside n o.dst = true) (ho : o.op = .buildSlice t len ps.toArray)
    (h1 : P.underlying t = some (.slice e)) (hsz : (P.info? e).map (·.size) = some s) (hz : (P.info? e).bind (·.zero) = some zv) (hv : operVals L ps = some vs) (hlen : len * s ≤ 2 ^ 24) (hpos : (len * s = 0) = False)
    {tot : Nat} (hfill : Instr.fill (fun i => some (i * s, s)) ((Array.range (len * s)).map (zv.cells[· % zv.cells.size]!)) vs = some cells) (hcs : cells.toList = cs) (htot : cs.length = tot)
    (hr : ∀ g, w0.heap.size ≤ g → TR P ops Q n w0 HB ks rs rest (put L o.dst (.slice (some ⟨g, 0, none⟩) len len)) (X ++ [⟨g, e, cs, tot⟩]) D) :
    TR P ops Q n w0 HB (3 :: ks) ((fun v d => ∃ g, v = .slice (some ⟨g, 0, none⟩) len len ∧ d = [⟨g, e, cs, tot⟩]) :: rs) (o :: rest) L X D :=
  fun a hf => .inr (.inl ⟨.inl rfl, fun Z w hZ hs => by
    have hrun : (execOp a.eval o).run P w = .ok (.value (.slice (some ⟨w.heap.size, 0, none⟩) len len)) (w.alloc (.cells cells e)) := by
      have hm := operVals_eval hf hv
      have hm2 : (ps.map fun (x : Nat × Operand) => match x with | (i, x) => (i, a.eval x)) = vs := hm
      simp only [execOp, ho]
      refine run_value ?_
      simp only [Instr.buildSlice, Sem.run_bind, run_under h1, Result.andThen_ok, run_size hsz, List.map_toArray, hm2]
      rw [if_neg (by omega), if_neg (by simp [hpos])]
      simp only [Sem.run_bind, run_zero hz, Result.andThen_ok, Sem.run_pure, hfill]
      simp [newRow, newObj, Sem.run_bind, Sem.run]
    subst htot
    exact ⟨.inl ⟨_, _, _, hrun, ⟨_, rfl, rfl⟩, fresh_one (Nat.le_refl _), (St.refl w).alloc e cs cells hcs⟩, hg a hf⟩,
    fun v d hE ⟨g, h2, h3⟩ => by subst h2; subst h3; exact hr g (fresh_head hE) _ (hf.put o.dst _ hi)⟩)
theorem TR.emptySlice {s : Nat} (hg : Wants n ops L o) (hi : inside n o.dst = true) (ho : o.op = .buildSlice t 0 #[]) (h1 : P.underlying t = some (.slice e)) (hsz : (P.info? e).map (·.size) = some s)
    (hr : ∀ g, w0.heap.size ≤ g → TR P ops Q n w0 HB ks rs rest (put L o.dst (.slice (some ⟨g, 0, none⟩) 0 0)) (X ++ [⟨g, e, [], 0⟩]) D) :
    TR P ops Q n w0 HB (3 :: ks) ((fun v d => ∃ g, v = .slice (some ⟨g, 0, none⟩) 0 0 ∧ d = [⟨g, e, [], 0⟩]) :: rs) (o :: rest) L X D :=
  fun a hf => .inr (.inl ⟨.inl rfl, fun Z w hZ hs => by
    have hrun : (execOp a.eval o).run P w = .ok (.value (.slice (some ⟨w.heap.size, 0, none⟩) 0 0)) (w.alloc (.cells #[] e)) := by
      simp only [execOp, ho]
      refine run_value ?_
      have hr0 : Array.range 0 = #[] := rfl
      simp [Instr.buildSlice, Sem.run_bind, run_under h1, run_size hsz, Instr.fill, newRow, newObj, Sem.run, hr0]
    exact ⟨.inl ⟨_, _, _, hrun, ⟨_, rfl, rfl⟩, fresh_one (Nat.le_refl _), (St.refl w).alloc e [] #[] rfl⟩, hg a hf⟩,
    fun v d hE ⟨g, h2, h3⟩ => by subst h2; subst h3; exact hr g (fresh_head hE) _ (hf.put o.dst _ hi)⟩)
/-- A variable, made anew, that is written in the region. -/
theorem TR.alloc {cs : List Value} {zv : Value} (hg : Wants n ops L o) (hi : inside n o.dst = true) (ho : o.op = .alloc t) (hz : (P.info? t).bind (·.zero) = some zv) (hcs : zv.cells.toList = cs) {tot : Nat} (htot : cs.length = tot)
    (hr : ∀ g, w0.heap.size ≤ g → TR P ops Q n w0 HB ks rs rest (put L o.dst (.pointer (some ⟨g, 0, none⟩))) X (D ++ [⟨g, t, cs, tot⟩])) :
    TR P ops Q n w0 HB (5 :: ks) ((fun v d => ∃ g, v = .pointer (some ⟨g, 0, none⟩) ∧ d = [⟨g, t, cs, tot⟩]) :: rs) (o :: rest) L X D :=
  fun a hf => .inr (.inl ⟨.inr (.inl rfl), fun Z w hZ hs => by
    have hrun : (execOp a.eval o).run P w = .ok (.value (.pointer (some ⟨w.heap.size, 0, none⟩))) (w.alloc (.cells zv.cells t)) := by
      simp only [execOp, ho]
      refine run_value ?_
      simp only [Instr.alloc, Sem.run_bind, run_zero hz, Result.andThen_ok]
      simp [newVar, newRow, newObj, Sem.run_bind, Sem.run]
    subst htot
    exact ⟨.inl ⟨_, _, _, hrun, ⟨_, rfl, rfl⟩, fresh_one (Nat.le_refl _), (St.refl w).alloc t cs zv.cells hcs⟩, hg a hf⟩,
    fun v d hE ⟨g, h2, h3⟩ => by subst h2; subst h3; exact hr g (fresh_head hE) _ (hf.put o.dst _ hi)⟩)
theorem fresh_set {w : World} {D : List Ent} {i : Nat} {d e : Ent} (h : Fresh w D) (hd : D[i]? = some d) (hg : e.g = d.g) : Fresh w (D.set i e) := fun c hc => by
  rcases set_mem hc with rfl | ⟨j, _, hj⟩
  · rw [hg]; exact h d (List.mem_of_getElem? hd)
  · exact h c (List.mem_of_getElem? hj)
/-- A variable of the region's own is written whole. -/
theorem TR.storeW {i g s : Nat} {ent : Ent} {vs : List Value} (hg : Wants n ops L o) (hd : o.dst = none) (ho : o.op = .store t x y) (hsz : (P.info? t).map (·.size) = some s)
    (hx : ev L x = some (.pointer (some ⟨g, 0, none⟩))) (hy : ev L y = some (.agg vs.toArray)) (hl : vs.length = s) (h1 : ∀ u ∈ vs, u.oneCell' = true) (hi : D[i]? = some ent) (he : ent.g = g) (hoff : ent.cs.length = s)
    {D' : List Ent} (hH : D.set i ⟨ent.g, ent.t, vs, ent.tot⟩ = D') (hF : Fresh w0 D) (hr : TR P ops Q n w0 HB ks rs rest L X D') : TR P ops Q n w0 HB (4 :: ks) (r :: rs) (o :: rest) L X D :=
  fun a hf => .inr (.inr ⟨rfl, hd, D', ⟨fun Z w hZ hs => by
    subst hH
    have hlt : i < D.length := (List.getElem?_eq_some_iff.1 hi).1
    have hi2 : (HB ++ (Z ++ D))[HB.length + (Z.length + i)]? = some ent := by
      rw [List.getElem?_append_right (by omega), List.getElem?_append_right (by omega), ← hi]
      congr 1; omega
    obtain ⟨w', hrun, hs'⟩ := run_storeCells (P := P) (i := HB.length + (Z.length + i)) (g := g) (ent := ent) (off := 0) vs 0 (HB ++ (Z ++ D)) ent w he hs hi2 h1 (by omega)
    refine ⟨w', ?_, ?_⟩
    · simp only [execOp, ho, hf.eval hx, hf.eval hy]
      refine run_unit ?_
      simp only [Instr.storeAt, Instr.sureAddr, storeVar, Sem.run_bind, Sem.run_pure, Result.andThen_ok, run_size hsz]
      rw [if_neg (fun h => h (by simpa [Value.cells] using hl))]
      simpa [Value.cells] using hrun
    · have h2 : ent.cs.drop (0 + 0 + vs.length) = [] := List.drop_of_length_le (by omega)
      rw [h2] at hs'
      simp only [Nat.add_zero, List.take_zero, List.nil_append, List.append_nil] at hs'
      rwa [List.set_append_right _ _ (by omega), List.set_append_right _ _ (by omega), show HB.length + (Z.length + i) - HB.length - Z.length = i by omega] at hs', hg a hf, by subst hH; exact fresh_set hF hi rfl⟩, hr a hf⟩)
theorem range_pick {α : Type} : ∀ l : List α, (List.range l.length).filterMap (l[·]?) = l
  | [] => rfl
  | c :: l => by
    rw [List.length_cons, List.range_succ_eq_map, List.filterMap_cons]
    simp only [List.getElem?_cons_zero, List.filterMap_map]
    have h := range_pick l
    refine congrArg (c :: ·) ?_
    refine Eq.trans ?_ h
    congr 1
theorem perm_pick {α : Type} {l : List α} {p : List Nat} {l' : List α} (h : p.isPerm (List.range l.length) = true) (hl : p.filterMap (l[·]?) = l') : l.Perm l' := by
  subst hl
  have h1 := List.isPerm_iff.1 h
  have h2 := h1.filterMap (l[·]?)
  refine List.Perm.trans ?_ h2.symm
  rw [range_pick]
end
end Go.Proofs.Ytdllgfkcakhoeaa
