/-
  Steps that need no word: what an operation gets is found by its form.
-/
import Derived.Test.YtdllgfkcakhoeaaStr
import Derived.Test.YtdllgfkcakhoeaaArr
namespace Go.Proofs.Ytdllgfkcakhoeaa
set_option linter.unusedVariables false
set_option linter.unusedSimpArgs false
set_option linter.unusedVariables false
open Go Go.RowKit
class Sli (P : Program) (t : TypeId) (e : outParam TypeId) : Prop where
  h : P.underlying t = some (.slice e)
class Siz (P : Program) (t : TypeId) (s : outParam Nat) : Prop where
  h : (P.info? t).map (·.size) = some s
class AgY (P : Program) (t : TypeId) : Prop where
  h : (isAgg t).run P = fun w => .ok true w
class AgN (P : Program) (t : TypeId) : Prop where
  h : (isAgg t).run P = fun w => .ok false w
class Fld (P : Program) (t : TypeId) (f : Nat) (k : outParam Nat) : Prop where
  h : ∃ fields fl s, P.underlying t = some (.struct fields) ∧ fields[f]? = some fl ∧ (P.info? fl.type).map (·.size) = some (s + 1) ∧ fl.offset = k
class Zer (P : Program) (t : TypeId) (cs : outParam (List Value)) : Prop where
  h : ∃ zv, (P.info? t).bind (·.zero) = some zv ∧ zv.cells.toList = cs
inductive SelI : List Nat → List (Nat × Value) → List (Nat × Value) → Prop
  | nil {L : List (Nat × Value)} : SelI [] L []
  | cons {k : Nat} {ks : List Nat} {L : List (Nat × Value)} {v : Value} {L' : List (Nat × Value)} (h : look L k = some v) (hr : SelI ks L L') : SelI (k :: ks) L ((k, v) :: L')
inductive SetI : List Ent → Nat → Ent → List Ent → Prop
  | zero {a : Ent} {l : List Ent} {e : Ent} : SetI (a :: l) 0 e (e :: l)
  | succ {a : Ent} {l : List Ent} {i : Nat} {e : Ent} {l' : List Ent} (h : SetI l i e l') : SetI (a :: l) (i + 1) e (a :: l')
section
variable {P : Program} {ops : Array Oper} {Q : Exit → Act → World → Prop} {n : Sz} {w0 : World} {L L' : List (Nat × Value)} {H H' : List Ent}
variable {o : Oper} {rest : List Oper} {v u : Value} {x y z : Operand} {k m j : Nat} {t t' e : TypeId} {kd : IntKind} {p q : Int}
theorem Gets.fa0 {f b : Nat} [F : Fld P t f k] (ho : o.op = .fieldAddr t x f) (hx : ev L x = some (.pointer (some ⟨b, 0, none⟩))) : Gets P n w0 o L H (.pointer (some ⟨b, k, none⟩)) := by
  obtain ⟨fields, fl, s, h1, h2, h3, h4⟩ := F.h
  exact Gets.fieldAddr ho h1 h2 h3 hx (by omega)
theorem Gets.fa {f b off : Nat} [F : Fld P t f k] (ho : o.op = .fieldAddr t x f) (hx : ev L x = some (.pointer (some ⟨b, off, none⟩))) : Gets P n w0 o L H (.pointer (some ⟨b, off + k, none⟩)) := by
  obtain ⟨fields, fl, s, h1, h2, h3, h4⟩ := F.h
  exact Gets.fieldAddr ho h1 h2 h3 hx (by omega)
theorem dl66 {a b s : Value} {H1 H2 : List Int} {kd : IntKind} (h1 : H1.length = 32) (h2 : H2.length = 32) : ([a, b] ++ (H1.map (Value.int kd) ++ (H2.map (Value.int kd) ++ [s])))[66]? = some s :=
  app_right (a := 2) (i := 64) rfl (app_right (a := 32) (i := 32) (ints_len h1) (app_right (a := 32) (i := 0) (ints_len h2) rfl))
theorem Gets.loadD {b off s : Nat} {vs : List Value} (ho : o.op = .load t x) (hag : (isAgg t).run P = fun w => .ok true w) (hsz : (P.info? t).map (·.size) = some s) (hx : ev L x = some (.pointer (some ⟨b, off, none⟩))) (hc : Row w0 H b off vs) (hl : vs.length = s) : Gets P n w0 o L H (.agg vs.toArray) := Gets.loadN ho hag hsz hx hl hc
theorem dlLen {a b s : Value} {H1 H2 : List Int} {kd : IntKind} (h1 : H1.length = 32) (h2 : H2.length = 32) : ([a, b] ++ (H1.map (Value.int kd) ++ (H2.map (Value.int kd) ++ [s]))).length = 67 := by simp [h1, h2]
/-- An operation is passed, or it ends with v and leaves the world. -/
def Stp (P : Program) (ops : Array Oper) (n : Sz) (w0 : World) (o : Oper) (L : List (Nat × Value)) (H : List Ent) (v : Value) : Prop :=
  inside n o.dst = true ∧ ((Wants n ops L o ∧ Gets P n w0 o L H v) ∨ (v = undef ∧ ∀ a, Fr n L a → Region.wanted o (yielded ops a.tmps) = false))
theorem Stp.g (hg : Wants n ops L o) (hi : inside n o.dst = true) (h : Gets P n w0 o L H v) : Stp P ops n w0 o L H v := ⟨hi, .inl ⟨hg, h⟩⟩
theorem Stp.ps {d : Nat} {b c : Bool} (h : o.guard = some (j, c)) (hj : (ops[j]?).bind (·.dst) = some d) (hd : look L d = some (.bool b)) (hi : inside n o.dst = true) (hb : b = !c) : Stp P ops n w0 o L H undef :=
  ⟨hi, .inr ⟨rfl, fun a hf => by subst hb; simp [Region.wanted, h, guard_val hf hj hd]⟩⟩
theorem Stp.pu {d : Nat} {c : Bool} (h : o.guard = some (j, c)) (hj : (ops[j]?).bind (·.dst) = some d) (hd : look L d = some undef) (hi : inside n o.dst = true) : Stp P ops n w0 o L H undef :=
  ⟨hi, .inr ⟨rfl, fun a hf => by simp [Region.wanted, h, guard_undef hf hj hd]⟩⟩
theorem TL.stp (h : Stp P ops n w0 o L H v) (hr : TL P ops Q n w0 rest (put L o.dst v) H) : TL P ops Q n w0 (o :: rest) L H := by
  obtain ⟨hi, ⟨hg, hgt⟩ | ⟨rfl, hw⟩⟩ := h
  · exact TL.gets hg hi hgt hr
  · exact fun a w hf hs => wpL_pass (hw a hf) (hr _ _ (hf.put o.dst undef hi) hs)
/-- A value, found by its form. -/
theorem Gets.au (h : Gets P n w0 o L H v := by
    first
    | exact Gets.move rfl rfl
    | exact Gets.assign rfl rfl
    | exact Gets.fa0 rfl rfl
    | exact Gets.load1 rfl AgN.h rfl (by first | exact At.ent (i := 0) rfl rfl rfl | exact At.ent (i := 1) rfl rfl rfl | exact At.ent (i := 2) rfl rfl rfl | exact At.ent (i := 3) rfl rfl rfl | exact At.ent (i := 4) rfl rfl rfl | exact At.ent (i := 5) rfl rfl rfl | exact At.ent (i := 0) rfl rfl (dl66 (by assumption) (by assumption)) | exact At.ent (i := 1) rfl rfl (dl66 (by assumption) (by assumption)) | exact At.ent (i := 2) rfl rfl (dl66 (by assumption) (by assumption)) | exact At.ent (i := 3) rfl rfl (dl66 (by assumption) (by assumption)))
    | exact Gets.loadN rfl AgY.h Siz.h rfl rfl (by first | exact Row.all (i := 0) rfl rfl rfl | exact Row.all (i := 1) rfl rfl rfl | exact Row.all (i := 2) rfl rfl rfl | exact Row.all (i := 3) rfl rfl rfl | exact Row.all (i := 4) rfl rfl rfl | exact Row.all (i := 5) rfl rfl rfl)
    | exact Gets.loadD rfl AgY.h Siz.h rfl (by first | exact Row.all (i := 0) rfl rfl rfl | exact Row.all (i := 1) rfl rfl rfl | exact Row.all (i := 2) rfl rfl rfl | exact Row.all (i := 3) rfl rfl rfl) (dlLen (by assumption) (by assumption))
    | exact Gets.pickT rfl rfl rfl
    | exact Gets.pickF rfl rfl rfl
    | exact Gets.notP rfl rfl
    | exact Gets.not rfl rfl
    | exact Gets.lss rfl rfl rfl
    | exact Gets.eql rfl rfl rfl
    | exact Gets.neq rfl rfl rfl
    | exact Gets.leq rfl rfl rfl
    | exact Gets.gtr rfl rfl rfl
    | exact Gets.geq rfl rfl rfl
    | exact Gets.lenSlice rfl Sli.h rfl
    | exact Gets.extract rfl rfl rfl) : Gets P n w0 o L H v := h
theorem Wants.au (h : Wants n ops L o := by first | exact Wants.none rfl | exact Wants.yes rfl rfl rfl) : Wants n ops L o := h
theorem SelI.sub {ks : List Nat} (h : SelI ks L L') : Sub L' L := by
  induction h with
  | nil => exact Sub.nil
  | cons h _ ih => exact Sub.cons h ih
theorem TC.pr {c : Code} (ks : List Nat) (hr : TC P Q n w0 c L' H) (h : SelI ks L L' := by repeat (first | exact SelI.nil | exact rfl | apply SelI.cons)) : TC P Q n w0 c L H := TC.sub h.sub hr
theorem SetI.eq {e : Ent} {i : Nat} (h : SetI H i e H') : H.set i e = H' := by
  induction h with
  | zero => rfl
  | succ _ ih => rw [List.set_cons_succ, ih]
theorem ones_all {vs : List Value} (h : vs.all (·.oneCell') = true) : ∀ u ∈ vs, u.oneCell' = true := fun u hu => List.all_eq_true.1 h u hu
/-- A whole block of known cells is written anew. -/
theorem TL.bxA {cs : List Value} {tot : Nat} (hr : ∀ g, w0.heap.size ≤ g → TL P ops Q n w0 rest (put L o.dst (.pointer (some ⟨g, 0, none⟩))) (⟨g, t, cs, tot⟩ :: H)) (hg : Wants n ops L o := by exact Wants.none rfl) (hi : inside n o.dst = true := by rfl) (ho : o.op = .box t x := by rfl) (hx : ev L x = some (.agg cs.toArray) := by rfl)
    (htot : cs.length = tot := by rfl) : TL P ops Q n w0 (o :: rest) L H := TL.box hg hi ho hx (by simp [Value.cells]) htot hr
theorem TL.bx1 (hr : ∀ g, w0.heap.size ≤ g → TL P ops Q n w0 rest (put L o.dst (.pointer (some ⟨g, 0, none⟩))) (⟨g, t, [v], 1⟩ :: H)) (hg : Wants n ops L o := by exact Wants.none rfl) (hi : inside n o.dst = true := by rfl) (ho : o.op = .box t x := by rfl) (hx : ev L x = some v := by rfl)
    (hv : v.cells = #[v] := by rfl) : TL P ops Q n w0 (o :: rest) L H := TL.box hg hi ho hx (by rw [hv]) rfl hr
theorem TL.al {cs : List Value} {tot : Nat} [Z : Zer P t cs] (hr : ∀ g, w0.heap.size ≤ g → TL P ops Q n w0 rest (put L o.dst (.pointer (some ⟨g, 0, none⟩))) (⟨g, t, cs, tot⟩ :: H)) (hg : Wants n ops L o := by exact Wants.none rfl) (hi : inside n o.dst = true := by rfl) (ho : o.op = .alloc t := by rfl)
    (htot : cs.length = tot := by rfl) : TL P ops Q n w0 (o :: rest) L H := by
  obtain ⟨zv, h1, h2⟩ := Z.h
  exact TL.alloc hg hi ho h1 h2 htot hr
theorem TL.sW {g s : Nat} {ent : Ent} {vs : List Value} (i : Nat) [hsz : Siz P t s] (ho : o.op = .store t x y) (hd : o.dst = none) (hx : ev L x = some (.pointer (some ⟨g, 0, none⟩))) (hi : H[i]? = some ent) (he : ent.g = g) (hy : ev L y = some (.agg vs.toArray)) (hl : vs.length = s) (h1 : vs.all (·.oneCell') = true) (hoff : ent.cs.length = s)
    (hH : SetI H i ⟨ent.g, ent.t, vs, ent.tot⟩ H') (hg : Wants n ops L o) (hr : TL P ops Q n w0 rest L H') : TL P ops Q n w0 (o :: rest) L H := TL.storeW hg hd ho hsz.h hx hy hl (ones_all h1) hi he hoff hH.eq hr
theorem TE.thenm {m : Md} {y : Code} {Q' : Exit → Act → World → Prop} (hm : n.md = m) (h : TC P Q n w0 y L H) : TE (Exit.then (wpn m P y Q) Q') .normal n w0 L H := by subst hm; exact TE.then h
/-- One step, found by its form. -/
theorem gx {A B : Prop} (b : B) (h : B → A := by
    first
    | with_reducible exact TL.nil
    | with_reducible exact TC.regionL
    | with_reducible exact TC.seq
    | with_reducible exact TC.block
    | with_reducible exact TC.skip
    | with_reducible exact TC.ret
    | with_reducible exact TC.exit
    | with_reducible exact TE.thenm (by with_unfolding_all exact rfl)
    | with_reducible exact TE.thenR
    | with_reducible exact TE.thenX
    | with_reducible exact TE.blockN
    | with_reducible exact TE.blockR
    | with_reducible exact TE.blockX
    | exact TL.gets Wants.au rfl Gets.au
    | exact TL.stp (Stp.ps rfl rfl rfl rfl rfl)
    | exact TL.stp (Stp.pu rfl rfl rfl rfl)
    | exact TL.sW 0 rfl rfl rfl rfl rfl rfl rfl rfl rfl (by repeat (first | exact SetI.zero | apply SetI.succ)) Wants.au
    | exact TL.sW 1 rfl rfl rfl rfl rfl rfl rfl rfl rfl (by repeat (first | exact SetI.zero | apply SetI.succ)) Wants.au
    | exact TL.sW 2 rfl rfl rfl rfl rfl rfl rfl rfl rfl (by repeat (first | exact SetI.zero | apply SetI.succ)) Wants.au
    | exact TL.sW 3 rfl rfl rfl rfl rfl rfl rfl rfl rfl (by repeat (first | exact SetI.zero | apply SetI.succ)) Wants.au
    | exact TL.sW 4 rfl rfl rfl rfl rfl rfl rfl rfl rfl (by repeat (first | exact SetI.zero | apply SetI.succ)) Wants.au
    | exact TL.sW 5 rfl rfl rfl rfl rfl rfl rfl rfl rfl (by repeat (first | exact SetI.zero | apply SetI.succ)) Wants.au
    | exact TM.nil
    | exact TR.nil
    | exact TM.free Wants.au rfl (fun _ => Gets.au)
    | exact TM.gets Wants.au rfl Gets.au
    | exact TR.free Wants.au rfl (fun _ => Gets.au)
    | exact TR.gets Wants.au rfl (fun _ _ => Gets.au)) : A := h b
/-- All blocks that a call has made are forgotten. -/
inductive Own_ (w0 : World) : List Ent → Prop
  | nil : Own_ w0 []
  | cons {e : Ent} {H : List Ent} (h : w0.heap.size ≤ e.g) (hr : Own_ w0 H) : Own_ w0 (e :: H)
theorem St.dp {w : World} (hs : St w0 H w) (h : Own_ w0 H := by repeat (first | exact Own_.nil | assumption | apply Own_.cons)) : St w0 [] w := by
  induction h with
  | nil => exact hs
  | cons h _ ih => exact ih (hs.drop h)
end
end Go.Proofs.Ytdllgfkcakhoeaa
